import PyProof.Rows.All
import Wide.All
import OpenK.AllK
import Wide.FinOn
import HandS.Base
import HandS.Call
import HandS.List
import HandS.Comp
import HandS.Ends
import HandS.Dict
import HandS.Iter
import HandS.Text
import HandS.Exc
import HandS.TryOnly
import HandS.ExcOwn
import HandS.Wide
import HandS.Style
import HandS.TupAny
import HandS.TupMul
import HandS.TupLe
import HandS.IsInst
import HandS.SortInts
import HandS.Deep
import HandS.Zip
import HandS.ForMost
import HandS.ForExc
import HandS.Gcd
import HandS.Small
import HandS.Defaults
import HandS.HeadEnd
import HandS.HeadHook1
import HandS.HeadHook2
import HandS.Head0
import HandS.Head1
import HandS.Head2
import HandS.WordsDict
import HandS.More
import PySem.Challenge.RW_wetfolds_k16_whole_rows_that_double_othe
set_option Elab.async false
set_option linter.all false
set_option maxRecDepth 100000
section P_PX1
set_option maxHeartbeats 4000000
namespace PX
open PySem PySem.Spec PyProof.Rows L2

/-! ### values, cells, stores -/
inductive D where
  | py (d : PyData)
  | loc (n : Nat)
  | raw (v : V)
inductive Cell where
  | lst (l : List PyData)
  | dI (l : List (Key × PyData))
  | dT (l : List (List Key × PyData))
abbrev Store := List Cell
abbrev Ev := List (Option D)
/-- an error: its class's name, its field -/
structure Ex where
  cls : Str
  pay : Option (Str × Int)
inductive R (α : Type) where
  | ok (a : α) (S : Store)
  | exc (x : Ex) (S : Store)
  | no
abbrev M (α : Type) := Ev → Store → R α

/-! ### the relation to the heap -/
def Sm (H H' : Hp) : Prop := ∀ b o, H b = some o → H' b = some o
theorem Sm.refl (H : Hp) : Sm H H := fun _ _ h => h
theorem Sm.trans {H H1 H2 : Hp} (a : Sm H H1) (b : Sm H1 H2) : Sm H H2 := fun c o h => b c o (a c o h)
/-- the heap without what may change -/
def fz (ρ : List Addr) (H : Hp) : Hp := fun a => if a ∈ ρ then none else H a
theorem fz_in {ρ : List Addr} {H : Hp} {a : Addr} (h : a ∈ ρ) : fz ρ H a = none := if_pos h
theorem fz_out {ρ : List Addr} {H : Hp} {a : Addr} (h : a ∉ ρ) : fz ρ H a = H a := if_neg h
theorem fz_some {ρ : List Addr} {H : Hp} {a : Addr} {o : HO} (h : fz ρ H a = some o) : a ∉ ρ ∧ H a = some o := by
  unfold fz at h
  split at h
  · cases h
  · exact ⟨by assumption, h⟩
theorem fz_sub (ρ : List Addr) (H : Hp) : Sm (fz ρ H) H := fun _ _ h => (fz_some h).2
theorem rd_mono {H H' : Hp} {a : Addr} {u : HO} (e : Sm H H') (h : Rd H a u) : Rd H' a u := by
  rcases h with h | ⟨o, h⟩
  · exact .inl (e _ _ h)
  · exact .inr ⟨o, e _ _ h⟩
theorem sqt_mono {K : PySem.W.Frag} {H H' : Hp} {a : Addr} {xs : List V} (e : Sm H H') (h : SqT K H a xs) : SqT K H' a xs := by
  rcases h with h | h
  · exact .inl (rd_mono e h)
  · exact .inr h
theorem sql_mono {K : PySem.W.Frag} {H H' : Hp} {a : Addr} {xs : List V} (e : Sm H H') (h : SqL K H a xs) : SqL K H' a xs := by
  rcases h with h | h
  · exact .inl (rd_mono e h)
  · exact .inr h
mutual
theorem dp_mono {K : PySem.W.Frag} {H H' : Hp} (e : Sm H H') : ∀ {v : V} {d : PyData}, Dp K H v d → Dp K H' v d
  | _, _, .non => .non
  | _, _, .bl b => .bl b
  | _, _, .int i => .int i
  | _, _, .str x => .str x
  | _, _, .lst h a => .lst (sql_mono e h) (dpa_mono e a)
  | _, _, .tup h a => .tup (sqt_mono e h) (dpa_mono e a)
theorem dpa_mono {K : PySem.W.Frag} {H H' : Hp} (e : Sm H H') : ∀ {vs : List V} {ds : List PyData}, DpAll K H vs ds → DpAll K H' vs ds
  | _, _, .nil => .nil
  | _, _, .cons a b => .cons (dp_mono e a) (dpa_mono e b)
end
section
variable {K : PySem.W.Frag} {H : Hp}
theorem dpa_length : ∀ {vs : List V} {ds : List PyData}, DpAll K H vs ds → vs.length = ds.length
  | _, _, .nil => rfl
  | _, _, .cons _ b => by rw [List.length_cons, List.length_cons, dpa_length b]
theorem dpa_get : ∀ {vs : List V} {ds : List PyData} {i : Nat} {d : PyData}, DpAll K H vs ds → ds[i]? = some d → ∃ v, vs[i]? = some v ∧ Dp K H v d
  | _, _, _, _, .nil, h => by simp at h
  | _, _, 0, _, .cons a _, h => ⟨_, rfl, by simp at h; subst h; exact a⟩
  | _, _, i + 1, _, .cons _ b, h => by
    obtain ⟨v, e, q⟩ := dpa_get (i := i) b (by simpa using h)
    exact ⟨v, by simpa using e, q⟩
theorem dpa_getV : ∀ {vs : List V} {ds : List PyData} {i : Nat} {v : V}, DpAll K H vs ds → vs[i]? = some v → ∃ d, ds[i]? = some d ∧ Dp K H v d
  | _, _, _, _, .nil, h => by simp at h
  | _, _, 0, _, .cons a _, h => ⟨_, rfl, by simp at h; subst h; exact a⟩
  | _, _, i + 1, _, .cons _ b, h => by
    obtain ⟨v, e, q⟩ := dpa_getV (i := i) b (by simpa using h)
    exact ⟨v, by simpa using e, q⟩
theorem dpa_append : ∀ {vs ws : List V} {ds es : List PyData}, DpAll K H vs ds → DpAll K H ws es → DpAll K H (vs ++ ws) (ds ++ es)
  | _, _, _, _, .nil, h => h
  | _, _, _, _, .cons a b, h => .cons a (dpa_append b h)
theorem dpa_take : ∀ {vs : List V} {ds : List PyData} (n : Nat), DpAll K H vs ds → DpAll K H (vs.take n) (ds.take n)
  | _, _, 0, _ => by simp; exact .nil
  | _, _, _ + 1, .nil => by simp; exact .nil
  | _, _, n + 1, .cons a b => .cons a (dpa_take n b)
theorem dpa_drop : ∀ {vs : List V} {ds : List PyData} (n : Nat), DpAll K H vs ds → DpAll K H (vs.drop n) (ds.drop n)
  | _, _, 0, h => h
  | _, _, _ + 1, .nil => by simp; exact .nil
  | _, _, n + 1, .cons _ b => dpa_drop n b
theorem dpa_reverse {vs : List V} {ds : List PyData} (h : DpAll K H vs ds) : DpAll K H vs.reverse ds.reverse := by
  have aux : ∀ {vs : List V} {ds : List PyData}, DpAll K H vs ds → DpAll K H vs.reverse ds.reverse := by
    intro vs
    induction vs with
    | nil => intro ds h; cases h; exact .nil
    | cons v vs ih => intro ds h; cases h with
      | cons a b => rw [List.reverse_cons, List.reverse_cons]; exact dpa_append (ih b) (.cons a .nil)
  exact aux h
theorem dpa_set : ∀ {vs : List V} {ds : List PyData} (n : Nat) {v : V} {d : PyData}, Dp K H v d → DpAll K H vs ds → DpAll K H (vs.set n v) (ds.set n d)
  | _, _, _, _, _, _, .nil => by simp; exact .nil
  | _, _, 0, _, _, h, .cons _ b => .cons h b
  | _, _, n + 1, _, _, h, .cons a b => .cons a (dpa_set n h b)
end

def CellOk (K : PySem.W.Frag) (F : Hp) (o : Option HO) : Cell → Prop
  | .lst l => ∃ xs, o = some (.lst xs) ∧ DpAll K F xs l ∧ xs.length ≤ sizeLine
  | .dI l => ∃ ws, o = some (.dK ws) ∧ Paired (fun (w : Key × V) (p : Key × PyData) => w.1 = p.1 ∧ Dp K F w.2 p.2) ws l ∧ ws.length ≤ sizeLine
  | .dT l => ∃ ws, o = some (.dT ws) ∧ Paired (fun (w : List Key × V) (p : List Key × PyData) => w.1 = p.1 ∧ Dp K F w.2 p.2) ws l ∧ ws.length ≤ sizeLine
theorem CellOk.mono {K : PySem.W.Frag} {F F' : Hp} {o : Option HO} {c : Cell} (e : Sm F F') (h : CellOk K F o c) : CellOk K F' o c := by
  cases c with
  | lst l => obtain ⟨xs, h1, h2, h3⟩ := h; exact ⟨xs, h1, dpa_mono e h2, h3⟩
  | dI l => obtain ⟨xs, h1, h2, h3⟩ := h; exact ⟨xs, h1, Paired.mapP h2 fun _ _ z => ⟨z.1, dp_mono e z.2⟩, h3⟩
  | dT l => obtain ⟨xs, h1, h2, h3⟩ := h; exact ⟨xs, h1, Paired.mapP h2 fun _ _ z => ⟨z.1, dp_mono e z.2⟩, h3⟩

structure Sim (K : PySem.W.Frag) (ρ : List Addr) (S : Store) (H : Hp) : Prop where
  len : ρ.length = S.length
  nd : ρ.Nodup
  cell : ∀ (n : Nat) (a : Addr) (c : Cell), ρ[n]? = some a → S[n]? = some c → CellOk K (fz ρ H) (H a) c
/-- a value -/
def RepD (K : PySem.W.Frag) (ρ : List Addr) (H : Hp) (v : V) : D → Prop
  | .py d => Dp K (fz ρ H) v d
  | .loc n => ∃ a, ρ[n]? = some a ∧ v = .ref a
  | .raw w => v = w
/-- later -/
structure Ext (ρ : List Addr) (H : Hp) (ρ' : List Addr) (H' : Hp) : Prop where
  pre : ∃ τ, ρ' = ρ ++ τ
  fr : Sm (fz ρ H) (fz ρ' H')
theorem Ext.refl (ρ : List Addr) (H : Hp) : Ext ρ H ρ H := ⟨⟨[], by simp⟩, Sm.refl _⟩
theorem Ext.trans {ρ ρ1 ρ2 : List Addr} {H H1 H2 : Hp} (a : Ext ρ H ρ1 H1) (b : Ext ρ1 H1 ρ2 H2) : Ext ρ H ρ2 H2 := by
  obtain ⟨⟨τ, e⟩, f⟩ := a
  obtain ⟨⟨τ', e'⟩, f'⟩ := b
  exact ⟨⟨τ ++ τ', by rw [e', e, List.append_assoc]⟩, f.trans f'⟩
theorem RepD.mono {K : PySem.W.Frag} {ρ ρ' : List Addr} {H H' : Hp} {v : V} {d : D} (e : Ext ρ H ρ' H') (h : RepD K ρ H v d) : RepD K ρ' H' v d := by
  cases d with
  | py d => exact dp_mono e.fr h
  | loc n =>
    obtain ⟨a, h1, h2⟩ := h
    obtain ⟨τ, e1⟩ := e.pre
    refine ⟨a, ?_, h2⟩
    rw [e1]
    have hn : n < ρ.length := by
      rcases Nat.lt_or_ge n ρ.length with q | q
      · exact q
      · rw [List.getElem?_eq_none q] at h1; cases h1
    rw [List.getElem?_append_left hn]
    exact h1
  | raw w => exact h
def REnv (K : PySem.W.Frag) (ρ : List Addr) (H : Hp) (σ : L2.St) (env : Ev) : Prop :=
  σ.length = env.length ∧ ∀ (i : Nat) (d : D), env[i]? = some (some d) → ∃ v, σ[i]? = some (some v) ∧ RepD K ρ H v d
theorem REnv.mono {K : PySem.W.Frag} {ρ ρ' : List Addr} {H H' : Hp} {σ : L2.St} {env : Ev} (e : Ext ρ H ρ' H') (h : REnv K ρ H σ env) : REnv K ρ' H' σ env :=
  ⟨h.1, fun i d q => let ⟨v, h1, h2⟩ := h.2 i d q; ⟨v, h1, h2.mono e⟩⟩
theorem REnv.set {K : PySem.W.Frag} {ρ : List Addr} {H : Hp} {σ : L2.St} {env : Ev} (h : REnv K ρ H σ env) (i : Nat) {v : V} {d : D} (r : RepD K ρ H v d) : REnv K ρ H (σ.set i (some v)) (env.set i (some d)) := by
  refine ⟨by rw [List.length_set, List.length_set]; exact h.1, fun j e q => ?_⟩
  by_cases hj : i = j
  · subst hj
    have hi : i < env.length := by
      rcases Nat.lt_or_ge i env.length with z | z
      · exact z
      · rw [List.getElem?_eq_none (by rw [List.length_set]; exact z)] at q; cases q
    rw [List.getElem?_set_self hi] at q
    cases q
    exact ⟨v, by rw [List.getElem?_set_self (by rw [h.1]; exact hi)], r⟩
  · rw [List.getElem?_set_ne hj] at q ⊢
    exact h.2 j e q
/-- the error's own dict -/
def XRep (mg : Str → Option Value) (H : Hp) (x : Ex) (cls : Value) (o : Option Addr) : Prop :=
  ∃ C, mg x.cls = some (.ref C) ∧ cls = .ref C ∧ match x.pay with
    | none => o = none
    | some (f, i) => ∃ a, o = some a ∧ H a = some (.xd [(f, .int i)])

/-! ### readings -/
section
variable {α β γ : Type}
/-- what is wanted of a result -/
def Post (K : PySem.W.Frag) (mg : Str → Option Value) (W : WX) (rep : List Addr → Hp → β → α → Prop) (ρ : List Addr) (σ : L2.St) (H : Hp) (Q : β → Hp → Prop) : R α → Prop
  | .ok d S' => ∀ v H' ρ', Ext ρ H ρ' H' → Sim K ρ' S' H' → rep ρ' H' v d → Q v H'
  | .exc x S' => ∀ cls o H' ρ', Ext ρ H ρ' H' → Sim K ρ' S' H' → XRep mg H' x cls o → W cls o σ H'
  | .no => False
def tM (K : PySem.W.Frag) (mg : Str → Option Value) (W : WX) (rep : List Addr → Hp → β → α → Prop) (m : M α) : L2.St → Hp → (β → Hp → Prop) → Prop := fun σ H Q =>
  ∃ ρ S env, Sim K ρ S H ∧ REnv K ρ H σ env ∧ Post K mg W rep ρ σ H Q (m env S)
def bd (r : R α) (k : α → Store → R γ) : R γ := match r with
  | .ok a S => k a S
  | .exc x S => .exc x S
  | .no => .no
variable {K : PySem.W.Frag} {mg : Str → Option Value} {W : WX}
theorem Post.ext {rep : List Addr → Hp → β → α → Prop} {ρ ρ1 : List Addr} {σ : L2.St} {H H1 : Hp} {Q : β → Hp → Prop} {r : R α} (e : Ext ρ H ρ1 H1) (h : Post K mg W rep ρ σ H Q r) : Post K mg W rep ρ1 σ H1 Q r := by
  cases r with
  | ok d S => exact fun v H' ρ' x => h v H' ρ' (e.trans x)
  | exc d S => exact fun v o H' ρ' x => h v o H' ρ' (e.trans x)
  | no => exact h
theorem tM.bind {δ : Type} {rep : List Addr → Hp → β → α → Prop} {rep' : List Addr → Hp → δ → γ → Prop} {ρ : List Addr} {S : Store} {env : Ev} {σ : L2.St} {H : Hp} {Q : δ → Hp → Prop} {T : β → Hp → Prop} {m : M α} {k : α → Store → R γ}
    (sim : Sim K ρ S H) (re : REnv K ρ H σ env) (h : Post K mg W rep' ρ σ H Q (bd (m env S) k))
    (hk : ∀ ρ1 S1 v a H1, Ext ρ H ρ1 H1 → Sim K ρ1 S1 H1 → REnv K ρ1 H1 σ env → rep ρ1 H1 v a → Post K mg W rep' ρ1 σ H1 Q (k a S1) → T v H1) : tM K mg W rep m σ H T := by
  refine ⟨ρ, S, env, sim, re, ?_⟩
  cases e : m env S with
  | ok a S1 =>
    rw [e] at h
    exact fun v H1 ρ1 x s r => hk ρ1 S1 v a H1 x s (re.mono x) r (Post.ext x h)
  | exc x S1 =>
    rw [e] at h
    exact h
  | no =>
    rw [e] at h
    exact h
end
abbrev tE (K : PySem.W.Frag) (mg : Str → Option Value) (W : WX) (m : M D) : TE := tM K mg W (RepD K) m
abbrev tT (K : PySem.W.Frag) (mg : Str → Option Value) (W : WX) (m : M Bool) : TT := tM K mg W (fun _ _ b c => b = c) m
def RepDs (K : PySem.W.Frag) (ρ : List Addr) (H : Hp) (vs : List V) (ds : List D) : Prop := Paired (RepD K ρ H) vs ds
abbrev tA (K : PySem.W.Frag) (mg : Str → Option Value) (W : WX) (m : M (List D)) : TA := tM K mg W (RepDs K) m
theorem RepDs.mono {K : PySem.W.Frag} {ρ ρ' : List Addr} {H H' : Hp} {vs : List V} {ds : List D} (e : Ext ρ H ρ' H') (h : RepDs K ρ H vs ds) : RepDs K ρ' H' vs ds := Paired.mapP h fun _ _ z => z.mono e

/-! statements -/
inductive F where
  | nx | rt (d : D) | bk | ct
inductive RS where
  | go (f : F) (env : Ev) (S : Store)
  | exc (x : Ex) (env : Ev) (S : Store)
  | no
abbrev MS := Ev → Store → RS
def PostS (K : PySem.W.Frag) (mg : Str → Option Value) (W : WX) (ρ : List Addr) (H : Hp) (D : Ends) : RS → Prop
  | .go .nx env S => ∀ σ' H' ρ', Ext ρ H ρ' H' → Sim K ρ' S H' → REnv K ρ' H' σ' env → D.nx σ' H'
  | .go .bk env S => ∀ σ' H' ρ', Ext ρ H ρ' H' → Sim K ρ' S H' → REnv K ρ' H' σ' env → D.bk σ' H'
  | .go .ct env S => ∀ σ' H' ρ', Ext ρ H ρ' H' → Sim K ρ' S H' → REnv K ρ' H' σ' env → D.ct σ' H'
  | .go (.rt d) _ S => ∀ v H' ρ', Ext ρ H ρ' H' → Sim K ρ' S H' → RepD K ρ' H' v d → D.rt v H'
  | .exc x env S => ∀ cls o σ' H' ρ', Ext ρ H ρ' H' → Sim K ρ' S H' → REnv K ρ' H' σ' env → XRep mg H' x cls o → W cls o σ' H'
  | .no => False
def tS (K : PySem.W.Frag) (mg : Str → Option Value) (W : WX) (m : MS) : TS := fun D σ H => ∃ ρ S env, Sim K ρ S H ∧ REnv K ρ H σ env ∧ PostS K mg W ρ H D (m env S)
theorem PostS.ext {K : PySem.W.Frag} {mg : Str → Option Value} {W : WX} {ρ ρ1 : List Addr} {H H1 : Hp} {D : Ends} {r : RS} (e : Ext ρ H ρ1 H1) (h : PostS K mg W ρ H D r) : PostS K mg W ρ1 H1 D r := by
  match r, h with
  | .go .nx _ _, h => exact fun σ' H' ρ' x => h σ' H' ρ' (e.trans x)
  | .go .bk _ _, h => exact fun σ' H' ρ' x => h σ' H' ρ' (e.trans x)
  | .go .ct _ _, h => exact fun σ' H' ρ' x => h σ' H' ρ' (e.trans x)
  | .go (.rt d) _ _, h => exact fun σ' H' ρ' x => h σ' H' ρ' (e.trans x)
  | .exc x _ _, h => exact fun c o σ' H' ρ' x => h c o σ' H' ρ' (e.trans x)
def bs (r : R α) (env : Ev) (k : α → Store → RS) : RS := match r with
  | .ok a S => k a S
  | .exc x S => .exc x env S
  | .no => .no
theorem tM.bindS {α β : Type} {K : PySem.W.Frag} {mg : Str → Option Value} {W : WX} {rep : List Addr → Hp → β → α → Prop} {ρ : List Addr} {S : Store} {env : Ev} {σ : L2.St} {H : Hp} {D : Ends} {T : β → Hp → Prop} {m : M α} {k : α → Store → RS}
    (sim : Sim K ρ S H) (re : REnv K ρ H σ env) (h : PostS K mg W ρ H D (bs (m env S) env k))
    (hk : ∀ ρ1 S1 v a H1, Ext ρ H ρ1 H1 → Sim K ρ1 S1 H1 → REnv K ρ1 H1 σ env → rep ρ1 H1 v a → PostS K mg W ρ1 H1 D (k a S1) → T v H1) : tM K mg W rep m σ H T := by
  refine ⟨ρ, S, env, sim, re, ?_⟩
  cases e : m env S with
  | ok a S1 =>
    rw [e] at h
    exact fun v H1 ρ1 x s r => hk ρ1 S1 v a H1 x s (re.mono x) r (PostS.ext x h)
  | exc x S1 =>
    rw [e] at h
    exact fun cls o H' ρ' x s r => h cls o σ H' ρ' x s (re.mono x) r
  | no =>
    rw [e] at h
    exact h

theorem pe_imp {X : Cx} {e : Expr} {t t' : TE} (h : PE X e t) (i : ∀ σ H Q, t' σ H Q → t σ H Q) : PE X e t' := ⟨fun pins s σ H Q I q => h.run pins s σ H Q I (i σ H Q q)⟩
theorem pt_imp {X : Cx} {e : Expr} {t t' : TT} (h : PT X e t) (i : ∀ σ H Q, t' σ H Q → t σ H Q) : PT X e t' := ⟨fun pins s σ H Q I q => h.run pins s σ H Q I (i σ H Q q)⟩
theorem pw_imp {X : Cx} {e : Expr} {t t' : TT} (h : PW X e t) (i : ∀ σ H Q, t' σ H Q → t σ H Q) : PW X e t' := ⟨fun w pins s σ H Q I q => h.run w pins s σ H Q I (i σ H Q q)⟩
theorem pa_imp {X : Cx} {e : List Expr} {t t' : TA} (h : PA X e t) (i : ∀ σ H Q, t' σ H Q → t σ H Q) : PA X e t' := ⟨fun p pins s σ H Q I q => h.run p pins s σ H Q I (i σ H Q q)⟩
theorem ps_imp {X : Cx} {e : Stmt} {t t' : TS} (h : PS X e t) (i : ∀ D σ H, t' D σ H → t D σ H) : PS X e t' := ⟨fun pins s σ H D I q => h.run pins s σ H D I (i D σ H q)⟩
theorem pss_imp {X : Cx} {e : List Stmt} {t t' : TS} (h : PSs X e t) (i : ∀ D σ H, t' D σ H → t D σ H) : PSs X e t' := ⟨fun pins s σ H D I q => h.run pins s σ H D I (i D σ H q)⟩
end PX

end P_PX1
section P_PX2
set_option maxHeartbeats 4000000
namespace PX
open PySem PySem.Spec PyProof.Rows L2

/-! ### reading what is held -/
def rd (S : Store) : D → Option PyData
  | .py d => some d
  | .loc n => match S[n]? with
    | some (.lst l) => some (.list l)
    | _ => none
  | .raw _ => none
theorem rd_ok {K : PySem.W.Frag} {ρ : List Addr} {S : Store} {H : Hp} {v : V} {d : D} {p : PyData} (sim : Sim K ρ S H) (r : RepD K ρ H v d) (h : rd S d = some p) : Dp K H v p := by
  cases d with
  | py d => cases h; exact dp_mono (fz_sub ρ H) r
  | loc n =>
    obtain ⟨a, h1, rfl⟩ := r
    unfold rd at h
    cases hc : S[n]? with
    | none => simp only [hc] at h; cases h
    | some c =>
      simp only [hc] at h
      cases c with
      | lst l =>
        cases h
        obtain ⟨xs, e, q, _⟩ := sim.cell n a _ h1 hc
        exact .lst (SqL.of e) (dpa_mono (fz_sub ρ H) q)
      | dI l => cases h
      | dT l => cases h
  | raw v => cases h
/-- an answer -/
def retP (o : Option PyData) (S : Store) : R D := match o with
  | some p => .ok (.py p) S
  | none => .no
def isSc : PyData → Bool
  | .none => true
  | .bool _ => true
  | .int _ => true
  | .str _ => true
  | _ => false
def scV : PyData → V
  | .none => .non
  | .bool b => .bl b
  | .int i => .int i
  | .str s => .str s
  | _ => .non
theorem dp_sc {K : PySem.W.Frag} {H : Hp} {p : PyData} (h : isSc p = true) : Dp K H (scV p) p := by
  cases p with
  | none => exact .non
  | bool b => exact .bl b
  | int i => exact .int i
  | str s => exact .str s
  | list l => cases h
  | tuple l => cases h
  | dict l => cases h
section
variable {K : PySem.W.Frag} {mg : Str → Option Value} {W : WX} {ρ : List Addr} {S : Store} {H : Hp} {σ : L2.St} {Q : V → Hp → Prop}
theorem post_v {v : V} {d : D} (sim : Sim K ρ S H) (r : RepD K ρ H v d) (h : Post K mg W (RepD K) ρ σ H Q (.ok d S)) : Q v H := h v H ρ (Ext.refl _ _) sim r
theorem post_sc {p : PyData} (sim : Sim K ρ S H) (hs : isSc p = true) (h : Post K mg W (RepD K) ρ σ H Q (.ok (.py p) S)) : Q (scV p) H := post_v (d := .py p) sim (dp_sc hs) h
theorem sim_new {p : Addr} (sim : Sim K ρ S H) (hp : H p = none) : p ∉ ρ := by
  intro hm
  obtain ⟨n, hn, e⟩ := List.getElem_of_mem hm
  have h1 : ρ[n]? = some p := by rw [List.getElem?_eq_getElem hn, e]
  have hn2 : n < S.length := by rw [← sim.len]; exact hn
  have hc := sim.cell n p _ h1 (List.getElem?_eq_getElem hn2)
  cases hq : S[n] with
  | lst l => rw [hq] at hc; obtain ⟨xs, e, _⟩ := hc; rw [hp] at e; cases e
  | dI l => rw [hq] at hc; obtain ⟨xs, e, _⟩ := hc; rw [hp] at e; cases e
  | dT l => rw [hq] at hc; obtain ⟨xs, e, _⟩ := hc; rw [hp] at e; cases e
theorem fz_upd {p : Addr} {o : HO} (hn : p ∉ ρ) : fz ρ (upd H p o) = upd (fz ρ H) p o := by
  funext a
  unfold fz upd
  by_cases h1 : a = p
  · subst h1; simp [hn]
  · simp [h1]
theorem fz_upd_in {p : Addr} {o : HO} (hn : p ∈ ρ) : fz ρ (upd H p o) = fz ρ H := by
  funext a
  unfold fz upd
  by_cases h1 : a = p
  · subst h1; simp [hn]
  · simp [h1]
theorem fz_app_upd {p : Addr} {o : HO} (hn : p ∉ ρ) (hp : H p = none) : fz (ρ ++ [p]) (upd H p o) = fz ρ H := by
  funext a
  unfold fz upd
  by_cases h1 : a = p
  · subst h1; simp [hn, hp]
  · simp [h1]
theorem sm_upd {p : Addr} {o : HO} (hp : H p = none) : Sm H (upd H p o) := fun b u e => by
  rw [upd_ne (ne_of_none e hp)]
  exact e
theorem ext_new {p : Addr} {o : HO} (sim : Sim K ρ S H) (hp : H p = none) : Ext ρ H ρ (upd H p o) := by
  refine ⟨⟨[], by simp⟩, ?_⟩
  rw [fz_upd (sim_new sim hp)]
  refine sm_upd ?_
  rw [fz_out (sim_new sim hp)]
  exact hp
theorem Sim.upd {p : Addr} {o : HO} (sim : Sim K ρ S H) (hp : H p = none) : Sim K ρ S (upd H p o) := by
  refine ⟨sim.len, sim.nd, fun n a c h1 h2 => ?_⟩
  have q := sim.cell n a c h1 h2
  have ha : a ≠ p := fun e => sim_new sim hp (by rw [← e]; exact List.mem_of_getElem? h1)
  rw [upd_ne ha]
  exact q.mono (ext_new (o := o) sim hp).fr
/-- a new object that stays as it is -/
theorem post_new {p : Addr} {o : HO} {d : PyData} (sim : Sim K ρ S H) (hp : H p = none) (hd : Dp K (fz ρ (L2.upd H p o)) (.ref p) d) (h : Post K mg W (RepD K) ρ σ H Q (.ok (.py d) S)) : Q (.ref p) (L2.upd H p o) :=
  h _ _ ρ (ext_new sim hp) (sim.upd hp) hd
theorem post_tup {p : Addr} {xs : List V} {ds : List PyData} (sim : Sim K ρ S H) (hp : H p = none) (hd : DpAll K (fz ρ H) xs ds) (h : Post K mg W (RepD K) ρ σ H Q (.ok (.py (.tuple ds)) S)) : Q (.ref p) (L2.upd H p (.tup xs)) := by
  refine post_new sim hp (.tup (.inl (.inl ?_)) (dpa_mono (ext_new sim hp).fr hd)) h
  rw [fz_out (sim_new sim hp), upd_same]
/-- a new list or dict that may change -/
theorem Sim.push {p : Addr} {o : HO} {c : Cell} (sim : Sim K ρ S H) (hp : H p = none) (hc : CellOk K (fz ρ H) (some o) c) : Sim K (ρ ++ [p]) (S ++ [c]) (L2.upd H p o) := by
  have hn := sim_new sim hp
  refine ⟨by simp [sim.len], ?_, fun n a c' h1 h2 => ?_⟩
  · rw [List.nodup_append]
    refine ⟨sim.nd, by simp, fun x hx y hy => ?_⟩
    rw [List.mem_singleton] at hy
    rw [hy]
    exact fun e => hn (by rw [← e]; exact hx)
  · rw [fz_app_upd hn hp]
    by_cases hl : n < ρ.length
    · rw [List.getElem?_append_left hl] at h1
      rw [List.getElem?_append_left (by rw [← sim.len]; exact hl)] at h2
      have ha : a ≠ p := fun e => hn (by rw [← e]; exact List.mem_of_getElem? h1)
      rw [upd_ne ha]
      exact sim.cell n a c' h1 h2
    · have hl2 : n = ρ.length := by
        have := (List.getElem?_eq_some_iff.mp h1).1
        rw [List.length_append, List.length_singleton] at this
        omega
      rw [hl2] at h1
      rw [hl2, sim.len] at h2
      simp at h1 h2
      subst h1 h2
      rw [upd_same]
      exact hc
theorem post_loc {p : Addr} {o : HO} {c : Cell} (sim : Sim K ρ S H) (hp : H p = none) (hc : CellOk K (fz ρ H) (some o) c) (h : Post K mg W (RepD K) ρ σ H Q (.ok (.loc S.length) (S ++ [c]))) : Q (.ref p) (L2.upd H p o) := by
  have hn := sim_new sim hp
  refine h _ _ (ρ ++ [p]) ⟨⟨[p], rfl⟩, ?_⟩ (sim.push hp hc) ⟨p, ?_, rfl⟩
  · rw [fz_app_upd hn hp]
    exact Sm.refl _
  · rw [← sim.len]
    simp
end

/-! ### operators by values -/
def OpD (K : PySem.W.Frag) (r : R2) (g : D → D → Store → R D) : Prop := ∀ (mg : Str → Option Value) (W : WX) (ρ : List Addr) (S : Store) (σ : L2.St) (H : Hp) (Q : V → Hp → Prop) (x y : V) (dx dy : D), Sim K ρ S H → RepD K ρ H x dx → RepD K ρ H y dy → Post K mg W (RepD K) ρ σ H Q (g dx dy S) → r x y H Q
def UnD (K : PySem.W.Frag) (r : V → Hp → VK → Prop) (g : D → Store → R D) : Prop := ∀ (mg : Str → Option Value) (W : WX) (ρ : List Addr) (S : Store) (σ : L2.St) (H : Hp) (Q : V → Hp → Prop) (x : V) (dx : D), Sim K ρ S H → RepD K ρ H x dx → Post K mg W (RepD K) ρ σ H Q (g dx S) → r x H Q
def CaD (K : PySem.W.Frag) (r : List V → Hp → VK → Prop) (g : List D → Store → R D) : Prop := ∀ (mg : Str → Option Value) (W : WX) (ρ : List Addr) (S : Store) (σ : L2.St) (H : Hp) (Q : V → Hp → Prop) (xs : List V) (ds : List D), Sim K ρ S H → RepDs K ρ H xs ds → Post K mg W (RepD K) ρ σ H Q (g ds S) → r xs H Q

/-! the programs' words -/
def mV (i : Nat) : M D := fun env S => match env[i]? with
  | some (some d) => .ok d S
  | _ => .no
def mK (d : PyData) : M D := fun _ S => .ok (.py d) S
def m1 (g : D → Store → R D) (a : M D) : M D := fun env S => bd (a env S) fun x S1 => g x S1
def m2 (g : D → D → Store → R D) (a b : M D) : M D := fun env S => bd (a env S) fun x S1 => bd (b env S1) fun y S2 => g x y S2
def mNil : M (List D) := fun _ S => .ok [] S
def mCons (a : M D) (r : M (List D)) : M (List D) := fun env S => bd (a env S) fun x S1 => bd (r env S1) fun xs S2 => .ok (x :: xs) S2
def mCall (g : List D → Store → R D) (as : M (List D)) : M D := fun env S => bd (as env S) fun xs S1 => g xs S1
def mIf (c : M Bool) (a b : M D) : M D := fun env S => bd (c env S) fun k S1 => if k then a env S1 else b env S1
def mAndT (a b : M Bool) : M Bool := fun env S => bd (a env S) fun k S1 => if k then b env S1 else .ok false S1
def mOrT (a b : M Bool) : M Bool := fun env S => bd (a env S) fun k S1 => if k then .ok true S1 else b env S1
def mNotT (a : M Bool) : M Bool := fun env S => bd (a env S) fun k S1 => .ok (!k) S1
/-- and, or of truth values -/
def mAnd (a b : M D) : M D := fun env S => bd (a env S) fun x S1 => match x with
  | .py (.bool k) => if k then b env S1 else .ok (.py (.bool false)) S1
  | _ => .no
def mOr (a b : M D) : M D := fun env S => bd (a env S) fun x S1 => match x with
  | .py (.bool k) => if k then .ok (.py (.bool true)) S1 else b env S1
  | _ => .no
def mNot (a : M D) : M D := fun env S => bd (a env S) fun x S1 => match x with
  | .py (.bool k) => .ok (.py (.bool (!k))) S1
  | _ => .no
/-- a test that is a truth value -/
def mB (a : M D) : M Bool := fun env S => bd (a env S) fun x S1 => match x with
  | .py (.bool k) => .ok k S1
  | _ => .no

section
variable {X : Cx} {mg : Str → Option Value} {W : WX} {a b c : Expr} {pos : Pos} {ma mb mc : M D}
theorem se_var {i : Nat} {e : Expr} (h : PE X e (tVar i)) : PE X e (tE X.K mg W (mV i)) := by
  refine pe_imp h fun σ H Q ⟨ρ, S, env, sim, re, q⟩ => ?_
  unfold mV at q
  cases he : env[i]? with
  | none => rw [he] at q; exact q.elim
  | some o =>
    rw [he] at q
    cases o with
    | none => exact q.elim
    | some d =>
      obtain ⟨v, hv, r⟩ := re.2 i d he
      exact ⟨v, hv, q v H ρ (Ext.refl _ _) sim r⟩
theorem se_c {e : Expr} {p : PyData} (hs : isSc p = true) (h : PE X e (tC (scV p))) : PE X e (tE X.K mg W (mK p)) :=
  pe_imp h fun σ H Q ⟨ρ, S, env, sim, re, q⟩ => post_sc sim hs q
theorem se_op {op : Operator} {r : R2} {g : D → D → Store → R D} (ho : OpR X (binaryOp op) r) (hg : OpD X.K r g) (ha : PE X a (tE X.K mg W ma)) (hb : PE X b (tE X.K mg W mb)) : PE X (.BinOp a op b pos) (tE X.K mg W (m2 g ma mb)) := by
  refine pe_imp (pe_op ho ha hb) fun σ H Q ⟨ρ, S, env, sim, re, q⟩ => ?_
  refine tM.bind sim re q fun ρ1 S1 x dx H1 e1 sim1 re1 r1 q1 => ?_
  refine tM.bind sim1 re1 q1 fun ρ2 S2 y dy H2 e2 sim2 re2 r2 q2 => ?_
  exact hg mg W ρ2 S2 σ H2 Q x y dx dy sim2 (r1.mono e2) r2 q2
theorem se_un {op : UnaryOp} {r : V → Hp → VK → Prop} {g : D → Store → R D} (ho : UnR X (unaryOp op) r) (hg : UnD X.K r g) (ha : PE X a (tE X.K mg W ma)) : PE X (.UnaryOp op a pos) (tE X.K mg W (m1 g ma)) := by
  refine pe_imp (pe_un ho ha) fun σ H Q ⟨ρ, S, env, sim, re, q⟩ => ?_
  refine tM.bind sim re q fun ρ1 S1 x dx H1 e1 sim1 re1 r1 q1 => ?_
  exact hg mg W ρ1 S1 σ H1 Q x dx sim1 r1 q1
theorem se_cmp {op : CmpOp} {r : R2} {g : D → D → Store → R D} (ho : OpR X (compareOp op) r) (hg : OpD X.K r g) (ha : PE X a (tE X.K mg W ma)) (hb : PE X b (tE X.K mg W mb)) (hm : behindInMarks op b = false) : PE X (.Compare a [op] [b] pos) (tE X.K mg W (m2 g ma mb)) := by
  refine pe_imp (pe_cmpR ho ha hb hm) fun σ H Q ⟨ρ, S, env, sim, re, q⟩ => ?_
  refine tM.bind sim re q fun ρ1 S1 x dx H1 e1 sim1 re1 r1 q1 => ?_
  refine tM.bind sim1 re1 q1 fun ρ2 S2 y dy H2 e2 sim2 re2 r2 q2 => ?_
  exact hg mg W ρ2 S2 σ H2 Q x y dx dy sim2 (r1.mono e2) r2 q2
theorem tB_of {σ : L2.St} {H : Hp} {Q : Bool → Hp → Prop} {ρ : List Addr} {S : Store} {env : Ev} (sim : Sim X.K ρ S H) (re : REnv X.K ρ H σ env) (q : Post X.K mg W (fun _ _ b c => b = c) ρ σ H Q (mB ma env S)) : tE X.K mg W ma σ H fun x H1 => ∃ k, x = .bl k ∧ Q k H1 := by
  unfold mB at q
  refine tM.bind sim re q fun ρ1 S1 x dx H1 e1 sim1 re1 r1 q1 => ?_
  cases dx with
  | py d =>
    cases d with
    | bool k =>
      cases r1
      exact ⟨k, rfl, q1 k H1 ρ1 (Ext.refl _ _) sim1 rfl⟩
    | _ => exact q1.elim
  | _ => exact q1.elim
/-- a comparison as a test -/
theorem st_cmp {op : CmpOp} {r : R2} {g : D → D → Store → R D} (ho : OpR X (compareOp op) r) (hg : OpD X.K r g) (ha : PE X a (tE X.K mg W ma)) (hb : PE X b (tE X.K mg W mb)) (hm : behindInMarks op b = false) : PT X (.Compare a [op] [b] pos) (tT X.K mg W (mB (m2 g ma mb))) := by
  refine pt_imp (pt_cmpR ho ha hb hm) fun σ H Q ⟨ρ, S, env, sim, re, q⟩ => ?_
  have q' := tB_of sim re q
  obtain ⟨ρ', S', env', sim', re', q2⟩ := q'
  show tOp r (tE X.K mg W ma) (tE X.K mg W mb) σ H _
  refine tM.bind sim' re' q2 fun ρ1 S1 x dx H1 e1 sim1 re1 r1 q1 => ?_
  refine tM.bind sim1 re1 q1 fun ρ2 S2 y dy H2 e2 sim2 re2 r2 q2 => ?_
  exact hg mg W ρ2 S2 σ H2 _ x y dx dy sim2 (r1.mono e2) r2 q2
/-- any other expression as a test -/
theorem st_val (ha : PE X a (tE X.K mg W ma)) (he : ∀ whole, isTrue a X.env whole = (do let v ← whole; standAt a.pos; holding [v] (truthy v)) := by intro _; rfl) : PT X a (tT X.K mg W (mB ma)) :=
  pt_imp (pt_val ha he) fun σ H Q ⟨ρ, S, env, sim, re, q⟩ => tB_of sim re q
theorem st_not {ta : M Bool} (ha : PT X a (tT X.K mg W ta)) : PT X (.UnaryOp .Not a pos) (tT X.K mg W (mNotT ta)) := by
  refine pt_imp (pt_not ha) fun σ H Q ⟨ρ, S, env, sim, re, q⟩ => ?_
  refine tM.bind sim re q fun ρ1 S1 x k H1 e1 sim1 re1 r1 q1 => ?_
  subst r1
  exact q1 _ H1 ρ1 (Ext.refl _ _) sim1 rfl
theorem sw_and1 {ta : M Bool} (ha : PT X a (tT X.K mg W ta)) : PW X (.BoolOp .And [a] pos) (tT X.K mg W ta) := pw_and1 ha
theorem sw_or1 {ta : M Bool} (ha : PT X a (tT X.K mg W ta)) : PW X (.BoolOp .Or [a] pos) (tT X.K mg W ta) := pw_or1 ha
theorem sw_and {ta tb : M Bool} {rest : List Expr} (ha : PT X a (tT X.K mg W ta)) (hb : PW X (.BoolOp .And (b :: rest) pos) (tT X.K mg W tb)) : PW X (.BoolOp .And (a :: b :: rest) pos) (tT X.K mg W (mAndT ta tb)) := by
  refine pw_imp (pw_and ha hb) fun σ H Q ⟨ρ, S, env, sim, re, q⟩ => ?_
  refine tM.bind sim re q fun ρ1 S1 x k H1 e1 sim1 re1 r1 q1 => ?_
  subst r1
  cases x with
  | true => rw [if_pos rfl]; rw [if_pos rfl] at q1; exact ⟨ρ1, S1, env, sim1, re1, q1⟩
  | false => rw [if_neg Bool.false_ne_true]; rw [if_neg Bool.false_ne_true] at q1; exact q1 _ H1 ρ1 (Ext.refl _ _) sim1 rfl
theorem sw_or {ta tb : M Bool} {rest : List Expr} (ha : PT X a (tT X.K mg W ta)) (hb : PW X (.BoolOp .Or (b :: rest) pos) (tT X.K mg W tb)) : PW X (.BoolOp .Or (a :: b :: rest) pos) (tT X.K mg W (mOrT ta tb)) := by
  refine pw_imp (pw_or ha hb) fun σ H Q ⟨ρ, S, env, sim, re, q⟩ => ?_
  refine tM.bind sim re q fun ρ1 S1 x k H1 e1 sim1 re1 r1 q1 => ?_
  subst r1
  cases x with
  | false => rw [if_neg Bool.false_ne_true]; rw [if_neg Bool.false_ne_true] at q1; exact ⟨ρ1, S1, env, sim1, re1, q1⟩
  | true => rw [if_pos rfl]; rw [if_pos rfl] at q1; exact q1 _ H1 ρ1 (Ext.refl _ _) sim1 rfl
theorem st_w {e : Expr} {ta : M Bool} (h : PW X e (tT X.K mg W ta)) : PT X e (tT X.K mg W ta) := h.pt
theorem bool_of {σ : L2.St} {H : Hp} {Q : VK} {ρ : List Addr} {S : Store} {env : Ev} {f : Bool → Store → R D} (sim : Sim X.K ρ S H) (re : REnv X.K ρ H σ env)
    (q : Post X.K mg W (RepD X.K) ρ σ H Q (bd (ma env S) fun x S1 => match x with | .py (.bool k) => f k S1 | _ => .no))
    {T : V → Hp → Prop} (hT : ∀ ρ1 S1 H1 k, Sim X.K ρ1 S1 H1 → REnv X.K ρ1 H1 σ env → Post X.K mg W (RepD X.K) ρ1 σ H1 Q (f k S1) → T (.bl k) H1) : tE X.K mg W ma σ H T := by
  refine tM.bind sim re q fun ρ1 S1 x dx H1 e1 sim1 re1 r1 q1 => ?_
  cases dx with
  | py d =>
    cases d with
    | bool k => cases r1; exact hT ρ1 S1 H1 k sim1 re1 q1
    | _ => exact q1.elim
  | _ => exact q1.elim
theorem se_and {rest : List Expr} (ha : PE X a (tE X.K mg W ma)) (hb : PE X (.BoolOp .And (b :: rest) pos) (tE X.K mg W mb)) : PE X (.BoolOp .And (a :: b :: rest) pos) (tE X.K mg W (mAnd ma mb)) := by
  refine pe_imp (pe_and ha hb) fun σ H Q ⟨ρ, S, env, sim, re, q⟩ => ?_
  refine bool_of sim re q fun ρ1 S1 H1 k sim1 re1 q1 => ⟨k, rfl, ?_⟩
  cases k with
  | true => rw [if_pos rfl]; exact ⟨ρ1, S1, env, sim1, re1, q1⟩
  | false => rw [if_neg Bool.false_ne_true]; exact post_sc (p := .bool false) sim1 rfl q1
theorem se_or {rest : List Expr} (ha : PE X a (tE X.K mg W ma)) (hb : PE X (.BoolOp .Or (b :: rest) pos) (tE X.K mg W mb)) : PE X (.BoolOp .Or (a :: b :: rest) pos) (tE X.K mg W (mOr ma mb)) := by
  refine pe_imp (pe_or ha hb) fun σ H Q ⟨ρ, S, env, sim, re, q⟩ => ?_
  refine bool_of sim re q fun ρ1 S1 H1 k sim1 re1 q1 => ⟨k, rfl, ?_⟩
  cases k with
  | false => rw [if_neg Bool.false_ne_true]; exact ⟨ρ1, S1, env, sim1, re1, q1⟩
  | true => rw [if_pos rfl]; exact post_sc (p := .bool true) sim1 rfl q1
theorem se_one {op : BoolOp} (ha : PE X a (tE X.K mg W ma)) : PE X (.BoolOp op [a] pos) (tE X.K mg W ma) := pe_one ha
theorem se_not (ha : PE X a (tE X.K mg W ma)) : PE X (.UnaryOp .Not a pos) (tE X.K mg W (mNot ma)) := by
  refine pe_imp (pe_not ha) fun σ H Q ⟨ρ, S, env, sim, re, q⟩ => ?_
  exact bool_of sim re q fun ρ1 S1 H1 k sim1 re1 q1 => ⟨k, rfl, post_sc (p := .bool (!k)) sim1 rfl q1⟩
theorem se_if {tc : M Bool} (hc : PT X c (tT X.K mg W tc)) (ha : PE X a (tE X.K mg W ma)) (hb : PE X b (tE X.K mg W mb)) : PE X (.IfExp c a b pos) (tE X.K mg W (mIf tc ma mb)) := by
  refine pe_imp (pe_ifExp hc ha hb) fun σ H Q ⟨ρ, S, env, sim, re, q⟩ => ?_
  refine tM.bind sim re q fun ρ1 S1 x k H1 e1 sim1 re1 r1 q1 => ?_
  subst r1
  cases x with
  | true => rw [if_pos rfl]; exact ⟨ρ1, S1, env, sim1, re1, q1⟩
  | false => rw [if_neg Bool.false_ne_true]; exact ⟨ρ1, S1, env, sim1, re1, q1⟩
/-! arguments, displays, calls -/
theorem sa_nil : PA X [] (tA X.K mg W mNil) := pa_imp pa_nil fun σ H Q ⟨ρ, S, env, sim, re, q⟩ => q [] H ρ (Ext.refl _ _) sim .nil
theorem sa_cons {e : Expr} {es : List Expr} {me : M D} {mr : M (List D)} (he : PE X e (tE X.K mg W me)) (hr : PA X es (tA X.K mg W mr)) (hs : starEach (e :: es) X.env = (false, eval e X.env) :: starEach es X.env := by rfl) : PA X (e :: es) (tA X.K mg W (mCons me mr)) := by
  refine pa_imp (pa_cons he hr hs) fun σ H Q ⟨ρ, S, env, sim, re, q⟩ => ?_
  refine tM.bind sim re q fun ρ1 S1 x dx H1 e1 sim1 re1 r1 q1 => ?_
  refine tM.bind sim1 re1 q1 fun ρ2 S2 xs ds H2 e2 sim2 re2 r2 q2 => ?_
  exact q2 _ H2 ρ2 (Ext.refl _ _) sim2 (.cons (r1.mono e2) r2)
end
/-- data alone -/
def pys : List D → Option (List PyData)
  | [] => some []
  | .py d :: r => (pys r).map (d :: ·)
  | _ :: _ => none
theorem pys_ok {K : PySem.W.Frag} {ρ : List Addr} {H : Hp} : ∀ {xs : List V} {ds : List D} {ps : List PyData}, RepDs K ρ H xs ds → pys ds = some ps → DpAll K (fz ρ H) xs ps
  | _, _, _, .nil, h => by cases h; exact .nil
  | _, _, _, .cons (a := x) (b := d) r rr, h => by
    cases d with
    | py d =>
      unfold pys at h
      cases e : pys _ with
      | none => rw [e] at h; cases h
      | some ps => rw [e] at h; cases h; exact .cons r (pys_ok rr e)
    | loc n => cases h
    | raw v => cases h
def fits (n : Nat) : Bool := decide (n ≤ 16777216)
theorem fits_ok {n : Nat} (h : fits n = true) : n ≤ sizeLine := by rw [sizeLine_eq]; exact of_decide_eq_true h
def gTupD (ds : List D) (S : Store) : R D := match pys ds with
  | some ps => if fits ps.length then .ok (.py (.tuple ps)) S else .no
  | none => .no
def gLstD (ds : List D) (S : Store) : R D := match pys ds with
  | some ps => if fits ps.length then .ok (.loc S.length) (S ++ [.lst ps]) else .no
  | none => .no
section
variable {X : Cx} {mg : Str → Option Value} {W : WX} {pos : Pos}
theorem se_tup {es : List Expr} {x1} {m : M (List D)} (h : PA X es (tA X.K mg W m)) : PE X (.Tuple es x1 pos) (tE X.K mg W (mCall gTupD m)) := by
  refine pe_imp (pe_tup h) fun σ H Q ⟨ρ, S, env, sim, re, q⟩ => ?_
  refine tM.bind sim re q fun ρ1 S1 xs ds H1 e1 sim1 re1 r1 q1 => ?_
  unfold gTupD at q1
  cases hp : pys ds with
  | none => rw [hp] at q1; exact q1.elim
  | some ps =>
    rw [hp] at q1
    have hd := pys_ok r1 hp
    cases hf : fits ps.length with
    | false => simp only [hf] at q1; exact q1.elim
    | true =>
      simp only [hf] at q1
      exact ⟨by rw [dpa_length hd]; exact fits_ok hf, fun p hp => post_tup sim1 hp hd q1⟩
theorem se_lst {es : List Expr} {m : M (List D)} (h : PA X es (tA X.K mg W m)) : PE X (.List es pos) (tE X.K mg W (mCall gLstD m)) := by
  refine pe_imp (pe_lst h) fun σ H Q ⟨ρ, S, env, sim, re, q⟩ => ?_
  refine tM.bind sim re q fun ρ1 S1 xs ds H1 e1 sim1 re1 r1 q1 => ?_
  unfold gLstD at q1
  cases hp : pys ds with
  | none => rw [hp] at q1; exact q1.elim
  | some ps =>
    rw [hp] at q1
    have hd := pys_ok r1 hp
    cases hf : fits ps.length with
    | false => simp only [hf] at q1; exact q1.elim
    | true =>
      simp only [hf] at q1
      exact ⟨by rw [dpa_length hd]; exact fits_ok hf, fun p hp => post_loc (c := .lst ps) sim1 hp ⟨xs, rfl, hd, by rw [dpa_length hd]; exact fits_ok hf⟩ q1⟩
theorem se_callB {x : Str} {p : Pos} {e : Expr} {es : List Expr} {id : String} {r : List V → Hp → VK → Prop} {g : List D → Store → R D} {m : M (List D)} (hc : CallR X (.builtin id) r) (hcd : CaD X.K r g) (hg : Gl X x) (hm : X.mg x = none) (hv : bootBuiltins x = some (.builtin id)) (ha : PA X (e :: es) (tA X.K mg W m))
    (hn : x ≠ "__name__" := by decide) (hdb : (x == ("__debug__" : Str)) = false := by decide) (he : starEach (e :: es) X.env = (false, eval e X.env) :: starEach es X.env := by rfl) (hpl : (backTo pos (starEach es X.env)).any (·.1) = false := by rfl) :
    PE X (.Call (.Name x p) (e :: es) [] pos) (tE X.K mg W (mCall g m)) := by
  refine pe_imp (pe_callB hc hg hm hv ha hn hdb he hpl) fun σ H Q ⟨ρ, S, env, sim, re, q⟩ => ?_
  refine tM.bind sim re q fun ρ1 S1 xs ds H1 e1 sim1 re1 r1 q1 => ?_
  exact hcd mg W ρ1 S1 σ H1 Q xs ds sim1 r1 q1
theorem se_callTy {x : Str} {p : Pos} {e : Expr} {es : List Expr} {T : String} {r : List V → Hp → VK → Prop} {g : List D → Store → R D} {m : M (List D)} (hc : CallR X (.type T) r) (hcd : CaD X.K r g) (hg : Gl X x) (hm : X.mg x = none) (hv : bootBuiltins x = some (.type T)) (ha : PA X (e :: es) (tA X.K mg W m))
    (hn : x ≠ "__name__" := by decide) (hdb : (x == ("__debug__" : Str)) = false := by decide) (he : starEach (e :: es) X.env = (false, eval e X.env) :: starEach es X.env := by rfl) (hpl : (backTo pos (starEach es X.env)).any (·.1) = false := by rfl) :
    PE X (.Call (.Name x p) (e :: es) [] pos) (tE X.K mg W (mCall g m)) := by
  refine pe_imp (pe_callTy hc hg hm hv ha hn hdb he hpl) fun σ H Q ⟨ρ, S, env, sim, re, q⟩ => ?_
  refine tM.bind sim re q fun ρ1 S1 xs ds H1 e1 sim1 re1 r1 q1 => ?_
  exact hcd mg W ρ1 S1 σ H1 Q xs ds sim1 r1 q1
end

/-! ### a list that nobody changes any more -/
/-- the newest cells go; a new list becomes data -/
def frR (n : Nat) : R D → R D
  | .ok (.loc k) S => if n ≤ k then (match S[k]? with
      | some (.lst l) => .ok (.py (.list l)) (S.take n)
      | _ => .ok (.loc k) S) else .ok (.loc k) S
  | .ok (.py d) S => .ok (.py d) (S.take n)
  | r => r
def mFr (m : M D) : M D := fun env S => frR S.length (m env S)
theorem Ext.cut {K : PySem.W.Frag} {ρ ρ' : List Addr} {H H' : Hp} {S' : Store} {n : Nat} (e : Ext ρ H ρ' H') (sim : Sim K ρ' S' H') (hn : n = ρ.length) : Ext ρ H ρ H' ∧ Sim K ρ (S'.take n) H' ∧ Sm (fz ρ' H') (fz ρ H') := by
  obtain ⟨⟨τ, rfl⟩, f⟩ := e
  have sm : Sm (fz (ρ ++ τ) H') (fz ρ H') := fun a o h => by
    obtain ⟨h1, h2⟩ := fz_some h
    rw [fz_out (fun z => h1 (List.mem_append_left _ z))]
    exact h2
  refine ⟨⟨⟨[], by simp⟩, f.trans sm⟩, ⟨?_, (List.nodup_append.mp sim.nd).1, fun k a c h1 h2 => ?_⟩, sm⟩
  · have := sim.len
    rw [List.length_append] at this
    rw [List.length_take, hn]
    omega
  · have hk : k < ρ.length := (List.getElem?_eq_some_iff.mp h1).1
    refine (sim.cell k a c (by rw [List.getElem?_append_left hk]; exact h1) ?_).mono sm
    rw [List.getElem?_take] at h2
    rw [if_pos (by rw [hn]; exact hk)] at h2
    exact h2
theorem fr_post {K : PySem.W.Frag} {mg : Str → Option Value} {W : WX} {ρ : List Addr} {S : Store} {σ : L2.St} {H : Hp} {Q : VK} {r : R D} (sim : Sim K ρ S H) (q : Post K mg W (RepD K) ρ σ H Q (frR S.length r)) : Post K mg W (RepD K) ρ σ H Q r := by
  cases r with
  | no => exact q
  | exc x S' => exact q
  | ok d S' =>
    cases d with
    | raw v => exact q
    | py d =>
      intro v H' ρ' x s r
      obtain ⟨h1, h2, h3⟩ := Ext.cut x s sim.len.symm
      exact q v H' ρ h1 h2 (dp_mono h3 r)
    | loc k =>
      simp only [frR] at q
      by_cases hk : S.length ≤ k
      · rw [if_pos hk] at q
        cases hc : S'[k]? with
        | none => simp only [hc] at q; exact q
        | some c =>
          cases c with
          | dI l => simp only [hc] at q; exact q
          | dT l => simp only [hc] at q; exact q
          | lst l =>
            simp only [hc] at q
            intro v H' ρ' x s r
            obtain ⟨h1, h2, h3⟩ := Ext.cut x s sim.len.symm
            obtain ⟨a, ha, rfl⟩ := r
            obtain ⟨xs, e, hd, _⟩ := s.cell k a _ ha hc
            refine q _ H' ρ h1 h2 (.lst (.inl (.inl ?_)) (dpa_mono h3 hd))
            have hn : a ∉ ρ := fun hm => by
              obtain ⟨⟨τ, e1⟩, _⟩ := x
              rw [e1] at ha
              have nd := s.nd
              rw [e1] at nd
              rw [List.getElem?_append_right (by rw [sim.len]; exact hk)] at ha
              exact (List.nodup_append.mp nd).2.2 a hm a (List.mem_of_getElem? ha) rfl
            rw [fz_out hn]
            exact e
      · rw [if_neg hk] at q
        exact q
theorem se_fr {X : Cx} {mg : Str → Option Value} {W : WX} {e : Expr} {m : M D} (h : PE X e (tE X.K mg W m)) : PE X e (tE X.K mg W (mFr m)) :=
  pe_imp h fun σ H Q ⟨ρ, S, env, sim, re, q⟩ => ⟨ρ, S, env, sim, re, fr_post sim q⟩
end PX

end P_PX2
section P_PX3
set_option maxHeartbeats 4000000
namespace PX
open PySem PySem.Spec PyProof.Rows L2

/-! ### what a value is -/
theorem rep_py {K : PySem.W.Frag} {ρ : List Addr} {H : Hp} {v : V} {p : PyData} (r : RepD K ρ H v (.py p)) : Dp K H v p := dp_mono (fz_sub ρ H) r
theorem dp_int {K : PySem.W.Frag} {H : Hp} {v : V} {i : Int} (h : Dp K H v (.int i)) : v = .int i := by cases h; rfl
theorem dp_bool {K : PySem.W.Frag} {H : Hp} {v : V} {i : Bool} (h : Dp K H v (.bool i)) : v = .bl i := by cases h; rfl
theorem dp_str {K : PySem.W.Frag} {H : Hp} {v : V} {i : Str} (h : Dp K H v (.str i)) : v = .str i := by cases h; rfl
theorem dp_tup {K : PySem.W.Frag} {H : Hp} {v : V} {l : List PyData} (h : Dp K H v (.tuple l)) : ∃ a xs, v = .ref a ∧ SqT K H a xs ∧ DpAll K H xs l := by
  cases h with
  | tup h1 h2 => exact ⟨_, _, rfl, h1, h2⟩
theorem dp_lst {K : PySem.W.Frag} {H : Hp} {v : V} {l : List PyData} (h : Dp K H v (.list l)) : ∃ a xs, v = .ref a ∧ SqL K H a xs ∧ DpAll K H xs l := by
  cases h with
  | lst h1 h2 => exact ⟨_, _, rfl, h1, h2⟩
theorem dp_non {K : PySem.W.Frag} {H : Hp} {v : V} (h : Dp K H v .none) : v = .non := by cases h; rfl
section
variable {K : PySem.W.Frag}

/-! ### arithmetic -/
def gI (f : Int → Int → PyData) : D → D → Store → R D := fun x y S => match x, y with
  | .py (.int i), .py (.int j) => .ok (.py (f i j)) S
  | _, _ => .no
theorem od_int {g : Int → Int → V} {f : Int → Int → PyData} (hf : ∀ i j, isSc (f i j) = true ∧ scV (f i j) = g i j) : OpD K (rI0 g) (gI f) := by
  intro mg W ρ S σ H Q x y dx dy sim rx ry q
  unfold gI at q
  split at q
  · rename_i i j
    refine ⟨i, j, dp_int (rep_py rx), dp_int (rep_py ry), ?_⟩
    rw [← (hf i j).2]
    exact post_sc sim (hf i j).1 q
  · exact q.elim
def gIc (c : Int → Int → Bool) (f : Int → Int → PyData) : D → D → Store → R D := fun x y S => match x, y with
  | .py (.int i), .py (.int j) => if c i j then .ok (.py (f i j)) S else .no
  | _, _ => .no
theorem od_intc {C : Int → Int → Prop} {c : Int → Int → Bool} {g : Int → Int → V} {f : Int → Int → PyData} (hc : ∀ i j, c i j = true → C i j) (hf : ∀ i j, isSc (f i j) = true ∧ scV (f i j) = g i j) : OpD K (rI C g) (gIc c f) := by
  intro mg W ρ S σ H Q x y dx dy sim rx ry q
  unfold gIc at q
  split at q
  · rename_i i j
    split at q
    · rename_i h
      refine ⟨i, j, dp_int (rep_py rx), dp_int (rep_py ry), hc i j h, ?_⟩
      rw [← (hf i j).2]
      exact post_sc sim (hf i j).1 q
    · exact q.elim
  · exact q.elim
def gSub := gI fun i j => .int (i - j)
def gLtI := gI fun i j => .bool (decide (i < j))
def gLe := gI fun i j => .bool (decide (i ≤ j))
def gGt := gI fun i j => .bool (decide (j < i))
def gGe := gI fun i j => .bool (decide (j ≤ i))
def cMul (i j : Int) : Bool := decide (i.natAbs < 18446744073709551616) || decide (j.natAbs < 18446744073709551616)
theorem cMul_ok {i j : Int} (h : cMul i j = true) : CMul i j := by
  unfold cMul at h
  rw [Bool.or_eq_true] at h
  rcases h with h | h
  · have := of_decide_eq_true h; exact .inl ⟨by omega, by omega⟩
  · have := of_decide_eq_true h; exact .inr ⟨by omega, by omega⟩
def gMulI := gIc cMul fun i j => .int (i * j)
def cDiv (_ j : Int) : Bool := decide (0 < j) && decide (j.natAbs.log2 < 9000)
theorem cDiv_ok {i j : Int} (h : cDiv i j = true) : CDivW i j := by
  unfold cDiv at h
  rw [Bool.and_eq_true] at h
  exact ⟨of_decide_eq_true h.1, of_decide_eq_true h.2⟩
def gDiv := gIc cDiv fun i j => .int (i / j)
def gMod := gIc (fun _ j => decide (0 < j)) fun i j => .int (i % j)
def cPow (i j : Int) : Bool := decide (0 ≤ j) && decide (j ≤ 1000000) && decide (i.natAbs < 18446744073709551616)
theorem cPow_ok {i j : Int} (h : cPow i j = true) : CPow i j := by
  unfold cPow at h
  rw [Bool.and_eq_true, Bool.and_eq_true] at h
  exact ⟨of_decide_eq_true h.1.1, of_decide_eq_true h.1.2, by have := of_decide_eq_true h.2; omega⟩
def gPow := gIc cPow fun i j => .int (i ^ j.toNat)
theorem od_sub : OpD K (rI0 fun i j => .int (i - j)) gSub := od_int fun _ _ => ⟨rfl, rfl⟩
theorem od_ltI : OpD K (rI0 fun i j => .bl (decide (i < j))) gLtI := od_int fun _ _ => ⟨rfl, rfl⟩
theorem od_le : OpD K (rI0 fun i j => .bl (decide (i ≤ j))) gLe := od_int fun _ _ => ⟨rfl, rfl⟩
theorem od_gt : OpD K (rI0 fun i j => .bl (decide (j < i))) gGt := od_int fun _ _ => ⟨rfl, rfl⟩
theorem od_ge : OpD K (rI0 fun i j => .bl (decide (j ≤ i))) gGe := od_int fun _ _ => ⟨rfl, rfl⟩
theorem od_mulI : OpD K (rI CMul fun i j => .int (i * j)) gMulI := od_intc (fun _ _ h => cMul_ok h) fun _ _ => ⟨rfl, rfl⟩
theorem od_div : OpD K (rI CDivW fun i j => .int (i / j)) gDiv := od_intc (fun _ _ h => cDiv_ok h) fun _ _ => ⟨rfl, rfl⟩
theorem od_mod : OpD K (rI (fun _ j => 0 < j) fun i j => .int (i % j)) gMod := od_intc (fun _ _ h => of_decide_eq_true h) fun _ _ => ⟨rfl, rfl⟩
theorem od_pow : OpD K (rI CPow fun i j => .int (i ^ j.toNat)) gPow := od_intc (fun _ _ h => cPow_ok h) fun _ _ => ⟨rfl, rfl⟩
def gNeg : D → Store → R D := fun x S => match x with
  | .py (.int i) => .ok (.py (.int (-i))) S
  | _ => .no
theorem ud_neg : UnD K (rU fun i => .int (-i)) gNeg := by
  intro mg W ρ S σ H Q x dx sim rx q
  unfold gNeg at q
  split at q
  · rename_i i
    exact ⟨i, dp_int (rep_py rx), post_sc (p := .int (-i)) sim rfl q⟩
  · exact q.elim
end

/-! ### a sum of lists, for whichever list -/
def rCatL (K : PySem.W.Frag) : R2 := fun x y H Q => ∃ l b xs zs, x = .ref l ∧ y = .ref b ∧ SqL K H l xs ∧ SqL K H b zs ∧ xs.length + zs.length ≤ sizeLine ∧ ∀ p, H p = none → Q (.ref p) (upd H p (.lst (xs ++ zs)))
theorem op_catL {X : Cx} : OpR X (binaryOp .Add) (rCatL X.K) := by
  intro pins s σ H x y v u Q I rx ry h
  obtain ⟨l, b, xs, zs, rfl, rfl, hH, hB, hz, q⟩ := h
  cases rx
  cases ry
  obtain ⟨its, r, ⟨o, n, e, ec, ed, es⟩, z⟩ := I.list hH
  obtain ⟨its2, r2, ⟨o2, n2, e2, ec2, ed2, es2⟩, z2⟩ := I.list hB
  have hl := r.length
  have hl2 := r2.length
  obtain ⟨oc, od, odt, osl⟩ := o
  obtain ⟨oc2, od2, odt2, osl2⟩ := o2
  simp only at ec ed es ec2 ed2 es2
  subst ec ed es ec2 ed2 es2
  refine concat_meets ⟨_, e, rfl⟩ ⟨_, e2, rfl⟩ noFill_list_add seq_list_add PySem.F.slot_list_add PySem.F.entry_list_add (PySem.F.args_list_add_2 _ _) (list_addW l b its.toArray its2.toArray n n2 _ _ osl osl2 (by rw [List.size_toArray, List.size_toArray]; omega)) ⟨e, e2, ?_⟩
  have ea : its.toArray ++ its2.toArray = (its ++ its2).toArray := by simp
  rw [ea]
  exact ⟨.ref _, _, I.lnew (t' := s.toks) (r.append r2) (by rw [List.length_append]; omega), rfl, q _ I.fresh⟩
section
variable {K : PySem.W.Frag}
theorem or_d {r r' : R2} {g : D → D → Store → R D} (c : D → D → Store → Bool) (h : OpD K r fun x y S => if c x y S then g x y S else .no) (h' : OpD K r' fun x y S => if c x y S then .no else g x y S) : OpD K (fun x y H Q => r x y H Q ∨ r' x y H Q) g := by
  intro mg W ρ S σ H Q x y dx dy sim rx ry q
  cases hc : c dx dy S with
  | true => exact .inl (h mg W ρ S σ H Q x y dx dy sim rx ry (by simp only [hc]; exact q))
  | false => exact .inr (h' mg W ρ S σ H Q x y dx dy sim rx ry (by simp only [hc]; exact q))
/-- + : ints, tuples, lists, texts -/
def gAdd : D → D → Store → R D := fun x y S => match rd S x, rd S y with
  | some (.int i), some (.int j) => .ok (.py (.int (i + j))) S
  | some (.tuple a), some (.tuple b) => if fits (a.length + b.length) then .ok (.py (.tuple (a ++ b))) S else .no
  | some (.list a), some (.list b) => if fits (a.length + b.length) then .ok (.loc S.length) (S ++ [.lst (a ++ b)]) else .no
  | some (.str a), some (.str b) => if fits (a.length + b.length) then .ok (.py (.str (a ++ b))) S else .no
  | _, _ => .no
def rAddA (K : PySem.W.Frag) : R2 := fun x y H Q => (∃ i j, x = .int i ∧ y = .int j ∧ Q (.int (i + j)) H) ∨ (rCatA K x y H Q ∨ (rCatL K x y H Q ∨ ∃ i j, x = .str i ∧ y = .str j ∧ i.length + j.length ≤ sizeLine ∧ Q (.str (i ++ j)) H))
theorem op_addA {X : Cx} : OpR X (binaryOp .Add) (rAddA X.K) := OpR.or op_add (OpR.or op_catA (OpR.or op_catL op_add_str))
theorem rd_tup {S : Store} {d : D} {l : List PyData} (h : rd S d = some (.tuple l)) : d = .py (.tuple l) := by
  cases d with
  | py d => cases h; rfl
  | loc n =>
    unfold rd at h
    cases hc : S[n]? with
    | none => simp only [hc] at h; cases h
    | some c => simp only [hc] at h; cases c <;> cases h
  | raw v => cases h
theorem od_add : OpD K (rAddA K) gAdd := by
  intro mg W ρ S σ H Q x y dx dy sim rx ry q
  unfold gAdd at q
  split at q
  · rename_i i j hx hy
    exact .inl ⟨i, j, dp_int (rd_ok sim rx hx), dp_int (rd_ok sim ry hy), post_sc (p := .int (i + j)) sim rfl q⟩
  · rename_i a b hx hy
    have ex := rd_tup hx
    have ey := rd_tup hy
    subst ex ey
    split at q
    · rename_i hf
      obtain ⟨p, xs, rfl, h1, d1⟩ := dp_tup (show Dp K (fz ρ H) x (.tuple a) from rx)
      obtain ⟨p2, ys, rfl, h2, d2⟩ := dp_tup (show Dp K (fz ρ H) y (.tuple b) from ry)
      have hl := dpa_length d1
      have hl2 := dpa_length d2
      refine .inr (.inl ⟨p, p2, xs, ys, rfl, rfl, sqt_mono (fz_sub ρ H) h1, sqt_mono (fz_sub ρ H) h2, by rw [hl, hl2]; exact fits_ok hf, fun e => ?_, fun _ e => ?_, fun _ _ p hp => post_tup sim hp (dpa_append d1 d2) q⟩)
      · subst e
        cases d1
        rw [List.nil_append] at q
        exact post_v (d := .py (.tuple b)) sim ry q
      · subst e
        cases d2
        rw [List.append_nil] at q
        exact post_v (d := .py (.tuple a)) sim rx q
    · exact q.elim
  · rename_i a b hx hy
    split at q
    · rename_i hf
      obtain ⟨p, xs, rfl, h1, d1⟩ := dp_lst (rd_ok sim rx hx)
      obtain ⟨p2, ys, rfl, h2, d2⟩ := dp_lst (rd_ok sim ry hy)
      have hl := dpa_length d1
      have hl2 := dpa_length d2
      -- the items are data, so they stand in the part that stays
      obtain ⟨xs', e1, d1'⟩ : ∃ xs', SqL K H p xs' ∧ DpAll K (fz ρ H) xs' a := by
        cases dx with
        | py d => cases hx; obtain ⟨p', xs', e, h, d⟩ := dp_lst (show Dp K (fz ρ H) (.ref p) (.list a) from rx); cases e; exact ⟨xs', sql_mono (fz_sub ρ H) h, d⟩
        | loc n =>
          obtain ⟨p', e, e'⟩ := rx
          cases e'
          unfold rd at hx
          cases hc : S[n]? with
          | none => simp only [hc] at hx; cases hx
          | some c =>
            simp only [hc] at hx
            cases c with
            | lst l => cases hx; obtain ⟨xs', e3, d, _⟩ := sim.cell n p _ e hc; exact ⟨xs', SqL.of e3, d⟩
            | dI l => cases hx
            | dT l => cases hx
        | raw v => cases hx
      obtain ⟨ys', e2, d2'⟩ : ∃ xs', SqL K H p2 xs' ∧ DpAll K (fz ρ H) xs' b := by
        cases dy with
        | py d => cases hy; obtain ⟨p', xs', e, h, d⟩ := dp_lst (show Dp K (fz ρ H) (.ref p2) (.list b) from ry); cases e; exact ⟨xs', sql_mono (fz_sub ρ H) h, d⟩
        | loc n =>
          obtain ⟨p', e, e'⟩ := ry
          cases e'
          unfold rd at hy
          cases hc : S[n]? with
          | none => simp only [hc] at hy; cases hy
          | some c =>
            simp only [hc] at hy
            cases c with
            | lst l => cases hy; obtain ⟨xs', e3, d, _⟩ := sim.cell n p2 _ e hc; exact ⟨xs', SqL.of e3, d⟩
            | dI l => cases hy
            | dT l => cases hy
        | raw v => cases hy
      have hz : xs'.length + ys'.length ≤ sizeLine := by rw [dpa_length d1', dpa_length d2']; exact fits_ok hf
      exact .inr (.inr (.inl ⟨p, p2, xs', ys', rfl, rfl, e1, e2, hz, fun c hc => post_loc (c := .lst (a ++ b)) sim hc ⟨_, rfl, dpa_append d1' d2', by rw [List.length_append]; exact hz⟩ q⟩))
    · exact q.elim
  · rename_i a b hx hy
    split at q
    · rename_i hf
      exact .inr (.inr (.inr ⟨a, b, dp_str (rd_ok sim rx hx), dp_str (rd_ok sim ry hy), fits_ok hf, post_sc (p := .str (a ++ b)) sim rfl q⟩))
    · exact q.elim
  · exact q.elim
/-- the list that a value tells, its items in the part that stays -/
theorem rd_lst {ρ : List Addr} {S : Store} {H : Hp} {v : V} {d : D} {l : List PyData} (sim : Sim K ρ S H) (r : RepD K ρ H v d) (h : rd S d = some (.list l)) : ∃ p xs, v = .ref p ∧ SqL K H p xs ∧ DpAll K (fz ρ H) xs l := by
  cases d with
  | py d => cases h; obtain ⟨p', xs', e, h, d⟩ := dp_lst (show Dp K (fz ρ H) v (.list l) from r); exact ⟨p', xs', e, sql_mono (fz_sub ρ H) h, d⟩
  | loc n =>
    obtain ⟨p', e, e'⟩ := r
    unfold rd at h
    cases hc : S[n]? with
    | none => simp only [hc] at h; cases h
    | some c =>
      simp only [hc] at h
      cases c with
      | lst l => cases h; obtain ⟨xs', e3, d, _⟩ := sim.cell n p' _ e hc; exact ⟨p', xs', e', SqL.of e3, d⟩
      | dI l => cases h
      | dT l => cases h
  | raw v => cases h
theorem rd_tupl {ρ : List Addr} {S : Store} {H : Hp} {v : V} {d : D} {l : List PyData} (r : RepD K ρ H v d) (h : rd S d = some (.tuple l)) : ∃ p xs, v = .ref p ∧ SqT K H p xs ∧ DpAll K (fz ρ H) xs l := by
  have e := rd_tup h
  subst e
  obtain ⟨p', xs', e, h, d⟩ := dp_tup (show Dp K (fz ρ H) v (.tuple l) from r)
  exact ⟨p', xs', e, sqt_mono (fz_sub ρ H) h, d⟩

/-! ### == and != -/
def gEq : D → D → Store → R D := fun x y S => match rd S x, rd S y with
  | some p, some q => if SeqAt.shaped p && SeqAt.shaped q then .ok (.py (.bool (PyData.eqv p q))) S else .no
  | _, _ => .no
def gNe : D → D → Store → R D := fun x y S => match rd S x, rd S y with
  | some p, some q => if SeqAt.shaped p && SeqAt.shaped q then .ok (.py (.bool (!PyData.eqv p q))) S else .no
  | _, _ => .no
theorem od_eq : OpD K (rEqD K) gEq := by
  intro mg W ρ S σ H Q x y dx dy sim rx ry q
  unfold gEq at q
  split at q
  · rename_i a b hx hy
    split at q
    · rename_i hf
      rw [Bool.and_eq_true] at hf
      exact ⟨a, b, rd_ok sim rx hx, rd_ok sim ry hy, hf.1, hf.2, post_sc (p := .bool _) sim rfl q⟩
    · exact q.elim
  · exact q.elim
theorem od_ne : OpD K (rNeD K) gNe := by
  intro mg W ρ S σ H Q x y dx dy sim rx ry q
  unfold gNe at q
  split at q
  · rename_i a b hx hy
    split at q
    · rename_i hf
      rw [Bool.and_eq_true] at hf
      exact ⟨a, b, rd_ok sim rx hx, rd_ok sim ry hy, hf.1, hf.2, post_sc (p := .bool _) sim rfl q⟩
    · exact q.elim
  · exact q.elim
/-! ### is None, is True .. -/
def isNone : D → Bool
  | .py .none => true
  | _ => false
def gIs : D → D → Store → R D := fun x y S => match y with
  | .py .none => (match x with
    | .raw _ => .no
    | _ => .ok (.py (.bool (isNone x))) S)
  | .py (.bool b) => (match x with
    | .py (.bool a) => .ok (.py (.bool (decide (a = b)))) S
    | _ => .no)
  | _ => .no
def gIsNot : D → D → Store → R D := fun x y S => match y with
  | .py .none => (match x with
    | .raw _ => .no
    | _ => .ok (.py (.bool (!isNone x))) S)
  | .py (.bool b) => (match x with
    | .py (.bool a) => .ok (.py (.bool (!decide (a = b)))) S
    | _ => .no)
  | _ => .no
def rIsA : R2 := fun x y H Q => (y = .non ∧ Q (.bl (decide (x = .non))) H) ∨ rIsB x y H Q
def rIsNotA : R2 := fun x y H Q => (y = .non ∧ Q (.bl (!decide (x = .non))) H) ∨ rNotB x y H Q
theorem op_isA {X : Cx} : OpR X (compareOp .Is) rIsA := OpR.or op_isN op_isBl
theorem op_isnotA {X : Cx} : OpR X (compareOp .IsNot) rIsNotA := OpR.or op_notN op_notBl
theorem isNone_ok {ρ : List Addr} {H : Hp} {v : V} {d : D} (r : RepD K ρ H v d) (hr : ∀ w, d ≠ .raw w) : decide (v = .non) = isNone d := by
  cases d with
  | raw w => exact absurd rfl (hr w)
  | loc n => obtain ⟨a, _, rfl⟩ := r; rfl
  | py d =>
    cases d with
    | none => rw [dp_non (rep_py r)]; rfl
    | bool b => rw [dp_bool (rep_py r)]; rfl
    | int b => rw [dp_int (rep_py r)]; rfl
    | str b => rw [dp_str (rep_py r)]; rfl
    | list l => obtain ⟨a, _, rfl, _⟩ := dp_lst (rep_py r); rfl
    | tuple l => obtain ⟨a, _, rfl, _⟩ := dp_tup (rep_py r); rfl
    | dict l => cases (rep_py r)
theorem od_is : OpD K rIsA gIs := by
  intro mg W ρ S σ H Q x y dx dy sim rx ry q
  unfold gIs at q
  split at q
  · split at q
    · exact q.elim
    · rename_i hr
      refine .inl ⟨dp_non (rep_py ry), ?_⟩
      rw [isNone_ok rx fun w e => hr w e]
      exact post_sc (p := .bool _) sim rfl q
  · split at q
    · rename_i a
      exact .inr ⟨_, _, dp_bool (rep_py rx), dp_bool (rep_py ry), post_sc (p := .bool _) sim rfl q⟩
    · exact q.elim
  · exact q.elim
theorem od_isnot : OpD K rIsNotA gIsNot := by
  intro mg W ρ S σ H Q x y dx dy sim rx ry q
  unfold gIsNot at q
  split at q
  · split at q
    · exact q.elim
    · rename_i hr
      refine .inl ⟨dp_non (rep_py ry), ?_⟩
      rw [isNone_ok rx fun w e => hr w e]
      exact post_sc (p := .bool _) sim rfl q
  · split at q
    · rename_i a
      exact .inr ⟨_, _, dp_bool (rep_py rx), dp_bool (rep_py ry), post_sc (p := .bool _) sim rfl q⟩
    · exact q.elim
  · exact q.elim
end
end PX

end P_PX3
section P_PX4
set_option maxHeartbeats 4000000
namespace PX
open PySem PySem.Spec PyProof.Rows L2

/-! ### what is walked -/
def Walks (K : PySem.W.Frag) (ρ : List Addr) (H : Hp) (J : It) (ps : List PyData) : Prop :=
  ∀ (i : Nat) (ρ' : List Addr) (H' : Hp), Ext ρ H ρ' H' →
    (ps.length ≤ i → J.stop i H') ∧ (∀ p, ps[i]? = some p → J.go i H' ∧ ∀ x H'', J.yld i H' x H'' → (∃ T o, H' T = none ∧ H'' = upd H' T o ∨ H'' = H') ∧ (∀ S, Sim K ρ' S H' → Dp K (fz ρ' H'') x p))
abbrev tI (K : PySem.W.Frag) (mg : Str → Option Value) (W : WX) (m : M (List PyData)) : TI := tM K mg W (Walks K) m
theorem pi_imp {X : Cx} {tg e : Expr} {t t' : TI} (h : PI X tg e t) (i : ∀ σ H R, t' σ H R → t σ H R) : PI X tg e t' := ⟨fun pins s σ H R I q => h.run pins s σ H R I (i σ H R q)⟩
/-- the items of data -/
def itemsOf : D → Option (List PyData)
  | .py (.list l) => some l
  | .py (.tuple l) => some l
  | _ => none
def gItems (x : D) (S : Store) : R (List PyData) := match itemsOf x with
  | some l => .ok l S
  | none => .no
def mItems (m : M D) : M (List PyData) := fun env S => bd (m env S) gItems
def iSeq (K : PySem.W.Frag) (tl : TE) : TI := fun σ H R => tl σ H fun x H1 => ∃ a, x = .ref a ∧ (((∃ xs, SqL K H1 a xs) ∧ R (Itl K a) H1) ∨ ((∃ xs, SqT K H1 a xs) ∧ R (Itt K a) H1))
section
variable {X : Cx} {mg : Str → Option Value} {W : WX} {tg : Expr}
theorem pi_seq {l : Expr} {tl : TE} (hl : PE X l tl) : PI X tg l (iSeq X.K tl) := by
  refine ⟨fun pins s σ H R I h => ?_⟩
  refine thn (hl.run pins s σ H _ I h) fun v s1 ⟨x, H1, I1, r1, q1⟩ => ?_
  obtain ⟨a, e, q⟩ := q1
  subst e
  cases r1
  rcases q with ⟨⟨xs, hq⟩, q⟩ | ⟨⟨xs, hq⟩, q⟩
  · obtain ⟨its, rv, p, hz⟩ := I1.list hq
    refine wpAny_pyIter_list p.isList ?_
    refine ⟨s1.heap.objs.size, [s1.heap.objs.size], _, _, H1, rfl, I1.kept (t' := s1.toks) fun b o e => Heap.get?_push_of_some _ e, turn_list a _, ⟨_, Heap.get?_push_size _ rfl, rfl, rfl⟩, fun b hb => ?_, q⟩
    have e : b = s1.heap.objs.size := by simpa using hb
    subst e
    exact I1.fpOk (Nat.le_refl _) (I1.hok.fresh (Nat.le_refl _))
  · obtain ⟨its, rv, p, hz⟩ := I1.tuple hq
    refine wpAny_pyIter_tuple (show s1.heap.IsTuple a its.toArray from p) ?_
    refine ⟨s1.heap.objs.size, [s1.heap.objs.size], _, _, H1, rfl, I1.kept (t' := s1.toks) fun b o e => Heap.get?_push_of_some _ e, turn_tuple a _, ⟨_, Heap.get?_push_size _ rfl, rfl, rfl⟩, fun b hb => ?_, q⟩
    have e : b = s1.heap.objs.size := by simpa using hb
    subst e
    exact I1.fpOk (Nat.le_refl _) (I1.hok.fresh (Nat.le_refl _))
theorem walks_list {K : PySem.W.Frag} {ρ : List Addr} {H : Hp} {a : Addr} {xs : List V} {ps : List PyData} (h : SqL K (fz ρ H) a xs) (hd : DpAll K (fz ρ H) xs ps) : Walks K ρ H (Itl K a) ps := by
  intro i ρ' H' e
  have hs : SqL K H' a xs := sql_mono (fz_sub ρ' H') (sql_mono e.fr h)
  have hd' := dpa_mono e.fr hd
  refine ⟨fun hl => ⟨xs, hs, by rw [dpa_length hd]; exact hl⟩, fun p hp => ?_⟩
  obtain ⟨v, hv, dv⟩ := dpa_get hd' hp
  refine ⟨⟨xs, v, hs, hv⟩, fun x H'' y => ?_⟩
  obtain ⟨e1, y⟩ := y
  subst e1
  have ev : x = v := Option.some.inj ((y xs hs).symm.trans hv)
  subst ev
  exact ⟨⟨0, .lst [], .inr rfl⟩, fun _ _ => dv⟩
theorem walks_tup {K : PySem.W.Frag} {ρ : List Addr} {H : Hp} {a : Addr} {xs : List V} {ps : List PyData} (h : SqT K (fz ρ H) a xs) (hd : DpAll K (fz ρ H) xs ps) : Walks K ρ H (Itt K a) ps := by
  intro i ρ' H' e
  have hs : SqT K H' a xs := sqt_mono (fz_sub ρ' H') (sqt_mono e.fr h)
  have hd' := dpa_mono e.fr hd
  refine ⟨fun hl => ⟨xs, hs, by rw [dpa_length hd]; exact hl⟩, fun p hp => ?_⟩
  obtain ⟨v, hv, dv⟩ := dpa_get hd' hp
  refine ⟨⟨xs, v, hs, hv⟩, fun x H'' y => ?_⟩
  obtain ⟨e1, y⟩ := y
  subst e1
  have ev : x = v := Option.some.inj ((y xs hs).symm.trans hv)
  subst ev
  exact ⟨⟨0, .lst [], .inr rfl⟩, fun _ _ => dv⟩
theorem si_seq {l : Expr} {m : M D} (hl : PE X l (tE X.K mg W m)) : PI X tg l (tI X.K mg W (mItems m)) := by
  refine pi_imp (pi_seq hl) fun σ H R ⟨ρ, S, env, sim, re, q⟩ => ?_
  refine tM.bind sim re q fun ρ1 S1 x dx H1 e1 sim1 re1 r1 q1 => ?_
  unfold gItems at q1
  cases dx with
  | loc n => exact q1.elim
  | raw v => exact q1.elim
  | py d =>
    cases d with
    | list l =>
      obtain ⟨a, xs, e, h, d⟩ := dp_lst (show Dp X.K (fz ρ1 H1) x (.list l) from r1)
      exact ⟨a, e, .inl ⟨⟨xs, sql_mono (fz_sub _ _) h⟩, q1 _ H1 ρ1 (Ext.refl _ _) sim1 (walks_list h d)⟩⟩
    | tuple l =>
      obtain ⟨a, xs, e, h, d⟩ := dp_tup (show Dp X.K (fz ρ1 H1) x (.tuple l) from r1)
      exact ⟨a, e, .inr ⟨⟨xs, sqt_mono (fz_sub _ _) h⟩, q1 _ H1 ρ1 (Ext.refl _ _) sim1 (walks_tup h d)⟩⟩
    | _ => exact q1.elim
/-- range -/
def rangeL (lo : Int) : Nat → List PyData
  | 0 => []
  | n + 1 => .int lo :: rangeL (lo + 1) n
theorem rangeL_len : ∀ (n : Nat) (lo : Int), (rangeL lo n).length = n
  | 0, _ => rfl
  | n + 1, lo => by show (rangeL (lo + 1) n).length + 1 = n + 1; rw [rangeL_len n]
theorem rangeL_get : ∀ (n : Nat) (lo : Int) (i : Nat), (rangeL lo n)[i]? = if i < n then some (.int (lo + i)) else none
  | 0, lo, i => by simp [rangeL]
  | n + 1, lo, 0 => by simp [rangeL]
  | n + 1, lo, i + 1 => by
    show (rangeL (lo + 1) n)[i]? = _
    rw [rangeL_get n (lo + 1) i]
    by_cases h : i < n
    · rw [if_pos h, if_pos (by omega)]; congr 2; omega
    · rw [if_neg h, if_neg (by omega)]
theorem walks_range {K : PySem.W.Frag} {ρ : List Addr} {H : Hp} {lo : Int} {n : Nat} : Walks K ρ H (Itr lo n) (rangeL lo n) := by
  intro i ρ' H' e
  refine ⟨fun hl => by rw [rangeL_len] at hl; exact hl, fun p hp => ?_⟩
  rw [rangeL_get] at hp
  by_cases h : i < n
  · rw [if_pos h] at hp
    cases hp
    refine ⟨h, fun x H'' y => ?_⟩
    obtain ⟨e1, e2⟩ := y
    subst e1 e2
    exact ⟨⟨0, .lst [], .inr rfl⟩, fun _ _ => .int _⟩
  · rw [if_neg h] at hp; cases hp
def inR (i : Int) : Bool := decide (-4611686018427387904 ≤ i) && decide (i < 4611686018427387904)
theorem inR_ok {i : Int} (h : inR i = true) : -(2 ^ 62) ≤ i ∧ i < 2 ^ 62 := by
  unfold inR at h
  rw [Bool.and_eq_true] at h
  have h1 := of_decide_eq_true h.1
  have h2 := of_decide_eq_true h.2
  exact ⟨by omega, by omega⟩
def gRange1 (ds : List D) (S : Store) : R (List PyData) := match ds with
  | [.py (.int j)] => if inR j then .ok (rangeL 0 j.toNat) S else .no
  | _ => .no
def gRange2 (ds : List D) (S : Store) : R (List PyData) := match ds with
  | [.py (.int i), .py (.int j)] => if inR i && inR j then .ok (rangeL i (j - i).toNat) S else .no
  | _ => .no
def mCallI (g : List D → Store → R (List PyData)) (as : M (List D)) : M (List PyData) := fun env S => bd (as env S) fun xs S1 => g xs S1
theorem reps1 {K : PySem.W.Frag} {ρ : List Addr} {H : Hp} {xs : List V} {p : PyData} (r : RepDs K ρ H xs [.py p]) : ∃ x, xs = [x] ∧ Dp K (fz ρ H) x p := by
  cases r with
  | cons r rr => cases rr; exact ⟨_, rfl, r⟩
theorem reps2 {K : PySem.W.Frag} {ρ : List Addr} {H : Hp} {xs : List V} {p q : PyData} (r : RepDs K ρ H xs [.py p, .py q]) : ∃ x y, xs = [x, y] ∧ Dp K (fz ρ H) x p ∧ Dp K (fz ρ H) y q := by
  cases r with
  | cons r rr => cases rr with
    | cons r2 rr => cases rr; exact ⟨_, _, rfl, r, r2⟩
theorem si_range1 {a : Expr} {m : M (List D)} {p pos : Pos} (hg : Gl X "range") (hm : X.mg "range" = none) (ha : PA X [a] (tA X.K mg W m)) (hs : starEach [a] X.env = [(false, eval a X.env)] := by rfl) : PI X tg (.Call (.Name "range" p) [a] [] pos) (tI X.K mg W (mCallI gRange1 m)) := by
  refine pi_imp (pi_range1 hg hm ha hs) fun σ H R ⟨ρ, S, env, sim, re, q⟩ => ?_
  refine tM.bind sim re q fun ρ1 S1 xs ds H1 e1 sim1 re1 r1 q1 => ?_
  unfold gRange1 at q1
  split at q1
  · rename_i j
    obtain ⟨x, rfl, d⟩ := reps1 r1
    split at q1
    · rename_i hj
      obtain ⟨h1, h2⟩ := inR_ok hj
      exact ⟨j, by rw [dp_int d], h1, h2, q1 _ H1 ρ1 (Ext.refl _ _) sim1 walks_range⟩
    · exact q1.elim
  · exact q1.elim
theorem si_range2 {a b : Expr} {m : M (List D)} {p pos : Pos} (hg : Gl X "range") (hm : X.mg "range" = none) (ha : PA X [a, b] (tA X.K mg W m)) (hs : starEach [a, b] X.env = [(false, eval a X.env), (false, eval b X.env)] := by rfl) (hs2 : starEach [b] X.env = [(false, eval b X.env)] := by rfl) :
    PI X tg (.Call (.Name "range" p) [a, b] [] pos) (tI X.K mg W (mCallI gRange2 m)) := by
  refine pi_imp (pi_range2 hg hm ha hs hs2) fun σ H R ⟨ρ, S, env, sim, re, q⟩ => ?_
  refine tM.bind sim re q fun ρ1 S1 xs ds H1 e1 sim1 re1 r1 q1 => ?_
  unfold gRange2 at q1
  split at q1
  · rename_i i j
    obtain ⟨x, y, rfl, d, d2⟩ := reps2 r1
    split at q1
    · rename_i hj
      rw [Bool.and_eq_true] at hj
      obtain ⟨h1, h2⟩ := inR_ok hj.1
      obtain ⟨h3, h4⟩ := inR_ok hj.2
      exact ⟨i, j, by rw [dp_int d, dp_int d2], ⟨h1, h2, h3, h4⟩, q1 _ H1 ρ1 (Ext.refl _ _) sim1 walks_range⟩
    · exact q1.elim
  · exact q1.elim
/-! zip of two tuples, of two lists -/
def zipT : List PyData → List PyData → List PyData
  | x :: xs, y :: ys => .tuple [x, y] :: zipT xs ys
  | _, _ => []
theorem zipT_get : ∀ (xs ys : List PyData) (i : Nat), (zipT xs ys)[i]? = match xs[i]?, ys[i]? with
    | some x, some y => some (.tuple [x, y])
    | _, _ => none
  | [], ys, i => by simp [zipT]
  | x :: xs, [], i => by simp [zipT]
  | x :: xs, y :: ys, 0 => by simp [zipT]
  | x :: xs, y :: ys, i + 1 => by
    show (zipT xs ys)[i]? = _
    rw [zipT_get xs ys i]
    simp
theorem zipT_len : ∀ (xs ys : List PyData), (zipT xs ys).length = min xs.length ys.length
  | [], ys => by simp [zipT]
  | x :: xs, [] => by simp [zipT]
  | x :: xs, y :: ys => by simp [zipT, zipT_len xs ys]
def gZip (ds : List D) (S : Store) : R (List PyData) := match ds with
  | [.py (.tuple a), .py (.tuple b)] => .ok (zipT a b) S
  | [.py (.list a), .py (.list b)] => .ok (zipT a b) S
  | _ => .no
theorem dp_pair {K : PySem.W.Frag} {ρ : List Addr} {S : Store} {H : Hp} {T : Addr} {x y : V} {p q : PyData} (sim : Sim K ρ S H) (hT : H T = none) (h1 : Dp K (fz ρ H) x p) (h2 : Dp K (fz ρ H) y q) : Dp K (fz ρ (L2.upd H T (.tup [x, y]))) (.ref T) (.tuple [p, q]) := by
  have e := (ext_new (o := .tup [x, y]) sim hT).fr
  refine .tup (.inl (.inl ?_)) (.cons (dp_mono e h1) (.cons (dp_mono e h2) .nil))
  rw [fz_out (sim_new sim hT), upd_same]
theorem walks_zipT {K : PySem.W.Frag} {ρ : List Addr} {H : Hp} {a b : Addr} {xs ys : List V} {ps qs : List PyData} (h : SqT K (fz ρ H) a xs) (hd : DpAll K (fz ρ H) xs ps) (h2 : SqT K (fz ρ H) b ys) (hd2 : DpAll K (fz ρ H) ys qs) : Walks K ρ H (RZ.ItzT K a b) (zipT ps qs) := by
  intro i ρ' H' e
  have hs : SqT K H' a xs := sqt_mono (fz_sub ρ' H') (sqt_mono e.fr h)
  have hs2 : SqT K H' b ys := sqt_mono (fz_sub ρ' H') (sqt_mono e.fr h2)
  have hd' := dpa_mono e.fr hd
  have hd2' := dpa_mono e.fr hd2
  refine ⟨fun hl => ⟨xs, ys, hs, hs2, ?_⟩, fun p hp => ?_⟩
  · rw [zipT_len] at hl
    rw [dpa_length hd, dpa_length hd2]
    omega
  rw [zipT_get] at hp
  cases e1 : ps[i]? with
  | none => rw [e1] at hp; cases hp
  | some p1 =>
    cases e2 : qs[i]? with
    | none => rw [e1, e2] at hp; cases hp
    | some p2 =>
      rw [e1, e2] at hp
      cases hp
      obtain ⟨v, hv, dv⟩ := dpa_get hd' e1
      obtain ⟨v2, hv2, dv2⟩ := dpa_get hd2' e2
      refine ⟨⟨xs, ys, v, v2, hs, hs2, hv, hv2⟩, fun x H'' y => ?_⟩
      obtain ⟨T, u, u2, rfl, hT, rfl, f1, f2⟩ := y
      have eu : u = v := Option.some.inj ((f1 xs hs).symm.trans hv)
      have eu2 : u2 = v2 := Option.some.inj ((f2 ys hs2).symm.trans hv2)
      subst eu eu2
      exact ⟨⟨T, _, .inl ⟨hT, rfl⟩⟩, fun S sim => dp_pair sim hT dv dv2⟩
theorem walks_zipL {K : PySem.W.Frag} {ρ : List Addr} {H : Hp} {a b : Addr} {xs ys : List V} {ps qs : List PyData} (h : SqL K (fz ρ H) a xs) (hd : DpAll K (fz ρ H) xs ps) (h2 : SqL K (fz ρ H) b ys) (hd2 : DpAll K (fz ρ H) ys qs) : Walks K ρ H (Itz K a b) (zipT ps qs) := by
  intro i ρ' H' e
  have hs : SqL K H' a xs := sql_mono (fz_sub ρ' H') (sql_mono e.fr h)
  have hs2 : SqL K H' b ys := sql_mono (fz_sub ρ' H') (sql_mono e.fr h2)
  have hd' := dpa_mono e.fr hd
  have hd2' := dpa_mono e.fr hd2
  refine ⟨fun hl => ⟨xs, ys, hs, hs2, ?_⟩, fun p hp => ?_⟩
  · rw [zipT_len] at hl
    rw [dpa_length hd, dpa_length hd2]
    omega
  rw [zipT_get] at hp
  cases e1 : ps[i]? with
  | none => rw [e1] at hp; cases hp
  | some p1 =>
    cases e2 : qs[i]? with
    | none => rw [e1, e2] at hp; cases hp
    | some p2 =>
      rw [e1, e2] at hp
      cases hp
      obtain ⟨v, hv, dv⟩ := dpa_get hd' e1
      obtain ⟨v2, hv2, dv2⟩ := dpa_get hd2' e2
      refine ⟨⟨xs, ys, v, v2, hs, hs2, hv, hv2⟩, fun x H'' y => ?_⟩
      obtain ⟨T, u, u2, rfl, hT, rfl, f1, f2⟩ := y
      have eu : u = v := Option.some.inj ((f1 xs hs).symm.trans hv)
      have eu2 : u2 = v2 := Option.some.inj ((f2 ys hs2).symm.trans hv2)
      subst eu eu2
      exact ⟨⟨T, _, .inl ⟨hT, rfl⟩⟩, fun S sim => dp_pair sim hT dv dv2⟩
theorem si_zip {e e2 : Expr} {m : M (List D)} {p pos tpos : Pos} {elts : List Expr} {kk : Nat} (hg : Gl X "zip") (hm : X.mg "zip" = none) (ha : PA X [e, e2] (tA X.K mg W m))
    (hs : starEach [e, e2] X.env = (false, eval e X.env) :: starEach [e2] X.env := by rfl) (hpl : (backTo pos (starEach [e2] X.env)).any (·.1) = false := by rfl) :
    PI X (.Tuple elts kk tpos) (.Call (.Name "zip" p) [e, e2] [] pos) (tI X.K mg W (mCallI gZip m)) := by
  refine pi_imp (RZ.pi_zipA hg hm ha hs hpl) fun σ H R ⟨ρ, S, env, sim, re, q⟩ => ?_
  refine tM.bind sim re q fun ρ1 S1 xs ds H1 e1 sim1 re1 r1 q1 => ?_
  unfold gZip at q1
  split at q1
  · obtain ⟨x, y, rfl, d, d2⟩ := reps2 r1
    obtain ⟨a, xs, rfl, h, hd⟩ := dp_tup d
    obtain ⟨b, ys, rfl, h2, hd2⟩ := dp_tup d2
    exact ⟨a, b, xs, ys, rfl, .inr ⟨sqt_mono (fz_sub _ _) h, sqt_mono (fz_sub _ _) h2, q1 _ H1 ρ1 (Ext.refl _ _) sim1 (walks_zipT h hd h2 hd2)⟩⟩
  · obtain ⟨x, y, rfl, d, d2⟩ := reps2 r1
    obtain ⟨a, xs, rfl, h, hd⟩ := dp_lst d
    obtain ⟨b, ys, rfl, h2, hd2⟩ := dp_lst d2
    exact ⟨a, b, xs, ys, rfl, .inl ⟨sql_mono (fz_sub _ _) h, sql_mono (fz_sub _ _) h2, q1 _ H1 ρ1 (Ext.refl _ _) sim1 (walks_zipL h hd h2 hd2)⟩⟩
  · exact q1.elim
end

/-! ### targets -/
abbrev MG := D → Ev → Store → R Ev
def OnlyAt (ws : List Nat) (σ σ' : L2.St) : Prop := σ'.length = σ.length ∧ ∀ j, j ∉ ws → σ'[j]? = σ[j]?
def PostG (K : PySem.W.Frag) (ρ : List Addr) (ws : List Nat) (σ : L2.St) (H : Hp) (Q : L2.St → Hp → Prop) : R Ev → Prop
  | .ok env S => ∀ σ' H' ρ', Ext ρ H ρ' H' → Sim K ρ' S H' → REnv K ρ' H' σ' env → OnlyAt ws σ σ' → Q σ' H'
  | _ => False
def tG (K : PySem.W.Frag) (ws : List Nat) (m : MG) : TG := fun v σ H Q => ∃ ρ S env d, Sim K ρ S H ∧ REnv K ρ H σ env ∧ RepD K ρ H v d ∧ PostG K ρ ws σ H Q (m d env S)
def tGs (K : PySem.W.Frag) (ws : List Nat) (m : List D → Ev → Store → R Ev) : TGs := fun vs σ H Q => ∃ ρ S env ds, Sim K ρ S H ∧ REnv K ρ H σ env ∧ RepDs K ρ H vs ds ∧ PostG K ρ ws σ H Q (m ds env S)
theorem pg_imp {X : Cx} {e : Expr} {t t' : TG} (h : PG X e t) (i : ∀ v σ H Q, t' v σ H Q → t v σ H Q) : PG X e t' := ⟨fun pins s σ H v u Q I r q => h.run pins s σ H v u Q I r (i v σ H Q q)⟩
theorem pgs_imp {X : Cx} {e : List Expr} {t t' : TGs} (h : PGs X e t) (i : ∀ v σ H Q, t' v σ H Q → t v σ H Q) : PGs X e t' := ⟨fun pins s σ H v u Q I r q => h.run pins s σ H v u Q I r (i v σ H Q q)⟩
theorem OnlyAt.trans {ws ws' : List Nat} {σ σ1 σ2 : L2.St} (a : OnlyAt ws σ σ1) (b : OnlyAt ws' σ1 σ2) : OnlyAt (ws ++ ws') σ σ2 :=
  ⟨b.1.trans a.1, fun j hj => (b.2 j fun z => hj (List.mem_append_right _ z)).trans (a.2 j fun z => hj (List.mem_append_left _ z))⟩
theorem onlyAt_set (σ : L2.St) (i : Nat) (v : Option V) : OnlyAt [i] σ (σ.set i v) := ⟨by rw [List.length_set], fun j hj => by rw [List.getElem?_set_ne (fun e => hj (by simp [e]))]⟩
def aN (i : Nat) : MG := fun d env S => .ok (env.set i (some d)) S
def asNil : List D → Ev → Store → R Ev := fun ds env S => match ds with
  | [] => .ok env S
  | _ => .no
def asCons (a : MG) (r : List D → Ev → Store → R Ev) : List D → Ev → Store → R Ev := fun ds env S => match ds with
  | d :: ds => bd (a d env S) fun env1 S1 => r ds env1 S1
  | [] => .no
def aT (n : Nat) (r : List D → Ev → Store → R Ev) : MG := fun d env S => match d with
  | .py (.tuple l) => if l.length = n then r (l.map D.py) env S else .no
  | _ => .no
theorem dpa_reps {K : PySem.W.Frag} {ρ : List Addr} {H : Hp} : ∀ {xs : List V} {ps : List PyData}, DpAll K (fz ρ H) xs ps → RepDs K ρ H xs (ps.map D.py)
  | _, _, .nil => .nil
  | _, _, .cons a b => .cons a (dpa_reps b)
section
variable {X : Cx} {pos : Pos}
theorem sg_name {i : Nat} {tg : Expr} (h : PG X tg (gName i)) : PG X tg (tG X.K [i] (aN i)) :=
  pg_imp h fun v σ H Q ⟨ρ, S, env, d, sim, re, r, q⟩ => q _ H ρ (Ext.refl _ _) sim (re.set i r) (onlyAt_set _ _ _)
theorem sgs_nil : PGs X [] (tGs X.K [] asNil) := pgs_imp pgs_nil fun vs σ H Q ⟨ρ, S, env, ds, sim, re, r, q⟩ => by
  cases r with
  | nil => exact ⟨rfl, q σ H ρ (Ext.refl _ _) sim re ⟨rfl, fun _ _ => rfl⟩⟩
  | cons _ _ => exact q.elim
theorem sgs_cons {e : Expr} {es : List Expr} {w w' : List Nat} {a : MG} {r : List D → Ev → Store → R Ev} (h1 : PG X e (tG X.K w a)) (h2 : PGs X es (tGs X.K w' r))
    (hs : (assignEach (e :: es) X.env).map (·.2) = assign e X.env :: (assignEach es X.env).map (·.2) := by rfl) : PGs X (e :: es) (tGs X.K (w ++ w') (asCons a r)) := by
  refine pgs_imp (pgs_cons h1 h2 hs) fun vs σ H Q ⟨ρ, S, env, ds, sim, re, rr, q⟩ => ?_
  cases rr with
  | nil => exact q.elim
  | @cons v d vs ds r0 rr =>
    refine ⟨_, _, rfl, ρ, S, env, d, sim, re, r0, ?_⟩
    unfold asCons at q
    simp only at q
    cases e1 : a d env S with
    | no => rw [e1] at q; exact q.elim
    | exc x S1 => rw [e1] at q; exact q.elim
    | ok env1 S1 =>
      rw [e1] at q
      intro σ' H' ρ' x sim' re' oa
      refine ⟨ρ', S1, env1, ds, sim', re', RepDs.mono x rr, ?_⟩
      have q : PostG X.K ρ (w ++ w') σ H Q (r ds env1 S1) := q
      show PostG X.K ρ' w' σ' H' Q (r ds env1 S1)
      cases e2 : r ds env1 S1 with
      | no => rw [e2] at q; exact q.elim
      | exc x S1 => rw [e2] at q; exact q.elim
      | ok env2 S2 =>
        rw [e2] at q
        exact fun σ2 H2 ρ2 x2 s2 re2 oa2 => q σ2 H2 ρ2 (x.trans x2) s2 re2 (oa.trans oa2)
theorem sg_tup {es : List Expr} {k n : Nat} {w : List Nat} {r : List D → Ev → Store → R Ev} (hc : X.calm = true) (h : PGs X es (tGs X.K w r))
    (hn : (assignEach es X.env).length = n := by rfl) (hst : (assignEach es X.env).findIdx? (·.1) = none := by rfl) : PG X (.Tuple es k pos) (tG X.K w (aT n r)) := by
  refine pg_imp (pg_tup hc h hn hst) fun v σ H Q ⟨ρ, S, env, d, sim, re, r0, q⟩ => ?_
  unfold aT at q
  split at q
  · rename_i l
    split at q
    · rename_i hl
      obtain ⟨a, xs, rfl, h1, hd⟩ := dp_tup (show Dp X.K (fz ρ H) v (.tuple l) from r0)
      exact ⟨a, xs, rfl, sqt_mono (fz_sub _ _) h1, by rw [dpa_length hd, hl], ρ, S, env, _, sim, re, dpa_reps hd, q⟩
    · exact q.elim
  · exact q.elim
end
end PX

end P_PX4
section P_PX5
set_option maxHeartbeats 4000000
namespace PX
open PySem PySem.Spec PyProof.Rows L2

/-! ### loops -/
def forS (a : MG) (b : MS) : List PyData → MS
  | [] => fun env S => .go .nx env S
  | p :: ps => fun env S => match a (.py p) env S with
    | .ok env1 S1 => (match b env1 S1 with
      | .go .nx env2 S2 => forS a b ps env2 S2
      | .go .ct env2 S2 => forS a b ps env2 S2
      | .go .bk env2 S2 => .go .nx env2 S2
      | .go (.rt d) env2 S2 => .go (.rt d) env2 S2
      | .exc x env2 S2 => .exc x env2 S2
      | .no => .no)
    | _ => .no
def sFor (m : M (List PyData)) (a : MG) (b : MS) : MS := fun env S => bs (m env S) env fun ps S1 => forS a b ps env S1
def whS (c : M Bool) (b : MS) : Nat → MS
  | 0 => fun _ _ => .no
  | n + 1 => fun env S => match c env S with
    | .ok k S1 => if k then (match b env S1 with
      | .go .nx env2 S2 => whS c b n env2 S2
      | .go .ct env2 S2 => whS c b n env2 S2
      | .go .bk env2 S2 => .go .nx env2 S2
      | .go (.rt d) env2 S2 => .go (.rt d) env2 S2
      | .exc x env2 S2 => .exc x env2 S2
      | .no => .no) else .go .nx env S1
    | .exc x S1 => .exc x env S1
    | .no => .no
section
variable {X : Cx} {mg : Str → Option Value} {W : WX} {pos : Pos}
theorem drop_some {α : Type} {l : List α} {i : Nat} {x : α} (h : l[i]? = some x) : l.drop i = x :: l.drop (i + 1) := by
  obtain ⟨hi, e⟩ := List.getElem?_eq_some_iff.mp h
  rw [List.drop_eq_getElem_cons hi, e]
theorem ss_for {tg iter : Expr} {body : List Stmt} {mi : M (List PyData)} {a : MG} {ws : List Nat} {b : MS} (hp : PassesOwn (model X.prog X.w) X.A X.env X.xe) (hc : X.calm = true) (hi : PI X tg iter (tI X.K mg W mi)) (hg : PG X tg (tG X.K ws a)) (hb : PSs X body (tS X.K mg W b))
    (hs : ∀ x, foldedSetIterable iter X.env x = pure x := by intro _; rfl) : PS X (.For tg iter body [] pos) (tS X.K mg W (sFor mi a b)) := by
  refine ps_imp (ps_for hp hc hi hg hb hs) fun D σ H ⟨ρ, S, env, sim, re, q⟩ => ?_
  refine tM.bindS sim re q fun ρ1 S1 J ps H1 e1 sim1 re1 wk q1 => ?_
  refine ⟨fun i m σ' H' => m = ps.length - i ∧ i ≤ ps.length ∧ ∃ ρ' S' env', Ext ρ1 H1 ρ' H' ∧ Sim X.K ρ' S' H' ∧ REnv X.K ρ' H' σ' env' ∧ PostS X.K mg W ρ' H' D (forS a b (ps.drop i) env' S'),
    ⟨ps.length, by simp, Nat.zero_le _, ρ1, S1, env, Ext.refl _ _, sim1, re1, q1⟩, ?_⟩
  rintro i m σ' H' ⟨rfl, hle, ρ', S', env', x', sim', re', q'⟩
  obtain ⟨w1, w2⟩ := wk i ρ' H' x'
  cases hp : ps[i]? with
  | none =>
    have hl : ps.length ≤ i := List.getElem?_eq_none_iff.mp hp
    refine .inl ⟨w1 hl, ?_⟩
    rw [List.drop_eq_nil_of_le hl] at q'
    exact q' σ' H' ρ' (Ext.refl _ _) sim' re'
  | some p =>
    have hlt : i < ps.length := (List.getElem?_eq_some_iff.mp hp).1
    obtain ⟨go, yl⟩ := w2 p hp
    rw [drop_some hp] at q'
    refine .inr ⟨go, fun σ2 H2 => ∃ ρ2 S2 env2, Ext ρ1 H1 ρ2 H2 ∧ Sim X.K ρ2 S2 H2 ∧ REnv X.K ρ2 H2 σ2 env2 ∧ PostS X.K mg W ρ2 H2 D (forS a b (ps.drop (i + 1)) env2 S2), fun σ2 H2 n => ⟨ps.length - (i + 1), by omega, rfl, hlt, n⟩, fun x H'' y => ?_⟩
    obtain ⟨⟨T, o, hh⟩, hd⟩ := yl x H'' y
    have hd := hd S' sim'
    obtain ⟨xe, sim2⟩ : Ext ρ' H' ρ' H'' ∧ Sim X.K ρ' S' H'' := by
      rcases hh with ⟨hT, rfl⟩ | rfl
      · exact ⟨ext_new sim' hT, sim'.upd hT⟩
      · exact ⟨Ext.refl _ _, sim'⟩
    refine ⟨ρ', S', env', .py p, sim2, re'.mono xe, hd, ?_⟩
    unfold forS at q'
    cases ea : a (.py p) env' S' with
    | no => simp only [ea] at q'; exact q'.elim
    | exc z S3 => simp only [ea] at q'; exact q'.elim
    | ok env3 S3 =>
      simp only [ea] at q'
      intro σ3 H3 ρ3 x3 sim3 re3 _
      refine ⟨ρ3, S3, env3, sim3, re3, ?_⟩
      have tr : Ext ρ' H' ρ3 H3 := xe.trans x3
      have go_on : ∀ env4 S4, PostS X.K mg W ρ' H' D (forS a b (ps.drop (i + 1)) env4 S4) → ∀ σ5 H5 ρ5, Ext ρ3 H3 ρ5 H5 → Sim X.K ρ5 S4 H5 → REnv X.K ρ5 H5 σ5 env4 →
          ∃ ρ2 S2 env2, Ext ρ1 H1 ρ2 H5 ∧ Sim X.K ρ2 S2 H5 ∧ REnv X.K ρ2 H5 σ5 env2 ∧ PostS X.K mg W ρ2 H5 D (forS a b (ps.drop (i + 1)) env2 S2) :=
        fun env4 S4 q4 σ5 H5 ρ5 x5 s5 r5 => ⟨ρ5, S4, env4, x'.trans (tr.trans x5), s5, r5, PostS.ext (tr.trans x5) q4⟩
      cases eb : b env3 S3 with
      | no => simp only [eb] at q'; exact q'.elim
      | exc z env4 S4 => simp only [eb] at q'; exact fun c o σ5 H5 ρ5 x5 => q' c o σ5 H5 ρ5 (tr.trans x5)
      | go f env4 S4 =>
        cases f with
        | nx => simp only [eb] at q'; exact go_on env4 S4 q'
        | ct => simp only [eb] at q'; exact go_on env4 S4 q'
        | bk => simp only [eb] at q'; exact fun σ5 H5 ρ5 x5 => q' σ5 H5 ρ5 (tr.trans x5)
        | rt d => simp only [eb] at q'; exact fun v H5 ρ5 x5 => q' v H5 ρ5 (tr.trans x5)
theorem ss_while {c : Expr} {body : List Stmt} {mc : M Bool} {b : MS} {n : Nat} (hp : PassesOwn (model X.prog X.w) X.A X.env X.xe) (hc : PT X c (tT X.K mg W mc)) (hb : PSs X body (tS X.K mg W b)) : PS X (.While c body [] pos) (tS X.K mg W (whS mc b n)) := by
  refine ps_imp (ps_while hp hc hb) fun D σ H ⟨ρ, S, env, sim, re, q⟩ => ?_
  refine ⟨fun m σ' H' => ∃ ρ' S' env', Sim X.K ρ' S' H' ∧ REnv X.K ρ' H' σ' env' ∧ PostS X.K mg W ρ' H' D (whS mc b m env' S'), ⟨n, ρ, S, env, sim, re, q⟩, ?_⟩
  rintro m σ' H' ⟨ρ', S', env', sim', re', q'⟩
  cases m with
  | zero => exact q'.elim
  | succ m =>
    unfold whS at q'
    refine ⟨ρ', S', env', sim', re', ?_⟩
    cases ec : mc env' S' with
    | no => simp only [ec] at q'; exact q'
    | exc z S3 => simp only [ec] at q'; exact fun cls o H5 ρ5 x5 s5 r5 => q' cls o σ' H5 ρ5 x5 s5 (re'.mono x5) r5
    | ok k S3 =>
      simp only [ec] at q'
      intro k' H3 ρ3 x3 sim3 ek
      subst ek
      cases k' with
      | false =>
        rw [if_neg Bool.false_ne_true]
        rw [if_neg Bool.false_ne_true] at q'
        exact q' σ' H3 ρ3 x3 sim3 (re'.mono x3)
      | true =>
        rw [if_pos rfl]
        rw [if_pos rfl] at q'
        refine ⟨fun σ2 H2 => ∃ ρ2 S2 env2, Sim X.K ρ2 S2 H2 ∧ REnv X.K ρ2 H2 σ2 env2 ∧ PostS X.K mg W ρ2 H2 D (whS mc b m env2 S2), fun σ2 H2 nn => ⟨m, Nat.lt_succ_self _, nn⟩, ρ3, S3, env', sim3, re'.mono x3, ?_⟩
        cases eb : b env' S3 with
        | no => simp only [eb] at q'; exact q'.elim
        | exc z env4 S4 => simp only [eb] at q'; exact fun c o σ5 H5 ρ5 x5 => q' c o σ5 H5 ρ5 (x3.trans x5)
        | go f env4 S4 =>
          cases f with
          | nx => simp only [eb] at q'; exact fun σ5 H5 ρ5 x5 s5 r5 => ⟨ρ5, S4, env4, s5, r5, PostS.ext (x3.trans x5) q'⟩
          | ct => simp only [eb] at q'; exact fun σ5 H5 ρ5 x5 s5 r5 => ⟨ρ5, S4, env4, s5, r5, PostS.ext (x3.trans x5) q'⟩
          | bk => simp only [eb] at q'; exact fun σ5 H5 ρ5 x5 => q' σ5 H5 ρ5 (x3.trans x5)
          | rt d => simp only [eb] at q'; exact fun v H5 ρ5 x5 => q' v H5 ρ5 (x3.trans x5)
end

/-! ### comprehensions -/
abbrev W0 : WX := fun _ _ _ _ => False
def wipeE (env : Ev) : List Nat → Ev
  | [] => env
  | v :: vs => (wipeE env vs).set v none
theorem renv_none {K : PySem.W.Frag} {ρ : List Addr} {H : Hp} {σ : L2.St} {env : Ev} (h : REnv K ρ H σ env) (i : Nat) (o : Option V) : REnv K ρ H (σ.set i o) (env.set i none) := by
  refine ⟨by rw [List.length_set, List.length_set]; exact h.1, fun j e q => ?_⟩
  by_cases hj : i = j
  · subst hj
    by_cases hi : i < env.length
    · rw [List.getElem?_set_self hi] at q; cases q
    · rw [List.getElem?_eq_none (by rw [List.length_set]; omega)] at q; cases q
  · rw [List.getElem?_set_ne hj] at q ⊢
    exact h.2 j e q
theorem renv_wipe {K : PySem.W.Frag} {ρ : List Addr} {H : Hp} {σ : L2.St} {env : Ev} (h : REnv K ρ H σ env) : ∀ vs : List Nat, REnv K ρ H (wipe σ vs) (wipeE env vs)
  | [] => h
  | v :: vs => renv_none (renv_wipe h vs) v none
theorem wipe_get (σ : L2.St) (j : Nat) : ∀ vs : List Nat, (wipe σ vs)[j]? = if j ∈ vs ∧ j < σ.length then some none else σ[j]?
  | [] => by simp [wipe]
  | v :: vs => by
    unfold wipe
    by_cases hj : v = j
    · subst hj
      by_cases hl : v < σ.length
      · rw [List.getElem?_set_self (by rw [wipe_length]; exact hl), if_pos ⟨List.mem_cons_self, hl⟩]
      · rw [List.getElem?_eq_none (by rw [List.length_set, wipe_length]; omega), if_neg (fun z => hl z.2), List.getElem?_eq_none (by omega)]
    · rw [List.getElem?_set_ne hj, wipe_get σ j vs]
      by_cases h1 : j ∈ vs
      · simp [h1]
      · have : j ∉ v :: vs := by simp [h1]; exact fun e => hj e.symm
        simp [h1, this]
theorem wipe_only {σ σ' : L2.St} {ws vs : List Nat} (h : OnlyAt ws (wipe σ vs) σ') (hw : ∀ w ∈ ws, w ∈ vs) : wipe σ' vs = wipe σ vs := by
  apply List.ext_getElem?
  intro j
  rw [wipe_get σ' j vs, wipe_get σ j vs]
  have hl : σ'.length = σ.length := h.1.trans (wipe_length σ vs)
  by_cases hj : j ∈ vs
  · by_cases h2 : j < σ.length
    · rw [if_pos ⟨hj, by rw [hl]; exact h2⟩, if_pos ⟨hj, h2⟩]
    · rw [if_neg (fun z => h2 (by rw [← hl]; exact z.2)), if_neg (fun z => h2 z.2), List.getElem?_eq_none (by omega), List.getElem?_eq_none (by omega)]
  · rw [if_neg (fun z => hj z.1), if_neg (fun z => hj z.1), h.2 j (fun z => hj (hw j z)), wipe_get σ j vs, if_neg (fun z => hj z.1)]
def bdN {α γ : Type} (r : R α) (k : α → Store → R γ) : R γ := match r with
  | .ok a S => k a S
  | _ => .no
def lcPut (n : Nat) (q : PyData) (S : Store) : R Unit := match S[n]? with
  | some (.lst acc) => if fits (acc.length + 1) then .ok () (S.set n (.lst (acc ++ [q]))) else .no
  | _ => .no
def lcGo (n : Nat) (env : Ev) (a : MG) (mt : M Bool) (me : M D) : List PyData → Store → R D
  | [], S => .ok (.loc n) S
  | p :: ps, S => bdN (a (.py p) env S) fun env1 S1 => bdN (mt env1 S1) fun k S2 =>
    if k then bdN (me env1 S2) fun y S3 => (match y with
      | .py q => bdN (lcPut n q S3) fun _ S4 => lcGo n env a mt me ps S4
      | _ => .no) else lcGo n env a mt me ps S2
def mYes : M Bool := fun _ S => .ok true S
def mLc (vs : List Nat) (mi : M (List PyData)) (a : MG) (mt : M Bool) (me : M D) : M D := fun env S => bd (mi env S) fun ps S1 => lcGo S1.length (wipeE env vs) a mt me ps (S1 ++ [.lst []])
theorem Sim.set {K : PySem.W.Frag} {ρ : List Addr} {S : Store} {H : Hp} {n : Nat} {a : Addr} {o : HO} {c : Cell} (sim : Sim K ρ S H) (ha : ρ[n]? = some a) (hc : CellOk K (fz ρ H) (some o) c) : Sim K ρ (S.set n c) (L2.upd H a o) ∧ Ext ρ H ρ (L2.upd H a o) := by
  have hm : a ∈ ρ := List.mem_of_getElem? ha
  have hf : fz ρ (L2.upd H a o) = fz ρ H := fz_upd_in hm
  refine ⟨⟨by rw [List.length_set]; exact sim.len, sim.nd, fun m b c' h1 h2 => ?_⟩, ⟨⟨[], by simp⟩, by rw [hf]; exact Sm.refl _⟩⟩
  rw [hf]
  by_cases hmn : n = m
  · subst hmn
    rw [ha] at h1
    cases h1
    have hn : n < S.length := by rw [← sim.len]; exact (List.getElem?_eq_some_iff.mp ha).1
    rw [List.getElem?_set_self hn] at h2
    cases h2
    rw [upd_same]
    exact hc
  · rw [List.getElem?_set_ne hmn] at h2
    have hb : b ≠ a := by
      intro e
      subst e
      obtain ⟨i1, e1⟩ := List.getElem?_eq_some_iff.mp ha
      obtain ⟨i2, e2⟩ := List.getElem?_eq_some_iff.mp h1
      exact hmn ((List.getElem_inj sim.nd).mp (e1.trans e2.symm))
    rw [upd_ne hb]
    exact sim.cell m b c' h1 h2
theorem ext_get {ρ ρ' : List Addr} {H H' : Hp} {n : Nat} {a : Addr} (e : Ext ρ H ρ' H') (h : ρ[n]? = some a) : ρ'[n]? = some a := by
  obtain ⟨τ, e1⟩ := e.pre
  rw [e1, List.getElem?_append_left (List.getElem?_eq_some_iff.mp h).1]
  exact h
theorem lc_read {K : PySem.W.Frag} {mg : Str → Option Value} {W : WX} {vs ws : List Nat} {mi : M (List PyData)} {a : MG} {mt : M Bool} {me : M D} (hws : ∀ w ∈ ws, w ∈ vs) {σ : L2.St} {H : Hp} {Q : VK}
    (h : tE K mg W (mLc vs mi a mt me) σ H Q) : tLc (tI K mg W mi) (tG K ws a) (tT K mg W0 mt) (tE K mg W0 me) vs σ H Q := by
  obtain ⟨ρ, S, env, sim, re, q⟩ := h
  refine tM.bind sim re q fun ρ1 S1 J ps H1 e1 sim1 re1 wk q1 => fun D hD => ?_
  have hDn := sim_new sim1 hD
  have simD : Sim K (ρ1 ++ [D]) (S1 ++ [.lst []]) (L2.upd H1 D (.lst [])) := sim1.push hD ⟨[], rfl, .nil, Nat.zero_le _⟩
  have extD : Ext ρ1 H1 (ρ1 ++ [D]) (L2.upd H1 D (.lst [])) := ⟨⟨[D], rfl⟩, by rw [fz_app_upd hDn hD]; exact Sm.refl _⟩
  have hat : (ρ1 ++ [D])[S1.length]? = some D := by rw [← sim1.len]; simp
  refine ⟨fun i m H' => m = ps.length - i ∧ i ≤ ps.length ∧ ∃ ρ' S', Ext (ρ1 ++ [D]) (L2.upd H1 D (.lst [])) ρ' H' ∧ Sim K ρ' S' H' ∧ Post K mg W (RepD K) ρ' σ H' Q (lcGo S1.length (wipeE env vs) a mt me (ps.drop i) S'),
    ⟨ps.length, by simp, Nat.zero_le _, ρ1 ++ [D], S1 ++ [.lst []], Ext.refl _ _, simD, by rw [List.drop_zero]; exact Post.ext extD q1⟩, ?_⟩
  rintro i m H' ⟨rfl, hle, ρ', S', x', sim', q'⟩
  obtain ⟨w1, w2⟩ := wk i ρ' H' (extD.trans x')
  have hat' := ext_get x' hat
  cases hp : ps[i]? with
  | none =>
    have hl : ps.length ≤ i := List.getElem?_eq_none_iff.mp hp
    refine .inl ⟨w1 hl, ?_⟩
    rw [List.drop_eq_nil_of_le hl] at q'
    exact q' (.ref D) H' ρ' (Ext.refl _ _) sim' ⟨D, hat', rfl⟩
  | some p =>
    have hlt : i < ps.length := (List.getElem?_eq_some_iff.mp hp).1
    obtain ⟨go, yl⟩ := w2 p hp
    rw [drop_some hp] at q'
    refine .inr ⟨go, fun H2 => ∃ ρ2 S2, Ext (ρ1 ++ [D]) (L2.upd H1 D (.lst [])) ρ2 H2 ∧ Sim K ρ2 S2 H2 ∧ Post K mg W (RepD K) ρ2 σ H2 Q (lcGo S1.length (wipeE env vs) a mt me (ps.drop (i + 1)) S2), fun H2 n => ⟨ps.length - (i + 1), by omega, rfl, hlt, n⟩, fun x H'' y => ?_⟩
    obtain ⟨⟨T, o, hh⟩, hd⟩ := yl x H'' y
    have hd := hd S' sim'
    obtain ⟨xe, sim2⟩ : Ext ρ' H' ρ' H'' ∧ Sim K ρ' S' H'' := by
      rcases hh with ⟨hT, rfl⟩ | rfl
      · exact ⟨ext_new sim' hT, sim'.upd hT⟩
      · exact ⟨Ext.refl _ _, sim'⟩
    have rew : REnv K ρ' H'' (wipe σ vs) (wipeE env vs) := renv_wipe (re1.mono ((extD.trans x').trans xe)) vs
    refine ⟨ρ', S', wipeE env vs, .py p, sim2, rew, hd, ?_⟩
    unfold lcGo at q'
    cases ea : a (.py p) (wipeE env vs) S' with
    | no => rw [ea] at q'; exact q'.elim
    | exc z S3 => rw [ea] at q'; exact q'.elim
    | ok env3 S3 =>
      rw [ea] at q'
      intro σ3 H3 ρ3 x3 sim3 re3 oa
      have q' : Post K mg W (RepD K) ρ' σ H' Q (bdN (mt env3 S3) fun k S2 => if k then bdN (me env3 S2) fun y S3 => (match y with
        | .py q => bdN (lcPut S1.length q S3) fun _ S4 => lcGo S1.length (wipeE env vs) a mt me (ps.drop (i + 1)) S4
        | _ => .no) else lcGo S1.length (wipeE env vs) a mt me (ps.drop (i + 1)) S2) := q'
      refine ⟨wipe_only oa hws, ρ3, S3, env3, sim3, re3, ?_⟩
      cases et : mt env3 S3 with
      | no => rw [et] at q'; exact q'.elim
      | exc z S4 => rw [et] at q'; exact q'.elim
      | ok k S4 =>
        rw [et] at q'
        intro k' H4 ρ4 x4 sim4 ek
        subst ek
        have tr4 : Ext ρ' H' ρ4 H4 := xe.trans (x3.trans x4)
        cases k' with
        | false =>
          rw [if_neg Bool.false_ne_true]
          exact ⟨ρ4, S4, x'.trans tr4, sim4, Post.ext tr4 q'⟩
        | true =>
          rw [if_pos rfl]
          have q' : Post K mg W (RepD K) ρ' σ H' Q (bdN (me env3 S4) fun y S3 => (match y with
            | .py q => bdN (lcPut S1.length q S3) fun _ S4 => lcGo S1.length (wipeE env vs) a mt me (ps.drop (i + 1)) S4
            | _ => .no)) := q'
          refine ⟨ρ4, S4, env3, sim4, re3.mono x4, ?_⟩
          cases em : me env3 S4 with
          | no => rw [em] at q'; exact q'.elim
          | exc z S5 => rw [em] at q'; exact q'.elim
          | ok y S5 =>
            rw [em] at q'
            cases y with
            | loc n => exact q'.elim
            | raw v => exact q'.elim
            | py e =>
              have q' : Post K mg W (RepD K) ρ' σ H' Q (bdN (lcPut S1.length e S5) fun _ S4 => lcGo S1.length (wipeE env vs) a mt me (ps.drop (i + 1)) S4) := q'
              intro v H5 ρ5 x5 sim5 rv
              have tr5 : Ext ρ' H' ρ5 H5 := tr4.trans x5
              have hat5 := ext_get (x'.trans tr5) hat
              unfold lcPut at q'
              cases ec : S5[S1.length]? with
              | none => simp only [ec] at q'; exact q'.elim
              | some c =>
                simp only [ec] at q'
                cases c with
                | dI l => exact q'.elim
                | dT l => exact q'.elim
                | lst acc =>
                  simp only at q'
                  cases hf : fits (acc.length + 1) with
                  | false => simp only [hf] at q'; exact q'.elim
                  | true =>
                    simp only [hf] at q'
                    obtain ⟨xs, e5, d5, z5⟩ := sim5.cell _ _ _ hat5 ec
                    have hz := fits_ok hf
                    have hln := dpa_length d5
                    obtain ⟨s6, x6⟩ := sim5.set (o := .lst (xs ++ [v])) (c := .lst (acc ++ [e])) hat5 ⟨xs ++ [v], rfl, dpa_append d5 (.cons rv .nil), by rw [List.length_append, hln]; exact hz⟩
                    exact ⟨xs, e5, by omega, ρ5, _, (x'.trans tr5).trans x6, s6, Post.ext (tr5.trans x6) q'⟩
section
variable {X : Cx} {mg : Str → Option Value} {W : WX} {pos : Pos}
theorem spt_nil : PTs X [] (tT X.K mg W0 mYes) := by
  refine ⟨fun pins s σ H Q I ⟨ρ, S, env, sim, re, q⟩ => ?_⟩
  exact pts_nil.run pins s σ H Q I (q true H ρ (Ext.refl _ _) sim rfl)
theorem se_lc {elt tg iter : Expr} {ifs : List Expr} {scope : Scope} {own : List (Str × Nat)} {mi : M (List PyData)} {a : MG} {ws : List Nat} {mt : M Bool} {me : M D} (hc : X.calm = true) (hN : X.N.Nodup) (hi : PI X tg iter (tI X.K mg W mi)) (ok : BlkOk X.N X.env.scope scope own)
    (hg : ∀ (s : Shared) (H : Hp) (C : Addr) (cl : List (Str × Addr)) (fp : List Addr), PG (X.blk s H scope (compEnvC scope cl C X.env) fp) tg (tG X.K ws a))
    (ht : ∀ (s : Shared) (H : Hp) (C : Addr) (cl : List (Str × Addr)) (fp : List Addr), PTs (X.blk s H scope (compEnvC scope cl C X.env) fp) ifs (tT X.K mg W0 mt))
    (he : ∀ (s : Shared) (H : Hp) (C : Addr) (cl : List (Str × Addr)) (fp : List Addr), PE (X.blk s H scope (compEnvC scope cl C X.env) fp) elt (tE X.K mg W0 me))
    (hws : ∀ w ∈ ws, w ∈ own.map (·.2) := by decide) (hs : ∀ x, foldedSetIterable iter X.env x = pure x := by intro _; rfl) :
    PE X (.ListComp elt [⟨tg, iter, ifs, 0⟩] scope pos) (tE X.K mg W (mLc (own.map (·.2)) mi a mt me)) :=
  pe_imp (pe_lc hc hN hi ok hg ht he hs) fun σ H Q h => lc_read hws h
end

/-! ### statements -/
def sNx : MS := fun env S => .go .nx env S
def sSeq (a b : MS) : MS := fun env S => match a env S with
  | .go .nx env1 S1 => b env1 S1
  | r => r
def sEx (m : M D) : MS := fun env S => bs (m env S) env fun _ S1 => .go .nx env S1
def sRet (m : M D) : MS := fun env S => bs (m env S) env fun d S1 => .go (.rt d) env S1
def sRetN : MS := fun env S => .go (.rt (.py .none)) env S
def sBk : MS := fun env S => .go .bk env S
def sCt : MS := fun env S => .go .ct env S
def sIf (c : M Bool) (a b : MS) : MS := fun env S => bs (c env S) env fun k S1 => if k then a env S1 else b env S1
def sAs (m : M D) (a : MG) : MS := fun env S => bs (m env S) env fun d S1 => match a d env S1 with
  | .ok env1 S2 => .go .nx env1 S2
  | _ => .no
def sNo : MS := fun _ _ => .no
section
variable {X : Cx} {mg : Str → Option Value} {W : WX} {pos : Pos}
theorem sss_nil : PSs X [] (tS X.K mg W sNx) := pss_imp pss_nil fun D σ H ⟨ρ, S, env, sim, re, q⟩ => q σ H ρ (Ext.refl _ _) sim re
theorem sss_cons {st : Stmt} {rest : List Stmt} {a b : MS} (h1 : PS X st (tS X.K mg W a)) (h2 : PSs X rest (tS X.K mg W b)) : PSs X (st :: rest) (tS X.K mg W (sSeq a b)) := by
  refine pss_imp (pss_cons h1 h2) fun D σ H ⟨ρ, S, env, sim, re, q⟩ => ⟨ρ, S, env, sim, re, ?_⟩
  unfold sSeq at q
  cases ea : a env S with
  | no => simp only [ea] at q; exact q
  | exc x env1 S1 => simp only [ea] at q; exact q
  | go f env1 S1 =>
    cases f with
    | nx => simp only [ea] at q; exact fun σ1 H1 ρ1 x1 s1 r1 => ⟨ρ1, S1, env1, s1, r1, PostS.ext x1 q⟩
    | bk => simp only [ea] at q; exact q
    | ct => simp only [ea] at q; exact q
    | rt d => simp only [ea] at q; exact q
theorem sss_one {st : Stmt} {a : MS} (h : PS X st (tS X.K mg W a)) : PSs X [st] (tS X.K mg W a) := pss_one h
theorem ss_pass : PS X (.Pass pos) (tS X.K mg W sNx) := ps_imp ps_pass fun D σ H ⟨ρ, S, env, sim, re, q⟩ => q σ H ρ (Ext.refl _ _) sim re
theorem ss_break : PS X (.Break pos) (tS X.K mg W sBk) := ps_imp ps_break fun D σ H ⟨ρ, S, env, sim, re, q⟩ => q σ H ρ (Ext.refl _ _) sim re
theorem ss_continue : PS X (.Continue pos) (tS X.K mg W sCt) := ps_imp ps_continue fun D σ H ⟨ρ, S, env, sim, re, q⟩ => q σ H ρ (Ext.refl _ _) sim re
theorem ss_expr {e : Expr} {m : M D} (he : PE X e (tE X.K mg W m)) (hs : swapsWith e none pos.line X.env = pure false := by rfl) : PS X (.Expr e pos) (tS X.K mg W (sEx m)) := by
  refine ps_imp (ps_expr he hs) fun D σ H ⟨ρ, S, env, sim, re, q⟩ => ?_
  exact tM.bindS sim re q fun ρ1 S1 v d H1 e1 sim1 re1 r1 q1 => q1 σ H1 ρ1 (Ext.refl _ _) sim1 re1
theorem ss_ret {e : Expr} {m : M D} (he : PE X e (tE X.K mg W m)) : PS X (.Return (some e) pos) (tS X.K mg W (sRet m)) := by
  refine ps_imp (ps_ret he) fun D σ H ⟨ρ, S, env, sim, re, q⟩ => ?_
  exact tM.bindS sim re q fun ρ1 S1 v d H1 e1 sim1 re1 r1 q1 => q1 v H1 ρ1 (Ext.refl _ _) sim1 r1
theorem ss_retN : PS X (.Return none pos) (tS X.K mg W sRetN) := ps_imp ps_retN fun D σ H ⟨ρ, S, env, sim, re, q⟩ => q .non H ρ (Ext.refl _ _) sim .non
theorem ss_if {c : Expr} {p r : List Stmt} {mc : M Bool} {a b : MS} (hc : PT X c (tT X.K mg W mc)) (ha : PSs X p (tS X.K mg W a)) (hb : PSs X r (tS X.K mg W b)) : PS X (.If c p r pos) (tS X.K mg W (sIf mc a b)) := by
  refine ps_imp (ps_if hc ha hb) fun D σ H ⟨ρ, S, env, sim, re, q⟩ => ?_
  refine tM.bindS sim re q fun ρ1 S1 v k H1 e1 sim1 re1 r1 q1 => ?_
  subst r1
  cases v with
  | true => rw [if_pos rfl]; rw [if_pos rfl] at q1; exact ⟨ρ1, S1, env, sim1, re1, q1⟩
  | false => rw [if_neg Bool.false_ne_true]; rw [if_neg Bool.false_ne_true] at q1; exact ⟨ρ1, S1, env, sim1, re1, q1⟩
theorem asg_read {K : PySem.W.Frag} {m : M D} {a : MG} {ws : List Nat} {D : Ends} {σ : L2.St} {H : Hp} (h : tS K mg W (sAs m a) D σ H) : tAsg (tE K mg W m) (tG K ws a) D σ H := by
  obtain ⟨ρ, S, env, sim, re, q⟩ := h
  refine tM.bindS sim re q fun ρ1 S1 v d H1 e1 sim1 re1 r1 q1 => ⟨ρ1, S1, env, d, sim1, re1, r1, ?_⟩
  cases ea : a d env S1 with
  | no => simp only [ea] at q1; exact q1
  | exc x S2 => simp only [ea] at q1; exact q1.elim
  | ok env1 S2 => simp only [ea] at q1; exact fun σ' H' ρ' x s r _ => q1 σ' H' ρ' x s r
theorem ss_asg {tg e : Expr} {m : M D} {a : MG} {ws : List Nat} (he : PE X e (tE X.K mg W m)) (hg : PG X tg (tG X.K ws a)) (hs : swapsWithSole [tg] e pos.line X.env = pure false := by rfl) (hw : swappedStores [tg] e X.env = pure none := by rfl)
    (h1 : (assignEach [tg] X.env).map (·.2) = [assign tg X.env] := by rfl) : PS X (.Assign [tg] e pos) (tS X.K mg W (sAs m a)) := ps_imp (ps_asg he hg hs hw h1) fun D σ H h => asg_read h
/-- name = value, by the rule of names -/
theorem set_read {K : PySem.W.Frag} {m : M D} {i : Nat} {D : Ends} {σ : L2.St} {H : Hp} (h : tS K mg W (sAs m (aN i)) D σ H) : tAsg (tE K mg W m) (gName i) D σ H := by
  obtain ⟨ρ, S, env, sim, re, q⟩ := h
  exact tM.bindS sim re q fun ρ1 S1 v d H1 e1 sim1 re1 r1 q1 => q1 _ H1 ρ1 (Ext.refl _ _) sim1 (re1.set i r1)
theorem ss_set {st : Stmt} {i : Nat} {m : M D} (h : PS X st (tAsg (tE X.K mg W m) (gName i))) : PS X st (tS X.K mg W (sAs m (aN i))) := ps_imp h fun D σ H q => set_read q
/-- a, b = x, y -/
def sPar (i j : Nat) (m : M (List D)) : MS := fun env S => bs (m env S) env fun ds S1 => match ds with
  | [d, e] => .go .nx ((env.set i (some d)).set j (some e)) S1
  | _ => .no
theorem ss_par {st : Stmt} {i j : Nat} {m : M (List D)} (h : PS X st (tPar i j (tA X.K mg W m))) : PS X st (tS X.K mg W (sPar i j m)) := ps_imp h fun D σ H ⟨ρ, S, env, sim, re, q⟩ => by
  refine tM.bindS sim re q fun ρ1 S1 vs ds H1 e1 sim1 re1 r1 q1 => ?_
  cases r1 with
  | nil => exact q1.elim
  | cons r rr => cases rr with
    | nil => exact q1.elim
    | cons r2 rr => cases rr with
      | nil => exact ⟨_, _, rfl, q1 _ H1 ρ1 (Ext.refl _ _) sim1 ((re1.set i r).set j r2)⟩
      | cons _ _ => exact q1.elim
def sPar3 (i j l : Nat) (m : M (List D)) : MS := fun env S => bs (m env S) env fun ds S1 => match ds with
  | [d, e, f] => .go .nx (((env.set i (some d)).set j (some e)).set l (some f)) S1
  | _ => .no
theorem ss_never {st : Stmt} : PS X st (tS X.K mg W sNo) := ps_imp ps_never fun D σ H ⟨ρ, S, env, sim, re, q⟩ => q

/-! ### defs -/
def spOf (K : PySem.W.Frag) (mg : Str → Option Value) (n : Nat) (F : List D → Store → R D) : Sp := fun vs H Q E =>
  vs.length = n ∧ ∃ ρ S ds, Sim K ρ S H ∧ RepDs K ρ H vs ds ∧ Post K mg (fun c o _ H' => E c o H') (RepD K) ρ [] H Q (F ds S)
def endB : RS → R D
  | .go .nx _ S => .ok (.py .none) S
  | .go (.rt d) _ S => .ok d S
  | .exc x _ S => .exc x S
  | _ => .no
/-- a def by its body: N names, the arguments first -/
def runF (N : Nat) (b : MS) : List D → Store → R D := fun ds S => frR S.length (endB (b (ds.map some ++ List.replicate (N - ds.length) none) S))
/-- the same, its list stays one that may change -/
def runM (N : Nat) (b : MS) : List D → Store → R D := fun ds S => endB (b (ds.map some ++ List.replicate (N - ds.length) none) S)
theorem renv_start {K : PySem.W.Frag} {ρ : List Addr} {H : Hp} : ∀ {vs : List V} {ds : List D} (N : List Str), RepDs K ρ H vs ds → REnv K ρ H (L2.start N vs) (ds.map some ++ List.replicate (N.length - ds.length) none) := by
  intro vs ds N r
  have hl : vs.length = ds.length := Paired.length r
  refine ⟨by unfold L2.start; simp [hl], fun i d q => ?_⟩
  by_cases hi : i < ds.length
  · rw [List.getElem?_append_left (by simpa using hi), List.getElem?_map] at q
    cases e : ds[i]? with
    | none => rw [e] at q; cases q
    | some d' =>
      rw [e] at q
      cases q
      have aux : ∀ {vs : List V} {ds : List D} {i : Nat} {d : D}, RepDs K ρ H vs ds → ds[i]? = some d → ∃ v, vs[i]? = some v ∧ RepD K ρ H v d := by
        intro vs
        induction vs with
        | nil => intro ds i d r h; cases r; simp at h
        | cons v vs ih =>
          intro ds i d r h
          cases r with
          | cons r rr =>
            cases i with
            | zero => simp at h; subst h; exact ⟨v, rfl, r⟩
            | succ i => obtain ⟨w, e, q⟩ := ih (i := i) rr (by simpa using h); exact ⟨w, by simpa using e, q⟩
      obtain ⟨v, e1, r1⟩ := aux r e
      refine ⟨v, ?_, r1⟩
      unfold L2.start
      rw [List.getElem?_append_left (by rw [List.length_map, hl]; exact hi), List.getElem?_map, e1]
      rfl
  · rw [List.getElem?_append_right (by rw [List.length_map]; omega), List.getElem?_replicate] at q
    split at q <;> cases q
theorem body_read {K : PySem.W.Frag} {N : List Str} {b : MS} {vs : List V} {ds : List D} {H : Hp} {Q : VK} {E : XK} {ρ : List Addr} {S : Store} (sim : Sim K ρ S H) (r : RepDs K ρ H vs ds) (q : Post K mg (fun c o _ H' => E c o H') (RepD K) ρ [] H Q (runM N.length b ds S)) :
    tS K mg (fun c o _ H' => E c o H') b { nx := fun _ H' => Q .non H', rt := Q } (L2.start N vs) H := by
  refine ⟨ρ, S, _, sim, renv_start N r, ?_⟩
  unfold runM at q
  cases e : b (ds.map some ++ List.replicate (N.length - ds.length) none) S with
  | no => rw [e] at q; exact q
  | exc x env1 S1 => rw [e] at q; exact fun c o σ' H' ρ' x s _ xr => q c o H' ρ' x s xr
  | go f env1 S1 =>
    rw [e] at q
    cases f with
    | nx => exact fun σ' H' ρ' x s _ => q .non H' ρ' x s .non
    | rt d => exact fun v H' ρ' x s r => q v H' ρ' x s r
    | bk => exact q.elim
    | ct => exact q.elim
theorem sp_cut {K : PySem.W.Frag} {n N : Nat} {b : MS} {vs : List V} {H : Hp} {Q : VK} {E : XK} (h : spOf K mg n (runF N b) vs H Q E) : spOf K mg n (runM N b) vs H Q E := by
  obtain ⟨hl, ρ, S, ds, sim, r, q⟩ := h
  exact ⟨hl, ρ, S, ds, sim, r, fr_post sim q⟩
end
section
variable {P : Program} {w : World} {K : PySem.W.Frag} {mg : Str → Option Value} {base : Heap}
theorem fn_ok {x qual : Str} {st : Stmt} {f : Addr} {fd : FuncData} {N ps : List Str} {k : Nat} {b : MS} (F : Fun K x qual st f fd) (Sc : FnScope N ps (defScope st))
    (hbody : ∀ (cdv : Value) (A : Around) (outer : List Env) (s : Shared) (H : Hp) (E : XK), Room k (A.deeper (envOfC qual (defScope st) s.heap.objs.size f cdv)) →
      PSs (cxOf (L2.CX P w) P w K mg base N qual (defScope st) f cdv A outer s H E) (defBody st) (tS K mg (fun c o _ H' => E c o H') b)) (hNl : N.length = N.length := by rfl) : FnOk P w K mg base (L2.CX P w) (k + 1) f fd ps (spOf K mg ps.length (runM N.length b)) :=
  F.okX Sc (fun vs H Q E h => h.1) fun cdv A outer s H vs Q E hr h => ⟨_, hbody cdv A outer s H E hr, let ⟨_, _, _, _, sim, r, q⟩ := h; body_read sim r q⟩
theorem fn_fr {f : Addr} {fd : FuncData} {ps : List Str} {k n N : Nat} {b : MS} {CX : CXT} (G : FnOk P w K mg base CX k f fd ps (spOf K mg n (runM N b))) : FnOk P w K mg base CX k f fd ps (spOf K mg n (runF N b)) := G.imp fun _ _ _ _ h => sp_cut h
end
/-! ### calls of defs -/
section
variable {X : Cx} {mg : Str → Option Value} {W : WX} {pos : Pos}
theorem se_call {k n : Nat} {f : Addr} {fd : FuncData} {ps : List Str} {g : List D → Store → R D} {x : Str} {p : Pos} {e : Expr} {es : List Expr} {m : M (List D)} (G : FnOk X.prog X.w X.K X.mg X.base (L2.CX X.prog X.w) k f fd ps (spOf X.K mg n g)) (hr : Room k X.A) (hg : Gl X x) (hm : X.mg x = some (.ref f)) (hk : PySem.W.keepIn X.K (.ref f) = true) (hb : Binds X.K fd ps [])
    (tk : Takes X W) (hl : ∀ env S ds S', m env S = .ok ds S' → ds.length = n) (ha : PA X (e :: es) (tA X.K mg W m)) (hdb : (x == ("__debug__" : Str)) = false := by decide) (he : starEach (e :: es) X.env = (false, eval e X.env) :: starEach es X.env := by rfl) (hpl : (backTo pos (starEach es X.env)).any (·.1) = false := by rfl) :
    PE X (.Call (.Name x p) (e :: es) [] pos) (tE X.K mg W (mCall g m)) := by
  refine pe_imp (pe_callS G hr hg hm hk hb (fun σ => passAt tk σ) ha hdb he hpl) fun σ H Q ⟨ρ, S, env, sim, re, q⟩ => ?_
  refine ⟨ρ, S, env, sim, re, ?_⟩
  unfold mCall at q
  cases e1 : m env S with
  | no => rw [e1] at q; exact q
  | exc x S1 => rw [e1] at q; exact q
  | ok ds S1 =>
    rw [e1] at q
    intro vs H1 ρ1 x1 sim1 r1
    refine ⟨by rw [show vs.length = ds.length from Paired.length r1]; exact hl env S ds S1 e1, ρ1, S1, ds, sim1, r1, ?_⟩
    have q1 : Post X.K mg W (RepD X.K) ρ1 σ H1 Q (g ds S1) := Post.ext x1 q
    cases e2 : g ds S1 with
    | no => rw [e2] at q1; exact q1
    | exc x S2 => rw [e2] at q1; exact q1
    | ok d S2 => rw [e2] at q1; exact q1
theorem len_nil : ∀ env S ds S', mNil env S = .ok ds S' → ds.length = 0 := fun env S ds S' h => by cases h; rfl
theorem len_cons {a : M D} {r : M (List D)} {n : Nat} (h : ∀ env S ds S', r env S = .ok ds S' → ds.length = n) : ∀ env S ds S', mCons a r env S = .ok ds S' → ds.length = n + 1 := fun env S ds S' q => by
  unfold mCons at q
  cases e : a env S with
  | no => rw [e] at q; cases q
  | exc x S1 => rw [e] at q; cases q
  | ok d S1 =>
    rw [e] at q
    have q : bd (r env S1) (fun xs S2 => .ok (d :: xs) S2) = .ok ds S' := q
    cases e2 : r env S1 with
    | no => rw [e2] at q; cases q
    | exc x S1 => rw [e2] at q; cases q
    | ok xs S2 => rw [e2] at q; cases q; rw [List.length_cons, h _ _ _ _ e2]
end
end PX

end P_PX5
section P_PX6
set_option maxHeartbeats 4000000
namespace PX
open PySem PySem.Spec PyProof.Rows L2

section
variable {K : PySem.W.Frag}
/-! ### len, abs, int, tuple, list, isinstance -/
def lenOf : PyData → Option Nat
  | .list l => some l.length
  | .tuple l => some l.length
  | .str s => if fits s.length then some s.length else none
  | _ => none
def dLen (S : Store) : D → Option Nat
  | .loc n => match S[n]? with
    | some (.lst l) => some l.length
    | _ => none
  | .py p => lenOf p
  | .raw _ => none
def gLen : List D → Store → R D := fun ds S => match ds with
  | [d] => (match dLen S d with
    | some n => .ok (.py (.int n)) S
    | none => .no)
  | _ => .no
theorem reps_one {ρ : List Addr} {H : Hp} {xs : List V} {d : D} (r : RepDs K ρ H xs [d]) : ∃ x, xs = [x] ∧ RepD K ρ H x d := by
  cases r with
  | cons r rr => cases rr; exact ⟨_, rfl, r⟩
theorem reps_two {ρ : List Addr} {H : Hp} {xs : List V} {d e : D} (r : RepDs K ρ H xs [d, e]) : ∃ x y, xs = [x, y] ∧ RepD K ρ H x d ∧ RepD K ρ H y e := by
  cases r with
  | cons r rr => cases rr with
    | cons r2 rr => cases rr; exact ⟨_, _, rfl, r, r2⟩
theorem lenV_ok {ρ : List Addr} {S : Store} {H : Hp} {v : V} {d : D} {n : Nat} (sim : Sim K ρ S H) (r : RepD K ρ H v d) (h : dLen S d = some n) : LenV K v H n := by
  cases d with
  | raw w => cases h
  | loc k =>
    have hr : rd S (.loc k) = match S[k]? with | some (.lst l) => some (.list l) | _ => none := rfl
    unfold dLen at h
    cases hc : S[k]? with
    | none => simp only [hc] at h; cases h
    | some c =>
      simp only [hc] at h
      cases c with
      | lst l =>
        cases h
        obtain ⟨p, xs, rfl, h1, hd⟩ := rd_lst (l := l) sim r (by rw [hr, hc])
        exact .inl ⟨xs, h1, (dpa_length hd).symm⟩
      | dI l => cases h
      | dT l => cases h
  | py p =>
    have h : lenOf p = some n := h
    cases p with
    | list l => cases h; obtain ⟨p, xs, rfl, h1, hd⟩ := dp_lst (rep_py r); exact .inl ⟨xs, h1, (dpa_length hd).symm⟩
    | tuple l => cases h; obtain ⟨p, xs, rfl, h1, hd⟩ := dp_tup (rep_py r); exact .inr ⟨xs, h1, (dpa_length hd).symm⟩
    | str s =>
      unfold lenOf at h
      cases hf : fits s.length with
      | false => simp only [hf] at h; cases h
      | true => simp only [hf] at h; cases h; rw [dp_str (rep_py r)]; exact ⟨fits_ok hf, rfl⟩
    | none => cases h
    | bool b => cases h
    | int i => cases h
    | dict l => cases h
theorem cd_len : CaD K (fun xs H Q => ∃ x n, xs = [x] ∧ LenV K x H n ∧ Q (.int n) H) gLen := by
  intro mg W ρ S σ H Q xs ds sim r q
  unfold gLen at q
  split at q
  · rename_i d
    obtain ⟨x, rfl, r1⟩ := reps_one r
    cases e : dLen S d with
    | none => rw [e] at q; exact q.elim
    | some n => rw [e] at q; exact ⟨x, n, rfl, lenV_ok sim r1 e, post_sc (p := .int n) sim rfl q⟩
  · exact q.elim
def gAbs : List D → Store → R D := fun ds S => match ds with
  | [.py (.int i)] => .ok (.py (.int (if i < 0 then -i else i))) S
  | _ => .no
theorem cd_abs : CaD K (fun xs H Q => ∃ i, xs = [.int i] ∧ Q (.int (if i < 0 then -i else i)) H) gAbs := by
  intro mg W ρ S σ H Q xs ds sim r q
  unfold gAbs at q
  split at q
  · rename_i i
    obtain ⟨x, rfl, r1⟩ := reps1 r
    rw [dp_int r1]
    exact ⟨i, rfl, post_sc (p := .int _) sim rfl q⟩
  · exact q.elim
def gMax2 : List D → Store → R D := fun ds S => match ds with
  | [.py (.int i), .py (.int j)] => .ok (.py (.int (if j > i then j else i))) S
  | _ => .no
theorem cd_max2 : CaD K (fun xs H Q => ∃ i j, xs = [.int i, .int j] ∧ Q (.int (if j > i then j else i)) H) gMax2 := by
  intro mg W ρ S σ H Q xs ds sim r q
  unfold gMax2 at q
  split at q
  · rename_i i j
    obtain ⟨x, y, rfl, r1, r2⟩ := reps2 r
    rw [dp_int r1, dp_int r2]
    exact ⟨i, j, rfl, post_sc (p := .int _) sim rfl q⟩
  · exact q.elim
def gMin2 : List D → Store → R D := fun ds S => match ds with
  | [.py (.int i), .py (.int j)] => .ok (.py (.int (if j < i then j else i))) S
  | _ => .no
theorem cd_min2 : CaD K (fun xs H Q => ∃ i j, xs = [.int i, .int j] ∧ Q (.int (if j < i then j else i)) H) gMin2 := by
  intro mg W ρ S σ H Q xs ds sim r q
  unfold gMin2 at q
  split at q
  · rename_i i j
    obtain ⟨x, y, rfl, r1, r2⟩ := reps2 r
    rw [dp_int r1, dp_int r2]
    exact ⟨i, j, rfl, post_sc (p := .int _) sim rfl q⟩
  · exact q.elim
def gIntF : List D → Store → R D := fun ds S => match ds with
  | [.py (.int i)] => .ok (.py (.int i)) S
  | [.py (.bool b)] => .ok (.py (.int (if b then 1 else 0))) S
  | _ => .no
theorem cd_int : CaD K (fun xs H Q => (∃ i, xs = [.int i] ∧ Q (.int i) H) ∨ ∃ k, xs = [.bl k] ∧ Q (.int (if k then 1 else 0)) H) gIntF := by
  intro mg W ρ S σ H Q xs ds sim r q
  unfold gIntF at q
  split at q
  · rename_i i
    obtain ⟨x, rfl, r1⟩ := reps1 r
    rw [dp_int r1]
    exact .inl ⟨i, rfl, post_sc (p := .int _) sim rfl q⟩
  · rename_i i
    obtain ⟨x, rfl, r1⟩ := reps1 r
    rw [dp_bool r1]
    exact .inr ⟨i, rfl, post_sc (p := .int _) sim rfl q⟩
  · exact q.elim
def gTupF : List D → Store → R D := fun ds S => match ds with
  | [d] => (match rd S d with
    | some (.tuple l) => .ok (.py (.tuple l)) S
    | some (.list l) => .ok (.py (.tuple l)) S
    | _ => .no)
  | _ => .no
theorem cd_tup : CaD K (fun xs H Q => ∃ p ys, xs = [.ref p] ∧ ((SqL K H p ys ∧ ∀ l, H l = none → Q (.ref l) (upd H l (.tup ys))) ∨ (SqT K H p ys ∧ Q (.ref p) H))) gTupF := by
  intro mg W ρ S σ H Q xs ds sim r q
  unfold gTupF at q
  split at q
  · rename_i d
    obtain ⟨x, rfl, r1⟩ := reps_one r
    split at q
    · rename_i l hr
      have e := rd_tup hr
      subst e
      obtain ⟨p, ys, rfl, h1, hd⟩ := rd_tupl r1 hr
      exact ⟨p, ys, rfl, .inr ⟨h1, post_v (d := .py (.tuple l)) sim r1 q⟩⟩
    · rename_i l hr
      obtain ⟨p, ys, rfl, h1, hd⟩ := rd_lst sim r1 hr
      exact ⟨p, ys, rfl, .inl ⟨h1, fun a ha => post_tup sim ha hd q⟩⟩
    · exact q.elim
  · exact q.elim
def gLstF : List D → Store → R D := fun ds S => match ds with
  | [d] => (match rd S d with
    | some (.tuple l) => if fits l.length then .ok (.loc S.length) (S ++ [.lst l]) else .no
    | some (.list l) => if fits l.length then .ok (.loc S.length) (S ++ [.lst l]) else .no
    | _ => .no)
  | _ => .no
theorem cd_lst : CaD K (fun xs H Q => ∃ p ys, xs = [.ref p] ∧ (SqL K H p ys ∨ SqT K H p ys) ∧ ∀ l, H l = none → Q (.ref l) (upd H l (.lst ys))) gLstF := by
  intro mg W ρ S σ H Q xs ds sim r q
  unfold gLstF at q
  split at q
  · rename_i d
    obtain ⟨x, rfl, r1⟩ := reps_one r
    split at q
    · rename_i l hr
      obtain ⟨p, ys, rfl, h1, hd⟩ := rd_tupl r1 hr
      split at q
      · rename_i hf
        exact ⟨p, ys, rfl, .inr h1, fun a ha => post_loc (c := .lst l) sim ha ⟨ys, rfl, hd, by rw [dpa_length hd]; exact fits_ok hf⟩ q⟩
      · exact q.elim
    · rename_i l hr
      obtain ⟨p, ys, rfl, h1, hd⟩ := rd_lst sim r1 hr
      split at q
      · rename_i hf
        exact ⟨p, ys, rfl, .inl h1, fun a ha => post_loc (c := .lst l) sim ha ⟨ys, rfl, hd, by rw [dpa_length hd]; exact fits_ok hf⟩ q⟩
      · exact q.elim
    · exact q.elim
  · exact q.elim
/-! isinstance of data -/
def tyN : PyData → String
  | .none => "NoneType"
  | .bool _ => "bool"
  | .int _ => "int"
  | .str _ => "str"
  | .list _ => "list"
  | .tuple _ => "tuple"
  | .dict _ => "dict"
def isI : PyData → String → Option Bool
  | .int _, "int" => some true
  | .bool _, "int" => some true
  | .none, "int" => some false
  | .str _, "int" => some false
  | .list _, "int" => some false
  | .tuple _, "int" => some false
  | .int _, "bool" => some false
  | .bool _, "bool" => some true
  | .none, "bool" => some false
  | .str _, "bool" => some false
  | .list _, "bool" => some false
  | .tuple _, "bool" => some false
  | .int _, "tuple" => some false
  | .bool _, "tuple" => some false
  | .none, "tuple" => some false
  | .str _, "tuple" => some false
  | .list _, "tuple" => some false
  | .tuple _, "tuple" => some true
  | .int _, "list" => some false
  | .bool _, "list" => some false
  | .none, "list" => some false
  | .str _, "list" => some false
  | .list _, "list" => some true
  | .tuple _, "list" => some false
  | .int _, "str" => some false
  | .bool _, "str" => some false
  | .none, "str" => some false
  | .str _, "str" => some true
  | .list _, "str" => some false
  | .tuple _, "str" => some false
  | _, _ => none
theorem sql_ty {H : Hp} {a : Addr} {xs : List V} (h : SqL K H a xs) : TyX K H (.ref a) (.type "list") := by
  rcases h with (h | ⟨o, h⟩) | ⟨o, its, n, h1, h2, _⟩
  · exact .base (.lst h)
  · exact .base (.frz h)
  · exact .kList h1 h2
theorem sqt_ty {H : Hp} {a : Addr} {xs : List V} (h : SqT K H a xs) : TyX K H (.ref a) (.type "tuple") := by
  rcases h with (h | ⟨o, h⟩) | ⟨o, its, n, h1, h2, _⟩
  · exact .base (.tup h)
  · exact .fTuple h
  · exact .kTuple h1 h2
theorem dp_ty {H : Hp} {v : V} {p : PyData} (h : Dp K H v p) : TyX K H v (.type (tyN p)) := by
  cases h with
  | non => exact .base .non
  | bl b => exact .base (.bl b)
  | int i => exact .base (.int i)
  | str x => exact .base (.str x)
  | lst h1 h2 => exact sql_ty h1
  | tup h1 h2 => exact sqt_ty h1
theorem isI_ok {p : PyData} {c : String} {b : Bool} (h : isI p c = some b) : PySem.W.kitOne K (.type (tyN p)) (.type c) = some b := by
  apply kit_ty
  unfold isI at h
  split at h <;> first | (cases h; dsimp only [tyN]; decide +kernel) | cases h
def gIsI (c : String) : List D → Store → R D := fun ds S => match ds with
  | [d, .raw _] => (match rd S d with
    | some p => (match isI p c with
      | some b => .ok (.py (.bool b)) S
      | none => .no)
    | none => .no)
  | _ => .no
/-- isinstance(x, T), T the name of a built-in type -/
theorem se_isI {X : Cx} {mg : Str → Option Value} {W : WX} {a t : Expr} {ma : M D} {c : String} {p pos : Pos} (hg : Gl X "isinstance") (hm : X.mg "isinstance" = none) (ha : PE X a (tE X.K mg W ma)) (ht : PE X t (tC (.ty c)))
    (he : starEach (a :: [t]) X.env = (false, eval a X.env) :: starEach [t] X.env := by rfl) (he2 : starEach (t :: []) X.env = (false, eval t X.env) :: starEach [] X.env := by rfl) (hpl : (backTo pos (starEach [t] X.env)).any (·.1) = false := by rfl) :
    PE X (.Call (.Name "isinstance" p) [a, t] [] pos) (tE X.K mg W (mCall (gIsI c) (mCons ma (mCons (fun _ S => .ok (.raw (.ty c)) S) mNil)))) := by
  refine pe_imp (pe_callB call_isi hg hm (by decide +kernel) (pa_cons ha (pa_cons ht pa_nil he2) he) (by decide) (by decide) he hpl) fun σ H Q ⟨ρ, S, env, sim, re, q⟩ => ?_
  unfold mCall mCons at q
  have q : Post X.K mg W (RepD X.K) ρ σ H Q (bd (ma env S) fun x S1 => gIsI c [x, .raw (.ty c)] S1) := by
    cases e : ma env S with
    | no => rw [e] at q; exact q
    | exc x S1 => rw [e] at q; exact q
    | ok d S1 => rw [e] at q; exact q
  refine tM.bind sim re q fun ρ1 S1 x d H1 e1 sim1 re1 r1 q1 => ?_
  unfold gIsI at q1
  simp only at q1
  cases hr : rd S1 d with
  | none => rw [hr] at q1; exact q1.elim
  | some pd =>
    rw [hr] at q1
    simp only at q1
    cases hi : isI pd c with
    | none => rw [hi] at q1; exact q1.elim
    | some b =>
      rw [hi] at q1
      exact ⟨x, .ty c, _, _, b, rfl, .ty c, dp_ty (rd_ok sim1 r1 hr), isI_ok hi, post_sc (p := .bool b) sim1 rfl q1⟩
/-! ### sorted, sum, all, any, max, min -/
def toInts : List PyData → Option (List Int)
  | [] => some []
  | .int i :: r => (toInts r).map (i :: ·)
  | _ :: _ => none
def ofInts (l : List Int) : List PyData := l.map PyData.int
theorem toInts_ok {H : Hp} : ∀ {ps : List PyData} {xs : List V} {ns : List Int}, DpAll K H xs ps → toInts ps = some ns → xs = ns.map V.int
  | _, _, _, .nil, h => by cases h; rfl
  | _, _, _, .cons (d := d) a b, h => by
    cases d with
    | int i =>
      unfold toInts at h
      cases e : toInts _ with
      | none => rw [e] at h; cases h
      | some ms => rw [e] at h; cases h; rw [dp_int a, toInts_ok b e]; rfl
    | none => cases h
    | bool b => cases h
    | str s => cases h
    | list l => cases h
    | tuple l => cases h
    | dict l => cases h
theorem dpa_ints (H : Hp) : ∀ ns : List Int, DpAll K H (ns.map V.int) (ofInts ns)
  | [] => .nil
  | i :: r => .cons (.int i) (dpa_ints H r)
def ins (x : Int) : List Int → List Int
  | [] => [x]
  | y :: r => if x ≤ y then x :: y :: r else y :: ins x r
def isort : List Int → List Int
  | [] => []
  | x :: r => ins x (isort r)
theorem ins_perm (x : Int) : ∀ l : List Int, (ins x l).Perm (x :: l)
  | [] => List.Perm.refl _
  | y :: r => by
    unfold ins
    split
    · exact List.Perm.refl _
    · exact ((ins_perm x r).cons y).trans (List.Perm.swap x y r)
theorem isort_perm : ∀ l : List Int, (isort l).Perm l
  | [] => List.Perm.refl _
  | x :: r => (ins_perm x (isort r)).trans ((isort_perm r).cons x)
theorem ins_sorted (x : Int) : ∀ l : List Int, l.Pairwise (· ≤ ·) → (ins x l).Pairwise (· ≤ ·)
  | [], _ => List.pairwise_singleton _ _
  | y :: r, h => by
    unfold ins
    split
    · rename_i hx
      refine List.pairwise_cons.mpr ⟨fun z hz => ?_, h⟩
      rcases List.mem_cons.mp hz with e | e
      · omega
      · have := (List.pairwise_cons.mp h).1 z e; omega
    · rename_i hx
      refine List.pairwise_cons.mpr ⟨fun z hz => ?_, ins_sorted x r (List.pairwise_cons.mp h).2⟩
      rcases List.mem_cons.mp ((ins_perm x r).mem_iff.mp hz) with e | e
      · omega
      · exact (List.pairwise_cons.mp h).1 z e
theorem isort_sorted : ∀ l : List Int, (isort l).Pairwise (· ≤ ·)
  | [] => List.Pairwise.nil
  | x :: r => ins_sorted x _ (isort_sorted r)
theorem sorted_uniq : ∀ {l m : List Int}, l.Perm m → l.Pairwise (· ≤ ·) → m.Pairwise (· ≤ ·) → l = m
  | [], m, h, _, _ => (List.nil_perm.mp h).symm
  | x :: l, [], h, _, _ => absurd h.symm (by simp)
  | x :: l, y :: m, h, h1, h2 => by
    have hx : y ≤ x := by
      rcases List.mem_cons.mp (h.mem_iff.mp (List.mem_cons_self (a := x) (l := l))) with e | e
      · omega
      · exact (List.pairwise_cons.mp h2).1 x e
    have hy : x ≤ y := by
      rcases List.mem_cons.mp (h.mem_iff.mpr (List.mem_cons_self (a := y) (l := m))) with e | e
      · omega
      · exact (List.pairwise_cons.mp h1).1 y e
    have e : x = y := by omega
    subst e
    rw [sorted_uniq (List.Perm.cons_inv h) (List.pairwise_cons.mp h1).2 (List.pairwise_cons.mp h2).2]
def gSortI : List D → Store → R D := fun ds S => match ds with
  | [d] => (match rd S d with
    | some (.list l) => (match toInts l with
      | some ns => if fits ns.length then .ok (.loc S.length) (S ++ [.lst (ofInts (isort ns))]) else .no
      | none => .no)
    | _ => .no)
  | _ => .no
theorem cd_sortI : CaD K (rSortedI K) gSortI := by
  intro mg W ρ S σ H Q xs ds sim r q
  unfold gSortI at q
  split at q
  · rename_i d
    obtain ⟨x, rfl, r1⟩ := reps_one r
    split at q
    · rename_i l hr
      obtain ⟨p, ys, rfl, h1, hd⟩ := rd_lst sim r1 hr
      cases e : toInts l with
      | none => rw [e] at q; exact q.elim
      | some ns =>
        rw [e] at q
        simp only at q
        have e2 := toInts_ok hd e
        subst e2
        split at q
        · rename_i hf
          refine ⟨p, ns, rfl, h1, fun ns' a hp hs ha => ?_⟩
          have e3 : ns' = isort ns := sorted_uniq (hp.trans (isort_perm ns).symm) hs (isort_sorted ns)
          subst e3
          refine post_loc (c := .lst (ofInts (isort ns))) sim ha ⟨_, rfl, dpa_ints _ _, ?_⟩ q
          rw [List.length_map, (isort_perm ns).length_eq]
          exact fits_ok hf
        · exact q.elim
    · exact q.elim
  · exact q.elim
def gSum : List D → Store → R D := fun ds S => match ds with
  | [d] => (match rd S d with
    | some (.list l) => (match toInts l with
      | some ns => .ok (.py (.int ns.sum)) S
      | none => .no)
    | _ => .no)
  | _ => .no
theorem cd_sum : CaD K (rSum K) gSum := by
  intro mg W ρ S σ H Q xs ds sim r q
  unfold gSum at q
  split at q
  · rename_i d
    obtain ⟨x, rfl, r1⟩ := reps_one r
    split at q
    · rename_i l hr
      obtain ⟨p, ys, rfl, h1, hd⟩ := rd_lst sim r1 hr
      cases e : toInts l with
      | none => rw [e] at q; exact q.elim
      | some ns =>
        rw [e] at q
        have e2 := toInts_ok hd e
        subst e2
        exact ⟨p, ns, rfl, h1, post_sc (p := .int ns.sum) sim rfl q⟩
    · exact q.elim
  · exact q.elim
def toBools : List PyData → Option (List Bool)
  | [] => some []
  | .bool i :: r => (toBools r).map (i :: ·)
  | _ :: _ => none
theorem toBools_ok {H : Hp} : ∀ {ps : List PyData} {xs : List V} {ns : List Bool}, DpAll K H xs ps → toBools ps = some ns → xs = ns.map V.bl
  | _, _, _, .nil, h => by cases h; rfl
  | _, _, _, .cons (d := d) a b, h => by
    cases d with
    | bool i =>
      unfold toBools at h
      cases e : toBools _ with
      | none => rw [e] at h; cases h
      | some ms => rw [e] at h; cases h; rw [dp_bool a, toBools_ok b e]; rfl
    | none => cases h
    | int b => cases h
    | str s => cases h
    | list l => cases h
    | tuple l => cases h
    | dict l => cases h
def gAll : List D → Store → R D := fun ds S => match ds with
  | [d] => (match rd S d with
    | some (.list l) => (match toBools l with
      | some ns => .ok (.py (.bool (ns.all id))) S
      | none => .no)
    | _ => .no)
  | _ => .no
def gAny : List D → Store → R D := fun ds S => match ds with
  | [d] => (match rd S d with
    | some (.list l) => (match toBools l with
      | some ns => .ok (.py (.bool (ns.any id))) S
      | none => .no)
    | _ => .no)
  | _ => .no
theorem cd_all : CaD K (rAll K) gAll := by
  intro mg W ρ S σ H Q xs ds sim r q
  unfold gAll at q
  split at q
  · rename_i d
    obtain ⟨x, rfl, r1⟩ := reps_one r
    split at q
    · rename_i l hr
      obtain ⟨p, ys, rfl, h1, hd⟩ := rd_lst sim r1 hr
      cases e : toBools l with
      | none => rw [e] at q; exact q.elim
      | some ns =>
        rw [e] at q
        have e2 := toBools_ok hd e
        subst e2
        exact ⟨p, ns, rfl, h1, post_sc (p := .bool _) sim rfl q⟩
    · exact q.elim
  · exact q.elim
theorem cd_any : CaD K (rAny K) gAny := by
  intro mg W ρ S σ H Q xs ds sim r q
  unfold gAny at q
  split at q
  · rename_i d
    obtain ⟨x, rfl, r1⟩ := reps_one r
    split at q
    · rename_i l hr
      obtain ⟨p, ys, rfl, h1, hd⟩ := rd_lst sim r1 hr
      cases e : toBools l with
      | none => rw [e] at q; exact q.elim
      | some ns =>
        rw [e] at q
        have e2 := toBools_ok hd e
        subst e2
        exact ⟨p, ns, rfl, h1, post_sc (p := .bool _) sim rfl q⟩
    · exact q.elim
  · exact q.elim
/-! ### items, slices -/
def gIx : D → D → Store → R D := fun x y S => match rd S x, y with
  | some (.list l), .py (.int i) => retP (atI l i) S
  | some (.tuple l), .py (.int i) => retP (atI l i) S
  | some (.str s), .py (.int i) => if fits s.length then (match atI s.cps.toList i with
    | some c => .ok (.py (.str ⟨#[c]⟩)) S
    | none => .no) else .no
  | _, _ => .no
theorem atI_rep {H : Hp} {xs : List V} {ps : List PyData} {i : Int} {p : PyData} (hd : DpAll K H xs ps) (h : atI ps i = some p) : ∃ v, atI xs i = some v ∧ Dp K H v p := by
  unfold atI at h ⊢
  rw [dpa_length hd]
  cases e : ixN ps.length i with
  | none => rw [e] at h; cases h
  | some j => rw [e] at h; exact dpa_get hd h
theorem od_ix : OpD K (rIx K) gIx := by
  intro mg W ρ S σ H Q x y dx dy sim rx ry q
  unfold gIx at q
  split at q
  · rename_i l i hx
    cases e : atI l i with
    | none => rw [e] at q; exact q.elim
    | some p =>
      rw [e] at q
      obtain ⟨a, xs, rfl, h1, hd⟩ := rd_lst sim rx hx
      obtain ⟨v, hv, dv⟩ := atI_rep hd e
      exact .inl ⟨a, xs, i, v, rfl, dp_int (rep_py ry), h1, hv, post_v (d := .py p) sim dv q⟩
  · rename_i l i hx
    cases e : atI l i with
    | none => rw [e] at q; exact q.elim
    | some p =>
      rw [e] at q
      obtain ⟨a, xs, rfl, h1, hd⟩ := rd_tupl rx hx
      obtain ⟨v, hv, dv⟩ := atI_rep hd e
      exact .inr (.inl ⟨a, xs, i, v, rfl, dp_int (rep_py ry), h1, hv, post_v (d := .py p) sim dv q⟩)
  · rename_i s i hx
    split at q
    · rename_i hf
      split at q
      · rename_i c hc
        exact .inr (.inr ⟨s, i, c, dp_str (rd_ok sim rx hx), dp_int (rep_py ry), fits_ok hf, hc, post_sc (p := .str _) sim rfl q⟩)
      · exact q.elim
    · exact q.elim
  · exact q.elim
theorem se_ix {X : Cx} {mg : Str → Option Value} {W : WX} {a b : Expr} {pos : Pos} {ma mb : M D} (ha : PE X a (tE X.K mg W ma)) (hb : PE X b (tE X.K mg W mb)) (hs : PlainIx b := by exact fun _ _ => rfl) : PE X (.Subscript a b pos) (tE X.K mg W (m2 gIx ma mb)) := by
  refine pe_imp (pe_ix ix_seq ha hb hs) fun σ H Q ⟨ρ, S, env, sim, re, q⟩ => ?_
  refine tM.bind sim re q fun ρ1 S1 x dx H1 e1 sim1 re1 r1 q1 => ?_
  refine tM.bind sim1 re1 q1 fun ρ2 S2 y dy H2 e2 sim2 re2 r2 q2 => ?_
  exact od_ix mg W ρ2 S2 σ H2 Q x y dx dy sim2 (r1.mono e2) r2 q2
/-- the part from lo to hi -/
def cutL {α : Type} (xs : List α) (lo hi : Option Int) : List α := (xs.drop (HT.sIx xs.length 0 lo)).take (HT.sIx xs.length xs.length hi - HT.sIx xs.length 0 lo)
abbrev mO := M (Option Int)
def oNone : mO := fun _ S => .ok none S
def oSome (m : M D) : mO := fun env S => bd (m env S) fun x S1 => match x with
  | .py (.int i) => .ok (some i) S1
  | _ => .no
abbrev tOO (K : PySem.W.Frag) (mg : Str → Option Value) (W : WX) (m : mO) : TO := tM K mg W (fun _ _ b c => b = c) m
theorem po_imp {X : Cx} {e : Option Expr} {t t' : TO} (h : PO X e t) (i : ∀ σ H Q, t' σ H Q → t σ H Q) : PO X e t' := ⟨fun pins s σ H Q I q => h.run pins s σ H Q I (i σ H Q q)⟩
theorem so_none {X : Cx} {mg : Str → Option Value} {W : WX} : PO X none (tOO X.K mg W oNone) := po_imp po_none fun σ H Q ⟨ρ, S, env, sim, re, q⟩ => q none H ρ (Ext.refl _ _) sim rfl
theorem so_some {X : Cx} {mg : Str → Option Value} {W : WX} {e : Expr} {m : M D} (h : PE X e (tE X.K mg W m)) : PO X (some e) (tOO X.K mg W (oSome m)) := po_imp (po_some h) fun σ H Q ⟨ρ, S, env, sim, re, q⟩ => by
  refine tM.bind sim re q fun ρ1 S1 x d H1 e1 sim1 re1 r1 q1 => ?_
  split at q1
  · rename_i i
    exact ⟨i, dp_int (rep_py r1), q1 _ H1 ρ1 (Ext.refl _ _) sim1 rfl⟩
  · exact q1.elim
def gSl (x : D) (lo hi : Option Int) (S : Store) : R D := match rd S x with
  | some (.tuple l) => .ok (.py (.tuple (cutL l lo hi))) S
  | some (.list l) => if fits l.length then .ok (.loc S.length) (S ++ [.lst (cutL l lo hi)]) else .no
  | _ => .no
def mSl (m : M D) (lo hi : mO) : M D := fun env S => bd (m env S) fun x S1 => bd (lo env S1) fun l S2 => bd (hi env S2) fun h S3 => gSl x l h S3
def rSlB (K : PySem.W.Frag) : V → Option Int → Option Int → Hp → VK → Prop := fun x lo hi H Q => rSlA K x lo hi H Q ∨ rSlL K x lo hi H Q
theorem sl_both {X : Cx} : SlR X (rSlB X.K) := SlR.or sl_tupA sl_list
theorem cutL_whole {α : Type} {l : List α} {lo hi : Option Int} (h : HT.sIx l.length 0 lo = 0 ∧ HT.sIx l.length l.length hi = l.length) : cutL l lo hi = l := by
  unfold cutL
  rw [h.1, h.2, List.drop_zero, Nat.sub_zero, List.take_length]
theorem dpa_cut {H : Hp} {xs : List V} {ps : List PyData} (hd : DpAll K H xs ps) (lo hi : Option Int) : DpAll K H (cutV xs lo hi) (cutL ps lo hi) := by
  unfold cutV cutL
  rw [dpa_length hd]
  exact dpa_take _ (dpa_drop _ hd)
theorem se_sl {X : Cx} {mg : Str → Option Value} {W : WX} {e : Expr} {lo hi : Option Expr} {p2 pos : Pos} {m : M D} {ml mh : mO} (he : PE X e (tE X.K mg W m)) (hl : PO X lo (tOO X.K mg W ml)) (hh : PO X hi (tOO X.K mg W mh)) : PE X (.Subscript e (.Slice lo hi none p2) pos) (tE X.K mg W (mSl m ml mh)) := by
  refine pe_imp (pe_slice sl_both he hl hh) fun σ H Q ⟨ρ, S, env, sim, re, q⟩ => ?_
  refine tM.bind sim re q fun ρ1 S1 x d H1 e1 sim1 re1 r1 q1 => ?_
  refine tM.bind sim1 re1 q1 fun ρ2 S2 l l' H2 e2 sim2 re2 el q2 => ?_
  subst el
  refine tM.bind sim2 re2 q2 fun ρ3 S3 h h' H3 e3 sim3 re3 eh q3 => ?_
  subst eh
  have r3 := r1.mono (e2.trans e3)
  unfold gSl at q3
  split at q3
  · rename_i t hr
    have ed := rd_tup hr
    subst ed
    obtain ⟨a, xs, rfl, h1, hd⟩ := rd_tupl r3 hr
    refine .inl ⟨a, xs, rfl, h1, fun hw => ?_, fun _ p hp => post_tup sim3 hp (dpa_cut hd l h) q3⟩
    rw [dpa_length hd] at hw
    rw [cutL_whole hw] at q3
    exact post_v (d := .py (.tuple t)) sim3 r3 q3
  · rename_i t hr
    obtain ⟨a, xs, rfl, h1, hd⟩ := rd_lst sim3 r3 hr
    split at q3
    · rename_i hf
      refine .inr ⟨a, xs, rfl, h1, fun p hp => post_loc (c := .lst (cutL t l h)) sim3 hp ⟨_, rfl, dpa_cut hd l h, Nat.le_trans (cutV_length _ _ _) ?_⟩ q3⟩
      rw [dpa_length hd]
      exact fits_ok hf
    · exact q3.elim
  · exact q3.elim
end
end PX

end P_PX6
section P_PX7
set_option maxHeartbeats 4000000

namespace HT
open PySem PySem.Spec PyProof.Rows
section
variable {prog : Program} {w : World} {A : Around} {E : Value → Shared → Prop} {s : Shared}
theorem px_places (n : Nat) : Builtin.Slice.slicePlaces ((n : Int) - 1) (-1) (-1) = n := by
  unfold Builtin.Slice.slicePlaces
  have h1 : ¬ ((-1 : Int) > 0) := by decide
  simp only [h1, if_false]
  have e1 : (-(-1) : Int) = 1 := by decide
  rw [e1]
  simp only [Int.ediv_one]
  split <;> omega
theorem px_applied {sl : Addr} {vs : Value} {n : Nat} {Q : Int × Int × Nat → Shared → Prop} (hs : s.heap.IsSliceOf sl .none .none vs) (ps : IsPart vs (some (-1)))
    (h : Q ((n : Int) - 1, -1, n) s) : wpAny (model prog w) A (Builtin.Slice.sliceApplied (.ref sl) (pure (n : Int))) Q E s := by
  obtain ⟨os, hos, hcs, hds⟩ := id hs
  unfold Builtin.Slice.sliceApplied Builtin.Slice.sliceFields
  refine wpAny_bind (wpAny_bind (wpAny_field hos hds (x := .none) rfl (wpAny_bind (wpAny_field hos hds (x := .none) rfl (wpAny_bind (wpAny_field hos hds (x := vs) rfl (wpAny_pure ?_)))))))
  refine wpAny_bind (slicePart_ ps ?_)
  show wpAny _ _ (if ((-1 : Int) == 0) = true then _ else _) _ _ s
  rw [if_neg (by decide)]
  refine wpAny_bind (slicePart_none (wpAny_bind (slicePart_none (wpAny_bind (wpAny_pure ?_)))))
  show wpAny _ _ (match Builtin.Slice.sliceAdjust none none (-1) (n : Int) with | (lo, hi) => pure (lo, (-1 : Int), Builtin.Slice.slicePlaces lo hi (-1))) _ _ s
  show wpAny _ _ (pure ((n : Int) - 1, (-1 : Int), Builtin.Slice.slicePlaces ((n : Int) - 1) (-1) (-1))) _ _ s
  rw [px_places]
  exact wpAny_pure h
theorem px_pick (xs : List Value) : ((List.range xs.toArray.size).filterMap fun (m : Nat) => xs.toArray[(((xs.toArray.size : Nat) : Int) - 1 + (m : Int) * (-1)).toNat]?).toArray = xs.reverse.toArray := by
  congr 1
  have key : ∀ n, n ≤ xs.length → (List.range n).filterMap (fun (m : Nat) => xs[xs.length - 1 - m]?) = xs.reverse.take n := by
    intro n
    induction n with
    | zero => intro _; simp
    | succ n ih =>
      intro hn
      rw [List.range_succ, List.filterMap_append, ih (by omega)]
      have hlt : xs.length - 1 - n < xs.length := by omega
      have e1 : xs[xs.length - 1 - n]? = some xs[xs.length - 1 - n] := List.getElem?_eq_getElem hlt
      have e2 : xs.reverse[n]? = some xs[xs.length - 1 - n] := by
        rw [List.getElem?_reverse (by omega), e1]
      rw [List.take_add_one, e2]
      simp [e1]
  have e : (fun (m : Nat) => xs.toArray[(((xs.toArray.size : Nat) : Int) - 1 + (m : Int) * (-1)).toNat]?) = fun (m : Nat) => xs[((xs.length : Int) - 1 + (m : Int) * (-1)).toNat]? := by
    funext m
    simp
  rw [e, List.size_toArray]
  have e3 : (fun (m : Nat) => xs[((xs.length : Int) - 1 + (m : Int) * (-1)).toNat]?) = (fun (m : Nat) => xs[xs.length - 1 - m]?) := by
    funext m
    have : ((xs.length : Int) - 1 + (m : Int) * (-1)).toNat = xs.length - 1 - m := by omega
    rw [this]
  rw [e3, key _ (Nat.le_refl _), ← List.length_reverse, List.take_length]
theorem px_getItem_rev {t sl : Addr} {xs : List Value} {vs : Value} {Q : Value → Shared → Prop} (ht : IsTup s.heap t xs.toArray) (hs : s.heap.IsSliceOf sl .none .none vs) (ps : IsPart vs (some (-1)))
    (h : Q (.ref s.heap.objs.size) { s with heap := s.heap.push { cls := .type "tuple", data := .seq xs.reverse.toArray } })
    (hsz : xs.toArray.size ≤ sizeLine) : wpAny (model prog w) A (getItem (.ref t) (.ref sl)) Q E s := by
  have htake : sizeOk (.seq xs.reverse.toArray) := by
    show xs.reverse.toArray.size ≤ sizeLine
    rw [List.size_toArray, List.length_reverse]
    rw [List.size_toArray] at hsz
    exact hsz
  obtain ⟨os, hos, hcs, hds⟩ := id hs
  have hTs : s.TypeIs (.ref sl) "slice" := ⟨os, hos, hcs⟩
  unfold getItem
  try with_reducible refine wpAny_holding ?_
  first | refine wpAny_bind (wpAny_pure ?_) | skip
  refine wpAny_bind (wpAny_sequenceKey ht.typeIs (by decide) ?_)
  refine wpAny_bind (wpAny_callSpecial?_slot (name := Str.ofString "__getitem__") ht.typeIs PyProof.Rows.slot_tuple_getitem
    (wpAny_call_entry PyProof.Rows.slot_tuple_getitem ht.typeIs entry_tuple_getitem ?_ (args_tuple_getitem _ _)))
  show wpAny _ _ (Builtin.Tuple.tupleItemsOf (.ref t) >>= _) _ _ s
  refine wpAny_bind (tupleItemsOf_ ht ?_)
  refine wpAny_bind (wpAny_typeOf hTs ?_)
  rw [if_pos (by decide)]
  refine wpAny_bind (px_applied hs ps ?_)
  have hno : ¬ (((((xs.toArray.size : Nat) : Int) - 1) == 0 && (-1 : Int) == 1 && xs.toArray.size == xs.toArray.size) = true) := by
    intro q
    rw [Bool.and_eq_true, Bool.and_eq_true] at q
    exact absurd q.1.2 (by decide)
  show wpAny _ _ (if ((((xs.toArray.size : Nat) : Int) - 1) == 0 && (-1 : Int) == 1 && xs.toArray.size == xs.toArray.size) = true then _ else _) _ _ s
  rw [if_neg hno, px_pick]
  first
    | exact wpAny_bind (m := Builtin.Tuple.tupleExact _) (wpAny_newObj_type (wpAny_pure ⟨_, rfl, wpAny_pure h⟩) htake)
    | exact wpAny_bind (m := Builtin.Tuple.tupleExact _) (wpAny_newObj_type (wpAny_bind (wpAny_pure (wpAny_pure ⟨_, rfl, wpAny_pure h⟩))) htake)
    | exact wpAny_bind (wpAny_bind (m := Builtin.Tuple.tupleExact _) (wpAny_newObj_type (wpAny_pure (wpAny_pure ⟨_, rfl, wpAny_pure h⟩)) htake))
    | exact wpAny_bind (wpAny_bind (m := Builtin.Tuple.tupleExact _) (wpAny_newObj_type (wpAny_pure ⟨_, rfl, wpAny_pure h⟩) htake))
end
end HT

namespace PX
open PySem PySem.Spec PyProof.Rows L2

/-! ### t[::-1] of a tuple, of a list -/
def tRevA (K : PySem.W.Frag) (te : TE) : TE := fun σ H Q => te σ H fun x H1 => (∃ a xs, x = .ref a ∧ SqL K H1 a xs ∧ ∀ p, H1 p = none → Q (.ref p) (upd H1 p (.lst xs.reverse))) ∨ (∃ a xs, x = .ref a ∧ SqT K H1 a xs ∧ ∀ p, H1 p = none → Q (.ref p) (upd H1 p (.tup xs.reverse)))
theorem pe_revA {X : Cx} {e : Expr} {te : TE} {k : Nat} {p1 p2 p3 pos : Pos} (he : PE X e te) : PE X (.Subscript e (.Slice none none (some (.UnaryOp .USub (.Constant (.int 1) k p1) p2)) p3) pos) (tRevA X.K te) := by
  refine ⟨fun pins s σ H Q I h => ?_⟩
  refine Subscript_ (thn (he.run pins s σ H _ I h) fun v s1 ⟨x, H1, I1, r1, q1⟩ => ?_)
  have hst : PO X (some (.UnaryOp .USub (.Constant (.int 1) k p1) p2)) (tPart (tUn (rU fun i => .int (-i)) (tC (.int 1)))) := po_some (pe_un un_neg pe_int)
  refine wpAny_Slice ?_
  rw [evalPart_none]
  refine wpAny_pure (wpAny_pure ?_)
  refine thn (hst.run pins s1 σ H1 (fun o H4 => o = some (-1) ∧ H4 = H1) I1 ⟨1, rfl, -1, rfl, rfl, rfl⟩) fun vs s4 ⟨o, H4, I4, ps, eo, e4⟩ => ?_
  subst eo e4
  have I5 : L2.Inv X pins σ H4 { s4 with heap := s4.heap.push { cls := .type "slice", data := .fields #[.none, .none, vs] } } := I4.kept (t' := s4.toks) fun b ob q => Heap.get?_push_of_some _ q
  rcases q1 with ⟨a, xs, ex, hx, q⟩ | ⟨a, xs, ex, hx, q⟩
  · subst ex
    cases r1
    obtain ⟨its, r, ht, hz⟩ := I5.list hx
    have hlen := r.length
    show wpAny (model X.prog X.w) X.A (subscriptTail e (.Slice none none (some (.UnaryOp .USub (.Constant (.int 1) k p1) p2)) p3) (.ref a) (.ref s4.heap.objs.size)) (EP X pins σ Q) X.xe { s4 with heap := s4.heap.push { cls := .type "slice", data := .fields #[.none, .none, vs] } }
    refine tail_any (ops := [.ref a, .ref s4.heap.objs.size]) ht.isList.typeIs (PySem.slot_list_getitem.lookup) ?_ (by with_unfolding_all rfl)
    refine wpAny_getItem_list_slice ht.isList (Heap.IsSliceOf.new _ .none .none vs) .none .none ps (by decide) ?_ (by rw [List.size_toArray]; omega)
    rw [PySem.W.krv_pick]
    refine ⟨.ref _, _, I5.laid (t' := s4.toks) (o := .lst xs.reverse) (fun b ob q => Heap.get?_push_of_some _ q) (Nat.le_refl _) ?_, rfl, q _ (I5.hok.fresh (Nat.le_refl _))⟩
    exact ⟨by rw [List.length_reverse]; exact hz, _, 0, r.reverse, Heap.get?_push_size _ rfl⟩
  · subst ex
    cases r1
    obtain ⟨its, r, ht, hz⟩ := I5.tuple hx
    have hlen := r.length
    show wpAny (model X.prog X.w) X.A (subscriptTail e (.Slice none none (some (.UnaryOp .USub (.Constant (.int 1) k p1) p2)) p3) (.ref a) (.ref s4.heap.objs.size)) (EP X pins σ Q) X.xe { s4 with heap := s4.heap.push { cls := .type "slice", data := .fields #[.none, .none, vs] } }
    refine tail_any (ops := [.ref a, .ref s4.heap.objs.size]) ht.typeIs (PyProof.Rows.slot_tuple_getitem.lookup) ?_ (by with_unfolding_all rfl)
    refine HT.px_getItem_rev ht (Heap.IsSliceOf.new _ .none .none vs) ps ?_ (by rw [List.size_toArray]; omega)
    refine ⟨.ref _, _, I5.laid (t' := s4.toks) (o := .tup xs.reverse) (fun b ob q => Heap.get?_push_of_some _ q) (Nat.le_refl _) ?_, rfl, q _ (I5.hok.fresh (Nat.le_refl _))⟩
    exact ⟨by rw [List.length_reverse]; exact hz, _, r.reverse, IsTup.new _ _⟩
def gRev : D → Store → R D := fun x S => match rd S x with
  | some (.tuple l) => .ok (.py (.tuple l.reverse)) S
  | some (.list l) => if fits l.length then .ok (.loc S.length) (S ++ [.lst l.reverse]) else .no
  | _ => .no
theorem se_rev {X : Cx} {mg : Str → Option Value} {W : WX} {e : Expr} {k : Nat} {p1 p2 p3 pos : Pos} {m : M D} (he : PE X e (tE X.K mg W m)) : PE X (.Subscript e (.Slice none none (some (.UnaryOp .USub (.Constant (.int 1) k p1) p2)) p3) pos) (tE X.K mg W (m1 gRev m)) := by
  refine pe_imp (pe_revA he) fun σ H Q ⟨ρ, S, env, sim, re, q⟩ => ?_
  refine tM.bind sim re q fun ρ1 S1 x d H1 e1 sim1 re1 r1 q1 => ?_
  unfold gRev at q1
  split at q1
  · rename_i t hr
    obtain ⟨a, xs, rfl, h1, hd⟩ := rd_tupl r1 hr
    exact .inr ⟨a, xs, rfl, h1, fun p hp => post_tup sim1 hp (dpa_reverse hd) q1⟩
  · rename_i t hr
    obtain ⟨a, xs, rfl, h1, hd⟩ := rd_lst sim1 r1 hr
    split at q1
    · rename_i hf
      refine .inl ⟨a, xs, rfl, h1, fun p hp => post_loc (c := .lst t.reverse) sim1 hp ⟨_, rfl, dpa_reverse hd, ?_⟩ q1⟩
      rw [List.length_reverse, dpa_length hd]
      exact fits_ok hf
    · exact q1.elim
  · exact q1.elim

/-! ### o[i] = v -/
def setL (n : Nat) (i : Int) (q : PyData) (S : Store) : R Unit := match S[n]? with
  | some (.lst l) => (match ixN l.length i with
    | some j => .ok () (S.set n (.lst (l.set j q)))
    | none => .no)
  | _ => .no
def subPut (o i d : D) (env : Ev) (S : Store) : R Ev := match o, i, d with
  | .loc n, .py (.int k), .py q => bdN (setL n k q S) fun _ S3 => .ok env S3
  | _, _, _ => .no
def asSub (mo mi : M D) : MG := fun d env S => bdN (mo env S) fun o S1 => bdN (mi env S1) fun i S2 => subPut o i d env S2
theorem tE_of {K : PySem.W.Frag} {mg : Str → Option Value} {W : WX} {m : M D} {ρ : List Addr} {S : Store} {env : Ev} {σ : L2.St} {H : Hp} {T : V → Hp → Prop} (sim : Sim K ρ S H) (re : REnv K ρ H σ env) {d : D} {S1 : Store} (e : m env S = .ok d S1)
    (h : ∀ v H1 ρ1, Ext ρ H ρ1 H1 → Sim K ρ1 S1 H1 → RepD K ρ1 H1 v d → T v H1) : tE K mg W m σ H T := by
  refine ⟨ρ, S, env, sim, re, ?_⟩
  rw [e]
  exact h
theorem onlyAt_refl (σ : L2.St) : OnlyAt [] σ σ := ⟨rfl, fun _ _ => rfl⟩
theorem sg_sub {X : Cx} {o i : Expr} {pos : Pos} {mo mi : M D} (ho : PE X o (tE X.K X.mg W0 mo)) (hi : PE X i (tE X.K X.mg W0 mi))
    (ha : ∀ v, assign (.Subscript o i pos) X.env v = (do
      let ov ← holding [v] (eval o X.env)
      let iv ← holding [v, ov] (eval i X.env)
      standAt pos
      holding [v, ov, iv] (setItem ov iv v)
      release [v, ov, iv] []) := by intro _; rfl) : PG X (.Subscript o i pos) (tG X.K [] (asSub mo mi)) := by
  refine pg_imp (pg_sub ho hi set_list ha) fun v σ H Q ⟨ρ, S, env, d, sim, re, r, q⟩ => ?_
  unfold asSub at q
  cases e1 : mo env S with
  | no => rw [e1] at q; exact q.elim
  | exc x S1 => rw [e1] at q; exact q.elim
  | ok o' S1 =>
    rw [e1] at q
    refine tE_of sim re e1 fun ov H1 ρ1 x1 sim1 r1 => ?_
    have q : PostG X.K ρ [] σ H Q (bdN (mi env S1) fun i S2 => subPut o' i d env S2) := q
    cases e2 : mi env S1 with
    | no => rw [e2] at q; exact q.elim
    | exc x S2 => rw [e2] at q; exact q.elim
    | ok i' S2 =>
      rw [e2] at q
      refine tE_of sim1 (re.mono x1) e2 fun iv H2 ρ2 x2 sim2 r2 => ?_
      have q : PostG X.K ρ [] σ H Q (subPut o' i' d env S2) := q
      unfold subPut at q
      split at q
      · rename_i n k qd qa qb
        unfold setL at q
        cases ec : S2[n]? with
        | none => simp only [ec] at q; exact q.elim
        | some c =>
          simp only [ec] at q
          cases c with
          | dI l => exact q.elim
          | dT l => exact q.elim
          | lst l =>
            simp only at q
            cases ei : ixN l.length k with
            | none => simp only [ei] at q; exact q.elim
            | some j =>
              simp only [ei] at q
              obtain ⟨a, ha', rfl⟩ := RepD.mono x2 r1
              obtain ⟨xs, ex, hd, hz⟩ := sim2.cell n a _ ha' ec
              have rv := RepD.mono (x1.trans x2) r
              obtain ⟨s3, x3⟩ := sim2.set (o := .lst (xs.set j v)) (c := .lst (l.set j qd)) ha' ⟨_, rfl, dpa_set j rv hd, by rw [List.length_set]; exact hz⟩
              refine ⟨a, xs, k, j, rfl, dp_int (rep_py r2), ex, by rw [dpa_length hd]; exact ei, ?_⟩
              exact q _ _ ρ2 ((x1.trans x2).trans x3) s3 (re.mono ((x1.trans x2).trans x3)) (onlyAt_refl _)
      · exact q.elim

/-! ### methods of built-in values -/
def MtD (K : PySem.W.Frag) (r : V → List V → Hp → VK → Prop) (c : D → Store → Bool) (g : D → List D → Store → R D) : Prop := ∀ (mg : Str → Option Value) (W : WX) (ρ : List Addr) (S S0 : Store) (σ : L2.St) (H : Hp) (Q : V → Hp → Prop) (x : V) (xs : List V) (dx : D) (ds : List D), c dx S0 = true → Sim K ρ S H → RepD K ρ H x dx → RepDs K ρ H xs ds → Post K mg W (RepD K) ρ σ H Q (g dx ds S) → r x xs H Q
def mMeth (c : D → Store → Bool) (g : D → List D → Store → R D) (o : M D) (as : M (List D)) : M D := fun env S => bd (o env S) fun x S1 => if c x S1 then bd (as env S1) fun xs S2 => g x xs S2 else .no
theorem se_meth {X : Cx} {mg : Str → Option Value} {W : WX} {o e : Expr} {es : List Expr} {mo : M D} {ma : M (List D)} {apos cpos : Pos} {T id : String} {name : Str} {r : V → List V → Hp → VK → Prop} {c : D → Store → Bool} {g : D → List D → Store → R D}
    (pa : PlainAttrs T) (slot : Slot T name id) (hty : typeOf (.builtin id) = pure (.type "method_descriptor")) (hm : MtR X id r) (hc : ∀ ρ S H x dx, Sim X.K ρ S H → RepD X.K ρ H x dx → c dx S = true → tyV X.K T x H) (hd : MtD X.K r c g) (ho : PE X o (tE X.K mg W mo)) (ha : PA X (e :: es) (tA X.K mg W ma))
    (hbase : attributeBase o name X.env (eval o X.env) = eval o X.env := by rfl)
    (hfew : ((backTo cpos (starEach (e :: es) X.env)).all (fun x => !x.1) && (backToKw cpos (keywordEach [] X.env)).all (fun x => x.1.isSome)
      && decide ((e :: es).length + ([] : List Keyword).length + (if ([] : List Keyword).isEmpty then 0 else 1) < 30)) = true := by rfl)
    (hline : (apos.endLine == cpos.line) = true := by rfl) (hs : starEach (e :: es) X.env = (false, eval e X.env) :: starEach es X.env := by rfl) (hplain : (backTo cpos (starEach es X.env)).any (·.1) = false := by rfl) :
    PE X (.Call (.Attribute o name apos) (e :: es) [] cpos) (tE X.K mg W (mMeth c g mo ma)) := by
  refine pe_imp (pe_bm pa slot hty hm ho ha hbase hfew hline hs hplain) fun σ H Q ⟨ρ, S, env, sim, re, q⟩ => ?_
  refine tM.bind sim re q fun ρ1 S1 x dx H1 e1 sim1 re1 r1 q1 => ?_
  cases hcx : c dx S1 with
  | false => rw [if_neg (by rw [hcx]; exact Bool.false_ne_true)] at q1; exact q1.elim
  | true =>
    rw [if_pos hcx] at q1
    refine ⟨hc ρ1 S1 H1 x dx sim1 r1 hcx, ?_⟩
    refine tM.bind sim1 re1 q1 fun ρ2 S2 xs ds H2 e2 sim2 re2 r2 q2 => ?_
    exact hd mg W ρ2 S2 S1 σ H2 Q x xs dx ds hcx sim2 (r1.mono e2) r2 q2
def isLoc : D → Store → Bool
  | .loc n, S => (match S[n]? with
    | some (.lst _) => true
    | _ => false)
  | _, _ => false
theorem isLoc_ty {K : PySem.W.Frag} {ρ : List Addr} {S : Store} {H : Hp} {x : V} {dx : D} (sim : Sim K ρ S H) (r : RepD K ρ H x dx) (h : isLoc dx S = true) : tyV K "list" x H := by
  cases dx with
  | py p => cases h
  | raw v => cases h
  | loc n =>
    obtain ⟨a, ha, rfl⟩ := r
    unfold isLoc at h
    cases hc : S[n]? with
    | none => simp only [hc] at h; cases h
    | some c =>
      cases c with
      | lst l => obtain ⟨xs, e, _, _⟩ := sim.cell n a _ ha hc; exact .inl ⟨rfl, xs, SqL.of e⟩
      | dI l => simp only [hc] at h; cases h
      | dT l => simp only [hc] at h; cases h
def gApp : D → List D → Store → R D := fun x ds S => match x, ds with
  | .loc n, [.py q] => bdN (lcPut n q S) fun _ S1 => .ok (.py .none) S1
  | _, _ => .no
theorem md_append {K : PySem.W.Frag} : MtD K rAppend isLoc gApp := by
  intro mg W ρ S S0 σ H Q x xs dx ds hc sim rx rs q
  unfold gApp at q
  split at q
  · rename_i n p
    obtain ⟨y, rfl, ry⟩ := reps1 rs
    obtain ⟨a, ha, rfl⟩ := rx
    unfold lcPut at q
    cases ec : S[n]? with
    | none => simp only [ec] at q; exact q.elim
    | some c =>
      simp only [ec] at q
      cases c with
      | dI l => exact q.elim
      | dT l => exact q.elim
      | lst acc =>
        simp only at q
        cases hf : fits (acc.length + 1) with
        | false => simp only [hf] at q; exact q.elim
        | true =>
          simp only [hf] at q
          obtain ⟨xs, e5, d5, z5⟩ := sim.cell _ _ _ ha ec
          have hz := fits_ok hf
          have hln := dpa_length d5
          obtain ⟨s6, x6⟩ := sim.set (o := .lst (xs ++ [y])) (c := .lst (acc ++ [p])) ha ⟨xs ++ [y], rfl, dpa_append d5 (.cons ry .nil), by rw [List.length_append, hln]; exact hz⟩
          exact ⟨a, xs, y, rfl, rfl, e5, by omega, q _ _ ρ x6 s6 .non⟩
  · exact q.elim
theorem se_append {X : Cx} {mg : Str → Option Value} {W : WX} {o e : Expr} {mo me : M D} {apos cpos : Pos} (ho : PE X o (tE X.K mg W mo)) (he : PE X e (tE X.K mg W me))
    (hbase : attributeBase o "append" X.env (eval o X.env) = eval o X.env := by rfl)
    (hfew : ((backTo cpos (starEach (e :: []) X.env)).all (fun x => !x.1) && (backToKw cpos (keywordEach [] X.env)).all (fun x => x.1.isSome)
      && decide ((e :: []).length + ([] : List Keyword).length + (if ([] : List Keyword).isEmpty then 0 else 1) < 30)) = true := by rfl)
    (hline : (apos.endLine == cpos.line) = true := by rfl) (hs : starEach (e :: []) X.env = (false, eval e X.env) :: starEach [] X.env := by rfl) (hplain : (backTo cpos (starEach [] X.env)).any (·.1) = false := by rfl) :
    PE X (.Call (.Attribute o "append" apos) [e] [] cpos) (tE X.K mg W (mMeth isLoc gApp mo (mCons me mNil))) :=
  se_meth PySem.F.plainAttrs_list PySem.F.slot_list_append PySem.F.type_list_append mt_append (fun _ _ _ _ _ s r h => isLoc_ty s r h) md_append ho (sa_cons he sa_nil hs) hbase hfew hline hs hplain

/-! ### a < b < c -/
def mChain (g g' : D → D → Store → R D) (a b c : M D) : M D := fun env S => bd (a env S) fun x S1 => bd (b env S1) fun y S2 => bd (g x y S2) fun k S3 => match k with
  | .py (.bool true) => bd (c env S3) fun z S4 => g' y z S4
  | .py (.bool false) => .ok (.py (.bool false)) S3
  | _ => .no
theorem op_post {K : PySem.W.Frag} {mg : Str → Option Value} {W : WX} {r : R2} {g : D → D → Store → R D} (hg : OpD K r g) {ρ : List Addr} {S : Store} {H : Hp} {σ : L2.St} {x y : V} {dx dy : D} {Q : V → Hp → Prop} {k : D → Store → R D} {T : V → Hp → Prop} (sim : Sim K ρ S H) (rx : RepD K ρ H x dx) (ry : RepD K ρ H y dy)
    (q : Post K mg W (RepD K) ρ σ H Q (bd (g dx dy S) k)) (hx : ∀ z S1, g dx dy S ≠ .exc z S1)
    (hT : ∀ ρ1 S1 v d H1, Ext ρ H ρ1 H1 → Sim K ρ1 S1 H1 → RepD K ρ1 H1 v d → Post K mg W (RepD K) ρ1 σ H1 Q (k d S1) → T v H1) : r x y H T := by
  refine hg mg W ρ S σ H T x y dx dy sim rx ry ?_
  cases e : g dx dy S with
  | no => rw [e] at q; exact q
  | exc z S1 => exact absurd e (hx z S1)
  | ok d S1 =>
    rw [e] at q
    exact fun v H1 ρ1 x1 s1 r1 => hT ρ1 S1 v d H1 x1 s1 r1 (Post.ext x1 q)
theorem se_chain {X : Cx} {mg : Str → Option Value} {W : WX} {a b c : Expr} {pos : Pos} {ma mb mc : M D} {op op' : CmpOp} {r r' : R2} {g g' : D → D → Store → R D} (ho : OpR X (compareOp op) r) (ho' : OpR X (compareOp op') r') (hg : OpD X.K r g) (hg' : OpD X.K r' g') (hx : ∀ x y S z S1, g x y S ≠ .exc z S1)
    (ha : PE X a (tE X.K mg W ma)) (hb : PE X b (tE X.K mg W mb)) (hc : PE X c (tE X.K mg W mc)) (h : ∀ ta tb tc, PE X a ta → PE X b tb → PE X c tc → PE X (.Compare a [op, op'] [b, c] pos) (tChain r r' ta tb tc)) :
    PE X (.Compare a [op, op'] [b, c] pos) (tE X.K mg W (mChain g g' ma mb mc)) := by
  refine pe_imp (h _ _ _ ha hb hc) fun σ H Q ⟨ρ, S, env, sim, re, q⟩ => ?_
  refine tM.bind sim re q fun ρ1 S1 x dx H1 e1 sim1 re1 r1 q1 => ?_
  refine tM.bind sim1 re1 q1 fun ρ2 S2 y dy H2 e2 sim2 re2 r2 q2 => ?_
  refine op_post hg sim2 (r1.mono e2) r2 q2 (hx _ _ _) fun ρ3 S3 v d H3 e3 sim3 r3 q3 => ?_
  split at q3
  · rw [dp_bool (rep_py r3)]
    refine ⟨true, rfl, ?_⟩
    rw [if_pos rfl]
    refine tM.bind sim3 (re2.mono e3) q3 fun ρ4 S4 z dz H4 e4 sim4 re4 r4 q4 => ?_
    exact hg' mg W ρ4 S4 σ H4 Q y z dy dz sim4 ((r2.mono e3).mono e4) r4 q4
  · rw [dp_bool (rep_py r3)]
    refine ⟨false, rfl, ?_⟩
    rw [if_neg Bool.false_ne_true]
    exact post_sc (p := .bool false) sim3 rfl q3
  · exact q3.elim
theorem gI_noexc {f : Int → Int → PyData} (x y : D) (S : Store) (z : Ex) (S1 : Store) : gI f x y S ≠ .exc z S1 := fun h => by
  unfold gI at h
  split at h <;> cases h

/-! ### t * n -/
def gMul : D → D → Store → R D := fun x y S => match rd S x, y with
  | some (.int i), .py (.int j) => if cMul i j then .ok (.py (.int (i * j))) S else .no
  | some (.tuple l), .py (.int j) => if decide (l.length ≠ 0) && decide (2 ≤ j) && decide (j ≤ 1000) && decide (l.length ≤ 1000) then .ok (.py (.tuple (List.replicate j.toNat l).flatten)) S else .no
  | _, _ => .no
def rMulA (K : PySem.W.Frag) : R2 := fun x y H Q => rI CMul (fun i j => .int (i * j)) x y H Q ∨ rRepT K x y H Q
theorem op_mulA {X : Cx} : OpR X (binaryOp .Mult) (rMulA X.K) := OpR.or op_mul op_repT
theorem dpa_flat {K : PySem.W.Frag} {H : Hp} {xs : List V} {ps : List PyData} (h : DpAll K H xs ps) : ∀ n : Nat, DpAll K H (List.replicate n xs).flatten (List.replicate n ps).flatten
  | 0 => .nil
  | n + 1 => by rw [List.replicate_succ, List.replicate_succ, List.flatten_cons, List.flatten_cons]; exact dpa_append h (dpa_flat h n)
theorem od_mul {K : PySem.W.Frag} : OpD K (rMulA K) gMul := by
  intro mg W ρ S σ H Q x y dx dy sim rx ry q
  unfold gMul at q
  split at q
  · rename_i i j hx
    split at q
    · rename_i h
      exact .inl ⟨i, j, dp_int (rd_ok sim rx hx), dp_int (rep_py ry), cMul_ok h, post_sc (p := .int _) sim rfl q⟩
    · exact q.elim
  · rename_i l j hx
    split at q
    · rename_i h
      rw [Bool.and_eq_true, Bool.and_eq_true, Bool.and_eq_true] at h
      obtain ⟨⟨⟨h1, h2⟩, h3⟩, h4⟩ := h
      obtain ⟨a, xs, rfl, hs, hd⟩ := rd_tupl rx hx
      have hl := dpa_length hd
      refine .inr ⟨a, j, xs, rfl, dp_int (rep_py ry), hs, fun e => ?_, of_decide_eq_true h2, of_decide_eq_true h3, by rw [hl]; exact of_decide_eq_true h4, fun p hp => post_tup sim hp (dpa_flat hd _) q⟩
      rw [e] at hl
      exact of_decide_eq_true h1 hl.symm
    · exact q.elim
  · exact q.elim
end PX

end P_PX7
section P_PX8
set_option maxHeartbeats 4000000
namespace PX
open PySem PySem.Spec PyProof.Rows L2

/-- a def keeps to a function of values -/
def DefOk (P : Program) (w : World) (K : PySem.W.Frag) (mg : Str → Option Value) (base : Heap) (k : Nat) (x : Str) (ps : List Str) (g : List D → Store → R D) : Prop :=
  ∃ f fd, FnOk P w K mg base (L2.CX P w) k f fd ps (spOf K mg ps.length g) ∧ Binds K fd ps [] ∧ mg x = some (.ref f) ∧ PySem.W.keepIn K (.ref f) = true
section
variable {P : Program} {w : World} {K : PySem.W.Frag} {mg : Str → Option Value} {base : Heap}
theorem def_mk {x qual : Str} {params : Arguments} {body : List Stmt} {scope : Scope} {f : Addr} {N ps : List Str} {k : Nat} {b : MS} (F : ∃ fd, FunD K x qual params body scope [] [] f fd) (Sc : FnScope N ps scope) (hm : mg x = some (.ref f))
    (hb : ∀ (kV doc pm : Value) (an : Option Addr) (cdv ct : Value) (us : List Value), us.length = ps.length → bindArgs (PySem.W.fnOf x qual params body scope .none kV doc pm an cdv ct) ⟨us, []⟩ = pure (ps.zip us))
    (hbody : ∀ (cdv : Value) (A : Around) (outer : List Env) (s : Shared) (H : Hp) (E : XK), Room k (A.deeper (envOfC qual scope s.heap.objs.size f cdv)) →
      PSs (cxOf (L2.CX P w) P w K mg base N qual scope f cdv A outer s H E) body (tS K mg (fun c o _ H' => E c o H') b)) : DefOk P w K mg base (k + 1) x ps (runM N.length b) := by
  obtain ⟨fd, F⟩ := F
  exact ⟨f, fd, F.ok Sc (fun vs H Q E h => h.1) fun cdv A outer s H vs Q E hr h => ⟨_, hbody cdv A outer s H E hr, let ⟨_, _, _, _, sim, r, q⟩ := h; body_read sim r q⟩, F.bindsN hb, hm, F.kp⟩
theorem DefOk.fr {k N : Nat} {x : Str} {ps : List Str} {b : MS} (D : DefOk P w K mg base k x ps (runM N b)) : DefOk P w K mg base k x ps (runF N b) :=
  let ⟨f, fd, G, h⟩ := D; ⟨f, fd, G.imp fun _ _ _ _ h => sp_cut h, h⟩
end
section
variable {X : Cx} {mg : Str → Option Value} {W : WX} {pos : Pos}
theorem se_def {k j : Nat} {ps : List Str} {g : List D → Store → R D} {x : Str} {p : Pos} {e : Expr} {es : List Expr} {m : M (List D)} (Df : DefOk X.prog X.w X.K X.mg X.base k x ps g) (hr : Room j X.A) (hj : k ≤ j) (hg : Gl X x)
    (tk : Takes X W) (hl : ∀ env S ds S', m env S = .ok ds S' → ds.length = ps.length) (ha : PA X (e :: es) (tA X.K X.mg W m)) (hdb : (x == ("__debug__" : Str)) = false := by decide) (he : starEach (e :: es) X.env = (false, eval e X.env) :: starEach es X.env := by rfl) (hpl : (backTo pos (starEach es X.env)).any (·.1) = false := by rfl) :
    PE X (.Call (.Name x p) (e :: es) [] pos) (tE X.K X.mg W (mCall g m)) := by
  obtain ⟨f, fd, G, hb, hm, hk⟩ := Df
  exact se_call G (hr.mono hj) hg hm hk hb tk hl ha hdb he hpl
theorem se_gint {x : Str} {i : Int} (hg : Gl X x) (hm : ∃ t, X.mg x = some (.int i t)) (hd : (x == ("__debug__" : Str)) = false := by decide) : PE X (.Name x pos) (tE X.K mg W (mK (.int i))) := by
  obtain ⟨t, hm⟩ := hm
  exact se_c (p := .int i) rfl (pe_glob hg hm ⟨t, rfl⟩ hd)
end
/-! ### the law -/
def spLaw (K : PySem.W.Frag) : Sp := fun vs H Q _ => ∃ (a : Addr) (ns : List Int), vs = [.ref a] ∧ SqL K H a (ns.map V.int) ∧ ns.length ≤ 63 ∧ ∀ H', Q (.bl true) H'
theorem law_mk {P : Program} {w : World} {K : PySem.W.Frag} {mg : Str → Option Value} {base : Heap} {x qual : Str} {params : Arguments} {body : List Stmt} {scope : Scope} {f : Addr} {fd : FuncData} {N : List Str} {p : Str} {k : Nat} {b : MS} (F : FunD K x qual params body scope [] [] f fd) (Sc : FnScope N [p] scope)
    (hbody : ∀ (cdv : Value) (A : Around) (outer : List Env) (s : Shared) (H : Hp) (E : XK), Room k (A.deeper (envOfC qual scope s.heap.objs.size f cdv)) →
      PSs (cxOf CX0 P w K mg base N qual scope f cdv A outer s H E).nox body (tS K mg W0 b))
    (hF : ∀ ns : List Int, ns.length ≤ 63 → ∃ S', runM N.length b [.py (.list (ofInts ns))] [] = .ok (.py (.bool true)) S') : FnOk P w K mg base CX0 (k + 1) f fd [p] (spLaw K) := by
  refine F.ok Sc (fun vs H Q E h => ?_) fun cdv A outer s H vs Q E hr h => ⟨_, PSs.nox (hbody cdv A outer s H E hr), ?_⟩
  · obtain ⟨a, ns, rfl, _⟩ := h; rfl
  · obtain ⟨a, ns, rfl, hS, hl, q⟩ := h
    obtain ⟨S', e⟩ := hF ns hl
    have hf : fz [] H = H := by funext b; unfold fz; simp
    have sim : Sim K [] [] H := ⟨rfl, .nil, fun n a c h _ => by simp at h⟩
    have r : RepDs K [] H [.ref a] [.py (.list (ofInts ns))] := .cons (by show Dp K (fz [] H) _ _; rw [hf]; exact .lst hS (dpa_ints _ _)) .nil
    refine ⟨[], [], _, sim, renv_start N r, ?_⟩
    unfold runM at e
    cases e2 : b (([D.py (.list (ofInts ns))] : List D).map some ++ List.replicate (N.length - [D.py (.list (ofInts ns))].length) none) [] with
    | no => rw [e2] at e; cases e
    | exc x env1 S1 => rw [e2] at e; cases e
    | go f env1 S1 =>
      rw [e2] at e
      cases f with
      | nx => cases e
      | bk => cases e
      | ct => cases e
      | rt d =>
        cases e
        intro v H' ρ' x s r
        rw [dp_bool (rep_py r)]
        exact q H'
end PX

end P_PX8
section P_PX9
set_option maxHeartbeats 4000000
namespace PX
open PySem PySem.Spec PyProof.Rows L2
section
variable {X : Cx} {mg : Str → Option Value} {W : WX} {pos : Pos}
theorem se_lcv {elt tg iter : Expr} {ifs : List Expr} {scope : Scope} (own : List (Str × Nat)) {vs : List Nat} {mi : M (List PyData)} {a : MG} {ws : List Nat} {mt : M Bool} {me : M D} (hc : X.calm = true) (hN : X.N.Nodup) (hi : PI X tg iter (tI X.K mg W mi)) (ok : BlkOk X.N X.env.scope scope own)
    (hg : ∀ (s : Shared) (H : Hp) (C : Addr) (cl : List (Str × Addr)) (fp : List Addr), PG (X.blk s H scope (compEnvC scope cl C X.env) fp) tg (tG X.K ws a))
    (ht : ∀ (s : Shared) (H : Hp) (C : Addr) (cl : List (Str × Addr)) (fp : List Addr), PTs (X.blk s H scope (compEnvC scope cl C X.env) fp) ifs (tT X.K mg W0 mt))
    (he : ∀ (s : Shared) (H : Hp) (C : Addr) (cl : List (Str × Addr)) (fp : List Addr), PE (X.blk s H scope (compEnvC scope cl C X.env) fp) elt (tE X.K mg W0 me))
    (hv : own.map (·.2) = vs := by rfl) (hws : ∀ w ∈ ws, w ∈ vs := by decide) (hs : ∀ x, foldedSetIterable iter X.env x = pure x := by intro _; rfl) :
    PE X (.ListComp elt [⟨tg, iter, ifs, 0⟩] scope pos) (tE X.K mg W (mLc vs mi a mt me)) := by
  subst hv
  exact se_lc hc hN hi ok hg ht he hws hs
theorem spt_one {c : Expr} {m : M Bool} {X : Cx} (h : PT X c (tT X.K mg W0 m)) : PTs X [c] (tT X.K mg W0 m) := pts_one h
/-- name = [..], on one line: its list stays as it is -/
theorem ss_setLc {i : Nat} {y : Str} {py : Pos} {elt tg iter : Expr} {ifs : List Expr} {scope : Scope} (own : List (Str × Nat)) {vs : List Nat} {spos : Pos} {mi : M (List PyData)} {a : MG} {ws : List Nat} {mt : M Bool} {me : M D} (hc : X.calm = true) (hN : X.N.Nodup) (hy : X.N[i]? = some y) (hyl : X.env.scope.names.lookup y = some .local)
    (hsw : swapsWith (.ListComp elt [⟨tg, iter, ifs, 0⟩] scope pos) (some (.Name y py)) spos.line X.env = pure true) (hi : PI X tg iter (tI X.K mg W mi)) (ok : BlkOk X.N X.env.scope scope own)
    (hg : ∀ (s : Shared) (H : Hp) (C : Addr) (cl : List (Str × Addr)) (fp : List Addr), PG (X.blk s H scope (compEnvC scope cl C X.env) fp) tg (tG X.K ws a))
    (ht : ∀ (s : Shared) (H : Hp) (C : Addr) (cl : List (Str × Addr)) (fp : List Addr), PTs (X.blk s H scope (compEnvC scope cl C X.env) fp) ifs (tT X.K mg W0 mt))
    (he : ∀ (s : Shared) (H : Hp) (C : Addr) (cl : List (Str × Addr)) (fp : List Addr), PE (X.blk s H scope (compEnvC scope cl C X.env) fp) elt (tE X.K mg W0 me))
    (hv : own.map (·.2) = vs := by rfl) (hws : ∀ w ∈ ws, w ∈ vs := by decide) (hs : ∀ x, foldedSetIterable iter X.env x = pure x := by intro _; rfl) :
    PS X (.Assign [.Name y py] (.ListComp elt [⟨tg, iter, ifs, 0⟩] scope pos) spos) (tS X.K mg W (sAs (mFr (mLc vs mi a mt me)) (aN i))) := by
  subst hv
  refine ps_imp (ps_setLc hc hN hy hyl hsw hi ok hg ht he hs) fun D σ H h => ?_
  have h2 := set_read h
  refine lc_read hws ?_
  obtain ⟨ρ, S, env, sim, re, q⟩ := h2
  exact ⟨ρ, S, env, sim, re, fr_post sim q⟩
theorem ss_par3 {st : Stmt} {i j l : Nat} {m : M (List D)} (h : PS X st (tPar3 i j l (tA X.K mg W m))) : PS X st (tS X.K mg W (sPar3 i j l m)) := ps_imp h fun D σ H ⟨ρ, S, env, sim, re, q⟩ => by
  refine tM.bindS sim re q fun ρ1 S1 vs ds H1 e1 sim1 re1 r1 q1 => ?_
  cases r1 with
  | nil => exact q1.elim
  | cons r rr => cases rr with
    | nil => exact q1.elim
    | cons r2 rr => cases rr with
      | nil => exact q1.elim
      | cons r3 rr => cases rr with
        | nil => exact ⟨_, _, _, rfl, q1 _ H1 ρ1 (Ext.refl _ _) sim1 (((re1.set i r).set j r2).set l r3)⟩
        | cons _ _ => exact q1.elim
end
end PX

end P_PX9
section P_PX10
set_option maxHeartbeats 4000000
namespace PX
open PySem PySem.Spec PyProof.Rows L2
/-! dicts: {}, d[k], d[k] = v, d.get(k, x), sorted(d) -/
def lkD (l : List (Key × PyData)) (k : Key) : Option PyData := (l.find? fun kv => decide (kv.1 = k)).map (·.2)
def putD (l : List (Key × PyData)) (k : Key) (v : PyData) : List (Key × PyData) :=
  if (l.any fun kv => decide (kv.1 = k)) = true then l.map (fun kv => if kv.1 = k then (kv.1, v) else kv) else l ++ [(k, v)]
abbrev KD (K : PySem.W.Frag) (F : Hp) : List (Key × V) → List (Key × PyData) → Prop := Paired fun w p => w.1 = p.1 ∧ Dp K F w.2 p.2
theorem KD.lk {K : PySem.W.Frag} {F : Hp} : ∀ {ws : List (Key × V)} {l : List (Key × PyData)} (h : KD K F ws l) (k : Key), (valV ws k = none ∧ lkD l k = none) ∨ ∃ v p, valV ws k = some v ∧ lkD l k = some p ∧ Dp K F v p
  | [], [], .nil, k => .inl ⟨rfl, rfl⟩
  | (k1, v) :: ws, (k2, p) :: l, .cons ⟨e, d⟩ h, k => by
    cases e
    by_cases hk : k1 = k
    · subst hk
      exact .inr ⟨v, p, valV_pos rfl, by simp [lkD, List.find?_cons], d⟩
    · have e1 : valV ((k1, v) :: ws) k = valV ws k := valV_neg hk
      have e2 : lkD ((k1, p) :: l) k = lkD l k := by simp [lkD, List.find?_cons, hk]
      rw [e1, e2]
      exact KD.lk h k
theorem KD.any {K : PySem.W.Frag} {F : Hp} : ∀ {ws : List (Key × V)} {l : List (Key × PyData)} (h : KD K F ws l) (k : Key), (ws.any fun kv => decide (kv.1 = k)) = (l.any fun kv => decide (kv.1 = k))
  | [], [], .nil, k => rfl
  | (k1, v) :: ws, (k2, p) :: l, .cons ⟨e, d⟩ h, k => by
    cases e
    rw [List.any_cons, List.any_cons, KD.any h k]
theorem KD.rep {K : PySem.W.Frag} {F : Hp} {v : V} {p : PyData} (d : Dp K F v p) (k : Key) : ∀ {ws : List (Key × V)} {l : List (Key × PyData)}, KD K F ws l → KD K F (ws.map fun kv => if kv.1 = k then (kv.1, v) else kv) (l.map fun kv => if kv.1 = k then (kv.1, p) else kv)
  | [], [], .nil => .nil
  | (k1, v1) :: ws, (k2, p1) :: l, .cons ⟨e, d1⟩ h => by
    cases e
    rw [List.map_cons, List.map_cons]
    refine .cons ?_ (KD.rep d k h)
    by_cases hk : k1 = k
    · rw [if_pos hk, if_pos hk]; exact ⟨rfl, d⟩
    · rw [if_neg hk, if_neg hk]; exact ⟨rfl, d1⟩
theorem KD.app {K : PySem.W.Frag} {F : Hp} {w : Key × V} {q : Key × PyData} (hw : w.1 = q.1 ∧ Dp K F w.2 q.2) : ∀ {ws : List (Key × V)} {l : List (Key × PyData)}, KD K F ws l → KD K F (ws ++ [w]) (l ++ [q])
  | [], [], .nil => .cons hw .nil
  | _ :: _, _ :: _, .cons a b => .cons a (KD.app hw b)
theorem KD.put {K : PySem.W.Frag} {F : Hp} {ws : List (Key × V)} {l : List (Key × PyData)} (h : KD K F ws l) (k : Key) {v : V} {p : PyData} (d : Dp K F v p) : KD K F (putK ws k v) (putD l k p) := by
  unfold putK putD
  rw [KD.any h k]
  split
  · exact KD.rep d k h
  · exact KD.app ⟨rfl, d⟩ h
theorem KD.keys {K : PySem.W.Frag} {F : Hp} : ∀ {ws : List (Key × V)} {l : List (Key × PyData)}, KD K F ws l → ws.map (·.1) = l.map (·.1)
  | [], [], .nil => rfl
  | _ :: _, _ :: _, .cons a b => by rw [List.map_cons, List.map_cons, a.1, KD.keys b]
theorem KD.len {K : PySem.W.Frag} {F : Hp} {ws : List (Key × V)} {l : List (Key × PyData)} (h : KD K F ws l) : ws.length = l.length := Paired.length h
section
variable {X : Cx} {mg : Str → Option Value} {W : WX}
def mDNew : M D := fun _ S => .ok (.loc S.length) (S ++ [.dI []])
theorem se_dnew {pos : Pos} : PE X (.Dict [] [] pos) (tE X.K mg W mDNew) :=
  pe_imp pe_dnewK fun σ H Q ⟨ρ, S, env, sim, re, q⟩ p hp => post_loc (c := .dI []) sim hp ⟨[], rfl, .nil, Nat.zero_le _⟩ q
/-- d[k] -/
def gDx : D → D → Store → R D := fun o i S => match o, i with
  | .loc n, .py (.int k) => (match S[n]? with
    | some (.dI l) => retP (lkD l (.inl k)) S
    | _ => .no)
  | _, _ => .no
theorem units1 (h : X.A.units + 64 < cLine) : X.A.units + 1 < cLine := by omega
theorem se_dx {o i : Expr} {pos : Pos} {mo mi : M D} (hu : X.A.units + 64 < cLine) (ho : PE X o (tE X.K mg W mo)) (hi : PE X i (tE X.K mg W mi)) (hs : NoSl i := by intro _ _; rfl) : PE X (.Subscript o i pos) (tE X.K mg W (m2 gDx mo mi)) := by
  refine pe_imp (pe_dget (units1 hu) ho hi hs) fun σ H Q ⟨ρ, S, env, sim, re, q⟩ => ?_
  refine tM.bind sim re q fun ρ1 S1 x dx H1 e1 sim1 re1 r1 q1 => ?_
  refine tM.bind sim1 re1 q1 fun ρ2 S2 y dy H2 e2 sim2 re2 r2 q2 => ?_
  unfold gDx at q2
  split at q2
  · rename_i n k
    obtain ⟨a, ha, rfl⟩ := RepD.mono e2 r1
    cases ec : S2[n]? with
    | none => simp only [ec] at q2; exact q2.elim
    | some c =>
      simp only [ec] at q2
      cases c with
      | lst l => exact q2.elim
      | dT l => exact q2.elim
      | dI l =>
        simp only at q2
        obtain ⟨ws, ew, hd, hz⟩ := sim2.cell n a _ ha ec
        have hk := dp_int (rep_py r2)
        subst hk
        rcases KD.lk hd (.inl k) with ⟨_, h2⟩ | ⟨v, p, h1, h2, d⟩
        · rw [h2] at q2; exact q2.elim
        · rw [h2] at q2
          exact ⟨a, v, rfl, .inl ⟨ws, .inl k, .inl ew, rfl, h1.symm⟩, q2 v H2 ρ2 (Ext.refl _ _) sim2 d⟩
  · exact q2.elim
/-- d.get(k, x) -/
def isDI : D → Store → Bool
  | .loc n, S => (match S[n]? with
    | some (.dI _) => true
    | _ => false)
  | _, _ => false
def gGet2 (o i x : D) (S : Store) : R D := match o, i, x with
  | .loc n, .py (.int k), .py d => (match S[n]? with
    | some (.dI l) => .ok (.py ((lkD l (.inl k)).getD d)) S
    | _ => .no)
  | _, _, _ => .no
def mGet2 (mo mi mx : M D) : M D := fun env S => bd (mo env S) fun o S1 => if isDI o S1 then bd (mi env S1) fun i S2 => bd (mx env S2) fun x S3 => gGet2 o i x S3 else .no
theorem se_dget2 {o e f : Expr} {apos cpos : Pos} {mo mi mx : M D} (hu : X.A.units + 64 < cLine) (ho : PE X o (tE X.K mg W mo)) (hi : PE X e (tE X.K mg W mi)) (hx : PE X f (tE X.K mg W mx)) (m : M2 X o "get" apos e f cpos := by exact ⟨by rfl, by rfl, by rfl, by rfl⟩) :
    PE X (.Call (.Attribute o "get" apos) [e, f] [] cpos) (tE X.K mg W (mGet2 mo mi mx)) := by
  refine pe_imp (pe_dget2 (units1 hu) ho hi hx m) fun σ H Q ⟨ρ, S, env, sim, re, q⟩ => ?_
  refine tM.bind sim re q fun ρ1 S1 x dx H1 e1 sim1 re1 r1 q1 => ?_
  cases hcx : isDI dx S1 with
  | false => rw [if_neg (by rw [hcx]; exact Bool.false_ne_true)] at q1; exact q1.elim
  | true =>
    rw [if_pos hcx] at q1
    cases dx with
    | py p => cases hcx
    | raw v => cases hcx
    | loc n =>
      obtain ⟨a, ha, rfl⟩ := r1
      have hD : IsD H1 a := by
        unfold isDI at hcx
        cases hc : S1[n]? with
        | none => simp only [hc] at hcx; cases hcx
        | some c =>
          cases c with
          | lst l => simp only [hc] at hcx; cases hcx
          | dT l => simp only [hc] at hcx; cases hcx
          | dI l => obtain ⟨ws, ew, _, _⟩ := sim1.cell n a _ ha hc; exact .inl ⟨ws, .inl ew⟩
      refine ⟨a, rfl, hD, ?_⟩
      refine tM.bind sim1 re1 q1 fun ρ2 S2 y dy H2 e2 sim2 re2 r2 q2 => ?_
      refine tM.bind sim2 re2 q2 fun ρ3 S3 z dz H3 e3 sim3 re3 r3 q3 => ?_
      unfold gGet2 at q3
      split at q3
      · rename_i n' k d he
        cases he
        have ha3 : ρ3[n]? = some a := by
          obtain ⟨b, hb, eb⟩ := RepD.mono (e2.trans e3) (show RepD X.K ρ1 H1 (V.ref a) (.loc n) from ⟨a, ha, rfl⟩)
          cases eb; exact hb
        cases ec : S3[n]? with
        | none => simp only [ec] at q3; exact q3.elim
        | some c =>
          simp only [ec] at q3
          cases c with
          | lst l => exact q3.elim
          | dT l => exact q3.elim
          | dI l =>
            simp only at q3
            obtain ⟨ws, ew, hd, hz⟩ := sim3.cell n a _ ha3 ec
            have hk := dp_int (rep_py (RepD.mono e3 r2))
            subst hk
            rcases KD.lk hd (.inl k) with ⟨h1, h2⟩ | ⟨v, p, h1, h2, dd⟩
            · rw [h2] at q3
              refine ⟨none, .inl ⟨ws, .inl k, .inl ew, rfl, h1.symm⟩, ?_⟩
              exact q3 z H3 ρ3 (Ext.refl _ _) sim3 r3
            · rw [h2] at q3
              refine ⟨some v, .inl ⟨ws, .inl k, .inl ew, rfl, h1.symm⟩, ?_⟩
              exact q3 v H3 ρ3 (Ext.refl _ _) sim3 dd
      · exact q3.elim
/-- d[k] = v -/
def dPut (o i v : D) (env : Ev) (S : Store) : RS := match o, i, v with
  | .loc n, .py (.int k), .py p => (match S[n]? with
    | some (.dI l) => if fits (l.length + 1) then .go .nx env (S.set n (.dI (putD l (.inl k) p))) else .no
    | _ => .no)
  | _, _, _ => .no
def sDput (mv mo mi : M D) : MS := fun env S => bs (mv env S) env fun v S1 => bs (mo env S1) env fun o S2 => bs (mi env S2) env fun i S3 => dPut o i v env S3
theorem ss_dput {o i e : Expr} {pos' pos : Pos} {mv mo mi : M D} (hu : X.A.units + 64 < cLine) (hv : PE X e (tE X.K mg W mv)) (ho : PE X o (tE X.K mg W mo)) (hi : PE X i (tE X.K mg W mi)) (hs : swapsWith e (some (.Subscript o i pos')) pos.line X.env = pure false := by rfl) :
    PS X (.Assign [.Subscript o i pos'] e pos) (tS X.K mg W (sDput mv mo mi)) := by
  refine ps_imp (ps_dput (units1 hu) ho hi hv hs) fun D σ H ⟨ρ, S, env, sim, re, q⟩ => ?_
  refine tM.bindS sim re q fun ρ1 S1 v dv H1 e1 sim1 re1 r1 q1 => ?_
  refine tM.bindS sim1 re1 q1 fun ρ2 S2 x dx H2 e2 sim2 re2 r2 q2 => ?_
  refine tM.bindS sim2 re2 q2 fun ρ3 S3 y dy H3 e3 sim3 re3 r3 q3 => ?_
  unfold dPut at q3
  split at q3
  · rename_i n k p
    obtain ⟨a, ha, rfl⟩ := RepD.mono e3 r2
    cases ec : S3[n]? with
    | none => simp only [ec] at q3; exact q3.elim
    | some c =>
      simp only [ec] at q3
      cases c with
      | lst l => exact q3.elim
      | dT l => exact q3.elim
      | dI l =>
        simp only at q3
        obtain ⟨ws, ew, hd, hz⟩ := sim3.cell n a _ ha ec
        have hk := dp_int (rep_py r3)
        subst hk
        cases hf : fits (l.length + 1) with
        | false => rw [if_neg (by rw [hf]; exact Bool.false_ne_true)] at q3; exact q3.elim
        | true =>
          rw [if_pos hf] at q3
          have hlen := fits_ok hf
          have hwl := KD.len hd
          have rv := RepD.mono (e2.trans e3) r1
          have hp := KD.put hd (.inl k) (show Dp X.K (fz ρ3 H3) v p from rv)
          obtain ⟨s4, x4⟩ := sim3.set (o := .dK (putK ws (.inl k) v)) (c := .dI (putD l (.inl k) p)) ha ⟨_, rfl, hp, Nat.le_trans (length_putK _ _ _) (by omega)⟩
          exact ⟨a, _, rfl, .inl ⟨ws, .inl k, ew, rfl, by omega, rfl⟩, q3 σ _ ρ3 x4 s4 (re3.mono x4)⟩
  · exact q3.elim
end

end PX
namespace L2
open PySem PySem.Spec PyProof.Rows
/-- sorted(d) of a dict, all keys ints, any number of them -/
theorem px_sortedDI {X : Cx} (hcalm : X.calm = true) : CallR X (.builtin "sorted") (fun xs H Q => ∃ (a : Addr) (kvs : List (Key × V)) (ks : List Int), xs = [.ref a] ∧ Rd H a (.dK kvs) ∧ kvs.map (·.1) = ks.map Sum.inl ∧
    ∀ (ys : List Int) (p : Addr), ys.Perm ks → ys.Pairwise (· ≤ ·) → H p = none → Q (.ref p) (upd H p (.lst (ys.map V.int)))) := by
  intro pins s σ H xs us Q I r q
  obtain ⟨a, kvs, ks, ex, hd, hks, q⟩ := q
  subst ex
  obtain ⟨u, eu, rx⟩ := vals1 r
  subst eu
  cases rx
  obtain ⟨z, lo, vs, rel, dd⟩ := dk_rd I.hok hd
  obtain ⟨ep, hat⟩ := dd.dictAt
  have hkeys : vs.map (·.1) = ks.map Sum.inl := rel.keys.symm.trans hks
  have hl : vs.length = ks.length := by
    have e := congrArg List.length hkeys
    rw [List.length_map, List.length_map] at e
    exact e
  have h16 : vs.length ≤ sizeLine := by rw [← rel.length]; exact z
  refine Calls.call_function_entry PyProof.Rows.kind_sorted PyProof.Rows.plain_sorted PyProof.Rows.entry_sorted (PyProof.Rows.args_sorted1 _) ?_
  unfold Builtin.«sorted»
  refine wpAny_bind (m := checkCount "sorted" 1 1 _) (wpAny_pure ?_)
  refine wpAny_bind (PySem.W.kdu_collect (A := X.A.in1) (PySem.W.kdl_dict (knd := mixKind X.prog X.w) (kvs := vs) (ep := ep) lo) (I.ok.hd hcalm) hat h16 fun h' tk acc hk hacc => ?_)
  have hal : acc.toList.length = ks.length := by rw [Array.length_toList, hacc.1, hl]
  have hS : IntsAre acc.toList ks := ints_each hal fun j v e => by
    obtain ⟨k, x, e1, e2⟩ := hacc.2 j v (by rw [← Array.getElem?_toList]; exact e)
    have e3 : (vs.map (·.1))[j]? = some k := by rw [List.getElem?_map, e1]; rfl
    rw [hkeys, List.getElem?_map] at e3
    cases e4 : ks[j]? with
    | none => rw [e4] at e3; cases e3
    | some y =>
      rw [e4] at e3
      have e5 : Sum.inl y = k := Option.some.inj e3
      subst e5
      rcases keyIs_shape (show keyIs (Sum.inl y) v = true from e2) with ⟨i, t, ek, ev⟩ | ⟨z, t, ek, ev⟩
      · cases ek
        exact ⟨y, t, rfl, ev⟩
      · cases ek
  have I1 : Inv X pins σ H { s with heap := h', toks := tk } := I.kept hk
  have hzl : acc.toList.length ≤ sizeLine := by rw [hal, ← hl]; exact h16
  refine wpAny_bind (wpAny_newList ?_ hzl)
  have hoL : (h'.push (seqObj "list" acc.toList.toArray 0)).get? h'.objs.size = some (seqObj "list" acc.toList.toArray 0) := Heap.get?_push_size _ rfl
  show wpAny _ _ _ _ _ { s with heap := h'.push (seqObj "list" acc.toList.toArray 0), toks := tk }
  refine wpAny_bind (wpAny_holding (wpAny_call_entry PyProof.Rows.slot_list_sort ⟨_, hoL, rfl⟩ PyProof.Rows.entry_list_sort
    (SrtO.list_sort_ord (s := { s with heap := h'.push (seqObj "list" acc.toList.toArray 0), toks := tk }) SrtO.swo_int hoL hzl (fun h2 => SrtO.ints_sortable hS h2) fun out h1 h2 => ⟨_, rfl, ?_⟩) (PyProof.Rows.args_list_sort _)))
  obtain ⟨k1, k2, k3⟩ := SrtO.ints_out hS h1 h2
  obtain ⟨e', he'⟩ := PyProof.Rows.sortedHeap_at (vs := acc.toList) (out := out.toArray) hoL
  have hlen : ((out.map SrtO.iv).map V.int).length ≤ sizeLine := by
    rw [List.length_map, k2.length_eq, ← hal]
    exact hzl
  refine wpAny_pure ⟨_, rfl, .ref h'.objs.size, upd H h'.objs.size (.lst ((out.map SrtO.iv).map V.int)), I1.laid (t' := tk) (fun b u e => ?_) (Nat.le_refl _)
    (show ObjOk X.prog X.w _ _ _ (.lst ((out.map SrtO.iv).map V.int)) from ⟨hlen, out, e', vals_of_ints k1, he'⟩), rfl, q _ _ k2 k3 (I1.hok.fresh (Nat.le_refl _))⟩
  have hb : b < h'.objs.size := Heap.lt_size e
  rw [PyProof.Rows.sortedHeap_old (Nat.ne_of_lt hb) (by rw [size_push']; exact Nat.lt_succ_of_lt hb)]
  exact Heap.get?_push_of_some _ e
end L2
namespace PX
open PySem PySem.Spec PyProof.Rows L2
def intKeys : List (Key × PyData) → Option (List Int)
  | [] => some []
  | (.inl i, _) :: r => (intKeys r).map (i :: ·)
  | _ :: _ => none
theorem intKeys_ok : ∀ {l : List (Key × PyData)} {ks : List Int}, intKeys l = some ks → l.map (·.1) = ks.map Sum.inl
  | [], ks, h => by cases h; rfl
  | (.inl i, p) :: r, ks, h => by
    cases e : intKeys r with
    | none => simp only [intKeys, e] at h; cases h
    | some ks' =>
      simp only [intKeys, e] at h
      cases h
      rw [List.map_cons, intKeys_ok e]; rfl
  | (.inr i, p) :: r, ks, h => by cases h
def gSortD : List D → Store → R D := fun ds S => match ds with
  | [.loc n] => (match S[n]? with
    | some (.dI l) => (match intKeys l with
      | some ks => if fits ks.length then .ok (.loc S.length) (S ++ [.lst (ofInts (isort ks))]) else .no
      | none => .no)
    | _ => .no)
  | _ => .no
def rSortD : List V → Hp → VK → Prop := fun xs H Q => ∃ (a : Addr) (kvs : List (Key × V)) (ks : List Int), xs = [.ref a] ∧ Rd H a (.dK kvs) ∧ kvs.map (·.1) = ks.map Sum.inl ∧
    ∀ (ys : List Int) (p : Addr), ys.Perm ks → ys.Pairwise (· ≤ ·) → H p = none → Q (.ref p) (upd H p (.lst (ys.map V.int)))
theorem cd_sortD {K : PySem.W.Frag} : CaD K rSortD gSortD := by
  intro mg W ρ S σ H Q xs ds sim r q
  unfold gSortD at q
  split at q
  · rename_i n
    cases r with
    | cons rx rr =>
      cases rr
      obtain ⟨a, ha, rfl⟩ := rx
      cases ec : S[n]? with
      | none => simp only [ec] at q; exact q.elim
      | some c =>
        simp only [ec] at q
        cases c with
        | lst l => exact q.elim
        | dT l => exact q.elim
        | dI l =>
          simp only at q
          obtain ⟨ws, ew, hd, hz⟩ := sim.cell n a _ ha ec
          cases ek : intKeys l with
          | none => simp only [ek] at q; exact q.elim
          | some ks =>
            simp only [ek] at q
            cases hf : fits ks.length with
            | false => rw [if_neg (by rw [hf]; exact Bool.false_ne_true)] at q; exact q.elim
            | true =>
              rw [if_pos hf] at q
              refine ⟨a, ws, ks, rfl, .inl ew, (KD.keys hd).trans (intKeys_ok ek), fun ys p hp hs hfree => ?_⟩
              have e3 : ys = isort ks := sorted_uniq (hp.trans (isort_perm ks).symm) hs (isort_sorted ks)
              subst e3
              refine post_loc (c := .lst (ofInts (isort ks))) sim hfree ⟨_, rfl, dpa_ints _ _, ?_⟩ q
              rw [List.length_map, (isort_perm ks).length_eq]
              exact fits_ok hf
  · exact q.elim
end PX
namespace PX
open PySem PySem.Spec PyProof.Rows L2
theorem cr_sortD {X : Cx} (hc : X.calm = true) : CallR X (.builtin "sorted") rSortD := px_sortedDI hc
end PX
namespace PX
open PySem PySem.Spec PyProof.Rows L2
/-- a test that is a choice -/
def mIfT (c a b : M Bool) : M Bool := fun env S => bd (c env S) fun k S1 => if k then a env S1 else b env S1
theorem st_ifx {X : Cx} {mg : Str → Option Value} {W : WX} {c a b : Expr} {pos : Pos} {tc ta tb : M Bool} (hc : PT X c (tT X.K mg W tc)) (ha : PT X a (tT X.K mg W ta)) (hb : PT X b (tT X.K mg W tb)) : PT X (.IfExp c a b pos) (tT X.K mg W (mIfT tc ta tb)) := by
  refine ⟨fun pins s σ H Q I h => ?_⟩
  obtain ⟨ρ, S, env, sim, re, q⟩ := h
  show wpAny (model X.prog X.w) X.A (isTrue c X.env (eval c X.env) >>= fun k => if k = true then isTrue a X.env (eval a X.env) else isTrue b X.env (eval b X.env)) _ _ _
  refine wpAny_bind (thn (hc.run pins s σ H (fun k H1 => if k = true then tT X.K mg W ta σ H1 Q else tT X.K mg W tb σ H1 Q) I (tM.bind sim re q fun ρ1 S1 x k H1 e1 sim1 re1 r1 q1 => ?_)) fun d s1 ⟨H1, I1, q1⟩ => ?_)
  · subst r1
    cases x with
    | true => rw [if_pos rfl]; rw [if_pos rfl] at q1; exact ⟨ρ1, S1, env, sim1, re1, q1⟩
    | false => rw [if_neg Bool.false_ne_true]; rw [if_neg Bool.false_ne_true] at q1; exact ⟨ρ1, S1, env, sim1, re1, q1⟩
  · cases d with
    | true => rw [if_pos rfl] at q1 ⊢; exact ha.run pins s1 σ H1 Q I1 q1
    | false => rw [if_neg Bool.false_ne_true] at q1 ⊢; exact hb.run pins s1 σ H1 Q I1 q1
end PX

end P_PX10
section P_PXE
set_option maxHeartbeats 4000000
/-! evaluation: each word by its arguments, what comes next as a word of its own -/
namespace PX
open PySem L2
section
variable {α β γ : Type} {env e1 : Ev} {S S1 : Store}
theorem bd_ok {a : α} {k : α → Store → R γ} : bd (.ok a S) k = k a S := rfl
theorem bd_no {k : α → Store → R γ} : bd .no k = .no := rfl
theorem bd_exc {x : Ex} {k : α → Store → R γ} : bd (.exc x S) k = .exc x S := rfl
theorem bdN_ok {a : α} {k : α → Store → R γ} : bdN (.ok a S) k = k a S := rfl
theorem bs_ok {a : α} {k : α → Store → RS} : bs (.ok a S) env k = k a S := rfl
theorem bs_exc {x : Ex} {k : α → Store → RS} : bs (.exc x S) env k = .exc x env S := rfl
def getV : Option (Option D) → Store → R D
  | some (some d), S => .ok d S
  | _, _ => .no
theorem mV_ap {i : Nat} : mV i env S = getV env[i]? S := by unfold mV getV; split <;> simp_all
theorem getV_ok {d : D} : getV (some (some d)) S = .ok d S := rfl
theorem mK_ap {d : PyData} : mK d env S = .ok (.py d) S := rfl
theorem m1_ap {g : D → Store → R D} {a : M D} : m1 g a env S = bd (a env S) g := rfl
def k2 (g : D → D → Store → R D) (b : M D) (env : Ev) : D → Store → R D := fun x S1 => bd (b env S1) fun y S2 => g x y S2
def k2' (g : D → D → Store → R D) (x : D) : D → Store → R D := fun y S2 => g x y S2
theorem m2_ap {g : D → D → Store → R D} {a b : M D} : m2 g a b env S = bd (a env S) (k2 g b env) := rfl
theorem k2_ap {g : D → D → Store → R D} {b : M D} {x : D} : k2 g b env x S = bd (b env S) (k2' g x) := rfl
theorem k2'_ap {g : D → D → Store → R D} {x y : D} : k2' g x y S = g x y S := rfl
theorem mNil_ap : mNil env S = .ok [] S := rfl
def kC1 (r : M (List D)) (env : Ev) : D → Store → R (List D) := fun x S1 => bd (r env S1) fun xs S2 => .ok (x :: xs) S2
def kC2 (x : D) : List D → Store → R (List D) := fun xs S2 => .ok (x :: xs) S2
theorem mCons_ap {a : M D} {r : M (List D)} : mCons a r env S = bd (a env S) (kC1 r env) := rfl
theorem kC1_ap {r : M (List D)} {x : D} : kC1 r env x S = bd (r env S) (kC2 x) := rfl
theorem kC2_ap {x : D} {xs : List D} : kC2 x xs S = .ok (x :: xs) S := rfl
theorem mCall_ap {g : List D → Store → R D} {as : M (List D)} : mCall g as env S = bd (as env S) g := rfl
theorem mCallI_ap {g : List D → Store → R (List PyData)} {as : M (List D)} : mCallI g as env S = bd (as env S) g := rfl
theorem mItems_ap {m : M D} : mItems m env S = bd (m env S) gItems := rfl
theorem gItems_l {l : List PyData} : gItems (.py (.list l)) S = .ok l S := rfl
theorem gItems_t {l : List PyData} : gItems (.py (.tuple l)) S = .ok l S := rfl
def kIf (a b : M α) (env : Ev) : Bool → Store → R α := fun k S1 => if k then a env S1 else b env S1
theorem mIf_ap {c : M Bool} {a b : M D} : mIf c a b env S = bd (c env S) (kIf a b env) := rfl
theorem kIf_t {a b : M α} : kIf a b env true S = a env S := rfl
theorem kIf_f {a b : M α} : kIf a b env false S = b env S := rfl
def mCB (k : Bool) : M Bool := fun _ S => .ok k S
theorem mCB_ap {k : Bool} : mCB k env S = .ok k S := rfl
theorem mAndT_ap {a b : M Bool} : mAndT a b env S = bd (a env S) (kIf b (mCB false) env) := rfl
theorem mOrT_ap {a b : M Bool} : mOrT a b env S = bd (a env S) (kIf (mCB true) b env) := rfl
def kNot : Bool → Store → R Bool := fun k S => .ok (!k) S
theorem mNotT_ap {a : M Bool} : mNotT a env S = bd (a env S) kNot := rfl
theorem kNot_ap {k : Bool} : kNot k S = .ok (!k) S := rfl
def kAnd (b : M D) (env : Ev) : D → Store → R D := fun x S1 => match x with
  | .py (.bool k) => if k then b env S1 else .ok (.py (.bool false)) S1
  | _ => .no
def kOr (b : M D) (env : Ev) : D → Store → R D := fun x S1 => match x with
  | .py (.bool k) => if k then .ok (.py (.bool true)) S1 else b env S1
  | _ => .no
theorem mAnd_ap {a b : M D} : mAnd a b env S = bd (a env S) (kAnd b env) := rfl
theorem kAnd_t {b : M D} : kAnd b env (.py (.bool true)) S = b env S := rfl
theorem kAnd_f {b : M D} : kAnd b env (.py (.bool false)) S = .ok (.py (.bool false)) S := rfl
theorem mOr_ap {a b : M D} : mOr a b env S = bd (a env S) (kOr b env) := rfl
theorem kOr_t {b : M D} : kOr b env (.py (.bool true)) S = .ok (.py (.bool true)) S := rfl
theorem kOr_f {b : M D} : kOr b env (.py (.bool false)) S = b env S := rfl
/-- where what comes next gives a truth value and leaves the store -/
theorem kAnd_b {b : M D} {k j : Bool} (h : b env S = .ok (.py (.bool j)) S) : kAnd b env (.py (.bool k)) S = .ok (.py (.bool (k && j))) S := by cases k; rfl; exact h
theorem kOr_b {b : M D} {k j : Bool} (h : b env S = .ok (.py (.bool j)) S) : kOr b env (.py (.bool k)) S = .ok (.py (.bool (k || j))) S := by cases k; exact h; rfl
theorem kIf_b {a b : M α} {k : Bool} {x y : α} (h1 : a env S = .ok x S) (h2 : b env S = .ok y S) : kIf a b env k S = .ok (if k then x else y) S := by cases k; exact h2; exact h1
def kNotV : D → Store → R D := fun x S1 => match x with
  | .py (.bool k) => .ok (.py (.bool (!k))) S1
  | _ => .no
theorem mNot_ap {a : M D} : mNot a env S = bd (a env S) kNotV := rfl
theorem kNotV_ap {k : Bool} : kNotV (.py (.bool k)) S = .ok (.py (.bool (!k))) S := rfl
def kB : D → Store → R Bool := fun x S1 => match x with
  | .py (.bool k) => .ok k S1
  | _ => .no
theorem mB_ap {a : M D} : mB a env S = bd (a env S) kB := rfl
theorem kB_ap {k : Bool} : kB (.py (.bool k)) S = .ok k S := rfl
theorem mFr_ap {m : M D} : mFr m env S = frR S.length (m env S) := rfl
theorem frR_py {n : Nat} {d : PyData} : frR n (.ok (.py d) S) = .ok (.py d) (S.take n) := rfl
theorem frR_no {n : Nat} : frR n .no = .no := rfl
theorem frR_exc {n : Nat} {x : Ex} : frR n (.exc x S) = .exc x S := rfl
theorem frR_new {n : Nat} {l : List PyData} (h : S.length = n) : frR n (.ok (.loc S.length) (S ++ [.lst l])) = .ok (.py (.list l)) S := by
  subst h
  have e : (S ++ [Cell.lst l])[S.length]? = some (.lst l) := by simp
  show (if S.length ≤ S.length then _ else _) = _
  rw [if_pos (Nat.le_refl _)]
  simp only [rd, e, List.take_left']
def kS1 (lo hi : mO) (env : Ev) : D → Store → R D := fun x S1 => bd (lo env S1) fun l S2 => bd (hi env S2) fun h S3 => gSl x l h S3
def kS2 (x : D) (hi : mO) (env : Ev) : Option Int → Store → R D := fun l S2 => bd (hi env S2) fun h S3 => gSl x l h S3
def kS3 (x : D) (l : Option Int) : Option Int → Store → R D := fun h S3 => gSl x l h S3
theorem mSl_ap {m : M D} {lo hi : mO} : mSl m lo hi env S = bd (m env S) (kS1 lo hi env) := rfl
theorem kS1_ap {lo hi : mO} {x : D} : kS1 lo hi env x S = bd (lo env S) (kS2 x hi env) := rfl
theorem kS2_ap {hi : mO} {x : D} {l : Option Int} : kS2 x hi env l S = bd (hi env S) (kS3 x l) := rfl
theorem kS3_ap {x : D} {l h : Option Int} : kS3 x l h S = gSl x l h S := rfl
theorem oNone_ap : oNone env S = .ok none S := rfl
def kO : D → Store → R (Option Int) := fun x S1 => match x with
  | .py (.int i) => .ok (some i) S1
  | _ => .no
theorem oSome_ap {m : M D} : oSome m env S = bd (m env S) kO := rfl
theorem kO_ap {i : Int} : kO (.py (.int i)) S = .ok (some i) S := rfl
def kH1 (g g' : D → D → Store → R D) (b c : M D) (env : Ev) : D → Store → R D := fun x S1 => bd (b env S1) fun y S2 => bd (g x y S2) fun k S3 => match k with
  | .py (.bool true) => bd (c env S3) fun z S4 => g' y z S4
  | .py (.bool false) => .ok (.py (.bool false)) S3
  | _ => .no
def kH2 (g g' : D → D → Store → R D) (x : D) (c : M D) (env : Ev) : D → Store → R D := fun y S2 => bd (g x y S2) fun k S3 => match k with
  | .py (.bool true) => bd (c env S3) fun z S4 => g' y z S4
  | .py (.bool false) => .ok (.py (.bool false)) S3
  | _ => .no
def kH3 (g' : D → D → Store → R D) (y : D) (c : M D) (env : Ev) : D → Store → R D := fun k S3 => match k with
  | .py (.bool true) => bd (c env S3) fun z S4 => g' y z S4
  | .py (.bool false) => .ok (.py (.bool false)) S3
  | _ => .no
theorem mChain_ap {g g' : D → D → Store → R D} {a b c : M D} : mChain g g' a b c env S = bd (a env S) (kH1 g g' b c env) := rfl
theorem kH1_ap {g g' : D → D → Store → R D} {b c : M D} {x : D} : kH1 g g' b c env x S = bd (b env S) (kH2 g g' x c env) := rfl
theorem kH2_ap {g g' : D → D → Store → R D} {c : M D} {x y : D} : kH2 g g' x c env y S = bd (g x y S) (kH3 g' y c env) := rfl
theorem kH3_t {g' : D → D → Store → R D} {c : M D} {y : D} : kH3 g' y c env (.py (.bool true)) S = bd (c env S) (k2' g' y) := rfl
theorem kH3_f {g' : D → D → Store → R D} {c : M D} {y : D} : kH3 g' y c env (.py (.bool false)) S = .ok (.py (.bool false)) S := rfl
theorem kH3_b {g' : D → D → Store → R D} {c : M D} {y z : D} {k j : Bool} (h : c env S = .ok z S) (h2 : g' y z S = .ok (.py (.bool j)) S) : kH3 g' y c env (.py (.bool k)) S = .ok (.py (.bool (k && j))) S := by
  cases k
  · rfl
  · rw [kH3_t, h]; exact h2
def kMe (c : D → Store → Bool) (g : D → List D → Store → R D) (as : M (List D)) (env : Ev) : D → Store → R D := fun x S1 => if c x S1 then bd (as env S1) fun xs S2 => g x xs S2 else .no
def kMe2 (g : D → List D → Store → R D) (x : D) : List D → Store → R D := fun xs S2 => g x xs S2
theorem mMeth_ap {c : D → Store → Bool} {g : D → List D → Store → R D} {o : M D} {as : M (List D)} : mMeth c g o as env S = bd (o env S) (kMe c g as env) := rfl
theorem kMe_ap {c : D → Store → Bool} {g : D → List D → Store → R D} {as : M (List D)} {x : D} (h : c x S = true) : kMe c g as env x S = bd (as env S) (kMe2 g x) := if_pos h
theorem kMe2_ap {g : D → List D → Store → R D} {x : D} {xs : List D} : kMe2 g x xs S = g x xs S := rfl
/-! statements -/
def seqK (r : RS) (b : MS) : RS := match r with
  | .go .nx env1 S1 => b env1 S1
  | r => r
theorem sSeq_ap {a b : MS} : sSeq a b env S = seqK (a env S) b := rfl
theorem seqK_nx {b : MS} : seqK (.go .nx env S) b = b env S := rfl
theorem seqK_rt {b : MS} {d : D} : seqK (.go (.rt d) env S) b = .go (.rt d) env S := rfl
theorem seqK_bk {b : MS} : seqK (.go .bk env S) b = .go .bk env S := rfl
theorem seqK_ct {b : MS} : seqK (.go .ct env S) b = .go .ct env S := rfl
theorem seqK_exc {b : MS} {x : Ex} : seqK (.exc x env S) b = .exc x env S := rfl
theorem seqK_no {b : MS} : seqK .no b = .no := rfl
theorem sNx_ap : sNx env S = .go .nx env S := rfl
theorem sNo_ap : sNo env S = .no := rfl
def kE (env : Ev) : α → Store → RS := fun _ S1 => .go .nx env S1
theorem sEx_ap {m : M D} : sEx m env S = bs (m env S) env (kE env) := rfl
theorem kE_ap {d : α} : kE env d S = .go .nx env S := rfl
def kR (env : Ev) : D → Store → RS := fun d S1 => .go (.rt d) env S1
theorem sRet_ap {m : M D} : sRet m env S = bs (m env S) env (kR env) := rfl
theorem kR_ap {d : D} : kR env d S = .go (.rt d) env S := rfl
theorem sRetN_ap : sRetN env S = .go (.rt (.py .none)) env S := rfl
def kSI (a b : MS) (env : Ev) : Bool → Store → RS := fun k S1 => if k then a env S1 else b env S1
theorem sIf_ap {c : M Bool} {a b : MS} : sIf c a b env S = bs (c env S) env (kSI a b env) := rfl
theorem kSI_t {a b : MS} : kSI a b env true S = a env S := rfl
theorem kSI_f {a b : MS} : kSI a b env false S = b env S := rfl
theorem kSI_c {a b : MS} {k : Bool} : kSI a b env k S = if k = true then a env S else b env S := by cases k <;> rfl
def asK : R Ev → RS
  | .ok env1 S2 => .go .nx env1 S2
  | _ => .no
def kA (a : MG) (env : Ev) : D → Store → RS := fun d S1 => match a d env S1 with
  | .ok env1 S2 => .go .nx env1 S2
  | _ => .no
theorem sAs_ap {m : M D} {a : MG} : sAs m a env S = bs (m env S) env (kA a env) := rfl
theorem kA_ap {a : MG} {d : D} : kA a env d S = asK (a d env S) := rfl
theorem asK_ok : asK (.ok env S) = .go .nx env S := rfl
theorem aN_ap {i : Nat} {d : D} : aN i d env S = .ok (env.set i (some d)) S := rfl
theorem kA_N {i : Nat} {d : D} : kA (aN i) env d S = .go .nx (env.set i (some d)) S := rfl
theorem asNil_ap : asNil [] env S = .ok env S := rfl
def kG (r : List D → Ev → Store → R Ev) (ds : List D) : Ev → Store → R Ev := fun env1 S1 => r ds env1 S1
theorem asCons_ap {a : MG} {r : List D → Ev → Store → R Ev} {d : D} {ds : List D} : asCons a r (d :: ds) env S = bd (a d env S) (kG r ds) := rfl
theorem kG_ap {r : List D → Ev → Store → R Ev} {ds : List D} : kG r ds env S = r ds env S := rfl
theorem aT_ap {n : Nat} {r : List D → Ev → Store → R Ev} {l : List PyData} (h : l.length = n) : aT n r (.py (.tuple l)) env S = r (l.map D.py) env S := if_pos h
def kU1 (mi : M D) (d : D) (env : Ev) : D → Store → R Ev := fun o S1 => bdN (mi env S1) fun i S2 => subPut o i d env S2
def kU2 (o d : D) (env : Ev) : D → Store → R Ev := fun i S2 => subPut o i d env S2
theorem asSub_ap {mo mi : M D} {d : D} : asSub mo mi d env S = bdN (mo env S) (kU1 mi d env) := rfl
theorem kU1_ap {mi : M D} {o d : D} : kU1 mi d env o S = bdN (mi env S) (kU2 o d env) := rfl
theorem kU2_ap {o i d : D} : kU2 o d env i S = subPut o i d env S := rfl
def kF (a : MG) (b : MS) (env : Ev) : List PyData → Store → RS := fun ps S1 => forS a b ps env S1
theorem sFor_ap {m : M (List PyData)} {a : MG} {b : MS} : sFor m a b env S = bs (m env S) env (kF a b env) := rfl
theorem kF_ap {a : MG} {b : MS} {ps : List PyData} : kF a b env ps S = forS a b ps env S := rfl
def kP2 (i j : Nat) (env : Ev) : List D → Store → RS := fun ds S1 => match ds with
  | [d, e] => .go .nx ((env.set i (some d)).set j (some e)) S1
  | _ => .no
theorem sPar_ap {i j : Nat} {m : M (List D)} : sPar i j m env S = bs (m env S) env (kP2 i j env) := rfl
theorem kP2_ap {i j : Nat} {d e : D} : kP2 i j env [d, e] S = .go .nx ((env.set i (some d)).set j (some e)) S := rfl
def kP3 (i j l : Nat) (env : Ev) : List D → Store → RS := fun ds S1 => match ds with
  | [d, e, f] => .go .nx (((env.set i (some d)).set j (some e)).set l (some f)) S1
  | _ => .no
theorem sPar3_ap {i j l : Nat} {m : M (List D)} : sPar3 i j l m env S = bs (m env S) env (kP3 i j l env) := rfl
theorem kP3_ap {i j l : Nat} {d e f : D} : kP3 i j l env [d, e, f] S = .go .nx (((env.set i (some d)).set j (some e)).set l (some f)) S := rfl
theorem runF_ap {N : Nat} {b : MS} {ds : List D} : runF N b ds S = frR S.length (endB (b (ds.map some ++ List.replicate (N - ds.length) none) S)) := rfl
theorem runM_ap {N : Nat} {b : MS} {ds : List D} : runM N b ds S = endB (b (ds.map some ++ List.replicate (N - ds.length) none) S) := rfl
theorem endB_nx : endB (.go .nx env S) = .ok (.py .none) S := rfl
theorem endB_rt {d : D} : endB (.go (.rt d) env S) = .ok d S := rfl
theorem endB_exc {x : Ex} : endB (.exc x env S) = .exc x S := rfl
theorem endB_no : endB .no = .no := rfl
/-! values -/
theorem gAdd_i {i j : Int} : gAdd (.py (.int i)) (.py (.int j)) S = .ok (.py (.int (i + j))) S := rfl
theorem gAdd_t {a b : List PyData} (h : fits (a.length + b.length) = true) : gAdd (.py (.tuple a)) (.py (.tuple b)) S = .ok (.py (.tuple (a ++ b))) S := if_pos h
theorem gAdd_l {a b : List PyData} (h : fits (a.length + b.length) = true) : gAdd (.py (.list a)) (.py (.list b)) S = .ok (.loc S.length) (S ++ [.lst (a ++ b)]) := if_pos h
theorem gSub_i {i j : Int} : gSub (.py (.int i)) (.py (.int j)) S = .ok (.py (.int (i - j))) S := rfl
theorem gLtI_i {i j : Int} : gLtI (.py (.int i)) (.py (.int j)) S = .ok (.py (.bool (decide (i < j)))) S := rfl
theorem gLe_i {i j : Int} : gLe (.py (.int i)) (.py (.int j)) S = .ok (.py (.bool (decide (i ≤ j)))) S := rfl
theorem gGt_i {i j : Int} : gGt (.py (.int i)) (.py (.int j)) S = .ok (.py (.bool (decide (j < i)))) S := rfl
theorem gGe_i {i j : Int} : gGe (.py (.int i)) (.py (.int j)) S = .ok (.py (.bool (decide (j ≤ i)))) S := rfl
theorem gMul_i {i j : Int} (h : cMul i j = true) : gMul (.py (.int i)) (.py (.int j)) S = .ok (.py (.int (i * j))) S := if_pos h
theorem cMul_r {i j : Int} (h : j.natAbs < 18446744073709551616) : cMul i j = true := by unfold cMul; rw [decide_eq_true h, Bool.or_true]
theorem cMul_l {i j : Int} (h : i.natAbs < 18446744073709551616) : cMul i j = true := by unfold cMul; rw [decide_eq_true h, Bool.true_or]
theorem gDiv_i {i j : Int} (h : cDiv i j = true) : gDiv (.py (.int i)) (.py (.int j)) S = .ok (.py (.int (i / j))) S := if_pos h
theorem cDiv_s {i j : Int} (h : 0 < j) (h2 : j < 1125899906842624) : cDiv i j = true := by
  unfold cDiv
  rw [decide_eq_true h, Bool.true_and]
  apply decide_eq_true
  have h3 : j.natAbs < 2 ^ 50 := by omega
  have h4 := (Nat.log2_lt (by omega : j.natAbs ≠ 0)).mpr h3
  omega
theorem gMod_i {i j : Int} (h : 0 < j) : gMod (.py (.int i)) (.py (.int j)) S = .ok (.py (.int (i % j))) S := if_pos (decide_eq_true h)
theorem gNeg_i {i : Int} : gNeg (.py (.int i)) S = .ok (.py (.int (-i))) S := rfl
theorem gIntF_i {i : Int} : gIntF [.py (.int i)] S = .ok (.py (.int i)) S := rfl
theorem gAbs_i {i : Int} : gAbs [.py (.int i)] S = .ok (.py (.int (if i < 0 then -i else i))) S := rfl
theorem gMax2_i {i j : Int} : gMax2 [.py (.int i), .py (.int j)] S = .ok (.py (.int (if j > i then j else i))) S := rfl
theorem gMin2_i {i j : Int} : gMin2 [.py (.int i), .py (.int j)] S = .ok (.py (.int (if j < i then j else i))) S := rfl
theorem gLen_l {l : List PyData} : gLen [.py (.list l)] S = .ok (.py (.int l.length)) S := rfl
theorem gLen_t {l : List PyData} : gLen [.py (.tuple l)] S = .ok (.py (.int l.length)) S := rfl
theorem gTupF_l {l : List PyData} : gTupF [.py (.list l)] S = .ok (.py (.tuple l)) S := rfl
theorem gTupF_t {l : List PyData} : gTupF [.py (.tuple l)] S = .ok (.py (.tuple l)) S := rfl
theorem gLstF_l {l : List PyData} (h : fits l.length = true) : gLstF [.py (.list l)] S = .ok (.loc S.length) (S ++ [.lst l]) := if_pos h
theorem gLstF_t {l : List PyData} (h : fits l.length = true) : gLstF [.py (.tuple l)] S = .ok (.loc S.length) (S ++ [.lst l]) := if_pos h
theorem gIx_l {l : List PyData} {i : Int} {p : PyData} (h : atI l i = some p) : gIx (.py (.list l)) (.py (.int i)) S = .ok (.py p) S := by show retP (atI l i) S = _; rw [h]; rfl
theorem gIx_t {l : List PyData} {i : Int} {p : PyData} (h : atI l i = some p) : gIx (.py (.tuple l)) (.py (.int i)) S = .ok (.py p) S := by show retP (atI l i) S = _; rw [h]; rfl
theorem gIx_loc {n : Nat} {l : List PyData} {i : Int} {p : PyData} (h1 : S[n]? = some (.lst l)) (h : atI l i = some p) : gIx (.loc n) (.py (.int i)) S = .ok (.py p) S := by
  unfold gIx rd
  simp only [h1, h]
  rfl
theorem gSl_t {l : List PyData} {lo hi : Option Int} : gSl (.py (.tuple l)) lo hi S = .ok (.py (.tuple (cutL l lo hi))) S := rfl
theorem gSl_l {l : List PyData} {lo hi : Option Int} (h : fits l.length = true) : gSl (.py (.list l)) lo hi S = .ok (.loc S.length) (S ++ [.lst (cutL l lo hi)]) := if_pos h
theorem gRev_t {l : List PyData} : gRev (.py (.tuple l)) S = .ok (.py (.tuple l.reverse)) S := rfl
theorem gEq_p {p q : PyData} (h1 : SeqAt.shaped p = true) (h2 : SeqAt.shaped q = true) : gEq (.py p) (.py q) S = .ok (.py (.bool (PyData.eqv p q))) S := by
  show (if (SeqAt.shaped p && SeqAt.shaped q) = true then _ else _) = _
  rw [h1, h2]; rfl
theorem gNe_p {p q : PyData} (h1 : SeqAt.shaped p = true) (h2 : SeqAt.shaped q = true) : gNe (.py p) (.py q) S = .ok (.py (.bool (!PyData.eqv p q))) S := by
  show (if (SeqAt.shaped p && SeqAt.shaped q) = true then _ else _) = _
  rw [h1, h2]; rfl
theorem gIs_b {a b : Bool} : gIs (.py (.bool a)) (.py (.bool b)) S = .ok (.py (.bool (decide (a = b)))) S := rfl
theorem gIsNot_b {a b : Bool} : gIsNot (.py (.bool a)) (.py (.bool b)) S = .ok (.py (.bool (!decide (a = b)))) S := rfl
theorem gIs_n {p : PyData} : gIs (.py p) (.py .none) S = .ok (.py (.bool (isNone (.py p)))) S := rfl
theorem gIsNot_n {p : PyData} : gIsNot (.py p) (.py .none) S = .ok (.py (.bool (!isNone (.py p)))) S := rfl
theorem gTupD_p {ds : List D} {ps : List PyData} (h : pys ds = some ps) (h2 : fits ps.length = true) : gTupD ds S = .ok (.py (.tuple ps)) S := by unfold gTupD; rw [h]; exact if_pos h2
theorem gLstD_p {ds : List D} {ps : List PyData} (h : pys ds = some ps) (h2 : fits ps.length = true) : gLstD ds S = .ok (.loc S.length) (S ++ [.lst ps]) := by unfold gLstD; rw [h]; exact if_pos h2
theorem pys_nil : pys [] = some [] := rfl
theorem pys_cons {p : PyData} {ds : List D} {ps : List PyData} (h : pys ds = some ps) : pys (.py p :: ds) = some (p :: ps) := by show (pys ds).map (p :: ·) = _; rw [h]; rfl
theorem gRange1_i {j : Int} (h : inR j = true) : gRange1 [.py (.int j)] S = .ok (rangeL 0 j.toNat) S := if_pos h
theorem gRange2_i {i j : Int} (h : inR i = true) (h2 : inR j = true) : gRange2 [.py (.int i), .py (.int j)] S = .ok (rangeL i (j - i).toNat) S := if_pos (by rw [h, h2]; rfl)
theorem gZip_t {a b : List PyData} : gZip [.py (.tuple a), .py (.tuple b)] S = .ok (zipT a b) S := rfl
/-! facts about data -/
theorem toInts_of : ∀ ns : List Int, toInts (ofInts ns) = some ns
  | [] => rfl
  | n :: r => by show (toInts (ofInts r)).map (n :: ·) = _; rw [toInts_of r]; rfl
theorem gSortI_p {ns : List Int} (h : fits ns.length = true) : gSortI [.py (.list (ofInts ns))] S = .ok (.loc S.length) (S ++ [.lst (ofInts (isort ns))]) := by
  unfold gSortI rd
  simp only [toInts_of]
  exact if_pos h
theorem gSum_p {ns : List Int} : gSum [.py (.list (ofInts ns))] S = .ok (.py (.int ns.sum)) S := by
  unfold gSum rd
  simp only [toInts_of]
def ofBools (l : List Bool) : List PyData := l.map PyData.bool
theorem toBools_of : ∀ ns : List Bool, toBools (ofBools ns) = some ns
  | [] => rfl
  | n :: r => by show (toBools (ofBools r)).map (n :: ·) = _; rw [toBools_of r]; rfl
theorem gAll_p {ns : List Bool} : gAll [.py (.list (ofBools ns))] S = .ok (.py (.bool (ns.all id))) S := by
  unfold gAll rd
  simp only [toBools_of]
theorem gAny_p {ns : List Bool} : gAny [.py (.list (ofBools ns))] S = .ok (.py (.bool (ns.any id))) S := by
  unfold gAny rd
  simp only [toBools_of]
theorem ofInts_len (l : List Int) : (ofInts l).length = l.length := by unfold ofInts; rw [List.length_map]
theorem atI_ofInts (l : List Int) (i : Int) : atI (ofInts l) i = (atI l i).map PyData.int := by
  unfold atI
  rw [ofInts_len]
  cases ixN l.length i with
  | none => rfl
  | some j => show (ofInts l)[j]? = (l[j]?).map PyData.int; unfold ofInts; rw [List.getElem?_map]
theorem cutL_map {α β : Type} (f : α → β) (l : List α) (lo hi : Option Int) : cutL (l.map f) lo hi = (cutL l lo hi).map f := by
  unfold cutL
  rw [List.length_map, List.map_take, List.map_drop]
theorem cutL_ofInts (l : List Int) (lo hi : Option Int) : cutL (ofInts l) lo hi = ofInts (cutL l lo hi) := cutL_map _ _ _ _
theorem ofInts_append (l m : List Int) : ofInts l ++ ofInts m = ofInts (l ++ m) := by unfold ofInts; rw [List.map_append]
theorem ofInts_rev (l : List Int) : (ofInts l).reverse = ofInts l.reverse := by unfold ofInts; rw [List.map_reverse]
theorem eqv_ii (i j : Int) : PyData.eqv (.int i) (.int j) = decide (i = j) := by
  simp only [PyData.eqv]
  by_cases h : i = j
  · subst h; simp
  · rw [decide_eq_false h]; exact beq_eq_false_iff_ne.mpr h
theorem eqvAll_ints : ∀ l m : List Int, PyData.eqvAll (ofInts l) (ofInts m) = decide (l = m)
  | [], [] => rfl
  | [], _ :: _ => rfl
  | _ :: _, [] => rfl
  | a :: l, b :: m => by
    show (PyData.eqv (.int a) (.int b) && PyData.eqvAll (ofInts l) (ofInts m)) = _
    rw [eqv_ii, eqvAll_ints l m]
    by_cases h1 : a = b <;> by_cases h2 : l = m <;> simp [h1, h2]
theorem eqv_tt (l m : List PyData) : PyData.eqv (.tuple l) (.tuple m) = PyData.eqvAll l m := by simp only [PyData.eqv]
theorem eqv_ll (l m : List PyData) : PyData.eqv (.list l) (.list m) = PyData.eqvAll l m := by simp only [PyData.eqv]
theorem eqv_rows (l m : List Int) : PyData.eqv (.tuple (ofInts l)) (.tuple (ofInts m)) = decide (l = m) := by rw [eqv_tt, eqvAll_ints]
/-- d is data of lists and tuples, at most so deep -/
def shp (n : Nat) (d : PyData) : Bool := d.canLay0 && decide (d.depth ≤ n)
theorem shaped_of {n : Nat} {d : PyData} (h : shp n d = true) (hn : n ≤ 64 := by omega) : SeqAt.shaped d = true := by
  unfold shp at h
  unfold SeqAt.shaped
  rw [Bool.and_eq_true] at h ⊢
  exact ⟨h.1, decide_eq_true (Nat.le_trans (of_decide_eq_true h.2) hn)⟩
theorem lay_ints : ∀ l : List Int, PyData.canLayAll0 (ofInts l) = true
  | [] => rfl
  | i :: r => by show (PyData.canLay0 (.int i) && PyData.canLayAll0 (ofInts r)) = true; rw [lay_ints r]; rfl
theorem depth_ints : ∀ l : List Int, PyData.depthAll (ofInts l) = 0
  | [] => rfl
  | i :: r => by show max (PyData.depth (.int i)) (PyData.depthAll (ofInts r)) = 0; rw [depth_ints r]; rfl
theorem shp_int (n : Nat) (i : Int) : shp n (.int i) = true := by simp [shp, PyData.canLay0, PyData.depth]
theorem shp_row (l : List Int) : shp 1 (.tuple (ofInts l)) = true := by
  simp only [shp, PyData.canLay0, PyData.depth, lay_ints, depth_ints]
  rfl
end
end PX

end P_PXE
section P_PXL
set_option maxHeartbeats 4000000
/-! loops and cuts -/
namespace PX
open PySem L2
theorem fits_le {n : Nat} (h : n ≤ 16777216) : fits n = true := decide_eq_true h
theorem inR_of {i : Int} (h1 : -4611686018427387904 ≤ i) (h2 : i < 4611686018427387904) : inR i = true := by
  unfold inR
  rw [decide_eq_true h1, decide_eq_true h2]; rfl
theorem forS_nx {a : MG} {b : MS} {p : PyData} {ps : List PyData} {env env1 env2 : Ev} {S S1 S2 : Store} (h1 : a (.py p) env S = .ok env1 S1) (h2 : b env1 S1 = .go .nx env2 S2) : forS a b (p :: ps) env S = forS a b ps env2 S2 := by
  simp only [forS, h1, h2]
theorem forS_rt {a : MG} {b : MS} {p : PyData} {ps : List PyData} {env env1 env2 : Ev} {S S1 S2 : Store} {d : D} (h1 : a (.py p) env S = .ok env1 S1) (h2 : b env1 S1 = .go (.rt d) env2 S2) : forS a b (p :: ps) env S = .go (.rt d) env2 S2 := by
  simp only [forS, h1, h2]
theorem sSeq_nx {a b : MS} {env env1 : Ev} {S S1 : Store} (h : a env S = .go .nx env1 S1) : sSeq a b env S = b env1 S1 := by
  rw [sSeq_ap, h, seqK_nx]
/-- a loop by what holds ahead of each turn -/
theorem forS_inv {a : MG} {b : MS} (P : List PyData → Ev → Store → Prop) (hs : ∀ p ps env S, P (p :: ps) env S → ∃ env1 S1, a (.py p) env S = .ok env1 S1 ∧ ∃ env2 S2, b env1 S1 = .go .nx env2 S2 ∧ P ps env2 S2) : ∀ ps env S, P ps env S → ∃ env' S', forS a b ps env S = .go .nx env' S' ∧ P [] env' S'
  | [], env, S, h => ⟨env, S, rfl, h⟩
  | p :: ps, env, S, h => by
    obtain ⟨env1, S1, e1, env2, S2, e2, h2⟩ := hs p ps env S h
    obtain ⟨env', S', e3, h3⟩ := forS_inv P hs ps env2 S2 h2
    refine ⟨env', S', ?_, h3⟩
    simp only [forS, e1, e2, e3]
/-- a loop over a row, which changes only what is held: the row so far -/
theorem forS_fold {a : MG} {b : MS} {α : Type} (E : α → Ev → Prop) (T : Store) (f : PyData → α → α) (hs : ∀ p env x, E x env → ∃ env1, a (.py p) env T = .ok env1 T ∧ ∃ env2, b env1 T = .go .nx env2 T ∧ E (f p x) env2) : ∀ ps env x, E x env → ∃ env', forS a b ps env T = .go .nx env' T ∧ E (ps.foldl (fun x p => f p x) x) env'
  | [], env, x, h => ⟨env, rfl, h⟩
  | p :: ps, env, x, h => by
    obtain ⟨env1, e1, env2, e2, h2⟩ := hs p env x h
    obtain ⟨env', e3, h3⟩ := forS_fold E T f hs ps env2 (f p x) h2
    refine ⟨env', ?_, h3⟩
    simp only [forS, e1, e2, e3]
/-- a while by a measure -/
theorem whS_inv {c : M Bool} {b : MS} (P : Nat → Ev → Store → Prop) (Q : Ev → Store → Prop)
    (hs : ∀ n env S, P n env S → (c env S = .ok false S ∧ Q env S) ∨ (c env S = .ok true S ∧ ∃ m env2 S2, m < n ∧ b env S = .go .nx env2 S2 ∧ P m env2 S2)) : ∀ (fu n : Nat) env S, n < fu → P n env S → ∃ env' S', whS c b fu env S = .go .nx env' S' ∧ Q env' S'
  | 0, n, env, S, hn, h => absurd hn (Nat.not_lt_zero _)
  | fu + 1, n, env, S, hn, h => by
    rcases hs n env S h with ⟨e, q⟩ | ⟨e, m, env2, S2, hm, e2, h2⟩
    · exact ⟨env, S, by simp only [whS, e]; rfl, q⟩
    · obtain ⟨env', S', e3, h3⟩ := whS_inv P Q hs fu m env2 S2 (by omega) h2
      exact ⟨env', S', by simp only [whS, e, e2, e3]; rfl, h3⟩
/-- a comprehension whose parts leave the store -/
theorem lcGo_pure {n : Nat} {env : Ev} {a : MG} {mt : M Bool} {me : M D} {E : PyData → Ev} {t : PyData → Bool} {f : PyData → PyData} : ∀ (ps acc : List PyData) (T : Store), T.length = n → acc.length + ps.length ≤ 16777216 → (∀ p ∈ ps, ∀ S, a (.py p) env S = .ok (E p) S) → (∀ p ∈ ps, ∀ S, mt (E p) S = .ok (t p) S) → (∀ p ∈ ps, t p = true → ∀ S, me (E p) S = .ok (.py (f p)) S) → lcGo n env a mt me ps (T ++ [.lst acc]) = .ok (.loc n) (T ++ [.lst (acc ++ (ps.filter t).map f)])
  | [], acc, T, hn, hl, h1, h2, h3 => by simp [lcGo]
  | p :: ps, acc, T, hn, hl, h1, h2, h3 => by
    have ih := fun acc hl => lcGo_pure (t := t) (f := f) ps acc T hn hl (fun q hq => h1 q (.tail _ hq)) (fun q hq => h2 q (.tail _ hq)) (fun q hq => h3 q (.tail _ hq))
    have e1 := h1 p (.head _)
    have e2 := h2 p (.head _)
    simp only [List.length_cons] at hl
    unfold lcGo
    rw [e1]; simp only [bdN]; rw [e2]
    cases ht : t p with
    | false =>
      simp only [Bool.false_eq_true, if_false]
      rw [ih acc (by omega), List.filter_cons_of_neg (by rw [ht]; exact Bool.false_ne_true)]
    | true =>
      simp only [if_true]
      rw [h3 p (.head _) ht]
      have e4 : lcPut n (f p) (T ++ [Cell.lst acc]) = .ok () (T ++ [.lst (acc ++ [f p])]) := by
        subst hn
        have e : (T ++ [Cell.lst acc])[T.length]? = some (.lst acc) := by simp
        unfold lcPut
        simp only [e, fits_le (by omega : acc.length + 1 ≤ 16777216), if_true]
        simp
      simp only []
      rw [e4]
      simp only []
      rw [ih (acc ++ [f p]) (by rw [List.length_append]; simp only [List.length_cons, List.length_nil]; omega), List.filter_cons_of_pos ht]
      simp
theorem mLc_pure {vs : List Nat} {mi : M (List PyData)} {a : MG} {mt : M Bool} {me : M D} {env : Ev} {S : Store} (E : PyData → Ev) (t : PyData → Bool) (f : PyData → PyData) {ps : List PyData} (hi : mi env S = .ok ps S) (hl : ps.length ≤ 16777216) (h1 : ∀ p ∈ ps, ∀ S, a (.py p) (wipeE env vs) S = .ok (E p) S) (h2 : ∀ p ∈ ps, ∀ S, mt (E p) S = .ok (t p) S) (h3 : ∀ p ∈ ps, t p = true → ∀ S, me (E p) S = .ok (.py (f p)) S) : mLc vs mi a mt me env S = .ok (.loc S.length) (S ++ [.lst ((ps.filter t).map f)]) := by
  unfold mLc
  rw [hi]
  show lcGo S.length (wipeE env vs) a mt me ps (S ++ [.lst []]) = _
  rw [lcGo_pure ps [] S rfl (by simpa using hl) h1 h2 h3]
  rfl
theorem mLc_all {vs : List Nat} {mi : M (List PyData)} {a : MG} {me : M D} {env : Ev} {S : Store} (E : PyData → Ev) (f : PyData → PyData) {ps : List PyData} (hi : mi env S = .ok ps S) (hl : ps.length ≤ 16777216) (h1 : ∀ p ∈ ps, ∀ S, a (.py p) (wipeE env vs) S = .ok (E p) S) (h3 : ∀ p ∈ ps, ∀ S, me (E p) S = .ok (.py (f p)) S) : mLc vs mi a mYes me env S = .ok (.loc S.length) (S ++ [.lst (ps.map f)]) := by
  have h := mLc_pure (mt := mYes) E (fun _ => true) f hi hl h1 (fun _ _ _ => rfl) (fun p hp _ => h3 p hp)
  rw [List.filter_eq_self.mpr (fun _ _ => rfl)] at h
  exact h
/-- the same, where the parts read the store ahead -/
theorem lcGo_at {n : Nat} {env : Ev} {a : MG} {mt : M Bool} {me : M D} {E : PyData → Ev} {t : PyData → Bool} {f : PyData → PyData} : ∀ (ps acc : List PyData) (T : Store), T.length = n → acc.length + ps.length ≤ 16777216 → (∀ p ∈ ps, ∀ acc, a (.py p) env (T ++ [.lst acc]) = .ok (E p) (T ++ [.lst acc])) → (∀ p ∈ ps, ∀ acc, mt (E p) (T ++ [.lst acc]) = .ok (t p) (T ++ [.lst acc])) → (∀ p ∈ ps, t p = true → ∀ acc, me (E p) (T ++ [.lst acc]) = .ok (.py (f p)) (T ++ [.lst acc])) → lcGo n env a mt me ps (T ++ [.lst acc]) = .ok (.loc n) (T ++ [.lst (acc ++ (ps.filter t).map f)])
  | [], acc, T, hn, hl, h1, h2, h3 => by simp [lcGo]
  | p :: ps, acc, T, hn, hl, h1, h2, h3 => by
    have ih := fun acc hl => lcGo_at (t := t) (f := f) ps acc T hn hl (fun q hq => h1 q (.tail _ hq)) (fun q hq => h2 q (.tail _ hq)) (fun q hq => h3 q (.tail _ hq))
    have e1 := h1 p (.head _)
    have e2 := h2 p (.head _)
    simp only [List.length_cons] at hl
    unfold lcGo
    rw [e1]; simp only [bdN]; rw [e2]
    cases ht : t p with
    | false =>
      simp only [Bool.false_eq_true, if_false]
      rw [ih acc (by omega), List.filter_cons_of_neg (by rw [ht]; exact Bool.false_ne_true)]
    | true =>
      simp only [if_true]
      rw [h3 p (.head _) ht]
      have e4 : lcPut n (f p) (T ++ [Cell.lst acc]) = .ok () (T ++ [.lst (acc ++ [f p])]) := by
        subst hn
        have e : (T ++ [Cell.lst acc])[T.length]? = some (.lst acc) := by simp
        unfold lcPut
        simp only [e, fits_le (by omega : acc.length + 1 ≤ 16777216), if_true]
        simp
      simp only []
      rw [e4]
      simp only []
      rw [ih (acc ++ [f p]) (by rw [List.length_append]; simp only [List.length_cons, List.length_nil]; omega), List.filter_cons_of_pos ht]
      simp
theorem mLc_at {vs : List Nat} {mi : M (List PyData)} {a : MG} {mt : M Bool} {me : M D} {env : Ev} {S : Store} (E : PyData → Ev) (t : PyData → Bool) (f : PyData → PyData) {ps : List PyData} (hi : mi env S = .ok ps S) (hl : ps.length ≤ 16777216) (h1 : ∀ p ∈ ps, ∀ acc, a (.py p) (wipeE env vs) (S ++ [.lst acc]) = .ok (E p) (S ++ [.lst acc])) (h2 : ∀ p ∈ ps, ∀ acc, mt (E p) (S ++ [.lst acc]) = .ok (t p) (S ++ [.lst acc])) (h3 : ∀ p ∈ ps, t p = true → ∀ acc, me (E p) (S ++ [.lst acc]) = .ok (.py (f p)) (S ++ [.lst acc])) : mLc vs mi a mt me env S = .ok (.loc S.length) (S ++ [.lst ((ps.filter t).map f)]) := by
  unfold mLc
  rw [hi]
  show lcGo S.length (wipeE env vs) a mt me ps (S ++ [.lst []]) = _
  rw [lcGo_at ps [] S rfl (by simpa using hl) h1 h2 h3]
  rfl
/-! cuts -/
theorem cutL_to {α : Type} (l : List α) (k : Nat) : cutL l none (some (k : Int)) = l.take k := by
  unfold cutL
  rw [HT.sIx_none, HT.sIx_nat, List.drop_zero, Nat.sub_zero]
  by_cases h : k ≤ l.length
  · rw [Nat.min_eq_left h]
  · rw [Nat.min_eq_right (by omega), List.take_of_length_le (Nat.le_refl _), List.take_of_length_le (by omega)]
theorem cutL_from {α : Type} (l : List α) (k : Nat) : cutL l (some (k : Int)) none = l.drop k := by
  unfold cutL
  rw [HT.sIx_none, HT.sIx_nat, List.take_of_length_le (by rw [List.length_drop]; omega)]
  by_cases h : k ≤ l.length
  · rw [Nat.min_eq_left h]
  · rw [Nat.min_eq_right (by omega), List.drop_length, List.drop_of_length_le (by omega)]
theorem cutL_mid {α : Type} (l : List α) (k m : Nat) (h : k ≤ m) (h2 : m ≤ l.length) : cutL l (some (k : Int)) (some (m : Int)) = (l.drop k).take (m - k) := by
  unfold cutL
  rw [HT.sIx_nat, HT.sIx_nat, Nat.min_eq_left h2, Nat.min_eq_left (by omega)]
theorem atI_nat {α : Type} (l : List α) (k : Nat) (h : k < l.length) : atI l (k : Int) = some l[k] := by
  unfold atI ixN
  rw [if_pos (by omega), if_pos (by omega), Int.toNat_natCast]
  show l[k]? = _
  exact List.getElem?_eq_getElem h
theorem atI_last {α : Type} (l : List α) (h : l ≠ []) : atI l (-1) = some (l.getLast h) := by
  have h1 : 0 < l.length := List.length_pos_iff.mpr h
  unfold atI ixN
  rw [if_neg (by omega), if_pos (by omega), List.getLast_eq_getElem]
  have e : (-1 + (l.length : Int)).toNat = l.length - 1 := by omega
  rw [e]
  show l[l.length - 1]? = _
  exact List.getElem?_eq_getElem _
/-! dicts, evaluated -/
theorem mDNew_ap {env : Ev} {S : Store} : mDNew env S = .ok (.loc S.length) (S ++ [.dI []]) := rfl
def kD1 (mo mi : M D) (env : Ev) : D → Store → RS := fun v S1 => bs (mo env S1) env fun o S2 => bs (mi env S2) env fun i S3 => dPut o i v env S3
def kD2 (v : D) (mi : M D) (env : Ev) : D → Store → RS := fun o S2 => bs (mi env S2) env fun i S3 => dPut o i v env S3
def kD3 (v o : D) (env : Ev) : D → Store → RS := fun i S3 => dPut o i v env S3
theorem sDput_ap {mv mo mi : M D} {env : Ev} {S : Store} : sDput mv mo mi env S = bs (mv env S) env (kD1 mo mi env) := rfl
theorem kD1_ap {mo mi : M D} {env : Ev} {S : Store} {v : D} : kD1 mo mi env v S = bs (mo env S) env (kD2 v mi env) := rfl
theorem kD2_ap {v o : D} {mi : M D} {env : Ev} {S : Store} : kD2 v mi env o S = bs (mi env S) env (kD3 v o env) := rfl
theorem kD3_ap {v o i : D} {env : Ev} {S : Store} : kD3 v o env i S = dPut o i v env S := rfl
def kG1 (mi mx : M D) (env : Ev) : D → Store → R D := fun o S1 => if isDI o S1 then bd (mi env S1) fun i S2 => bd (mx env S2) fun x S3 => gGet2 o i x S3 else .no
def kG2 (o : D) (mx : M D) (env : Ev) : D → Store → R D := fun i S2 => bd (mx env S2) fun x S3 => gGet2 o i x S3
def kG3 (o i : D) : D → Store → R D := fun x S3 => gGet2 o i x S3
theorem mGet2_ap {mo mi mx : M D} {env : Ev} {S : Store} : mGet2 mo mi mx env S = bd (mo env S) (kG1 mi mx env) := rfl
theorem kG1_ap {mi mx : M D} {env : Ev} {S : Store} {o : D} (h : isDI o S = true) : kG1 mi mx env o S = bd (mi env S) (kG2 o mx env) := if_pos h
theorem kG2_ap {o i : D} {mx : M D} {env : Ev} {S : Store} : kG2 o mx env i S = bd (mx env S) (kG3 o i) := rfl
theorem kG3_ap {o i x : D} {S : Store} : kG3 o i x S = gGet2 o i x S := rfl
theorem at_end (S : Store) (c : Cell) : (S ++ [c])[S.length]? = some c := by simp
theorem isDI_end (S : Store) (l : List (L2.Key × PyData)) : isDI (.loc S.length) (S ++ [.dI l]) = true := by
  unfold isDI
  simp only [at_end]
theorem gGet2_end (S : Store) (l : List (L2.Key × PyData)) (k : Int) (d : PyData) : gGet2 (.loc S.length) (.py (.int k)) (.py d) (S ++ [.dI l]) = .ok (.py ((lkD l (.inl k)).getD d)) (S ++ [.dI l]) := by
  unfold gGet2
  simp only [at_end]
theorem dPut_end (S : Store) (l : List (L2.Key × PyData)) (k : Int) (d : PyData) (env : Ev) (h : l.length + 1 ≤ 16777216) : dPut (.loc S.length) (.py (.int k)) (.py d) env (S ++ [.dI l]) = .go .nx env (S ++ [.dI (putD l (.inl k) d)]) := by
  unfold dPut
  simp only [at_end, fits_le h, if_true]
  simp
theorem mIfT_ap {c a b : M Bool} {env : Ev} {S : Store} : mIfT c a b env S = bd (c env S) (kIf a b env) := rfl
end PX

end P_PXL
section P_FM1
set_option maxHeartbeats 4000000
/-! folding as operators on functions of places -/
namespace FM
abbrev Fn := Int → Int
def fold (c : Int) (f : Fn) : Fn := fun x => f x + f (c - x)
def U (d : Int) (f : Fn) : Fn := fun x => f x + f (x - d)
def sh (s : Int) (f : Fn) : Fn := fun x => f (x - s)
def at1 (a : Int) : Fn := fun x => if x = a then 1 else 0
def sc (k : Int) (f : Fn) : Fn := fun x => k * f x
def iabs (i : Int) : Int := if i < 0 then -i else i
def steps : List Int → List Int
  | a :: b :: r => iabs (b - a) :: steps (b :: r)
  | _ => []
/-- a row -/
def folds (f : Fn) (r : List Int) : Fn := r.foldl (fun g c => fold c g) f
def Us (f : Fn) (m : List Int) : Fn := m.foldl (fun g d => U d g) f
theorem U_comm (d e : Int) (f : Fn) : U d (U e f) = U e (U d f) := by
  funext x
  simp only [U]
  have : x - d - e = x - e - d := by omega
  rw [this]; omega
theorem sh_U (s d : Int) (f : Fn) : U d (sh s f) = sh s (U d f) := by
  funext x
  simp only [U, sh]
  have : x - d - s = x - s - d := by omega
  rw [this]
theorem sh_sh (s u : Int) (f : Fn) : sh s (sh u f) = sh (s + u) f := by
  funext x
  simp only [sh]
  congr 1; omega
theorem sh_0 (f : Fn) : sh 0 f = f := by funext x; simp [sh]
theorem Us_sh (s : Int) : ∀ (m : List Int) (f : Fn), Us (sh s f) m = sh s (Us f m)
  | [], f => rfl
  | d :: m, f => by
    show Us (U d (sh s f)) m = sh s (Us (U d f) m)
    rw [sh_U, Us_sh s m]
theorem Us_U (d : Int) : ∀ (m : List Int) (f : Fn), Us (U d f) m = U d (Us f m)
  | [], f => rfl
  | e :: m, f => by
    show Us (U e (U d f)) m = U d (Us (U e f) m)
    rw [U_comm, Us_U d m]
theorem Us_perm {m n : List Int} (h : m.Perm n) : ∀ f : Fn, Us f m = Us f n := by
  induction h with
  | nil => intro f; rfl
  | cons d _ ih => intro f; exact ih _
  | swap d e l => intro f; show Us (U d (U e f)) l = Us (U e (U d f)) l; rw [U_comm]
  | trans _ _ ih1 ih2 => intro f; exact (ih1 f).trans (ih2 f)
/-- what lies alike on both sides of c -/
def Sym (c : Int) (f : Fn) : Prop := ∀ x, f (c - x) = f x
theorem fold_sym (c : Int) (f : Fn) : Sym c (fold c f) := by
  intro x
  simp only [fold]
  have : c - (c - x) = x := by omega
  rw [this]; omega
/-- the next crease, behind what lies alike on both sides of c -/
theorem fold_next {c d : Int} {f : Fn} (h : Sym c f) : fold d f = if d - c < 0 then sh (d - c) (U (iabs (d - c)) f) else U (iabs (d - c)) f := by
  by_cases hn : d - c < 0
  · rw [if_pos hn]
    funext x
    simp only [fold, sh, U, iabs, if_pos hn]
    have e1 : x - (d - c) - -(d - c) = x := by omega
    have e2 : f (d - x) = f (x - (d - c)) := by
      rw [← h (x - (d - c))]; congr 1; omega
    rw [e1, e2]; omega
  · rw [if_neg hn]
    funext x
    simp only [fold, U, iabs, if_neg hn]
    have e2 : f (d - x) = f (x - (d - c)) := by
      rw [← h (x - (d - c))]; congr 1; omega
    rw [e2]
/-- by how much a row moves things back -/
def back : List Int → Int
  | a :: b :: r => (if b - a < 0 then b - a else 0) + back (b :: r)
  | _ => 0
theorem folds_eq : ∀ (r : List Int) (c : Int) (f : Fn), Sym c f → folds f r = sh (back (c :: r)) (Us f (steps (c :: r)))
  | [], c, f, h => by show f = sh 0 f; rw [sh_0]
  | d :: r, c, f, h => by
    show folds (fold d f) r = _
    rw [folds_eq r d (fold d f) (fold_sym d f)]
    show _ = sh ((if d - c < 0 then d - c else 0) + back (d :: r)) (Us (U (iabs (d - c)) f) (steps (d :: r)))
    rw [fold_next h]
    by_cases hn : d - c < 0
    · rw [if_pos hn, if_pos hn, Us_sh, sh_sh]
      congr 1; omega
    · rw [if_neg hn, if_neg hn]
      congr 1; omega
theorem folds_cons (c : Int) (r : List Int) (f : Fn) : folds f (c :: r) = sh (back (c :: r)) (Us (fold c f) (steps (c :: r))) := folds_eq r c (fold c f) (fold_sym c f)
def lastD (c : Int) (r : List Int) : Int := (c :: r).getLast (by simp)
theorem back_val : ∀ (r : List Int) (c : Int), 2 * back (c :: r) = (c :: r).getLast (by simp) - c - (steps (c :: r)).sum
  | [], c => by simp [back, steps]
  | d :: r, c => by
    have ih := back_val r d
    show 2 * ((if d - c < 0 then d - c else 0) + back (d :: r)) = _ - c - (iabs (d - c) + (steps (d :: r)).sum)
    have e : (c :: d :: r).getLast (by simp) = (d :: r).getLast (by simp) := List.getLast_cons (by simp)
    rw [e]
    unfold iabs
    split <;> omega
/-- one drop -/
theorem fold_at (c p : Int) : fold c (at1 p) = U (iabs (c - 2 * p)) (at1 (if c - 2 * p < 0 then c - p else p)) := by
  funext x
  simp only [fold, U, at1, iabs]
  by_cases h : c - 2 * p < 0
  · simp only [if_pos h]
    by_cases h1 : x = p
    · by_cases h2 : x = c - p
      · omega
      · rw [if_pos h1, if_neg (by omega), if_neg (by omega), if_pos (by omega)]; omega
    · by_cases h2 : x = c - p
      · rw [if_neg h1, if_pos (by omega), if_pos h2, if_neg (by omega)]; omega
      · rw [if_neg h1, if_neg (by omega), if_neg (by omega), if_neg (by omega)]
  · simp only [if_neg h]
    by_cases h1 : x = p
    · by_cases h2 : c - x = p
      · rw [if_pos h1, if_pos h2, if_pos (by omega)]
      · rw [if_pos h1, if_neg h2, if_neg (by omega)]
    · by_cases h2 : c - x = p
      · rw [if_neg h1, if_pos h2, if_pos (by omega)]
      · rw [if_neg h1, if_neg h2, if_neg (by omega)]
/-- the print of one drop -/
theorem print_eq (c : Int) (r : List Int) (p : Int) : folds (at1 p) (c :: r) = Us (at1 (back (c :: r) + (if c - 2 * p < 0 then c - p else p))) (iabs (c - 2 * p) :: steps (c :: r)) := by
  rw [folds_cons, fold_at]
  show sh _ (Us (U _ _) _) = Us (U _ _) _
  rw [← Us_sh, ← sh_U]
  congr 2
  funext x
  simp only [sh, at1]
  by_cases h : x - back (c :: r) = (if c - 2 * p < 0 then c - p else p)
  · rw [if_pos h, if_pos (by omega)]
  · rw [if_neg h, if_neg (by omega)]
/-! scalars -/
theorem sc_U (k d : Int) (f : Fn) : U d (sc k f) = sc k (U d f) := by funext x; simp only [U, sc]; rw [Int.mul_add]
theorem Us_sc (k : Int) : ∀ (m : List Int) (f : Fn), Us (sc k f) m = sc k (Us f m)
  | [], f => rfl
  | d :: m, f => by
    show Us (U d (sc k f)) m = sc k (Us (U d f) m)
    rw [sc_U, Us_sc k m]
theorem U_0 (f : Fn) : U 0 f = sc 2 f := by funext x; simp only [U, sc, Int.sub_zero]; omega
theorem sc_sc (k j : Int) (f : Fn) : sc k (sc j f) = sc (k * j) f := by funext x; simp only [sc]; rw [Int.mul_assoc]
def zeros (m : List Int) : Nat := (m.filter (· = 0)).length
def pos (m : List Int) : List Int := m.filter (· ≠ 0)
theorem Us_pos : ∀ (m : List Int) (f : Fn), Us f m = sc (2 ^ zeros m) (Us f (pos m))
  | [], f => by funext x; simp [Us, sc, zeros, pos]
  | d :: m, f => by
    by_cases h : d = 0
    · subst h
      show Us (U 0 f) m = _
      rw [U_0, Us_sc, Us_pos m, sc_sc]
      have e1 : zeros (0 :: m) = zeros m + 1 := by simp [zeros]
      have e2 : pos (0 :: m) = pos m := by simp [pos]
      rw [e1, e2, Int.pow_succ, Int.mul_comm]
    · show Us (U d f) m = _
      rw [Us_pos m]
      have e1 : zeros (d :: m) = zeros m := by simp [zeros, h]
      have e2 : pos (d :: m) = d :: pos m := by simp [pos, h]
      rw [e1, e2]; rfl
end FM

end P_FM1
section P_FM2
set_option maxHeartbeats 4000000
namespace FM
/-- nothing below a, one at a -/
structure Beg (a : Int) (f : Fn) : Prop where
  low : ∀ x, x < a → f x = 0
  one : f a = 1
  nn : ∀ x, 0 ≤ f x
theorem Beg.at1 (a : Int) : Beg a (at1 a) := ⟨fun x h => if_neg (by omega), if_pos rfl, fun x => by unfold FM.at1; split <;> omega⟩
theorem Beg.U {a d : Int} {f : Fn} (h : Beg a f) (hd : 0 < d) : Beg a (U d f) := by
  refine ⟨fun x hx => ?_, ?_, fun x => ?_⟩
  · simp only [FM.U]; rw [h.low x hx, h.low (x - d) (by omega)]; rfl
  · simp only [FM.U]; rw [h.one, h.low (a - d) (by omega)]; rfl
  · simp only [FM.U]; have := h.nn x; have := h.nn (x - d); omega
theorem Beg.Us {a : Int} : ∀ (m : List Int) {f : Fn}, Beg a f → (∀ d ∈ m, 0 < d) → Beg a (Us f m)
  | [], f, h, hm => h
  | d :: m, f, h, hm => Beg.Us m (h.U (hm d (.head _))) fun e he => hm e (.tail _ he)
/-- nothing between a and a + m -/
def Gap (a m : Int) (f : Fn) : Prop := ∀ y, 0 < y → y < m → f (a + y) = 0
theorem Gap.U {a m d : Int} {f : Fn} (h : Gap a m f) (b : Beg a f) (hd : m ≤ d) : Gap a m (U d f) := by
  intro y h1 h2
  simp only [FM.U]
  rw [h y h1 h2, b.low (a + y - d) (by omega)]; rfl
theorem Gap.Us {a m : Int} (h0 : 0 < m) : ∀ (l : List Int) {f : Fn}, Gap a m f → Beg a f → (∀ d ∈ l, m ≤ d) → Gap a m (Us f l)
  | [], f, h, b, hl => h
  | d :: l, f, h, b, hl => Gap.Us h0 l (h.U b (hl d (.head _))) (b.U (by have := hl d (.head _); omega)) fun e he => hl e (.tail _ he)
theorem Gap.at1 (a m : Int) : Gap a m (at1 a) := fun y h1 h2 => if_neg (by omega)
theorem cancel {a d : Int} {f g : Fn} (hd : 0 < d) (hf : ∀ x, x < a → f x = 0) (hg : ∀ x, x < a → g x = 0) (h : U d f = U d g) : f = g := by
  have key : ∀ n : Nat, ∀ x, x < a + n * d → f x = g x := by
    intro n
    induction n with
    | zero => intro x hx; rw [hf x (by simpa using hx), hg x (by simpa using hx)]
    | succ n ih =>
      intro x hx
      have e := congrFun h x
      simp only [FM.U] at e
      have e2 : (((n + 1 : Nat) : Int)) * d = (n : Int) * d + d := by rw [Int.natCast_add, Int.add_mul]; simp
      have := ih (x - d) (by omega)
      omega
  funext x
  refine key (x - a + 1).toNat x ?_
  by_cases hx : 0 ≤ x - a
  · have h1 : ((x - a + 1).toNat : Int) = x - a + 1 := by omega
    rw [h1]
    have : (x - a + 1) * 1 ≤ (x - a + 1) * d := Int.mul_le_mul_of_nonneg_left (by omega) (by omega)
    omega
  · have h1 : (0 : Int) ≤ ((x - a + 1).toNat : Int) * d := Int.mul_nonneg (by omega) (by omega)
    omega
theorem least : ∀ m : List Int, m ≠ [] → ∃ a r, m.Perm (a :: r) ∧ ∀ d ∈ r, a ≤ d
  | [], h => absurd rfl h
  | [a], _ => ⟨a, [], List.Perm.refl _, fun _ h => nomatch h⟩
  | a :: b :: m, _ => by
    obtain ⟨c, r, hp, hr⟩ := least (b :: m) (by simp)
    by_cases h : a ≤ c
    · exact ⟨a, c :: r, hp.cons a, fun d hd => by
        rcases List.mem_cons.mp hd with e | e
        · omega
        · have := hr d e; omega⟩
    · exact ⟨c, a :: r, (hp.cons a).trans (List.Perm.swap c a r), fun d hd => by
        rcases List.mem_cons.mp hd with e | e
        · omega
        · exact hr d e⟩
theorem uniq0 (a : Int) : ∀ (n : Nat) (M N : List Int), M.length = n → (∀ d ∈ M, 0 < d) → (∀ d ∈ N, 0 < d) → Us (at1 a) M = Us (at1 a) N → M.Perm N := by
  intro n
  induction n with
  | zero =>
    intro M N hl hM hN h
    have : M = [] := List.length_eq_zero_iff.mp hl
    subst this
    by_cases hN0 : N = []
    · subst hN0; exact List.Perm.refl _
    · obtain ⟨b, r, hp, hr⟩ := least N hN0
      have hb : 0 < b := hN b (hp.mem_iff.mpr (.head _))
      rw [Us_perm hp] at h
      have e := congrFun h (a + b)
      have e1 : Us (at1 a) [] (a + b) = 0 := if_neg (by omega)
      have e2 : Us (at1 a) (b :: r) = U b (Us (at1 a) r) := Us_U b r _
      have bg := Beg.Us r (Beg.at1 a) fun d hd => hN d (hp.mem_iff.mpr (.tail _ hd))
      rw [e1, e2] at e
      simp only [FM.U] at e
      have h1 := bg.nn (a + b)
      have h2 : a + b - b = a := by omega
      rw [h2, bg.one] at e
      omega
  | succ n ih =>
    intro M N hl hM hN h
    have hM0 : M ≠ [] := by intro e; subst e; simp at hl
    obtain ⟨m, r, hp, hr⟩ := least M hM0
    have hm : 0 < m := hM m (hp.mem_iff.mpr (.head _))
    have hr0 : ∀ d ∈ r, 0 < d := fun d hd => hM d (hp.mem_iff.mpr (.tail _ hd))
    rw [Us_perm hp] at h
    have e1 : Us (at1 a) (m :: r) = U m (Us (at1 a) r) := Us_U m r _
    have b1 := Beg.Us r (Beg.at1 a) hr0
    by_cases hN0 : N = []
    · subst hN0
      have e := congrFun h (a + m)
      have e2 : Us (at1 a) [] (a + m) = 0 := if_neg (by omega)
      rw [e1, e2] at e
      simp only [FM.U] at e
      have h1 := b1.nn (a + m)
      have h2 : a + m - m = a := by omega
      rw [h2, b1.one] at e
      omega
    · obtain ⟨k, s, hq, hs⟩ := least N hN0
      have hk : 0 < k := hN k (hq.mem_iff.mpr (.head _))
      have hs0 : ∀ d ∈ s, 0 < d := fun d hd => hN d (hq.mem_iff.mpr (.tail _ hd))
      rw [Us_perm hq] at h
      have e2 : Us (at1 a) (k :: s) = U k (Us (at1 a) s) := Us_U k s _
      have b2 := Beg.Us s (Beg.at1 a) hs0
      have big : ∀ {m : Int} {f : Fn}, Beg a f → 0 < m → 1 ≤ U m f (a + m) := by
        intro m f b hm
        simp only [FM.U]
        have h1 := b.nn (a + m)
        have h2 : a + m - m = a := by omega
        rw [h2, b.one]; omega
      have hmk : m = k := by
        by_cases h1 : m < k
        · have g : Gap a k (Us (at1 a) (k :: s)) := Gap.Us hk (k :: s) (Gap.at1 a k) (Beg.at1 a) fun d hd => by
            rcases List.mem_cons.mp hd with e | e
            · omega
            · exact hs d e
          have e := g m hm h1
          rw [← h, e1] at e
          have := big b1 hm
          omega
        · by_cases h2 : k < m
          · have g : Gap a m (Us (at1 a) (m :: r)) := Gap.Us hm (m :: r) (Gap.at1 a m) (Beg.at1 a) fun d hd => by
              rcases List.mem_cons.mp hd with e | e
              · omega
              · exact hr d e
            have e := g k hk h2
            rw [h, e2] at e
            have := big b2 hk
            omega
          · omega
      subst hmk
      rw [e1, e2] at h
      have h3 := cancel hm b1.low b2.low h
      have hlr : r.length = n := by have := hp.length_eq; simp at this; omega
      exact hp.trans (((ih r s hlr hr0 hs0 h3).cons m).trans hq.symm)
theorem uniq {M N : List Int} {a b k j : Int} (hM : ∀ d ∈ M, 0 < d) (hN : ∀ d ∈ N, 0 < d) (hk : 0 < k) (hj : 0 < j) (h : sc k (Us (at1 a) M) = sc j (Us (at1 b) N)) : a = b ∧ k = j ∧ M.Perm N := by
  have b1 := Beg.Us M (Beg.at1 a) hM
  have b2 := Beg.Us N (Beg.at1 b) hN
  have hab : a = b := by
    by_cases h1 : a < b
    · have e := congrFun h a
      simp only [sc] at e
      rw [b1.one, b2.low a h1] at e
      omega
    · by_cases h2 : b < a
      · have e := congrFun h b
        simp only [sc] at e
        rw [b2.one, b1.low b h2] at e
        omega
      · omega
  subst hab
  have hkj : k = j := by
    have e := congrFun h a
    simp only [sc] at e
    rw [b1.one, b2.one] at e
    omega
  subst hkj
  refine ⟨rfl, rfl, uniq0 a M.length M N rfl hM hN ?_⟩
  funext x
  have e := congrFun h x
  simp only [sc] at e
  exact Int.eq_of_mul_eq_mul_left (by omega) e
theorem iabs_nn (i : Int) : 0 ≤ iabs i := by unfold iabs; split <;> omega
theorem steps_nn : ∀ (r : List Int), ∀ d ∈ steps r, 0 ≤ d
  | [], d, h => by cases h
  | [a], d, h => by cases h
  | a :: b :: r, d, h => by
    rcases List.mem_cons.mp h with e | e
    · rw [e]; exact iabs_nn _
    · exact steps_nn (b :: r) d e
theorem pos_pos {m : List Int} (h : ∀ d ∈ m, 0 ≤ d) : ∀ d ∈ pos m, 0 < d := by
  intro d hd
  obtain ⟨h1, h2⟩ := List.mem_filter.mp hd
  have := h d h1
  have := of_decide_eq_true h2
  omega
theorem pow_pos2 (n : Nat) : (0 : Int) < 2 ^ n := Int.pow_pos (by decide)
/-- of two prints that are alike but for a factor -/
theorem prints_uniq {c e p : Int} {r s : List Int} {k j : Int} (hk : 0 < k) (hj : 0 < j) (h : sc k (folds (at1 p) (c :: r)) = sc j (folds (at1 p) (e :: s))) :
    back (c :: r) + (if c - 2 * p < 0 then c - p else p) = back (e :: s) + (if e - 2 * p < 0 then e - p else p) ∧ (pos (iabs (c - 2 * p) :: steps (c :: r))).Perm (pos (iabs (e - 2 * p) :: steps (e :: s))) := by
  rw [print_eq, print_eq, Us_pos, Us_pos (iabs (e - 2 * p) :: steps (e :: s)), sc_sc, sc_sc] at h
  have nn : ∀ (c : Int) (r : List Int), ∀ d ∈ iabs (c - 2 * p) :: steps (c :: r), 0 ≤ d := fun c r d hd => by
    rcases List.mem_cons.mp hd with e | e
    · rw [e]; exact iabs_nn _
    · exact steps_nn _ d e
  have u := uniq (pos_pos (nn c r)) (pos_pos (nn e s)) (Int.mul_pos hk (pow_pos2 _)) (Int.mul_pos hj (pow_pos2 _)) h
  exact ⟨u.1, u.2.2⟩
end FM

end P_FM2
section P_FM3
set_option maxHeartbeats 4000000
namespace FM
def ind (a v : Int) : Int := if a = v then 1 else 0
theorem ind_s {a v : Int} (h : a = v) : ind a v = 1 := if_pos h
theorem ind_n {a v : Int} (h : a ≠ v) : ind a v = 0 := if_neg h
theorem ind_01 (a v : Int) : ind a v = 0 ∨ ind a v = 1 := by unfold ind; split <;> simp
theorem abs_cases (c : Int) : (iabs c = c ∧ 0 ≤ c) ∨ (iabs c = -c ∧ c < 0) := by unfold iabs; split <;> omega
theorem first_eq {c e : Int} (h : ∀ v, v ≠ 0 → ind (iabs c) v + ind (iabs (e - 2)) v = ind (iabs e) v + ind (iabs (c - 2)) v) : c = e := by
  have ca := abs_cases c
  have cb := abs_cases (c - 2)
  have ea := abs_cases e
  have eb := abs_cases (e - 2)
  generalize ha0 : iabs c = a0 at *
  generalize ha1 : iabs (c - 2) = a1 at *
  generalize hb0 : iabs e = b0 at *
  generalize hb1 : iabs (e - 2) = b1 at *
  by_cases z : a0 = 0
  · -- c = 0
    have h2 := h 2 (by decide)
    have h4 := h 4 (by decide)
    rw [ind_n (by omega : a0 ≠ 2), ind_s (by omega : a1 = 2)] at h2
    rw [ind_n (by omega : a0 ≠ 4), ind_n (by omega : a1 ≠ 4)] at h4
    by_cases y : b1 = 2
    · by_cases x : e = 4
      · rw [ind_s (by omega : b0 = 4), ind_n (by omega : b1 ≠ 4)] at h4; omega
      · omega
    · rw [ind_n y] at h2
      have := ind_01 b0 2
      omega
  · have h0 := h a0 z
    rw [ind_s rfl] at h0
    by_cases y : a1 = a0
    · -- c = 1
      rw [ind_s y] at h0
      by_cases w : b0 = b1
      · omega
      · exfalso
        by_cases x : b0 = 0
        · have h2 := h 2 (by decide)
          rw [ind_n (by omega : a0 ≠ 2), ind_s (by omega : b1 = 2), ind_n (by omega : b0 ≠ 2), ind_n (by omega : a1 ≠ 2)] at h2
          omega
        · have h3 := h b0 x
          rw [ind_n (fun q => w q.symm), ind_s rfl] at h3
          by_cases q : a0 = b0
          · rw [ind_n (show b1 ≠ a0 by omega), ind_s (show b0 = a0 by omega)] at h0
            omega
          · rw [ind_n q, ind_n (show a1 ≠ b0 by omega)] at h3
            omega
    · rw [ind_n y] at h0
      have hb : b0 = a0 := by
        by_cases q : b0 = a0
        · exact q
        · rw [ind_n q] at h0
          have := ind_01 b1 a0
          omega
      by_cases x : a1 = 0
      · -- c = 2
        by_cases q : e = 2
        · omega
        · exfalso
          have h4 := h 4 (by decide)
          rw [ind_n (by omega : a0 ≠ 4), ind_s (by omega : b1 = 4), ind_n (by omega : b0 ≠ 4), ind_n (by omega : a1 ≠ 4)] at h4
          omega
      · have h3 := h a1 x
        rw [ind_n (fun q => y q.symm), ind_n (show b0 ≠ a1 by omega), ind_s rfl] at h3
        have hb1' : b1 = a1 := by
          by_cases q : b1 = a1
          · exact q
          · rw [ind_n q] at h3; omega
        omega
theorem pos_count (m : List Int) {v : Int} (hv : v ≠ 0) : (pos m).count v = m.count v := by
  unfold pos
  rw [List.count_filter]
  exact decide_eq_true hv
theorem count_cons_int (a v : Int) (m : List Int) : (((a :: m).count v : Nat) : Int) = ind a v + (m.count v : Int) := by
  rw [List.count_cons]
  unfold ind
  by_cases h : a = v
  · subst h; simp; omega
  · simp [h]
theorem sum_pos : ∀ m : List Int, (pos m).sum = m.sum
  | [] => rfl
  | d :: m => by
    by_cases h : d = 0
    · subst h
      have : pos (0 :: m) = pos m := by simp [pos]
      rw [this, sum_pos m]; simp
    · have : pos (d :: m) = d :: pos m := by simp [pos, h]
      rw [this, List.sum_cons, List.sum_cons, sum_pos m]
theorem sum_perm {m n : List Int} (h : m.Perm n) : m.sum = n.sum := by
  induction h with
  | nil => rfl
  | cons d _ ih => rw [List.sum_cons, List.sum_cons, ih]
  | swap d e l => simp only [List.sum_cons]; omega
  | trans _ _ a b => rw [a, b]
/-- rows that double each other: the same but for steps of 0 -/
structure Dbl (c : Int) (r : List Int) (e : Int) (s : List Int) : Prop where
  first : c = e
  last : (c :: r).getLast (by simp) = (e :: s).getLast (by simp)
  st : (pos (steps (c :: r))).Perm (pos (steps (e :: s)))
theorem classify {c e : Int} {r s : List Int} (h : ∀ p, p = 0 ∨ p = 1 → ∃ k j : Int, 0 < k ∧ 0 < j ∧ sc k (folds (at1 p) (c :: r)) = sc j (folds (at1 p) (e :: s))) : Dbl c r e s := by
  obtain ⟨k0, j0, hk0, hj0, h0⟩ := h 0 (.inl rfl)
  obtain ⟨k1, j1, hk1, hj1, h1⟩ := h 1 (.inr rfl)
  have u0 := prints_uniq hk0 hj0 h0
  have u1 := prints_uniq hk1 hj1 h1
  have q0 : ∀ v, v ≠ 0 → ind (iabs c) v + ((steps (c :: r)).count v : Int) = ind (iabs e) v + ((steps (e :: s)).count v : Int) := by
    intro v hv
    have := u0.2.count_eq v
    rw [pos_count _ hv, pos_count _ hv] at this
    rw [← count_cons_int, ← count_cons_int]
    have e1 : c - 2 * 0 = c := by omega
    have e2 : e - 2 * 0 = e := by omega
    rw [e1, e2] at this
    rw [this]
  have q1 : ∀ v, v ≠ 0 → ind (iabs (c - 2)) v + ((steps (c :: r)).count v : Int) = ind (iabs (e - 2)) v + ((steps (e :: s)).count v : Int) := by
    intro v hv
    have := u1.2.count_eq v
    rw [pos_count _ hv, pos_count _ hv] at this
    rw [← count_cons_int, ← count_cons_int]
    have e1 : c - 2 * 1 = c - 2 := by omega
    have e2 : e - 2 * 1 = e - 2 := by omega
    rw [e1, e2] at this
    rw [this]
  have hce : c = e := first_eq fun v hv => by have := q0 v hv; have := q1 v hv; omega
  subst hce
  have hst : (pos (steps (c :: r))).Perm (pos (steps (c :: s))) := by
    rw [List.perm_iff_count]
    intro v
    by_cases hv : v = 0
    · subst hv
      have z : ∀ m : List Int, (pos m).count 0 = 0 := fun m => List.count_eq_zero.mpr fun hm => by
        have := (List.mem_filter.mp hm).2
        simp at this
      rw [z, z]
    · rw [pos_count _ hv, pos_count _ hv]
      have := q0 v hv
      omega
  refine ⟨rfl, ?_, hst⟩
  have hb : back (c :: r) = back (c :: s) := by have := u0.1; omega
  have b1 := back_val r c
  have b2 := back_val s c
  have hs : (steps (c :: r)).sum = (steps (c :: s)).sum := by rw [← sum_pos, ← sum_pos (steps (c :: s)), sum_perm hst]
  omega
theorem zeros_pos : ∀ m : List Int, zeros m + (pos m).length = m.length
  | [] => rfl
  | d :: m => by
    have ih := zeros_pos m
    by_cases h : d = 0
    · subst h
      have e1 : pos (0 :: m) = pos m := by simp [pos]
      have e2 : zeros (0 :: m) = zeros m + 1 := by simp [zeros]
      rw [e1, e2, List.length_cons]; omega
    · have e1 : pos (d :: m) = d :: pos m := by simp [pos, h]
      have e2 : zeros (d :: m) = zeros m := by simp [zeros, h]
      rw [e1, e2, List.length_cons, List.length_cons]; omega
theorem steps_len : ∀ (c : Int) (r : List Int), (steps (c :: r)).length = r.length
  | c, [] => rfl
  | c, d :: r => by show (steps (d :: r)).length + 1 = _; rw [steps_len d r]; rfl
/-- what doubles does so to all strips -/
theorem doubles {c e : Int} {r s : List Int} (h : Dbl c r e s) (hl : s.length ≤ r.length) (f : Fn) : folds f (c :: r) = sc (2 ^ (r.length - s.length)) (folds f (e :: s)) := by
  obtain ⟨h1, h2, h3⟩ := h
  subst h1
  have b1 := back_val r c
  have b2 := back_val s c
  have hs : (steps (c :: r)).sum = (steps (c :: s)).sum := by rw [← sum_pos, ← sum_pos (steps (c :: s)), sum_perm h3]
  have hb : back (c :: r) = back (c :: s) := by omega
  rw [folds_cons, folds_cons, hb, Us_pos, Us_pos (steps (c :: s)), Us_perm h3]
  have z1 := zeros_pos (steps (c :: r))
  have z2 := zeros_pos (steps (c :: s))
  rw [steps_len] at z1 z2
  have hp := h3.length_eq
  have hz : zeros (steps (c :: r)) = (r.length - s.length) + zeros (steps (c :: s)) := by omega
  rw [hz, Int.pow_add]
  funext x
  simp only [sh, sc]
  rw [Int.mul_assoc]
end FM

end P_FM3
section P_FM4
set_option maxHeartbeats 4000000
/-! strips: pairs of a place and its drops, places ascending; tables: pairs in any order, places once -/
namespace FM
abbrev Pr := Int × Int
def cnt : List Pr → Fn
  | [], _ => 0
  | (p, d) :: s, x => (if p = x then d else 0) + cnt s x
structure Ok (s : List Pr) : Prop where
  asc : s.Pairwise (fun a b => a.1 < b.1)
  pos : ∀ q ∈ s, 0 < q.2
structure Str (s : List Pr) (f : Fn) : Prop extends Ok s where
  eq : cnt s = f
theorem Ok.tail {q : Pr} {s : List Pr} (h : Ok (q :: s)) : Ok s := ⟨(List.pairwise_cons.mp h.asc).2, fun p hp => h.pos p (.tail _ hp)⟩
theorem cnt_low {s : List Pr} {x : Int} (h : ∀ q ∈ s, x < q.1) : cnt s x = 0 := by
  induction s with
  | nil => rfl
  | cons q s ih =>
    obtain ⟨p, d⟩ := q
    have := h (p, d) (.head _)
    simp only [cnt]
    rw [if_neg (by simp at this; omega), ih fun q hq => h q (.tail _ hq)]; rfl
theorem strip_eq : ∀ {s t : List Pr}, Ok s → Ok t → cnt s = cnt t → s = t
  | [], [], _, _, _ => rfl
  | [], (p, d) :: t, _, ht, h => by
    have e := congrFun h p
    simp only [cnt, if_true] at e
    rw [cnt_low (s := t) fun q hq => (List.pairwise_cons.mp ht.asc).1 q hq] at e
    have := ht.pos (p, d) (.head _)
    simp at this; omega
  | (p, d) :: s, [], hs, _, h => by
    have e := congrFun h p
    simp only [cnt, if_true] at e
    rw [cnt_low (s := s) fun q hq => (List.pairwise_cons.mp hs.asc).1 q hq] at e
    have := hs.pos (p, d) (.head _)
    simp at this; omega
  | (p, d) :: s, (q, e) :: t, hs, ht, h => by
    have hs1 := fun x hx => (List.pairwise_cons.mp hs.asc).1 x hx
    have ht1 := fun x hx => (List.pairwise_cons.mp ht.asc).1 x hx
    have hd := hs.pos (p, d) (.head _)
    have he := ht.pos (q, e) (.head _)
    simp only at hd he
    have hp := congrFun h p
    have hq := congrFun h q
    simp only [cnt, if_true] at hp hq
    rw [cnt_low (s := s) hs1] at hp
    rw [cnt_low (s := t) ht1] at hq
    have hpq : p = q := by
      by_cases h1 : p < q
      · rw [if_neg (by omega), cnt_low (s := t) fun x hx => by have := ht1 x hx; simp at this; omega] at hp
        omega
      · by_cases h2 : q < p
        · rw [if_neg (by omega), cnt_low (s := s) fun x hx => by have := hs1 x hx; simp at this; omega] at hq
          omega
        · omega
    subst hpq
    rw [if_pos rfl, cnt_low (s := t) ht1] at hp
    have hde : d = e := by omega
    subst hde
    rw [strip_eq hs.tail ht.tail (by
      funext x
      have := congrFun h x
      simp only [cnt] at this
      omega)]
theorem Str.uniq {s t : List Pr} {f : Fn} (h : Str s f) (h2 : Str t f) : s = t := strip_eq h.toOk h2.toOk (h.eq.trans h2.eq.symm)
theorem Str.iff {s t : List Pr} {f g : Fn} (h : Str s f) (h2 : Str t g) : s = t ↔ f = g :=
  ⟨fun e => by rw [← h.eq, ← h2.eq, e], fun e => by subst e; exact h.uniq h2⟩
/-! tables -/
def get (D : List Pr) (k : Int) : Int := match D.find? (fun kv => decide (kv.1 = k)) with
  | some kv => kv.2
  | none => 0
def put (D : List Pr) (k v : Int) : List Pr :=
  if (D.any fun kv => decide (kv.1 = k)) = true then D.map (fun kv => if kv.1 = k then (kv.1, v) else kv) else D ++ [(k, v)]
structure Tab (D : List Pr) : Prop where
  nd : (D.map (·.1)).Nodup
  pos : ∀ q ∈ D, 0 < q.2
theorem Tab.nil : Tab [] := ⟨List.nodup_nil, fun _ h => nomatch h⟩
theorem any_iff (D : List Pr) (k : Int) : (D.any fun kv => decide (kv.1 = k)) = true ↔ k ∈ D.map (·.1) := by
  rw [List.any_eq_true]
  constructor
  · rintro ⟨q, hq, e⟩; exact List.mem_map.mpr ⟨q, hq, of_decide_eq_true e⟩
  · intro h; obtain ⟨q, hq, e⟩ := List.mem_map.mp h; exact ⟨q, hq, decide_eq_true e⟩
theorem keys_rep (D : List Pr) (k v : Int) : (D.map (fun kv => if kv.1 = k then (kv.1, v) else kv)).map (·.1) = D.map (·.1) := by
  rw [List.map_map]
  apply List.map_congr_left
  intro q hq
  show (if q.1 = k then (q.1, v) else q).1 = q.1
  split <;> rfl
theorem Tab.put {D : List Pr} (h : Tab D) (k : Int) {v : Int} (hv : 0 < v) : Tab (put D k v) := by
  unfold FM.put
  split
  · refine ⟨by rw [keys_rep]; exact h.nd, fun q hq => ?_⟩
    obtain ⟨p, hp, e⟩ := List.mem_map.mp hq
    by_cases hk : p.1 = k
    · rw [if_pos hk] at e; subst e; exact hv
    · rw [if_neg hk] at e; subst e; exact h.pos p hp
  · rename_i hn
    rw [any_iff] at hn
    refine ⟨?_, fun q hq => ?_⟩
    · rw [List.map_append]
      refine List.nodup_append.mpr ⟨h.nd, by simp, fun a ha b hb => ?_⟩
      simp at hb
      subst hb
      intro e; subst e; exact hn ha
    · rcases List.mem_append.mp hq with e | e
      · exact h.pos q e
      · rw [List.mem_singleton.mp e]; exact hv
theorem put_len (D : List Pr) (k v : Int) : (put D k v).length ≤ D.length + 1 := by
  unfold put
  split
  · rw [List.length_map]; omega
  · rw [List.length_append]; simp
theorem get_cons_pos {q : Pr} {D : List Pr} {k : Int} (h : q.1 = k) : get (q :: D) k = q.2 := by unfold get; rw [List.find?_cons_of_pos (by simpa using h)]
theorem get_cons_neg {q : Pr} {D : List Pr} {k : Int} (h : q.1 ≠ k) : get (q :: D) k = get D k := by unfold get; rw [List.find?_cons_of_neg (by simpa using h)]
theorem get_no {D : List Pr} {k : Int} (h : k ∉ D.map (·.1)) : get D k = 0 := by
  induction D with
  | nil => rfl
  | cons q D ih =>
    rw [get_cons_neg (fun e => h (by rw [List.map_cons, e]; exact .head _)), ih fun e => h (by rw [List.map_cons]; exact .tail _ e)]
theorem get_put (D : List Pr) (k v x : Int) : get (put D k v) x = if x = k then v else get D x := by
  unfold put
  split
  · rename_i h
    rw [any_iff] at h
    induction D with
    | nil => cases h
    | cons q D ih =>
      rw [List.map_cons]
      by_cases hq : q.1 = k
      · rw [if_pos hq]
        by_cases hx : x = k
        · rw [if_pos hx, get_cons_pos (by simp; omega)]
        · rw [if_neg hx, get_cons_neg (by simp; omega), get_cons_neg (by omega)]
          by_cases hd : k ∈ D.map (·.1)
          · rw [ih hd, if_neg hx]
          · congr 1
            conv => rhs; rw [← List.map_id D]
            apply List.map_congr_left
            intro r hr
            rw [if_neg fun e => hd (List.mem_map.mpr ⟨r, hr, e⟩)]; rfl
      · rw [if_neg hq]
        have hd : k ∈ D.map (·.1) := by
          rw [List.map_cons] at h
          rcases List.mem_cons.mp h with e | e
          · exact absurd e.symm hq
          · exact e
        by_cases hx : q.1 = x
        · rw [get_cons_pos hx, if_neg (by omega), get_cons_pos hx]
        · rw [get_cons_neg hx, ih hd, get_cons_neg hx]
  · rename_i h
    rw [any_iff] at h
    induction D with
    | nil =>
      by_cases hx : x = k
      · rw [if_pos hx]; exact get_cons_pos (by simp; omega)
      · rw [if_neg hx]; exact get_cons_neg (by simp; omega)
    | cons q D ih =>
      rw [List.cons_append]
      have hq : q.1 ≠ k := fun e => h (by rw [List.map_cons, e]; exact .head _)
      by_cases hx : q.1 = x
      · rw [get_cons_pos hx, if_neg (by omega), get_cons_pos hx]
      · rw [get_cons_neg hx, ih fun e => h (by rw [List.map_cons]; exact .tail _ e), get_cons_neg hx]
/-- the strip of a table, its places in a told order -/
def laid (ks : List Int) (D : List Pr) : List Pr := ks.map fun k => (k, get D k)
theorem cnt_laid (D : List Pr) : ∀ (ks : List Int) (x : Int), ks.Nodup → cnt (laid ks D) x = if x ∈ ks then get D x else 0
  | [], x, _ => by simp [laid, cnt]
  | k :: ks, x, h => by
    obtain ⟨h1, h2⟩ := List.nodup_cons.mp h
    show (if k = x then get D k else 0) + cnt (laid ks D) x = _
    rw [cnt_laid D ks x h2]
    by_cases hk : k = x
    · subst hk
      rw [if_pos rfl, if_neg h1, if_pos (List.mem_cons_self)]; omega
    · rw [if_neg hk]
      by_cases hx : x ∈ ks
      · rw [if_pos hx, if_pos (List.mem_cons_of_mem _ hx)]; omega
      · rw [if_neg hx, if_neg (fun e => by rcases List.mem_cons.mp e with e | e; exact hk e.symm; exact hx e)]; rfl
theorem get_pos {D : List Pr} (h : Tab D) {k : Int} (hk : k ∈ D.map (·.1)) : 0 < get D k := by
  obtain ⟨q, hq, e⟩ := List.mem_map.mp hk
  unfold get
  split
  · rename_i kv hf; exact h.pos kv (List.mem_of_find?_eq_some hf)
  · rename_i hf
    have := List.find?_eq_none.mp hf q hq
    simp [e] at this
theorem laid_str {D : List Pr} (h : Tab D) {ks : List Int} (hp : ks.Perm (D.map (·.1))) (hs : ks.Pairwise (· ≤ ·)) : Str (laid ks D) (get D) := by
  have nd : ks.Nodup := hp.nodup_iff.mpr h.nd
  refine ⟨⟨?_, fun q hq => ?_⟩, ?_⟩
  · unfold laid
    rw [List.pairwise_map]
    have : ks.Pairwise (fun a b => a ≤ b ∧ a ≠ b) := hs.and nd
    exact this.imp fun {a b} ⟨h1, h2⟩ => by show a < b; omega
  · obtain ⟨k, hk, e⟩ := List.mem_map.mp hq
    subst e
    exact get_pos h (hp.mem_iff.mp hk)
  · funext x
    rw [cnt_laid D ks x nd]
    by_cases hx : x ∈ ks
    · rw [if_pos hx]
    · rw [if_neg hx, get_no fun e => hx (hp.mem_iff.mpr e)]
/-- folding pair by pair -/
theorem cnt_fold (c : Int) : ∀ (s : List Pr) (x : Int), cnt s x + cnt s (c - x) = fold c (cnt s) x := fun _ _ => rfl
theorem Str.times {s : List Pr} {f : Fn} (h : Str s f) {k : Int} (hk : 0 < k) : Str (s.map fun q => (q.1, q.2 * k)) (sc k f) := by
  refine ⟨⟨?_, fun q hq => ?_⟩, ?_⟩
  · rw [List.pairwise_map]; exact h.asc
  · obtain ⟨p, hp, e⟩ := List.mem_map.mp hq
    subst e
    exact Int.mul_pos (h.pos p hp) hk
  · rw [← h.eq]
    funext x
    have : ∀ s : List Pr, cnt (s.map fun q => (q.1, q.2 * k)) x = k * cnt s x := by
      intro s
      induction s with
      | nil => simp [cnt]
      | cons q s ih =>
        obtain ⟨p, d⟩ := q
        simp only [List.map_cons, cnt, ih]
        split <;> rw [Int.mul_add]
        · rw [Int.mul_comm]
        · simp
    exact this s
end FM

end P_FM4
section P_A
set_option maxHeartbeats 4000000
namespace LW
open PySem PySem.Spec PyProof.Rows L2 PX
abbrev wf : Nat := 1000000
/-- _law_cup(_law_script); slots 0 _law_script, 1 _law_cell -/
def b__law_cup : MS :=
  (sSeq (sAs (mCall gAbs (mCons (m2 gIx (mFr (m2 gAdd (mFr (mCall gLstF (mCons (mV 0) mNil))) (mFr (mCall gLstD (mCons (mK (.int 0)) mNil))))) (mK (.int 0))) mNil)) (aN 1))
  (sRet (mCall gLstD (mCons (mIf (mB (m2 gGe (mV 1) (m2 gPow (mK (.int 10)) (mK (.int 18))))) (m2 gDiv (mV 1) (mK (.int 37))) (mK (.int 0))) (mCons (m2 gAdd (m2 gMod (mCall gIntF (mCons (m2 gAdd (m2 gMul (mV 1) (mK (.int 239))) (mK (.int 1913))) mNil)) (mK (.int 2077503509))) (mK (.int 127))) mNil)))))
def F__law_cup : List D → Store → R D := runM 2 b__law_cup
/-- _law_roll(_law_cup_here, _law_many); slots 0 _law_cup_here, 1 _law_many, 2 _law_found, 3 _law_deep -/
def b__law_roll : MS :=
  (sSeq (sIf (mB (m2 gGt (m2 gIx (mV 0) (mK (.int 0))) (mK (.int 0)))) (sSeq (sAs (m2 gMod (mCall gIntF (mCons (m2 gIx (mV 0) (mK (.int 0))) mNil)) (mV 1)) (aN 2))
  (sSeq (sAs (m2 gDiv (m2 gIx (mV 0) (mK (.int 0))) (mV 1)) (asSub (mV 0) (mK (.int 0))))
  (sRet (mV 2)))) sNx)
  (sSeq (sAs (m2 gMod (mCall gIntF (mCons (m2 gAdd (m2 gMul (m2 gIx (mV 0) (mK (.int 1))) (mK (.int 30949))) (mK (.int 7919))) mNil)) (mK (.int 2147483497))) (asSub (mV 0) (mK (.int 1))))
  (sSeq (sAs (m2 gMod (mCall gIntF (mCons (m2 gMul (m2 gIx (mV 0) (mK (.int 1))) (m2 gAdd (m2 gIx (mV 0) (mK (.int 1))) (mK (.int 191)))) mNil)) (mK (.int 2147483587))) (aN 3))
  (sRet (m2 gMod (mCall gIntF (mCons (m2 gDiv (mV 3) (mK (.int 761))) mNil)) (mV 1))))))
def F__law_roll : List D → Store → R D := runF 4 b__law_roll
/-- _law_some(_law_cup_here, _law_things); slots 0 _law_cup_here, 1 _law_things -/
def b__law_some : MS :=
  (sRet (m2 gIx (mV 1) (mCall F__law_roll (mCons (mV 0) (mCons (mCall gLen (mCons (mV 1) mNil)) mNil)))))
def F__law_some : List D → Store → R D := runF 2 b__law_some
/-- _law_folds(_law_cup_here, _law_most); slots 0 _law_cup_here, 1 _law_most, 2 _law_many, 3 _law_found, 4 _law_step, 5 _law_way, 6 _law_turn -/
def b__law_folds : MS :=
  (sSeq (sAs (mCall F__law_roll (mCons (mV 0) (mCons (m2 gAdd (mV 1) (mK (.int 1))) mNil))) (aN 2))
  (sSeq (sPar 3 4 (mCons (mCall gTupD (mCons (m2 gSub (mCall F__law_roll (mCons (mV 0) (mCons (mK (.int 15)) mNil))) (mK (.int 7))) mNil)) (mCons (m2 gAdd (mK (.int 1)) (mCall F__law_roll (mCons (mV 0) (mCons (mK (.int 4)) mNil)))) mNil)))
  (sSeq (whS (mB (m2 gLtI (mCall gLen (mCons (mV 3) mNil)) (mV 2)))
    (sSeq (sAs (mCall F__law_roll (mCons (mV 0) (mCons (mK (.int 8)) mNil))) (aN 5))
  (sSeq (sIf (mB (m2 gGt (mV 5) (mK (.int 3)))) (sAs (mCall F__law_some (mCons (mV 0) (mCons (mFr (mCall gLstD (mCons (mK (.int 1)) (mCons (mK (.int 2)) (mCons (mK (.int 3)) (mCons (mK (.int 4)) (mCons (mK (.int 6)) (mCons (mK (.int 7)) (mCons (mK (.int 10)) mNil))))))))) mNil))) (aN 4)) sNx)
  (sSeq (sAs (mCall F__law_some (mCons (mV 0) (mCons (mFr (mCall gLstD (mCons (mV 4) (mCons (m1 gNeg (mV 4)) (mCons (mV 4) (mCons (mIf (mB (m2 gEq (mV 5) (mK (.int 0)))) (mK (.int 0)) (m1 gNeg (mV 4))) mNil)))))) mNil))) (aN 6))
  (sAs (m2 gAdd (mV 3) (mCall gTupD (mCons (mFr (m2 gAdd (m2 gIx (mV 3) (m1 gNeg (mK (.int 1)))) (mV 6))) mNil))) (aN 3))))) wf)
  (sRet (mFr (mSl (mV 3) oNone (oSome (mV 2))))))))
def F__law_folds : List D → Store → R D := runF 7 b__law_folds
/-- _law_some_folds(_law_cup_here, _law_most); slots 0 _law_cup_here, 1 _law_most, 2 _law_found -/
def b__law_some_folds : MS :=
  (sSeq (sAs (mCall F__law_folds (mCons (mV 0) (mCons (mV 1) mNil))) (aN 2))
  (sRet (mIf (mB (m2 gNe (mV 2) (mCall gTupD mNil))) (mV 2) (mCall gTupD (mCons (m2 gSub (mCall F__law_roll (mCons (mV 0) (mCons (mK (.int 15)) mNil))) (mK (.int 7))) mNil)))))
def F__law_some_folds : List D → Store → R D := runF 3 b__law_some_folds
/-- _law_more(_law_cup_here, _law_folds_here, _law_many); slots 0 _law_cup_here, 1 _law_folds_here, 2 _law_many, 3 _law_turn, 4 _law_at -/
def b__law_more : MS :=
  (sSeq (sFor (mCallI gRange1 (mCons (mV 2) mNil)) (aN 3)
    (sSeq (sAs (mCall F__law_roll (mCons (mV 0) (mCons (mCall gLen (mCons (mV 1) mNil)) mNil))) (aN 4))
  (sAs (m2 gAdd (m2 gAdd (mFr (mSl (mV 1) oNone (oSome (mV 4)))) (mCall gTupD (mCons (m2 gIx (mV 1) (mV 4)) mNil))) (mFr (mSl (mV 1) (oSome (mV 4)) oNone))) (aN 1))))
  (sRet (mV 1)))
def F__law_more : List D → Store → R D := runF 5 b__law_more
/-- is_tuple_up_to(value, most); slots 0 value, 1 most -/
def b_is_tuple_up_to : MS :=
  (sRet (mAnd (mCall (gIsI "tuple") (mCons (mV 0) (mCons (fun _ S => .ok (.raw (.ty "tuple")) S) mNil))) (m2 gLe (mCall gLen (mCons (mV 0) mNil)) (mV 1))))
def F_is_tuple_up_to : List D → Store → R D := runF 2 b_is_tuple_up_to
/-- is_whole(value); slots 0 value -/
def b_is_whole : MS :=
  (sRet (mAnd (mCall (gIsI "int") (mCons (mV 0) (mCons (fun _ S => .ok (.raw (.ty "int")) S) mNil))) (mNot (mCall (gIsI "bool") (mCons (mV 0) (mCons (fun _ S => .ok (.raw (.ty "bool")) S) mNil))))))
def F_is_whole : List D → Store → R D := runF 1 b_is_whole
/-- is_from_to(value, least, greatest); slots 0 value, 1 least, 2 greatest -/
def b_is_from_to : MS :=
  (sRet (mAnd (mCall F_is_whole (mCons (mV 0) mNil)) (mChain gLe gLe (mV 1) (mV 0) (mV 2))))
def F_is_from_to : List D → Store → R D := runF 3 b_is_from_to
/-- is_crease(value); slots 0 value -/
def b_is_crease : MS :=
  (sRet (mCall F_is_from_to (mCons (mV 0) (mCons (m1 gNeg (mK (.int 1000000))) (mCons (mK (.int 1000000)) mNil)))))
def F_is_crease : List D → Store → R D := runF 1 b_is_crease
/-- fits_folds(value); slots 0 value, 1 item -/
def b_fits_folds : MS :=
  (sRet (mAnd (mCall F_is_tuple_up_to (mCons (mV 0) (mCons (mK (.int 12)) mNil))) (mCall gAll (mCons (mFr (mLc [1] (mItems (mV 0)) (aN 1) mYes (mCall F_is_crease (mCons (mV 1) mNil)))) mNil))))
def F_fits_folds : List D → Store → R D := runF 2 b_fits_folds
/-- check_folds(value); slots 0 value -/
def b_check_folds : MS :=
  (sIf (mNotT (mB (mCall F_fits_folds (mCons (mV 0) mNil)))) sNo sNx)
def F_check_folds : List D → Store → R D := runF 1 b_check_folds
/-- steps_between(folds); slots 0 folds, 1 crease, 2 further -/
def b_steps_between : MS :=
  (sRet (mCall gTupF (mCons (mFr (mCall gSortI (mCons (mFr (mLc [1, 2] (mCallI gZip (mCons (mV 0) (mCons (mFr (mSl (mV 0) (oSome (mK (.int 1))) oNone)) mNil))) (aT 2 (asCons (aN 1) (asCons (aN 2) asNil))) mYes (mCall gAbs (mCons (m2 gSub (mV 2) (mV 1)) mNil)))) mNil))) mNil)))
def F_steps_between : List D → Store → R D := runF 3 b_steps_between
/-- form_between(folds); slots 0 folds -/
def b_form_between : MS :=
  (sRet (mCall gTupD (mCons (m2 gIx (mV 0) (mK (.int 0))) (mCons (m2 gIx (mV 0) (m1 gNeg (mK (.int 1)))) (mCons (mCall F_steps_between (mCons (mV 0) mNil)) mNil)))))
def F_form_between : List D → Store → R D := runF 1 b_form_between
/-- do_the_same(folds, beside); slots 0 folds, 1 beside -/
def b_do_the_same : MS :=
  (sSeq (sIf (mOrT (mB (m2 gEq (mCall gLen (mCons (mV 0) mNil)) (mK (.int 0)))) (mB (m2 gEq (mCall gLen (mCons (mV 1) mNil)) (mK (.int 0))))) (sRet (m2 gEq (mCall gLen (mCons (mV 0) mNil)) (mCall gLen (mCons (mV 1) mNil)))) sNx)
  (sRet (m2 gEq (mCall F_form_between (mCons (mV 0) mNil)) (mCall F_form_between (mCons (mV 1) mNil)))))
def F_do_the_same : List D → Store → R D := runF 2 b_do_the_same
/-- without_halts(folds); slots 0 folds, 1 kept, 2 crease, 3 further -/
def b_without_halts : MS :=
  (sSeq (sAs (mFr (mLc [2, 3] (mCallI gZip (mCons (mV 0) (mCons (mFr (mSl (mV 0) (oSome (mK (.int 1))) oNone)) mNil))) (aT 2 (asCons (aN 2) (asCons (aN 3) asNil))) (mB (m2 gNe (mV 2) (mV 3))) (mV 3))) (aN 1))
  (sRet (m2 gAdd (mFr (mSl (mV 0) oNone (oSome (mK (.int 1))))) (mCall gTupF (mCons (mV 1) mNil)))))
def F_without_halts : List D → Store → R D := runF 4 b_without_halts
/-- doublings(folds, beside); slots 0 folds, 1 beside -/
def b_doublings : MS :=
  (sSeq (sEx (mCall F_check_folds (mCons (mV 0) mNil)))
  (sSeq (sEx (mCall F_check_folds (mCons (mV 1) mNil)))
  (sSeq (sIf (mNotT (mB (mCall F_do_the_same (mCons (mCall F_without_halts (mCons (mV 0) mNil)) (mCons (mCall F_without_halts (mCons (mV 1) mNil)) mNil))))) (sRet (mK .none)) sNx)
  (sRet (m2 gSub (mCall gLen (mCons (mV 0) mNil)) (mCall gLen (mCons (mV 1) mNil)))))))
def F_doublings : List D → Store → R D := runF 2 b_doublings
/-- _law_tidy(_law_drops); slots 0 _law_drops, 1 _law_place_here -/
def b__law_tidy : MS :=
  (sRet (mCall gTupF (mCons (mFr (mLc [1] (mItems (mFr (mCall gSortD (mCons (mV 0) mNil)))) (aN 1) mYes (mCall gTupD (mCons (mV 1) (mCons (m2 gDx (mV 0) (mV 1)) mNil))))) mNil)))
def F__law_tidy : List D → Store → R D := runF 2 b__law_tidy
/-- _law_strip(_law_cup_here, _law_most); slots 0 _law_cup_here, 1 _law_most, 2 _law_found, 3 _law_turn -/
def b__law_strip : MS :=
  (sSeq (sAs mDNew (aN 2))
  (sSeq (sFor (mCallI gRange1 (mCons (mCall F__law_roll (mCons (mV 0) (mCons (m2 gAdd (mV 1) (mK (.int 1))) mNil))) mNil)) (aN 3)
    (sDput (mCall F__law_some (mCons (mV 0) (mCons (mFr (mCall gLstD (mCons (mK (.int 1)) (mCons (mK (.int 1)) (mCons (mK (.int 1)) (mCons (mK (.int 2)) (mCons (mK (.int 3)) (mCons (mK (.int 4)) (mCons (mK (.int 7)) (mCons (m2 gPow (mK (.int 10)) (mK (.int 20))) mNil)))))))))) mNil))) (mV 2) (m2 gSub (mCall F__law_roll (mCons (mV 0) (mCons (mK (.int 25)) mNil))) (mK (.int 12)))))
  (sRet (mCall F__law_tidy (mCons (mV 2) mNil)))))
def F__law_strip : List D → Store → R D := runF 4 b__law_strip
/-- rows_alike(folds, beside); slots 0 folds, 1 beside -/
def b_rows_alike : MS :=
  (sSeq (sEx (mCall F_check_folds (mCons (mV 0) mNil)))
  (sSeq (sEx (mCall F_check_folds (mCons (mV 1) mNil)))
  (sRet (mCall F_do_the_same (mCons (mV 0) (mCons (mV 1) mNil))))))
def F_rows_alike : List D → Store → R D := runF 2 b_rows_alike
/-- _law_steps(_law_folds_here); slots 0 _law_folds_here, 1 _law_at -/
def b__law_steps : MS :=
  (sRet (mFr (mCall gSortI (mCons (mFr (mLc [1] (mCallI gRange1 (mCons (m2 gSub (mCall gLen (mCons (mV 0) mNil)) (mK (.int 1))) mNil)) (aN 1) mYes (mCall gAbs (mCons (m2 gSub (m2 gIx (mV 0) (m2 gAdd (mV 1) (mK (.int 1)))) (m2 gIx (mV 0) (mV 1))) mNil)))) mNil))))
def F__law_steps : List D → Store → R D := runF 2 b__law_steps
/-- _law_plain(_law_folds_here); slots 0 _law_folds_here, 1 _law_step -/
def b__law_plain : MS :=
  (sRet (mIf (mB (m2 gNe (mV 0) (mCall gTupD mNil))) (mCall gTupD (mCons (m2 gIx (mV 0) (mK (.int 0))) (mCons (m2 gIx (mV 0) (m1 gNeg (mK (.int 1)))) (mCons (mFr (mLc [1] (mItems (mCall F__law_steps (mCons (mV 0) mNil))) (aN 1) (mB (m2 gGt (mV 1) (mK (.int 0)))) (mV 1))) mNil)))) (mCall gTupD mNil)))
def F__law_plain : List D → Store → R D := runF 2 b__law_plain
/-- _law_fold(_law_strip_here, _law_crease); slots 0 _law_strip_here, 1 _law_crease, 2 _law_found, 3 _law_place_here, 4 _law_drops, 5 _law_there -/
def b__law_fold : MS :=
  (sSeq (sAs mDNew (aN 2))
  (sSeq (sFor (mItems (mV 0)) (aT 2 (asCons (aN 3) (asCons (aN 4) asNil)))
    (sFor (mItems (mCall gTupD (mCons (mV 3) (mCons (m2 gSub (mV 1) (mV 3)) mNil)))) (aN 5)
    (sDput (mFr (m2 gAdd (mGet2 (mV 2) (mV 5) (mK (.int 0))) (mV 4))) (mV 2) (mV 5))))
  (sRet (mCall F__law_tidy (mCons (mV 2) mNil)))))
def F__law_fold : List D → Store → R D := runF 6 b__law_fold
/-- _law_folded(_law_strip_here, _law_folds_here); slots 0 _law_strip_here, 1 _law_folds_here, 2 _law_crease -/
def b__law_folded : MS :=
  (sSeq (sFor (mItems (mV 1)) (aN 2)
    (sAs (mCall F__law_fold (mCons (mV 0) (mCons (mV 2) mNil))) (aN 0)))
  (sRet (mV 0)))
def F__law_folded : List D → Store → R D := runF 3 b__law_folded
/-- _law_print(_law_place_here, _law_folds_here); slots 0 _law_place_here, 1 _law_folds_here -/
def b__law_print : MS :=
  (sRet (mCall F__law_folded (mCons (mCall gTupD (mCons (mCall gTupD (mCons (mV 0) (mCons (mK (.int 1)) mNil))) mNil)) (mCons (mV 1) mNil))))
def F__law_print : List D → Store → R D := runF 2 b__law_print
/-- _law_times(_law_strip_here, _law_many); slots 0 _law_strip_here, 1 _law_many, 2 _law_place_here, 3 _law_drops -/
def b__law_times : MS :=
  (sRet (mCall gTupF (mCons (mFr (mLc [2, 3] (mItems (mV 0)) (aT 2 (asCons (aN 2) (asCons (aN 3) asNil))) mYes (mCall gTupD (mCons (mV 2) (mCons (m2 gMul (mV 3) (mV 1)) mNil))))) mNil)))
def F__law_times : List D → Store → R D := runF 4 b__law_times
/-- _law_power(_law_many); slots 0 _law_many, 1 _law_found, 2 _law_turn -/
def b__law_power : MS :=
  (sSeq (sAs (mK (.int 1)) (aN 1))
  (sSeq (sFor (mCallI gRange1 (mCons (mV 0) mNil)) (aN 2)
    (sAs (m2 gMul (mV 1) (mK (.int 2))) (aN 1)))
  (sRet (mV 1))))
def F__law_power : List D → Store → R D := runF 3 b__law_power
/-- _law_is_doubled(_law_one, _law_two, _law_times_here); slots 0 _law_one, 1 _law_two, 2 _law_times_here -/
def b__law_is_doubled : MS :=
  (sRet (mIf (mB (m2 gGe (mV 2) (mK (.int 0)))) (m2 gEq (mV 0) (mCall F__law_times (mCons (mV 1) (mCons (mCall F__law_power (mCons (mV 2) mNil)) mNil)))) (m2 gEq (mV 1) (mCall F__law_times (mCons (mV 0) (mCons (mCall F__law_power (mCons (m1 gNeg (mV 2)) mNil)) mNil))))))
def F__law_is_doubled : List D → Store → R D := runF 3 b__law_is_doubled
/-- _law_right(_law_cup_here, _law_folds_here, _law_beside); slots 0 _law_cup_here, 1 _law_folds_here, 2 _law_beside, 3 _law_told, 4 _law_due, 5 _law_strip_here, 6 _law_some_here, 7 _law_one, 8 _law_two, 9 _law_pairs, 10 _law_place_here, 11 _law_pair -/
def b__law_right : MS :=
  (sSeq (sAs (mCall F_doublings (mCons (mV 1) (mCons (mV 2) mNil))) (aN 3))
  (sSeq (sAs (mIf (mB (m2 gEq (mCall F__law_plain (mCons (mV 1) mNil)) (mCall F__law_plain (mCons (mV 2) mNil)))) (m2 gSub (mCall gLen (mCons (mV 1) mNil)) (mCall gLen (mCons (mV 2) mNil))) (mK .none)) (aN 4))
  (sSeq (sIf (mOrT (mB (m2 gNe (mV 3) (mV 4))) (mB (m2 gNe (mCall F_doublings (mCons (mV 2) (mCons (mV 1) mNil))) (mIf (mB (m2 gIs (mV 4) (mK .none))) (mK .none) (m1 gNeg (mV 4)))))) (sRet (mK (.bool false))) sNx)
  (sSeq (sIf (mB (m2 gNe (mCall F_rows_alike (mCons (mV 1) (mCons (mV 2) mNil))) (m2 gEq (mV 3) (mK (.int 0))))) (sRet (mK (.bool false))) sNx)
  (sSeq (sAs (mCall F__law_strip (mCons (mV 0) (mCons (mK (.int 3)) mNil))) (aN 5))
  (sSeq (sFor (mItems (mCall gTupD (mCons (mCall gTupD (mCons (mCall gTupD (mCons (mK (.int 0)) (mCons (mK (.int 1)) mNil))) mNil)) (mCons (mCall gTupD (mCons (mCall gTupD (mCons (mK (.int 1)) (mCons (mK (.int 1)) mNil))) mNil)) (mCons (mV 5) mNil))))) (aN 6)
    (sSeq (sPar 7 8 (mCons (mCall F__law_folded (mCons (mV 6) (mCons (mV 1) mNil))) (mCons (mCall F__law_folded (mCons (mV 6) (mCons (mV 2) mNil))) mNil)))
  (sIf (mAndT (mB (m2 gIsNot (mV 3) (mK .none))) (mIfT (mB (m2 gGe (mV 3) (mK (.int 0)))) (mB (m2 gNe (mV 7) (mCall F__law_times (mCons (mV 8) (mCons (mCall F__law_power (mCons (mV 3) mNil)) mNil))))) (mB (m2 gNe (mV 8) (mCall F__law_times (mCons (mV 7) (mCons (mCall F__law_power (mCons (m1 gNeg (mV 3)) mNil)) mNil))))))) (sRet (mK (.bool false))) sNx)))
  (sSeq (sIf (mB (m2 gIs (mV 3) (mK .none))) (sSeq (sAs (mFr (mLc [10] (mItems (mCall gTupD (mCons (mK (.int 0)) (mCons (mK (.int 1)) mNil)))) (aN 10) mYes (mCall gTupD (mCons (mCall F__law_print (mCons (mV 10) (mCons (mV 1) mNil))) (mCons (mCall F__law_print (mCons (mV 10) (mCons (mV 2) mNil))) mNil))))) (aN 9))
  (sRet (m2 gNe (mFr (mLc [11] (mItems (mV 9)) (aN 11) (mNotT (mB (mCall F__law_is_doubled (mCons (m2 gIx (mV 11) (mK (.int 0))) (mCons (m2 gIx (mV 11) (mK (.int 1))) (mCons (m2 gSub (mCall gLen (mCons (mV 1) mNil)) (mCall gLen (mCons (mV 2) mNil))) mNil)))))) (mV 11))) (mFr (mCall gLstD mNil))))) sNx)
  (sRet (mK (.bool true))))))))))
def F__law_right : List D → Store → R D := runF 12 b__law_right
/-- _law_like_row(_law_cup_here, _law_folds_here); slots 0 _law_cup_here, 1 _law_folds_here, 2 _law_turn, 3 _law_first, 4 _law_last, 5 _law_part, 6 _law_crease -/
def b__law_like_row : MS :=
  (sSeq (sFor (mCallI gRange1 (mCons (mK (.int 3)) mNil)) (aN 2)
    (sSeq (sAs (mCall F__law_roll (mCons (mV 0) (mCons (mCall gMax2 (mCons (mK (.int 1)) (mCons (mCall gLen (mCons (mV 1) mNil)) mNil))) mNil))) (aN 3))
  (sSeq (sAs (m2 gAdd (mV 3) (mCall F__law_roll (mCons (mV 0) (mCons (mCall gMax2 (mCons (mK (.int 1)) (mCons (m2 gSub (mCall gLen (mCons (mV 1) mNil)) (mV 3)) mNil))) mNil)))) (aN 4))
  (sSeq (sAs (mFr (mSl (mV 1) (oSome (mV 3)) (oSome (m2 gAdd (mV 4) (mK (.int 1)))))) (aN 5))
  (sIf (mB (m2 gNe (mV 5) (mCall gTupD mNil))) (sAs (m2 gAdd (m2 gAdd (mFr (mSl (mV 1) oNone (oSome (mV 3)))) (mCall gTupF (mCons (mFr (mLc [6] (mItems (mFr (m1 gRev (mV 5)))) (aN 6) mYes (m2 gSub (mFr (m2 gAdd (m2 gIx (mV 5) (mK (.int 0))) (m2 gIx (mV 5) (m1 gNeg (mK (.int 1)))))) (mV 6)))) mNil))) (mFr (mSl (mV 1) (oSome (m2 gAdd (mV 4) (mK (.int 1)))) oNone))) (aN 1)) sNx)))))
  (sRet (mV 1)))
def F__law_like_row : List D → Store → R D := runF 7 b__law_like_row
/-- law(_law_script); slots 0 _law_script, 1 _law_cup_here, 2 _law_turn, 3 _law_folds_here, 4 _law_more_here, 5 _law_other -/
def b_law : MS :=
  (sSeq (sAs (mCall F__law_cup (mCons (mV 0) mNil)) (aN 1))
  (sSeq (sFor (mCallI gRange1 (mCons (mK (.int 4)) mNil)) (aN 2)
    (sSeq (sAs (mCall F__law_some_folds (mCons (mV 1) (mCons (mK (.int 5)) mNil))) (aN 3))
  (sSeq (sAs (mCall F__law_more (mCons (mV 1) (mCons (mCall F__law_like_row (mCons (mV 1) (mCons (mV 3) mNil))) (mCons (mCall F__law_roll (mCons (mV 1) (mCons (mK (.int 3)) mNil))) mNil)))) (aN 4))
  (sSeq (sAs (mCall F__law_some (mCons (mV 1) (mCons (mFr (mCall gLstD (mCons (mV 4) (mCons (mV 4) (mCons (mCall F__law_folds (mCons (mV 1) (mCons (mK (.int 5)) mNil))) (mCons (mFr (mSl (mV 4) oNone (oSome (m1 gNeg (mK (.int 1)))))) mNil)))))) mNil))) (aN 5))
  (sIf (mNotT (mB (mCall F__law_right (mCons (mV 1) (mCons (mV 3) (mCons (mV 5) mNil)))))) (sRet (mK (.bool false))) sNx)))))
  (sSeq (sIf (mOrT (mB (m2 gNe (mCall F_doublings (mCons (mCall gTupD (mCons (mK (.int 0)) (mCons (mK (.int 0)) (mCons (mK (.int 2)) mNil)))) (mCons (mCall gTupD (mCons (mK (.int 0)) (mCons (mK (.int 2)) mNil))) mNil))) (mK (.int 1)))) (mOrT (mB (m2 gNe (mCall F_doublings (mCons (mCall gTupD (mCons (mK (.int 0)) (mCons (mK (.int 2)) mNil))) (mCons (mCall gTupD (mCons (mK (.int 0)) (mCons (mK (.int 2)) (mCons (mK (.int 2)) (mCons (mK (.int 2)) mNil))))) mNil))) (m1 gNeg (mK (.int 2))))) (mOrT (mB (m2 gIsNot (mCall F_doublings (mCons (mCall gTupD (mCons (mK (.int 0)) mNil)) (mCons (mCall gTupD mNil) mNil))) (mK .none))) (mB (m2 gNe (mCall F_doublings (mCons (mCall gTupD mNil) (mCons (mCall gTupD mNil) mNil))) (mK (.int 0))))))) (sRet (mK (.bool false))) sNx)
  (sSeq (sIf (mOrT (mB (m2 gNe (mCall F_doublings (mCons (m2 gMul (mCall gTupD (mCons (mK (.int 3)) mNil)) (mK (.int 12))) (mCons (mCall gTupD (mCons (mK (.int 3)) mNil)) mNil))) (mK (.int 11)))) (mOrT (mB (m2 gNe (mCall F_doublings (mCons (mCall gTupD (mCons (mK (.int 0)) (mCons (mK (.int 0)) (mCons (mK (.int 1)) (mCons (mK (.int 1)) mNil))))) (mCons (mCall gTupD (mCons (mK (.int 0)) (mCons (mK (.int 1)) (mCons (mK (.int 1)) (mCons (mK (.int 1)) mNil))))) mNil))) (mK (.int 0)))) (mB (m2 gIsNot (mCall F_doublings (mCons (mCall gTupD (mCons (mK (.int 0)) (mCons (mK (.int 0)) (mCons (mK (.int 1)) mNil)))) (mCons (mCall gTupD (mCons (mK (.int 1)) (mCons (mK (.int 0)) (mCons (mK (.int 0)) mNil)))) mNil))) (mK .none))))) (sRet (mK (.bool false))) sNx)
  (sRet (mAnd (mCall F__law_right (mCons (mV 1) (mCons (mCall gTupD (mCons (mK (.int 0)) (mCons (mK (.int 1)) (mCons (mK (.int 3)) mNil)))) (mCons (mCall gTupD (mCons (mK (.int 0)) (mCons (mK (.int 0)) (mCons (mK (.int 2)) (mCons (mK (.int 3)) mNil))))) mNil)))) (mAnd (mCall F__law_right (mCons (mV 1) (mCons (mCall gTupD (mCons (mK (.int 5)) (mCons (mK (.int 5)) mNil))) (mCons (mCall gTupD (mCons (mK (.int 5)) mNil)) mNil)))) (mAnd (mCall F__law_right (mCons (mV 1) (mCons (mCall gTupD mNil) (mCons (mCall gTupD (mCons (mK (.int 2)) mNil)) mNil)))) (mCall F__law_right (mCons (mV 1) (mCons (mCall gTupD (mCons (mK (.int 0)) (mCons (mK (.int 2)) mNil))) (mCons (mCall gTupD (mCons (mK (.int 0)) (mCons (mK (.int 4)) mNil))) mNil))))))))))))
end LW

end P_A
section P_Q1
set_option maxHeartbeats 4000000
namespace LW
open PySem PySem.Spec PyProof.Rows L2 PX
abbrev RW (row : List Int) : D := .py (.tuple (ofInts row))
def kw (t : Bool) : PyData := if t then .str "turn" else .str "mirror"
theorem F_whole (p : PyData) (S : Store) (h : ∀ l, p ≠ .dict l) : F_is_whole [.py p] S = .ok (.py (.bool (match p with | .int _ => true | _ => false))) S := by
  cases p with
  | dict l => exact absurd rfl (h l)
  | _ => simp [F_is_whole, runF, b_is_whole, sRet, bs, mAnd, bd, mCall, gIsI, mCons, mV, mNil, rd, isI, mNot, frR, endB]
theorem F_wholeI (i : Int) (S : Store) : F_is_whole [.py (.int i)] S = .ok (.py (.bool true)) S := F_whole (.int i) S (fun _ h => nomatch h)
theorem F_ft (i a b : Int) (S : Store) : F_is_from_to [.py (.int i), .py (.int a), .py (.int b)] S = .ok (.py (.bool (decide (a ≤ i) && decide (i ≤ b)))) S := by
  simp [F_is_from_to, runF, b_is_from_to, sRet, bs, mAnd, bd, mCall, mCons, mV, mNil, mChain, gLe, gI, frR, endB, F_whole]
  by_cases h : a ≤ i <;> simp [h]
theorem F_crease (i : Int) (S : Store) : F_is_crease [.py (.int i)] S = .ok (.py (.bool (decide (-1000000 ≤ i) && decide (i ≤ 1000000)))) S := by
  unfold F_is_crease
  rw [runF_ap]
  unfold b_is_crease
  simp -implicitDefEqProofs only [bd_ok, bd_no, bd_exc, bdN_ok, bs_ok, bs_exc, mV_ap, getV_ok, mK_ap, m1_ap, m2_ap, k2_ap, k2'_ap, mNil_ap, mCons_ap, kC1_ap, kC2_ap, mCall_ap, mCallI_ap, mItems_ap, gItems_l, gItems_t, mIf_ap, kIf_t, kIf_f, mCB_ap, mAndT_ap, mOrT_ap, mNotT_ap, kNot_ap, mAnd_ap, kAnd_t, kAnd_f, mOr_ap, kOr_t, kOr_f, mNot_ap, kNotV_ap, mB_ap, kB_ap, mFr_ap, frR_py, frR_no, frR_exc, mSl_ap, kS1_ap, kS2_ap, kS3_ap, oNone_ap, oSome_ap, kO_ap, mChain_ap, kH1_ap, kH2_ap, kH3_t, kH3_f, mMeth_ap, kMe2_ap, sSeq_ap, seqK_nx, seqK_rt, seqK_bk, seqK_ct, seqK_exc, seqK_no, sNx_ap, sNo_ap, sEx_ap, kE_ap, sRet_ap, kR_ap, sRetN_ap, sIf_ap, kSI_t, kSI_f, sAs_ap, kA_ap, asK_ok, aN_ap, kA_N, asNil_ap, asCons_ap, kG_ap, asSub_ap, kU1_ap, kU2_ap, sFor_ap, kF_ap, sPar_ap, kP2_ap, sPar3_ap, kP3_ap, endB_nx, endB_rt, endB_exc, endB_no, gAdd_i, gSub_i, gLtI_i, gLe_i, gGt_i, gGe_i, gNeg_i, gIntF_i, gAbs_i, gMax2_i, gMin2_i, gLen_l, gLen_t, gTupF_l, gTupF_t, gSl_t, gRev_t, gIs_b, gIsNot_b, gIs_n, gIsNot_n, pys_nil, gZip_t, List.getElem?_cons_zero, List.getElem?_cons_succ, List.set_cons_zero, List.set_cons_succ, List.map_cons, List.map_nil, List.length_cons, List.length_nil, List.cons_append, List.nil_append, Nat.reduceAdd, Nat.reduceSub, List.replicate_succ, List.replicate_zero, ofInts_len, wipeE, List.take_length, frR_new, decide_true, decide_false, Bool.not_true, Bool.not_false, mDNew_ap, sDput_ap, kD1_ap, kD2_ap, kD3_ap, mGet2_ap, kG2_ap, kG3_ap, mIfT_ap, F_ft, List.take_length]
theorem isI_t (l : List PyData) : isI (.tuple l) "tuple" = some true := rfl
theorem gIsI_tt (l : List PyData) (v : V) (S : Store) : gIsI "tuple" [.py (.tuple l), .raw v] S = .ok (.py (.bool true)) S := rfl
theorem F_upto (l : List PyData) (m : Int) (S : Store) : F_is_tuple_up_to [.py (.tuple l), .py (.int m)] S = .ok (.py (.bool (decide ((l.length : Int) ≤ m)))) S := by
  unfold F_is_tuple_up_to
  rw [runF_ap]
  unfold b_is_tuple_up_to
  simp -implicitDefEqProofs only [bd_ok, bd_no, bd_exc, bdN_ok, bs_ok, bs_exc, mV_ap, getV_ok, mK_ap, m1_ap, m2_ap, k2_ap, k2'_ap, mNil_ap, mCons_ap, kC1_ap, kC2_ap, mCall_ap, mCallI_ap, mItems_ap, gItems_l, gItems_t, mIf_ap, kIf_t, kIf_f, mCB_ap, mAndT_ap, mOrT_ap, mNotT_ap, kNot_ap, mAnd_ap, kAnd_t, kAnd_f, mOr_ap, kOr_t, kOr_f, mNot_ap, kNotV_ap, mB_ap, kB_ap, mFr_ap, frR_py, frR_no, frR_exc, mSl_ap, kS1_ap, kS2_ap, kS3_ap, oNone_ap, oSome_ap, kO_ap, mChain_ap, kH1_ap, kH2_ap, kH3_t, kH3_f, mMeth_ap, kMe2_ap, sSeq_ap, seqK_nx, seqK_rt, seqK_bk, seqK_ct, seqK_exc, seqK_no, sNx_ap, sNo_ap, sEx_ap, kE_ap, sRet_ap, kR_ap, sRetN_ap, sIf_ap, kSI_t, kSI_f, sAs_ap, kA_ap, asK_ok, aN_ap, kA_N, asNil_ap, asCons_ap, kG_ap, asSub_ap, kU1_ap, kU2_ap, sFor_ap, kF_ap, sPar_ap, kP2_ap, sPar3_ap, kP3_ap, endB_nx, endB_rt, endB_exc, endB_no, gAdd_i, gSub_i, gLtI_i, gLe_i, gGt_i, gGe_i, gNeg_i, gIntF_i, gAbs_i, gMax2_i, gMin2_i, gLen_l, gLen_t, gTupF_l, gTupF_t, gSl_t, gRev_t, gIs_b, gIsNot_b, gIs_n, gIsNot_n, pys_nil, gZip_t, List.getElem?_cons_zero, List.getElem?_cons_succ, List.set_cons_zero, List.set_cons_succ, List.map_cons, List.map_nil, List.length_cons, List.length_nil, List.cons_append, List.nil_append, Nat.reduceAdd, Nat.reduceSub, List.replicate_succ, List.replicate_zero, ofInts_len, wipeE, List.take_length, frR_new, decide_true, decide_false, Bool.not_true, Bool.not_false, mDNew_ap, sDput_ap, kD1_ap, kD2_ap, kD3_ap, mGet2_ap, kG2_ap, kG3_ap, mIfT_ap, gIsI_tt, List.take_length]
def InB (B : Int) (row : List Int) : Prop := ∀ c ∈ row, -B ≤ c ∧ c ≤ B
theorem take_same {α : Type} (S : List α) : S.take S.length = S := List.take_length
theorem F_fits (row : List Int) (S : Store) (hl : row.length ≤ 12) (hb : InB 1000000 row) : F_fits_folds [RW row] S = .ok (.py (.bool true)) S := by
  unfold F_fits_folds RW
  rw [runF_ap]
  unfold b_fits_folds
  have h12 : decide ((row.length : Int) ≤ 12) = true := decide_eq_true (by omega)
  have hc : ∀ S : Store, mLc [1] (mItems (mV 0)) (aN 1) mYes (mCall F_is_crease (mCons (mV 1) mNil)) [some (RW row), none] S = .ok (.loc S.length) (S ++ [.lst (ofBools (row.map fun _ => true))]) := by
    intro S
    rw [mLc_all (ps := ofInts row) (fun p => [some (RW row), some (.py p)]) (fun _ => .bool true)]
    · unfold ofBools ofInts; rw [List.map_map, List.map_map]; rfl
    · simp -implicitDefEqProofs only [bd_ok, bd_no, bd_exc, bdN_ok, bs_ok, bs_exc, mV_ap, getV_ok, mK_ap, m1_ap, m2_ap, k2_ap, k2'_ap, mNil_ap, mCons_ap, kC1_ap, kC2_ap, mCall_ap, mCallI_ap, mItems_ap, gItems_l, gItems_t, mIf_ap, kIf_t, kIf_f, mCB_ap, mAndT_ap, mOrT_ap, mNotT_ap, kNot_ap, mAnd_ap, kAnd_t, kAnd_f, mOr_ap, kOr_t, kOr_f, mNot_ap, kNotV_ap, mB_ap, kB_ap, mFr_ap, frR_py, frR_no, frR_exc, mSl_ap, kS1_ap, kS2_ap, kS3_ap, oNone_ap, oSome_ap, kO_ap, mChain_ap, kH1_ap, kH2_ap, kH3_t, kH3_f, mMeth_ap, kMe2_ap, sSeq_ap, seqK_nx, seqK_rt, seqK_bk, seqK_ct, seqK_exc, seqK_no, sNx_ap, sNo_ap, sEx_ap, kE_ap, sRet_ap, kR_ap, sRetN_ap, sIf_ap, kSI_t, kSI_f, sAs_ap, kA_ap, asK_ok, aN_ap, kA_N, asNil_ap, asCons_ap, kG_ap, asSub_ap, kU1_ap, kU2_ap, sFor_ap, kF_ap, sPar_ap, kP2_ap, sPar3_ap, kP3_ap, endB_nx, endB_rt, endB_exc, endB_no, gAdd_i, gSub_i, gLtI_i, gLe_i, gGt_i, gGe_i, gNeg_i, gIntF_i, gAbs_i, gMax2_i, gMin2_i, gLen_l, gLen_t, gTupF_l, gTupF_t, gSl_t, gRev_t, gIs_b, gIsNot_b, gIs_n, gIsNot_n, pys_nil, gZip_t, List.getElem?_cons_zero, List.getElem?_cons_succ, List.set_cons_zero, List.set_cons_succ, List.map_cons, List.map_nil, List.length_cons, List.length_nil, List.cons_append, List.nil_append, Nat.reduceAdd, Nat.reduceSub, List.replicate_succ, List.replicate_zero, ofInts_len, wipeE, List.take_length, frR_new, decide_true, decide_false, Bool.not_true, Bool.not_false, mDNew_ap, sDput_ap, kD1_ap, kD2_ap, kD3_ap, mGet2_ap, kG2_ap, kG3_ap, mIfT_ap]
    · rw [ofInts_len]; omega
    · intro p hp S; rfl
    · intro p hp S
      obtain ⟨c, hc, rfl⟩ := List.mem_map.mp hp
      have ⟨h1, h2⟩ := hb c hc
      simp -implicitDefEqProofs only [bd_ok, bd_no, bd_exc, bdN_ok, bs_ok, bs_exc, mV_ap, getV_ok, mK_ap, m1_ap, m2_ap, k2_ap, k2'_ap, mNil_ap, mCons_ap, kC1_ap, kC2_ap, mCall_ap, mCallI_ap, mItems_ap, gItems_l, gItems_t, mIf_ap, kIf_t, kIf_f, mCB_ap, mAndT_ap, mOrT_ap, mNotT_ap, kNot_ap, mAnd_ap, kAnd_t, kAnd_f, mOr_ap, kOr_t, kOr_f, mNot_ap, kNotV_ap, mB_ap, kB_ap, mFr_ap, frR_py, frR_no, frR_exc, mSl_ap, kS1_ap, kS2_ap, kS3_ap, oNone_ap, oSome_ap, kO_ap, mChain_ap, kH1_ap, kH2_ap, kH3_t, kH3_f, mMeth_ap, kMe2_ap, sSeq_ap, seqK_nx, seqK_rt, seqK_bk, seqK_ct, seqK_exc, seqK_no, sNx_ap, sNo_ap, sEx_ap, kE_ap, sRet_ap, kR_ap, sRetN_ap, sIf_ap, kSI_t, kSI_f, sAs_ap, kA_ap, asK_ok, aN_ap, kA_N, asNil_ap, asCons_ap, kG_ap, asSub_ap, kU1_ap, kU2_ap, sFor_ap, kF_ap, sPar_ap, kP2_ap, sPar3_ap, kP3_ap, endB_nx, endB_rt, endB_exc, endB_no, gAdd_i, gSub_i, gLtI_i, gLe_i, gGt_i, gGe_i, gNeg_i, gIntF_i, gAbs_i, gMax2_i, gMin2_i, gLen_l, gLen_t, gTupF_l, gTupF_t, gSl_t, gRev_t, gIs_b, gIsNot_b, gIs_n, gIsNot_n, pys_nil, gZip_t, List.getElem?_cons_zero, List.getElem?_cons_succ, List.set_cons_zero, List.set_cons_succ, List.map_cons, List.map_nil, List.length_cons, List.length_nil, List.cons_append, List.nil_append, Nat.reduceAdd, Nat.reduceSub, List.replicate_succ, List.replicate_zero, ofInts_len, wipeE, List.take_length, frR_new, decide_true, decide_false, Bool.not_true, Bool.not_false, mDNew_ap, sDput_ap, kD1_ap, kD2_ap, kD3_ap, mGet2_ap, kG2_ap, kG3_ap, mIfT_ap, F_crease, decide_eq_true h1, decide_eq_true h2, Bool.and_self]
  simp -implicitDefEqProofs only [bd_ok, bd_no, bd_exc, bdN_ok, bs_ok, bs_exc, mV_ap, getV_ok, mK_ap, m1_ap, m2_ap, k2_ap, k2'_ap, mNil_ap, mCons_ap, kC1_ap, kC2_ap, mCall_ap, mCallI_ap, mItems_ap, gItems_l, gItems_t, mIf_ap, kIf_t, kIf_f, mCB_ap, mAndT_ap, mOrT_ap, mNotT_ap, kNot_ap, mAnd_ap, kAnd_t, kAnd_f, mOr_ap, kOr_t, kOr_f, mNot_ap, kNotV_ap, mB_ap, kB_ap, mFr_ap, frR_py, frR_no, frR_exc, mSl_ap, kS1_ap, kS2_ap, kS3_ap, oNone_ap, oSome_ap, kO_ap, mChain_ap, kH1_ap, kH2_ap, kH3_t, kH3_f, mMeth_ap, kMe2_ap, sSeq_ap, seqK_nx, seqK_rt, seqK_bk, seqK_ct, seqK_exc, seqK_no, sNx_ap, sNo_ap, sEx_ap, kE_ap, sRet_ap, kR_ap, sRetN_ap, sIf_ap, kSI_t, kSI_f, sAs_ap, kA_ap, asK_ok, aN_ap, kA_N, asNil_ap, asCons_ap, kG_ap, asSub_ap, kU1_ap, kU2_ap, sFor_ap, kF_ap, sPar_ap, kP2_ap, sPar3_ap, kP3_ap, endB_nx, endB_rt, endB_exc, endB_no, gAdd_i, gSub_i, gLtI_i, gLe_i, gGt_i, gGe_i, gNeg_i, gIntF_i, gAbs_i, gMax2_i, gMin2_i, gLen_l, gLen_t, gTupF_l, gTupF_t, gSl_t, gRev_t, gIs_b, gIsNot_b, gIs_n, gIsNot_n, pys_nil, gZip_t, List.getElem?_cons_zero, List.getElem?_cons_succ, List.set_cons_zero, List.set_cons_succ, List.map_cons, List.map_nil, List.length_cons, List.length_nil, List.cons_append, List.nil_append, Nat.reduceAdd, Nat.reduceSub, List.replicate_succ, List.replicate_zero, ofInts_len, wipeE, List.take_length, frR_new, decide_true, decide_false, Bool.not_true, Bool.not_false, mDNew_ap, sDput_ap, kD1_ap, kD2_ap, kD3_ap, mGet2_ap, kG2_ap, kG3_ap, mIfT_ap, F_upto, h12, hc, frR_new, gAll_p, List.take_length]
  have : (List.map (fun _ => true) row).all id = true := by simp
  rw [this]
theorem F_check (row : List Int) (S : Store) (hl : row.length ≤ 12) (hb : InB 1000000 row) : F_check_folds [RW row] S = .ok (.py .none) S := by
  unfold F_check_folds
  rw [runF_ap]
  unfold b_check_folds
  simp -implicitDefEqProofs only [bd_ok, bd_no, bd_exc, bdN_ok, bs_ok, bs_exc, mV_ap, getV_ok, mK_ap, m1_ap, m2_ap, k2_ap, k2'_ap, mNil_ap, mCons_ap, kC1_ap, kC2_ap, mCall_ap, mCallI_ap, mItems_ap, gItems_l, gItems_t, mIf_ap, kIf_t, kIf_f, mCB_ap, mAndT_ap, mOrT_ap, mNotT_ap, kNot_ap, mAnd_ap, kAnd_t, kAnd_f, mOr_ap, kOr_t, kOr_f, mNot_ap, kNotV_ap, mB_ap, kB_ap, mFr_ap, frR_py, frR_no, frR_exc, mSl_ap, kS1_ap, kS2_ap, kS3_ap, oNone_ap, oSome_ap, kO_ap, mChain_ap, kH1_ap, kH2_ap, kH3_t, kH3_f, mMeth_ap, kMe2_ap, sSeq_ap, seqK_nx, seqK_rt, seqK_bk, seqK_ct, seqK_exc, seqK_no, sNx_ap, sNo_ap, sEx_ap, kE_ap, sRet_ap, kR_ap, sRetN_ap, sIf_ap, kSI_t, kSI_f, sAs_ap, kA_ap, asK_ok, aN_ap, kA_N, asNil_ap, asCons_ap, kG_ap, asSub_ap, kU1_ap, kU2_ap, sFor_ap, kF_ap, sPar_ap, kP2_ap, sPar3_ap, kP3_ap, endB_nx, endB_rt, endB_exc, endB_no, gAdd_i, gSub_i, gLtI_i, gLe_i, gGt_i, gGe_i, gNeg_i, gIntF_i, gAbs_i, gMax2_i, gMin2_i, gLen_l, gLen_t, gTupF_l, gTupF_t, gSl_t, gRev_t, gIs_b, gIsNot_b, gIs_n, gIsNot_n, pys_nil, gZip_t, List.getElem?_cons_zero, List.getElem?_cons_succ, List.set_cons_zero, List.set_cons_succ, List.map_cons, List.map_nil, List.length_cons, List.length_nil, List.cons_append, List.nil_append, Nat.reduceAdd, Nat.reduceSub, List.replicate_succ, List.replicate_zero, ofInts_len, wipeE, List.take_length, frR_new, decide_true, decide_false, Bool.not_true, Bool.not_false, mDNew_ap, sDput_ap, kD1_ap, kD2_ap, kD3_ap, mGet2_ap, kG2_ap, kG3_ap, mIfT_ap, F_fits row _ hl hb, Bool.not_true, List.take_length]
theorem shp_str (n : Nat) (s : Str) (h : PyData.strOk s = true) : shp n (.str s) = true := by simp [shp, PyData.canLay0, PyData.depth, h]
theorem ok_turn : PyData.strOk "turn" = true := by decide +kernel
theorem ok_mirror : PyData.strOk "mirror" = true := by decide +kernel
theorem shp_bool (n : Nat) (b : Bool) : shp n (.bool b) = true := by simp [shp, PyData.canLay0, PyData.depth]
theorem kw_shp (n : Nat) (t : Bool) : shp n (kw t) = true := by
  cases t
  · exact shp_str _ _ ok_mirror
  · exact shp_str _ _ ok_turn
theorem eqv_ss (a b : Str) : PyData.eqv (.str a) (.str b) = decide (a = b) := by
  simp only [PyData.eqv]
  by_cases h : a = b
  · subst h; simp
  · rw [decide_eq_false h]; exact beq_eq_false_iff_ne.mpr h
theorem kw_turn (t : Bool) (S : Store) : gEq (.py (kw t)) (.py (.str "turn")) S = .ok (.py (.bool t)) S := by
  rw [gEq_p (shaped_of (kw_shp 0 t)) (shaped_of (shp_str 0 _ ok_turn))]
  cases t
  · show R.ok (D.py (.bool (PyData.eqv (.str _) (.str _)))) S = _
    rw [eqv_ss, decide_eq_false (by decide)]
  · show R.ok (D.py (.bool (PyData.eqv (.str _) (.str _)))) S = _
    rw [eqv_ss, decide_eq_true rfl]
theorem kw_mirror (t : Bool) (S : Store) : gEq (.py (kw t)) (.py (.str "mirror")) S = .ok (.py (.bool (!t))) S := by
  rw [gEq_p (shaped_of (kw_shp 0 t)) (shaped_of (shp_str 0 _ ok_mirror))]
  cases t
  · show R.ok (D.py (.bool (PyData.eqv (.str _) (.str _)))) S = _
    rw [eqv_ss, decide_eq_true rfl]; rfl
  · show R.ok (D.py (.bool (PyData.eqv (.str _) (.str _)))) S = _
    rw [eqv_ss, decide_eq_false (by decide)]; rfl
theorem gEq_i (i j : Int) (S : Store) : gEq (.py (.int i)) (.py (.int j)) S = .ok (.py (.bool (decide (i = j)))) S := by
  rw [gEq_p (shaped_of (shp_int 0 i)) (shaped_of (shp_int 0 j)), eqv_ii]
theorem gNe_i (i j : Int) (S : Store) : gNe (.py (.int i)) (.py (.int j)) S = .ok (.py (.bool (!decide (i = j)))) S := by
  rw [gNe_p (shaped_of (shp_int 0 i)) (shaped_of (shp_int 0 j)), eqv_ii]
theorem gEq_r (a b : List Int) (S : Store) : gEq (RW a) (RW b) S = .ok (.py (.bool (decide (a = b)))) S := by
  rw [gEq_p (shaped_of (shp_row a)) (shaped_of (shp_row b)), eqv_rows]
theorem gNe_r (a b : List Int) (S : Store) : gNe (RW a) (RW b) S = .ok (.py (.bool (!decide (a = b)))) S := by
  rw [gNe_p (shaped_of (shp_row a)) (shaped_of (shp_row b)), eqv_rows]
theorem gIx_r (row : List Int) (k : Nat) (h : k < row.length) (S : Store) : gIx (.py (.tuple (ofInts row))) (.py (.int (k : Int))) S = .ok (.py (.int row[k])) S := gIx_t (by rw [atI_ofInts, atI_nat _ _ h]; rfl)
end LW

end P_Q1
section P_Q2
set_option maxHeartbeats 4000000
namespace LW
open PySem PySem.Spec PyProof.Rows L2 PX
variable {row : List Int}
abbrev iabs := FM.iabs
abbrev stp := FM.steps
theorem InB.le {B C : Int} {r : List Int} (h : InB B r) (hc : B ≤ C) : InB C r := fun c m => ⟨by have := (h c m).1; omega, by have := (h c m).2; omega⟩
theorem isort_of_perm {a b : List Int} (h : a.Perm b) : isort a = isort b := sorted_uniq ((isort_perm a).trans (h.trans (isort_perm b).symm)) (isort_sorted a) (isort_sorted b)
theorem stp_len : ∀ r : List Int, (stp r).length = r.length - 1
  | [] => rfl
  | [a] => rfl
  | a :: b :: r => by
    show (stp (b :: r)).length + 1 = _
    rw [stp_len (b :: r)]; simp
theorem gAbs_ia (i : Int) (S : Store) : gAbs [.py (.int i)] S = .ok (.py (.int (iabs i))) S := rfl
theorem stp_get : ∀ (r : List Int) (k : Nat) (h : k + 1 < r.length), (stp r)[k]? = some (iabs (r[k + 1] - r[k]))
  | [], k, h => by simp at h
  | [a], k, h => by simp at h
  | a :: b :: r, 0, h => rfl
  | a :: b :: r, k + 1, h => by
    show (stp (b :: r))[k]? = _
    exact stp_get (b :: r) k (by simpa using h)
theorem range_stp (r : List Int) (f : PyData → PyData) (hf : ∀ (k : Nat) (h : k + 1 < r.length), f (.int (k : Int)) = .int (iabs (r[k + 1] - r[k]))) : (rangeL 0 (r.length - 1)).map f = ofInts (stp r) := by
  apply List.ext_getElem?
  intro k
  rw [List.getElem?_map, rangeL_get]
  by_cases h : k + 1 < r.length
  · rw [if_pos (by omega)]
    show some (f (.int (0 + (k : Int)))) = ((stp r).map PyData.int)[k]?
    rw [Int.zero_add, hf k h, List.getElem?_map, stp_get r k h]; rfl
  · rw [if_neg (by omega)]
    rw [List.getElem?_eq_none (by rw [ofInts_len, stp_len]; omega)]; rfl
theorem isort_len (a : List Int) : (isort a).length = a.length := (isort_perm a).length_eq
theorem mem_range {p : PyData} {n : Nat} {lo : Int} (h : p ∈ rangeL lo n) : ∃ k : Nat, k < n ∧ p = .int (lo + k) := by
  obtain ⟨k, e⟩ := List.getElem?_of_mem h
  rw [rangeL_get] at e
  by_cases hk : k < n
  · rw [if_pos hk] at e
    exact ⟨k, hk, (Option.some.inj e).symm⟩
  · rw [if_neg hk] at e; cases e
theorem F_steps (S : Store) (hn : row.length ≤ 100000) : F__law_steps [RW row] S = .ok (.py (.list (ofInts (isort (stp row))))) S := by
  unfold F__law_steps
  rw [runF_ap]
  unfold b__law_steps
  have eR : ∀ S, gRange1 [.py (.int ((row.length : Int) - 1))] S = .ok (rangeL 0 (row.length - 1)) S := by
    intro S
    rw [gRange1_i (inR_of (by omega) (by omega))]
    congr 2
    omega
  have eC : ∀ S, mLc [1] (mCallI gRange1 (mCons (m2 PX.gSub (mCall gLen (mCons (mV 0) mNil)) (mK (.int 1))) mNil)) (aN 1) mYes (mCall gAbs (mCons (m2 PX.gSub (m2 gIx (mV 0) (m2 gAdd (mV 1) (mK (.int 1)))) (m2 gIx (mV 0) (mV 1))) mNil)) [some (RW row), none] S = .ok (.loc S.length) (S ++ [.lst (ofInts (stp row))]) := by
    intro S
    rw [mLc_all (ps := rangeL 0 (row.length - 1)) (fun p => [some (RW row), some (.py p)]) (fun p => match p with | .int k => .int (iabs (row[k.toNat + 1]! - row[k.toNat]!)) | p => p)]
    · rw [range_stp]
      intro k hk
      simp only [Int.toNat_natCast]
      rw [getElem!_pos row (k + 1) hk, getElem!_pos row k (by omega)]
    · simp -implicitDefEqProofs only [bd_ok, bd_no, bd_exc, bdN_ok, bs_ok, bs_exc, mV_ap, getV_ok, mK_ap, m1_ap, m2_ap, k2_ap, k2'_ap, mNil_ap, mCons_ap, kC1_ap, kC2_ap, mCall_ap, mCallI_ap, mItems_ap, gItems_l, gItems_t, mIf_ap, kIf_t, kIf_f, mCB_ap, mAndT_ap, mOrT_ap, mNotT_ap, kNot_ap, mAnd_ap, kAnd_t, kAnd_f, mOr_ap, kOr_t, kOr_f, mNot_ap, kNotV_ap, mB_ap, kB_ap, mFr_ap, frR_py, frR_no, frR_exc, mSl_ap, kS1_ap, kS2_ap, kS3_ap, oNone_ap, oSome_ap, kO_ap, mChain_ap, kH1_ap, kH2_ap, kH3_t, kH3_f, mMeth_ap, kMe2_ap, sSeq_ap, seqK_nx, seqK_rt, seqK_bk, seqK_ct, seqK_exc, seqK_no, sNx_ap, sNo_ap, sEx_ap, kE_ap, sRet_ap, kR_ap, sRetN_ap, sIf_ap, kSI_t, kSI_f, sAs_ap, kA_ap, asK_ok, aN_ap, kA_N, asNil_ap, asCons_ap, kG_ap, asSub_ap, kU1_ap, kU2_ap, sFor_ap, kF_ap, sPar_ap, kP2_ap, sPar3_ap, kP3_ap, endB_nx, endB_rt, endB_exc, endB_no, gAdd_i, gSub_i, gLtI_i, gLe_i, gGt_i, gGe_i, gNeg_i, gIntF_i, gAbs_i, gMax2_i, gMin2_i, gLen_l, gLen_t, gTupF_l, gTupF_t, gSl_t, gRev_t, gIs_b, gIsNot_b, gIs_n, gIsNot_n, pys_nil, gZip_t, List.getElem?_cons_zero, List.getElem?_cons_succ, List.set_cons_zero, List.set_cons_succ, List.map_cons, List.map_nil, List.length_cons, List.length_nil, List.cons_append, List.nil_append, Nat.reduceAdd, Nat.reduceSub, List.replicate_succ, List.replicate_zero, ofInts_len, wipeE, List.take_length, frR_new, decide_true, decide_false, Bool.not_true, Bool.not_false, mDNew_ap, sDput_ap, kD1_ap, kD2_ap, kD3_ap, mGet2_ap, kG2_ap, kG3_ap, mIfT_ap, eR]
    · rw [rangeL_len]; omega
    · intro p hp S; rfl
    · intro p hp S
      obtain ⟨k, hk, rfl⟩ := mem_range hp
      rw [Int.zero_add]
      have e1 : (k : Int) + 1 = ((k + 1 : Nat) : Int) := by omega
      simp -implicitDefEqProofs only [bd_ok, bd_no, bd_exc, bdN_ok, bs_ok, bs_exc, mV_ap, getV_ok, mK_ap, m1_ap, m2_ap, k2_ap, k2'_ap, mNil_ap, mCons_ap, kC1_ap, kC2_ap, mCall_ap, mCallI_ap, mItems_ap, gItems_l, gItems_t, mIf_ap, kIf_t, kIf_f, mCB_ap, mAndT_ap, mOrT_ap, mNotT_ap, kNot_ap, mAnd_ap, kAnd_t, kAnd_f, mOr_ap, kOr_t, kOr_f, mNot_ap, kNotV_ap, mB_ap, kB_ap, mFr_ap, frR_py, frR_no, frR_exc, mSl_ap, kS1_ap, kS2_ap, kS3_ap, oNone_ap, oSome_ap, kO_ap, mChain_ap, kH1_ap, kH2_ap, kH3_t, kH3_f, mMeth_ap, kMe2_ap, sSeq_ap, seqK_nx, seqK_rt, seqK_bk, seqK_ct, seqK_exc, seqK_no, sNx_ap, sNo_ap, sEx_ap, kE_ap, sRet_ap, kR_ap, sRetN_ap, sIf_ap, kSI_t, kSI_f, sAs_ap, kA_ap, asK_ok, aN_ap, kA_N, asNil_ap, asCons_ap, kG_ap, asSub_ap, kU1_ap, kU2_ap, sFor_ap, kF_ap, sPar_ap, kP2_ap, sPar3_ap, kP3_ap, endB_nx, endB_rt, endB_exc, endB_no, gAdd_i, gSub_i, gLtI_i, gLe_i, gGt_i, gGe_i, gNeg_i, gIntF_i, gAbs_i, gMax2_i, gMin2_i, gLen_l, gLen_t, gTupF_l, gTupF_t, gSl_t, gRev_t, gIs_b, gIsNot_b, gIs_n, gIsNot_n, pys_nil, gZip_t, List.getElem?_cons_zero, List.getElem?_cons_succ, List.set_cons_zero, List.set_cons_succ, List.map_cons, List.map_nil, List.length_cons, List.length_nil, List.cons_append, List.nil_append, Nat.reduceAdd, Nat.reduceSub, List.replicate_succ, List.replicate_zero, ofInts_len, wipeE, List.take_length, frR_new, decide_true, decide_false, Bool.not_true, Bool.not_false, mDNew_ap, sDput_ap, kD1_ap, kD2_ap, kD3_ap, mGet2_ap, kG2_ap, kG3_ap, mIfT_ap, e1, gIx_r row (k + 1) (by omega : k + 1 < row.length), gIx_r row k (by omega : k < row.length), gAbs_ia]
      rw [Int.toNat_natCast, getElem!_pos row (k + 1) (by omega), getElem!_pos row k (by omega)]
      rfl
  have hs : fits (stp row).length = true := fits_le (by rw [stp_len]; omega)
  simp -implicitDefEqProofs only [bd_ok, bd_no, bd_exc, bdN_ok, bs_ok, bs_exc, mV_ap, getV_ok, mK_ap, m1_ap, m2_ap, k2_ap, k2'_ap, mNil_ap, mCons_ap, kC1_ap, kC2_ap, mCall_ap, mCallI_ap, mItems_ap, gItems_l, gItems_t, mIf_ap, kIf_t, kIf_f, mCB_ap, mAndT_ap, mOrT_ap, mNotT_ap, kNot_ap, mAnd_ap, kAnd_t, kAnd_f, mOr_ap, kOr_t, kOr_f, mNot_ap, kNotV_ap, mB_ap, kB_ap, mFr_ap, frR_py, frR_no, frR_exc, mSl_ap, kS1_ap, kS2_ap, kS3_ap, oNone_ap, oSome_ap, kO_ap, mChain_ap, kH1_ap, kH2_ap, kH3_t, kH3_f, mMeth_ap, kMe2_ap, sSeq_ap, seqK_nx, seqK_rt, seqK_bk, seqK_ct, seqK_exc, seqK_no, sNx_ap, sNo_ap, sEx_ap, kE_ap, sRet_ap, kR_ap, sRetN_ap, sIf_ap, kSI_t, kSI_f, sAs_ap, kA_ap, asK_ok, aN_ap, kA_N, asNil_ap, asCons_ap, kG_ap, asSub_ap, kU1_ap, kU2_ap, sFor_ap, kF_ap, sPar_ap, kP2_ap, sPar3_ap, kP3_ap, endB_nx, endB_rt, endB_exc, endB_no, gAdd_i, gSub_i, gLtI_i, gLe_i, gGt_i, gGe_i, gNeg_i, gIntF_i, gAbs_i, gMax2_i, gMin2_i, gLen_l, gLen_t, gTupF_l, gTupF_t, gSl_t, gRev_t, gIs_b, gIsNot_b, gIs_n, gIsNot_n, pys_nil, gZip_t, List.getElem?_cons_zero, List.getElem?_cons_succ, List.set_cons_zero, List.set_cons_succ, List.map_cons, List.map_nil, List.length_cons, List.length_nil, List.cons_append, List.nil_append, Nat.reduceAdd, Nat.reduceSub, List.replicate_succ, List.replicate_zero, ofInts_len, wipeE, List.take_length, frR_new, decide_true, decide_false, Bool.not_true, Bool.not_false, mDNew_ap, sDput_ap, kD1_ap, kD2_ap, kD3_ap, mGet2_ap, kG2_ap, kG3_ap, mIfT_ap, eC, gSortI_p hs]
theorem zip_stp : ∀ (r : List Int) (g : PyData → PyData), (∀ a b : Int, g (.tuple [.int a, .int b]) = .int (iabs (b - a))) → (zipT (ofInts r) (ofInts (r.drop 1))).map g = ofInts (stp r)
  | [], g, h => rfl
  | [a], g, h => rfl
  | a :: b :: r, g, h => by
    have ih := zip_stp (b :: r) g h
    show g (.tuple [.int a, .int b]) :: (zipT (ofInts (b :: r)) (ofInts r)).map g = ofInts (iabs (b - a) :: stp (b :: r))
    rw [h]
    show _ = PyData.int _ :: ofInts (stp (b :: r))
    rw [← ih]; rfl
theorem mem_zip {r : List Int} {p : PyData} : ∀ {a b : List Int}, p ∈ zipT (ofInts a) (ofInts b) → ∃ x y : Int, p = .tuple [.int x, .int y]
  | [], b, h => by cases h
  | x :: a, [], h => by cases h
  | x :: a, y :: b, h => by
    rcases List.mem_cons.mp h with e | e
    · exact ⟨x, y, e⟩
    · exact mem_zip (r := r) e
theorem zipT_len : ∀ (a b : List PyData), (zipT a b).length ≤ a.length
  | [], b => Nat.zero_le _
  | x :: a, [] => Nat.zero_le _
  | x :: a, y :: b => Nat.succ_le_succ (zipT_len a b)
theorem F_between (S : Store) (hn : row.length ≤ 100000) : F_steps_between [RW row] S = .ok (.py (.tuple (ofInts (isort (stp row))))) S := by
  unfold F_steps_between
  rw [runF_ap]
  unfold b_steps_between
  have e0 : cutL (ofInts row) (some 1) none = ofInts (row.drop 1) := by rw [cutL_ofInts]; exact congrArg _ (cutL_from row 1)
  have eC : ∀ S, mLc [1, 2] (mCallI gZip (mCons (mV 0) (mCons (mFr (mSl (mV 0) (oSome (mK (.int 1))) oNone)) mNil))) (aT 2 (asCons (aN 1) (asCons (aN 2) asNil))) mYes (mCall gAbs (mCons (m2 PX.gSub (mV 2) (mV 1)) mNil)) [some (RW row), none, none] S = .ok (.loc S.length) (S ++ [.lst (ofInts (stp row))]) := by
    intro S
    rw [mLc_all (ps := zipT (ofInts row) (ofInts (row.drop 1))) (fun p => match p with | .tuple [a, b] => [some (RW row), some (.py a), some (.py b)] | _ => []) (fun p => match p with | .tuple [.int a, .int b] => .int (iabs (b - a)) | p => p)]
    · rw [zip_stp row _ (fun a b => rfl)]
    · simp -implicitDefEqProofs only [bd_ok, bd_no, bd_exc, bdN_ok, bs_ok, bs_exc, mV_ap, getV_ok, mK_ap, m1_ap, m2_ap, k2_ap, k2'_ap, mNil_ap, mCons_ap, kC1_ap, kC2_ap, mCall_ap, mCallI_ap, mItems_ap, gItems_l, gItems_t, mIf_ap, kIf_t, kIf_f, mCB_ap, mAndT_ap, mOrT_ap, mNotT_ap, kNot_ap, mAnd_ap, kAnd_t, kAnd_f, mOr_ap, kOr_t, kOr_f, mNot_ap, kNotV_ap, mB_ap, kB_ap, mFr_ap, frR_py, frR_no, frR_exc, mSl_ap, kS1_ap, kS2_ap, kS3_ap, oNone_ap, oSome_ap, kO_ap, mChain_ap, kH1_ap, kH2_ap, kH3_t, kH3_f, mMeth_ap, kMe2_ap, sSeq_ap, seqK_nx, seqK_rt, seqK_bk, seqK_ct, seqK_exc, seqK_no, sNx_ap, sNo_ap, sEx_ap, kE_ap, sRet_ap, kR_ap, sRetN_ap, sIf_ap, kSI_t, kSI_f, sAs_ap, kA_ap, asK_ok, aN_ap, kA_N, asNil_ap, asCons_ap, kG_ap, asSub_ap, kU1_ap, kU2_ap, sFor_ap, kF_ap, sPar_ap, kP2_ap, sPar3_ap, kP3_ap, endB_nx, endB_rt, endB_exc, endB_no, gAdd_i, gSub_i, gLtI_i, gLe_i, gGt_i, gGe_i, gNeg_i, gIntF_i, gAbs_i, gMax2_i, gMin2_i, gLen_l, gLen_t, gTupF_l, gTupF_t, gSl_t, gRev_t, gIs_b, gIsNot_b, gIs_n, gIsNot_n, pys_nil, gZip_t, List.getElem?_cons_zero, List.getElem?_cons_succ, List.set_cons_zero, List.set_cons_succ, List.map_cons, List.map_nil, List.length_cons, List.length_nil, List.cons_append, List.nil_append, Nat.reduceAdd, Nat.reduceSub, List.replicate_succ, List.replicate_zero, ofInts_len, wipeE, List.take_length, frR_new, decide_true, decide_false, Bool.not_true, Bool.not_false, mDNew_ap, sDput_ap, kD1_ap, kD2_ap, kD3_ap, mGet2_ap, kG2_ap, kG3_ap, mIfT_ap, e0]
    · exact Nat.le_trans (zipT_len _ _) (by rw [ofInts_len]; omega)
    · intro p hp S
      obtain ⟨x, y, rfl⟩ := mem_zip (r := row) hp
      rfl
    · intro p hp S
      obtain ⟨x, y, rfl⟩ := mem_zip (r := row) hp
      simp -implicitDefEqProofs only [bd_ok, bd_no, bd_exc, bdN_ok, bs_ok, bs_exc, mV_ap, getV_ok, mK_ap, m1_ap, m2_ap, k2_ap, k2'_ap, mNil_ap, mCons_ap, kC1_ap, kC2_ap, mCall_ap, mCallI_ap, mItems_ap, gItems_l, gItems_t, mIf_ap, kIf_t, kIf_f, mCB_ap, mAndT_ap, mOrT_ap, mNotT_ap, kNot_ap, mAnd_ap, kAnd_t, kAnd_f, mOr_ap, kOr_t, kOr_f, mNot_ap, kNotV_ap, mB_ap, kB_ap, mFr_ap, frR_py, frR_no, frR_exc, mSl_ap, kS1_ap, kS2_ap, kS3_ap, oNone_ap, oSome_ap, kO_ap, mChain_ap, kH1_ap, kH2_ap, kH3_t, kH3_f, mMeth_ap, kMe2_ap, sSeq_ap, seqK_nx, seqK_rt, seqK_bk, seqK_ct, seqK_exc, seqK_no, sNx_ap, sNo_ap, sEx_ap, kE_ap, sRet_ap, kR_ap, sRetN_ap, sIf_ap, kSI_t, kSI_f, sAs_ap, kA_ap, asK_ok, aN_ap, kA_N, asNil_ap, asCons_ap, kG_ap, asSub_ap, kU1_ap, kU2_ap, sFor_ap, kF_ap, sPar_ap, kP2_ap, sPar3_ap, kP3_ap, endB_nx, endB_rt, endB_exc, endB_no, gAdd_i, gSub_i, gLtI_i, gLe_i, gGt_i, gGe_i, gNeg_i, gIntF_i, gAbs_i, gMax2_i, gMin2_i, gLen_l, gLen_t, gTupF_l, gTupF_t, gSl_t, gRev_t, gIs_b, gIsNot_b, gIs_n, gIsNot_n, pys_nil, gZip_t, List.getElem?_cons_zero, List.getElem?_cons_succ, List.set_cons_zero, List.set_cons_succ, List.map_cons, List.map_nil, List.length_cons, List.length_nil, List.cons_append, List.nil_append, Nat.reduceAdd, Nat.reduceSub, List.replicate_succ, List.replicate_zero, ofInts_len, wipeE, List.take_length, frR_new, decide_true, decide_false, Bool.not_true, Bool.not_false, mDNew_ap, sDput_ap, kD1_ap, kD2_ap, kD3_ap, mGet2_ap, kG2_ap, kG3_ap, mIfT_ap, gAbs_ia]
      rfl
  have hs : fits (stp row).length = true := fits_le (by rw [stp_len]; omega)
  simp -implicitDefEqProofs only [bd_ok, bd_no, bd_exc, bdN_ok, bs_ok, bs_exc, mV_ap, getV_ok, mK_ap, m1_ap, m2_ap, k2_ap, k2'_ap, mNil_ap, mCons_ap, kC1_ap, kC2_ap, mCall_ap, mCallI_ap, mItems_ap, gItems_l, gItems_t, mIf_ap, kIf_t, kIf_f, mCB_ap, mAndT_ap, mOrT_ap, mNotT_ap, kNot_ap, mAnd_ap, kAnd_t, kAnd_f, mOr_ap, kOr_t, kOr_f, mNot_ap, kNotV_ap, mB_ap, kB_ap, mFr_ap, frR_py, frR_no, frR_exc, mSl_ap, kS1_ap, kS2_ap, kS3_ap, oNone_ap, oSome_ap, kO_ap, mChain_ap, kH1_ap, kH2_ap, kH3_t, kH3_f, mMeth_ap, kMe2_ap, sSeq_ap, seqK_nx, seqK_rt, seqK_bk, seqK_ct, seqK_exc, seqK_no, sNx_ap, sNo_ap, sEx_ap, kE_ap, sRet_ap, kR_ap, sRetN_ap, sIf_ap, kSI_t, kSI_f, sAs_ap, kA_ap, asK_ok, aN_ap, kA_N, asNil_ap, asCons_ap, kG_ap, asSub_ap, kU1_ap, kU2_ap, sFor_ap, kF_ap, sPar_ap, kP2_ap, sPar3_ap, kP3_ap, endB_nx, endB_rt, endB_exc, endB_no, gAdd_i, gSub_i, gLtI_i, gLe_i, gGt_i, gGe_i, gNeg_i, gIntF_i, gAbs_i, gMax2_i, gMin2_i, gLen_l, gLen_t, gTupF_l, gTupF_t, gSl_t, gRev_t, gIs_b, gIsNot_b, gIs_n, gIsNot_n, pys_nil, gZip_t, List.getElem?_cons_zero, List.getElem?_cons_succ, List.set_cons_zero, List.set_cons_succ, List.map_cons, List.map_nil, List.length_cons, List.length_nil, List.cons_append, List.nil_append, Nat.reduceAdd, Nat.reduceSub, List.replicate_succ, List.replicate_zero, ofInts_len, wipeE, List.take_length, frR_new, decide_true, decide_false, Bool.not_true, Bool.not_false, mDNew_ap, sDput_ap, kD1_ap, kD2_ap, kD3_ap, mGet2_ap, kG2_ap, kG3_ap, mIfT_ap, eC, gSortI_p hs]
def formD (a z : Int) (s : List Int) : PyData := .tuple [.int a, .int z, .tuple (ofInts s)]
theorem gIx_last (h : row ≠ []) (S : Store) : gIx (.py (.tuple (ofInts row))) (.py (.int (-1))) S = .ok (.py (.int (row.getLast h))) S := gIx_t (by rw [atI_ofInts, atI_last row h]; rfl)
theorem gIx_first (h : row ≠ []) (S : Store) : gIx (.py (.tuple (ofInts row))) (.py (.int 0)) S = .ok (.py (.int (row.head h))) S := gIx_t (by
  have h0 : 0 < row.length := List.length_pos_iff.mpr h
  rw [atI_ofInts]
  have := atI_nat row 0 h0
  rw [show ((0 : Nat) : Int) = 0 from rfl] at this
  rw [this, List.head_eq_getElem]; rfl)
theorem fits3 : fits 3 = true := rfl
theorem pys3 (a b c : PyData) : pys [.py a, .py b, .py c] = some [a, b, c] := rfl
theorem gTupD3 (a b c : PyData) (S : Store) : gTupD [.py a, .py b, .py c] S = .ok (.py (.tuple [a, b, c])) S := rfl
theorem gTupD0 (S : Store) : gTupD [] S = .ok (.py (.tuple [])) S := rfl
theorem gTupD1 (a : PyData) (S : Store) : gTupD [.py a] S = .ok (.py (.tuple [a])) S := rfl
theorem F_formb (h : row ≠ []) (S : Store) (hn : row.length ≤ 100000) : F_form_between [RW row] S = .ok (.py (formD (row.head h) (row.getLast h) (isort (stp row)))) S := by
  unfold F_form_between
  rw [runF_ap]
  unfold b_form_between
  simp -implicitDefEqProofs only [bd_ok, bd_no, bd_exc, bdN_ok, bs_ok, bs_exc, mV_ap, getV_ok, mK_ap, m1_ap, m2_ap, k2_ap, k2'_ap, mNil_ap, mCons_ap, kC1_ap, kC2_ap, mCall_ap, mCallI_ap, mItems_ap, gItems_l, gItems_t, mIf_ap, kIf_t, kIf_f, mCB_ap, mAndT_ap, mOrT_ap, mNotT_ap, kNot_ap, mAnd_ap, kAnd_t, kAnd_f, mOr_ap, kOr_t, kOr_f, mNot_ap, kNotV_ap, mB_ap, kB_ap, mFr_ap, frR_py, frR_no, frR_exc, mSl_ap, kS1_ap, kS2_ap, kS3_ap, oNone_ap, oSome_ap, kO_ap, mChain_ap, kH1_ap, kH2_ap, kH3_t, kH3_f, mMeth_ap, kMe2_ap, sSeq_ap, seqK_nx, seqK_rt, seqK_bk, seqK_ct, seqK_exc, seqK_no, sNx_ap, sNo_ap, sEx_ap, kE_ap, sRet_ap, kR_ap, sRetN_ap, sIf_ap, kSI_t, kSI_f, sAs_ap, kA_ap, asK_ok, aN_ap, kA_N, asNil_ap, asCons_ap, kG_ap, asSub_ap, kU1_ap, kU2_ap, sFor_ap, kF_ap, sPar_ap, kP2_ap, sPar3_ap, kP3_ap, endB_nx, endB_rt, endB_exc, endB_no, gAdd_i, gSub_i, gLtI_i, gLe_i, gGt_i, gGe_i, gNeg_i, gIntF_i, gAbs_i, gMax2_i, gMin2_i, gLen_l, gLen_t, gTupF_l, gTupF_t, gSl_t, gRev_t, gIs_b, gIsNot_b, gIs_n, gIsNot_n, pys_nil, gZip_t, List.getElem?_cons_zero, List.getElem?_cons_succ, List.set_cons_zero, List.set_cons_succ, List.map_cons, List.map_nil, List.length_cons, List.length_nil, List.cons_append, List.nil_append, Nat.reduceAdd, Nat.reduceSub, List.replicate_succ, List.replicate_zero, ofInts_len, wipeE, List.take_length, frR_new, decide_true, decide_false, Bool.not_true, Bool.not_false, mDNew_ap, sDput_ap, kD1_ap, kD2_ap, kD3_ap, mGet2_ap, kG2_ap, kG3_ap, mIfT_ap, gIx_first h, gIx_last h, F_between _ hn, gTupD3]
  rfl
theorem gNe_r0 (a : List Int) (S : Store) : gNe (RW a) (.py (.tuple [])) S = .ok (.py (.bool (!decide (a = [])))) S := gNe_r a [] S
theorem formD_shp (a z : Int) (s : List Int) : shp 2 (formD a z s) = true := by
  simp only [shp, formD, PyData.canLay0, PyData.canLayAll0, PyData.depth, PyData.depthAll, lay_ints, depth_ints]
  rfl
theorem formD_eqv (a z : Int) (s : List Int) : PyData.eqv (formD a z s) (formD a z s) = true := by
  unfold formD
  rw [eqv_tt]
  show (PyData.eqv (.int a) (.int a) && (PyData.eqv (.int z) (.int z) && (PyData.eqv (.tuple (ofInts s)) (.tuple (ofInts s)) && true))) = true
  rw [eqv_ii, eqv_ii, eqv_rows, decide_eq_true rfl, decide_eq_true rfl, decide_eq_true rfl]; rfl
theorem gEq_form (a z : Int) (s : List Int) (S : Store) : gEq (.py (formD a z s)) (.py (formD a z s)) S = .ok (.py (.bool true)) S := by
  rw [gEq_p (shaped_of (formD_shp a z s)) (shaped_of (formD_shp a z s)), formD_eqv]
theorem gNe_form (a z : Int) (s : List Int) (S : Store) : gNe (.py (formD a z s)) (.py (formD a z s)) S = .ok (.py (.bool false)) S := by
  rw [gNe_p (shaped_of (formD_shp a z s)) (shaped_of (formD_shp a z s)), formD_eqv]; rfl
theorem len_ne {a : List Int} (h : a ≠ []) : decide ((a.length : Int) = 0) = false := decide_eq_false (by have := List.length_pos_iff.mpr h; omega)
end LW

end P_Q2
section P_Q3
set_option maxHeartbeats 4000000
namespace LW
open PySem PySem.Spec PyProof.Rows L2 PX
variable {row : List Int}
theorem rangeL_succ (lo : Int) (n : Nat) : rangeL lo (n + 1) = .int lo :: rangeL (lo + 1) n := rfl
theorem gTupF_loc {n : Nat} {l : List PyData} {S : Store} (h : S[n]? = some (.lst l)) : gTupF [.loc n] S = .ok (.py (.tuple l)) S := by
  unfold gTupF rd
  simp only [h]
theorem gLstD0 (S : Store) : gLstD [] S = .ok (.loc S.length) (S ++ [.lst []]) := rfl
theorem gLstD1 (a : PyData) (S : Store) : gLstD [.py a] S = .ok (.loc S.length) (S ++ [.lst [a]]) := rfl
abbrev cup (a b : Int) : Cell := .lst [.int a, .int b]
def CS (a b : Int) (T : Store) : Store := cup a b :: T
theorem gIx_cup0 (a b : Int) (T : Store) : gIx (.loc 0) (.py (.int 0)) (CS a b T) = .ok (.py (.int a)) (CS a b T) := rfl
theorem gIx_cup1 (a b : Int) (T : Store) : gIx (.loc 0) (.py (.int 1)) (CS a b T) = .ok (.py (.int b)) (CS a b T) := rfl
theorem put_cup0 (a b c : Int) (T : Store) (env : Ev) : subPut (.loc 0) (.py (.int 0)) (.py (.int c)) env (CS a b T) = .ok env (CS c b T) := rfl
theorem put_cup1 (a b c : Int) (T : Store) (env : Ev) : subPut (.loc 0) (.py (.int 1)) (.py (.int c)) env (CS a b T) = .ok env (CS a c T) := rfl
theorem len_CS (a b : Int) (T : Store) : (CS a b T).length = T.length + 1 := rfl
theorem take_CS (a b a' b' : Int) (T : Store) : (CS a b T).take (CS a' b' T).length = CS a b T := by
  show cup a b :: T.take T.length = _
  rw [List.take_length]; rfl
theorem roll (a b m : Int) (T : Store) (ha : 0 ≤ a) (hb : 0 ≤ b) (hm : 0 < m) (hm2 : m < 1125899906842624) : ∃ r a' b', 0 ≤ r ∧ r < m ∧ 0 ≤ a' ∧ 0 ≤ b' ∧ F__law_roll [.loc 0, .py (.int m)] (CS a b T) = .ok (.py (.int r)) (CS a' b' T) := by
  have hd : ∀ c, cDiv c m = true := fun c => cDiv_s hm hm2
  by_cases h : 0 < a
  · refine ⟨a % m, a / m, b, Int.emod_nonneg _ (by omega), Int.emod_lt_of_pos _ hm, Int.ediv_nonneg ha (by omega), hb, ?_⟩
    unfold F__law_roll
    rw [runF_ap]
    unfold b__law_roll
    simp -implicitDefEqProofs only [bd_ok, bd_no, bd_exc, bdN_ok, bs_ok, bs_exc, mV_ap, getV_ok, mK_ap, m1_ap, m2_ap, k2_ap, k2'_ap, mNil_ap, mCons_ap, kC1_ap, kC2_ap, mCall_ap, mCallI_ap, mItems_ap, gItems_l, gItems_t, mIf_ap, kIf_t, kIf_f, mCB_ap, mAndT_ap, mOrT_ap, mNotT_ap, kNot_ap, mAnd_ap, kAnd_t, kAnd_f, mOr_ap, kOr_t, kOr_f, mNot_ap, kNotV_ap, mB_ap, kB_ap, mFr_ap, frR_py, frR_no, frR_exc, mSl_ap, kS1_ap, kS2_ap, kS3_ap, oNone_ap, oSome_ap, kO_ap, mChain_ap, kH1_ap, kH2_ap, kH3_t, kH3_f, mMeth_ap, kMe2_ap, sSeq_ap, seqK_nx, seqK_rt, seqK_bk, seqK_ct, seqK_exc, seqK_no, sNx_ap, sNo_ap, sEx_ap, kE_ap, sRet_ap, kR_ap, sRetN_ap, sIf_ap, kSI_t, kSI_f, sAs_ap, kA_ap, asK_ok, aN_ap, kA_N, asNil_ap, asCons_ap, kG_ap, asSub_ap, kU1_ap, kU2_ap, sFor_ap, kF_ap, sPar_ap, kP2_ap, sPar3_ap, kP3_ap, endB_nx, endB_rt, endB_exc, endB_no, gAdd_i, gSub_i, gLtI_i, gLe_i, gGt_i, gGe_i, gNeg_i, gIntF_i, gAbs_i, gMax2_i, gMin2_i, gLen_l, gLen_t, gTupF_l, gTupF_t, gSl_t, gRev_t, gIs_b, gIsNot_b, gIs_n, gIsNot_n, pys_nil, gZip_t, List.getElem?_cons_zero, List.getElem?_cons_succ, List.set_cons_zero, List.set_cons_succ, List.map_cons, List.map_nil, List.length_cons, List.length_nil, List.cons_append, List.nil_append, Nat.reduceAdd, Nat.reduceSub, List.replicate_succ, List.replicate_zero, ofInts_len, wipeE, List.take_length, frR_new, decide_true, decide_false, Bool.not_true, Bool.not_false, mDNew_ap, sDput_ap, kD1_ap, kD2_ap, kD3_ap, mGet2_ap, kG2_ap, kG3_ap, mIfT_ap, gIx_cup0, decide_eq_true h, gMod_i hm, gDiv_i (hd a), put_cup0, take_CS]
  · refine ⟨(b * 30949 + 7919) % 2147483497 * ((b * 30949 + 7919) % 2147483497 + 191) % 2147483587 / 761 % m, a, (b * 30949 + 7919) % 2147483497, Int.emod_nonneg _ (by omega), Int.emod_lt_of_pos _ hm, ha, Int.emod_nonneg _ (by omega), ?_⟩
    have hx0 : 0 ≤ (b * 30949 + 7919) % 2147483497 := Int.emod_nonneg _ (by omega)
    have hx1 : (b * 30949 + 7919) % 2147483497 < 2147483497 := Int.emod_lt_of_pos _ (by omega)
    unfold F__law_roll
    rw [runF_ap]
    unfold b__law_roll
    have e1 : ∀ S, gMul (.py (.int b)) (.py (.int 30949)) S = .ok (.py (.int (b * 30949))) S := fun S => gMul_i (cMul_r (by decide))
    have e2 : ∀ S, gMod (.py (.int (b * 30949 + 7919))) (.py (.int 2147483497)) S = .ok (.py (.int ((b * 30949 + 7919) % 2147483497))) S := fun S => gMod_i (by decide)
    have e3 : ∀ c S, gMod (.py (.int c)) (.py (.int 2147483587)) S = .ok (.py (.int (c % 2147483587))) S := fun c S => gMod_i (by decide)
    have e4 : ∀ c S, gDiv (.py (.int c)) (.py (.int 761)) S = .ok (.py (.int (c / 761))) S := fun c S => gDiv_i (cDiv_s (by decide) (by decide))
    generalize (b * 30949 + 7919) % 2147483497 = x at *
    have e5 : ∀ S, gMul (.py (.int x)) (.py (.int (x + 191))) S = .ok (.py (.int (x * (x + 191)))) S := fun S => gMul_i (cMul_r (by omega))
    simp -implicitDefEqProofs only [bd_ok, bd_no, bd_exc, bdN_ok, bs_ok, bs_exc, mV_ap, getV_ok, mK_ap, m1_ap, m2_ap, k2_ap, k2'_ap, mNil_ap, mCons_ap, kC1_ap, kC2_ap, mCall_ap, mCallI_ap, mItems_ap, gItems_l, gItems_t, mIf_ap, kIf_t, kIf_f, mCB_ap, mAndT_ap, mOrT_ap, mNotT_ap, kNot_ap, mAnd_ap, kAnd_t, kAnd_f, mOr_ap, kOr_t, kOr_f, mNot_ap, kNotV_ap, mB_ap, kB_ap, mFr_ap, frR_py, frR_no, frR_exc, mSl_ap, kS1_ap, kS2_ap, kS3_ap, oNone_ap, oSome_ap, kO_ap, mChain_ap, kH1_ap, kH2_ap, kH3_t, kH3_f, mMeth_ap, kMe2_ap, sSeq_ap, seqK_nx, seqK_rt, seqK_bk, seqK_ct, seqK_exc, seqK_no, sNx_ap, sNo_ap, sEx_ap, kE_ap, sRet_ap, kR_ap, sRetN_ap, sIf_ap, kSI_t, kSI_f, sAs_ap, kA_ap, asK_ok, aN_ap, kA_N, asNil_ap, asCons_ap, kG_ap, asSub_ap, kU1_ap, kU2_ap, sFor_ap, kF_ap, sPar_ap, kP2_ap, sPar3_ap, kP3_ap, endB_nx, endB_rt, endB_exc, endB_no, gAdd_i, gSub_i, gLtI_i, gLe_i, gGt_i, gGe_i, gNeg_i, gIntF_i, gAbs_i, gMax2_i, gMin2_i, gLen_l, gLen_t, gTupF_l, gTupF_t, gSl_t, gRev_t, gIs_b, gIsNot_b, gIs_n, gIsNot_n, pys_nil, gZip_t, List.getElem?_cons_zero, List.getElem?_cons_succ, List.set_cons_zero, List.set_cons_succ, List.map_cons, List.map_nil, List.length_cons, List.length_nil, List.cons_append, List.nil_append, Nat.reduceAdd, Nat.reduceSub, List.replicate_succ, List.replicate_zero, ofInts_len, wipeE, List.take_length, frR_new, decide_true, decide_false, Bool.not_true, Bool.not_false, mDNew_ap, sDput_ap, kD1_ap, kD2_ap, kD3_ap, mGet2_ap, kG2_ap, kG3_ap, mIfT_ap, gIx_cup0, gIx_cup1, decide_eq_false h, e1, e2, put_cup1, e5, e3, e4, gMod_i hm, take_CS]
theorem some_ (a b : Int) (T : Store) (l : List PyData) (ha : 0 ≤ a) (hb : 0 ≤ b) (hl : l ≠ []) (hl2 : l.length ≤ 16777216) : ∃ p a' b', p ∈ l ∧ 0 ≤ a' ∧ 0 ≤ b' ∧ F__law_some [.loc 0, .py (.list l)] (CS a b T) = .ok (.py p) (CS a' b' T) := by
  have h0 : 0 < l.length := List.length_pos_iff.mpr hl
  obtain ⟨r, a', b', h1, h2, h3, h4, e⟩ := roll a b l.length T ha hb (by omega) (by omega)
  have hr : r.toNat < l.length := by omega
  refine ⟨l[r.toNat], a', b', List.getElem_mem hr, h3, h4, ?_⟩
  have ei : ∀ S, gIx (.py (.list l)) (.py (.int r)) S = .ok (.py l[r.toNat]) S := fun S => gIx_l (by
    have := atI_nat l r.toNat hr
    rw [Int.toNat_of_nonneg h1] at this
    exact this)
  unfold F__law_some
  rw [runF_ap]
  unfold b__law_some
  simp -implicitDefEqProofs only [bd_ok, bd_no, bd_exc, bdN_ok, bs_ok, bs_exc, mV_ap, getV_ok, mK_ap, m1_ap, m2_ap, k2_ap, k2'_ap, mNil_ap, mCons_ap, kC1_ap, kC2_ap, mCall_ap, mCallI_ap, mItems_ap, gItems_l, gItems_t, mIf_ap, kIf_t, kIf_f, mCB_ap, mAndT_ap, mOrT_ap, mNotT_ap, kNot_ap, mAnd_ap, kAnd_t, kAnd_f, mOr_ap, kOr_t, kOr_f, mNot_ap, kNotV_ap, mB_ap, kB_ap, mFr_ap, frR_py, frR_no, frR_exc, mSl_ap, kS1_ap, kS2_ap, kS3_ap, oNone_ap, oSome_ap, kO_ap, mChain_ap, kH1_ap, kH2_ap, kH3_t, kH3_f, mMeth_ap, kMe2_ap, sSeq_ap, seqK_nx, seqK_rt, seqK_bk, seqK_ct, seqK_exc, seqK_no, sNx_ap, sNo_ap, sEx_ap, kE_ap, sRet_ap, kR_ap, sRetN_ap, sIf_ap, kSI_t, kSI_f, sAs_ap, kA_ap, asK_ok, aN_ap, kA_N, asNil_ap, asCons_ap, kG_ap, asSub_ap, kU1_ap, kU2_ap, sFor_ap, kF_ap, sPar_ap, kP2_ap, sPar3_ap, kP3_ap, endB_nx, endB_rt, endB_exc, endB_no, gAdd_i, gSub_i, gLtI_i, gLe_i, gGt_i, gGe_i, gNeg_i, gIntF_i, gAbs_i, gMax2_i, gMin2_i, gLen_l, gLen_t, gTupF_l, gTupF_t, gSl_t, gRev_t, gIs_b, gIsNot_b, gIs_n, gIsNot_n, pys_nil, gZip_t, List.getElem?_cons_zero, List.getElem?_cons_succ, List.set_cons_zero, List.set_cons_succ, List.map_cons, List.map_nil, List.length_cons, List.length_nil, List.cons_append, List.nil_append, Nat.reduceAdd, Nat.reduceSub, List.replicate_succ, List.replicate_zero, ofInts_len, wipeE, List.take_length, frR_new, decide_true, decide_false, Bool.not_true, Bool.not_false, mDNew_ap, sDput_ap, kD1_ap, kD2_ap, kD3_ap, mGet2_ap, kG2_ap, kG3_ap, mIfT_ap, e, ei, take_CS]
theorem gNe_rr (a : List Int) (S : Store) : gNe (RW a) (RW a) S = .ok (.py (.bool false)) S := by rw [gNe_r, decide_eq_true rfl]; rfl
theorem gEq_rr (a : List Int) (S : Store) : gEq (RW a) (RW a) S = .ok (.py (.bool true)) S := by rw [gEq_r, decide_eq_true rfl]
theorem isnot_tt (S : Store) : gIsNot (.py (.bool true)) (.py (.bool true)) S = .ok (.py (.bool false)) S := rfl
theorem isnot_ff (S : Store) : gIsNot (.py (.bool false)) (.py (.bool false)) S = .ok (.py (.bool false)) S := rfl
theorem is_bt (k : Bool) (S : Store) : gIs (.py (.bool k)) (.py (.bool true)) S = .ok (.py (.bool k)) S := by cases k <;> rfl
theorem gNe_bb (k : Bool) (S : Store) : gNe (.py (.bool k)) (.py (.bool k)) S = .ok (.py (.bool false)) S := by cases k <;> rfl
theorem gEq_bb (k : Bool) (S : Store) : gEq (.py (.bool k)) (.py (.bool k)) S = .ok (.py (.bool true)) S := by cases k <;> rfl
theorem ne_of_len {r : List Int} {k : Nat} (h : k < r.length) : r ≠ [] := by intro e; subst e; simp at h
theorem gLstD4 (a b c d : PyData) (S : Store) : gLstD [.py a, .py b, .py c, .py d] S = .ok (.loc S.length) (S ++ [.lst [a, b, c, d]]) := rfl
theorem gLstD7 (a b c d e f g : PyData) (S : Store) : gLstD [.py a, .py b, .py c, .py d, .py e, .py f, .py g] S = .ok (.loc S.length) (S ++ [.lst [a, b, c, d, e, f, g]]) := rfl
theorem st_step (T : Store) (a b : Int) (e0 e1 e2 e3 x6 : Option D) (st way : Int) (ha : 0 ≤ a) (hb : 0 ≤ b) (hs : -10 ≤ st ∧ st ≤ 10) (he : e0 = some (.loc 0)) : ∃ st' a' b', 0 ≤ a' ∧ 0 ≤ b' ∧ (-10 ≤ st' ∧ st' ≤ 10) ∧ sIf (mB (m2 gGt (mV 5) (mK (.int 3)))) (sAs (mCall F__law_some (mCons (mV 0) (mCons (mFr (mCall gLstD (mCons (mK (.int 1)) (mCons (mK (.int 2)) (mCons (mK (.int 3)) (mCons (mK (.int 4)) (mCons (mK (.int 6)) (mCons (mK (.int 7)) (mCons (mK (.int 10)) mNil))))))))) mNil))) (aN 4)) sNx [e0, e1, e2, e3, some (.py (.int st)), some (.py (.int way)), x6] (CS a b T) = .go .nx [e0, e1, e2, e3, some (.py (.int st')), some (.py (.int way)), x6] (CS a' b' T) := by
  subst he
  by_cases h : 3 < way
  · obtain ⟨p, a', b', hp, ha', hb', e⟩ := some_ a b T [.int 1, .int 2, .int 3, .int 4, .int 6, .int 7, .int 10] ha hb (by simp) (by simp)
    have : ∃ z : Int, p = .int z ∧ -10 ≤ z ∧ z ≤ 10 := by
      simp only [List.mem_cons, List.not_mem_nil, or_false] at hp
      rcases hp with h | h | h | h | h | h | h <;> exact ⟨_, h, by omega, by omega⟩
    obtain ⟨z, rfl, hz⟩ := this
    refine ⟨z, a', b', ha', hb', hz, ?_⟩
    simp -implicitDefEqProofs only [bd_ok, bd_no, bd_exc, bdN_ok, bs_ok, bs_exc, mV_ap, getV_ok, mK_ap, m1_ap, m2_ap, k2_ap, k2'_ap, mNil_ap, mCons_ap, kC1_ap, kC2_ap, mCall_ap, mCallI_ap, mItems_ap, gItems_l, gItems_t, mIf_ap, kIf_t, kIf_f, mCB_ap, mAndT_ap, mOrT_ap, mNotT_ap, kNot_ap, mAnd_ap, kAnd_t, kAnd_f, mOr_ap, kOr_t, kOr_f, mNot_ap, kNotV_ap, mB_ap, kB_ap, mFr_ap, frR_py, frR_no, frR_exc, mSl_ap, kS1_ap, kS2_ap, kS3_ap, oNone_ap, oSome_ap, kO_ap, mChain_ap, kH1_ap, kH2_ap, kH3_t, kH3_f, mMeth_ap, kMe2_ap, sSeq_ap, seqK_nx, seqK_rt, seqK_bk, seqK_ct, seqK_exc, seqK_no, sNx_ap, sNo_ap, sEx_ap, kE_ap, sRet_ap, kR_ap, sRetN_ap, sIf_ap, kSI_t, kSI_f, sAs_ap, kA_ap, asK_ok, aN_ap, kA_N, asNil_ap, asCons_ap, kG_ap, asSub_ap, kU1_ap, kU2_ap, sFor_ap, kF_ap, sPar_ap, kP2_ap, sPar3_ap, kP3_ap, endB_nx, endB_rt, endB_exc, endB_no, gAdd_i, gSub_i, gLtI_i, gLe_i, gGt_i, gGe_i, gNeg_i, gIntF_i, gAbs_i, gMax2_i, gMin2_i, gLen_l, gLen_t, gTupF_l, gTupF_t, gSl_t, gRev_t, gIs_b, gIsNot_b, gIs_n, gIsNot_n, pys_nil, gZip_t, List.getElem?_cons_zero, List.getElem?_cons_succ, List.set_cons_zero, List.set_cons_succ, List.map_cons, List.map_nil, List.length_cons, List.length_nil, List.cons_append, List.nil_append, Nat.reduceAdd, Nat.reduceSub, List.replicate_succ, List.replicate_zero, ofInts_len, wipeE, List.take_length, frR_new, decide_true, decide_false, Bool.not_true, Bool.not_false, mDNew_ap, sDput_ap, kD1_ap, kD2_ap, kD3_ap, mGet2_ap, kG2_ap, kG3_ap, mIfT_ap, decide_eq_true h, gLstD7, e]
  · refine ⟨st, a, b, ha, hb, hs, ?_⟩
    simp -implicitDefEqProofs only [bd_ok, bd_no, bd_exc, bdN_ok, bs_ok, bs_exc, mV_ap, getV_ok, mK_ap, m1_ap, m2_ap, k2_ap, k2'_ap, mNil_ap, mCons_ap, kC1_ap, kC2_ap, mCall_ap, mCallI_ap, mItems_ap, gItems_l, gItems_t, mIf_ap, kIf_t, kIf_f, mCB_ap, mAndT_ap, mOrT_ap, mNotT_ap, kNot_ap, mAnd_ap, kAnd_t, kAnd_f, mOr_ap, kOr_t, kOr_f, mNot_ap, kNotV_ap, mB_ap, kB_ap, mFr_ap, frR_py, frR_no, frR_exc, mSl_ap, kS1_ap, kS2_ap, kS3_ap, oNone_ap, oSome_ap, kO_ap, mChain_ap, kH1_ap, kH2_ap, kH3_t, kH3_f, mMeth_ap, kMe2_ap, sSeq_ap, seqK_nx, seqK_rt, seqK_bk, seqK_ct, seqK_exc, seqK_no, sNx_ap, sNo_ap, sEx_ap, kE_ap, sRet_ap, kR_ap, sRetN_ap, sIf_ap, kSI_t, kSI_f, sAs_ap, kA_ap, asK_ok, aN_ap, kA_N, asNil_ap, asCons_ap, kG_ap, asSub_ap, kU1_ap, kU2_ap, sFor_ap, kF_ap, sPar_ap, kP2_ap, sPar3_ap, kP3_ap, endB_nx, endB_rt, endB_exc, endB_no, gAdd_i, gSub_i, gLtI_i, gLe_i, gGt_i, gGe_i, gNeg_i, gIntF_i, gAbs_i, gMax2_i, gMin2_i, gLen_l, gLen_t, gTupF_l, gTupF_t, gSl_t, gRev_t, gIs_b, gIsNot_b, gIs_n, gIsNot_n, pys_nil, gZip_t, List.getElem?_cons_zero, List.getElem?_cons_succ, List.set_cons_zero, List.set_cons_succ, List.map_cons, List.map_nil, List.length_cons, List.length_nil, List.cons_append, List.nil_append, Nat.reduceAdd, Nat.reduceSub, List.replicate_succ, List.replicate_zero, ofInts_len, wipeE, List.take_length, frR_new, decide_true, decide_false, Bool.not_true, Bool.not_false, mDNew_ap, sDput_ap, kD1_ap, kD2_ap, kD3_ap, mGet2_ap, kG2_ap, kG3_ap, mIfT_ap, decide_eq_false h]
theorem st_turn (T : Store) (a b : Int) (e0 e1 e2 e3 x6 : Option D) (st way : Int) (ha : 0 ≤ a) (hb : 0 ≤ b) (hs : -10 ≤ st ∧ st ≤ 10) (he : e0 = some (.loc 0)) : ∃ tu a' b', 0 ≤ a' ∧ 0 ≤ b' ∧ (-10 ≤ tu ∧ tu ≤ 10) ∧ sAs (mCall F__law_some (mCons (mV 0) (mCons (mFr (mCall gLstD (mCons (mV 4) (mCons (m1 gNeg (mV 4)) (mCons (mV 4) (mCons (mIf (mB (m2 gEq (mV 5) (mK (.int 0)))) (mK (.int 0)) (m1 gNeg (mV 4))) mNil)))))) mNil))) (aN 6) [e0, e1, e2, e3, some (.py (.int st)), some (.py (.int way)), x6] (CS a b T) = .go .nx [e0, e1, e2, e3, some (.py (.int st)), some (.py (.int way)), some (.py (.int tu))] (CS a' b' T) := by
  subst he
  by_cases h : way = 0
  · obtain ⟨p, a', b', hp, ha', hb', e⟩ := some_ a b T [.int st, .int (-st), .int st, .int 0] ha hb (by simp) (by simp)
    have : ∃ z : Int, p = .int z ∧ -10 ≤ z ∧ z ≤ 10 := by
      simp only [List.mem_cons, List.not_mem_nil, or_false] at hp
      rcases hp with h | h | h | h <;> exact ⟨_, h, by omega, by omega⟩
    obtain ⟨z, rfl, hz⟩ := this
    refine ⟨z, a', b', ha', hb', hz, ?_⟩
    simp -implicitDefEqProofs only [bd_ok, bd_no, bd_exc, bdN_ok, bs_ok, bs_exc, mV_ap, getV_ok, mK_ap, m1_ap, m2_ap, k2_ap, k2'_ap, mNil_ap, mCons_ap, kC1_ap, kC2_ap, mCall_ap, mCallI_ap, mItems_ap, gItems_l, gItems_t, mIf_ap, kIf_t, kIf_f, mCB_ap, mAndT_ap, mOrT_ap, mNotT_ap, kNot_ap, mAnd_ap, kAnd_t, kAnd_f, mOr_ap, kOr_t, kOr_f, mNot_ap, kNotV_ap, mB_ap, kB_ap, mFr_ap, frR_py, frR_no, frR_exc, mSl_ap, kS1_ap, kS2_ap, kS3_ap, oNone_ap, oSome_ap, kO_ap, mChain_ap, kH1_ap, kH2_ap, kH3_t, kH3_f, mMeth_ap, kMe2_ap, sSeq_ap, seqK_nx, seqK_rt, seqK_bk, seqK_ct, seqK_exc, seqK_no, sNx_ap, sNo_ap, sEx_ap, kE_ap, sRet_ap, kR_ap, sRetN_ap, sIf_ap, kSI_t, kSI_f, sAs_ap, kA_ap, asK_ok, aN_ap, kA_N, asNil_ap, asCons_ap, kG_ap, asSub_ap, kU1_ap, kU2_ap, sFor_ap, kF_ap, sPar_ap, kP2_ap, sPar3_ap, kP3_ap, endB_nx, endB_rt, endB_exc, endB_no, gAdd_i, gSub_i, gLtI_i, gLe_i, gGt_i, gGe_i, gNeg_i, gIntF_i, gAbs_i, gMax2_i, gMin2_i, gLen_l, gLen_t, gTupF_l, gTupF_t, gSl_t, gRev_t, gIs_b, gIsNot_b, gIs_n, gIsNot_n, pys_nil, gZip_t, List.getElem?_cons_zero, List.getElem?_cons_succ, List.set_cons_zero, List.set_cons_succ, List.map_cons, List.map_nil, List.length_cons, List.length_nil, List.cons_append, List.nil_append, Nat.reduceAdd, Nat.reduceSub, List.replicate_succ, List.replicate_zero, ofInts_len, wipeE, List.take_length, frR_new, decide_true, decide_false, Bool.not_true, Bool.not_false, mDNew_ap, sDput_ap, kD1_ap, kD2_ap, kD3_ap, mGet2_ap, kG2_ap, kG3_ap, mIfT_ap, gEq_i, decide_eq_true h, gLstD4, e]
  · obtain ⟨p, a', b', hp, ha', hb', e⟩ := some_ a b T [.int st, .int (-st), .int st, .int (-st)] ha hb (by simp) (by simp)
    have : ∃ z : Int, p = .int z ∧ -10 ≤ z ∧ z ≤ 10 := by
      simp only [List.mem_cons, List.not_mem_nil, or_false] at hp
      rcases hp with h | h | h | h <;> exact ⟨_, h, by omega, by omega⟩
    obtain ⟨z, rfl, hz⟩ := this
    refine ⟨z, a', b', ha', hb', hz, ?_⟩
    simp -implicitDefEqProofs only [bd_ok, bd_no, bd_exc, bdN_ok, bs_ok, bs_exc, mV_ap, getV_ok, mK_ap, m1_ap, m2_ap, k2_ap, k2'_ap, mNil_ap, mCons_ap, kC1_ap, kC2_ap, mCall_ap, mCallI_ap, mItems_ap, gItems_l, gItems_t, mIf_ap, kIf_t, kIf_f, mCB_ap, mAndT_ap, mOrT_ap, mNotT_ap, kNot_ap, mAnd_ap, kAnd_t, kAnd_f, mOr_ap, kOr_t, kOr_f, mNot_ap, kNotV_ap, mB_ap, kB_ap, mFr_ap, frR_py, frR_no, frR_exc, mSl_ap, kS1_ap, kS2_ap, kS3_ap, oNone_ap, oSome_ap, kO_ap, mChain_ap, kH1_ap, kH2_ap, kH3_t, kH3_f, mMeth_ap, kMe2_ap, sSeq_ap, seqK_nx, seqK_rt, seqK_bk, seqK_ct, seqK_exc, seqK_no, sNx_ap, sNo_ap, sEx_ap, kE_ap, sRet_ap, kR_ap, sRetN_ap, sIf_ap, kSI_t, kSI_f, sAs_ap, kA_ap, asK_ok, aN_ap, kA_N, asNil_ap, asCons_ap, kG_ap, asSub_ap, kU1_ap, kU2_ap, sFor_ap, kF_ap, sPar_ap, kP2_ap, sPar3_ap, kP3_ap, endB_nx, endB_rt, endB_exc, endB_no, gAdd_i, gSub_i, gLtI_i, gLe_i, gGt_i, gGe_i, gNeg_i, gIntF_i, gAbs_i, gMax2_i, gMin2_i, gLen_l, gLen_t, gTupF_l, gTupF_t, gSl_t, gRev_t, gIs_b, gIsNot_b, gIs_n, gIsNot_n, pys_nil, gZip_t, List.getElem?_cons_zero, List.getElem?_cons_succ, List.set_cons_zero, List.set_cons_succ, List.map_cons, List.map_nil, List.length_cons, List.length_nil, List.cons_append, List.nil_append, Nat.reduceAdd, Nat.reduceSub, List.replicate_succ, List.replicate_zero, ofInts_len, wipeE, List.take_length, frR_new, decide_true, decide_false, Bool.not_true, Bool.not_false, mDNew_ap, sDput_ap, kD1_ap, kD2_ap, kD3_ap, mGet2_ap, kG2_ap, kG3_ap, mIfT_ap, gEq_i, decide_eq_false h, gLstD4, e]
theorem InB.snoc {B C : Int} {r : List Int} {c : Int} (h : InB B r) (hB : B ≤ C) (hc : -C ≤ c ∧ c ≤ C) : InB C (r ++ [c]) := by
  intro d hd
  rcases List.mem_append.mp hd with hd | hd
  · exact h.le hB d hd
  · rw [List.mem_singleton.mp hd]; exact hc
theorem folds_ (T : Store) (a b : Int) (most : Nat) (hm : most ≤ 8) (ha : 0 ≤ a) (hb : 0 ≤ b) : ∃ r a' b', r.length ≤ most ∧ InB 1000 r ∧ 0 ≤ a' ∧ 0 ≤ b' ∧ F__law_folds [.loc 0, .py (.int (most : Int))] (CS a b T) = .ok (RW r) (CS a' b' T) := by
  obtain ⟨many, a1, b1, mm1, mm2, ha1, hb1, r1⟩ := roll a b ((most : Int) + 1) T ha hb (by omega) (by omega)
  obtain ⟨mn, rfl⟩ := Int.eq_ofNat_of_zero_le mm1
  obtain ⟨c, a2, b2, c1, c2, ha2, hb2, r2⟩ := roll a1 b1 15 T ha1 hb1 (by omega) (by omega)
  obtain ⟨s, a3, b3, s1, s2, ha3, hb3, r3⟩ := roll a2 b2 4 T ha2 hb2 (by omega) (by omega)
  have hw := whS_inv (c := mB (m2 gLtI (mCall gLen (mCons (mV 3) mNil)) (mV 2))) (b := (sSeq (sAs (mCall F__law_roll (mCons (mV 0) (mCons (mK (.int 8)) mNil))) (aN 5))
  (sSeq (sIf (mB (m2 gGt (mV 5) (mK (.int 3)))) (sAs (mCall F__law_some (mCons (mV 0) (mCons (mFr (mCall gLstD (mCons (mK (.int 1)) (mCons (mK (.int 2)) (mCons (mK (.int 3)) (mCons (mK (.int 4)) (mCons (mK (.int 6)) (mCons (mK (.int 7)) (mCons (mK (.int 10)) mNil))))))))) mNil))) (aN 4)) sNx)
  (sSeq (sAs (mCall F__law_some (mCons (mV 0) (mCons (mFr (mCall gLstD (mCons (mV 4) (mCons (m1 gNeg (mV 4)) (mCons (mV 4) (mCons (mIf (mB (m2 gEq (mV 5) (mK (.int 0)))) (mK (.int 0)) (m1 gNeg (mV 4))) mNil)))))) mNil))) (aN 6))
  (sAs (m2 gAdd (mV 3) (mCall gTupD (mCons (mFr (m2 gAdd (m2 gIx (mV 3) (m1 gNeg (mK (.int 1)))) (mV 6))) mNil))) (aN 3))))))
    (fun n env S => ∃ (r : List Int) (st a b : Int) (x5 x6 : Option D), r ≠ [] ∧ r.length + n = max 1 mn ∧ InB (10 * (r.length : Int)) r ∧ (-10 ≤ st ∧ st ≤ 10) ∧ 0 ≤ a ∧ 0 ≤ b ∧ env = [some (.loc 0), some (.py (.int (most : Int))), some (.py (.int (mn : Int))), some (RW r), some (.py (.int st)), x5, x6] ∧ S = CS a b T)
    (fun env S => ∃ (r : List Int) (st a b : Int) (x5 x6 : Option D), InB (10 * (r.length : Int)) r ∧ r.length ≤ 10 ∧ 0 ≤ a ∧ 0 ≤ b ∧ env = [some (.loc 0), some (.py (.int (most : Int))), some (.py (.int (mn : Int))), some (RW r), some (.py (.int st)), x5, x6] ∧ S = CS a b T)
    (by
      rintro n env S ⟨r, st, a, b, x5, x6, hr0, hrn, hri, hst, ha, hb, rfl, rfl⟩
      by_cases h : (r.length : Int) < (mn : Int)
      · right
        refine ⟨by simp -implicitDefEqProofs only [bd_ok, bd_no, bd_exc, bdN_ok, bs_ok, bs_exc, mV_ap, getV_ok, mK_ap, m1_ap, m2_ap, k2_ap, k2'_ap, mNil_ap, mCons_ap, kC1_ap, kC2_ap, mCall_ap, mCallI_ap, mItems_ap, gItems_l, gItems_t, mIf_ap, kIf_t, kIf_f, mCB_ap, mAndT_ap, mOrT_ap, mNotT_ap, kNot_ap, mAnd_ap, kAnd_t, kAnd_f, mOr_ap, kOr_t, kOr_f, mNot_ap, kNotV_ap, mB_ap, kB_ap, mFr_ap, frR_py, frR_no, frR_exc, mSl_ap, kS1_ap, kS2_ap, kS3_ap, oNone_ap, oSome_ap, kO_ap, mChain_ap, kH1_ap, kH2_ap, kH3_t, kH3_f, mMeth_ap, kMe2_ap, sSeq_ap, seqK_nx, seqK_rt, seqK_bk, seqK_ct, seqK_exc, seqK_no, sNx_ap, sNo_ap, sEx_ap, kE_ap, sRet_ap, kR_ap, sRetN_ap, sIf_ap, kSI_t, kSI_f, sAs_ap, kA_ap, asK_ok, aN_ap, kA_N, asNil_ap, asCons_ap, kG_ap, asSub_ap, kU1_ap, kU2_ap, sFor_ap, kF_ap, sPar_ap, kP2_ap, sPar3_ap, kP3_ap, endB_nx, endB_rt, endB_exc, endB_no, gAdd_i, gSub_i, gLtI_i, gLe_i, gGt_i, gGe_i, gNeg_i, gIntF_i, gAbs_i, gMax2_i, gMin2_i, gLen_l, gLen_t, gTupF_l, gTupF_t, gSl_t, gRev_t, gIs_b, gIsNot_b, gIs_n, gIsNot_n, pys_nil, gZip_t, List.getElem?_cons_zero, List.getElem?_cons_succ, List.set_cons_zero, List.set_cons_succ, List.map_cons, List.map_nil, List.length_cons, List.length_nil, List.cons_append, List.nil_append, Nat.reduceAdd, Nat.reduceSub, List.replicate_succ, List.replicate_zero, ofInts_len, wipeE, List.take_length, frR_new, decide_true, decide_false, Bool.not_true, Bool.not_false, mDNew_ap, sDput_ap, kD1_ap, kD2_ap, kD3_ap, mGet2_ap, kG2_ap, kG3_ap, mIfT_ap, decide_eq_true h], ?_⟩
        obtain ⟨way, a1, b1, w1, w2, ha1, hb1, q1⟩ := roll a b 8 T ha hb (by omega) (by omega)
        obtain ⟨st', a2, b2, ha2, hb2, hst', q2⟩ := st_step T a1 b1 (some (.loc 0)) (some (.py (.int (most : Int)))) (some (.py (.int (mn : Int)))) (some (RW r)) x6 st way ha1 hb1 hst rfl
        obtain ⟨tu, a3, b3, ha3, hb3, htu, q3⟩ := st_turn T a2 b2 (some (.loc 0)) (some (.py (.int (most : Int)))) (some (.py (.int (mn : Int)))) (some (RW r)) x6 st' way ha2 hb2 hst' rfl
        have hlast := hri _ (List.getLast_mem hr0)
        have e5 : ∀ S, gAdd (.py (.tuple (ofInts r))) (.py (.tuple [.int (r.getLast hr0 + tu)])) S = .ok (RW (r ++ [r.getLast hr0 + tu])) S := fun S => (gAdd_t (fits_le (by rw [ofInts_len]; simp only [List.length_cons, List.length_nil]; omega))).trans (by unfold RW; rw [← ofInts_append]; rfl)
        refine ⟨n - 1, _, _, by omega, ?_, r ++ [r.getLast hr0 + tu], st', a3, b3, some (.py (.int way)), some (.py (.int tu)), by simp, ?_, ?_, hst', ha3, hb3, rfl, rfl⟩
        · have q0 : sAs (mCall F__law_roll (mCons (mV 0) (mCons (mK (.int 8)) mNil))) (aN 5) [some (.loc 0), some (.py (.int (most : Int))), some (.py (.int (mn : Int))), some (RW r), some (.py (.int st)), x5, x6] (CS a b T) = .go .nx [some (.loc 0), some (.py (.int (most : Int))), some (.py (.int (mn : Int))), some (RW r), some (.py (.int st)), some (.py (.int way)), x6] (CS a1 b1 T) := by simp -implicitDefEqProofs only [bd_ok, bd_no, bd_exc, bdN_ok, bs_ok, bs_exc, mV_ap, getV_ok, mK_ap, m1_ap, m2_ap, k2_ap, k2'_ap, mNil_ap, mCons_ap, kC1_ap, kC2_ap, mCall_ap, mCallI_ap, mItems_ap, gItems_l, gItems_t, mIf_ap, kIf_t, kIf_f, mCB_ap, mAndT_ap, mOrT_ap, mNotT_ap, kNot_ap, mAnd_ap, kAnd_t, kAnd_f, mOr_ap, kOr_t, kOr_f, mNot_ap, kNotV_ap, mB_ap, kB_ap, mFr_ap, frR_py, frR_no, frR_exc, mSl_ap, kS1_ap, kS2_ap, kS3_ap, oNone_ap, oSome_ap, kO_ap, mChain_ap, kH1_ap, kH2_ap, kH3_t, kH3_f, mMeth_ap, kMe2_ap, sSeq_ap, seqK_nx, seqK_rt, seqK_bk, seqK_ct, seqK_exc, seqK_no, sNx_ap, sNo_ap, sEx_ap, kE_ap, sRet_ap, kR_ap, sRetN_ap, sIf_ap, kSI_t, kSI_f, sAs_ap, kA_ap, asK_ok, aN_ap, kA_N, asNil_ap, asCons_ap, kG_ap, asSub_ap, kU1_ap, kU2_ap, sFor_ap, kF_ap, sPar_ap, kP2_ap, sPar3_ap, kP3_ap, endB_nx, endB_rt, endB_exc, endB_no, gAdd_i, gSub_i, gLtI_i, gLe_i, gGt_i, gGe_i, gNeg_i, gIntF_i, gAbs_i, gMax2_i, gMin2_i, gLen_l, gLen_t, gTupF_l, gTupF_t, gSl_t, gRev_t, gIs_b, gIsNot_b, gIs_n, gIsNot_n, pys_nil, gZip_t, List.getElem?_cons_zero, List.getElem?_cons_succ, List.set_cons_zero, List.set_cons_succ, List.map_cons, List.map_nil, List.length_cons, List.length_nil, List.cons_append, List.nil_append, Nat.reduceAdd, Nat.reduceSub, List.replicate_succ, List.replicate_zero, ofInts_len, wipeE, List.take_length, frR_new, decide_true, decide_false, Bool.not_true, Bool.not_false, mDNew_ap, sDput_ap, kD1_ap, kD2_ap, kD3_ap, mGet2_ap, kG2_ap, kG3_ap, mIfT_ap, q1]
          rw [sSeq_nx q0, sSeq_nx q2, sSeq_nx q3]
          simp -implicitDefEqProofs only [bd_ok, bd_no, bd_exc, bdN_ok, bs_ok, bs_exc, mV_ap, getV_ok, mK_ap, m1_ap, m2_ap, k2_ap, k2'_ap, mNil_ap, mCons_ap, kC1_ap, kC2_ap, mCall_ap, mCallI_ap, mItems_ap, gItems_l, gItems_t, mIf_ap, kIf_t, kIf_f, mCB_ap, mAndT_ap, mOrT_ap, mNotT_ap, kNot_ap, mAnd_ap, kAnd_t, kAnd_f, mOr_ap, kOr_t, kOr_f, mNot_ap, kNotV_ap, mB_ap, kB_ap, mFr_ap, frR_py, frR_no, frR_exc, mSl_ap, kS1_ap, kS2_ap, kS3_ap, oNone_ap, oSome_ap, kO_ap, mChain_ap, kH1_ap, kH2_ap, kH3_t, kH3_f, mMeth_ap, kMe2_ap, sSeq_ap, seqK_nx, seqK_rt, seqK_bk, seqK_ct, seqK_exc, seqK_no, sNx_ap, sNo_ap, sEx_ap, kE_ap, sRet_ap, kR_ap, sRetN_ap, sIf_ap, kSI_t, kSI_f, sAs_ap, kA_ap, asK_ok, aN_ap, kA_N, asNil_ap, asCons_ap, kG_ap, asSub_ap, kU1_ap, kU2_ap, sFor_ap, kF_ap, sPar_ap, kP2_ap, sPar3_ap, kP3_ap, endB_nx, endB_rt, endB_exc, endB_no, gAdd_i, gSub_i, gLtI_i, gLe_i, gGt_i, gGe_i, gNeg_i, gIntF_i, gAbs_i, gMax2_i, gMin2_i, gLen_l, gLen_t, gTupF_l, gTupF_t, gSl_t, gRev_t, gIs_b, gIsNot_b, gIs_n, gIsNot_n, pys_nil, gZip_t, List.getElem?_cons_zero, List.getElem?_cons_succ, List.set_cons_zero, List.set_cons_succ, List.map_cons, List.map_nil, List.length_cons, List.length_nil, List.cons_append, List.nil_append, Nat.reduceAdd, Nat.reduceSub, List.replicate_succ, List.replicate_zero, ofInts_len, wipeE, List.take_length, frR_new, decide_true, decide_false, Bool.not_true, Bool.not_false, mDNew_ap, sDput_ap, kD1_ap, kD2_ap, kD3_ap, mGet2_ap, kG2_ap, kG3_ap, mIfT_ap, gIx_last hr0, gTupD1, e5]
        · rw [List.length_append]; simp only [List.length_cons, List.length_nil]; omega
        · refine hri.snoc (by rw [List.length_append]; simp only [List.length_cons, List.length_nil]; omega) ?_
          rw [List.length_append]; simp only [List.length_cons, List.length_nil]; omega
      · left
        exact ⟨by simp -implicitDefEqProofs only [bd_ok, bd_no, bd_exc, bdN_ok, bs_ok, bs_exc, mV_ap, getV_ok, mK_ap, m1_ap, m2_ap, k2_ap, k2'_ap, mNil_ap, mCons_ap, kC1_ap, kC2_ap, mCall_ap, mCallI_ap, mItems_ap, gItems_l, gItems_t, mIf_ap, kIf_t, kIf_f, mCB_ap, mAndT_ap, mOrT_ap, mNotT_ap, kNot_ap, mAnd_ap, kAnd_t, kAnd_f, mOr_ap, kOr_t, kOr_f, mNot_ap, kNotV_ap, mB_ap, kB_ap, mFr_ap, frR_py, frR_no, frR_exc, mSl_ap, kS1_ap, kS2_ap, kS3_ap, oNone_ap, oSome_ap, kO_ap, mChain_ap, kH1_ap, kH2_ap, kH3_t, kH3_f, mMeth_ap, kMe2_ap, sSeq_ap, seqK_nx, seqK_rt, seqK_bk, seqK_ct, seqK_exc, seqK_no, sNx_ap, sNo_ap, sEx_ap, kE_ap, sRet_ap, kR_ap, sRetN_ap, sIf_ap, kSI_t, kSI_f, sAs_ap, kA_ap, asK_ok, aN_ap, kA_N, asNil_ap, asCons_ap, kG_ap, asSub_ap, kU1_ap, kU2_ap, sFor_ap, kF_ap, sPar_ap, kP2_ap, sPar3_ap, kP3_ap, endB_nx, endB_rt, endB_exc, endB_no, gAdd_i, gSub_i, gLtI_i, gLe_i, gGt_i, gGe_i, gNeg_i, gIntF_i, gAbs_i, gMax2_i, gMin2_i, gLen_l, gLen_t, gTupF_l, gTupF_t, gSl_t, gRev_t, gIs_b, gIsNot_b, gIs_n, gIsNot_n, pys_nil, gZip_t, List.getElem?_cons_zero, List.getElem?_cons_succ, List.set_cons_zero, List.set_cons_succ, List.map_cons, List.map_nil, List.length_cons, List.length_nil, List.cons_append, List.nil_append, Nat.reduceAdd, Nat.reduceSub, List.replicate_succ, List.replicate_zero, ofInts_len, wipeE, List.take_length, frR_new, decide_true, decide_false, Bool.not_true, Bool.not_false, mDNew_ap, sDput_ap, kD1_ap, kD2_ap, kD3_ap, mGet2_ap, kG2_ap, kG3_ap, mIfT_ap, decide_eq_false h], r, st, a, b, x5, x6, hri, by omega, ha, hb, rfl, rfl⟩)
    1000000 (max 1 mn - 1) _ _ (by omega) ⟨[c - 7], 1 + s, a3, b3, none, none, by simp, by simp only [List.length_cons, List.length_nil]; omega, (by
      intro d hd
      rw [List.mem_singleton.mp hd]
      simp only [List.length_cons, List.length_nil]; omega), by omega, ha3, hb3, rfl, rfl⟩
  obtain ⟨env', S', ew, r, st, a4, b4, x5, x6, hri, hrl, ha4, hb4, rfl, rfl⟩ := hw
  refine ⟨r.take mn, a4, b4, by rw [List.length_take]; omega, fun d hd => (hri.le (by omega : 10 * (r.length : Int) ≤ 1000)) d (List.mem_of_mem_take hd), ha4, hb4, ?_⟩
  unfold F__law_folds
  rw [runF_ap]
  unfold b__law_folds
  have ec : cutL (ofInts r) none (some (mn : Int)) = ofInts (r.take mn) := by rw [cutL_ofInts, cutL_to]
  have e15 : RW [c - 7] = .py (.tuple [PyData.int (c - 7)]) := rfl
  rw [e15] at ew
  have h1 : sAs (mCall F__law_roll (mCons (mV 0) (mCons (m2 gAdd (mV 1) (mK (.int 1))) mNil))) (aN 2) [some (.loc 0), some (.py (.int (most : Int))), none, none, none, none, none] (CS a b T) = .go .nx [some (.loc 0), some (.py (.int (most : Int))), some (.py (.int (mn : Int))), none, none, none, none] (CS a1 b1 T) := by simp -implicitDefEqProofs only [bd_ok, bd_no, bd_exc, bdN_ok, bs_ok, bs_exc, mV_ap, getV_ok, mK_ap, m1_ap, m2_ap, k2_ap, k2'_ap, mNil_ap, mCons_ap, kC1_ap, kC2_ap, mCall_ap, mCallI_ap, mItems_ap, gItems_l, gItems_t, mIf_ap, kIf_t, kIf_f, mCB_ap, mAndT_ap, mOrT_ap, mNotT_ap, kNot_ap, mAnd_ap, kAnd_t, kAnd_f, mOr_ap, kOr_t, kOr_f, mNot_ap, kNotV_ap, mB_ap, kB_ap, mFr_ap, frR_py, frR_no, frR_exc, mSl_ap, kS1_ap, kS2_ap, kS3_ap, oNone_ap, oSome_ap, kO_ap, mChain_ap, kH1_ap, kH2_ap, kH3_t, kH3_f, mMeth_ap, kMe2_ap, sSeq_ap, seqK_nx, seqK_rt, seqK_bk, seqK_ct, seqK_exc, seqK_no, sNx_ap, sNo_ap, sEx_ap, kE_ap, sRet_ap, kR_ap, sRetN_ap, sIf_ap, kSI_t, kSI_f, sAs_ap, kA_ap, asK_ok, aN_ap, kA_N, asNil_ap, asCons_ap, kG_ap, asSub_ap, kU1_ap, kU2_ap, sFor_ap, kF_ap, sPar_ap, kP2_ap, sPar3_ap, kP3_ap, endB_nx, endB_rt, endB_exc, endB_no, gAdd_i, gSub_i, gLtI_i, gLe_i, gGt_i, gGe_i, gNeg_i, gIntF_i, gAbs_i, gMax2_i, gMin2_i, gLen_l, gLen_t, gTupF_l, gTupF_t, gSl_t, gRev_t, gIs_b, gIsNot_b, gIs_n, gIsNot_n, pys_nil, gZip_t, List.getElem?_cons_zero, List.getElem?_cons_succ, List.set_cons_zero, List.set_cons_succ, List.map_cons, List.map_nil, List.length_cons, List.length_nil, List.cons_append, List.nil_append, Nat.reduceAdd, Nat.reduceSub, List.replicate_succ, List.replicate_zero, ofInts_len, wipeE, List.take_length, frR_new, decide_true, decide_false, Bool.not_true, Bool.not_false, mDNew_ap, sDput_ap, kD1_ap, kD2_ap, kD3_ap, mGet2_ap, kG2_ap, kG3_ap, mIfT_ap, r1]
  have h2 : sPar 3 4 (mCons (mCall gTupD (mCons (m2 PX.gSub (mCall F__law_roll (mCons (mV 0) (mCons (mK (.int 15)) mNil))) (mK (.int 7))) mNil)) (mCons (m2 gAdd (mK (.int 1)) (mCall F__law_roll (mCons (mV 0) (mCons (mK (.int 4)) mNil)))) mNil)) [some (.loc 0), some (.py (.int (most : Int))), some (.py (.int (mn : Int))), none, none, none, none] (CS a1 b1 T) = .go .nx [some (.loc 0), some (.py (.int (most : Int))), some (.py (.int (mn : Int))), some (.py (.tuple [.int (c - 7)])), some (.py (.int (1 + s))), none, none] (CS a3 b3 T) := by simp -implicitDefEqProofs only [bd_ok, bd_no, bd_exc, bdN_ok, bs_ok, bs_exc, mV_ap, getV_ok, mK_ap, m1_ap, m2_ap, k2_ap, k2'_ap, mNil_ap, mCons_ap, kC1_ap, kC2_ap, mCall_ap, mCallI_ap, mItems_ap, gItems_l, gItems_t, mIf_ap, kIf_t, kIf_f, mCB_ap, mAndT_ap, mOrT_ap, mNotT_ap, kNot_ap, mAnd_ap, kAnd_t, kAnd_f, mOr_ap, kOr_t, kOr_f, mNot_ap, kNotV_ap, mB_ap, kB_ap, mFr_ap, frR_py, frR_no, frR_exc, mSl_ap, kS1_ap, kS2_ap, kS3_ap, oNone_ap, oSome_ap, kO_ap, mChain_ap, kH1_ap, kH2_ap, kH3_t, kH3_f, mMeth_ap, kMe2_ap, sSeq_ap, seqK_nx, seqK_rt, seqK_bk, seqK_ct, seqK_exc, seqK_no, sNx_ap, sNo_ap, sEx_ap, kE_ap, sRet_ap, kR_ap, sRetN_ap, sIf_ap, kSI_t, kSI_f, sAs_ap, kA_ap, asK_ok, aN_ap, kA_N, asNil_ap, asCons_ap, kG_ap, asSub_ap, kU1_ap, kU2_ap, sFor_ap, kF_ap, sPar_ap, kP2_ap, sPar3_ap, kP3_ap, endB_nx, endB_rt, endB_exc, endB_no, gAdd_i, gSub_i, gLtI_i, gLe_i, gGt_i, gGe_i, gNeg_i, gIntF_i, gAbs_i, gMax2_i, gMin2_i, gLen_l, gLen_t, gTupF_l, gTupF_t, gSl_t, gRev_t, gIs_b, gIsNot_b, gIs_n, gIsNot_n, pys_nil, gZip_t, List.getElem?_cons_zero, List.getElem?_cons_succ, List.set_cons_zero, List.set_cons_succ, List.map_cons, List.map_nil, List.length_cons, List.length_nil, List.cons_append, List.nil_append, Nat.reduceAdd, Nat.reduceSub, List.replicate_succ, List.replicate_zero, ofInts_len, wipeE, List.take_length, frR_new, decide_true, decide_false, Bool.not_true, Bool.not_false, mDNew_ap, sDput_ap, kD1_ap, kD2_ap, kD3_ap, mGet2_ap, kG2_ap, kG3_ap, mIfT_ap, r2, r3, gTupD1]
  show frR _ (endB (sSeq _ _ [some (.loc 0), some (.py (.int (most : Int))), none, none, none, none, none] _)) = _
  rw [sSeq_nx h1, sSeq_nx h2, sSeq_nx ew]
  simp -implicitDefEqProofs only [bd_ok, bd_no, bd_exc, bdN_ok, bs_ok, bs_exc, mV_ap, getV_ok, mK_ap, m1_ap, m2_ap, k2_ap, k2'_ap, mNil_ap, mCons_ap, kC1_ap, kC2_ap, mCall_ap, mCallI_ap, mItems_ap, gItems_l, gItems_t, mIf_ap, kIf_t, kIf_f, mCB_ap, mAndT_ap, mOrT_ap, mNotT_ap, kNot_ap, mAnd_ap, kAnd_t, kAnd_f, mOr_ap, kOr_t, kOr_f, mNot_ap, kNotV_ap, mB_ap, kB_ap, mFr_ap, frR_py, frR_no, frR_exc, mSl_ap, kS1_ap, kS2_ap, kS3_ap, oNone_ap, oSome_ap, kO_ap, mChain_ap, kH1_ap, kH2_ap, kH3_t, kH3_f, mMeth_ap, kMe2_ap, sSeq_ap, seqK_nx, seqK_rt, seqK_bk, seqK_ct, seqK_exc, seqK_no, sNx_ap, sNo_ap, sEx_ap, kE_ap, sRet_ap, kR_ap, sRetN_ap, sIf_ap, kSI_t, kSI_f, sAs_ap, kA_ap, asK_ok, aN_ap, kA_N, asNil_ap, asCons_ap, kG_ap, asSub_ap, kU1_ap, kU2_ap, sFor_ap, kF_ap, sPar_ap, kP2_ap, sPar3_ap, kP3_ap, endB_nx, endB_rt, endB_exc, endB_no, gAdd_i, gSub_i, gLtI_i, gLe_i, gGt_i, gGe_i, gNeg_i, gIntF_i, gAbs_i, gMax2_i, gMin2_i, gLen_l, gLen_t, gTupF_l, gTupF_t, gSl_t, gRev_t, gIs_b, gIsNot_b, gIs_n, gIsNot_n, pys_nil, gZip_t, List.getElem?_cons_zero, List.getElem?_cons_succ, List.set_cons_zero, List.set_cons_succ, List.map_cons, List.map_nil, List.length_cons, List.length_nil, List.cons_append, List.nil_append, Nat.reduceAdd, Nat.reduceSub, List.replicate_succ, List.replicate_zero, ofInts_len, wipeE, List.take_length, frR_new, decide_true, decide_false, Bool.not_true, Bool.not_false, mDNew_ap, sDput_ap, kD1_ap, kD2_ap, kD3_ap, mGet2_ap, kG2_ap, kG3_ap, mIfT_ap, ec, take_CS]
theorem some_folds_ (T : Store) (a b : Int) (most : Nat) (hm : most ≤ 8) (h1 : 1 ≤ most) (ha : 0 ≤ a) (hb : 0 ≤ b) : ∃ r a' b', r.length ≤ most ∧ InB 1000 r ∧ 0 ≤ a' ∧ 0 ≤ b' ∧ F__law_some_folds [.loc 0, .py (.int (most : Int))] (CS a b T) = .ok (RW r) (CS a' b' T) := by
  obtain ⟨r, a1, b1, rl, ri, ha1, hb1, e⟩ := folds_ T a b most hm ha hb
  by_cases h : r = []
  · subst h
    obtain ⟨c, a2, b2, c1, c2, ha2, hb2, r2⟩ := roll a1 b1 15 T ha1 hb1 (by omega) (by omega)
    refine ⟨[c - 7], a2, b2, by simpa using h1, ?_, ha2, hb2, ?_⟩
    · intro d hd; rw [List.mem_singleton.mp hd]; omega
    · unfold F__law_some_folds
      rw [runF_ap]
      unfold b__law_some_folds
      simp -implicitDefEqProofs only [bd_ok, bd_no, bd_exc, bdN_ok, bs_ok, bs_exc, mV_ap, getV_ok, mK_ap, m1_ap, m2_ap, k2_ap, k2'_ap, mNil_ap, mCons_ap, kC1_ap, kC2_ap, mCall_ap, mCallI_ap, mItems_ap, gItems_l, gItems_t, mIf_ap, kIf_t, kIf_f, mCB_ap, mAndT_ap, mOrT_ap, mNotT_ap, kNot_ap, mAnd_ap, kAnd_t, kAnd_f, mOr_ap, kOr_t, kOr_f, mNot_ap, kNotV_ap, mB_ap, kB_ap, mFr_ap, frR_py, frR_no, frR_exc, mSl_ap, kS1_ap, kS2_ap, kS3_ap, oNone_ap, oSome_ap, kO_ap, mChain_ap, kH1_ap, kH2_ap, kH3_t, kH3_f, mMeth_ap, kMe2_ap, sSeq_ap, seqK_nx, seqK_rt, seqK_bk, seqK_ct, seqK_exc, seqK_no, sNx_ap, sNo_ap, sEx_ap, kE_ap, sRet_ap, kR_ap, sRetN_ap, sIf_ap, kSI_t, kSI_f, sAs_ap, kA_ap, asK_ok, aN_ap, kA_N, asNil_ap, asCons_ap, kG_ap, asSub_ap, kU1_ap, kU2_ap, sFor_ap, kF_ap, sPar_ap, kP2_ap, sPar3_ap, kP3_ap, endB_nx, endB_rt, endB_exc, endB_no, gAdd_i, gSub_i, gLtI_i, gLe_i, gGt_i, gGe_i, gNeg_i, gIntF_i, gAbs_i, gMax2_i, gMin2_i, gLen_l, gLen_t, gTupF_l, gTupF_t, gSl_t, gRev_t, gIs_b, gIsNot_b, gIs_n, gIsNot_n, pys_nil, gZip_t, List.getElem?_cons_zero, List.getElem?_cons_succ, List.set_cons_zero, List.set_cons_succ, List.map_cons, List.map_nil, List.length_cons, List.length_nil, List.cons_append, List.nil_append, Nat.reduceAdd, Nat.reduceSub, List.replicate_succ, List.replicate_zero, ofInts_len, wipeE, List.take_length, frR_new, decide_true, decide_false, Bool.not_true, Bool.not_false, mDNew_ap, sDput_ap, kD1_ap, kD2_ap, kD3_ap, mGet2_ap, kG2_ap, kG3_ap, mIfT_ap, e, gTupD0, gNe_r0, r2, gTupD1, take_CS]
      rfl
  · refine ⟨r, a1, b1, rl, ri, ha1, hb1, ?_⟩
    unfold F__law_some_folds
    rw [runF_ap]
    unfold b__law_some_folds
    simp -implicitDefEqProofs only [bd_ok, bd_no, bd_exc, bdN_ok, bs_ok, bs_exc, mV_ap, getV_ok, mK_ap, m1_ap, m2_ap, k2_ap, k2'_ap, mNil_ap, mCons_ap, kC1_ap, kC2_ap, mCall_ap, mCallI_ap, mItems_ap, gItems_l, gItems_t, mIf_ap, kIf_t, kIf_f, mCB_ap, mAndT_ap, mOrT_ap, mNotT_ap, kNot_ap, mAnd_ap, kAnd_t, kAnd_f, mOr_ap, kOr_t, kOr_f, mNot_ap, kNotV_ap, mB_ap, kB_ap, mFr_ap, frR_py, frR_no, frR_exc, mSl_ap, kS1_ap, kS2_ap, kS3_ap, oNone_ap, oSome_ap, kO_ap, mChain_ap, kH1_ap, kH2_ap, kH3_t, kH3_f, mMeth_ap, kMe2_ap, sSeq_ap, seqK_nx, seqK_rt, seqK_bk, seqK_ct, seqK_exc, seqK_no, sNx_ap, sNo_ap, sEx_ap, kE_ap, sRet_ap, kR_ap, sRetN_ap, sIf_ap, kSI_t, kSI_f, sAs_ap, kA_ap, asK_ok, aN_ap, kA_N, asNil_ap, asCons_ap, kG_ap, asSub_ap, kU1_ap, kU2_ap, sFor_ap, kF_ap, sPar_ap, kP2_ap, sPar3_ap, kP3_ap, endB_nx, endB_rt, endB_exc, endB_no, gAdd_i, gSub_i, gLtI_i, gLe_i, gGt_i, gGe_i, gNeg_i, gIntF_i, gAbs_i, gMax2_i, gMin2_i, gLen_l, gLen_t, gTupF_l, gTupF_t, gSl_t, gRev_t, gIs_b, gIsNot_b, gIs_n, gIsNot_n, pys_nil, gZip_t, List.getElem?_cons_zero, List.getElem?_cons_succ, List.set_cons_zero, List.set_cons_succ, List.map_cons, List.map_nil, List.length_cons, List.length_nil, List.cons_append, List.nil_append, Nat.reduceAdd, Nat.reduceSub, List.replicate_succ, List.replicate_zero, ofInts_len, wipeE, List.take_length, frR_new, decide_true, decide_false, Bool.not_true, Bool.not_false, mDNew_ap, sDput_ap, kD1_ap, kD2_ap, kD3_ap, mGet2_ap, kG2_ap, kG3_ap, mIfT_ap, e, gTupD0, gNe_r0, decide_eq_false h, take_CS]
theorem cup_ (ns : List Int) (hn : ns.length ≤ 63) : ∃ a b, 0 ≤ a ∧ 0 ≤ b ∧ F__law_cup [.py (.list (ofInts ns))] [] = .ok (.loc 0) (CS a b []) := by
  have e1 : ∀ S, gLstF [.py (.list (ofInts ns))] S = .ok (.loc S.length) (S ++ [.lst (ofInts ns)]) := fun S => gLstF_l (fits_le (by rw [ofInts_len]; omega))
  have e2 : ∀ S, gAdd (.py (.list (ofInts ns))) (.py (.list [.int 0])) S = .ok (.loc S.length) (S ++ [.lst (ofInts (ns ++ [0]))]) := fun S => (gAdd_l (fits_le (by rw [ofInts_len]; simp only [List.length_cons, List.length_nil]; omega))).trans (by rw [← ofInts_append]; rfl)
  obtain ⟨h0, rest, hr⟩ : ∃ h0 rest, ns ++ [0] = h0 :: rest := by cases ns with
    | nil => exact ⟨0, [], rfl⟩
    | cons x r => exact ⟨x, r ++ [0], rfl⟩
  have e3 : ∀ S, gIx (.py (.list (ofInts (ns ++ [0])))) (.py (.int 0)) S = .ok (.py (.int h0)) S := by
    intro S; rw [hr]
    exact gIx_l (by rw [atI_ofInts]; have := atI_nat (h0 :: rest) 0 (by simp); rw [show ((0 : Nat) : Int) = 0 from rfl] at this; rw [this]; rfl)
  have hc : 0 ≤ iabs h0 := FM.iabs_nn h0
  generalize hcc : iabs h0 = c at hc
  have e4 : gAbs [.py (.int h0)] [] = .ok (.py (.int c)) [] := by rw [← hcc]; rfl
  have e5 : ∀ S, gPow (.py (.int 10)) (.py (.int 18)) S = .ok (.py (.int 1000000000000000000)) S := fun S => rfl
  have e6 : ∀ S, gMul (.py (.int c)) (.py (.int 239)) S = .ok (.py (.int (c * 239))) S := fun S => gMul_i (cMul_r (by decide))
  have e7 : ∀ c S, gMod (.py (.int c)) (.py (.int 2077503509)) S = .ok (.py (.int (c % 2077503509))) S := fun c S => gMod_i (by decide)
  have e8 : ∀ c S, gDiv (.py (.int c)) (.py (.int 37)) S = .ok (.py (.int (c / 37))) S := fun c S => gDiv_i (cDiv_s (by decide) (by decide))
  have e9 : ∀ x y : Int, gLstD [.py (.int x), .py (.int y)] [] = .ok (.loc 0) (CS x y []) := fun x y => rfl
  have h1 : sAs (mCall gAbs (mCons (m2 gIx (mFr (m2 gAdd (mFr (mCall gLstF (mCons (mV 0) mNil))) (mFr (mCall gLstD (mCons (mK (.int 0)) mNil))))) (mK (.int 0))) mNil)) (aN 1) [some (.py (.list (ofInts ns))), none] [] = .go .nx [some (.py (.list (ofInts ns))), some (.py (.int c))] [] := by
    simp -implicitDefEqProofs only [sAs_ap, mCall_ap, mCons_ap, m2_ap, mFr_ap, mV_ap, getV_ok, bd_ok, kC1_ap, mNil_ap, kC2_ap, k2_ap, k2'_ap, mK_ap, List.getElem?_cons_zero, e1, gLstD1, e2, e3, frR_new]
    rw [e4]
    rfl
  have hm : 0 ≤ (c * 239 + 1913) % 2077503509 := Int.emod_nonneg _ (by omega)
  by_cases h : 1000000000000000000 ≤ c
  · refine ⟨c / 37, (c * 239 + 1913) % 2077503509 + 127, Int.ediv_nonneg hc (by omega), by omega, ?_⟩
    unfold F__law_cup
    rw [runM_ap]
    show endB (sSeq _ _ [some (.py (.list (ofInts ns))), none] _) = _
    rw [sSeq_nx h1]
    simp -implicitDefEqProofs only [bd_ok, bd_no, bd_exc, bdN_ok, bs_ok, bs_exc, mV_ap, getV_ok, mK_ap, m1_ap, m2_ap, k2_ap, k2'_ap, mNil_ap, mCons_ap, kC1_ap, kC2_ap, mCall_ap, mCallI_ap, mItems_ap, gItems_l, gItems_t, mIf_ap, kIf_t, kIf_f, mCB_ap, mAndT_ap, mOrT_ap, mNotT_ap, kNot_ap, mAnd_ap, kAnd_t, kAnd_f, mOr_ap, kOr_t, kOr_f, mNot_ap, kNotV_ap, mB_ap, kB_ap, mFr_ap, frR_py, frR_no, frR_exc, mSl_ap, kS1_ap, kS2_ap, kS3_ap, oNone_ap, oSome_ap, kO_ap, mChain_ap, kH1_ap, kH2_ap, kH3_t, kH3_f, mMeth_ap, kMe2_ap, sSeq_ap, seqK_nx, seqK_rt, seqK_bk, seqK_ct, seqK_exc, seqK_no, sNx_ap, sNo_ap, sEx_ap, kE_ap, sRet_ap, kR_ap, sRetN_ap, sIf_ap, kSI_t, kSI_f, sAs_ap, kA_ap, asK_ok, aN_ap, kA_N, asNil_ap, asCons_ap, kG_ap, asSub_ap, kU1_ap, kU2_ap, sFor_ap, kF_ap, sPar_ap, kP2_ap, sPar3_ap, kP3_ap, endB_nx, endB_rt, endB_exc, endB_no, gAdd_i, gSub_i, gLtI_i, gLe_i, gGt_i, gGe_i, gNeg_i, gIntF_i, gAbs_i, gMax2_i, gMin2_i, gLen_l, gLen_t, gTupF_l, gTupF_t, gSl_t, gRev_t, gIs_b, gIsNot_b, gIs_n, gIsNot_n, pys_nil, gZip_t, List.getElem?_cons_zero, List.getElem?_cons_succ, List.set_cons_zero, List.set_cons_succ, List.map_cons, List.map_nil, List.length_cons, List.length_nil, List.cons_append, List.nil_append, Nat.reduceAdd, Nat.reduceSub, List.replicate_succ, List.replicate_zero, ofInts_len, wipeE, List.take_length, frR_new, decide_true, decide_false, Bool.not_true, Bool.not_false, mDNew_ap, sDput_ap, kD1_ap, kD2_ap, kD3_ap, mGet2_ap, kG2_ap, kG3_ap, mIfT_ap, e5, decide_eq_true h, e6, e7, e8, e9]
  · refine ⟨0, (c * 239 + 1913) % 2077503509 + 127, by omega, by omega, ?_⟩
    unfold F__law_cup
    rw [runM_ap]
    show endB (sSeq _ _ [some (.py (.list (ofInts ns))), none] _) = _
    rw [sSeq_nx h1]
    simp -implicitDefEqProofs only [bd_ok, bd_no, bd_exc, bdN_ok, bs_ok, bs_exc, mV_ap, getV_ok, mK_ap, m1_ap, m2_ap, k2_ap, k2'_ap, mNil_ap, mCons_ap, kC1_ap, kC2_ap, mCall_ap, mCallI_ap, mItems_ap, gItems_l, gItems_t, mIf_ap, kIf_t, kIf_f, mCB_ap, mAndT_ap, mOrT_ap, mNotT_ap, kNot_ap, mAnd_ap, kAnd_t, kAnd_f, mOr_ap, kOr_t, kOr_f, mNot_ap, kNotV_ap, mB_ap, kB_ap, mFr_ap, frR_py, frR_no, frR_exc, mSl_ap, kS1_ap, kS2_ap, kS3_ap, oNone_ap, oSome_ap, kO_ap, mChain_ap, kH1_ap, kH2_ap, kH3_t, kH3_f, mMeth_ap, kMe2_ap, sSeq_ap, seqK_nx, seqK_rt, seqK_bk, seqK_ct, seqK_exc, seqK_no, sNx_ap, sNo_ap, sEx_ap, kE_ap, sRet_ap, kR_ap, sRetN_ap, sIf_ap, kSI_t, kSI_f, sAs_ap, kA_ap, asK_ok, aN_ap, kA_N, asNil_ap, asCons_ap, kG_ap, asSub_ap, kU1_ap, kU2_ap, sFor_ap, kF_ap, sPar_ap, kP2_ap, sPar3_ap, kP3_ap, endB_nx, endB_rt, endB_exc, endB_no, gAdd_i, gSub_i, gLtI_i, gLe_i, gGt_i, gGe_i, gNeg_i, gIntF_i, gAbs_i, gMax2_i, gMin2_i, gLen_l, gLen_t, gTupF_l, gTupF_t, gSl_t, gRev_t, gIs_b, gIsNot_b, gIs_n, gIsNot_n, pys_nil, gZip_t, List.getElem?_cons_zero, List.getElem?_cons_succ, List.set_cons_zero, List.set_cons_succ, List.map_cons, List.map_nil, List.length_cons, List.length_nil, List.cons_append, List.nil_append, Nat.reduceAdd, Nat.reduceSub, List.replicate_succ, List.replicate_zero, ofInts_len, wipeE, List.take_length, frR_new, decide_true, decide_false, Bool.not_true, Bool.not_false, mDNew_ap, sDput_ap, kD1_ap, kD2_ap, kD3_ap, mGet2_ap, kG2_ap, kG3_ap, mIfT_ap, e5, decide_eq_false h, e6, e7, e9]
theorem gRev_r (r : List Int) (S : Store) : gRev (RW r) S = .ok (RW r.reverse) S := by
  show R.ok (D.py (.tuple (ofInts r).reverse)) S = _
  rw [ofInts_rev]
theorem gAdd_r (a b : List Int) (S : Store) (h : a.length + b.length ≤ 1000) : gAdd (RW a) (RW b) S = .ok (RW (a ++ b)) S := (gAdd_t (fits_le (by rw [ofInts_len, ofInts_len]; omega))).trans (by rw [ofInts_append])
theorem inb {B : Int} {r : List Int} (h : (r.all fun c => decide (-B ≤ c) && decide (c ≤ B)) = true) : InB B r := by
  intro c hc
  have := List.all_eq_true.mp h c hc
  rw [Bool.and_eq_true] at this
  exact ⟨of_decide_eq_true this.1, of_decide_eq_true this.2⟩
end LW

end P_Q3
section P_Q4
set_option maxHeartbeats 4000000
namespace LW
open PySem PySem.Spec PyProof.Rows L2 PX
abbrev Pr := FM.Pr
def prD (q : Pr) : PyData := .tuple [.int q.1, .int q.2]
abbrev SP (s : List Pr) : D := .py (.tuple (s.map prD))
def dD (D : List Pr) : List (L2.Key × PyData) := D.map fun q => (Sum.inl q.1, PyData.int q.2)
theorem dD_len (D : List Pr) : (dD D).length = D.length := by unfold dD; rw [List.length_map]
theorem lkD_cons (q : Pr) (D : List Pr) (k : Int) : lkD (dD (q :: D)) (.inl k) = if q.1 = k then some (.int q.2) else lkD (dD D) (.inl k) := by
  show lkD ((Sum.inl q.1, PyData.int q.2) :: dD D) (.inl k) = _
  unfold lkD
  by_cases h : q.1 = k
  · rw [if_pos h, List.find?_cons_of_pos (by simpa using h)]; rfl
  · rw [if_neg h, List.find?_cons_of_neg (by simpa using h)]
theorem lkD_get : ∀ (D : List Pr) (k : Int), (lkD (dD D) (.inl k)).getD (.int 0) = .int (FM.get D k)
  | [], k => rfl
  | q :: D, k => by
    rw [lkD_cons]
    by_cases h : q.1 = k
    · rw [if_pos h, FM.get_cons_pos h]; rfl
    · rw [if_neg h, FM.get_cons_neg h, lkD_get D k]
theorem lkD_in : ∀ (D : List Pr) (k : Int), k ∈ D.map (·.1) → lkD (dD D) (.inl k) = some (.int (FM.get D k))
  | [], k, h => by cases h
  | q :: D, k, h => by
    rw [lkD_cons]
    by_cases hq : q.1 = k
    · rw [if_pos hq, FM.get_cons_pos hq]
    · rw [if_neg hq, FM.get_cons_neg hq, lkD_in D k (by
        rw [List.map_cons] at h
        rcases List.mem_cons.mp h with e | e
        · exact absurd e.symm hq
        · exact e)]
theorem putD_dD (D : List Pr) (k v : Int) : putD (dD D) (.inl k) (.int v) = dD (FM.put D k v) := by
  have ha : ((dD D).any fun kv => decide (kv.1 = Sum.inl k)) = (D.any fun kv => decide (kv.1 = k)) := by
    unfold dD
    rw [List.any_map]
    congr 1
    funext q
    show decide ((Sum.inl q.1 : L2.Key) = Sum.inl k) = _
    by_cases h : q.1 = k
    · rw [decide_eq_true h, decide_eq_true (by rw [h])]
    · rw [decide_eq_false h, decide_eq_false (by simpa using h)]
  unfold putD FM.put
  rw [ha]
  split
  · unfold dD
    rw [List.map_map, List.map_map]
    apply List.map_congr_left
    intro q hq
    show (if (Sum.inl q.1 : L2.Key) = Sum.inl k then ((Sum.inl q.1 : L2.Key), PyData.int v) else (Sum.inl q.1, PyData.int q.2)) = (Sum.inl (if q.1 = k then (q.1, v) else q).1, PyData.int (if q.1 = k then (q.1, v) else q).2)
    by_cases h : q.1 = k
    · rw [if_pos (by rw [h]), if_pos h]
    · rw [if_neg (by simpa using h), if_neg h]
  · unfold dD
    rw [List.map_append]; rfl
theorem intKeys_dD : ∀ D : List Pr, intKeys (dD D) = some (D.map (·.1))
  | [] => rfl
  | q :: D => by
    show (intKeys (dD D)).map (q.1 :: ·) = _
    rw [intKeys_dD D]; rfl
theorem gTupD2 (a b : PyData) (S : Store) : gTupD [.py a, .py b] S = .ok (.py (.tuple [a, b])) S := rfl
theorem tidy_ {D : List Pr} (S : Store) (n : Nat) (hn : S[n]? = some (.dI (dD D))) (hl : D.length ≤ 1000000) : F__law_tidy [.loc n] S = .ok (SP (FM.laid (isort (D.map (·.1))) D)) S := by
  have hlt : n < S.length := by
    rcases Nat.lt_or_ge n S.length with h | h
    · exact h
    · rw [List.getElem?_eq_none h] at hn; cases hn
  have e1 : gSortD [.loc n] S = .ok (.loc S.length) (S ++ [.lst (ofInts (isort (D.map (·.1))))]) := by
    unfold gSortD
    simp only [hn, intKeys_dD]
    exact if_pos (fits_le (by rw [List.length_map]; omega))
  have eC : mLc [1] (mItems (mFr (mCall gSortD (mCons (mV 0) mNil)))) (aN 1) mYes (mCall gTupD (mCons (mV 1) (mCons (m2 gDx (mV 0) (mV 1)) mNil))) [some (.loc n), none] S = .ok (.loc S.length) (S ++ [.lst ((FM.laid (isort (D.map (·.1))) D).map prD)]) := by
    rw [mLc_at (ps := ofInts (isort (D.map (·.1)))) (fun p => [some (.loc n), some (.py p)]) (fun _ => true) (fun p => match p with | .int k => prD (k, FM.get D k) | p => p)]
    · rw [List.filter_eq_self.mpr (fun _ _ => rfl)]
      unfold ofInts FM.laid
      rw [List.map_map, List.map_map]; rfl
    · simp -implicitDefEqProofs only [bd_ok, bd_no, bd_exc, bdN_ok, bs_ok, bs_exc, mV_ap, getV_ok, mK_ap, m1_ap, m2_ap, k2_ap, k2'_ap, mNil_ap, mCons_ap, kC1_ap, kC2_ap, mCall_ap, mCallI_ap, mItems_ap, gItems_l, gItems_t, mIf_ap, kIf_t, kIf_f, mCB_ap, mAndT_ap, mOrT_ap, mNotT_ap, kNot_ap, mAnd_ap, kAnd_t, kAnd_f, mOr_ap, kOr_t, kOr_f, mNot_ap, kNotV_ap, mB_ap, kB_ap, mFr_ap, frR_py, frR_no, frR_exc, mSl_ap, kS1_ap, kS2_ap, kS3_ap, oNone_ap, oSome_ap, kO_ap, mChain_ap, kH1_ap, kH2_ap, kH3_t, kH3_f, mMeth_ap, kMe2_ap, sSeq_ap, seqK_nx, seqK_rt, seqK_bk, seqK_ct, seqK_exc, seqK_no, sNx_ap, sNo_ap, sEx_ap, kE_ap, sRet_ap, kR_ap, sRetN_ap, sIf_ap, kSI_t, kSI_f, sAs_ap, kA_ap, asK_ok, aN_ap, kA_N, asNil_ap, asCons_ap, kG_ap, asSub_ap, kU1_ap, kU2_ap, sFor_ap, kF_ap, sPar_ap, kP2_ap, sPar3_ap, kP3_ap, endB_nx, endB_rt, endB_exc, endB_no, gAdd_i, gSub_i, gLtI_i, gLe_i, gGt_i, gGe_i, gNeg_i, gIntF_i, gAbs_i, gMax2_i, gMin2_i, gLen_l, gLen_t, gTupF_l, gTupF_t, gSl_t, gRev_t, gIs_b, gIsNot_b, gIs_n, gIsNot_n, pys_nil, gZip_t, List.getElem?_cons_zero, List.getElem?_cons_succ, List.set_cons_zero, List.set_cons_succ, List.map_cons, List.map_nil, List.length_cons, List.length_nil, List.cons_append, List.nil_append, Nat.reduceAdd, Nat.reduceSub, List.replicate_succ, List.replicate_zero, ofInts_len, wipeE, List.take_length, frR_new, decide_true, decide_false, Bool.not_true, Bool.not_false, mDNew_ap, sDput_ap, kD1_ap, kD2_ap, kD3_ap, mGet2_ap, kG2_ap, kG3_ap, mIfT_ap, e1]
    · rw [ofInts_len, isort_len, List.length_map]; omega
    · intro p hp acc; rfl
    · intro p hp acc; rfl
    · intro p hp _ acc
      obtain ⟨k, hk, rfl⟩ := List.mem_map.mp hp
      have hk' : k ∈ D.map (·.1) := (isort_perm _).mem_iff.mp hk
      have e2 : gDx (.loc n) (.py (.int k)) (S ++ [.lst acc]) = .ok (.py (.int (FM.get D k))) (S ++ [.lst acc]) := by
        unfold gDx
        simp only [List.getElem?_append_left hlt, hn, lkD_in D k hk']
        rfl
      simp -implicitDefEqProofs only [bd_ok, bd_no, bd_exc, bdN_ok, bs_ok, bs_exc, mV_ap, getV_ok, mK_ap, m1_ap, m2_ap, k2_ap, k2'_ap, mNil_ap, mCons_ap, kC1_ap, kC2_ap, mCall_ap, mCallI_ap, mItems_ap, gItems_l, gItems_t, mIf_ap, kIf_t, kIf_f, mCB_ap, mAndT_ap, mOrT_ap, mNotT_ap, kNot_ap, mAnd_ap, kAnd_t, kAnd_f, mOr_ap, kOr_t, kOr_f, mNot_ap, kNotV_ap, mB_ap, kB_ap, mFr_ap, frR_py, frR_no, frR_exc, mSl_ap, kS1_ap, kS2_ap, kS3_ap, oNone_ap, oSome_ap, kO_ap, mChain_ap, kH1_ap, kH2_ap, kH3_t, kH3_f, mMeth_ap, kMe2_ap, sSeq_ap, seqK_nx, seqK_rt, seqK_bk, seqK_ct, seqK_exc, seqK_no, sNx_ap, sNo_ap, sEx_ap, kE_ap, sRet_ap, kR_ap, sRetN_ap, sIf_ap, kSI_t, kSI_f, sAs_ap, kA_ap, asK_ok, aN_ap, kA_N, asNil_ap, asCons_ap, kG_ap, asSub_ap, kU1_ap, kU2_ap, sFor_ap, kF_ap, sPar_ap, kP2_ap, sPar3_ap, kP3_ap, endB_nx, endB_rt, endB_exc, endB_no, gAdd_i, gSub_i, gLtI_i, gLe_i, gGt_i, gGe_i, gNeg_i, gIntF_i, gAbs_i, gMax2_i, gMin2_i, gLen_l, gLen_t, gTupF_l, gTupF_t, gSl_t, gRev_t, gIs_b, gIsNot_b, gIs_n, gIsNot_n, pys_nil, gZip_t, List.getElem?_cons_zero, List.getElem?_cons_succ, List.set_cons_zero, List.set_cons_succ, List.map_cons, List.map_nil, List.length_cons, List.length_nil, List.cons_append, List.nil_append, Nat.reduceAdd, Nat.reduceSub, List.replicate_succ, List.replicate_zero, ofInts_len, wipeE, List.take_length, frR_new, decide_true, decide_false, Bool.not_true, Bool.not_false, mDNew_ap, sDput_ap, kD1_ap, kD2_ap, kD3_ap, mGet2_ap, kG2_ap, kG3_ap, mIfT_ap, e2, gTupD2]
      rfl
  unfold F__law_tidy
  rw [runF_ap]
  unfold b__law_tidy
  simp -implicitDefEqProofs only [bd_ok, bd_no, bd_exc, bdN_ok, bs_ok, bs_exc, mV_ap, getV_ok, mK_ap, m1_ap, m2_ap, k2_ap, k2'_ap, mNil_ap, mCons_ap, kC1_ap, kC2_ap, mCall_ap, mCallI_ap, mItems_ap, gItems_l, gItems_t, mIf_ap, kIf_t, kIf_f, mCB_ap, mAndT_ap, mOrT_ap, mNotT_ap, kNot_ap, mAnd_ap, kAnd_t, kAnd_f, mOr_ap, kOr_t, kOr_f, mNot_ap, kNotV_ap, mB_ap, kB_ap, mFr_ap, frR_py, frR_no, frR_exc, mSl_ap, kS1_ap, kS2_ap, kS3_ap, oNone_ap, oSome_ap, kO_ap, mChain_ap, kH1_ap, kH2_ap, kH3_t, kH3_f, mMeth_ap, kMe2_ap, sSeq_ap, seqK_nx, seqK_rt, seqK_bk, seqK_ct, seqK_exc, seqK_no, sNx_ap, sNo_ap, sEx_ap, kE_ap, sRet_ap, kR_ap, sRetN_ap, sIf_ap, kSI_t, kSI_f, sAs_ap, kA_ap, asK_ok, aN_ap, kA_N, asNil_ap, asCons_ap, kG_ap, asSub_ap, kU1_ap, kU2_ap, sFor_ap, kF_ap, sPar_ap, kP2_ap, sPar3_ap, kP3_ap, endB_nx, endB_rt, endB_exc, endB_no, gAdd_i, gSub_i, gLtI_i, gLe_i, gGt_i, gGe_i, gNeg_i, gIntF_i, gAbs_i, gMax2_i, gMin2_i, gLen_l, gLen_t, gTupF_l, gTupF_t, gSl_t, gRev_t, gIs_b, gIsNot_b, gIs_n, gIsNot_n, pys_nil, gZip_t, List.getElem?_cons_zero, List.getElem?_cons_succ, List.set_cons_zero, List.set_cons_succ, List.map_cons, List.map_nil, List.length_cons, List.length_nil, List.cons_append, List.nil_append, Nat.reduceAdd, Nat.reduceSub, List.replicate_succ, List.replicate_zero, ofInts_len, wipeE, List.take_length, frR_new, decide_true, decide_false, Bool.not_true, Bool.not_false, mDNew_ap, sDput_ap, kD1_ap, kD2_ap, kD3_ap, mGet2_ap, kG2_ap, kG3_ap, mIfT_ap, eC]
theorem forS_two {a : MG} {b : MS} {p q : PyData} {env env1 env2 env3 env4 : Ev} {S S2 S4 : Store} (h1 : a (.py p) env S = .ok env1 S) (h2 : b env1 S = .go .nx env2 S2) (h3 : a (.py q) env2 S2 = .ok env3 S2) (h4 : b env3 S2 = .go .nx env4 S4) : forS a b [p, q] env S = .go .nx env4 S4 := by
  rw [forS_nx h1 h2, forS_nx h3 h4]; rfl
def FB : MS := sDput (mFr (m2 gAdd (mGet2 (mV 2) (mV 5) (mK (.int 0))) (mV 4))) (mV 2) (mV 5)
theorem fold_put (S : Store) (D : List Pr) (e0 e1 x3 : Option PX.D) (t d : Int) (hl : D.length + 1 ≤ 16777216) : FB [e0, e1, some (.loc S.length), x3, some (.py (.int d)), some (.py (.int t))] (S ++ [.dI (dD D)]) = .go .nx [e0, e1, some (.loc S.length), x3, some (.py (.int d)), some (.py (.int t))] (S ++ [.dI (dD (FM.put D t (FM.get D t + d)))]) := by
  unfold FB
  simp -implicitDefEqProofs only [bd_ok, bd_no, bd_exc, bdN_ok, bs_ok, bs_exc, mV_ap, getV_ok, mK_ap, m1_ap, m2_ap, k2_ap, k2'_ap, mNil_ap, mCons_ap, kC1_ap, kC2_ap, mCall_ap, mCallI_ap, mItems_ap, gItems_l, gItems_t, mIf_ap, kIf_t, kIf_f, mCB_ap, mAndT_ap, mOrT_ap, mNotT_ap, kNot_ap, mAnd_ap, kAnd_t, kAnd_f, mOr_ap, kOr_t, kOr_f, mNot_ap, kNotV_ap, mB_ap, kB_ap, mFr_ap, frR_py, frR_no, frR_exc, mSl_ap, kS1_ap, kS2_ap, kS3_ap, oNone_ap, oSome_ap, kO_ap, mChain_ap, kH1_ap, kH2_ap, kH3_t, kH3_f, mMeth_ap, kMe2_ap, sSeq_ap, seqK_nx, seqK_rt, seqK_bk, seqK_ct, seqK_exc, seqK_no, sNx_ap, sNo_ap, sEx_ap, kE_ap, sRet_ap, kR_ap, sRetN_ap, sIf_ap, kSI_t, kSI_f, sAs_ap, kA_ap, asK_ok, aN_ap, kA_N, asNil_ap, asCons_ap, kG_ap, asSub_ap, kU1_ap, kU2_ap, sFor_ap, kF_ap, sPar_ap, kP2_ap, sPar3_ap, kP3_ap, endB_nx, endB_rt, endB_exc, endB_no, gAdd_i, gSub_i, gLtI_i, gLe_i, gGt_i, gGe_i, gNeg_i, gIntF_i, gAbs_i, gMax2_i, gMin2_i, gLen_l, gLen_t, gTupF_l, gTupF_t, gSl_t, gRev_t, gIs_b, gIsNot_b, gIs_n, gIsNot_n, pys_nil, gZip_t, List.getElem?_cons_zero, List.getElem?_cons_succ, List.set_cons_zero, List.set_cons_succ, List.map_cons, List.map_nil, List.length_cons, List.length_nil, List.cons_append, List.nil_append, Nat.reduceAdd, Nat.reduceSub, List.replicate_succ, List.replicate_zero, ofInts_len, wipeE, List.take_length, frR_new, decide_true, decide_false, Bool.not_true, Bool.not_false, mDNew_ap, sDput_ap, kD1_ap, kD2_ap, kD3_ap, mGet2_ap, kG2_ap, kG3_ap, mIfT_ap, kG1_ap (isDI_end S (dD D)), gGet2_end, lkD_get, dPut_end S (dD D) t _ _ (by rw [dD_len]; exact hl), putD_dD]
theorem fold_loop (S : Store) (e0 : Option PX.D) (c : Int) : ∀ (s : List Pr) (D : List Pr) (x3 x4 x5 : Option PX.D), FM.Tab D → (∀ q ∈ s, 0 < q.2) → D.length + 2 * s.length ≤ 1000000 → ∃ (D' : List Pr) (y3 y4 y5 : Option PX.D), FM.Tab D' ∧ D'.length ≤ D.length + 2 * s.length ∧ (∀ x, FM.get D' x = FM.get D x + (FM.cnt s x + FM.cnt s (c - x))) ∧
    forS (aT 2 (asCons (aN 3) (asCons (aN 4) asNil))) (sFor (mItems (mCall gTupD (mCons (mV 3) (mCons (m2 PX.gSub (mV 1) (mV 3)) mNil)))) (aN 5) FB) (s.map prD) [e0, some (.py (.int c)), some (.loc S.length), x3, x4, x5] (S ++ [.dI (dD D)]) = .go .nx [e0, some (.py (.int c)), some (.loc S.length), y3, y4, y5] (S ++ [.dI (dD D')])
  | [], D, x3, x4, x5, hT, hp, hl => ⟨D, x3, x4, x5, hT, by simp, fun x => by simp [FM.cnt], rfl⟩
  | (p, d) :: s, D, x3, x4, x5, hT, hp, hl => by
    have hd : 0 < d := hp (p, d) (.head _)
    have gnn : ∀ {D : List Pr}, FM.Tab D → ∀ k, 0 ≤ FM.get D k := by
      intro D h k
      by_cases hk : k ∈ D.map (·.1)
      · have := FM.get_pos h hk; omega
      · rw [FM.get_no hk]; omega
    have g1 := gnn hT p
    have T1 := hT.put p (v := FM.get D p + d) (by omega)
    have l1 := FM.put_len D p (FM.get D p + d)
    generalize hD1 : FM.put D p (FM.get D p + d) = D1 at *
    have g2 := gnn T1 (c - p)
    have T2 := T1.put (c - p) (v := FM.get D1 (c - p) + d) (by omega)
    have l2 := FM.put_len D1 (c - p) (FM.get D1 (c - p) + d)
    simp only [List.length_cons] at hl
    obtain ⟨D', y3, y4, y5, T', l', hg, e⟩ := fold_loop S e0 c s (FM.put D1 (c - p) (FM.get D1 (c - p) + d)) (some (.py (.int p))) (some (.py (.int d))) (some (.py (.int (c - p)))) T2 (fun q hq => hp q (.tail _ hq)) (by omega)
    refine ⟨D', y3, y4, y5, T', by simp only [List.length_cons]; omega, fun x => ?_, ?_⟩
    · rw [hg x, FM.get_put, ← hD1, FM.get_put, FM.get_put]
      simp only [FM.cnt]
      by_cases h1 : x = c - p
      · rw [if_pos h1, if_pos (by omega : p = c - x)]
        by_cases h2 : c - p = p
        · rw [if_pos h2, if_pos (by omega : p = x)]
          have : x = p := by omega
          rw [this]; omega
        · rw [if_neg h2, if_neg (by omega : ¬ p = x), ← h1]; omega
      · rw [if_neg h1, if_neg (by omega : ¬ p = c - x)]
        by_cases h2 : x = p
        · rw [if_pos h2, if_pos h2.symm, h2]; omega
        · rw [if_neg h2, if_neg (fun e => h2 e.symm)]; omega
    · rw [List.map_cons, forS_nx (env1 := [e0, some (.py (.int c)), some (.loc S.length), some (.py (.int p)), some (.py (.int d)), x5]) (env2 := [e0, some (.py (.int c)), some (.loc S.length), some (.py (.int p)), some (.py (.int d)), some (.py (.int (c - p)))]) (S1 := S ++ [.dI (dD D)]) (S2 := S ++ [.dI (dD (FM.put D1 (c - p) (FM.get D1 (c - p) + d)))]) rfl]
      · exact e
      · have q1 := fold_put S D e0 (some (.py (.int c))) (some (.py (.int p))) p d (by omega)
        rw [hD1] at q1
        have q2 := fold_put S D1 e0 (some (.py (.int c))) (some (.py (.int p))) (c - p) d (by omega)
        have q3 := forS_two (a := aN 5) (b := FB) (p := .int p) (q := .int (c - p)) (env := [e0, some (.py (.int c)), some (.loc S.length), some (.py (.int p)), some (.py (.int d)), x5]) aN_ap q1 aN_ap q2
        simp -implicitDefEqProofs only [bd_ok, bd_no, bd_exc, bdN_ok, bs_ok, bs_exc, mV_ap, getV_ok, mK_ap, m1_ap, m2_ap, k2_ap, k2'_ap, mNil_ap, mCons_ap, kC1_ap, kC2_ap, mCall_ap, mCallI_ap, mItems_ap, gItems_l, gItems_t, mIf_ap, kIf_t, kIf_f, mCB_ap, mAndT_ap, mOrT_ap, mNotT_ap, kNot_ap, mAnd_ap, kAnd_t, kAnd_f, mOr_ap, kOr_t, kOr_f, mNot_ap, kNotV_ap, mB_ap, kB_ap, mFr_ap, frR_py, frR_no, frR_exc, mSl_ap, kS1_ap, kS2_ap, kS3_ap, oNone_ap, oSome_ap, kO_ap, mChain_ap, kH1_ap, kH2_ap, kH3_t, kH3_f, mMeth_ap, kMe2_ap, sSeq_ap, seqK_nx, seqK_rt, seqK_bk, seqK_ct, seqK_exc, seqK_no, sNx_ap, sNo_ap, sEx_ap, kE_ap, sRet_ap, kR_ap, sRetN_ap, sIf_ap, kSI_t, kSI_f, sAs_ap, kA_ap, asK_ok, aN_ap, kA_N, asNil_ap, asCons_ap, kG_ap, asSub_ap, kU1_ap, kU2_ap, sFor_ap, kF_ap, sPar_ap, kP2_ap, sPar3_ap, kP3_ap, endB_nx, endB_rt, endB_exc, endB_no, gAdd_i, gSub_i, gLtI_i, gLe_i, gGt_i, gGe_i, gNeg_i, gIntF_i, gAbs_i, gMax2_i, gMin2_i, gLen_l, gLen_t, gTupF_l, gTupF_t, gSl_t, gRev_t, gIs_b, gIsNot_b, gIs_n, gIsNot_n, pys_nil, gZip_t, List.getElem?_cons_zero, List.getElem?_cons_succ, List.set_cons_zero, List.set_cons_succ, List.map_cons, List.map_nil, List.length_cons, List.length_nil, List.cons_append, List.nil_append, Nat.reduceAdd, Nat.reduceSub, List.replicate_succ, List.replicate_zero, ofInts_len, wipeE, List.take_length, frR_new, decide_true, decide_false, Bool.not_true, Bool.not_false, mDNew_ap, sDput_ap, kD1_ap, kD2_ap, kD3_ap, mGet2_ap, kG2_ap, kG3_ap, mIfT_ap, gTupD2]
        exact q3
theorem gItems_S (s : List Pr) (S : Store) : gItems (SP s) S = .ok (s.map prD) S := rfl
theorem fold_ {s : List Pr} {f : FM.Fn} (S : Store) (c : Int) (h : FM.Str s f) (hl : s.length ≤ 100000) : ∃ s' : List Pr, FM.Str s' (FM.fold c f) ∧ s'.length ≤ 2 * s.length ∧ F__law_fold [SP s, .py (.int c)] S = .ok (SP s') S := by
  obtain ⟨D', y3, y4, y5, T', l', hg, e⟩ := fold_loop S (some (SP s)) c s [] none none none FM.Tab.nil h.pos (by simp; omega)
  have st := FM.laid_str T' (isort_perm (D'.map (·.1))) (isort_sorted _)
  have hf : FM.get D' = FM.fold c f := by
    funext x
    rw [hg x, h.eq]
    simp [FM.get, FM.fold]
  rw [hf] at st
  have hlen : D'.length ≤ 2 * s.length := by simpa using l'
  refine ⟨_, st, by unfold FM.laid; rw [List.length_map, isort_len, List.length_map]; exact hlen, ?_⟩
  have eT := tidy_ (D := D') (S ++ [.dI (dD D')]) S.length (at_end _ _) (by omega)
  have h1 : sAs mDNew (aN 2) [some (SP s), some (.py (.int c)), none, none, none, none] S = .go .nx [some (SP s), some (.py (.int c)), some (.loc S.length), none, none, none] (S ++ [.dI (dD [])]) := rfl
  have h2 : sFor (mItems (mV 0)) (aT 2 (asCons (aN 3) (asCons (aN 4) asNil))) (sFor (mItems (mCall gTupD (mCons (mV 3) (mCons (m2 PX.gSub (mV 1) (mV 3)) mNil)))) (aN 5) FB) [some (SP s), some (.py (.int c)), some (.loc S.length), none, none, none] (S ++ [.dI (dD [])]) = .go .nx [some (SP s), some (.py (.int c)), some (.loc S.length), y3, y4, y5] (S ++ [.dI (dD D')]) := by
    simp -implicitDefEqProofs only [bd_ok, bd_no, bd_exc, bdN_ok, bs_ok, bs_exc, mV_ap, getV_ok, mK_ap, m1_ap, m2_ap, k2_ap, k2'_ap, mNil_ap, mCons_ap, kC1_ap, kC2_ap, mCall_ap, mCallI_ap, mItems_ap, gItems_l, gItems_t, mIf_ap, kIf_t, kIf_f, mCB_ap, mAndT_ap, mOrT_ap, mNotT_ap, kNot_ap, mAnd_ap, kAnd_t, kAnd_f, mOr_ap, kOr_t, kOr_f, mNot_ap, kNotV_ap, mB_ap, kB_ap, mFr_ap, frR_py, frR_no, frR_exc, mSl_ap, kS1_ap, kS2_ap, kS3_ap, oNone_ap, oSome_ap, kO_ap, mChain_ap, kH1_ap, kH2_ap, kH3_t, kH3_f, mMeth_ap, kMe2_ap, sSeq_ap, seqK_nx, seqK_rt, seqK_bk, seqK_ct, seqK_exc, seqK_no, sNx_ap, sNo_ap, sEx_ap, kE_ap, sRet_ap, kR_ap, sRetN_ap, sIf_ap, kSI_t, kSI_f, sAs_ap, kA_ap, asK_ok, aN_ap, kA_N, asNil_ap, asCons_ap, kG_ap, asSub_ap, kU1_ap, kU2_ap, sFor_ap, kF_ap, sPar_ap, kP2_ap, sPar3_ap, kP3_ap, endB_nx, endB_rt, endB_exc, endB_no, gAdd_i, gSub_i, gLtI_i, gLe_i, gGt_i, gGe_i, gNeg_i, gIntF_i, gAbs_i, gMax2_i, gMin2_i, gLen_l, gLen_t, gTupF_l, gTupF_t, gSl_t, gRev_t, gIs_b, gIsNot_b, gIs_n, gIsNot_n, pys_nil, gZip_t, List.getElem?_cons_zero, List.getElem?_cons_succ, List.set_cons_zero, List.set_cons_succ, List.map_cons, List.map_nil, List.length_cons, List.length_nil, List.cons_append, List.nil_append, Nat.reduceAdd, Nat.reduceSub, List.replicate_succ, List.replicate_zero, ofInts_len, wipeE, List.take_length, frR_new, decide_true, decide_false, Bool.not_true, Bool.not_false, mDNew_ap, sDput_ap, kD1_ap, kD2_ap, kD3_ap, mGet2_ap, kG2_ap, kG3_ap, mIfT_ap]
    exact e
  unfold F__law_fold
  rw [runF_ap]
  unfold b__law_fold
  show frR _ (endB (sSeq _ (sSeq (sFor _ _ (sFor _ _ FB)) _) [some (SP s), some (.py (.int c)), none, none, none, none] _)) = _
  rw [sSeq_nx h1, sSeq_nx h2]
  simp -implicitDefEqProofs only [bd_ok, bd_no, bd_exc, bdN_ok, bs_ok, bs_exc, mV_ap, getV_ok, mK_ap, m1_ap, m2_ap, k2_ap, k2'_ap, mNil_ap, mCons_ap, kC1_ap, kC2_ap, mCall_ap, mCallI_ap, mItems_ap, gItems_l, gItems_t, mIf_ap, kIf_t, kIf_f, mCB_ap, mAndT_ap, mOrT_ap, mNotT_ap, kNot_ap, mAnd_ap, kAnd_t, kAnd_f, mOr_ap, kOr_t, kOr_f, mNot_ap, kNotV_ap, mB_ap, kB_ap, mFr_ap, frR_py, frR_no, frR_exc, mSl_ap, kS1_ap, kS2_ap, kS3_ap, oNone_ap, oSome_ap, kO_ap, mChain_ap, kH1_ap, kH2_ap, kH3_t, kH3_f, mMeth_ap, kMe2_ap, sSeq_ap, seqK_nx, seqK_rt, seqK_bk, seqK_ct, seqK_exc, seqK_no, sNx_ap, sNo_ap, sEx_ap, kE_ap, sRet_ap, kR_ap, sRetN_ap, sIf_ap, kSI_t, kSI_f, sAs_ap, kA_ap, asK_ok, aN_ap, kA_N, asNil_ap, asCons_ap, kG_ap, asSub_ap, kU1_ap, kU2_ap, sFor_ap, kF_ap, sPar_ap, kP2_ap, sPar3_ap, kP3_ap, endB_nx, endB_rt, endB_exc, endB_no, gAdd_i, gSub_i, gLtI_i, gLe_i, gGt_i, gGe_i, gNeg_i, gIntF_i, gAbs_i, gMax2_i, gMin2_i, gLen_l, gLen_t, gTupF_l, gTupF_t, gSl_t, gRev_t, gIs_b, gIsNot_b, gIs_n, gIsNot_n, pys_nil, gZip_t, List.getElem?_cons_zero, List.getElem?_cons_succ, List.set_cons_zero, List.set_cons_succ, List.map_cons, List.map_nil, List.length_cons, List.length_nil, List.cons_append, List.nil_append, Nat.reduceAdd, Nat.reduceSub, List.replicate_succ, List.replicate_zero, ofInts_len, wipeE, List.take_length, frR_new, decide_true, decide_false, Bool.not_true, Bool.not_false, mDNew_ap, sDput_ap, kD1_ap, kD2_ap, kD3_ap, mGet2_ap, kG2_ap, kG3_ap, mIfT_ap, eT, List.take_left']
end LW

end P_Q4
section P_Q5
set_option maxHeartbeats 4000000
namespace LW
open PySem PySem.Spec PyProof.Rows L2 PX
theorem folded_loop (S : Store) (e1 : Option PX.D) : ∀ (r : List Int) (s : List Pr) (f : FM.Fn) (x2 : Option PX.D), FM.Str s f → s.length * 2 ^ r.length ≤ 100000 → ∃ (s' : List Pr) (y2 : Option PX.D), FM.Str s' (FM.folds f r) ∧ s'.length ≤ s.length * 2 ^ r.length ∧ forS (aN 2) (sAs (mCall F__law_fold (mCons (mV 0) (mCons (mV 2) mNil))) (aN 0)) (ofInts r) [some (SP s), e1, x2] S = .go .nx [some (SP s'), e1, y2] S
  | [], s, f, x2, h, hl => ⟨s, x2, h, by simp, rfl⟩
  | c :: r, s, f, x2, h, hl => by
    have hp : 1 ≤ 2 ^ r.length := Nat.one_le_two_pow
    have e2 : s.length * 2 ^ (c :: r).length = 2 * s.length * 2 ^ r.length := by
      rw [List.length_cons, Nat.pow_succ, Nat.mul_comm (2 ^ r.length) 2, ← Nat.mul_assoc, Nat.mul_comm s.length 2]
    have hs : s.length ≤ 2 * s.length * 2 ^ r.length := Nat.le_trans (by omega : s.length ≤ 2 * s.length * 1) (Nat.mul_le_mul_left _ hp)
    obtain ⟨s1, h1, l1, q1⟩ := fold_ S c h (by omega)
    have l2 : s1.length * 2 ^ r.length ≤ 2 * s.length * 2 ^ r.length := Nat.mul_le_mul_right _ l1
    obtain ⟨s', y2, h', l', q⟩ := folded_loop S e1 r s1 _ (some (.py (.int c))) h1 (by omega)
    refine ⟨s', y2, h', by omega, ?_⟩
    show forS _ _ (.int c :: ofInts r) _ _ = _
    rw [forS_nx (env1 := [some (SP s), e1, some (.py (.int c))]) aN_ap (env2 := [some (SP s1), e1, some (.py (.int c))]) (S2 := S) (by simp -implicitDefEqProofs only [bd_ok, bd_no, bd_exc, bdN_ok, bs_ok, bs_exc, mV_ap, getV_ok, mK_ap, m1_ap, m2_ap, k2_ap, k2'_ap, mNil_ap, mCons_ap, kC1_ap, kC2_ap, mCall_ap, mCallI_ap, mItems_ap, gItems_l, gItems_t, mIf_ap, kIf_t, kIf_f, mCB_ap, mAndT_ap, mOrT_ap, mNotT_ap, kNot_ap, mAnd_ap, kAnd_t, kAnd_f, mOr_ap, kOr_t, kOr_f, mNot_ap, kNotV_ap, mB_ap, kB_ap, mFr_ap, frR_py, frR_no, frR_exc, mSl_ap, kS1_ap, kS2_ap, kS3_ap, oNone_ap, oSome_ap, kO_ap, mChain_ap, kH1_ap, kH2_ap, kH3_t, kH3_f, mMeth_ap, kMe2_ap, sSeq_ap, seqK_nx, seqK_rt, seqK_bk, seqK_ct, seqK_exc, seqK_no, sNx_ap, sNo_ap, sEx_ap, kE_ap, sRet_ap, kR_ap, sRetN_ap, sIf_ap, kSI_t, kSI_f, sAs_ap, kA_ap, asK_ok, aN_ap, kA_N, asNil_ap, asCons_ap, kG_ap, asSub_ap, kU1_ap, kU2_ap, sFor_ap, kF_ap, sPar_ap, kP2_ap, sPar3_ap, kP3_ap, endB_nx, endB_rt, endB_exc, endB_no, gAdd_i, gSub_i, gLtI_i, gLe_i, gGt_i, gGe_i, gNeg_i, gIntF_i, gAbs_i, gMax2_i, gMin2_i, gLen_l, gLen_t, gTupF_l, gTupF_t, gSl_t, gRev_t, gIs_b, gIsNot_b, gIs_n, gIsNot_n, pys_nil, gZip_t, List.getElem?_cons_zero, List.getElem?_cons_succ, List.set_cons_zero, List.set_cons_succ, List.map_cons, List.map_nil, List.length_cons, List.length_nil, List.cons_append, List.nil_append, Nat.reduceAdd, Nat.reduceSub, List.replicate_succ, List.replicate_zero, ofInts_len, wipeE, List.take_length, frR_new, decide_true, decide_false, Bool.not_true, Bool.not_false, mDNew_ap, sDput_ap, kD1_ap, kD2_ap, kD3_ap, mGet2_ap, kG2_ap, kG3_ap, mIfT_ap, q1])]
    exact q
theorem folded_ {s : List Pr} {f : FM.Fn} (S : Store) (r : List Int) (h : FM.Str s f) (hl : s.length * 2 ^ r.length ≤ 100000) : ∃ s' : List Pr, FM.Str s' (FM.folds f r) ∧ s'.length ≤ s.length * 2 ^ r.length ∧ F__law_folded [SP s, RW r] S = .ok (SP s') S := by
  obtain ⟨s', y2, h', l', q⟩ := folded_loop S (some (RW r)) r s f none h hl
  refine ⟨s', h', l', ?_⟩
  unfold F__law_folded
  rw [runF_ap]
  unfold b__law_folded
  simp -implicitDefEqProofs only [bd_ok, bd_no, bd_exc, bdN_ok, bs_ok, bs_exc, mV_ap, getV_ok, mK_ap, m1_ap, m2_ap, k2_ap, k2'_ap, mNil_ap, mCons_ap, kC1_ap, kC2_ap, mCall_ap, mCallI_ap, mItems_ap, gItems_l, gItems_t, mIf_ap, kIf_t, kIf_f, mCB_ap, mAndT_ap, mOrT_ap, mNotT_ap, kNot_ap, mAnd_ap, kAnd_t, kAnd_f, mOr_ap, kOr_t, kOr_f, mNot_ap, kNotV_ap, mB_ap, kB_ap, mFr_ap, frR_py, frR_no, frR_exc, mSl_ap, kS1_ap, kS2_ap, kS3_ap, oNone_ap, oSome_ap, kO_ap, mChain_ap, kH1_ap, kH2_ap, kH3_t, kH3_f, mMeth_ap, kMe2_ap, sSeq_ap, seqK_nx, seqK_rt, seqK_bk, seqK_ct, seqK_exc, seqK_no, sNx_ap, sNo_ap, sEx_ap, kE_ap, sRet_ap, kR_ap, sRetN_ap, sIf_ap, kSI_t, kSI_f, sAs_ap, kA_ap, asK_ok, aN_ap, kA_N, asNil_ap, asCons_ap, kG_ap, asSub_ap, kU1_ap, kU2_ap, sFor_ap, kF_ap, sPar_ap, kP2_ap, sPar3_ap, kP3_ap, endB_nx, endB_rt, endB_exc, endB_no, gAdd_i, gSub_i, gLtI_i, gLe_i, gGt_i, gGe_i, gNeg_i, gIntF_i, gAbs_i, gMax2_i, gMin2_i, gLen_l, gLen_t, gTupF_l, gTupF_t, gSl_t, gRev_t, gIs_b, gIsNot_b, gIs_n, gIsNot_n, pys_nil, gZip_t, List.getElem?_cons_zero, List.getElem?_cons_succ, List.set_cons_zero, List.set_cons_succ, List.map_cons, List.map_nil, List.length_cons, List.length_nil, List.cons_append, List.nil_append, Nat.reduceAdd, Nat.reduceSub, List.replicate_succ, List.replicate_zero, ofInts_len, wipeE, List.take_length, frR_new, decide_true, decide_false, Bool.not_true, Bool.not_false, mDNew_ap, sDput_ap, kD1_ap, kD2_ap, kD3_ap, mGet2_ap, kG2_ap, kG3_ap, mIfT_ap, q]
theorem one_str (p : Int) : FM.Str [(p, 1)] (FM.at1 p) := by
  refine ⟨⟨List.pairwise_singleton _ _, fun q hq => by rw [List.mem_singleton.mp hq]; exact Int.one_pos⟩, ?_⟩
  funext x
  show (if p = x then (1 : Int) else 0) + 0 = if x = p then 1 else 0
  by_cases h : p = x
  · rw [if_pos h, if_pos h.symm]; rfl
  · rw [if_neg h, if_neg fun e => h e.symm]; rfl
theorem pow_le {n : Nat} (h : n ≤ 12) : 2 ^ n ≤ 4096 := Nat.pow_le_pow_right (by decide) h
theorem print_ (S : Store) (p : Int) (r : List Int) (hr : r.length ≤ 12) : ∃ s' : List Pr, FM.Str s' (FM.folds (FM.at1 p) r) ∧ s'.length ≤ 100000 ∧ F__law_print [.py (.int p), RW r] S = .ok (SP s') S := by
  have := pow_le hr
  obtain ⟨s', h', l', q⟩ := folded_ S r (one_str p) (by simp; omega)
  refine ⟨s', h', by simp at l'; omega, ?_⟩
  have q' : F__law_folded [.py (.tuple [.tuple [.int p, .int 1]]), RW r] S = .ok (SP s') S := q
  unfold F__law_print
  rw [runF_ap]
  unfold b__law_print
  simp -implicitDefEqProofs only [bd_ok, bd_no, bd_exc, bdN_ok, bs_ok, bs_exc, mV_ap, getV_ok, mK_ap, m1_ap, m2_ap, k2_ap, k2'_ap, mNil_ap, mCons_ap, kC1_ap, kC2_ap, mCall_ap, mCallI_ap, mItems_ap, gItems_l, gItems_t, mIf_ap, kIf_t, kIf_f, mCB_ap, mAndT_ap, mOrT_ap, mNotT_ap, kNot_ap, mAnd_ap, kAnd_t, kAnd_f, mOr_ap, kOr_t, kOr_f, mNot_ap, kNotV_ap, mB_ap, kB_ap, mFr_ap, frR_py, frR_no, frR_exc, mSl_ap, kS1_ap, kS2_ap, kS3_ap, oNone_ap, oSome_ap, kO_ap, mChain_ap, kH1_ap, kH2_ap, kH3_t, kH3_f, mMeth_ap, kMe2_ap, sSeq_ap, seqK_nx, seqK_rt, seqK_bk, seqK_ct, seqK_exc, seqK_no, sNx_ap, sNo_ap, sEx_ap, kE_ap, sRet_ap, kR_ap, sRetN_ap, sIf_ap, kSI_t, kSI_f, sAs_ap, kA_ap, asK_ok, aN_ap, kA_N, asNil_ap, asCons_ap, kG_ap, asSub_ap, kU1_ap, kU2_ap, sFor_ap, kF_ap, sPar_ap, kP2_ap, sPar3_ap, kP3_ap, endB_nx, endB_rt, endB_exc, endB_no, gAdd_i, gSub_i, gLtI_i, gLe_i, gGt_i, gGe_i, gNeg_i, gIntF_i, gAbs_i, gMax2_i, gMin2_i, gLen_l, gLen_t, gTupF_l, gTupF_t, gSl_t, gRev_t, gIs_b, gIsNot_b, gIs_n, gIsNot_n, pys_nil, gZip_t, List.getElem?_cons_zero, List.getElem?_cons_succ, List.set_cons_zero, List.set_cons_succ, List.map_cons, List.map_nil, List.length_cons, List.length_nil, List.cons_append, List.nil_append, Nat.reduceAdd, Nat.reduceSub, List.replicate_succ, List.replicate_zero, ofInts_len, wipeE, List.take_length, frR_new, decide_true, decide_false, Bool.not_true, Bool.not_false, mDNew_ap, sDput_ap, kD1_ap, kD2_ap, kD3_ap, mGet2_ap, kG2_ap, kG3_ap, mIfT_ap, gTupD2, gTupD1, q']
theorem print_all (p : Int) (r : List Int) (hr : r.length ≤ 12) : ∃ s' : List Pr, FM.Str s' (FM.folds (FM.at1 p) r) ∧ s'.length ≤ 100000 ∧ ∀ S, F__law_print [.py (.int p), RW r] S = .ok (SP s') S := by
  obtain ⟨s', h', l', q⟩ := print_ [] p r hr
  refine ⟨s', h', l', fun S => ?_⟩
  obtain ⟨t, ht, _, q2⟩ := print_ S p r hr
  rw [q2, ht.uniq h']
theorem times_ (S : Store) (s : List Pr) (k : Int) (h0 : 0 < k) (hk : k < 18446744073709551616) (hl : s.length ≤ 1000000) : F__law_times [SP s, .py (.int k)] S = .ok (SP (s.map fun q => (q.1, q.2 * k))) S := by
  have em : ∀ d S, gMul (.py (.int d)) (.py (.int k)) S = .ok (.py (.int (d * k))) S := fun d S => gMul_i (cMul_r (by omega))
  have eC : mLc [2, 3] (mItems (mV 0)) (aT 2 (asCons (aN 2) (asCons (aN 3) asNil))) mYes (mCall gTupD (mCons (mV 2) (mCons (m2 gMul (mV 3) (mV 1)) mNil))) [some (SP s), some (.py (.int k)), none, none] S = .ok (.loc S.length) (S ++ [.lst ((s.map fun q => (q.1, q.2 * k)).map prD)]) := by
    rw [mLc_all (ps := s.map prD) (fun p => match p with | .tuple [a, b] => [some (SP s), some (.py (.int k)), some (.py a), some (.py b)] | _ => []) (fun p => match p with | .tuple [.int a, .int b] => prD (a, b * k) | p => p)]
    · rw [List.map_map, List.map_map]; rfl
    · simp -implicitDefEqProofs only [bd_ok, bd_no, bd_exc, bdN_ok, bs_ok, bs_exc, mV_ap, getV_ok, mK_ap, m1_ap, m2_ap, k2_ap, k2'_ap, mNil_ap, mCons_ap, kC1_ap, kC2_ap, mCall_ap, mCallI_ap, mItems_ap, gItems_l, gItems_t, mIf_ap, kIf_t, kIf_f, mCB_ap, mAndT_ap, mOrT_ap, mNotT_ap, kNot_ap, mAnd_ap, kAnd_t, kAnd_f, mOr_ap, kOr_t, kOr_f, mNot_ap, kNotV_ap, mB_ap, kB_ap, mFr_ap, frR_py, frR_no, frR_exc, mSl_ap, kS1_ap, kS2_ap, kS3_ap, oNone_ap, oSome_ap, kO_ap, mChain_ap, kH1_ap, kH2_ap, kH3_t, kH3_f, mMeth_ap, kMe2_ap, sSeq_ap, seqK_nx, seqK_rt, seqK_bk, seqK_ct, seqK_exc, seqK_no, sNx_ap, sNo_ap, sEx_ap, kE_ap, sRet_ap, kR_ap, sRetN_ap, sIf_ap, kSI_t, kSI_f, sAs_ap, kA_ap, asK_ok, aN_ap, kA_N, asNil_ap, asCons_ap, kG_ap, asSub_ap, kU1_ap, kU2_ap, sFor_ap, kF_ap, sPar_ap, kP2_ap, sPar3_ap, kP3_ap, endB_nx, endB_rt, endB_exc, endB_no, gAdd_i, gSub_i, gLtI_i, gLe_i, gGt_i, gGe_i, gNeg_i, gIntF_i, gAbs_i, gMax2_i, gMin2_i, gLen_l, gLen_t, gTupF_l, gTupF_t, gSl_t, gRev_t, gIs_b, gIsNot_b, gIs_n, gIsNot_n, pys_nil, gZip_t, List.getElem?_cons_zero, List.getElem?_cons_succ, List.set_cons_zero, List.set_cons_succ, List.map_cons, List.map_nil, List.length_cons, List.length_nil, List.cons_append, List.nil_append, Nat.reduceAdd, Nat.reduceSub, List.replicate_succ, List.replicate_zero, ofInts_len, wipeE, List.take_length, frR_new, decide_true, decide_false, Bool.not_true, Bool.not_false, mDNew_ap, sDput_ap, kD1_ap, kD2_ap, kD3_ap, mGet2_ap, kG2_ap, kG3_ap, mIfT_ap, gItems_S]
    · rw [List.length_map]; omega
    · intro p hp S
      obtain ⟨⟨a, b⟩, hq, rfl⟩ := List.mem_map.mp hp
      rfl
    · intro p hp S
      obtain ⟨⟨a, b⟩, hq, rfl⟩ := List.mem_map.mp hp
      show mCall gTupD _ [some (SP s), some (.py (.int k)), some (.py (.int a)), some (.py (.int b))] S = _
      simp -implicitDefEqProofs only [bd_ok, bd_no, bd_exc, bdN_ok, bs_ok, bs_exc, mV_ap, getV_ok, mK_ap, m1_ap, m2_ap, k2_ap, k2'_ap, mNil_ap, mCons_ap, kC1_ap, kC2_ap, mCall_ap, mCallI_ap, mItems_ap, gItems_l, gItems_t, mIf_ap, kIf_t, kIf_f, mCB_ap, mAndT_ap, mOrT_ap, mNotT_ap, kNot_ap, mAnd_ap, kAnd_t, kAnd_f, mOr_ap, kOr_t, kOr_f, mNot_ap, kNotV_ap, mB_ap, kB_ap, mFr_ap, frR_py, frR_no, frR_exc, mSl_ap, kS1_ap, kS2_ap, kS3_ap, oNone_ap, oSome_ap, kO_ap, mChain_ap, kH1_ap, kH2_ap, kH3_t, kH3_f, mMeth_ap, kMe2_ap, sSeq_ap, seqK_nx, seqK_rt, seqK_bk, seqK_ct, seqK_exc, seqK_no, sNx_ap, sNo_ap, sEx_ap, kE_ap, sRet_ap, kR_ap, sRetN_ap, sIf_ap, kSI_t, kSI_f, sAs_ap, kA_ap, asK_ok, aN_ap, kA_N, asNil_ap, asCons_ap, kG_ap, asSub_ap, kU1_ap, kU2_ap, sFor_ap, kF_ap, sPar_ap, kP2_ap, sPar3_ap, kP3_ap, endB_nx, endB_rt, endB_exc, endB_no, gAdd_i, gSub_i, gLtI_i, gLe_i, gGt_i, gGe_i, gNeg_i, gIntF_i, gAbs_i, gMax2_i, gMin2_i, gLen_l, gLen_t, gTupF_l, gTupF_t, gSl_t, gRev_t, gIs_b, gIsNot_b, gIs_n, gIsNot_n, pys_nil, gZip_t, List.getElem?_cons_zero, List.getElem?_cons_succ, List.set_cons_zero, List.set_cons_succ, List.map_cons, List.map_nil, List.length_cons, List.length_nil, List.cons_append, List.nil_append, Nat.reduceAdd, Nat.reduceSub, List.replicate_succ, List.replicate_zero, ofInts_len, wipeE, List.take_length, frR_new, decide_true, decide_false, Bool.not_true, Bool.not_false, mDNew_ap, sDput_ap, kD1_ap, kD2_ap, kD3_ap, mGet2_ap, kG2_ap, kG3_ap, mIfT_ap, em, gTupD2]
      rfl
  unfold F__law_times
  rw [runF_ap]
  unfold b__law_times
  simp -implicitDefEqProofs only [bd_ok, bd_no, bd_exc, bdN_ok, bs_ok, bs_exc, mV_ap, getV_ok, mK_ap, m1_ap, m2_ap, k2_ap, k2'_ap, mNil_ap, mCons_ap, kC1_ap, kC2_ap, mCall_ap, mCallI_ap, mItems_ap, gItems_l, gItems_t, mIf_ap, kIf_t, kIf_f, mCB_ap, mAndT_ap, mOrT_ap, mNotT_ap, kNot_ap, mAnd_ap, kAnd_t, kAnd_f, mOr_ap, kOr_t, kOr_f, mNot_ap, kNotV_ap, mB_ap, kB_ap, mFr_ap, frR_py, frR_no, frR_exc, mSl_ap, kS1_ap, kS2_ap, kS3_ap, oNone_ap, oSome_ap, kO_ap, mChain_ap, kH1_ap, kH2_ap, kH3_t, kH3_f, mMeth_ap, kMe2_ap, sSeq_ap, seqK_nx, seqK_rt, seqK_bk, seqK_ct, seqK_exc, seqK_no, sNx_ap, sNo_ap, sEx_ap, kE_ap, sRet_ap, kR_ap, sRetN_ap, sIf_ap, kSI_t, kSI_f, sAs_ap, kA_ap, asK_ok, aN_ap, kA_N, asNil_ap, asCons_ap, kG_ap, asSub_ap, kU1_ap, kU2_ap, sFor_ap, kF_ap, sPar_ap, kP2_ap, sPar3_ap, kP3_ap, endB_nx, endB_rt, endB_exc, endB_no, gAdd_i, gSub_i, gLtI_i, gLe_i, gGt_i, gGe_i, gNeg_i, gIntF_i, gAbs_i, gMax2_i, gMin2_i, gLen_l, gLen_t, gTupF_l, gTupF_t, gSl_t, gRev_t, gIs_b, gIsNot_b, gIs_n, gIsNot_n, pys_nil, gZip_t, List.getElem?_cons_zero, List.getElem?_cons_succ, List.set_cons_zero, List.set_cons_succ, List.map_cons, List.map_nil, List.length_cons, List.length_nil, List.cons_append, List.nil_append, Nat.reduceAdd, Nat.reduceSub, List.replicate_succ, List.replicate_zero, ofInts_len, wipeE, List.take_length, frR_new, decide_true, decide_false, Bool.not_true, Bool.not_false, mDNew_ap, sDput_ap, kD1_ap, kD2_ap, kD3_ap, mGet2_ap, kG2_ap, kG3_ap, mIfT_ap, eC]
theorem pow_loop (S : Store) (e0 : Option PX.D) : ∀ (n : Nat) (lo : Int) (k : Int) (x2 : Option PX.D), ∃ y2, forS (aN 2) (sAs (m2 gMul (mV 1) (mK (.int 2))) (aN 1)) (rangeL lo n) [e0, some (.py (.int k)), x2] S = .go .nx [e0, some (.py (.int (k * 2 ^ n))), y2] S
  | 0, lo, k, x2 => ⟨x2, by simp [rangeL, forS]⟩
  | n + 1, lo, k, x2 => by
    obtain ⟨y2, e⟩ := pow_loop S e0 n (lo + 1) (k * 2) (some (.py (.int lo)))
    refine ⟨y2, ?_⟩
    have em : gMul (.py (.int k)) (.py (.int 2)) S = .ok (.py (.int (k * 2))) S := gMul_i (cMul_r (by decide))
    rw [rangeL_succ, forS_nx (env1 := [e0, some (.py (.int k)), some (.py (.int lo))]) aN_ap (env2 := [e0, some (.py (.int (k * 2))), some (.py (.int lo))]) (S2 := S) (by simp -implicitDefEqProofs only [bd_ok, bd_no, bd_exc, bdN_ok, bs_ok, bs_exc, mV_ap, getV_ok, mK_ap, m1_ap, m2_ap, k2_ap, k2'_ap, mNil_ap, mCons_ap, kC1_ap, kC2_ap, mCall_ap, mCallI_ap, mItems_ap, gItems_l, gItems_t, mIf_ap, kIf_t, kIf_f, mCB_ap, mAndT_ap, mOrT_ap, mNotT_ap, kNot_ap, mAnd_ap, kAnd_t, kAnd_f, mOr_ap, kOr_t, kOr_f, mNot_ap, kNotV_ap, mB_ap, kB_ap, mFr_ap, frR_py, frR_no, frR_exc, mSl_ap, kS1_ap, kS2_ap, kS3_ap, oNone_ap, oSome_ap, kO_ap, mChain_ap, kH1_ap, kH2_ap, kH3_t, kH3_f, mMeth_ap, kMe2_ap, sSeq_ap, seqK_nx, seqK_rt, seqK_bk, seqK_ct, seqK_exc, seqK_no, sNx_ap, sNo_ap, sEx_ap, kE_ap, sRet_ap, kR_ap, sRetN_ap, sIf_ap, kSI_t, kSI_f, sAs_ap, kA_ap, asK_ok, aN_ap, kA_N, asNil_ap, asCons_ap, kG_ap, asSub_ap, kU1_ap, kU2_ap, sFor_ap, kF_ap, sPar_ap, kP2_ap, sPar3_ap, kP3_ap, endB_nx, endB_rt, endB_exc, endB_no, gAdd_i, gSub_i, gLtI_i, gLe_i, gGt_i, gGe_i, gNeg_i, gIntF_i, gAbs_i, gMax2_i, gMin2_i, gLen_l, gLen_t, gTupF_l, gTupF_t, gSl_t, gRev_t, gIs_b, gIsNot_b, gIs_n, gIsNot_n, pys_nil, gZip_t, List.getElem?_cons_zero, List.getElem?_cons_succ, List.set_cons_zero, List.set_cons_succ, List.map_cons, List.map_nil, List.length_cons, List.length_nil, List.cons_append, List.nil_append, Nat.reduceAdd, Nat.reduceSub, List.replicate_succ, List.replicate_zero, ofInts_len, wipeE, List.take_length, frR_new, decide_true, decide_false, Bool.not_true, Bool.not_false, mDNew_ap, sDput_ap, kD1_ap, kD2_ap, kD3_ap, mGet2_ap, kG2_ap, kG3_ap, mIfT_ap, em]), e]
    congr 4
    rw [Int.pow_succ, Int.mul_assoc, Int.mul_comm 2]
theorem power_ (S : Store) (n : Nat) (hn : n ≤ 1000) : F__law_power [.py (.int (n : Int))] S = .ok (.py (.int (2 ^ n))) S := by
  obtain ⟨y2, e⟩ := pow_loop S (some (.py (.int (n : Int)))) n 0 1 none
  have e0 : gRange1 [.py (.int (n : Int))] S = .ok (rangeL 0 n) S := by
    rw [gRange1_i (inR_of (by omega) (by omega))]; rfl
  rw [Int.one_mul] at e
  unfold F__law_power
  rw [runF_ap]
  unfold b__law_power
  simp -implicitDefEqProofs only [bd_ok, bd_no, bd_exc, bdN_ok, bs_ok, bs_exc, mV_ap, getV_ok, mK_ap, m1_ap, m2_ap, k2_ap, k2'_ap, mNil_ap, mCons_ap, kC1_ap, kC2_ap, mCall_ap, mCallI_ap, mItems_ap, gItems_l, gItems_t, mIf_ap, kIf_t, kIf_f, mCB_ap, mAndT_ap, mOrT_ap, mNotT_ap, kNot_ap, mAnd_ap, kAnd_t, kAnd_f, mOr_ap, kOr_t, kOr_f, mNot_ap, kNotV_ap, mB_ap, kB_ap, mFr_ap, frR_py, frR_no, frR_exc, mSl_ap, kS1_ap, kS2_ap, kS3_ap, oNone_ap, oSome_ap, kO_ap, mChain_ap, kH1_ap, kH2_ap, kH3_t, kH3_f, mMeth_ap, kMe2_ap, sSeq_ap, seqK_nx, seqK_rt, seqK_bk, seqK_ct, seqK_exc, seqK_no, sNx_ap, sNo_ap, sEx_ap, kE_ap, sRet_ap, kR_ap, sRetN_ap, sIf_ap, kSI_t, kSI_f, sAs_ap, kA_ap, asK_ok, aN_ap, kA_N, asNil_ap, asCons_ap, kG_ap, asSub_ap, kU1_ap, kU2_ap, sFor_ap, kF_ap, sPar_ap, kP2_ap, sPar3_ap, kP3_ap, endB_nx, endB_rt, endB_exc, endB_no, gAdd_i, gSub_i, gLtI_i, gLe_i, gGt_i, gGe_i, gNeg_i, gIntF_i, gAbs_i, gMax2_i, gMin2_i, gLen_l, gLen_t, gTupF_l, gTupF_t, gSl_t, gRev_t, gIs_b, gIsNot_b, gIs_n, gIsNot_n, pys_nil, gZip_t, List.getElem?_cons_zero, List.getElem?_cons_succ, List.set_cons_zero, List.set_cons_succ, List.map_cons, List.map_nil, List.length_cons, List.length_nil, List.cons_append, List.nil_append, Nat.reduceAdd, Nat.reduceSub, List.replicate_succ, List.replicate_zero, ofInts_len, wipeE, List.take_length, frR_new, decide_true, decide_false, Bool.not_true, Bool.not_false, mDNew_ap, sDput_ap, kD1_ap, kD2_ap, kD3_ap, mGet2_ap, kG2_ap, kG3_ap, mIfT_ap, e0, e]
theorem lay_prs : ∀ s : List Pr, PyData.canLayAll0 (s.map prD) = true
  | [] => rfl
  | q :: s => by
    show (PyData.canLay0 (prD q) && PyData.canLayAll0 (s.map prD)) = true
    rw [lay_prs s]; rfl
theorem depth_prs : ∀ s : List Pr, PyData.depthAll (s.map prD) ≤ 1
  | [] => by decide
  | q :: s => by
    show max (PyData.depth (prD q)) (PyData.depthAll (s.map prD)) ≤ 1
    have := depth_prs s
    have e : PyData.depth (prD q) = 1 := rfl
    omega
theorem SP_shp (s : List Pr) : shp 2 (.tuple (s.map prD)) = true := by
  have := depth_prs s
  unfold shp
  rw [Bool.and_eq_true]
  refine ⟨lay_prs s, decide_eq_true ?_⟩
  show PyData.depthAll (s.map prD) + 1 ≤ 2
  omega
theorem eqv_pr (p q : Pr) : PyData.eqv (prD p) (prD q) = decide (p = q) := by
  obtain ⟨a, b⟩ := p
  obtain ⟨c, d⟩ := q
  unfold prD
  rw [eqv_tt]
  show (PyData.eqv (.int a) (.int c) && (PyData.eqv (.int b) (.int d) && true)) = _
  rw [eqv_ii, eqv_ii]
  by_cases h1 : a = c <;> by_cases h2 : b = d <;> simp [h1, h2]
theorem eqvAll_prs : ∀ s t : List Pr, PyData.eqvAll (s.map prD) (t.map prD) = decide (s = t)
  | [], [] => rfl
  | [], _ :: _ => rfl
  | _ :: _, [] => rfl
  | a :: s, b :: t => by
    show (PyData.eqv (prD a) (prD b) && PyData.eqvAll (s.map prD) (t.map prD)) = _
    rw [eqv_pr, eqvAll_prs s t]
    by_cases h1 : a = b <;> by_cases h2 : s = t <;> simp [h1, h2]
theorem gEq_S (s t : List Pr) (S : Store) : gEq (SP s) (SP t) S = .ok (.py (.bool (decide (s = t)))) S := by
  rw [gEq_p (shaped_of (SP_shp s)) (shaped_of (SP_shp t)), eqv_tt, eqvAll_prs]
theorem gNe_S (s t : List Pr) (S : Store) : gNe (SP s) (SP t) S = .ok (.py (.bool (!decide (s = t)))) S := by
  rw [gNe_p (shaped_of (SP_shp s)) (shaped_of (SP_shp t)), eqv_tt, eqvAll_prs]
/-- so many times as many drops, or the other way about -/
def dbl (f g : FM.Fn) (a b : Nat) : Prop := if b ≤ a then f = FM.sc (2 ^ (a - b)) g else g = FM.sc (2 ^ (b - a)) f
theorem pw_lt {n : Nat} (h : n ≤ 12) : (0 : Int) < 2 ^ n ∧ (2 : Int) ^ n < 18446744073709551616 := by
  refine ⟨FM.pow_pos2 n, ?_⟩
  have h1 : ((2 ^ n : Nat) : Int) ≤ (4096 : Nat) := Int.ofNat_le.mpr (pow_le h)
  have h2 : ((2 ^ n : Nat) : Int) = (2 : Int) ^ n := by simp
  omega
theorem times_str {s : List Pr} {f : FM.Fn} (S : Store) (n : Nat) (h : FM.Str s f) (hn : n ≤ 12) (hl : s.length ≤ 1000000) : F__law_times [SP s, .py (.int (2 ^ n))] S = .ok (SP (s.map fun q => (q.1, q.2 * 2 ^ n))) S ∧ FM.Str (s.map fun q => (q.1, q.2 * 2 ^ n)) (FM.sc (2 ^ n) f) :=
  ⟨times_ S s _ (pw_lt hn).1 (pw_lt hn).2 hl, h.times (pw_lt hn).1⟩
end LW

end P_Q5
section P_Q6
set_option maxHeartbeats 4000000
namespace LW
open PySem PySem.Spec PyProof.Rows L2 PX
def kept : Int → List Int → List Int
  | _, [] => []
  | c, d :: r => if c ≠ d then d :: kept d r else kept d r
def wh : List Int → List Int
  | [] => []
  | c :: r => c :: kept c r
theorem kept_len : ∀ (r : List Int) (c : Int), (kept c r).length ≤ r.length
  | [], c => Nat.le_refl _
  | d :: r, c => by
    have := kept_len r d
    unfold kept
    split <;> simp <;> omega
theorem wh_len (r : List Int) : (wh r).length ≤ r.length := by
  cases r with
  | nil => exact Nat.le_refl _
  | cons c r => have := kept_len r c; simp [wh]; omega
theorem steps_wh : ∀ (r : List Int) (c : Int), stp (c :: kept c r) = FM.pos (stp (c :: r))
  | [], c => rfl
  | d :: r, c => by
    have ih := steps_wh r d
    unfold kept
    by_cases h : c = d
    · subst h
      rw [if_neg (by simp)]
      rw [ih]
      show _ = FM.pos (FM.iabs (c - c) :: stp (c :: r))
      have e : FM.iabs (c - c) = 0 := by unfold FM.iabs; split <;> omega
      rw [e]
      simp [FM.pos]
    · rw [if_pos h]
      show FM.iabs (d - c) :: stp (d :: kept d r) = FM.pos (FM.iabs (d - c) :: stp (d :: r))
      rw [ih]
      have e : FM.iabs (d - c) ≠ 0 := by unfold FM.iabs; split <;> omega
      simp [FM.pos, e]
theorem last_wh : ∀ (r : List Int) (c : Int), (c :: kept c r).getLast (by simp) = (c :: r).getLast (by simp)
  | [], c => rfl
  | d :: r, c => by
    have ih := last_wh r d
    rw [List.getLast_cons (l := d :: r) (by simp), ← ih]
    by_cases h : c = d
    · have e : kept c (d :: r) = kept d r := if_neg (by simpa using h)
      subst h
      simp only [e]
    · have e : kept c (d :: r) = d :: kept d r := if_pos h
      simp only [e]
      rw [List.getLast_cons (by simp)]
theorem zip_kept : ∀ (r : List Int) (c : Int) (t : PyData → Bool) (g : PyData → PyData), (∀ a b : Int, t (.tuple [.int a, .int b]) = !decide (a = b)) → (∀ a b : Int, g (.tuple [.int a, .int b]) = .int b) → ((zipT (ofInts (c :: r)) (ofInts r)).filter t).map g = ofInts (kept c r)
  | [], c, t, g, ht, hg => rfl
  | d :: r, c, t, g, ht, hg => by
    have ih := zip_kept r d t g ht hg
    show ((PyData.tuple [.int c, .int d] :: zipT (ofInts (d :: r)) (ofInts r)).filter t).map g = _
    unfold kept
    by_cases h : c = d
    · rw [List.filter_cons_of_neg (by rw [ht, decide_eq_true h]; simp), if_neg (by simpa using h)]
      exact ih
    · rw [List.filter_cons_of_pos (by rw [ht, decide_eq_false h]; rfl), if_pos h, List.map_cons, hg, ih]
      rfl
theorem F_wh (row : List Int) (S : Store) (hn : row.length ≤ 1000) : F_without_halts [RW row] S = .ok (RW (wh row)) S := by
  have e0 : cutL (ofInts row) (some 1) none = ofInts (row.drop 1) := by rw [cutL_ofInts]; exact congrArg _ (cutL_from row 1)
  have e1 : cutL (ofInts row) none (some 1) = ofInts (row.take 1) := by rw [cutL_ofInts]; exact congrArg _ (cutL_to row 1)
  have ek : ∃ k : List Int, ∀ S, mLc [2, 3] (mCallI gZip (mCons (mV 0) (mCons (mFr (mSl (mV 0) (oSome (mK (.int 1))) oNone)) mNil))) (aT 2 (asCons (aN 2) (asCons (aN 3) asNil))) (mB (m2 gNe (mV 2) (mV 3))) (mV 3) [some (RW row), none, none, none] S = .ok (.loc S.length) (S ++ [.lst (ofInts k)]) ∧ row.take 1 ++ k = wh row := by
    refine ⟨match row with | [] => [] | c :: r => kept c r, fun S => ⟨?_, ?_⟩⟩
    · rw [mLc_pure (ps := zipT (ofInts row) (ofInts (row.drop 1))) (fun p => match p with | .tuple [a, b] => [some (RW row), none, some (.py a), some (.py b)] | _ => []) (fun p => match p with | .tuple [.int a, .int b] => !decide (a = b) | _ => false) (fun p => match p with | .tuple [.int a, .int b] => .int b | p => p)]
      · cases row with
        | nil => rfl
        | cons c r =>
          have e := zip_kept r c (fun p => match p with | .tuple [.int a, .int b] => !decide (a = b) | _ => false) (fun p => match p with | .tuple [.int a, .int b] => .int b | p => p) (fun _ _ => rfl) (fun _ _ => rfl)
          show R.ok _ (S ++ [Cell.lst (((zipT (ofInts (c :: r)) (ofInts r)).filter _).map _)]) = _
          rw [e]
      · simp -implicitDefEqProofs only [bd_ok, bd_no, bd_exc, bdN_ok, bs_ok, bs_exc, mV_ap, getV_ok, mK_ap, m1_ap, m2_ap, k2_ap, k2'_ap, mNil_ap, mCons_ap, kC1_ap, kC2_ap, mCall_ap, mCallI_ap, mItems_ap, gItems_l, gItems_t, mIf_ap, kIf_t, kIf_f, mCB_ap, mAndT_ap, mOrT_ap, mNotT_ap, kNot_ap, mAnd_ap, kAnd_t, kAnd_f, mOr_ap, kOr_t, kOr_f, mNot_ap, kNotV_ap, mB_ap, kB_ap, mFr_ap, frR_py, frR_no, frR_exc, mSl_ap, kS1_ap, kS2_ap, kS3_ap, oNone_ap, oSome_ap, kO_ap, mChain_ap, kH1_ap, kH2_ap, kH3_t, kH3_f, mMeth_ap, kMe2_ap, sSeq_ap, seqK_nx, seqK_rt, seqK_bk, seqK_ct, seqK_exc, seqK_no, sNx_ap, sNo_ap, sEx_ap, kE_ap, sRet_ap, kR_ap, sRetN_ap, sIf_ap, kSI_t, kSI_f, sAs_ap, kA_ap, asK_ok, aN_ap, kA_N, asNil_ap, asCons_ap, kG_ap, asSub_ap, kU1_ap, kU2_ap, sFor_ap, kF_ap, sPar_ap, kP2_ap, sPar3_ap, kP3_ap, endB_nx, endB_rt, endB_exc, endB_no, gAdd_i, gSub_i, gLtI_i, gLe_i, gGt_i, gGe_i, gNeg_i, gIntF_i, gAbs_i, gMax2_i, gMin2_i, gLen_l, gLen_t, gTupF_l, gTupF_t, gSl_t, gRev_t, gIs_b, gIsNot_b, gIs_n, gIsNot_n, pys_nil, gZip_t, List.getElem?_cons_zero, List.getElem?_cons_succ, List.set_cons_zero, List.set_cons_succ, List.map_cons, List.map_nil, List.length_cons, List.length_nil, List.cons_append, List.nil_append, Nat.reduceAdd, Nat.reduceSub, List.replicate_succ, List.replicate_zero, ofInts_len, wipeE, List.take_length, frR_new, decide_true, decide_false, Bool.not_true, Bool.not_false, mDNew_ap, sDput_ap, kD1_ap, kD2_ap, kD3_ap, mGet2_ap, kG2_ap, kG3_ap, mIfT_ap, e0]
      · exact Nat.le_trans (zipT_len _ _) (by rw [ofInts_len]; omega)
      · intro p hp S
        obtain ⟨x, y, rfl⟩ := mem_zip (r := row) hp
        rfl
      · intro p hp S
        obtain ⟨x, y, rfl⟩ := mem_zip (r := row) hp
        show mB _ [some (RW row), none, some (.py (.int x)), some (.py (.int y))] S = _
        simp -implicitDefEqProofs only [bd_ok, bd_no, bd_exc, bdN_ok, bs_ok, bs_exc, mV_ap, getV_ok, mK_ap, m1_ap, m2_ap, k2_ap, k2'_ap, mNil_ap, mCons_ap, kC1_ap, kC2_ap, mCall_ap, mCallI_ap, mItems_ap, gItems_l, gItems_t, mIf_ap, kIf_t, kIf_f, mCB_ap, mAndT_ap, mOrT_ap, mNotT_ap, kNot_ap, mAnd_ap, kAnd_t, kAnd_f, mOr_ap, kOr_t, kOr_f, mNot_ap, kNotV_ap, mB_ap, kB_ap, mFr_ap, frR_py, frR_no, frR_exc, mSl_ap, kS1_ap, kS2_ap, kS3_ap, oNone_ap, oSome_ap, kO_ap, mChain_ap, kH1_ap, kH2_ap, kH3_t, kH3_f, mMeth_ap, kMe2_ap, sSeq_ap, seqK_nx, seqK_rt, seqK_bk, seqK_ct, seqK_exc, seqK_no, sNx_ap, sNo_ap, sEx_ap, kE_ap, sRet_ap, kR_ap, sRetN_ap, sIf_ap, kSI_t, kSI_f, sAs_ap, kA_ap, asK_ok, aN_ap, kA_N, asNil_ap, asCons_ap, kG_ap, asSub_ap, kU1_ap, kU2_ap, sFor_ap, kF_ap, sPar_ap, kP2_ap, sPar3_ap, kP3_ap, endB_nx, endB_rt, endB_exc, endB_no, gAdd_i, gSub_i, gLtI_i, gLe_i, gGt_i, gGe_i, gNeg_i, gIntF_i, gAbs_i, gMax2_i, gMin2_i, gLen_l, gLen_t, gTupF_l, gTupF_t, gSl_t, gRev_t, gIs_b, gIsNot_b, gIs_n, gIsNot_n, pys_nil, gZip_t, List.getElem?_cons_zero, List.getElem?_cons_succ, List.set_cons_zero, List.set_cons_succ, List.map_cons, List.map_nil, List.length_cons, List.length_nil, List.cons_append, List.nil_append, Nat.reduceAdd, Nat.reduceSub, List.replicate_succ, List.replicate_zero, ofInts_len, wipeE, List.take_length, frR_new, decide_true, decide_false, Bool.not_true, Bool.not_false, mDNew_ap, sDput_ap, kD1_ap, kD2_ap, kD3_ap, mGet2_ap, kG2_ap, kG3_ap, mIfT_ap, gNe_i]
      · intro p hp _ S
        obtain ⟨x, y, rfl⟩ := mem_zip (r := row) hp
        rfl
    · cases row with
      | nil => rfl
      | cons c r => rfl
  obtain ⟨k, hk⟩ := ek
  have hk1 := fun S => (hk S).1
  have hk2 := (hk []).2
  have hl : (wh row).length ≤ 1000 := Nat.le_trans (wh_len row) hn
  rw [← hk2] at hl ⊢
  have ea : ∀ S, gAdd (.py (.tuple (ofInts (row.take 1)))) (.py (.tuple (ofInts k))) S = .ok (RW (row.take 1 ++ k)) S := fun S => (gAdd_t (fits_le (by rw [ofInts_len, ofInts_len]; rw [List.length_append] at hl; omega))).trans (by rw [ofInts_append])
  unfold F_without_halts
  rw [runF_ap]
  unfold b_without_halts
  simp -implicitDefEqProofs only [bd_ok, bd_no, bd_exc, bdN_ok, bs_ok, bs_exc, mV_ap, getV_ok, mK_ap, m1_ap, m2_ap, k2_ap, k2'_ap, mNil_ap, mCons_ap, kC1_ap, kC2_ap, mCall_ap, mCallI_ap, mItems_ap, gItems_l, gItems_t, mIf_ap, kIf_t, kIf_f, mCB_ap, mAndT_ap, mOrT_ap, mNotT_ap, kNot_ap, mAnd_ap, kAnd_t, kAnd_f, mOr_ap, kOr_t, kOr_f, mNot_ap, kNotV_ap, mB_ap, kB_ap, mFr_ap, frR_py, frR_no, frR_exc, mSl_ap, kS1_ap, kS2_ap, kS3_ap, oNone_ap, oSome_ap, kO_ap, mChain_ap, kH1_ap, kH2_ap, kH3_t, kH3_f, mMeth_ap, kMe2_ap, sSeq_ap, seqK_nx, seqK_rt, seqK_bk, seqK_ct, seqK_exc, seqK_no, sNx_ap, sNo_ap, sEx_ap, kE_ap, sRet_ap, kR_ap, sRetN_ap, sIf_ap, kSI_t, kSI_f, sAs_ap, kA_ap, asK_ok, aN_ap, kA_N, asNil_ap, asCons_ap, kG_ap, asSub_ap, kU1_ap, kU2_ap, sFor_ap, kF_ap, sPar_ap, kP2_ap, sPar3_ap, kP3_ap, endB_nx, endB_rt, endB_exc, endB_no, gAdd_i, gSub_i, gLtI_i, gLe_i, gGt_i, gGe_i, gNeg_i, gIntF_i, gAbs_i, gMax2_i, gMin2_i, gLen_l, gLen_t, gTupF_l, gTupF_t, gSl_t, gRev_t, gIs_b, gIsNot_b, gIs_n, gIsNot_n, pys_nil, gZip_t, List.getElem?_cons_zero, List.getElem?_cons_succ, List.set_cons_zero, List.set_cons_succ, List.map_cons, List.map_nil, List.length_cons, List.length_nil, List.cons_append, List.nil_append, Nat.reduceAdd, Nat.reduceSub, List.replicate_succ, List.replicate_zero, ofInts_len, wipeE, List.take_length, frR_new, decide_true, decide_false, Bool.not_true, Bool.not_false, mDNew_ap, sDput_ap, kD1_ap, kD2_ap, kD3_ap, mGet2_ap, kG2_ap, kG3_ap, mIfT_ap, hk1, e1, ea]
/-- rows of one form -/
def sameB : List Int → List Int → Bool
  | [], [] => true
  | c :: r, e :: s => decide (c = e) && (decide ((c :: r).getLast (by simp) = (e :: s).getLast (by simp)) && decide (isort (stp (c :: r)) = isort (stp (e :: s))))
  | _, _ => false
theorem eqv_form (a z : Int) (s : List Int) (b y : Int) (t : List Int) : PyData.eqv (formD a z s) (formD b y t) = (decide (a = b) && (decide (z = y) && decide (s = t))) := by
  unfold formD
  rw [eqv_tt]
  show (PyData.eqv (.int a) (.int b) && (PyData.eqv (.int z) (.int y) && (PyData.eqv (.tuple (ofInts s)) (.tuple (ofInts t)) && true))) = _
  rw [eqv_ii, eqv_ii, eqv_rows, Bool.and_true]
theorem gEq_forms (a z : Int) (s : List Int) (b y : Int) (t : List Int) (S : Store) : gEq (.py (formD a z s)) (.py (formD b y t)) S = .ok (.py (.bool (decide (a = b) && (decide (z = y) && decide (s = t))))) S := by
  rw [gEq_p (shaped_of (formD_shp a z s)) (shaped_of (formD_shp b y t)), eqv_form]
theorem F_same (a b : List Int) (S : Store) (hn : a.length ≤ 1000) (hn2 : b.length ≤ 1000) : F_do_the_same [RW a, RW b] S = .ok (.py (.bool (sameB a b))) S := by
  unfold F_do_the_same
  rw [runF_ap]
  unfold b_do_the_same
  have z0 : decide (((0 : Nat) : Int) = 0) = true := rfl
  have z1 : ∀ n : Nat, decide (((n + 1 : Nat) : Int) = 0) = false := fun n => decide_eq_false (by omega)
  have z2 : ∀ n : Nat, decide (((0 : Nat) : Int) = ((n + 1 : Nat) : Int)) = false := fun n => decide_eq_false (by omega)
  have z3 : ∀ n : Nat, decide (((n + 1 : Nat) : Int) = ((0 : Nat) : Int)) = false := fun n => decide_eq_false (by omega)
  cases a with
  | nil => cases b with
    | nil => simp -implicitDefEqProofs only [bd_ok, bd_no, bd_exc, bdN_ok, bs_ok, bs_exc, mV_ap, getV_ok, mK_ap, m1_ap, m2_ap, k2_ap, k2'_ap, mNil_ap, mCons_ap, kC1_ap, kC2_ap, mCall_ap, mCallI_ap, mItems_ap, gItems_l, gItems_t, mIf_ap, kIf_t, kIf_f, mCB_ap, mAndT_ap, mOrT_ap, mNotT_ap, kNot_ap, mAnd_ap, kAnd_t, kAnd_f, mOr_ap, kOr_t, kOr_f, mNot_ap, kNotV_ap, mB_ap, kB_ap, mFr_ap, frR_py, frR_no, frR_exc, mSl_ap, kS1_ap, kS2_ap, kS3_ap, oNone_ap, oSome_ap, kO_ap, mChain_ap, kH1_ap, kH2_ap, kH3_t, kH3_f, mMeth_ap, kMe2_ap, sSeq_ap, seqK_nx, seqK_rt, seqK_bk, seqK_ct, seqK_exc, seqK_no, sNx_ap, sNo_ap, sEx_ap, kE_ap, sRet_ap, kR_ap, sRetN_ap, sIf_ap, kSI_t, kSI_f, sAs_ap, kA_ap, asK_ok, aN_ap, kA_N, asNil_ap, asCons_ap, kG_ap, asSub_ap, kU1_ap, kU2_ap, sFor_ap, kF_ap, sPar_ap, kP2_ap, sPar3_ap, kP3_ap, endB_nx, endB_rt, endB_exc, endB_no, gAdd_i, gSub_i, gLtI_i, gLe_i, gGt_i, gGe_i, gNeg_i, gIntF_i, gAbs_i, gMax2_i, gMin2_i, gLen_l, gLen_t, gTupF_l, gTupF_t, gSl_t, gRev_t, gIs_b, gIsNot_b, gIs_n, gIsNot_n, pys_nil, gZip_t, List.getElem?_cons_zero, List.getElem?_cons_succ, List.set_cons_zero, List.set_cons_succ, List.map_cons, List.map_nil, List.length_cons, List.length_nil, List.cons_append, List.nil_append, Nat.reduceAdd, Nat.reduceSub, List.replicate_succ, List.replicate_zero, ofInts_len, wipeE, List.take_length, frR_new, decide_true, decide_false, Bool.not_true, Bool.not_false, mDNew_ap, sDput_ap, kD1_ap, kD2_ap, kD3_ap, mGet2_ap, kG2_ap, kG3_ap, mIfT_ap, gEq_i, z0]; rfl
    | cons e s => simp -implicitDefEqProofs only [bd_ok, bd_no, bd_exc, bdN_ok, bs_ok, bs_exc, mV_ap, getV_ok, mK_ap, m1_ap, m2_ap, k2_ap, k2'_ap, mNil_ap, mCons_ap, kC1_ap, kC2_ap, mCall_ap, mCallI_ap, mItems_ap, gItems_l, gItems_t, mIf_ap, kIf_t, kIf_f, mCB_ap, mAndT_ap, mOrT_ap, mNotT_ap, kNot_ap, mAnd_ap, kAnd_t, kAnd_f, mOr_ap, kOr_t, kOr_f, mNot_ap, kNotV_ap, mB_ap, kB_ap, mFr_ap, frR_py, frR_no, frR_exc, mSl_ap, kS1_ap, kS2_ap, kS3_ap, oNone_ap, oSome_ap, kO_ap, mChain_ap, kH1_ap, kH2_ap, kH3_t, kH3_f, mMeth_ap, kMe2_ap, sSeq_ap, seqK_nx, seqK_rt, seqK_bk, seqK_ct, seqK_exc, seqK_no, sNx_ap, sNo_ap, sEx_ap, kE_ap, sRet_ap, kR_ap, sRetN_ap, sIf_ap, kSI_t, kSI_f, sAs_ap, kA_ap, asK_ok, aN_ap, kA_N, asNil_ap, asCons_ap, kG_ap, asSub_ap, kU1_ap, kU2_ap, sFor_ap, kF_ap, sPar_ap, kP2_ap, sPar3_ap, kP3_ap, endB_nx, endB_rt, endB_exc, endB_no, gAdd_i, gSub_i, gLtI_i, gLe_i, gGt_i, gGe_i, gNeg_i, gIntF_i, gAbs_i, gMax2_i, gMin2_i, gLen_l, gLen_t, gTupF_l, gTupF_t, gSl_t, gRev_t, gIs_b, gIsNot_b, gIs_n, gIsNot_n, pys_nil, gZip_t, List.getElem?_cons_zero, List.getElem?_cons_succ, List.set_cons_zero, List.set_cons_succ, List.map_cons, List.map_nil, List.length_cons, List.length_nil, List.cons_append, List.nil_append, Nat.reduceAdd, Nat.reduceSub, List.replicate_succ, List.replicate_zero, ofInts_len, wipeE, List.take_length, frR_new, decide_true, decide_false, Bool.not_true, Bool.not_false, mDNew_ap, sDput_ap, kD1_ap, kD2_ap, kD3_ap, mGet2_ap, kG2_ap, kG3_ap, mIfT_ap, gEq_i, z0, z1, z2]; rfl
  | cons c r => cases b with
    | nil => simp -implicitDefEqProofs only [bd_ok, bd_no, bd_exc, bdN_ok, bs_ok, bs_exc, mV_ap, getV_ok, mK_ap, m1_ap, m2_ap, k2_ap, k2'_ap, mNil_ap, mCons_ap, kC1_ap, kC2_ap, mCall_ap, mCallI_ap, mItems_ap, gItems_l, gItems_t, mIf_ap, kIf_t, kIf_f, mCB_ap, mAndT_ap, mOrT_ap, mNotT_ap, kNot_ap, mAnd_ap, kAnd_t, kAnd_f, mOr_ap, kOr_t, kOr_f, mNot_ap, kNotV_ap, mB_ap, kB_ap, mFr_ap, frR_py, frR_no, frR_exc, mSl_ap, kS1_ap, kS2_ap, kS3_ap, oNone_ap, oSome_ap, kO_ap, mChain_ap, kH1_ap, kH2_ap, kH3_t, kH3_f, mMeth_ap, kMe2_ap, sSeq_ap, seqK_nx, seqK_rt, seqK_bk, seqK_ct, seqK_exc, seqK_no, sNx_ap, sNo_ap, sEx_ap, kE_ap, sRet_ap, kR_ap, sRetN_ap, sIf_ap, kSI_t, kSI_f, sAs_ap, kA_ap, asK_ok, aN_ap, kA_N, asNil_ap, asCons_ap, kG_ap, asSub_ap, kU1_ap, kU2_ap, sFor_ap, kF_ap, sPar_ap, kP2_ap, sPar3_ap, kP3_ap, endB_nx, endB_rt, endB_exc, endB_no, gAdd_i, gSub_i, gLtI_i, gLe_i, gGt_i, gGe_i, gNeg_i, gIntF_i, gAbs_i, gMax2_i, gMin2_i, gLen_l, gLen_t, gTupF_l, gTupF_t, gSl_t, gRev_t, gIs_b, gIsNot_b, gIs_n, gIsNot_n, pys_nil, gZip_t, List.getElem?_cons_zero, List.getElem?_cons_succ, List.set_cons_zero, List.set_cons_succ, List.map_cons, List.map_nil, List.length_cons, List.length_nil, List.cons_append, List.nil_append, Nat.reduceAdd, Nat.reduceSub, List.replicate_succ, List.replicate_zero, ofInts_len, wipeE, List.take_length, frR_new, decide_true, decide_false, Bool.not_true, Bool.not_false, mDNew_ap, sDput_ap, kD1_ap, kD2_ap, kD3_ap, mGet2_ap, kG2_ap, kG3_ap, mIfT_ap, gEq_i, z0, z1, z3]; rfl
    | cons e s =>
      simp -implicitDefEqProofs only [bd_ok, bd_no, bd_exc, bdN_ok, bs_ok, bs_exc, mV_ap, getV_ok, mK_ap, m1_ap, m2_ap, k2_ap, k2'_ap, mNil_ap, mCons_ap, kC1_ap, kC2_ap, mCall_ap, mCallI_ap, mItems_ap, gItems_l, gItems_t, mIf_ap, kIf_t, kIf_f, mCB_ap, mAndT_ap, mOrT_ap, mNotT_ap, kNot_ap, mAnd_ap, kAnd_t, kAnd_f, mOr_ap, kOr_t, kOr_f, mNot_ap, kNotV_ap, mB_ap, kB_ap, mFr_ap, frR_py, frR_no, frR_exc, mSl_ap, kS1_ap, kS2_ap, kS3_ap, oNone_ap, oSome_ap, kO_ap, mChain_ap, kH1_ap, kH2_ap, kH3_t, kH3_f, mMeth_ap, kMe2_ap, sSeq_ap, seqK_nx, seqK_rt, seqK_bk, seqK_ct, seqK_exc, seqK_no, sNx_ap, sNo_ap, sEx_ap, kE_ap, sRet_ap, kR_ap, sRetN_ap, sIf_ap, kSI_t, kSI_f, sAs_ap, kA_ap, asK_ok, aN_ap, kA_N, asNil_ap, asCons_ap, kG_ap, asSub_ap, kU1_ap, kU2_ap, sFor_ap, kF_ap, sPar_ap, kP2_ap, sPar3_ap, kP3_ap, endB_nx, endB_rt, endB_exc, endB_no, gAdd_i, gSub_i, gLtI_i, gLe_i, gGt_i, gGe_i, gNeg_i, gIntF_i, gAbs_i, gMax2_i, gMin2_i, gLen_l, gLen_t, gTupF_l, gTupF_t, gSl_t, gRev_t, gIs_b, gIsNot_b, gIs_n, gIsNot_n, pys_nil, gZip_t, List.getElem?_cons_zero, List.getElem?_cons_succ, List.set_cons_zero, List.set_cons_succ, List.map_cons, List.map_nil, List.length_cons, List.length_nil, List.cons_append, List.nil_append, Nat.reduceAdd, Nat.reduceSub, List.replicate_succ, List.replicate_zero, ofInts_len, wipeE, List.take_length, frR_new, decide_true, decide_false, Bool.not_true, Bool.not_false, mDNew_ap, sDput_ap, kD1_ap, kD2_ap, kD3_ap, mGet2_ap, kG2_ap, kG3_ap, mIfT_ap, gEq_i, z1, F_formb (List.cons_ne_nil c r) _ (by omega : (c :: r).length ≤ 100000), F_formb (List.cons_ne_nil e s) _ (by omega : (e :: s).length ≤ 100000), gEq_forms, List.head_cons]
      rfl
theorem F_alike (a b : List Int) (S : Store) (hn : a.length ≤ 12) (hn2 : b.length ≤ 12) (h1 : InB 1000000 a) (h2 : InB 1000000 b) : F_rows_alike [RW a, RW b] S = .ok (.py (.bool (sameB a b))) S := by
  unfold F_rows_alike
  rw [runF_ap]
  unfold b_rows_alike
  simp -implicitDefEqProofs only [bd_ok, bd_no, bd_exc, bdN_ok, bs_ok, bs_exc, mV_ap, getV_ok, mK_ap, m1_ap, m2_ap, k2_ap, k2'_ap, mNil_ap, mCons_ap, kC1_ap, kC2_ap, mCall_ap, mCallI_ap, mItems_ap, gItems_l, gItems_t, mIf_ap, kIf_t, kIf_f, mCB_ap, mAndT_ap, mOrT_ap, mNotT_ap, kNot_ap, mAnd_ap, kAnd_t, kAnd_f, mOr_ap, kOr_t, kOr_f, mNot_ap, kNotV_ap, mB_ap, kB_ap, mFr_ap, frR_py, frR_no, frR_exc, mSl_ap, kS1_ap, kS2_ap, kS3_ap, oNone_ap, oSome_ap, kO_ap, mChain_ap, kH1_ap, kH2_ap, kH3_t, kH3_f, mMeth_ap, kMe2_ap, sSeq_ap, seqK_nx, seqK_rt, seqK_bk, seqK_ct, seqK_exc, seqK_no, sNx_ap, sNo_ap, sEx_ap, kE_ap, sRet_ap, kR_ap, sRetN_ap, sIf_ap, kSI_t, kSI_f, sAs_ap, kA_ap, asK_ok, aN_ap, kA_N, asNil_ap, asCons_ap, kG_ap, asSub_ap, kU1_ap, kU2_ap, sFor_ap, kF_ap, sPar_ap, kP2_ap, sPar3_ap, kP3_ap, endB_nx, endB_rt, endB_exc, endB_no, gAdd_i, gSub_i, gLtI_i, gLe_i, gGt_i, gGe_i, gNeg_i, gIntF_i, gAbs_i, gMax2_i, gMin2_i, gLen_l, gLen_t, gTupF_l, gTupF_t, gSl_t, gRev_t, gIs_b, gIsNot_b, gIs_n, gIsNot_n, pys_nil, gZip_t, List.getElem?_cons_zero, List.getElem?_cons_succ, List.set_cons_zero, List.set_cons_succ, List.map_cons, List.map_nil, List.length_cons, List.length_nil, List.cons_append, List.nil_append, Nat.reduceAdd, Nat.reduceSub, List.replicate_succ, List.replicate_zero, ofInts_len, wipeE, List.take_length, frR_new, decide_true, decide_false, Bool.not_true, Bool.not_false, mDNew_ap, sDput_ap, kD1_ap, kD2_ap, kD3_ap, mGet2_ap, kG2_ap, kG3_ap, mIfT_ap, F_check a _ hn h1, F_check b _ hn2 h2, F_same a b _ (by omega : a.length ≤ 1000) (by omega : b.length ≤ 1000)]
def dblB (a b : List Int) : Bool := sameB (wh a) (wh b)
def told (a b : List Int) : PyData := if dblB a b = true then .int ((a.length : Int) - b.length) else .none
theorem F_doub (a b : List Int) (S : Store) (hn : a.length ≤ 12) (hn2 : b.length ≤ 12) (h1 : InB 1000000 a) (h2 : InB 1000000 b) : F_doublings [RW a, RW b] S = .ok (.py (told a b)) S := by
  have la := wh_len a
  have lb := wh_len b
  have e := fun S => F_same (wh a) (wh b) S (by omega) (by omega)
  unfold F_doublings
  rw [runF_ap]
  unfold b_doublings
  unfold told
  cases h : dblB a b with
  | true =>
    have e' : ∀ S, F_do_the_same [RW (wh a), RW (wh b)] S = .ok (.py (.bool true)) S := fun S => by rw [e S]; show R.ok (D.py (.bool (dblB a b))) S = _; rw [h]
    simp -implicitDefEqProofs only [bd_ok, bd_no, bd_exc, bdN_ok, bs_ok, bs_exc, mV_ap, getV_ok, mK_ap, m1_ap, m2_ap, k2_ap, k2'_ap, mNil_ap, mCons_ap, kC1_ap, kC2_ap, mCall_ap, mCallI_ap, mItems_ap, gItems_l, gItems_t, mIf_ap, kIf_t, kIf_f, mCB_ap, mAndT_ap, mOrT_ap, mNotT_ap, kNot_ap, mAnd_ap, kAnd_t, kAnd_f, mOr_ap, kOr_t, kOr_f, mNot_ap, kNotV_ap, mB_ap, kB_ap, mFr_ap, frR_py, frR_no, frR_exc, mSl_ap, kS1_ap, kS2_ap, kS3_ap, oNone_ap, oSome_ap, kO_ap, mChain_ap, kH1_ap, kH2_ap, kH3_t, kH3_f, mMeth_ap, kMe2_ap, sSeq_ap, seqK_nx, seqK_rt, seqK_bk, seqK_ct, seqK_exc, seqK_no, sNx_ap, sNo_ap, sEx_ap, kE_ap, sRet_ap, kR_ap, sRetN_ap, sIf_ap, kSI_t, kSI_f, sAs_ap, kA_ap, asK_ok, aN_ap, kA_N, asNil_ap, asCons_ap, kG_ap, asSub_ap, kU1_ap, kU2_ap, sFor_ap, kF_ap, sPar_ap, kP2_ap, sPar3_ap, kP3_ap, endB_nx, endB_rt, endB_exc, endB_no, gAdd_i, gSub_i, gLtI_i, gLe_i, gGt_i, gGe_i, gNeg_i, gIntF_i, gAbs_i, gMax2_i, gMin2_i, gLen_l, gLen_t, gTupF_l, gTupF_t, gSl_t, gRev_t, gIs_b, gIsNot_b, gIs_n, gIsNot_n, pys_nil, gZip_t, List.getElem?_cons_zero, List.getElem?_cons_succ, List.set_cons_zero, List.set_cons_succ, List.map_cons, List.map_nil, List.length_cons, List.length_nil, List.cons_append, List.nil_append, Nat.reduceAdd, Nat.reduceSub, List.replicate_succ, List.replicate_zero, ofInts_len, wipeE, List.take_length, frR_new, decide_true, decide_false, Bool.not_true, Bool.not_false, mDNew_ap, sDput_ap, kD1_ap, kD2_ap, kD3_ap, mGet2_ap, kG2_ap, kG3_ap, mIfT_ap, F_check a _ hn h1, F_check b _ hn2 h2, F_wh a _ (by omega : a.length ≤ 1000), F_wh b _ (by omega : b.length ≤ 1000), e']
    rfl
  | false =>
    have e' : ∀ S, F_do_the_same [RW (wh a), RW (wh b)] S = .ok (.py (.bool false)) S := fun S => by rw [e S]; show R.ok (D.py (.bool (dblB a b))) S = _; rw [h]
    simp -implicitDefEqProofs only [bd_ok, bd_no, bd_exc, bdN_ok, bs_ok, bs_exc, mV_ap, getV_ok, mK_ap, m1_ap, m2_ap, k2_ap, k2'_ap, mNil_ap, mCons_ap, kC1_ap, kC2_ap, mCall_ap, mCallI_ap, mItems_ap, gItems_l, gItems_t, mIf_ap, kIf_t, kIf_f, mCB_ap, mAndT_ap, mOrT_ap, mNotT_ap, kNot_ap, mAnd_ap, kAnd_t, kAnd_f, mOr_ap, kOr_t, kOr_f, mNot_ap, kNotV_ap, mB_ap, kB_ap, mFr_ap, frR_py, frR_no, frR_exc, mSl_ap, kS1_ap, kS2_ap, kS3_ap, oNone_ap, oSome_ap, kO_ap, mChain_ap, kH1_ap, kH2_ap, kH3_t, kH3_f, mMeth_ap, kMe2_ap, sSeq_ap, seqK_nx, seqK_rt, seqK_bk, seqK_ct, seqK_exc, seqK_no, sNx_ap, sNo_ap, sEx_ap, kE_ap, sRet_ap, kR_ap, sRetN_ap, sIf_ap, kSI_t, kSI_f, sAs_ap, kA_ap, asK_ok, aN_ap, kA_N, asNil_ap, asCons_ap, kG_ap, asSub_ap, kU1_ap, kU2_ap, sFor_ap, kF_ap, sPar_ap, kP2_ap, sPar3_ap, kP3_ap, endB_nx, endB_rt, endB_exc, endB_no, gAdd_i, gSub_i, gLtI_i, gLe_i, gGt_i, gGe_i, gNeg_i, gIntF_i, gAbs_i, gMax2_i, gMin2_i, gLen_l, gLen_t, gTupF_l, gTupF_t, gSl_t, gRev_t, gIs_b, gIsNot_b, gIs_n, gIsNot_n, pys_nil, gZip_t, List.getElem?_cons_zero, List.getElem?_cons_succ, List.set_cons_zero, List.set_cons_succ, List.map_cons, List.map_nil, List.length_cons, List.length_nil, List.cons_append, List.nil_append, Nat.reduceAdd, Nat.reduceSub, List.replicate_succ, List.replicate_zero, ofInts_len, wipeE, List.take_length, frR_new, decide_true, decide_false, Bool.not_true, Bool.not_false, mDNew_ap, sDput_ap, kD1_ap, kD2_ap, kD3_ap, mGet2_ap, kG2_ap, kG3_ap, mIfT_ap, F_check a _ hn h1, F_check b _ hn2 h2, F_wh a _ (by omega : a.length ≤ 1000), F_wh b _ (by omega : b.length ≤ 1000), e']
    rfl
theorem isort_iff {a b : List Int} : isort a = isort b ↔ a.Perm b := ⟨fun h => (isort_perm a).symm.trans (h ▸ isort_perm b), isort_of_perm⟩
theorem dblB_iff (c : Int) (r : List Int) (e : Int) (s : List Int) : dblB (c :: r) (e :: s) = true ↔ FM.Dbl c r e s := by
  show (decide (c = e) && (decide ((c :: kept c r).getLast (by simp) = (e :: kept e s).getLast (by simp)) && decide (isort (stp (c :: kept c r)) = isort (stp (e :: kept e s))))) = true ↔ _
  rw [Bool.and_eq_true, Bool.and_eq_true, decide_eq_true_iff, decide_eq_true_iff, decide_eq_true_iff, last_wh, last_wh, steps_wh, steps_wh, isort_iff]
  exact ⟨fun ⟨a, b, c⟩ => ⟨a, b, c⟩, fun ⟨a, b, c⟩ => ⟨a, b, c⟩⟩
theorem dblB_symm (a b : List Int) : dblB b a = dblB a b := by
  have key : ∀ a b, dblB a b = true → dblB b a = true := by
    intro a b h
    cases a with
    | nil => cases b with
      | nil => rfl
      | cons e s => exact h
    | cons c r => cases b with
      | nil => exact h
      | cons e s =>
        rw [dblB_iff] at h ⊢
        exact ⟨h.first.symm, h.last.symm, h.st.symm⟩
  cases h : dblB a b with
  | true => exact key a b h
  | false =>
    cases h2 : dblB b a with
    | false => rfl
    | true => rw [key b a h2] at h; cases h
theorem same_dbl (a b : List Int) : sameB a b = (dblB a b && decide ((a.length : Int) - b.length = 0)) := by
  cases a with
  | nil => cases b with
    | nil => rfl
    | cons e s => rfl
  | cons c r => cases b with
    | nil => rfl
    | cons e s =>
      cases h : sameB (c :: r) (e :: s) with
      | true =>
        symm
        have h' : (decide (c = e) && (decide ((c :: r).getLast (by simp) = (e :: s).getLast (by simp)) && decide (isort (stp (c :: r)) = isort (stp (e :: s))))) = true := h
        rw [Bool.and_eq_true, Bool.and_eq_true, decide_eq_true_iff, decide_eq_true_iff, decide_eq_true_iff, isort_iff] at h'
        obtain ⟨h1, h2, h3⟩ := h'
        have hl := h3.length_eq
        rw [stp_len, stp_len] at hl
        simp only [List.length_cons] at hl
        rw [Bool.and_eq_true, dblB_iff, decide_eq_true_iff]
        exact ⟨⟨h1, h2, h3.filter _⟩, by simp only [List.length_cons]; omega⟩
      | false =>
        symm
        rw [Bool.eq_false_iff]
        intro hh
        rw [Bool.and_eq_true, dblB_iff, decide_eq_true_iff] at hh
        obtain ⟨⟨h1, h2, h3⟩, h4⟩ := hh
        simp only [List.length_cons] at h4
        have hp : (stp (c :: r)).Perm (stp (e :: s)) := by
          rw [List.perm_iff_count]
          intro v
          by_cases hv : v = 0
          · subst hv
            have z : ∀ m : List Int, m.count 0 = FM.zeros m := fun m => by
              unfold FM.zeros
              rw [List.count_eq_length_filter]
              congr 1
            have z1 := FM.zeros_pos (stp (c :: r))
            have z2 := FM.zeros_pos (stp (e :: s))
            rw [stp_len] at z1 z2
            simp only [List.length_cons] at z1 z2
            have : (FM.pos (stp (c :: r))).length = (FM.pos (stp (e :: s))).length := h3.length_eq
            rw [z, z]; omega
          · have := h3.count_eq v
            rw [FM.pos_count _ hv, FM.pos_count _ hv] at this
            exact this
        have : sameB (c :: r) (e :: s) = true := by
          show (decide (c = e) && (decide ((c :: r).getLast (by simp) = (e :: s).getLast (by simp)) && decide (isort (stp (c :: r)) = isort (stp (e :: s))))) = true
          rw [decide_eq_true h1, decide_eq_true h2, decide_eq_true (isort_iff.mpr hp)]; rfl
        rw [this] at h; cases h
end LW

end P_Q6
section P_Q7
set_option maxHeartbeats 4000000
namespace LW
open PySem PySem.Spec PyProof.Rows L2 PX
def posS (r : List Int) : List Int := (isort (stp r)).filter (fun d => decide (0 < d))
def plainD : List Int → PyData
  | [] => .tuple []
  | c :: r => .tuple [.int c, .int ((c :: r).getLast (by simp)), .list (ofInts (posS (c :: r)))]
theorem gGt0 (i : Int) (S : Store) : gGt (.py (.int i)) (.py (.int 0)) S = .ok (.py (.bool (decide (0 < i)))) S := rfl
theorem filt_ints (t : PyData → Bool) (p : Int → Bool) (h : ∀ i, t (.int i) = p i) : ∀ l : List Int, ((ofInts l).filter t).map id = ofInts (l.filter p)
  | [] => rfl
  | i :: l => by
    have ih := filt_ints t p h l
    show ((PyData.int i :: ofInts l).filter t).map id = _
    cases hp : p i with
    | true => rw [List.filter_cons_of_pos (by rw [h, hp]), List.filter_cons_of_pos hp, List.map_cons, ih]; rfl
    | false => rw [List.filter_cons_of_neg (by rw [h, hp]; exact Bool.false_ne_true), List.filter_cons_of_neg (by rw [hp]; exact Bool.false_ne_true), ih]
theorem F_plain1 {row : List Int} (h : row ≠ []) (S : Store) (hn : row.length ≤ 1000) : F__law_plain [RW row] S = .ok (.py (.tuple [.int (row.head h), .int (row.getLast h), .list (ofInts (posS row))])) S := by
  unfold F__law_plain
  rw [runF_ap]
  unfold b__law_plain
  have eS := fun S => F_steps (row := row) S (by omega)
  have eC : ∀ S, mLc [1] (mItems (mCall F__law_steps (mCons (mV 0) mNil))) (aN 1) (mB (m2 gGt (mV 1) (mK (.int 0)))) (mV 1) [some (RW row), none] S = .ok (.loc S.length) (S ++ [.lst (ofInts (posS row))]) := by
    intro S
    rw [mLc_pure (ps := ofInts (isort (stp row))) (fun p => [some (RW row), some (.py p)]) (fun p => match p with | .int i => decide (0 < i) | _ => false) id]
    · rw [filt_ints _ (fun i => decide (0 < i)) (fun _ => rfl)]; rfl
    · simp -implicitDefEqProofs only [bd_ok, bd_no, bd_exc, bdN_ok, bs_ok, bs_exc, mV_ap, getV_ok, mK_ap, m1_ap, m2_ap, k2_ap, k2'_ap, mNil_ap, mCons_ap, kC1_ap, kC2_ap, mCall_ap, mCallI_ap, mItems_ap, gItems_l, gItems_t, mIf_ap, kIf_t, kIf_f, mCB_ap, mAndT_ap, mOrT_ap, mNotT_ap, kNot_ap, mAnd_ap, kAnd_t, kAnd_f, mOr_ap, kOr_t, kOr_f, mNot_ap, kNotV_ap, mB_ap, kB_ap, mFr_ap, frR_py, frR_no, frR_exc, mSl_ap, kS1_ap, kS2_ap, kS3_ap, oNone_ap, oSome_ap, kO_ap, mChain_ap, kH1_ap, kH2_ap, kH3_t, kH3_f, mMeth_ap, kMe2_ap, sSeq_ap, seqK_nx, seqK_rt, seqK_bk, seqK_ct, seqK_exc, seqK_no, sNx_ap, sNo_ap, sEx_ap, kE_ap, sRet_ap, kR_ap, sRetN_ap, sIf_ap, kSI_t, kSI_f, sAs_ap, kA_ap, asK_ok, aN_ap, kA_N, asNil_ap, asCons_ap, kG_ap, asSub_ap, kU1_ap, kU2_ap, sFor_ap, kF_ap, sPar_ap, kP2_ap, sPar3_ap, kP3_ap, endB_nx, endB_rt, endB_exc, endB_no, gAdd_i, gSub_i, gLtI_i, gLe_i, gGt_i, gGe_i, gNeg_i, gIntF_i, gAbs_i, gMax2_i, gMin2_i, gLen_l, gLen_t, gTupF_l, gTupF_t, gSl_t, gRev_t, gIs_b, gIsNot_b, gIs_n, gIsNot_n, pys_nil, gZip_t, List.getElem?_cons_zero, List.getElem?_cons_succ, List.set_cons_zero, List.set_cons_succ, List.map_cons, List.map_nil, List.length_cons, List.length_nil, List.cons_append, List.nil_append, Nat.reduceAdd, Nat.reduceSub, List.replicate_succ, List.replicate_zero, ofInts_len, wipeE, List.take_length, frR_new, decide_true, decide_false, Bool.not_true, Bool.not_false, mDNew_ap, sDput_ap, kD1_ap, kD2_ap, kD3_ap, mGet2_ap, kG2_ap, kG3_ap, mIfT_ap, eS]
    · rw [ofInts_len, isort_len, stp_len]; omega
    · intro p hp S; rfl
    · intro p hp S
      obtain ⟨i, hi, rfl⟩ := List.mem_map.mp hp
      simp -implicitDefEqProofs only [bd_ok, bd_no, bd_exc, bdN_ok, bs_ok, bs_exc, mV_ap, getV_ok, mK_ap, m1_ap, m2_ap, k2_ap, k2'_ap, mNil_ap, mCons_ap, kC1_ap, kC2_ap, mCall_ap, mCallI_ap, mItems_ap, gItems_l, gItems_t, mIf_ap, kIf_t, kIf_f, mCB_ap, mAndT_ap, mOrT_ap, mNotT_ap, kNot_ap, mAnd_ap, kAnd_t, kAnd_f, mOr_ap, kOr_t, kOr_f, mNot_ap, kNotV_ap, mB_ap, kB_ap, mFr_ap, frR_py, frR_no, frR_exc, mSl_ap, kS1_ap, kS2_ap, kS3_ap, oNone_ap, oSome_ap, kO_ap, mChain_ap, kH1_ap, kH2_ap, kH3_t, kH3_f, mMeth_ap, kMe2_ap, sSeq_ap, seqK_nx, seqK_rt, seqK_bk, seqK_ct, seqK_exc, seqK_no, sNx_ap, sNo_ap, sEx_ap, kE_ap, sRet_ap, kR_ap, sRetN_ap, sIf_ap, kSI_t, kSI_f, sAs_ap, kA_ap, asK_ok, aN_ap, kA_N, asNil_ap, asCons_ap, kG_ap, asSub_ap, kU1_ap, kU2_ap, sFor_ap, kF_ap, sPar_ap, kP2_ap, sPar3_ap, kP3_ap, endB_nx, endB_rt, endB_exc, endB_no, gAdd_i, gSub_i, gLtI_i, gLe_i, gGt_i, gGe_i, gNeg_i, gIntF_i, gAbs_i, gMax2_i, gMin2_i, gLen_l, gLen_t, gTupF_l, gTupF_t, gSl_t, gRev_t, gIs_b, gIsNot_b, gIs_n, gIsNot_n, pys_nil, gZip_t, List.getElem?_cons_zero, List.getElem?_cons_succ, List.set_cons_zero, List.set_cons_succ, List.map_cons, List.map_nil, List.length_cons, List.length_nil, List.cons_append, List.nil_append, Nat.reduceAdd, Nat.reduceSub, List.replicate_succ, List.replicate_zero, ofInts_len, wipeE, List.take_length, frR_new, decide_true, decide_false, Bool.not_true, Bool.not_false, mDNew_ap, sDput_ap, kD1_ap, kD2_ap, kD3_ap, mGet2_ap, kG2_ap, kG3_ap, mIfT_ap, gGt0]
    · intro p hp _ S; rfl
  simp -implicitDefEqProofs only [bd_ok, bd_no, bd_exc, bdN_ok, bs_ok, bs_exc, mV_ap, getV_ok, mK_ap, m1_ap, m2_ap, k2_ap, k2'_ap, mNil_ap, mCons_ap, kC1_ap, kC2_ap, mCall_ap, mCallI_ap, mItems_ap, gItems_l, gItems_t, mIf_ap, kIf_t, kIf_f, mCB_ap, mAndT_ap, mOrT_ap, mNotT_ap, kNot_ap, mAnd_ap, kAnd_t, kAnd_f, mOr_ap, kOr_t, kOr_f, mNot_ap, kNotV_ap, mB_ap, kB_ap, mFr_ap, frR_py, frR_no, frR_exc, mSl_ap, kS1_ap, kS2_ap, kS3_ap, oNone_ap, oSome_ap, kO_ap, mChain_ap, kH1_ap, kH2_ap, kH3_t, kH3_f, mMeth_ap, kMe2_ap, sSeq_ap, seqK_nx, seqK_rt, seqK_bk, seqK_ct, seqK_exc, seqK_no, sNx_ap, sNo_ap, sEx_ap, kE_ap, sRet_ap, kR_ap, sRetN_ap, sIf_ap, kSI_t, kSI_f, sAs_ap, kA_ap, asK_ok, aN_ap, kA_N, asNil_ap, asCons_ap, kG_ap, asSub_ap, kU1_ap, kU2_ap, sFor_ap, kF_ap, sPar_ap, kP2_ap, sPar3_ap, kP3_ap, endB_nx, endB_rt, endB_exc, endB_no, gAdd_i, gSub_i, gLtI_i, gLe_i, gGt_i, gGe_i, gNeg_i, gIntF_i, gAbs_i, gMax2_i, gMin2_i, gLen_l, gLen_t, gTupF_l, gTupF_t, gSl_t, gRev_t, gIs_b, gIsNot_b, gIs_n, gIsNot_n, pys_nil, gZip_t, List.getElem?_cons_zero, List.getElem?_cons_succ, List.set_cons_zero, List.set_cons_succ, List.map_cons, List.map_nil, List.length_cons, List.length_nil, List.cons_append, List.nil_append, Nat.reduceAdd, Nat.reduceSub, List.replicate_succ, List.replicate_zero, ofInts_len, wipeE, List.take_length, frR_new, decide_true, decide_false, Bool.not_true, Bool.not_false, mDNew_ap, sDput_ap, kD1_ap, kD2_ap, kD3_ap, mGet2_ap, kG2_ap, kG3_ap, mIfT_ap, gTupD0, gNe_r0, decide_eq_false h, gIx_first h, gIx_last h, eC, gTupD3]
theorem F_plain (r : List Int) (S : Store) (hn : r.length ≤ 1000) : F__law_plain [RW r] S = .ok (.py (plainD r)) S := by
  cases r with
  | nil =>
    unfold F__law_plain
    rw [runF_ap]
    unfold b__law_plain
    simp -implicitDefEqProofs only [bd_ok, bd_no, bd_exc, bdN_ok, bs_ok, bs_exc, mV_ap, getV_ok, mK_ap, m1_ap, m2_ap, k2_ap, k2'_ap, mNil_ap, mCons_ap, kC1_ap, kC2_ap, mCall_ap, mCallI_ap, mItems_ap, gItems_l, gItems_t, mIf_ap, kIf_t, kIf_f, mCB_ap, mAndT_ap, mOrT_ap, mNotT_ap, kNot_ap, mAnd_ap, kAnd_t, kAnd_f, mOr_ap, kOr_t, kOr_f, mNot_ap, kNotV_ap, mB_ap, kB_ap, mFr_ap, frR_py, frR_no, frR_exc, mSl_ap, kS1_ap, kS2_ap, kS3_ap, oNone_ap, oSome_ap, kO_ap, mChain_ap, kH1_ap, kH2_ap, kH3_t, kH3_f, mMeth_ap, kMe2_ap, sSeq_ap, seqK_nx, seqK_rt, seqK_bk, seqK_ct, seqK_exc, seqK_no, sNx_ap, sNo_ap, sEx_ap, kE_ap, sRet_ap, kR_ap, sRetN_ap, sIf_ap, kSI_t, kSI_f, sAs_ap, kA_ap, asK_ok, aN_ap, kA_N, asNil_ap, asCons_ap, kG_ap, asSub_ap, kU1_ap, kU2_ap, sFor_ap, kF_ap, sPar_ap, kP2_ap, sPar3_ap, kP3_ap, endB_nx, endB_rt, endB_exc, endB_no, gAdd_i, gSub_i, gLtI_i, gLe_i, gGt_i, gGe_i, gNeg_i, gIntF_i, gAbs_i, gMax2_i, gMin2_i, gLen_l, gLen_t, gTupF_l, gTupF_t, gSl_t, gRev_t, gIs_b, gIsNot_b, gIs_n, gIsNot_n, pys_nil, gZip_t, List.getElem?_cons_zero, List.getElem?_cons_succ, List.set_cons_zero, List.set_cons_succ, List.map_cons, List.map_nil, List.length_cons, List.length_nil, List.cons_append, List.nil_append, Nat.reduceAdd, Nat.reduceSub, List.replicate_succ, List.replicate_zero, ofInts_len, wipeE, List.take_length, frR_new, decide_true, decide_false, Bool.not_true, Bool.not_false, mDNew_ap, sDput_ap, kD1_ap, kD2_ap, kD3_ap, mGet2_ap, kG2_ap, kG3_ap, mIfT_ap, gTupD0, gNe_r0]
    rfl
  | cons c r => exact F_plain1 (List.cons_ne_nil c r) S hn
theorem posS_iff (c e : Int) (r s : List Int) : posS (c :: r) = posS (e :: s) ↔ (FM.pos (stp (c :: r))).Perm (FM.pos (stp (e :: s))) := by
  have key : ∀ (c : Int) (r : List Int), (posS (c :: r)).Perm (FM.pos (stp (c :: r))) := by
    intro c r
    have h1 : (posS (c :: r)).Perm ((stp (c :: r)).filter (fun d => decide (0 < d))) := (isort_perm _).filter _
    have h2 : (stp (c :: r)).filter (fun d => decide (0 < d)) = FM.pos (stp (c :: r)) := by
      unfold FM.pos
      apply List.filter_congr
      intro d hd
      have := FM.steps_nn _ d hd
      by_cases h : d = 0
      · subst h; rfl
      · rw [decide_eq_true (by omega : 0 < d), decide_eq_true h]
    rw [h2] at h1
    exact h1
  have srt : ∀ (c : Int) (r : List Int), (posS (c :: r)).Pairwise (· ≤ ·) := fun c r => (isort_sorted _).filter _
  constructor
  · intro h
    exact (key c r).symm.trans (h ▸ key e s)
  · intro h
    exact sorted_uniq ((key c r).trans (h.trans (key e s).symm)) (srt c r) (srt e s)
theorem plain_shp (r : List Int) : shp 2 (plainD r) = true := by
  cases r with
  | nil => rfl
  | cons c r =>
    simp only [shp, plainD, PyData.canLay0, PyData.canLayAll0, PyData.depth, PyData.depthAll, lay_ints, depth_ints]
    rfl
theorem plain_eqv (a b : List Int) : PyData.eqv (plainD a) (plainD b) = dblB a b := by
  cases a with
  | nil => cases b with
    | nil => rfl
    | cons e s => rfl
  | cons c r => cases b with
    | nil => rfl
    | cons e s =>
      unfold plainD
      rw [eqv_tt]
      show (PyData.eqv (.int c) (.int e) && (PyData.eqv (.int _) (.int _) && (PyData.eqv (.list (ofInts _)) (.list (ofInts _)) && true))) = _
      rw [eqv_ii, eqv_ii, eqv_ll, eqvAll_ints, Bool.and_true]
      have h : ∀ x y : Bool, (x = true ↔ y = true) → x = y := by decide
      apply h
      rw [dblB_iff, Bool.and_eq_true, Bool.and_eq_true, decide_eq_true_iff, decide_eq_true_iff, decide_eq_true_iff, posS_iff]
      exact ⟨fun ⟨a, b, c⟩ => ⟨a, b, c⟩, fun ⟨a, b, c⟩ => ⟨a, b, c⟩⟩
theorem gEq_plain (a b : List Int) (S : Store) : gEq (.py (plainD a)) (.py (plainD b)) S = .ok (.py (.bool (dblB a b))) S := by
  rw [gEq_p (shaped_of (plain_shp a)) (shaped_of (plain_shp b)), plain_eqv]
/-! a drawn strip -/
theorem CS_app (a b : Int) (T U : Store) : CS a b T ++ U = CS a b (T ++ U) := rfl
theorem put_strip (a b k v : Int) (T : Store) (D : List Pr) (env : Ev) (h : D.length + 1 ≤ 16777216) : dPut (.loc (T.length + 1)) (.py (.int k)) (.py (.int v)) env (CS a b (T ++ [.dI (dD D)])) = .go .nx env (CS a b (T ++ [.dI (dD (FM.put D k v))])) := by
  have e := dPut_end (CS a b T) (dD D) k (.int v) env (by rw [dD_len]; exact h)
  rw [putD_dD] at e
  exact e
theorem gLstD8 (a b c d e f g h : PyData) (S : Store) : gLstD [.py a, .py b, .py c, .py d, .py e, .py f, .py g, .py h] S = .ok (.loc S.length) (S ++ [.lst [a, b, c, d, e, f, g, h]]) := rfl
theorem pow20 (S : Store) : gPow (.py (.int 10)) (.py (.int 20)) S = .ok (.py (.int 100000000000000000000)) S := rfl
theorem strip_loop (T : Store) (e1 : Option PX.D) : ∀ (n : Nat) (k a b : Int) (D : List Pr) (x3 : Option PX.D), 0 ≤ a → 0 ≤ b → FM.Tab D → D.length + n ≤ 1000 → ∃ (a' b' : Int) (D' : List Pr) (y3 : Option PX.D), 0 ≤ a' ∧ 0 ≤ b' ∧ FM.Tab D' ∧ D'.length ≤ D.length + n ∧
    forS (aN 3) (sDput (mCall F__law_some (mCons (mV 0) (mCons (mFr (mCall gLstD (mCons (mK (.int 1)) (mCons (mK (.int 1)) (mCons (mK (.int 1)) (mCons (mK (.int 2)) (mCons (mK (.int 3)) (mCons (mK (.int 4)) (mCons (mK (.int 7)) (mCons (m2 gPow (mK (.int 10)) (mK (.int 20))) mNil)))))))))) mNil))) (mV 2) (m2 PX.gSub (mCall F__law_roll (mCons (mV 0) (mCons (mK (.int 25)) mNil))) (mK (.int 12)))) (rangeL k n) [some (.loc 0), e1, some (.loc (T.length + 1)), x3] (CS a b (T ++ [.dI (dD D)])) = .go .nx [some (.loc 0), e1, some (.loc (T.length + 1)), y3] (CS a' b' (T ++ [.dI (dD D')]))
  | 0, k, a, b, D, x3, ha, hb, hT, hl => ⟨a, b, D, x3, ha, hb, hT, by omega, rfl⟩
  | n + 1, k, a, b, D, x3, ha, hb, hT, hl => by
    obtain ⟨p, a1, b1, hp, ha1, hb1, q1⟩ := some_ a b (T ++ [.dI (dD D)]) [.int 1, .int 1, .int 1, .int 2, .int 3, .int 4, .int 7, .int 100000000000000000000] ha hb (by simp) (by simp)
    have hz : ∃ z : Int, p = .int z ∧ 0 < z := by
      simp only [List.mem_cons, List.not_mem_nil, or_false] at hp
      rcases hp with h | h | h | h | h | h | h | h <;> exact ⟨_, h, by decide⟩
    obtain ⟨z, rfl, hz⟩ := hz
    obtain ⟨r, a2, b2, r1, r2, ha2, hb2, q2⟩ := roll a1 b1 25 (T ++ [.dI (dD D)]) ha1 hb1 (by omega) (by omega)
    have hp2 := FM.put_len D (r - 12) z
    obtain ⟨a', b', D', y3, ha', hb', T', l', e⟩ := strip_loop T e1 n (k + 1) a2 b2 (FM.put D (r - 12) z) (some (.py (.int k))) ha2 hb2 (hT.put _ hz) (by omega)
    refine ⟨a', b', D', y3, ha', hb', T', by omega, ?_⟩
    have q3 := put_strip a2 b2 (r - 12) z T D [some (.loc 0), e1, some (.loc (T.length + 1)), some (.py (.int k))] (by omega)
    rw [rangeL_succ, forS_nx (env1 := [some (.loc 0), e1, some (.loc (T.length + 1)), some (.py (.int k))]) (env2 := [some (.loc 0), e1, some (.loc (T.length + 1)), some (.py (.int k))]) (S2 := CS a2 b2 (T ++ [.dI (dD (FM.put D (r - 12) z))])) aN_ap (by simp -implicitDefEqProofs only [bd_ok, bd_no, bd_exc, bdN_ok, bs_ok, bs_exc, mV_ap, getV_ok, mK_ap, m1_ap, m2_ap, k2_ap, k2'_ap, mNil_ap, mCons_ap, kC1_ap, kC2_ap, mCall_ap, mCallI_ap, mItems_ap, gItems_l, gItems_t, mIf_ap, kIf_t, kIf_f, mCB_ap, mAndT_ap, mOrT_ap, mNotT_ap, kNot_ap, mAnd_ap, kAnd_t, kAnd_f, mOr_ap, kOr_t, kOr_f, mNot_ap, kNotV_ap, mB_ap, kB_ap, mFr_ap, frR_py, frR_no, frR_exc, mSl_ap, kS1_ap, kS2_ap, kS3_ap, oNone_ap, oSome_ap, kO_ap, mChain_ap, kH1_ap, kH2_ap, kH3_t, kH3_f, mMeth_ap, kMe2_ap, sSeq_ap, seqK_nx, seqK_rt, seqK_bk, seqK_ct, seqK_exc, seqK_no, sNx_ap, sNo_ap, sEx_ap, kE_ap, sRet_ap, kR_ap, sRetN_ap, sIf_ap, kSI_t, kSI_f, sAs_ap, kA_ap, asK_ok, aN_ap, kA_N, asNil_ap, asCons_ap, kG_ap, asSub_ap, kU1_ap, kU2_ap, sFor_ap, kF_ap, sPar_ap, kP2_ap, sPar3_ap, kP3_ap, endB_nx, endB_rt, endB_exc, endB_no, gAdd_i, gSub_i, gLtI_i, gLe_i, gGt_i, gGe_i, gNeg_i, gIntF_i, gAbs_i, gMax2_i, gMin2_i, gLen_l, gLen_t, gTupF_l, gTupF_t, gSl_t, gRev_t, gIs_b, gIsNot_b, gIs_n, gIsNot_n, pys_nil, gZip_t, List.getElem?_cons_zero, List.getElem?_cons_succ, List.set_cons_zero, List.set_cons_succ, List.map_cons, List.map_nil, List.length_cons, List.length_nil, List.cons_append, List.nil_append, Nat.reduceAdd, Nat.reduceSub, List.replicate_succ, List.replicate_zero, ofInts_len, wipeE, List.take_length, frR_new, decide_true, decide_false, Bool.not_true, Bool.not_false, mDNew_ap, sDput_ap, kD1_ap, kD2_ap, kD3_ap, mGet2_ap, kG2_ap, kG3_ap, mIfT_ap, pow20, gLstD8, q1, q2, q3])]
    exact e
theorem take_CS2 (a b : Int) (T : Store) (c : Cell) : (CS a b (T ++ [c])).take (T.length + 1) = CS a b T := by
  show (CS a b T ++ [c]).take (CS a b T).length = _
  rw [List.take_left']
  rfl
theorem strip_ (T : Store) (a b : Int) (ha : 0 ≤ a) (hb : 0 ≤ b) : ∃ (s : List Pr) (f : FM.Fn) (a' b' : Int), FM.Str s f ∧ s.length ≤ 3 ∧ 0 ≤ a' ∧ 0 ≤ b' ∧ F__law_strip [.loc 0, .py (.int 3)] (CS a b T) = .ok (SP s) (CS a' b' T) := by
  obtain ⟨m, a1, b1, m1, m2', ha1, hb1, q1⟩ := roll a b 4 (T ++ [.dI (dD [])]) ha hb (by omega) (by omega)
  obtain ⟨mn, rfl⟩ := Int.eq_ofNat_of_zero_le m1
  obtain ⟨a', b', D', y3, ha', hb', T', l', e⟩ := strip_loop T (some (.py (.int 3))) mn 0 a1 b1 [] none ha1 hb1 FM.Tab.nil (by simp; omega)
  have st := FM.laid_str T' (isort_perm (D'.map (·.1))) (isort_sorted _)
  have hl : D'.length ≤ 3 := by simp at l'; omega
  refine ⟨_, _, a', b', st, by unfold FM.laid; rw [List.length_map, isort_len, List.length_map]; exact hl, ha', hb', ?_⟩
  have hx : (CS a' b' (T ++ [.dI (dD D')]))[T.length + 1]? = some (.dI (dD D')) := at_end (CS a' b' T) (.dI (dD D'))
  have eT := tidy_ (D := D') (CS a' b' (T ++ [.dI (dD D')])) (T.length + 1) hx (by omega)
  have h1 : sAs mDNew (aN 2) [some (.loc 0), some (.py (.int 3)), none, none] (CS a b T) = .go .nx [some (.loc 0), some (.py (.int 3)), some (.loc (T.length + 1)), none] (CS a b (T ++ [.dI (dD [])])) := rfl
  have e0 : ∀ S, gRange1 [.py (.int (mn : Int))] S = .ok (rangeL 0 mn) S := fun S => by rw [gRange1_i (inR_of (by omega) (by omega))]; rfl
  unfold F__law_strip
  rw [runF_ap]
  unfold b__law_strip
  show frR _ (endB (sSeq _ _ [some (.loc 0), some (.py (.int 3)), none, none] _)) = _
  rw [sSeq_nx h1]
  have e31 : (3 : Int) + 1 = 4 := rfl
  simp -implicitDefEqProofs only [bd_ok, bd_no, bd_exc, bdN_ok, bs_ok, bs_exc, mV_ap, getV_ok, mK_ap, m1_ap, m2_ap, k2_ap, k2'_ap, mNil_ap, mCons_ap, kC1_ap, kC2_ap, mCall_ap, mCallI_ap, mItems_ap, gItems_l, gItems_t, mIf_ap, kIf_t, kIf_f, mCB_ap, mAndT_ap, mOrT_ap, mNotT_ap, kNot_ap, mAnd_ap, kAnd_t, kAnd_f, mOr_ap, kOr_t, kOr_f, mNot_ap, kNotV_ap, mB_ap, kB_ap, mFr_ap, frR_py, frR_no, frR_exc, mSl_ap, kS1_ap, kS2_ap, kS3_ap, oNone_ap, oSome_ap, kO_ap, mChain_ap, kH1_ap, kH2_ap, kH3_t, kH3_f, mMeth_ap, kMe2_ap, sSeq_ap, seqK_nx, seqK_rt, seqK_bk, seqK_ct, seqK_exc, seqK_no, sNx_ap, sNo_ap, sEx_ap, kE_ap, sRet_ap, kR_ap, sRetN_ap, sIf_ap, kSI_t, kSI_f, sAs_ap, kA_ap, asK_ok, aN_ap, kA_N, asNil_ap, asCons_ap, kG_ap, asSub_ap, kU1_ap, kU2_ap, sFor_ap, kF_ap, sPar_ap, kP2_ap, sPar3_ap, kP3_ap, endB_nx, endB_rt, endB_exc, endB_no, gAdd_i, gSub_i, gLtI_i, gLe_i, gGt_i, gGe_i, gNeg_i, gIntF_i, gAbs_i, gMax2_i, gMin2_i, gLen_l, gLen_t, gTupF_l, gTupF_t, gSl_t, gRev_t, gIs_b, gIsNot_b, gIs_n, gIsNot_n, pys_nil, gZip_t, List.getElem?_cons_zero, List.getElem?_cons_succ, List.set_cons_zero, List.set_cons_succ, List.map_cons, List.map_nil, List.length_cons, List.length_nil, List.cons_append, List.nil_append, Nat.reduceAdd, Nat.reduceSub, List.replicate_succ, List.replicate_zero, ofInts_len, wipeE, List.take_length, frR_new, decide_true, decide_false, Bool.not_true, Bool.not_false, mDNew_ap, sDput_ap, kD1_ap, kD2_ap, kD3_ap, mGet2_ap, kG2_ap, kG3_ap, mIfT_ap, e31, q1, e0, e, eT, len_CS, take_CS2]
end LW

end P_Q7
section P_Q8
set_option maxHeartbeats 4000000
namespace LW
open PySem PySem.Spec PyProof.Rows L2 PX
/-- so many times as many, by the lengths -/
def DblF (a b : List Int) (f g : FM.Fn) : Prop := (b.length ≤ a.length → f = FM.sc (2 ^ (a.length - b.length)) g) ∧ (a.length < b.length → g = FM.sc (2 ^ (b.length - a.length)) f)
theorem dbl_folds {a b : List Int} (h : dblB a b = true) (f : FM.Fn) : DblF a b (FM.folds f a) (FM.folds f b) := by
  cases a with
  | nil => cases b with
    | nil => exact ⟨fun _ => by funext x; simp [FM.sc], fun h => absurd h (Nat.lt_irrefl _)⟩
    | cons e s => cases h
  | cons c r => cases b with
    | nil => cases h
    | cons e s =>
      rw [dblB_iff] at h
      refine ⟨fun hl => ?_, fun hl => ?_⟩
      · simp only [List.length_cons] at hl ⊢
        have := FM.doubles h (by omega) f
        rw [this]
        congr 2; omega
      · simp only [List.length_cons] at hl ⊢
        have := FM.doubles (⟨h.first.symm, h.last.symm, h.st.symm⟩ : FM.Dbl e s c r) (by omega) f
        rw [this]
        congr 2; omega
theorem sc_one (f : FM.Fn) : FM.sc 1 f = f := by funext x; simp [FM.sc]
/-- where both prints are so many times as many, the rows double each other -/
theorem prints_dbl {a b : List Int} (h : ∀ p, p = 0 ∨ p = 1 → DblF a b (FM.folds (FM.at1 p) a) (FM.folds (FM.at1 p) b)) : dblB a b = true := by
  have one : ∀ (c : Int) (r : List Int) (k : Int), 0 < k → (∀ p, p = 0 ∨ p = 1 → FM.folds (FM.at1 p) (c :: r) = FM.sc k (FM.at1 p)) → False := by
    intro c r k hk hh
    have key : ∀ p, p = 0 ∨ p = 1 → FM.iabs (c - 2 * p) = 0 := by
      intro p hp
      have e := hh p hp
      rw [FM.print_eq, FM.Us_pos] at e
      have nn : ∀ d ∈ FM.iabs (c - 2 * p) :: FM.steps (c :: r), 0 ≤ d := fun d hd => by
        rcases List.mem_cons.mp hd with q | q
        · rw [q]; exact FM.iabs_nn _
        · exact FM.steps_nn _ d q
      have u := FM.uniq (N := []) (FM.pos_pos nn) (fun _ h => nomatch h) (FM.pow_pos2 _) hk e
      have hnil := List.perm_nil.mp u.2.2
      by_cases hz : FM.iabs (c - 2 * p) = 0
      · exact hz
      · have : FM.pos (FM.iabs (c - 2 * p) :: FM.steps (c :: r)) = FM.iabs (c - 2 * p) :: FM.pos (FM.steps (c :: r)) := by simp [FM.pos, hz]
        rw [this] at hnil; cases hnil
    have h0 := key 0 (.inl rfl)
    have h1 := key 1 (.inr rfl)
    unfold FM.iabs at h0 h1
    split at h0 <;> split at h1 <;> omega
  cases a with
  | nil => cases b with
    | nil => rfl
    | cons e s => exact (one e s _ (FM.pow_pos2 _) fun p hp => (h p hp).2 (by simp)).elim
  | cons c r => cases b with
    | nil => exact (one c r _ (FM.pow_pos2 _) fun p hp => (h p hp).1 (by simp)).elim
    | cons e s =>
      rw [dblB_iff]
      refine FM.classify fun p hp => ?_
      by_cases hl : (e :: s).length ≤ (c :: r).length
      · exact ⟨1, 2 ^ ((c :: r).length - (e :: s).length), by decide, FM.pow_pos2 _, by rw [sc_one]; exact (h p hp).1 hl⟩
      · exact ⟨2 ^ ((e :: s).length - (c :: r).length), 1, FM.pow_pos2 _, by decide, by rw [sc_one]; exact ((h p hp).2 (by omega)).symm⟩
section
variable {a b : List Int}
theorem le_pow12 {n : Nat} (h : n ≤ 12) (m : Nat) : m * 2 ^ n ≤ m * 4096 := Nat.mul_le_mul_left _ (pow_le h)
theorem is_dbl {s t : List Pr} {f g : FM.Fn} (hs : FM.Str s f) (ht : FM.Str t g) (ha : a.length ≤ 12) (hb : b.length ≤ 12) (hls : s.length ≤ 1000000) (hlt : t.length ≤ 1000000) : ∃ k : Bool, (k = true → DblF a b f g) ∧ ∀ S, F__law_is_doubled [SP s, SP t, .py (.int ((a.length : Int) - b.length))] S = .ok (.py (.bool k)) S := by
  by_cases hl : b.length ≤ a.length
  · have e1 : (a.length : Int) - b.length = ((a.length - b.length : Nat) : Int) := by omega
    have q2 := (times_str [] (a.length - b.length) ht (by omega) hlt).2
    have q1 := fun S => (times_str S (a.length - b.length) ht (by omega) hlt).1
    refine ⟨decide (s = t.map fun q => (q.1, q.2 * 2 ^ (a.length - b.length))), fun hk => ⟨fun _ => (hs.iff q2).mp (of_decide_eq_true hk), fun h => absurd h (by omega)⟩, fun S => ?_⟩
    rw [e1]
    generalize a.length - b.length = n at *
    have e2 : decide ((0 : Int) ≤ ((n : Nat) : Int)) = true := decide_eq_true (by omega)
    have hn : n ≤ 1000 ∨ True := .inr trivial
    unfold F__law_is_doubled
    rw [runF_ap]
    unfold b__law_is_doubled
    by_cases hn2 : n ≤ 1000
    · simp -implicitDefEqProofs only [bd_ok, bd_no, bd_exc, bdN_ok, bs_ok, bs_exc, mV_ap, getV_ok, mK_ap, m1_ap, m2_ap, k2_ap, k2'_ap, mNil_ap, mCons_ap, kC1_ap, kC2_ap, mCall_ap, mCallI_ap, mItems_ap, gItems_l, gItems_t, mIf_ap, kIf_t, kIf_f, mCB_ap, mAndT_ap, mOrT_ap, mNotT_ap, kNot_ap, mAnd_ap, kAnd_t, kAnd_f, mOr_ap, kOr_t, kOr_f, mNot_ap, kNotV_ap, mB_ap, kB_ap, mFr_ap, frR_py, frR_no, frR_exc, mSl_ap, kS1_ap, kS2_ap, kS3_ap, oNone_ap, oSome_ap, kO_ap, mChain_ap, kH1_ap, kH2_ap, kH3_t, kH3_f, mMeth_ap, kMe2_ap, sSeq_ap, seqK_nx, seqK_rt, seqK_bk, seqK_ct, seqK_exc, seqK_no, sNx_ap, sNo_ap, sEx_ap, kE_ap, sRet_ap, kR_ap, sRetN_ap, sIf_ap, kSI_t, kSI_f, sAs_ap, kA_ap, asK_ok, aN_ap, kA_N, asNil_ap, asCons_ap, kG_ap, asSub_ap, kU1_ap, kU2_ap, sFor_ap, kF_ap, sPar_ap, kP2_ap, sPar3_ap, kP3_ap, endB_nx, endB_rt, endB_exc, endB_no, gAdd_i, gSub_i, gLtI_i, gLe_i, gGt_i, gGe_i, gNeg_i, gIntF_i, gAbs_i, gMax2_i, gMin2_i, gLen_l, gLen_t, gTupF_l, gTupF_t, gSl_t, gRev_t, gIs_b, gIsNot_b, gIs_n, gIsNot_n, pys_nil, gZip_t, List.getElem?_cons_zero, List.getElem?_cons_succ, List.set_cons_zero, List.set_cons_succ, List.map_cons, List.map_nil, List.length_cons, List.length_nil, List.cons_append, List.nil_append, Nat.reduceAdd, Nat.reduceSub, List.replicate_succ, List.replicate_zero, ofInts_len, wipeE, List.take_length, frR_new, decide_true, decide_false, Bool.not_true, Bool.not_false, mDNew_ap, sDput_ap, kD1_ap, kD2_ap, kD3_ap, mGet2_ap, kG2_ap, kG3_ap, mIfT_ap, e2, power_ _ n hn2, q1, gEq_S]
    · omega
  · have e1 : (a.length : Int) - b.length = -((b.length - a.length : Nat) : Int) := by omega
    have q2 := (times_str [] (b.length - a.length) hs (by omega) hls).2
    have q1 := fun S => (times_str S (b.length - a.length) hs (by omega) hls).1
    refine ⟨decide (t = s.map fun q => (q.1, q.2 * 2 ^ (b.length - a.length))), fun hk => ⟨fun h => absurd h (by omega), fun _ => (ht.iff q2).mp (of_decide_eq_true hk)⟩, fun S => ?_⟩
    have hn2 : b.length - a.length ≤ 1000 := by omega
    have hn3 : 0 < b.length - a.length := by omega
    rw [e1]
    generalize b.length - a.length = n at *
    have e2 : decide ((0 : Int) ≤ -((n : Nat) : Int)) = false := decide_eq_false (by omega)
    have e3 : - -((n : Nat) : Int) = (n : Int) := by omega
    unfold F__law_is_doubled
    rw [runF_ap]
    unfold b__law_is_doubled
    simp -implicitDefEqProofs only [bd_ok, bd_no, bd_exc, bdN_ok, bs_ok, bs_exc, mV_ap, getV_ok, mK_ap, m1_ap, m2_ap, k2_ap, k2'_ap, mNil_ap, mCons_ap, kC1_ap, kC2_ap, mCall_ap, mCallI_ap, mItems_ap, gItems_l, gItems_t, mIf_ap, kIf_t, kIf_f, mCB_ap, mAndT_ap, mOrT_ap, mNotT_ap, kNot_ap, mAnd_ap, kAnd_t, kAnd_f, mOr_ap, kOr_t, kOr_f, mNot_ap, kNotV_ap, mB_ap, kB_ap, mFr_ap, frR_py, frR_no, frR_exc, mSl_ap, kS1_ap, kS2_ap, kS3_ap, oNone_ap, oSome_ap, kO_ap, mChain_ap, kH1_ap, kH2_ap, kH3_t, kH3_f, mMeth_ap, kMe2_ap, sSeq_ap, seqK_nx, seqK_rt, seqK_bk, seqK_ct, seqK_exc, seqK_no, sNx_ap, sNo_ap, sEx_ap, kE_ap, sRet_ap, kR_ap, sRetN_ap, sIf_ap, kSI_t, kSI_f, sAs_ap, kA_ap, asK_ok, aN_ap, kA_N, asNil_ap, asCons_ap, kG_ap, asSub_ap, kU1_ap, kU2_ap, sFor_ap, kF_ap, sPar_ap, kP2_ap, sPar3_ap, kP3_ap, endB_nx, endB_rt, endB_exc, endB_no, gAdd_i, gSub_i, gLtI_i, gLe_i, gGt_i, gGe_i, gNeg_i, gIntF_i, gAbs_i, gMax2_i, gMin2_i, gLen_l, gLen_t, gTupF_l, gTupF_t, gSl_t, gRev_t, gIs_b, gIsNot_b, gIs_n, gIsNot_n, pys_nil, gZip_t, List.getElem?_cons_zero, List.getElem?_cons_succ, List.set_cons_zero, List.set_cons_succ, List.map_cons, List.map_nil, List.length_cons, List.length_nil, List.cons_append, List.nil_append, Nat.reduceAdd, Nat.reduceSub, List.replicate_succ, List.replicate_zero, ofInts_len, wipeE, List.take_length, frR_new, decide_true, decide_false, Bool.not_true, Bool.not_false, mDNew_ap, sDput_ap, kD1_ap, kD2_ap, kD3_ap, mGet2_ap, kG2_ap, kG3_ap, mIfT_ap, e2, e3, power_ _ n hn2, q1, gEq_S]
end
end LW

end P_Q8
section P_Q9
set_option maxHeartbeats 4000000
namespace LW
open PySem PySem.Spec PyProof.Rows L2 PX
def RL : MS := sSeq (sPar 7 8 (mCons (mCall F__law_folded (mCons (mV 6) (mCons (mV 1) mNil))) (mCons (mCall F__law_folded (mCons (mV 6) (mCons (mV 2) mNil))) mNil)))
  (sIf (mAndT (mB (m2 gIsNot (mV 3) (mK .none))) (mIfT (mB (m2 gGe (mV 3) (mK (.int 0)))) (mB (m2 gNe (mV 7) (mCall F__law_times (mCons (mV 8) (mCons (mCall F__law_power (mCons (mV 3) mNil)) mNil))))) (mB (m2 gNe (mV 8) (mCall F__law_times (mCons (mV 7) (mCons (mCall F__law_power (mCons (m1 gNeg (mV 3)) mNil)) mNil))))))) (sRet (mK (.bool false))) sNx)
section
variable {a b : List Int}
theorem told_t (h : dblB a b = true) : told a b = .int ((a.length : Int) - b.length) := if_pos h
theorem told_f (h : dblB a b = false) : told a b = .none := if_neg (by rw [h]; exact Bool.false_ne_true)
theorem gNe_SS (s : List Pr) (S : Store) : gNe (SP s) (SP s) S = .ok (.py (.bool false)) S := by rw [gNe_S, decide_eq_true rfl]; rfl
theorem RL_ {s : List Pr} {f : FM.Fn} (S : Store) (x0 x4 x5 x7 x8 x9 x10 x11 : Option PX.D) (hs : FM.Str s f) (hl : s.length ≤ 3) (ha : a.length ≤ 12) (hb : b.length ≤ 12) : ∃ y7 y8, RL [x0, some (RW a), some (RW b), some (.py (told a b)), x4, x5, some (SP s), x7, x8, x9, x10, x11] S = .go .nx [x0, some (RW a), some (RW b), some (.py (told a b)), x4, x5, some (SP s), y7, y8, x9, x10, x11] S := by
  have l1 : s.length * 2 ^ a.length ≤ 3 * 4096 := Nat.mul_le_mul hl (pow_le ha)
  have l2 : s.length * 2 ^ b.length ≤ 3 * 4096 := Nat.mul_le_mul hl (pow_le hb)
  obtain ⟨sa, ha1, ha2, qa⟩ := folded_ S a hs (by omega)
  obtain ⟨sb, hb1, hb2, qb⟩ := folded_ S b hs (by omega)
  refine ⟨some (SP sa), some (SP sb), ?_⟩
  cases h : dblB a b with
  | false =>
    rw [told_f h]
    have e1 : gIsNot (.py .none) (.py .none) S = .ok (.py (.bool false)) S := rfl
    unfold RL
    simp -implicitDefEqProofs only [bd_ok, bd_no, bd_exc, bdN_ok, bs_ok, bs_exc, mV_ap, getV_ok, mK_ap, m1_ap, m2_ap, k2_ap, k2'_ap, mNil_ap, mCons_ap, kC1_ap, kC2_ap, mCall_ap, mCallI_ap, mItems_ap, gItems_l, gItems_t, mIf_ap, kIf_t, kIf_f, mCB_ap, mAndT_ap, mOrT_ap, mNotT_ap, kNot_ap, mAnd_ap, kAnd_t, kAnd_f, mOr_ap, kOr_t, kOr_f, mNot_ap, kNotV_ap, mB_ap, kB_ap, mFr_ap, frR_py, frR_no, frR_exc, mSl_ap, kS1_ap, kS2_ap, kS3_ap, oNone_ap, oSome_ap, kO_ap, mChain_ap, kH1_ap, kH2_ap, kH3_t, kH3_f, mMeth_ap, kMe2_ap, sSeq_ap, seqK_nx, seqK_rt, seqK_bk, seqK_ct, seqK_exc, seqK_no, sNx_ap, sNo_ap, sEx_ap, kE_ap, sRet_ap, kR_ap, sRetN_ap, sIf_ap, kSI_t, kSI_f, sAs_ap, kA_ap, asK_ok, aN_ap, kA_N, asNil_ap, asCons_ap, kG_ap, asSub_ap, kU1_ap, kU2_ap, sFor_ap, kF_ap, sPar_ap, kP2_ap, sPar3_ap, kP3_ap, endB_nx, endB_rt, endB_exc, endB_no, gAdd_i, gSub_i, gLtI_i, gLe_i, gGt_i, gGe_i, gNeg_i, gIntF_i, gAbs_i, gMax2_i, gMin2_i, gLen_l, gLen_t, gTupF_l, gTupF_t, gSl_t, gRev_t, gIs_b, gIsNot_b, gIs_n, gIsNot_n, pys_nil, gZip_t, List.getElem?_cons_zero, List.getElem?_cons_succ, List.set_cons_zero, List.set_cons_succ, List.map_cons, List.map_nil, List.length_cons, List.length_nil, List.cons_append, List.nil_append, Nat.reduceAdd, Nat.reduceSub, List.replicate_succ, List.replicate_zero, ofInts_len, wipeE, List.take_length, frR_new, decide_true, decide_false, Bool.not_true, Bool.not_false, mDNew_ap, sDput_ap, kD1_ap, kD2_ap, kD3_ap, mGet2_ap, kG2_ap, kG3_ap, mIfT_ap, qa, qb, e1]
  | true =>
    have dd := dbl_folds h f
    rw [told_t h]
    have e1 : ∀ i : Int, gIsNot (.py (.int i)) (.py .none) S = .ok (.py (.bool true)) S := fun i => rfl
    by_cases hle : b.length ≤ a.length
    · have e2 : (a.length : Int) - b.length = ((a.length - b.length : Nat) : Int) := by omega
      obtain ⟨q1, q2⟩ := times_str S (a.length - b.length) hb1 (by omega) (by omega)
      have eq := (ha1.iff q2).mpr (dd.1 hle)
      rw [← eq] at q1
      have hn2 : a.length - b.length ≤ 1000 := by omega
      rw [e2]
      generalize a.length - b.length = n at *
      have e3 : decide ((0 : Int) ≤ ((n : Nat) : Int)) = true := decide_eq_true (by omega)
      unfold RL
      simp -implicitDefEqProofs only [bd_ok, bd_no, bd_exc, bdN_ok, bs_ok, bs_exc, mV_ap, getV_ok, mK_ap, m1_ap, m2_ap, k2_ap, k2'_ap, mNil_ap, mCons_ap, kC1_ap, kC2_ap, mCall_ap, mCallI_ap, mItems_ap, gItems_l, gItems_t, mIf_ap, kIf_t, kIf_f, mCB_ap, mAndT_ap, mOrT_ap, mNotT_ap, kNot_ap, mAnd_ap, kAnd_t, kAnd_f, mOr_ap, kOr_t, kOr_f, mNot_ap, kNotV_ap, mB_ap, kB_ap, mFr_ap, frR_py, frR_no, frR_exc, mSl_ap, kS1_ap, kS2_ap, kS3_ap, oNone_ap, oSome_ap, kO_ap, mChain_ap, kH1_ap, kH2_ap, kH3_t, kH3_f, mMeth_ap, kMe2_ap, sSeq_ap, seqK_nx, seqK_rt, seqK_bk, seqK_ct, seqK_exc, seqK_no, sNx_ap, sNo_ap, sEx_ap, kE_ap, sRet_ap, kR_ap, sRetN_ap, sIf_ap, kSI_t, kSI_f, sAs_ap, kA_ap, asK_ok, aN_ap, kA_N, asNil_ap, asCons_ap, kG_ap, asSub_ap, kU1_ap, kU2_ap, sFor_ap, kF_ap, sPar_ap, kP2_ap, sPar3_ap, kP3_ap, endB_nx, endB_rt, endB_exc, endB_no, gAdd_i, gSub_i, gLtI_i, gLe_i, gGt_i, gGe_i, gNeg_i, gIntF_i, gAbs_i, gMax2_i, gMin2_i, gLen_l, gLen_t, gTupF_l, gTupF_t, gSl_t, gRev_t, gIs_b, gIsNot_b, gIs_n, gIsNot_n, pys_nil, gZip_t, List.getElem?_cons_zero, List.getElem?_cons_succ, List.set_cons_zero, List.set_cons_succ, List.map_cons, List.map_nil, List.length_cons, List.length_nil, List.cons_append, List.nil_append, Nat.reduceAdd, Nat.reduceSub, List.replicate_succ, List.replicate_zero, ofInts_len, wipeE, List.take_length, frR_new, decide_true, decide_false, Bool.not_true, Bool.not_false, mDNew_ap, sDput_ap, kD1_ap, kD2_ap, kD3_ap, mGet2_ap, kG2_ap, kG3_ap, mIfT_ap, qa, qb, e1, e3, power_ _ n hn2, q1, gNe_SS, isNone]
    · have e2 : (a.length : Int) - b.length = -((b.length - a.length : Nat) : Int) := by omega
      obtain ⟨q1, q2⟩ := times_str S (b.length - a.length) ha1 (by omega) (by omega)
      have eq := (hb1.iff q2).mpr (dd.2 (by omega))
      rw [← eq] at q1
      have hn2 : b.length - a.length ≤ 1000 := by omega
      have hn3 : 0 < b.length - a.length := by omega
      rw [e2]
      generalize b.length - a.length = n at *
      have e3 : decide ((0 : Int) ≤ -((n : Nat) : Int)) = false := decide_eq_false (by omega)
      have e4 : - -((n : Nat) : Int) = (n : Int) := by omega
      unfold RL
      simp -implicitDefEqProofs only [bd_ok, bd_no, bd_exc, bdN_ok, bs_ok, bs_exc, mV_ap, getV_ok, mK_ap, m1_ap, m2_ap, k2_ap, k2'_ap, mNil_ap, mCons_ap, kC1_ap, kC2_ap, mCall_ap, mCallI_ap, mItems_ap, gItems_l, gItems_t, mIf_ap, kIf_t, kIf_f, mCB_ap, mAndT_ap, mOrT_ap, mNotT_ap, kNot_ap, mAnd_ap, kAnd_t, kAnd_f, mOr_ap, kOr_t, kOr_f, mNot_ap, kNotV_ap, mB_ap, kB_ap, mFr_ap, frR_py, frR_no, frR_exc, mSl_ap, kS1_ap, kS2_ap, kS3_ap, oNone_ap, oSome_ap, kO_ap, mChain_ap, kH1_ap, kH2_ap, kH3_t, kH3_f, mMeth_ap, kMe2_ap, sSeq_ap, seqK_nx, seqK_rt, seqK_bk, seqK_ct, seqK_exc, seqK_no, sNx_ap, sNo_ap, sEx_ap, kE_ap, sRet_ap, kR_ap, sRetN_ap, sIf_ap, kSI_t, kSI_f, sAs_ap, kA_ap, asK_ok, aN_ap, kA_N, asNil_ap, asCons_ap, kG_ap, asSub_ap, kU1_ap, kU2_ap, sFor_ap, kF_ap, sPar_ap, kP2_ap, sPar3_ap, kP3_ap, endB_nx, endB_rt, endB_exc, endB_no, gAdd_i, gSub_i, gLtI_i, gLe_i, gGt_i, gGe_i, gNeg_i, gIntF_i, gAbs_i, gMax2_i, gMin2_i, gLen_l, gLen_t, gTupF_l, gTupF_t, gSl_t, gRev_t, gIs_b, gIsNot_b, gIs_n, gIsNot_n, pys_nil, gZip_t, List.getElem?_cons_zero, List.getElem?_cons_succ, List.set_cons_zero, List.set_cons_succ, List.map_cons, List.map_nil, List.length_cons, List.length_nil, List.cons_append, List.nil_append, Nat.reduceAdd, Nat.reduceSub, List.replicate_succ, List.replicate_zero, ofInts_len, wipeE, List.take_length, frR_new, decide_true, decide_false, Bool.not_true, Bool.not_false, mDNew_ap, sDput_ap, kD1_ap, kD2_ap, kD3_ap, mGet2_ap, kG2_ap, kG3_ap, mIfT_ap, qa, qb, e1, e3, e4, power_ _ n hn2, q1, gNe_SS, isNone]
theorem RL3 {s : List Pr} {f : FM.Fn} (S : Store) (x0 x4 x5 x9 x10 x11 : Option PX.D) (hs : FM.Str s f) (hl : s.length ≤ 3) (ha : a.length ≤ 12) (hb : b.length ≤ 12) : ∃ y6 y7 y8, forS (aN 6) RL [.tuple [.tuple [.int 0, .int 1]], .tuple [.tuple [.int 1, .int 1]], .tuple (s.map prD)] [x0, some (RW a), some (RW b), some (.py (told a b)), x4, x5, none, none, none, x9, x10, x11] S = .go .nx [x0, some (RW a), some (RW b), some (.py (told a b)), x4, x5, y6, y7, y8, x9, x10, x11] S := by
  obtain ⟨y7, y8, e1⟩ := RL_ (a := a) (b := b) S x0 x4 x5 none none x9 x10 x11 (one_str 0) (by simp) ha hb
  obtain ⟨z7, z8, e2⟩ := RL_ (a := a) (b := b) S x0 x4 x5 y7 y8 x9 x10 x11 (one_str 1) (by simp) ha hb
  obtain ⟨w7, w8, e3⟩ := RL_ (a := a) (b := b) S x0 x4 x5 z7 z8 x9 x10 x11 hs hl ha hb
  refine ⟨some (SP s), w7, w8, ?_⟩
  rw [forS_nx (env1 := [x0, some (RW a), some (RW b), some (.py (told a b)), x4, x5, some (SP [(0, 1)]), none, none, x9, x10, x11]) aN_ap e1]
  rw [forS_nx (env1 := [x0, some (RW a), some (RW b), some (.py (told a b)), x4, x5, some (SP [(1, 1)]), y7, y8, x9, x10, x11]) aN_ap e2]
  rw [forS_nx (env1 := [x0, some (RW a), some (RW b), some (.py (told a b)), x4, x5, some (SP s), z7, z8, x9, x10, x11]) aN_ap e3]
  rfl
theorem pairs_shp (l : List (List Pr × List Pr)) : shp 4 (.list (l.map fun q => .tuple [.tuple (q.1.map prD), .tuple (q.2.map prD)])) = true := by
  have h1 : ∀ l : List (List Pr × List Pr), PyData.canLayAll0 (l.map fun q => PyData.tuple [.tuple (q.1.map prD), .tuple (q.2.map prD)]) = true := by
    intro l
    induction l with
    | nil => rfl
    | cons q l ih =>
      rw [List.map_cons]
      show (PyData.canLay0 (.tuple [.tuple (q.1.map prD), .tuple (q.2.map prD)]) && _) = true
      rw [ih]
      show ((PyData.canLayAll0 (q.1.map prD) && (PyData.canLayAll0 (q.2.map prD) && true)) && true) = true
      rw [lay_prs, lay_prs]; rfl
  have h2 : ∀ l : List (List Pr × List Pr), PyData.depthAll (l.map fun q => PyData.tuple [.tuple (q.1.map prD), .tuple (q.2.map prD)]) ≤ 3 := by
    intro l
    induction l with
    | nil => decide
    | cons q l ih =>
      rw [List.map_cons]
      show max (PyData.depthAll [.tuple (q.1.map prD), .tuple (q.2.map prD)] + 1) _ ≤ 3
      have d1 := depth_prs q.1
      have d2 := depth_prs q.2
      have e : PyData.depthAll [.tuple (q.1.map prD), .tuple (q.2.map prD)] = max (PyData.depthAll (q.1.map prD) + 1) (max (PyData.depthAll (q.2.map prD) + 1) 0) := rfl
      rw [e]
      omega
  unfold shp
  rw [Bool.and_eq_true]
  refine ⟨h1 l, decide_eq_true ?_⟩
  show PyData.depthAll _ + 1 ≤ 4
  have := h2 l
  omega
abbrev PP (s t : List Pr) : PyData := .tuple [.tuple (s.map prD), .tuple (t.map prD)]
theorem ne_pairs (l : List (List Pr × List Pr)) (h : l ≠ []) (S : Store) : gNe (.py (.list (l.map fun q => PP q.1 q.2))) (.py (.list [])) S = .ok (.py (.bool true)) S := by
  refine (gNe_p (shaped_of (pairs_shp l)) (shaped_of (n := 1) rfl)).trans ?_
  rw [eqv_ll]
  cases l with
  | nil => exact absurd rfl h
  | cons q l => rfl
theorem right_ (T : Store) (a0 b0 : Int) (ha : a.length ≤ 12) (hb : b.length ≤ 12) (ia : InB 1000000 a) (ib : InB 1000000 b) (h0 : 0 ≤ a0) (h1 : 0 ≤ b0) : ∃ a' b', 0 ≤ a' ∧ 0 ≤ b' ∧ F__law_right [.loc 0, RW a, RW b] (CS a0 b0 T) = .ok (.py (.bool true)) (CS a' b' T) := by
  obtain ⟨s, f, a1, b1, hs, hl, ha1, hb1, qs⟩ := strip_ T a0 b0 h0 h1
  refine ⟨a1, b1, ha1, hb1, ?_⟩
  have d1 := fun S => F_doub a b S ha hb ia ib
  have d2 := fun S => F_doub b a S hb ha ib ia
  have p1 := fun S => F_plain a S (by omega)
  have p2 := fun S => F_plain b S (by omega)
  have al := fun S => F_alike a b S ha hb ia ib
  have sm := same_dbl a b
  have sy := dblB_symm a b
  have k1 : sAs (mCall F_doublings (mCons (mV 1) (mCons (mV 2) mNil))) (aN 3) [some (.loc 0), some (RW a), some (RW b), none, none, none, none, none, none, none, none, none] (CS a0 b0 T) = .go .nx [some (.loc 0), some (RW a), some (RW b), some (.py (told a b)), none, none, none, none, none, none, none, none] (CS a0 b0 T) := by simp -implicitDefEqProofs only [bd_ok, bd_no, bd_exc, bdN_ok, bs_ok, bs_exc, mV_ap, getV_ok, mK_ap, m1_ap, m2_ap, k2_ap, k2'_ap, mNil_ap, mCons_ap, kC1_ap, kC2_ap, mCall_ap, mCallI_ap, mItems_ap, gItems_l, gItems_t, mIf_ap, kIf_t, kIf_f, mCB_ap, mAndT_ap, mOrT_ap, mNotT_ap, kNot_ap, mAnd_ap, kAnd_t, kAnd_f, mOr_ap, kOr_t, kOr_f, mNot_ap, kNotV_ap, mB_ap, kB_ap, mFr_ap, frR_py, frR_no, frR_exc, mSl_ap, kS1_ap, kS2_ap, kS3_ap, oNone_ap, oSome_ap, kO_ap, mChain_ap, kH1_ap, kH2_ap, kH3_t, kH3_f, mMeth_ap, kMe2_ap, sSeq_ap, seqK_nx, seqK_rt, seqK_bk, seqK_ct, seqK_exc, seqK_no, sNx_ap, sNo_ap, sEx_ap, kE_ap, sRet_ap, kR_ap, sRetN_ap, sIf_ap, kSI_t, kSI_f, sAs_ap, kA_ap, asK_ok, aN_ap, kA_N, asNil_ap, asCons_ap, kG_ap, asSub_ap, kU1_ap, kU2_ap, sFor_ap, kF_ap, sPar_ap, kP2_ap, sPar3_ap, kP3_ap, endB_nx, endB_rt, endB_exc, endB_no, gAdd_i, gSub_i, gLtI_i, gLe_i, gGt_i, gGe_i, gNeg_i, gIntF_i, gAbs_i, gMax2_i, gMin2_i, gLen_l, gLen_t, gTupF_l, gTupF_t, gSl_t, gRev_t, gIs_b, gIsNot_b, gIs_n, gIsNot_n, pys_nil, gZip_t, List.getElem?_cons_zero, List.getElem?_cons_succ, List.set_cons_zero, List.set_cons_succ, List.map_cons, List.map_nil, List.length_cons, List.length_nil, List.cons_append, List.nil_append, Nat.reduceAdd, Nat.reduceSub, List.replicate_succ, List.replicate_zero, ofInts_len, wipeE, List.take_length, frR_new, decide_true, decide_false, Bool.not_true, Bool.not_false, mDNew_ap, sDput_ap, kD1_ap, kD2_ap, kD3_ap, mGet2_ap, kG2_ap, kG3_ap, mIfT_ap, d1]
  have k2 : sAs (mIf (mB (m2 gEq (mCall F__law_plain (mCons (mV 1) mNil)) (mCall F__law_plain (mCons (mV 2) mNil)))) (m2 PX.gSub (mCall gLen (mCons (mV 1) mNil)) (mCall gLen (mCons (mV 2) mNil))) (mK .none)) (aN 4) [some (.loc 0), some (RW a), some (RW b), some (.py (told a b)), none, none, none, none, none, none, none, none] (CS a0 b0 T) = .go .nx [some (.loc 0), some (RW a), some (RW b), some (.py (told a b)), some (.py (told a b)), none, none, none, none, none, none, none] (CS a0 b0 T) := by
    cases h : dblB a b with
    | true => rw [told_t h]; simp -implicitDefEqProofs only [bd_ok, bd_no, bd_exc, bdN_ok, bs_ok, bs_exc, mV_ap, getV_ok, mK_ap, m1_ap, m2_ap, k2_ap, k2'_ap, mNil_ap, mCons_ap, kC1_ap, kC2_ap, mCall_ap, mCallI_ap, mItems_ap, gItems_l, gItems_t, mIf_ap, kIf_t, kIf_f, mCB_ap, mAndT_ap, mOrT_ap, mNotT_ap, kNot_ap, mAnd_ap, kAnd_t, kAnd_f, mOr_ap, kOr_t, kOr_f, mNot_ap, kNotV_ap, mB_ap, kB_ap, mFr_ap, frR_py, frR_no, frR_exc, mSl_ap, kS1_ap, kS2_ap, kS3_ap, oNone_ap, oSome_ap, kO_ap, mChain_ap, kH1_ap, kH2_ap, kH3_t, kH3_f, mMeth_ap, kMe2_ap, sSeq_ap, seqK_nx, seqK_rt, seqK_bk, seqK_ct, seqK_exc, seqK_no, sNx_ap, sNo_ap, sEx_ap, kE_ap, sRet_ap, kR_ap, sRetN_ap, sIf_ap, kSI_t, kSI_f, sAs_ap, kA_ap, asK_ok, aN_ap, kA_N, asNil_ap, asCons_ap, kG_ap, asSub_ap, kU1_ap, kU2_ap, sFor_ap, kF_ap, sPar_ap, kP2_ap, sPar3_ap, kP3_ap, endB_nx, endB_rt, endB_exc, endB_no, gAdd_i, gSub_i, gLtI_i, gLe_i, gGt_i, gGe_i, gNeg_i, gIntF_i, gAbs_i, gMax2_i, gMin2_i, gLen_l, gLen_t, gTupF_l, gTupF_t, gSl_t, gRev_t, gIs_b, gIsNot_b, gIs_n, gIsNot_n, pys_nil, gZip_t, List.getElem?_cons_zero, List.getElem?_cons_succ, List.set_cons_zero, List.set_cons_succ, List.map_cons, List.map_nil, List.length_cons, List.length_nil, List.cons_append, List.nil_append, Nat.reduceAdd, Nat.reduceSub, List.replicate_succ, List.replicate_zero, ofInts_len, wipeE, List.take_length, frR_new, decide_true, decide_false, Bool.not_true, Bool.not_false, mDNew_ap, sDput_ap, kD1_ap, kD2_ap, kD3_ap, mGet2_ap, kG2_ap, kG3_ap, mIfT_ap, p1, p2, gEq_plain, h]
    | false => rw [told_f h]; simp -implicitDefEqProofs only [bd_ok, bd_no, bd_exc, bdN_ok, bs_ok, bs_exc, mV_ap, getV_ok, mK_ap, m1_ap, m2_ap, k2_ap, k2'_ap, mNil_ap, mCons_ap, kC1_ap, kC2_ap, mCall_ap, mCallI_ap, mItems_ap, gItems_l, gItems_t, mIf_ap, kIf_t, kIf_f, mCB_ap, mAndT_ap, mOrT_ap, mNotT_ap, kNot_ap, mAnd_ap, kAnd_t, kAnd_f, mOr_ap, kOr_t, kOr_f, mNot_ap, kNotV_ap, mB_ap, kB_ap, mFr_ap, frR_py, frR_no, frR_exc, mSl_ap, kS1_ap, kS2_ap, kS3_ap, oNone_ap, oSome_ap, kO_ap, mChain_ap, kH1_ap, kH2_ap, kH3_t, kH3_f, mMeth_ap, kMe2_ap, sSeq_ap, seqK_nx, seqK_rt, seqK_bk, seqK_ct, seqK_exc, seqK_no, sNx_ap, sNo_ap, sEx_ap, kE_ap, sRet_ap, kR_ap, sRetN_ap, sIf_ap, kSI_t, kSI_f, sAs_ap, kA_ap, asK_ok, aN_ap, kA_N, asNil_ap, asCons_ap, kG_ap, asSub_ap, kU1_ap, kU2_ap, sFor_ap, kF_ap, sPar_ap, kP2_ap, sPar3_ap, kP3_ap, endB_nx, endB_rt, endB_exc, endB_no, gAdd_i, gSub_i, gLtI_i, gLe_i, gGt_i, gGe_i, gNeg_i, gIntF_i, gAbs_i, gMax2_i, gMin2_i, gLen_l, gLen_t, gTupF_l, gTupF_t, gSl_t, gRev_t, gIs_b, gIsNot_b, gIs_n, gIsNot_n, pys_nil, gZip_t, List.getElem?_cons_zero, List.getElem?_cons_succ, List.set_cons_zero, List.set_cons_succ, List.map_cons, List.map_nil, List.length_cons, List.length_nil, List.cons_append, List.nil_append, Nat.reduceAdd, Nat.reduceSub, List.replicate_succ, List.replicate_zero, ofInts_len, wipeE, List.take_length, frR_new, decide_true, decide_false, Bool.not_true, Bool.not_false, mDNew_ap, sDput_ap, kD1_ap, kD2_ap, kD3_ap, mGet2_ap, kG2_ap, kG3_ap, mIfT_ap, p1, p2, gEq_plain, h]
  have k3 : sIf (mOrT (mB (m2 gNe (mV 3) (mV 4))) (mB (m2 gNe (mCall F_doublings (mCons (mV 2) (mCons (mV 1) mNil))) (mIf (mB (m2 gIs (mV 4) (mK .none))) (mK .none) (m1 gNeg (mV 4)))))) (sRet (mK (.bool false))) sNx [some (.loc 0), some (RW a), some (RW b), some (.py (told a b)), some (.py (told a b)), none, none, none, none, none, none, none] (CS a0 b0 T) = .go .nx [some (.loc 0), some (RW a), some (RW b), some (.py (told a b)), some (.py (told a b)), none, none, none, none, none, none, none] (CS a0 b0 T) := by
    cases h : dblB a b with
    | true =>
      have e1 : told b a = .int (-((a.length : Int) - b.length)) := by rw [told_t (sy.trans h)]; congr 1; omega
      rw [told_t h]
      have e2 : ∀ (i : Int) S, gNe (.py (.int i)) (.py (.int i)) S = .ok (.py (.bool false)) S := fun i S => by rw [gNe_i, decide_eq_true rfl]; rfl
      have e3 : ∀ (i : Int) S, gIs (.py (.int i)) (.py .none) S = .ok (.py (.bool false)) S := fun i S => rfl
      simp -implicitDefEqProofs only [bd_ok, bd_no, bd_exc, bdN_ok, bs_ok, bs_exc, mV_ap, getV_ok, mK_ap, m1_ap, m2_ap, k2_ap, k2'_ap, mNil_ap, mCons_ap, kC1_ap, kC2_ap, mCall_ap, mCallI_ap, mItems_ap, gItems_l, gItems_t, mIf_ap, kIf_t, kIf_f, mCB_ap, mAndT_ap, mOrT_ap, mNotT_ap, kNot_ap, mAnd_ap, kAnd_t, kAnd_f, mOr_ap, kOr_t, kOr_f, mNot_ap, kNotV_ap, mB_ap, kB_ap, mFr_ap, frR_py, frR_no, frR_exc, mSl_ap, kS1_ap, kS2_ap, kS3_ap, oNone_ap, oSome_ap, kO_ap, mChain_ap, kH1_ap, kH2_ap, kH3_t, kH3_f, mMeth_ap, kMe2_ap, sSeq_ap, seqK_nx, seqK_rt, seqK_bk, seqK_ct, seqK_exc, seqK_no, sNx_ap, sNo_ap, sEx_ap, kE_ap, sRet_ap, kR_ap, sRetN_ap, sIf_ap, kSI_t, kSI_f, sAs_ap, kA_ap, asK_ok, aN_ap, kA_N, asNil_ap, asCons_ap, kG_ap, asSub_ap, kU1_ap, kU2_ap, sFor_ap, kF_ap, sPar_ap, kP2_ap, sPar3_ap, kP3_ap, endB_nx, endB_rt, endB_exc, endB_no, gAdd_i, gSub_i, gLtI_i, gLe_i, gGt_i, gGe_i, gNeg_i, gIntF_i, gAbs_i, gMax2_i, gMin2_i, gLen_l, gLen_t, gTupF_l, gTupF_t, gSl_t, gRev_t, gIs_b, gIsNot_b, gIs_n, gIsNot_n, pys_nil, gZip_t, List.getElem?_cons_zero, List.getElem?_cons_succ, List.set_cons_zero, List.set_cons_succ, List.map_cons, List.map_nil, List.length_cons, List.length_nil, List.cons_append, List.nil_append, Nat.reduceAdd, Nat.reduceSub, List.replicate_succ, List.replicate_zero, ofInts_len, wipeE, List.take_length, frR_new, decide_true, decide_false, Bool.not_true, Bool.not_false, mDNew_ap, sDput_ap, kD1_ap, kD2_ap, kD3_ap, mGet2_ap, kG2_ap, kG3_ap, mIfT_ap, d2, e1, e2, e3, isNone]
    | false =>
      have e1 : told b a = .none := told_f (sy.trans h)
      rw [told_f h]
      have e2 : ∀ S, gNe (.py .none) (.py .none) S = .ok (.py (.bool false)) S := fun S => rfl
      have e3 : ∀ S, gIs (.py .none) (.py .none) S = .ok (.py (.bool true)) S := fun S => rfl
      simp -implicitDefEqProofs only [bd_ok, bd_no, bd_exc, bdN_ok, bs_ok, bs_exc, mV_ap, getV_ok, mK_ap, m1_ap, m2_ap, k2_ap, k2'_ap, mNil_ap, mCons_ap, kC1_ap, kC2_ap, mCall_ap, mCallI_ap, mItems_ap, gItems_l, gItems_t, mIf_ap, kIf_t, kIf_f, mCB_ap, mAndT_ap, mOrT_ap, mNotT_ap, kNot_ap, mAnd_ap, kAnd_t, kAnd_f, mOr_ap, kOr_t, kOr_f, mNot_ap, kNotV_ap, mB_ap, kB_ap, mFr_ap, frR_py, frR_no, frR_exc, mSl_ap, kS1_ap, kS2_ap, kS3_ap, oNone_ap, oSome_ap, kO_ap, mChain_ap, kH1_ap, kH2_ap, kH3_t, kH3_f, mMeth_ap, kMe2_ap, sSeq_ap, seqK_nx, seqK_rt, seqK_bk, seqK_ct, seqK_exc, seqK_no, sNx_ap, sNo_ap, sEx_ap, kE_ap, sRet_ap, kR_ap, sRetN_ap, sIf_ap, kSI_t, kSI_f, sAs_ap, kA_ap, asK_ok, aN_ap, kA_N, asNil_ap, asCons_ap, kG_ap, asSub_ap, kU1_ap, kU2_ap, sFor_ap, kF_ap, sPar_ap, kP2_ap, sPar3_ap, kP3_ap, endB_nx, endB_rt, endB_exc, endB_no, gAdd_i, gSub_i, gLtI_i, gLe_i, gGt_i, gGe_i, gNeg_i, gIntF_i, gAbs_i, gMax2_i, gMin2_i, gLen_l, gLen_t, gTupF_l, gTupF_t, gSl_t, gRev_t, gIs_b, gIsNot_b, gIs_n, gIsNot_n, pys_nil, gZip_t, List.getElem?_cons_zero, List.getElem?_cons_succ, List.set_cons_zero, List.set_cons_succ, List.map_cons, List.map_nil, List.length_cons, List.length_nil, List.cons_append, List.nil_append, Nat.reduceAdd, Nat.reduceSub, List.replicate_succ, List.replicate_zero, ofInts_len, wipeE, List.take_length, frR_new, decide_true, decide_false, Bool.not_true, Bool.not_false, mDNew_ap, sDput_ap, kD1_ap, kD2_ap, kD3_ap, mGet2_ap, kG2_ap, kG3_ap, mIfT_ap, d2, e1, e2, e3, isNone]
  have k4 : sIf (mB (m2 gNe (mCall F_rows_alike (mCons (mV 1) (mCons (mV 2) mNil))) (m2 gEq (mV 3) (mK (.int 0))))) (sRet (mK (.bool false))) sNx [some (.loc 0), some (RW a), some (RW b), some (.py (told a b)), some (.py (told a b)), none, none, none, none, none, none, none] (CS a0 b0 T) = .go .nx [some (.loc 0), some (RW a), some (RW b), some (.py (told a b)), some (.py (told a b)), none, none, none, none, none, none, none] (CS a0 b0 T) := by
    cases h : dblB a b with
    | true =>
      rw [h, Bool.true_and] at sm
      rw [told_t h]
      simp -implicitDefEqProofs only [bd_ok, bd_no, bd_exc, bdN_ok, bs_ok, bs_exc, mV_ap, getV_ok, mK_ap, m1_ap, m2_ap, k2_ap, k2'_ap, mNil_ap, mCons_ap, kC1_ap, kC2_ap, mCall_ap, mCallI_ap, mItems_ap, gItems_l, gItems_t, mIf_ap, kIf_t, kIf_f, mCB_ap, mAndT_ap, mOrT_ap, mNotT_ap, kNot_ap, mAnd_ap, kAnd_t, kAnd_f, mOr_ap, kOr_t, kOr_f, mNot_ap, kNotV_ap, mB_ap, kB_ap, mFr_ap, frR_py, frR_no, frR_exc, mSl_ap, kS1_ap, kS2_ap, kS3_ap, oNone_ap, oSome_ap, kO_ap, mChain_ap, kH1_ap, kH2_ap, kH3_t, kH3_f, mMeth_ap, kMe2_ap, sSeq_ap, seqK_nx, seqK_rt, seqK_bk, seqK_ct, seqK_exc, seqK_no, sNx_ap, sNo_ap, sEx_ap, kE_ap, sRet_ap, kR_ap, sRetN_ap, sIf_ap, kSI_t, kSI_f, sAs_ap, kA_ap, asK_ok, aN_ap, kA_N, asNil_ap, asCons_ap, kG_ap, asSub_ap, kU1_ap, kU2_ap, sFor_ap, kF_ap, sPar_ap, kP2_ap, sPar3_ap, kP3_ap, endB_nx, endB_rt, endB_exc, endB_no, gAdd_i, gSub_i, gLtI_i, gLe_i, gGt_i, gGe_i, gNeg_i, gIntF_i, gAbs_i, gMax2_i, gMin2_i, gLen_l, gLen_t, gTupF_l, gTupF_t, gSl_t, gRev_t, gIs_b, gIsNot_b, gIs_n, gIsNot_n, pys_nil, gZip_t, List.getElem?_cons_zero, List.getElem?_cons_succ, List.set_cons_zero, List.set_cons_succ, List.map_cons, List.map_nil, List.length_cons, List.length_nil, List.cons_append, List.nil_append, Nat.reduceAdd, Nat.reduceSub, List.replicate_succ, List.replicate_zero, ofInts_len, wipeE, List.take_length, frR_new, decide_true, decide_false, Bool.not_true, Bool.not_false, mDNew_ap, sDput_ap, kD1_ap, kD2_ap, kD3_ap, mGet2_ap, kG2_ap, kG3_ap, mIfT_ap, al, sm, gEq_i, gNe_bb]
    | false =>
      rw [h, Bool.false_and] at sm
      rw [told_f h]
      have e2 : ∀ S, gEq (.py .none) (.py (.int 0)) S = .ok (.py (.bool false)) S := fun S => rfl
      simp -implicitDefEqProofs only [bd_ok, bd_no, bd_exc, bdN_ok, bs_ok, bs_exc, mV_ap, getV_ok, mK_ap, m1_ap, m2_ap, k2_ap, k2'_ap, mNil_ap, mCons_ap, kC1_ap, kC2_ap, mCall_ap, mCallI_ap, mItems_ap, gItems_l, gItems_t, mIf_ap, kIf_t, kIf_f, mCB_ap, mAndT_ap, mOrT_ap, mNotT_ap, kNot_ap, mAnd_ap, kAnd_t, kAnd_f, mOr_ap, kOr_t, kOr_f, mNot_ap, kNotV_ap, mB_ap, kB_ap, mFr_ap, frR_py, frR_no, frR_exc, mSl_ap, kS1_ap, kS2_ap, kS3_ap, oNone_ap, oSome_ap, kO_ap, mChain_ap, kH1_ap, kH2_ap, kH3_t, kH3_f, mMeth_ap, kMe2_ap, sSeq_ap, seqK_nx, seqK_rt, seqK_bk, seqK_ct, seqK_exc, seqK_no, sNx_ap, sNo_ap, sEx_ap, kE_ap, sRet_ap, kR_ap, sRetN_ap, sIf_ap, kSI_t, kSI_f, sAs_ap, kA_ap, asK_ok, aN_ap, kA_N, asNil_ap, asCons_ap, kG_ap, asSub_ap, kU1_ap, kU2_ap, sFor_ap, kF_ap, sPar_ap, kP2_ap, sPar3_ap, kP3_ap, endB_nx, endB_rt, endB_exc, endB_no, gAdd_i, gSub_i, gLtI_i, gLe_i, gGt_i, gGe_i, gNeg_i, gIntF_i, gAbs_i, gMax2_i, gMin2_i, gLen_l, gLen_t, gTupF_l, gTupF_t, gSl_t, gRev_t, gIs_b, gIsNot_b, gIs_n, gIsNot_n, pys_nil, gZip_t, List.getElem?_cons_zero, List.getElem?_cons_succ, List.set_cons_zero, List.set_cons_succ, List.map_cons, List.map_nil, List.length_cons, List.length_nil, List.cons_append, List.nil_append, Nat.reduceAdd, Nat.reduceSub, List.replicate_succ, List.replicate_zero, ofInts_len, wipeE, List.take_length, frR_new, decide_true, decide_false, Bool.not_true, Bool.not_false, mDNew_ap, sDput_ap, kD1_ap, kD2_ap, kD3_ap, mGet2_ap, kG2_ap, kG3_ap, mIfT_ap, al, sm, e2, gNe_bb]
  have k5 : sAs (mCall F__law_strip (mCons (mV 0) (mCons (mK (.int 3)) mNil))) (aN 5) [some (.loc 0), some (RW a), some (RW b), some (.py (told a b)), some (.py (told a b)), none, none, none, none, none, none, none] (CS a0 b0 T) = .go .nx [some (.loc 0), some (RW a), some (RW b), some (.py (told a b)), some (.py (told a b)), some (SP s), none, none, none, none, none, none] (CS a1 b1 T) := by simp -implicitDefEqProofs only [bd_ok, bd_no, bd_exc, bdN_ok, bs_ok, bs_exc, mV_ap, getV_ok, mK_ap, m1_ap, m2_ap, k2_ap, k2'_ap, mNil_ap, mCons_ap, kC1_ap, kC2_ap, mCall_ap, mCallI_ap, mItems_ap, gItems_l, gItems_t, mIf_ap, kIf_t, kIf_f, mCB_ap, mAndT_ap, mOrT_ap, mNotT_ap, kNot_ap, mAnd_ap, kAnd_t, kAnd_f, mOr_ap, kOr_t, kOr_f, mNot_ap, kNotV_ap, mB_ap, kB_ap, mFr_ap, frR_py, frR_no, frR_exc, mSl_ap, kS1_ap, kS2_ap, kS3_ap, oNone_ap, oSome_ap, kO_ap, mChain_ap, kH1_ap, kH2_ap, kH3_t, kH3_f, mMeth_ap, kMe2_ap, sSeq_ap, seqK_nx, seqK_rt, seqK_bk, seqK_ct, seqK_exc, seqK_no, sNx_ap, sNo_ap, sEx_ap, kE_ap, sRet_ap, kR_ap, sRetN_ap, sIf_ap, kSI_t, kSI_f, sAs_ap, kA_ap, asK_ok, aN_ap, kA_N, asNil_ap, asCons_ap, kG_ap, asSub_ap, kU1_ap, kU2_ap, sFor_ap, kF_ap, sPar_ap, kP2_ap, sPar3_ap, kP3_ap, endB_nx, endB_rt, endB_exc, endB_no, gAdd_i, gSub_i, gLtI_i, gLe_i, gGt_i, gGe_i, gNeg_i, gIntF_i, gAbs_i, gMax2_i, gMin2_i, gLen_l, gLen_t, gTupF_l, gTupF_t, gSl_t, gRev_t, gIs_b, gIsNot_b, gIs_n, gIsNot_n, pys_nil, gZip_t, List.getElem?_cons_zero, List.getElem?_cons_succ, List.set_cons_zero, List.set_cons_succ, List.map_cons, List.map_nil, List.length_cons, List.length_nil, List.cons_append, List.nil_append, Nat.reduceAdd, Nat.reduceSub, List.replicate_succ, List.replicate_zero, ofInts_len, wipeE, List.take_length, frR_new, decide_true, decide_false, Bool.not_true, Bool.not_false, mDNew_ap, sDput_ap, kD1_ap, kD2_ap, kD3_ap, mGet2_ap, kG2_ap, kG3_ap, mIfT_ap, qs]
  obtain ⟨y6, y7, y8, r3⟩ := RL3 (a := a) (b := b) (CS a1 b1 T) (some (.loc 0)) (some (.py (told a b))) (some (SP s)) none none none hs hl ha hb
  have k6 : sFor (mItems (mCall gTupD (mCons (mCall gTupD (mCons (mCall gTupD (mCons (mK (.int 0)) (mCons (mK (.int 1)) mNil))) mNil)) (mCons (mCall gTupD (mCons (mCall gTupD (mCons (mK (.int 1)) (mCons (mK (.int 1)) mNil))) mNil)) (mCons (mV 5) mNil))))) (aN 6) RL [some (.loc 0), some (RW a), some (RW b), some (.py (told a b)), some (.py (told a b)), some (SP s), none, none, none, none, none, none] (CS a1 b1 T) = .go .nx [some (.loc 0), some (RW a), some (RW b), some (.py (told a b)), some (.py (told a b)), some (SP s), y6, y7, y8, none, none, none] (CS a1 b1 T) := by
    simp -implicitDefEqProofs only [bd_ok, bd_no, bd_exc, bdN_ok, bs_ok, bs_exc, mV_ap, getV_ok, mK_ap, m1_ap, m2_ap, k2_ap, k2'_ap, mNil_ap, mCons_ap, kC1_ap, kC2_ap, mCall_ap, mCallI_ap, mItems_ap, gItems_l, gItems_t, mIf_ap, kIf_t, kIf_f, mCB_ap, mAndT_ap, mOrT_ap, mNotT_ap, kNot_ap, mAnd_ap, kAnd_t, kAnd_f, mOr_ap, kOr_t, kOr_f, mNot_ap, kNotV_ap, mB_ap, kB_ap, mFr_ap, frR_py, frR_no, frR_exc, mSl_ap, kS1_ap, kS2_ap, kS3_ap, oNone_ap, oSome_ap, kO_ap, mChain_ap, kH1_ap, kH2_ap, kH3_t, kH3_f, mMeth_ap, kMe2_ap, sSeq_ap, seqK_nx, seqK_rt, seqK_bk, seqK_ct, seqK_exc, seqK_no, sNx_ap, sNo_ap, sEx_ap, kE_ap, sRet_ap, kR_ap, sRetN_ap, sIf_ap, kSI_t, kSI_f, sAs_ap, kA_ap, asK_ok, aN_ap, kA_N, asNil_ap, asCons_ap, kG_ap, asSub_ap, kU1_ap, kU2_ap, sFor_ap, kF_ap, sPar_ap, kP2_ap, sPar3_ap, kP3_ap, endB_nx, endB_rt, endB_exc, endB_no, gAdd_i, gSub_i, gLtI_i, gLe_i, gGt_i, gGe_i, gNeg_i, gIntF_i, gAbs_i, gMax2_i, gMin2_i, gLen_l, gLen_t, gTupF_l, gTupF_t, gSl_t, gRev_t, gIs_b, gIsNot_b, gIs_n, gIsNot_n, pys_nil, gZip_t, List.getElem?_cons_zero, List.getElem?_cons_succ, List.set_cons_zero, List.set_cons_succ, List.map_cons, List.map_nil, List.length_cons, List.length_nil, List.cons_append, List.nil_append, Nat.reduceAdd, Nat.reduceSub, List.replicate_succ, List.replicate_zero, ofInts_len, wipeE, List.take_length, frR_new, decide_true, decide_false, Bool.not_true, Bool.not_false, mDNew_ap, sDput_ap, kD1_ap, kD2_ap, kD3_ap, mGet2_ap, kG2_ap, kG3_ap, mIfT_ap, gTupD1, gTupD2, gTupD3]
    exact r3
  unfold F__law_right
  rw [runF_ap]
  unfold b__law_right
  show frR _ (endB (sSeq _ (sSeq _ (sSeq _ (sSeq _ (sSeq _ (sSeq (sFor _ _ RL) _))))) [some (.loc 0), some (RW a), some (RW b), none, none, none, none, none, none, none, none, none] _)) = _
  rw [sSeq_nx k1, sSeq_nx k2, sSeq_nx k3, sSeq_nx k4, sSeq_nx k5, sSeq_nx k6]
  cases h : dblB a b with
  | true =>
    rw [told_t h]
    have e3 : ∀ (i : Int) S, gIs (.py (.int i)) (.py .none) S = .ok (.py (.bool false)) S := fun i S => rfl
    simp -implicitDefEqProofs only [bd_ok, bd_no, bd_exc, bdN_ok, bs_ok, bs_exc, mV_ap, getV_ok, mK_ap, m1_ap, m2_ap, k2_ap, k2'_ap, mNil_ap, mCons_ap, kC1_ap, kC2_ap, mCall_ap, mCallI_ap, mItems_ap, gItems_l, gItems_t, mIf_ap, kIf_t, kIf_f, mCB_ap, mAndT_ap, mOrT_ap, mNotT_ap, kNot_ap, mAnd_ap, kAnd_t, kAnd_f, mOr_ap, kOr_t, kOr_f, mNot_ap, kNotV_ap, mB_ap, kB_ap, mFr_ap, frR_py, frR_no, frR_exc, mSl_ap, kS1_ap, kS2_ap, kS3_ap, oNone_ap, oSome_ap, kO_ap, mChain_ap, kH1_ap, kH2_ap, kH3_t, kH3_f, mMeth_ap, kMe2_ap, sSeq_ap, seqK_nx, seqK_rt, seqK_bk, seqK_ct, seqK_exc, seqK_no, sNx_ap, sNo_ap, sEx_ap, kE_ap, sRet_ap, kR_ap, sRetN_ap, sIf_ap, kSI_t, kSI_f, sAs_ap, kA_ap, asK_ok, aN_ap, kA_N, asNil_ap, asCons_ap, kG_ap, asSub_ap, kU1_ap, kU2_ap, sFor_ap, kF_ap, sPar_ap, kP2_ap, sPar3_ap, kP3_ap, endB_nx, endB_rt, endB_exc, endB_no, gAdd_i, gSub_i, gLtI_i, gLe_i, gGt_i, gGe_i, gNeg_i, gIntF_i, gAbs_i, gMax2_i, gMin2_i, gLen_l, gLen_t, gTupF_l, gTupF_t, gSl_t, gRev_t, gIs_b, gIsNot_b, gIs_n, gIsNot_n, pys_nil, gZip_t, List.getElem?_cons_zero, List.getElem?_cons_succ, List.set_cons_zero, List.set_cons_succ, List.map_cons, List.map_nil, List.length_cons, List.length_nil, List.cons_append, List.nil_append, Nat.reduceAdd, Nat.reduceSub, List.replicate_succ, List.replicate_zero, ofInts_len, wipeE, List.take_length, frR_new, decide_true, decide_false, Bool.not_true, Bool.not_false, mDNew_ap, sDput_ap, kD1_ap, kD2_ap, kD3_ap, mGet2_ap, kG2_ap, kG3_ap, mIfT_ap, e3, isNone, take_CS]
  | false =>
    rw [told_f h]
    have e3 : ∀ S, gIs (.py .none) (.py .none) S = .ok (.py (.bool true)) S := fun S => rfl
    obtain ⟨sa0, fa0, la0, qa0⟩ := print_all 0 a ha
    obtain ⟨sb0, fb0, lb0, qb0⟩ := print_all 0 b hb
    obtain ⟨sa1, fa1, la1, qa1⟩ := print_all 1 a ha
    obtain ⟨sb1, fb1, lb1, qb1⟩ := print_all 1 b hb
    obtain ⟨k0, hk0, r0⟩ := is_dbl (a := a) (b := b) fa0 fb0 ha hb (by omega) (by omega)
    obtain ⟨k1', hk1, r1⟩ := is_dbl (a := a) (b := b) fa1 fb1 ha hb (by omega) (by omega)
    have hno : ¬ (k0 = true ∧ k1' = true) := by
      rintro ⟨z0, z1⟩
      have : dblB a b = true := prints_dbl fun p hp => by
        rcases hp with e | e
        · subst e; exact hk0 z0
        · subst e; exact hk1 z1
      rw [this] at h; cases h
    have c1 : ∀ S, mLc [10] (mItems (mCall gTupD (mCons (mK (.int 0)) (mCons (mK (.int 1)) mNil)))) (aN 10) mYes (mCall gTupD (mCons (mCall F__law_print (mCons (mV 10) (mCons (mV 1) mNil))) (mCons (mCall F__law_print (mCons (mV 10) (mCons (mV 2) mNil))) mNil))) [some (.loc 0), some (RW a), some (RW b), some (.py .none), some (.py .none), some (SP s), y6, y7, y8, none, none, none] S = .ok (.loc S.length) (S ++ [.lst [PP sa0 sb0, PP sa1 sb1]]) := by
      intro S
      rw [mLc_all (ps := [.int 0, .int 1]) (fun p => [some (.loc 0), some (RW a), some (RW b), some (.py .none), some (.py .none), some (SP s), y6, y7, y8, none, some (.py p), none]) (fun p => match p with | .int 0 => PP sa0 sb0 | _ => PP sa1 sb1)]
      · rfl
      · simp -implicitDefEqProofs only [bd_ok, bd_no, bd_exc, bdN_ok, bs_ok, bs_exc, mV_ap, getV_ok, mK_ap, m1_ap, m2_ap, k2_ap, k2'_ap, mNil_ap, mCons_ap, kC1_ap, kC2_ap, mCall_ap, mCallI_ap, mItems_ap, gItems_l, gItems_t, mIf_ap, kIf_t, kIf_f, mCB_ap, mAndT_ap, mOrT_ap, mNotT_ap, kNot_ap, mAnd_ap, kAnd_t, kAnd_f, mOr_ap, kOr_t, kOr_f, mNot_ap, kNotV_ap, mB_ap, kB_ap, mFr_ap, frR_py, frR_no, frR_exc, mSl_ap, kS1_ap, kS2_ap, kS3_ap, oNone_ap, oSome_ap, kO_ap, mChain_ap, kH1_ap, kH2_ap, kH3_t, kH3_f, mMeth_ap, kMe2_ap, sSeq_ap, seqK_nx, seqK_rt, seqK_bk, seqK_ct, seqK_exc, seqK_no, sNx_ap, sNo_ap, sEx_ap, kE_ap, sRet_ap, kR_ap, sRetN_ap, sIf_ap, kSI_t, kSI_f, sAs_ap, kA_ap, asK_ok, aN_ap, kA_N, asNil_ap, asCons_ap, kG_ap, asSub_ap, kU1_ap, kU2_ap, sFor_ap, kF_ap, sPar_ap, kP2_ap, sPar3_ap, kP3_ap, endB_nx, endB_rt, endB_exc, endB_no, gAdd_i, gSub_i, gLtI_i, gLe_i, gGt_i, gGe_i, gNeg_i, gIntF_i, gAbs_i, gMax2_i, gMin2_i, gLen_l, gLen_t, gTupF_l, gTupF_t, gSl_t, gRev_t, gIs_b, gIsNot_b, gIs_n, gIsNot_n, pys_nil, gZip_t, List.getElem?_cons_zero, List.getElem?_cons_succ, List.set_cons_zero, List.set_cons_succ, List.map_cons, List.map_nil, List.length_cons, List.length_nil, List.cons_append, List.nil_append, Nat.reduceAdd, Nat.reduceSub, List.replicate_succ, List.replicate_zero, ofInts_len, wipeE, List.take_length, frR_new, decide_true, decide_false, Bool.not_true, Bool.not_false, mDNew_ap, sDput_ap, kD1_ap, kD2_ap, kD3_ap, mGet2_ap, kG2_ap, kG3_ap, mIfT_ap, gTupD2]
      · decide
      · intro p hp S; rfl
      · intro p hp S
        simp only [List.mem_cons, List.not_mem_nil, or_false] at hp
        rcases hp with e | e <;> subst e
        · simp -implicitDefEqProofs only [bd_ok, bd_no, bd_exc, bdN_ok, bs_ok, bs_exc, mV_ap, getV_ok, mK_ap, m1_ap, m2_ap, k2_ap, k2'_ap, mNil_ap, mCons_ap, kC1_ap, kC2_ap, mCall_ap, mCallI_ap, mItems_ap, gItems_l, gItems_t, mIf_ap, kIf_t, kIf_f, mCB_ap, mAndT_ap, mOrT_ap, mNotT_ap, kNot_ap, mAnd_ap, kAnd_t, kAnd_f, mOr_ap, kOr_t, kOr_f, mNot_ap, kNotV_ap, mB_ap, kB_ap, mFr_ap, frR_py, frR_no, frR_exc, mSl_ap, kS1_ap, kS2_ap, kS3_ap, oNone_ap, oSome_ap, kO_ap, mChain_ap, kH1_ap, kH2_ap, kH3_t, kH3_f, mMeth_ap, kMe2_ap, sSeq_ap, seqK_nx, seqK_rt, seqK_bk, seqK_ct, seqK_exc, seqK_no, sNx_ap, sNo_ap, sEx_ap, kE_ap, sRet_ap, kR_ap, sRetN_ap, sIf_ap, kSI_t, kSI_f, sAs_ap, kA_ap, asK_ok, aN_ap, kA_N, asNil_ap, asCons_ap, kG_ap, asSub_ap, kU1_ap, kU2_ap, sFor_ap, kF_ap, sPar_ap, kP2_ap, sPar3_ap, kP3_ap, endB_nx, endB_rt, endB_exc, endB_no, gAdd_i, gSub_i, gLtI_i, gLe_i, gGt_i, gGe_i, gNeg_i, gIntF_i, gAbs_i, gMax2_i, gMin2_i, gLen_l, gLen_t, gTupF_l, gTupF_t, gSl_t, gRev_t, gIs_b, gIsNot_b, gIs_n, gIsNot_n, pys_nil, gZip_t, List.getElem?_cons_zero, List.getElem?_cons_succ, List.set_cons_zero, List.set_cons_succ, List.map_cons, List.map_nil, List.length_cons, List.length_nil, List.cons_append, List.nil_append, Nat.reduceAdd, Nat.reduceSub, List.replicate_succ, List.replicate_zero, ofInts_len, wipeE, List.take_length, frR_new, decide_true, decide_false, Bool.not_true, Bool.not_false, mDNew_ap, sDput_ap, kD1_ap, kD2_ap, kD3_ap, mGet2_ap, kG2_ap, kG3_ap, mIfT_ap, qa0, qb0, gTupD2]
        · simp -implicitDefEqProofs only [bd_ok, bd_no, bd_exc, bdN_ok, bs_ok, bs_exc, mV_ap, getV_ok, mK_ap, m1_ap, m2_ap, k2_ap, k2'_ap, mNil_ap, mCons_ap, kC1_ap, kC2_ap, mCall_ap, mCallI_ap, mItems_ap, gItems_l, gItems_t, mIf_ap, kIf_t, kIf_f, mCB_ap, mAndT_ap, mOrT_ap, mNotT_ap, kNot_ap, mAnd_ap, kAnd_t, kAnd_f, mOr_ap, kOr_t, kOr_f, mNot_ap, kNotV_ap, mB_ap, kB_ap, mFr_ap, frR_py, frR_no, frR_exc, mSl_ap, kS1_ap, kS2_ap, kS3_ap, oNone_ap, oSome_ap, kO_ap, mChain_ap, kH1_ap, kH2_ap, kH3_t, kH3_f, mMeth_ap, kMe2_ap, sSeq_ap, seqK_nx, seqK_rt, seqK_bk, seqK_ct, seqK_exc, seqK_no, sNx_ap, sNo_ap, sEx_ap, kE_ap, sRet_ap, kR_ap, sRetN_ap, sIf_ap, kSI_t, kSI_f, sAs_ap, kA_ap, asK_ok, aN_ap, kA_N, asNil_ap, asCons_ap, kG_ap, asSub_ap, kU1_ap, kU2_ap, sFor_ap, kF_ap, sPar_ap, kP2_ap, sPar3_ap, kP3_ap, endB_nx, endB_rt, endB_exc, endB_no, gAdd_i, gSub_i, gLtI_i, gLe_i, gGt_i, gGe_i, gNeg_i, gIntF_i, gAbs_i, gMax2_i, gMin2_i, gLen_l, gLen_t, gTupF_l, gTupF_t, gSl_t, gRev_t, gIs_b, gIsNot_b, gIs_n, gIsNot_n, pys_nil, gZip_t, List.getElem?_cons_zero, List.getElem?_cons_succ, List.set_cons_zero, List.set_cons_succ, List.map_cons, List.map_nil, List.length_cons, List.length_nil, List.cons_append, List.nil_append, Nat.reduceAdd, Nat.reduceSub, List.replicate_succ, List.replicate_zero, ofInts_len, wipeE, List.take_length, frR_new, decide_true, decide_false, Bool.not_true, Bool.not_false, mDNew_ap, sDput_ap, kD1_ap, kD2_ap, kD3_ap, mGet2_ap, kG2_ap, kG3_ap, mIfT_ap, qa1, qb1, gTupD2]
    have g0 : ∀ (s t : List Pr) S, gIx (.py (PP s t)) (.py (.int 0)) S = .ok (SP s) S := fun s t S => rfl
    have g1 : ∀ (s t : List Pr) S, gIx (.py (PP s t)) (.py (.int 1)) S = .ok (SP t) S := fun s t S => rfl
    have c2 : ∃ l : List (List Pr × List Pr), l ≠ [] ∧ ∀ S, mLc [11] (mItems (mV 9)) (aN 11) (mNotT (mB (mCall F__law_is_doubled (mCons (m2 gIx (mV 11) (mK (.int 0))) (mCons (m2 gIx (mV 11) (mK (.int 1))) (mCons (m2 PX.gSub (mCall gLen (mCons (mV 1) mNil)) (mCall gLen (mCons (mV 2) mNil))) mNil)))))) (mV 11) [some (.loc 0), some (RW a), some (RW b), some (.py .none), some (.py .none), some (SP s), y6, y7, y8, some (.py (.list [PP sa0 sb0, PP sa1 sb1])), none, none] S = .ok (.loc S.length) (S ++ [.lst (l.map fun q => PP q.1 q.2)]) := by
      refine ⟨(if k0 = true then [] else [(sa0, sb0)]) ++ (if k1' = true then [] else [(sa1, sb1)]), ?_, fun S => ?_⟩
      · intro hh
        cases z0 : k0 with
        | true => cases z1 : k1' with
          | true => exact hno ⟨z0, z1⟩
          | false => simp [z0, z1] at hh
        | false => simp [z0] at hh
      · unfold mLc
        simp -implicitDefEqProofs only [bd_ok, bd_no, bd_exc, bdN_ok, bs_ok, bs_exc, mV_ap, getV_ok, mK_ap, m1_ap, m2_ap, k2_ap, k2'_ap, mNil_ap, mCons_ap, kC1_ap, kC2_ap, mCall_ap, mCallI_ap, mItems_ap, gItems_l, gItems_t, mIf_ap, kIf_t, kIf_f, mCB_ap, mAndT_ap, mOrT_ap, mNotT_ap, kNot_ap, mAnd_ap, kAnd_t, kAnd_f, mOr_ap, kOr_t, kOr_f, mNot_ap, kNotV_ap, mB_ap, kB_ap, mFr_ap, frR_py, frR_no, frR_exc, mSl_ap, kS1_ap, kS2_ap, kS3_ap, oNone_ap, oSome_ap, kO_ap, mChain_ap, kH1_ap, kH2_ap, kH3_t, kH3_f, mMeth_ap, kMe2_ap, sSeq_ap, seqK_nx, seqK_rt, seqK_bk, seqK_ct, seqK_exc, seqK_no, sNx_ap, sNo_ap, sEx_ap, kE_ap, sRet_ap, kR_ap, sRetN_ap, sIf_ap, kSI_t, kSI_f, sAs_ap, kA_ap, asK_ok, aN_ap, kA_N, asNil_ap, asCons_ap, kG_ap, asSub_ap, kU1_ap, kU2_ap, sFor_ap, kF_ap, sPar_ap, kP2_ap, sPar3_ap, kP3_ap, endB_nx, endB_rt, endB_exc, endB_no, gAdd_i, gSub_i, gLtI_i, gLe_i, gGt_i, gGe_i, gNeg_i, gIntF_i, gAbs_i, gMax2_i, gMin2_i, gLen_l, gLen_t, gTupF_l, gTupF_t, gSl_t, gRev_t, gIs_b, gIsNot_b, gIs_n, gIsNot_n, pys_nil, gZip_t, List.getElem?_cons_zero, List.getElem?_cons_succ, List.set_cons_zero, List.set_cons_succ, List.map_cons, List.map_nil, List.length_cons, List.length_nil, List.cons_append, List.nil_append, Nat.reduceAdd, Nat.reduceSub, List.replicate_succ, List.replicate_zero, ofInts_len, wipeE, List.take_length, frR_new, decide_true, decide_false, Bool.not_true, Bool.not_false, mDNew_ap, sDput_ap, kD1_ap, kD2_ap, kD3_ap, mGet2_ap, kG2_ap, kG3_ap, mIfT_ap]
        have st : ∀ (T : Store), lcGo T.length [some (.loc 0), some (RW a), some (RW b), some (.py .none), some (.py .none), some (SP s), y6, y7, y8, some (.py (.list [PP sa0 sb0, PP sa1 sb1])), none, none] (aN 11) (mNotT (mB (mCall F__law_is_doubled (mCons (m2 gIx (mV 11) (mK (.int 0))) (mCons (m2 gIx (mV 11) (mK (.int 1))) (mCons (m2 PX.gSub (mCall gLen (mCons (mV 1) mNil)) (mCall gLen (mCons (mV 2) mNil))) mNil)))))) (mV 11) [PP sa0 sb0, PP sa1 sb1] (T ++ [.lst []]) = .ok (.loc T.length) (T ++ [.lst (((if k0 = true then [] else [(sa0, sb0)]) ++ (if k1' = true then [] else [(sa1, sb1)])).map fun q => PP q.1 q.2)]) := by
          intro T
          have t0 : ∀ S, mNotT (mB (mCall F__law_is_doubled (mCons (m2 gIx (mV 11) (mK (.int 0))) (mCons (m2 gIx (mV 11) (mK (.int 1))) (mCons (m2 PX.gSub (mCall gLen (mCons (mV 1) mNil)) (mCall gLen (mCons (mV 2) mNil))) mNil))))) [some (.loc 0), some (RW a), some (RW b), some (.py .none), some (.py .none), some (SP s), y6, y7, y8, some (.py (.list [PP sa0 sb0, PP sa1 sb1])), none, some (.py (PP sa0 sb0))] S = .ok (!k0) S := by
            intro S
            simp -implicitDefEqProofs only [bd_ok, bd_no, bd_exc, bdN_ok, bs_ok, bs_exc, mV_ap, getV_ok, mK_ap, m1_ap, m2_ap, k2_ap, k2'_ap, mNil_ap, mCons_ap, kC1_ap, kC2_ap, mCall_ap, mCallI_ap, mItems_ap, gItems_l, gItems_t, mIf_ap, kIf_t, kIf_f, mCB_ap, mAndT_ap, mOrT_ap, mNotT_ap, kNot_ap, mAnd_ap, kAnd_t, kAnd_f, mOr_ap, kOr_t, kOr_f, mNot_ap, kNotV_ap, mB_ap, kB_ap, mFr_ap, frR_py, frR_no, frR_exc, mSl_ap, kS1_ap, kS2_ap, kS3_ap, oNone_ap, oSome_ap, kO_ap, mChain_ap, kH1_ap, kH2_ap, kH3_t, kH3_f, mMeth_ap, kMe2_ap, sSeq_ap, seqK_nx, seqK_rt, seqK_bk, seqK_ct, seqK_exc, seqK_no, sNx_ap, sNo_ap, sEx_ap, kE_ap, sRet_ap, kR_ap, sRetN_ap, sIf_ap, kSI_t, kSI_f, sAs_ap, kA_ap, asK_ok, aN_ap, kA_N, asNil_ap, asCons_ap, kG_ap, asSub_ap, kU1_ap, kU2_ap, sFor_ap, kF_ap, sPar_ap, kP2_ap, sPar3_ap, kP3_ap, endB_nx, endB_rt, endB_exc, endB_no, gAdd_i, gSub_i, gLtI_i, gLe_i, gGt_i, gGe_i, gNeg_i, gIntF_i, gAbs_i, gMax2_i, gMin2_i, gLen_l, gLen_t, gTupF_l, gTupF_t, gSl_t, gRev_t, gIs_b, gIsNot_b, gIs_n, gIsNot_n, pys_nil, gZip_t, List.getElem?_cons_zero, List.getElem?_cons_succ, List.set_cons_zero, List.set_cons_succ, List.map_cons, List.map_nil, List.length_cons, List.length_nil, List.cons_append, List.nil_append, Nat.reduceAdd, Nat.reduceSub, List.replicate_succ, List.replicate_zero, ofInts_len, wipeE, List.take_length, frR_new, decide_true, decide_false, Bool.not_true, Bool.not_false, mDNew_ap, sDput_ap, kD1_ap, kD2_ap, kD3_ap, mGet2_ap, kG2_ap, kG3_ap, mIfT_ap, g0, g1, r0]
          have t1 : ∀ S, mNotT (mB (mCall F__law_is_doubled (mCons (m2 gIx (mV 11) (mK (.int 0))) (mCons (m2 gIx (mV 11) (mK (.int 1))) (mCons (m2 PX.gSub (mCall gLen (mCons (mV 1) mNil)) (mCall gLen (mCons (mV 2) mNil))) mNil))))) [some (.loc 0), some (RW a), some (RW b), some (.py .none), some (.py .none), some (SP s), y6, y7, y8, some (.py (.list [PP sa0 sb0, PP sa1 sb1])), none, some (.py (PP sa1 sb1))] S = .ok (!k1') S := by
            intro S
            simp -implicitDefEqProofs only [bd_ok, bd_no, bd_exc, bdN_ok, bs_ok, bs_exc, mV_ap, getV_ok, mK_ap, m1_ap, m2_ap, k2_ap, k2'_ap, mNil_ap, mCons_ap, kC1_ap, kC2_ap, mCall_ap, mCallI_ap, mItems_ap, gItems_l, gItems_t, mIf_ap, kIf_t, kIf_f, mCB_ap, mAndT_ap, mOrT_ap, mNotT_ap, kNot_ap, mAnd_ap, kAnd_t, kAnd_f, mOr_ap, kOr_t, kOr_f, mNot_ap, kNotV_ap, mB_ap, kB_ap, mFr_ap, frR_py, frR_no, frR_exc, mSl_ap, kS1_ap, kS2_ap, kS3_ap, oNone_ap, oSome_ap, kO_ap, mChain_ap, kH1_ap, kH2_ap, kH3_t, kH3_f, mMeth_ap, kMe2_ap, sSeq_ap, seqK_nx, seqK_rt, seqK_bk, seqK_ct, seqK_exc, seqK_no, sNx_ap, sNo_ap, sEx_ap, kE_ap, sRet_ap, kR_ap, sRetN_ap, sIf_ap, kSI_t, kSI_f, sAs_ap, kA_ap, asK_ok, aN_ap, kA_N, asNil_ap, asCons_ap, kG_ap, asSub_ap, kU1_ap, kU2_ap, sFor_ap, kF_ap, sPar_ap, kP2_ap, sPar3_ap, kP3_ap, endB_nx, endB_rt, endB_exc, endB_no, gAdd_i, gSub_i, gLtI_i, gLe_i, gGt_i, gGe_i, gNeg_i, gIntF_i, gAbs_i, gMax2_i, gMin2_i, gLen_l, gLen_t, gTupF_l, gTupF_t, gSl_t, gRev_t, gIs_b, gIsNot_b, gIs_n, gIsNot_n, pys_nil, gZip_t, List.getElem?_cons_zero, List.getElem?_cons_succ, List.set_cons_zero, List.set_cons_succ, List.map_cons, List.map_nil, List.length_cons, List.length_nil, List.cons_append, List.nil_append, Nat.reduceAdd, Nat.reduceSub, List.replicate_succ, List.replicate_zero, ofInts_len, wipeE, List.take_length, frR_new, decide_true, decide_false, Bool.not_true, Bool.not_false, mDNew_ap, sDput_ap, kD1_ap, kD2_ap, kD3_ap, mGet2_ap, kG2_ap, kG3_ap, mIfT_ap, g0, g1, r1]
          have pt : ∀ (acc : List PyData) (p : PyData), acc.length + 1 ≤ 100 → lcPut T.length p (T ++ [.lst acc]) = .ok () (T ++ [.lst (acc ++ [p])]) := by
            intro acc p ha
            unfold lcPut
            simp only [at_end, fits_le (by omega : acc.length + 1 ≤ 16777216), if_true]
            simp
          unfold lcGo
          rw [aN_ap]
          show bdN (mNotT _ [some (.loc 0), some (RW a), some (RW b), some (.py .none), some (.py .none), some (SP s), y6, y7, y8, some (.py (.list [PP sa0 sb0, PP sa1 sb1])), none, some (.py (PP sa0 sb0))] _) _ = _
          rw [t0, bdN_ok]
          cases k0 with
          | true =>
            unfold lcGo
            rw [aN_ap]
            show bdN (mNotT _ [some (.loc 0), some (RW a), some (RW b), some (.py .none), some (.py .none), some (SP s), y6, y7, y8, some (.py (.list [PP sa0 sb0, PP sa1 sb1])), none, some (.py (PP sa1 sb1))] _) _ = _
            rw [t1, bdN_ok]
            cases k1' with
            | true => exact absurd ⟨rfl, rfl⟩ hno
            | false =>
              show bdN (lcPut T.length (PP sa1 sb1) (T ++ [.lst []])) _ = _
              rw [pt [] _ (by decide)]
              rfl
          | false =>
            show bdN (lcPut T.length (PP sa0 sb0) (T ++ [.lst []])) _ = _
            rw [pt [] _ (by decide), bdN_ok]
            unfold lcGo
            rw [aN_ap]
            show bdN (mNotT _ [some (.loc 0), some (RW a), some (RW b), some (.py .none), some (.py .none), some (SP s), y6, y7, y8, some (.py (.list [PP sa0 sb0, PP sa1 sb1])), none, some (.py (PP sa1 sb1))] _) _ = _
            rw [t1, bdN_ok]
            cases k1' with
            | true => rfl
            | false =>
              show bdN (lcPut T.length (PP sa1 sb1) (T ++ [.lst ([] ++ [PP sa0 sb0])])) _ = _
              rw [pt _ _ (by simp)]
              rfl
        exact st S
    obtain ⟨l, hl0, c2⟩ := c2
    have c3 := fun S => ne_pairs l hl0 S
    generalize l.map (fun q => PP q.1 q.2) = ll at *
    simp -implicitDefEqProofs only [bd_ok, bd_no, bd_exc, bdN_ok, bs_ok, bs_exc, mV_ap, getV_ok, mK_ap, m1_ap, m2_ap, k2_ap, k2'_ap, mNil_ap, mCons_ap, kC1_ap, kC2_ap, mCall_ap, mCallI_ap, mItems_ap, gItems_l, gItems_t, mIf_ap, kIf_t, kIf_f, mCB_ap, mAndT_ap, mOrT_ap, mNotT_ap, kNot_ap, mAnd_ap, kAnd_t, kAnd_f, mOr_ap, kOr_t, kOr_f, mNot_ap, kNotV_ap, mB_ap, kB_ap, mFr_ap, frR_py, frR_no, frR_exc, mSl_ap, kS1_ap, kS2_ap, kS3_ap, oNone_ap, oSome_ap, kO_ap, mChain_ap, kH1_ap, kH2_ap, kH3_t, kH3_f, mMeth_ap, kMe2_ap, sSeq_ap, seqK_nx, seqK_rt, seqK_bk, seqK_ct, seqK_exc, seqK_no, sNx_ap, sNo_ap, sEx_ap, kE_ap, sRet_ap, kR_ap, sRetN_ap, sIf_ap, kSI_t, kSI_f, sAs_ap, kA_ap, asK_ok, aN_ap, kA_N, asNil_ap, asCons_ap, kG_ap, asSub_ap, kU1_ap, kU2_ap, sFor_ap, kF_ap, sPar_ap, kP2_ap, sPar3_ap, kP3_ap, endB_nx, endB_rt, endB_exc, endB_no, gAdd_i, gSub_i, gLtI_i, gLe_i, gGt_i, gGe_i, gNeg_i, gIntF_i, gAbs_i, gMax2_i, gMin2_i, gLen_l, gLen_t, gTupF_l, gTupF_t, gSl_t, gRev_t, gIs_b, gIsNot_b, gIs_n, gIsNot_n, pys_nil, gZip_t, List.getElem?_cons_zero, List.getElem?_cons_succ, List.set_cons_zero, List.set_cons_succ, List.map_cons, List.map_nil, List.length_cons, List.length_nil, List.cons_append, List.nil_append, Nat.reduceAdd, Nat.reduceSub, List.replicate_succ, List.replicate_zero, ofInts_len, wipeE, List.take_length, frR_new, decide_true, decide_false, Bool.not_true, Bool.not_false, mDNew_ap, sDput_ap, kD1_ap, kD2_ap, kD3_ap, mGet2_ap, kG2_ap, kG3_ap, mIfT_ap, e3, isNone, c1, c2, gLstD0, c3, take_CS]
end
end LW

end P_Q9
section P_Q10
set_option maxHeartbeats 4000000
namespace LW
open PySem PySem.Spec PyProof.Rows L2 PX
def tr (f l : Nat) (row : List Int) (x y : Int) : List Int := row.take f ++ (((row.drop f).take (l + 1 - f)).reverse.map (fun c => x + y - c) ++ row.drop (l + 1))
theorem tr_len {f l : Nat} {row : List Int} (x y : Int) (hf : f ≤ l) (hl : l < row.length) : (tr f l row x y).length = row.length := by
  unfold tr
  simp
  omega
theorem tr_in {f l : Nat} {row : List Int} {x y B : Int} (hB : InB B row) (h0 : 0 ≤ B) (hx : -B ≤ x ∧ x ≤ B) (hy : -B ≤ y ∧ y ≤ B) : InB (3 * B) (tr f l row x y) := by
  intro c hc
  unfold tr at hc
  rcases List.mem_append.mp hc with h | h
  · have := hB c (List.mem_of_mem_take h); omega
  · rcases List.mem_append.mp h with h | h
    · obtain ⟨d, hd, e⟩ := List.mem_map.mp h
      have := hB d (List.mem_of_mem_drop (List.mem_of_mem_take (List.mem_reverse.mp hd)))
      omega
    · have := hB c (List.mem_of_mem_drop h); omega
def LB : MS := sSeq (sAs (mCall F__law_roll (mCons (mV 0) (mCons (mCall gMax2 (mCons (mK (.int 1)) (mCons (mCall gLen (mCons (mV 1) mNil)) mNil))) mNil))) (aN 3))
  (sSeq (sAs (m2 gAdd (mV 3) (mCall F__law_roll (mCons (mV 0) (mCons (mCall gMax2 (mCons (mK (.int 1)) (mCons (m2 PX.gSub (mCall gLen (mCons (mV 1) mNil)) (mV 3)) mNil))) mNil)))) (aN 4))
  (sSeq (sAs (mFr (mSl (mV 1) (oSome (mV 3)) (oSome (m2 gAdd (mV 4) (mK (.int 1)))))) (aN 5))
  (sIf (mB (m2 gNe (mV 5) (mCall gTupD mNil))) (sAs (m2 gAdd (m2 gAdd (mFr (mSl (mV 1) oNone (oSome (mV 3)))) (mCall gTupF (mCons (mFr (mLc [6] (mItems (mFr (m1 gRev (mV 5)))) (aN 6) mYes (m2 PX.gSub (mFr (m2 gAdd (m2 gIx (mV 5) (mK (.int 0))) (m2 gIx (mV 5) (m1 gNeg (mK (.int 1)))))) (mV 6)))) mNil))) (mFr (mSl (mV 1) (oSome (m2 gAdd (mV 4) (mK (.int 1)))) oNone))) (aN 1)) sNx)))
theorem LB_ (T : Store) (a b B : Int) (row : List Int) (x2 x3 x4 x5 x6 : Option PX.D) (h0 : row ≠ []) (hn : row.length ≤ 100) (hB : InB B row) (hB0 : 0 ≤ B) (ha : 0 ≤ a) (hb : 0 ≤ b) : ∃ (row' : List Int) (a' b' : Int) (y3 y4 y5 y6 : Option PX.D), row'.length = row.length ∧ InB (3 * B) row' ∧ 0 ≤ a' ∧ 0 ≤ b' ∧ LB [some (.loc 0), some (RW row), x2, x3, x4, x5, x6] (CS a b T) = .go .nx [some (.loc 0), some (RW row'), x2, y3, y4, y5, y6] (CS a' b' T) := by
  have hl0 : 0 < row.length := List.length_pos_iff.mpr h0
  have mx1 : (if (row.length : Int) > 1 then (row.length : Int) else 1) = row.length := by split <;> omega
  obtain ⟨f, a1, b1, f1, f2, ha1, hb1, q1⟩ := roll a b row.length T ha hb (by omega) (by omega)
  obtain ⟨fn, rfl⟩ := Int.eq_ofNat_of_zero_le f1
  have m2' : (if (row.length : Int) - fn > 1 then (row.length : Int) - fn else 1) = row.length - fn := by split <;> omega
  obtain ⟨l, a2, b2, l1, l2, ha2, hb2, q2⟩ := roll a1 b1 ((row.length : Int) - fn) T ha1 hb1 (by omega) (by omega)
  obtain ⟨ln, rfl⟩ := Int.eq_ofNat_of_zero_le l1
  have hfl : fn ≤ fn + ln := by omega
  have hll : fn + ln < row.length := by omega
  have e1 : ((fn : Int) + (ln : Int)) + 1 = ((fn + ln + 1 : Nat) : Int) := by omega
  have ec : cutL (ofInts row) (some (fn : Int)) (some ((fn + ln + 1 : Nat) : Int)) = ofInts ((row.drop fn).take (fn + ln + 1 - fn)) := by rw [cutL_ofInts, cutL_mid _ _ _ (by omega) (by omega)]
  have ef : cutL (ofInts row) none (some (fn : Int)) = ofInts (row.take fn) := by rw [cutL_ofInts, cutL_to]
  have eg : cutL (ofInts row) (some ((fn + ln + 1 : Nat) : Int)) none = ofInts (row.drop (fn + ln + 1)) := by rw [cutL_ofInts, cutL_from]
  have hp : (row.drop fn).take (fn + ln + 1 - fn) ≠ [] := by
    intro h
    have := congrArg List.length h
    simp at this
    omega
  have hin : ∀ c ∈ (row.drop fn).take (fn + ln + 1 - fn), c ∈ row := fun c hc => List.mem_of_mem_drop (List.mem_of_mem_take hc)
  refine ⟨tr fn (fn + ln) row (((row.drop fn).take (fn + ln + 1 - fn)).head hp) (((row.drop fn).take (fn + ln + 1 - fn)).getLast hp), a2, b2, some (.py (.int fn)), some (.py (.int (fn + ln))), some (RW ((row.drop fn).take (fn + ln + 1 - fn))), x6, tr_len _ _ hfl hll, tr_in hB hB0 (hB _ (hin _ (List.head_mem _))) (hB _ (hin _ (List.getLast_mem _))), ha2, hb2, ?_⟩
  unfold tr
  have hpl : ((row.drop fn).take (fn + ln + 1 - fn)).length ≤ 100 := by rw [List.length_take, List.length_drop]; omega
  generalize (row.drop fn).take (fn + ln + 1 - fn) = part at *
  have key : ∀ (S : Store) (env : Ev), env[5]? = some (some (RW part)) → (∀ x, (env.set 6 x)[5]? = some (some (RW part))) → True := fun _ _ _ _ => trivial
  have eC : ∀ S, mLc [6] (mItems (mFr (m1 gRev (mV 5)))) (aN 6) mYes (m2 PX.gSub (mFr (m2 gAdd (m2 gIx (mV 5) (mK (.int 0))) (m2 gIx (mV 5) (m1 gNeg (mK (.int 1)))))) (mV 6)) [some (.loc 0), some (RW row), x2, some (.py (.int fn)), some (.py (.int (fn + ln))), some (RW part), x6] S = .ok (.loc S.length) (S ++ [.lst (ofInts (part.reverse.map (fun c => part.head hp + part.getLast hp - c)))]) := by
    intro S
    rw [mLc_all (ps := ofInts part.reverse) (fun p => [some (.loc 0), some (RW row), x2, some (.py (.int fn)), some (.py (.int (fn + ln))), some (RW part), some (.py p)]) (fun p => match p with | .int c => .int (part.head hp + part.getLast hp - c) | p => p)]
    · unfold ofInts; rw [List.map_map, List.map_map]; rfl
    · simp -implicitDefEqProofs only [bd_ok, bd_no, bd_exc, bdN_ok, bs_ok, bs_exc, mV_ap, getV_ok, mK_ap, m1_ap, m2_ap, k2_ap, k2'_ap, mNil_ap, mCons_ap, kC1_ap, kC2_ap, mCall_ap, mCallI_ap, mItems_ap, gItems_l, gItems_t, mIf_ap, kIf_t, kIf_f, mCB_ap, mAndT_ap, mOrT_ap, mNotT_ap, kNot_ap, mAnd_ap, kAnd_t, kAnd_f, mOr_ap, kOr_t, kOr_f, mNot_ap, kNotV_ap, mB_ap, kB_ap, mFr_ap, frR_py, frR_no, frR_exc, mSl_ap, kS1_ap, kS2_ap, kS3_ap, oNone_ap, oSome_ap, kO_ap, mChain_ap, kH1_ap, kH2_ap, kH3_t, kH3_f, mMeth_ap, kMe2_ap, sSeq_ap, seqK_nx, seqK_rt, seqK_bk, seqK_ct, seqK_exc, seqK_no, sNx_ap, sNo_ap, sEx_ap, kE_ap, sRet_ap, kR_ap, sRetN_ap, sIf_ap, kSI_t, kSI_f, sAs_ap, kA_ap, asK_ok, aN_ap, kA_N, asNil_ap, asCons_ap, kG_ap, asSub_ap, kU1_ap, kU2_ap, sFor_ap, kF_ap, sPar_ap, kP2_ap, sPar3_ap, kP3_ap, endB_nx, endB_rt, endB_exc, endB_no, gAdd_i, gSub_i, gLtI_i, gLe_i, gGt_i, gGe_i, gNeg_i, gIntF_i, gAbs_i, gMax2_i, gMin2_i, gLen_l, gLen_t, gTupF_l, gTupF_t, gSl_t, gRev_t, gIs_b, gIsNot_b, gIs_n, gIsNot_n, pys_nil, gZip_t, List.getElem?_cons_zero, List.getElem?_cons_succ, List.set_cons_zero, List.set_cons_succ, List.map_cons, List.map_nil, List.length_cons, List.length_nil, List.cons_append, List.nil_append, Nat.reduceAdd, Nat.reduceSub, List.replicate_succ, List.replicate_zero, ofInts_len, wipeE, List.take_length, frR_new, decide_true, decide_false, Bool.not_true, Bool.not_false, mDNew_ap, sDput_ap, kD1_ap, kD2_ap, kD3_ap, mGet2_ap, kG2_ap, kG3_ap, mIfT_ap, ofInts_rev]
    · rw [ofInts_len, List.length_reverse]; omega
    · intro p hp S; rfl
    · intro p hp' S
      obtain ⟨c, hc, rfl⟩ := List.mem_map.mp hp'
      simp -implicitDefEqProofs only [bd_ok, bd_no, bd_exc, bdN_ok, bs_ok, bs_exc, mV_ap, getV_ok, mK_ap, m1_ap, m2_ap, k2_ap, k2'_ap, mNil_ap, mCons_ap, kC1_ap, kC2_ap, mCall_ap, mCallI_ap, mItems_ap, gItems_l, gItems_t, mIf_ap, kIf_t, kIf_f, mCB_ap, mAndT_ap, mOrT_ap, mNotT_ap, kNot_ap, mAnd_ap, kAnd_t, kAnd_f, mOr_ap, kOr_t, kOr_f, mNot_ap, kNotV_ap, mB_ap, kB_ap, mFr_ap, frR_py, frR_no, frR_exc, mSl_ap, kS1_ap, kS2_ap, kS3_ap, oNone_ap, oSome_ap, kO_ap, mChain_ap, kH1_ap, kH2_ap, kH3_t, kH3_f, mMeth_ap, kMe2_ap, sSeq_ap, seqK_nx, seqK_rt, seqK_bk, seqK_ct, seqK_exc, seqK_no, sNx_ap, sNo_ap, sEx_ap, kE_ap, sRet_ap, kR_ap, sRetN_ap, sIf_ap, kSI_t, kSI_f, sAs_ap, kA_ap, asK_ok, aN_ap, kA_N, asNil_ap, asCons_ap, kG_ap, asSub_ap, kU1_ap, kU2_ap, sFor_ap, kF_ap, sPar_ap, kP2_ap, sPar3_ap, kP3_ap, endB_nx, endB_rt, endB_exc, endB_no, gAdd_i, gSub_i, gLtI_i, gLe_i, gGt_i, gGe_i, gNeg_i, gIntF_i, gAbs_i, gMax2_i, gMin2_i, gLen_l, gLen_t, gTupF_l, gTupF_t, gSl_t, gRev_t, gIs_b, gIsNot_b, gIs_n, gIsNot_n, pys_nil, gZip_t, List.getElem?_cons_zero, List.getElem?_cons_succ, List.set_cons_zero, List.set_cons_succ, List.map_cons, List.map_nil, List.length_cons, List.length_nil, List.cons_append, List.nil_append, Nat.reduceAdd, Nat.reduceSub, List.replicate_succ, List.replicate_zero, ofInts_len, wipeE, List.take_length, frR_new, decide_true, decide_false, Bool.not_true, Bool.not_false, mDNew_ap, sDput_ap, kD1_ap, kD2_ap, kD3_ap, mGet2_ap, kG2_ap, kG3_ap, mIfT_ap, gIx_first hp, gIx_last hp]
  have ad : ∀ S, gAdd (.py (.tuple (ofInts (row.take fn)))) (.py (.tuple (ofInts (part.reverse.map (fun c => part.head hp + part.getLast hp - c))))) S = .ok (RW (row.take fn ++ part.reverse.map (fun c => part.head hp + part.getLast hp - c))) S := fun S => gAdd_r _ _ S (by rw [List.length_take, List.length_map, List.length_reverse]; omega)
  have ad2 : ∀ S, gAdd (RW (row.take fn ++ part.reverse.map (fun c => part.head hp + part.getLast hp - c))) (.py (.tuple (ofInts (row.drop (fn + ln + 1))))) S = .ok (RW (row.take fn ++ (part.reverse.map (fun c => part.head hp + part.getLast hp - c) ++ row.drop (fn + ln + 1)))) S := fun S => by
    rw [← List.append_assoc]
    exact gAdd_r _ _ S (by rw [List.length_append, List.length_take, List.length_map, List.length_reverse, List.length_drop]; omega)
  unfold LB
  simp -implicitDefEqProofs only [bd_ok, bd_no, bd_exc, bdN_ok, bs_ok, bs_exc, mV_ap, getV_ok, mK_ap, m1_ap, m2_ap, k2_ap, k2'_ap, mNil_ap, mCons_ap, kC1_ap, kC2_ap, mCall_ap, mCallI_ap, mItems_ap, gItems_l, gItems_t, mIf_ap, kIf_t, kIf_f, mCB_ap, mAndT_ap, mOrT_ap, mNotT_ap, kNot_ap, mAnd_ap, kAnd_t, kAnd_f, mOr_ap, kOr_t, kOr_f, mNot_ap, kNotV_ap, mB_ap, kB_ap, mFr_ap, frR_py, frR_no, frR_exc, mSl_ap, kS1_ap, kS2_ap, kS3_ap, oNone_ap, oSome_ap, kO_ap, mChain_ap, kH1_ap, kH2_ap, kH3_t, kH3_f, mMeth_ap, kMe2_ap, sSeq_ap, seqK_nx, seqK_rt, seqK_bk, seqK_ct, seqK_exc, seqK_no, sNx_ap, sNo_ap, sEx_ap, kE_ap, sRet_ap, kR_ap, sRetN_ap, sIf_ap, kSI_t, kSI_f, sAs_ap, kA_ap, asK_ok, aN_ap, kA_N, asNil_ap, asCons_ap, kG_ap, asSub_ap, kU1_ap, kU2_ap, sFor_ap, kF_ap, sPar_ap, kP2_ap, sPar3_ap, kP3_ap, endB_nx, endB_rt, endB_exc, endB_no, gAdd_i, gSub_i, gLtI_i, gLe_i, gGt_i, gGe_i, gNeg_i, gIntF_i, gAbs_i, gMax2_i, gMin2_i, gLen_l, gLen_t, gTupF_l, gTupF_t, gSl_t, gRev_t, gIs_b, gIsNot_b, gIs_n, gIsNot_n, pys_nil, gZip_t, List.getElem?_cons_zero, List.getElem?_cons_succ, List.set_cons_zero, List.set_cons_succ, List.map_cons, List.map_nil, List.length_cons, List.length_nil, List.cons_append, List.nil_append, Nat.reduceAdd, Nat.reduceSub, List.replicate_succ, List.replicate_zero, ofInts_len, wipeE, List.take_length, frR_new, decide_true, decide_false, Bool.not_true, Bool.not_false, mDNew_ap, sDput_ap, kD1_ap, kD2_ap, kD3_ap, mGet2_ap, kG2_ap, kG3_ap, mIfT_ap, mx1, q1, m2', q2, e1, ec, gTupD0, gNe_r0, decide_eq_false hp, ef, eg, eC, ad, ad2]
theorem like_loop (T : Store) : ∀ (n : Nat) (k a b B : Int) (row : List Int) (x2 x3 x4 x5 x6 : Option PX.D), row ≠ [] → row.length ≤ 100 → InB B row → 0 ≤ B → 0 ≤ a → 0 ≤ b → ∃ (row' : List Int) (a' b' : Int) (y2 y3 y4 y5 y6 : Option PX.D), row'.length = row.length ∧ InB (B * 3 ^ n) row' ∧ 0 ≤ a' ∧ 0 ≤ b' ∧ forS (aN 2) LB (rangeL k n) [some (.loc 0), some (RW row), x2, x3, x4, x5, x6] (CS a b T) = .go .nx [some (.loc 0), some (RW row'), y2, y3, y4, y5, y6] (CS a' b' T)
  | 0, k, a, b, B, row, x2, x3, x4, x5, x6, h0, hn, hB, hB0, ha, hb => ⟨row, a, b, x2, x3, x4, x5, x6, rfl, hB.le (by simp), ha, hb, rfl⟩
  | n + 1, k, a, b, B, row, x2, x3, x4, x5, x6, h0, hn, hB, hB0, ha, hb => by
    obtain ⟨r1, a1, b1, z3, z4, z5, z6, l1, i1, ha1, hb1, e1⟩ := LB_ T a b B row (some (.py (.int k))) x3 x4 x5 x6 h0 hn hB hB0 ha hb
    have h1 : r1 ≠ [] := by
      intro e; subst e
      have := List.length_pos_iff.mpr h0
      simp at l1; omega
    obtain ⟨r', a', b', y2, y3, y4, y5, y6, l', i', ha', hb', e⟩ := like_loop T n (k + 1) a1 b1 (3 * B) r1 (some (.py (.int k))) z3 z4 z5 z6 h1 (by omega) i1 (by omega) ha1 hb1
    refine ⟨r', a', b', y2, y3, y4, y5, y6, by omega, i'.le (by rw [Int.pow_succ, Int.mul_comm 3 B, Int.mul_assoc, Int.mul_comm 3]; exact Int.le_refl _), ha', hb', ?_⟩
    rw [rangeL_succ, forS_nx (env1 := [some (.loc 0), some (RW row), some (.py (.int k)), x3, x4, x5, x6]) aN_ap e1]
    exact e
theorem like_ (T : Store) (a b : Int) (row : List Int) (h0 : row ≠ []) (hn : row.length ≤ 100) (hB : InB 1000 row) (ha : 0 ≤ a) (hb : 0 ≤ b) : ∃ (row' : List Int) (a' b' : Int), row'.length = row.length ∧ InB 100000 row' ∧ 0 ≤ a' ∧ 0 ≤ b' ∧ F__law_like_row [.loc 0, RW row] (CS a b T) = .ok (RW row') (CS a' b' T) := by
  obtain ⟨r', a', b', y2, y3, y4, y5, y6, l', i', ha', hb', e⟩ := like_loop T 3 0 a b 1000 row none none none none none h0 hn hB (by omega) ha hb
  refine ⟨r', a', b', l', i'.le (by decide), ha', hb', ?_⟩
  have e0 : ∀ S, gRange1 [.py (.int 3)] S = .ok (rangeL 0 3) S := fun S => rfl
  have h1 : sFor (mCallI gRange1 (mCons (mK (.int 3)) mNil)) (aN 2) LB [some (.loc 0), some (RW row), none, none, none, none, none] (CS a b T) = .go .nx [some (.loc 0), some (RW r'), y2, y3, y4, y5, y6] (CS a' b' T) := by simp -implicitDefEqProofs only [bd_ok, bd_no, bd_exc, bdN_ok, bs_ok, bs_exc, mV_ap, getV_ok, mK_ap, m1_ap, m2_ap, k2_ap, k2'_ap, mNil_ap, mCons_ap, kC1_ap, kC2_ap, mCall_ap, mCallI_ap, mItems_ap, gItems_l, gItems_t, mIf_ap, kIf_t, kIf_f, mCB_ap, mAndT_ap, mOrT_ap, mNotT_ap, kNot_ap, mAnd_ap, kAnd_t, kAnd_f, mOr_ap, kOr_t, kOr_f, mNot_ap, kNotV_ap, mB_ap, kB_ap, mFr_ap, frR_py, frR_no, frR_exc, mSl_ap, kS1_ap, kS2_ap, kS3_ap, oNone_ap, oSome_ap, kO_ap, mChain_ap, kH1_ap, kH2_ap, kH3_t, kH3_f, mMeth_ap, kMe2_ap, sSeq_ap, seqK_nx, seqK_rt, seqK_bk, seqK_ct, seqK_exc, seqK_no, sNx_ap, sNo_ap, sEx_ap, kE_ap, sRet_ap, kR_ap, sRetN_ap, sIf_ap, kSI_t, kSI_f, sAs_ap, kA_ap, asK_ok, aN_ap, kA_N, asNil_ap, asCons_ap, kG_ap, asSub_ap, kU1_ap, kU2_ap, sFor_ap, kF_ap, sPar_ap, kP2_ap, sPar3_ap, kP3_ap, endB_nx, endB_rt, endB_exc, endB_no, gAdd_i, gSub_i, gLtI_i, gLe_i, gGt_i, gGe_i, gNeg_i, gIntF_i, gAbs_i, gMax2_i, gMin2_i, gLen_l, gLen_t, gTupF_l, gTupF_t, gSl_t, gRev_t, gIs_b, gIsNot_b, gIs_n, gIsNot_n, pys_nil, gZip_t, List.getElem?_cons_zero, List.getElem?_cons_succ, List.set_cons_zero, List.set_cons_succ, List.map_cons, List.map_nil, List.length_cons, List.length_nil, List.cons_append, List.nil_append, Nat.reduceAdd, Nat.reduceSub, List.replicate_succ, List.replicate_zero, ofInts_len, wipeE, List.take_length, frR_new, decide_true, decide_false, Bool.not_true, Bool.not_false, mDNew_ap, sDput_ap, kD1_ap, kD2_ap, kD3_ap, mGet2_ap, kG2_ap, kG3_ap, mIfT_ap, e0, e]
  unfold F__law_like_row
  rw [runF_ap]
  unfold b__law_like_row
  show frR _ (endB (sSeq (sFor _ _ LB) _ [some (.loc 0), some (RW row), none, none, none, none, none] _)) = _
  rw [sSeq_nx h1]
  simp -implicitDefEqProofs only [bd_ok, bd_no, bd_exc, bdN_ok, bs_ok, bs_exc, mV_ap, getV_ok, mK_ap, m1_ap, m2_ap, k2_ap, k2'_ap, mNil_ap, mCons_ap, kC1_ap, kC2_ap, mCall_ap, mCallI_ap, mItems_ap, gItems_l, gItems_t, mIf_ap, kIf_t, kIf_f, mCB_ap, mAndT_ap, mOrT_ap, mNotT_ap, kNot_ap, mAnd_ap, kAnd_t, kAnd_f, mOr_ap, kOr_t, kOr_f, mNot_ap, kNotV_ap, mB_ap, kB_ap, mFr_ap, frR_py, frR_no, frR_exc, mSl_ap, kS1_ap, kS2_ap, kS3_ap, oNone_ap, oSome_ap, kO_ap, mChain_ap, kH1_ap, kH2_ap, kH3_t, kH3_f, mMeth_ap, kMe2_ap, sSeq_ap, seqK_nx, seqK_rt, seqK_bk, seqK_ct, seqK_exc, seqK_no, sNx_ap, sNo_ap, sEx_ap, kE_ap, sRet_ap, kR_ap, sRetN_ap, sIf_ap, kSI_t, kSI_f, sAs_ap, kA_ap, asK_ok, aN_ap, kA_N, asNil_ap, asCons_ap, kG_ap, asSub_ap, kU1_ap, kU2_ap, sFor_ap, kF_ap, sPar_ap, kP2_ap, sPar3_ap, kP3_ap, endB_nx, endB_rt, endB_exc, endB_no, gAdd_i, gSub_i, gLtI_i, gLe_i, gGt_i, gGe_i, gNeg_i, gIntF_i, gAbs_i, gMax2_i, gMin2_i, gLen_l, gLen_t, gTupF_l, gTupF_t, gSl_t, gRev_t, gIs_b, gIsNot_b, gIs_n, gIsNot_n, pys_nil, gZip_t, List.getElem?_cons_zero, List.getElem?_cons_succ, List.set_cons_zero, List.set_cons_succ, List.map_cons, List.map_nil, List.length_cons, List.length_nil, List.cons_append, List.nil_append, Nat.reduceAdd, Nat.reduceSub, List.replicate_succ, List.replicate_zero, ofInts_len, wipeE, List.take_length, frR_new, decide_true, decide_false, Bool.not_true, Bool.not_false, mDNew_ap, sDput_ap, kD1_ap, kD2_ap, kD3_ap, mGet2_ap, kG2_ap, kG3_ap, mIfT_ap, take_CS]
theorem more_loop (T : Store) (B : Int) (x2 : Option PX.D) : ∀ (n : Nat) (k a b : Int) (row : List Int) (x3 x4 : Option PX.D), row ≠ [] → row.length + n ≤ 100 → InB B row → 0 ≤ a → 0 ≤ b → ∃ (row' : List Int) (a' b' : Int) (y3 y4 : Option PX.D), row'.length = row.length + n ∧ InB B row' ∧ 0 ≤ a' ∧ 0 ≤ b' ∧ forS (aN 3) (sSeq (sAs (mCall F__law_roll (mCons (mV 0) (mCons (mCall gLen (mCons (mV 1) mNil)) mNil))) (aN 4))
  (sAs (m2 gAdd (m2 gAdd (mFr (mSl (mV 1) oNone (oSome (mV 4)))) (mCall gTupD (mCons (m2 gIx (mV 1) (mV 4)) mNil))) (mFr (mSl (mV 1) (oSome (mV 4)) oNone))) (aN 1))) (rangeL k n) [some (.loc 0), some (RW row), x2, x3, x4] (CS a b T) = .go .nx [some (.loc 0), some (RW row'), x2, y3, y4] (CS a' b' T)
  | 0, k, a, b, row, x3, x4, h0, hn, hB, ha, hb => ⟨row, a, b, x3, x4, rfl, hB, ha, hb, rfl⟩
  | n + 1, k, a, b, row, x3, x4, h0, hn, hB, ha, hb => by
    have hl0 : 0 < row.length := List.length_pos_iff.mpr h0
    obtain ⟨f, a1, b1, f1, f2, ha1, hb1, q1⟩ := roll a b row.length T ha hb (by omega) (by omega)
    obtain ⟨fn, rfl⟩ := Int.eq_ofNat_of_zero_le f1
    have hf : fn < row.length := by omega
    have l1 : (row.take fn ++ [row[fn]] ++ row.drop fn).length = row.length + 1 := by simp; omega
    have i1 : InB B (row.take fn ++ [row[fn]] ++ row.drop fn) := by
      intro c hc
      rcases List.mem_append.mp hc with h | h
      · rcases List.mem_append.mp h with h | h
        · exact hB c (List.mem_of_mem_take h)
        · rw [List.mem_singleton.mp h]; exact hB _ (List.getElem_mem hf)
      · exact hB c (List.mem_of_mem_drop h)
    obtain ⟨r', a', b', y3, y4, l', i', ha', hb', e⟩ := more_loop T B x2 n (k + 1) a1 b1 (row.take fn ++ [row[fn]] ++ row.drop fn) (some (.py (.int k))) (some (.py (.int fn))) (by intro e; have := congrArg List.length e; rw [l1] at this; simp at this) (by omega) i1 ha1 hb1
    refine ⟨r', a', b', y3, y4, by omega, i', ha', hb', ?_⟩
    have ef : cutL (ofInts row) none (some (fn : Int)) = ofInts (row.take fn) := by rw [cutL_ofInts, cutL_to]
    have eg : cutL (ofInts row) (some (fn : Int)) none = ofInts (row.drop fn) := by rw [cutL_ofInts, cutL_from]
    have ad : ∀ S, gAdd (.py (.tuple (ofInts (row.take fn)))) (.py (.tuple [.int row[fn]])) S = .ok (RW (row.take fn ++ [row[fn]])) S := fun S => gAdd_r (row.take fn) [row[fn]] S (by rw [List.length_take]; simp; omega)
    have ad2 : ∀ S, gAdd (RW (row.take fn ++ [row[fn]])) (.py (.tuple (ofInts (row.drop fn)))) S = .ok (RW (row.take fn ++ [row[fn]] ++ row.drop fn)) S := fun S => gAdd_r _ _ S (by rw [List.length_append, List.length_take, List.length_drop]; simp; omega)
    rw [rangeL_succ, forS_nx (env1 := [some (.loc 0), some (RW row), x2, some (.py (.int k)), x4]) (env2 := [some (.loc 0), some (RW (row.take fn ++ [row[fn]] ++ row.drop fn)), x2, some (.py (.int k)), some (.py (.int fn))]) (S2 := CS a1 b1 T) aN_ap (by simp -implicitDefEqProofs only [bd_ok, bd_no, bd_exc, bdN_ok, bs_ok, bs_exc, mV_ap, getV_ok, mK_ap, m1_ap, m2_ap, k2_ap, k2'_ap, mNil_ap, mCons_ap, kC1_ap, kC2_ap, mCall_ap, mCallI_ap, mItems_ap, gItems_l, gItems_t, mIf_ap, kIf_t, kIf_f, mCB_ap, mAndT_ap, mOrT_ap, mNotT_ap, kNot_ap, mAnd_ap, kAnd_t, kAnd_f, mOr_ap, kOr_t, kOr_f, mNot_ap, kNotV_ap, mB_ap, kB_ap, mFr_ap, frR_py, frR_no, frR_exc, mSl_ap, kS1_ap, kS2_ap, kS3_ap, oNone_ap, oSome_ap, kO_ap, mChain_ap, kH1_ap, kH2_ap, kH3_t, kH3_f, mMeth_ap, kMe2_ap, sSeq_ap, seqK_nx, seqK_rt, seqK_bk, seqK_ct, seqK_exc, seqK_no, sNx_ap, sNo_ap, sEx_ap, kE_ap, sRet_ap, kR_ap, sRetN_ap, sIf_ap, kSI_t, kSI_f, sAs_ap, kA_ap, asK_ok, aN_ap, kA_N, asNil_ap, asCons_ap, kG_ap, asSub_ap, kU1_ap, kU2_ap, sFor_ap, kF_ap, sPar_ap, kP2_ap, sPar3_ap, kP3_ap, endB_nx, endB_rt, endB_exc, endB_no, gAdd_i, gSub_i, gLtI_i, gLe_i, gGt_i, gGe_i, gNeg_i, gIntF_i, gAbs_i, gMax2_i, gMin2_i, gLen_l, gLen_t, gTupF_l, gTupF_t, gSl_t, gRev_t, gIs_b, gIsNot_b, gIs_n, gIsNot_n, pys_nil, gZip_t, List.getElem?_cons_zero, List.getElem?_cons_succ, List.set_cons_zero, List.set_cons_succ, List.map_cons, List.map_nil, List.length_cons, List.length_nil, List.cons_append, List.nil_append, Nat.reduceAdd, Nat.reduceSub, List.replicate_succ, List.replicate_zero, ofInts_len, wipeE, List.take_length, frR_new, decide_true, decide_false, Bool.not_true, Bool.not_false, mDNew_ap, sDput_ap, kD1_ap, kD2_ap, kD3_ap, mGet2_ap, kG2_ap, kG3_ap, mIfT_ap, q1, ef, eg, gIx_r row fn hf, gTupD1, ad, ad2])]
    exact e
theorem more_ (T : Store) (a b B : Int) (n : Nat) (row : List Int) (h0 : row ≠ []) (hn : row.length + n ≤ 100) (hB : InB B row) (ha : 0 ≤ a) (hb : 0 ≤ b) : ∃ (row' : List Int) (a' b' : Int), row'.length = row.length + n ∧ InB B row' ∧ 0 ≤ a' ∧ 0 ≤ b' ∧ F__law_more [.loc 0, RW row, .py (.int (n : Int))] (CS a b T) = .ok (RW row') (CS a' b' T) := by
  obtain ⟨r', a', b', y3, y4, l', i', ha', hb', e⟩ := more_loop T B (some (.py (.int (n : Int)))) n 0 a b row none none h0 hn hB ha hb
  refine ⟨r', a', b', l', i', ha', hb', ?_⟩
  have e0 : ∀ S, gRange1 [.py (.int (n : Int))] S = .ok (rangeL 0 n) S := fun S => by rw [gRange1_i (inR_of (by omega) (by omega))]; rfl
  unfold F__law_more
  rw [runF_ap]
  unfold b__law_more
  simp -implicitDefEqProofs only [bd_ok, bd_no, bd_exc, bdN_ok, bs_ok, bs_exc, mV_ap, getV_ok, mK_ap, m1_ap, m2_ap, k2_ap, k2'_ap, mNil_ap, mCons_ap, kC1_ap, kC2_ap, mCall_ap, mCallI_ap, mItems_ap, gItems_l, gItems_t, mIf_ap, kIf_t, kIf_f, mCB_ap, mAndT_ap, mOrT_ap, mNotT_ap, kNot_ap, mAnd_ap, kAnd_t, kAnd_f, mOr_ap, kOr_t, kOr_f, mNot_ap, kNotV_ap, mB_ap, kB_ap, mFr_ap, frR_py, frR_no, frR_exc, mSl_ap, kS1_ap, kS2_ap, kS3_ap, oNone_ap, oSome_ap, kO_ap, mChain_ap, kH1_ap, kH2_ap, kH3_t, kH3_f, mMeth_ap, kMe2_ap, sSeq_ap, seqK_nx, seqK_rt, seqK_bk, seqK_ct, seqK_exc, seqK_no, sNx_ap, sNo_ap, sEx_ap, kE_ap, sRet_ap, kR_ap, sRetN_ap, sIf_ap, kSI_t, kSI_f, sAs_ap, kA_ap, asK_ok, aN_ap, kA_N, asNil_ap, asCons_ap, kG_ap, asSub_ap, kU1_ap, kU2_ap, sFor_ap, kF_ap, sPar_ap, kP2_ap, sPar3_ap, kP3_ap, endB_nx, endB_rt, endB_exc, endB_no, gAdd_i, gSub_i, gLtI_i, gLe_i, gGt_i, gGe_i, gNeg_i, gIntF_i, gAbs_i, gMax2_i, gMin2_i, gLen_l, gLen_t, gTupF_l, gTupF_t, gSl_t, gRev_t, gIs_b, gIsNot_b, gIs_n, gIsNot_n, pys_nil, gZip_t, List.getElem?_cons_zero, List.getElem?_cons_succ, List.set_cons_zero, List.set_cons_succ, List.map_cons, List.map_nil, List.length_cons, List.length_nil, List.cons_append, List.nil_append, Nat.reduceAdd, Nat.reduceSub, List.replicate_succ, List.replicate_zero, ofInts_len, wipeE, List.take_length, frR_new, decide_true, decide_false, Bool.not_true, Bool.not_false, mDNew_ap, sDput_ap, kD1_ap, kD2_ap, kD3_ap, mGet2_ap, kG2_ap, kG3_ap, mIfT_ap, e0, e, take_CS]
end LW

end P_Q10
section P_Q11
set_option maxHeartbeats 4000000
namespace LW
open PySem PySem.Spec PyProof.Rows L2 PX
theorem cutL_sub (l : List Int) (lo hi : Option Int) : (cutL l lo hi).length ≤ l.length ∧ ∀ c ∈ cutL l lo hi, c ∈ l := by
  unfold cutL
  refine ⟨by rw [List.length_take, List.length_drop]; omega, fun c hc => List.mem_of_mem_drop (List.mem_of_mem_take hc)⟩
def TB : MS := sSeq (sAs (mCall F__law_some_folds (mCons (mV 1) (mCons (mK (.int 5)) mNil))) (aN 3))
  (sSeq (sAs (mCall F__law_more (mCons (mV 1) (mCons (mCall F__law_like_row (mCons (mV 1) (mCons (mV 3) mNil))) (mCons (mCall F__law_roll (mCons (mV 1) (mCons (mK (.int 3)) mNil))) mNil)))) (aN 4))
  (sSeq (sAs (mCall F__law_some (mCons (mV 1) (mCons (mFr (mCall gLstD (mCons (mV 4) (mCons (mV 4) (mCons (mCall F__law_folds (mCons (mV 1) (mCons (mK (.int 5)) mNil))) (mCons (mFr (mSl (mV 4) oNone (oSome (m1 gNeg (mK (.int 1)))))) mNil)))))) mNil))) (aN 5))
  (sIf (mNotT (mB (mCall F__law_right (mCons (mV 1) (mCons (mV 3) (mCons (mV 5) mNil)))))) (sRet (mK (.bool false))) sNx)))
theorem some_ne (T : Store) (a b : Int) (ha : 0 ≤ a) (hb : 0 ≤ b) : ∃ r a' b', r ≠ [] ∧ r.length ≤ 5 ∧ InB 1000 r ∧ 0 ≤ a' ∧ 0 ≤ b' ∧ F__law_some_folds [.loc 0, .py (.int 5)] (CS a b T) = .ok (RW r) (CS a' b' T) := by
  obtain ⟨r, a1, b1, rl, ri, ha1, hb1, e⟩ := folds_ T a b 5 (by omega) ha hb
  have e' : F__law_folds [.loc 0, .py (.int 5)] (CS a b T) = .ok (RW r) (CS a1 b1 T) := e
  by_cases h : r = []
  · subst h
    obtain ⟨c, a2, b2, c1, c2, ha2, hb2, r2⟩ := roll a1 b1 15 T ha1 hb1 (by omega) (by omega)
    refine ⟨[c - 7], a2, b2, by simp, by simp, ?_, ha2, hb2, ?_⟩
    · intro d hd; rw [List.mem_singleton.mp hd]; omega
    · unfold F__law_some_folds
      rw [runF_ap]
      unfold b__law_some_folds
      simp -implicitDefEqProofs only [bd_ok, bd_no, bd_exc, bdN_ok, bs_ok, bs_exc, mV_ap, getV_ok, mK_ap, m1_ap, m2_ap, k2_ap, k2'_ap, mNil_ap, mCons_ap, kC1_ap, kC2_ap, mCall_ap, mCallI_ap, mItems_ap, gItems_l, gItems_t, mIf_ap, kIf_t, kIf_f, mCB_ap, mAndT_ap, mOrT_ap, mNotT_ap, kNot_ap, mAnd_ap, kAnd_t, kAnd_f, mOr_ap, kOr_t, kOr_f, mNot_ap, kNotV_ap, mB_ap, kB_ap, mFr_ap, frR_py, frR_no, frR_exc, mSl_ap, kS1_ap, kS2_ap, kS3_ap, oNone_ap, oSome_ap, kO_ap, mChain_ap, kH1_ap, kH2_ap, kH3_t, kH3_f, mMeth_ap, kMe2_ap, sSeq_ap, seqK_nx, seqK_rt, seqK_bk, seqK_ct, seqK_exc, seqK_no, sNx_ap, sNo_ap, sEx_ap, kE_ap, sRet_ap, kR_ap, sRetN_ap, sIf_ap, kSI_t, kSI_f, sAs_ap, kA_ap, asK_ok, aN_ap, kA_N, asNil_ap, asCons_ap, kG_ap, asSub_ap, kU1_ap, kU2_ap, sFor_ap, kF_ap, sPar_ap, kP2_ap, sPar3_ap, kP3_ap, endB_nx, endB_rt, endB_exc, endB_no, gAdd_i, gSub_i, gLtI_i, gLe_i, gGt_i, gGe_i, gNeg_i, gIntF_i, gAbs_i, gMax2_i, gMin2_i, gLen_l, gLen_t, gTupF_l, gTupF_t, gSl_t, gRev_t, gIs_b, gIsNot_b, gIs_n, gIsNot_n, pys_nil, gZip_t, List.getElem?_cons_zero, List.getElem?_cons_succ, List.set_cons_zero, List.set_cons_succ, List.map_cons, List.map_nil, List.length_cons, List.length_nil, List.cons_append, List.nil_append, Nat.reduceAdd, Nat.reduceSub, List.replicate_succ, List.replicate_zero, ofInts_len, wipeE, List.take_length, frR_new, decide_true, decide_false, Bool.not_true, Bool.not_false, mDNew_ap, sDput_ap, kD1_ap, kD2_ap, kD3_ap, mGet2_ap, kG2_ap, kG3_ap, mIfT_ap, e', gTupD0, gNe_r0, r2, gTupD1, take_CS]
      rfl
  · refine ⟨r, a1, b1, h, rl, ri, ha1, hb1, ?_⟩
    unfold F__law_some_folds
    rw [runF_ap]
    unfold b__law_some_folds
    simp -implicitDefEqProofs only [bd_ok, bd_no, bd_exc, bdN_ok, bs_ok, bs_exc, mV_ap, getV_ok, mK_ap, m1_ap, m2_ap, k2_ap, k2'_ap, mNil_ap, mCons_ap, kC1_ap, kC2_ap, mCall_ap, mCallI_ap, mItems_ap, gItems_l, gItems_t, mIf_ap, kIf_t, kIf_f, mCB_ap, mAndT_ap, mOrT_ap, mNotT_ap, kNot_ap, mAnd_ap, kAnd_t, kAnd_f, mOr_ap, kOr_t, kOr_f, mNot_ap, kNotV_ap, mB_ap, kB_ap, mFr_ap, frR_py, frR_no, frR_exc, mSl_ap, kS1_ap, kS2_ap, kS3_ap, oNone_ap, oSome_ap, kO_ap, mChain_ap, kH1_ap, kH2_ap, kH3_t, kH3_f, mMeth_ap, kMe2_ap, sSeq_ap, seqK_nx, seqK_rt, seqK_bk, seqK_ct, seqK_exc, seqK_no, sNx_ap, sNo_ap, sEx_ap, kE_ap, sRet_ap, kR_ap, sRetN_ap, sIf_ap, kSI_t, kSI_f, sAs_ap, kA_ap, asK_ok, aN_ap, kA_N, asNil_ap, asCons_ap, kG_ap, asSub_ap, kU1_ap, kU2_ap, sFor_ap, kF_ap, sPar_ap, kP2_ap, sPar3_ap, kP3_ap, endB_nx, endB_rt, endB_exc, endB_no, gAdd_i, gSub_i, gLtI_i, gLe_i, gGt_i, gGe_i, gNeg_i, gIntF_i, gAbs_i, gMax2_i, gMin2_i, gLen_l, gLen_t, gTupF_l, gTupF_t, gSl_t, gRev_t, gIs_b, gIsNot_b, gIs_n, gIsNot_n, pys_nil, gZip_t, List.getElem?_cons_zero, List.getElem?_cons_succ, List.set_cons_zero, List.set_cons_succ, List.map_cons, List.map_nil, List.length_cons, List.length_nil, List.cons_append, List.nil_append, Nat.reduceAdd, Nat.reduceSub, List.replicate_succ, List.replicate_zero, ofInts_len, wipeE, List.take_length, frR_new, decide_true, decide_false, Bool.not_true, Bool.not_false, mDNew_ap, sDput_ap, kD1_ap, kD2_ap, kD3_ap, mGet2_ap, kG2_ap, kG3_ap, mIfT_ap, e', gTupD0, gNe_r0, decide_eq_false h, take_CS]
theorem TB_ (T : Store) (a b : Int) (x0 x2 x3 x4 x5 : Option PX.D) (ha : 0 ≤ a) (hb : 0 ≤ b) : ∃ (a' b' : Int) (y3 y4 y5 : Option PX.D), 0 ≤ a' ∧ 0 ≤ b' ∧ TB [x0, some (.loc 0), x2, x3, x4, x5] (CS a b T) = .go .nx [x0, some (.loc 0), x2, y3, y4, y5] (CS a' b' T) := by
  obtain ⟨r, a1, b1, r0, rl, ri, ha1, hb1, q1⟩ := some_ne T a b ha hb
  obtain ⟨r2, a2, b2, l2, i2, ha2, hb2, q2⟩ := like_ T a1 b1 r r0 (by omega) ri ha1 hb1
  obtain ⟨n, a3, b3, n1, n2, ha3, hb3, q3⟩ := roll a2 b2 3 T ha2 hb2 (by omega) (by omega)
  obtain ⟨nn, rfl⟩ := Int.eq_ofNat_of_zero_le n1
  have r20 : r2 ≠ [] := by
    intro e; subst e
    have := List.length_pos_iff.mpr r0
    simp at l2; omega
  obtain ⟨r4, a4, b4, l4, i4, ha4, hb4, q4⟩ := more_ T a3 b3 100000 nn r2 r20 (by omega) i2 ha3 hb3
  obtain ⟨r5, a5, b5, l5, i5, ha5, hb5, q5⟩ := folds_ T a4 b4 5 (by omega) ha4 hb4
  have q5' : F__law_folds [.loc 0, .py (.int 5)] (CS a4 b4 T) = .ok (RW r5) (CS a5 b5 T) := q5
  have cs := cutL_sub r4 none (some (-1))
  have ec : cutL (ofInts r4) none (some (-1)) = ofInts (cutL r4 none (some (-1))) := cutL_ofInts _ _ _
  generalize cutL r4 none (some (-1)) = r6 at *
  obtain ⟨p, a6, b6, hp, ha6, hb6, q6⟩ := some_ a5 b5 T [.tuple (ofInts r4), .tuple (ofInts r4), .tuple (ofInts r5), .tuple (ofInts r6)] ha5 hb5 (by simp) (by simp)
  have hz : ∃ z : List Int, p = .tuple (ofInts z) ∧ z.length ≤ 12 ∧ InB 1000000 z := by
    have j4 : InB 1000000 r4 := i4.le (by decide)
    simp only [List.mem_cons, List.not_mem_nil, or_false] at hp
    rcases hp with h | h | h | h
    · exact ⟨r4, h, by omega, j4⟩
    · exact ⟨r4, h, by omega, j4⟩
    · exact ⟨r5, h, by omega, i5.le (by decide)⟩
    · exact ⟨r6, h, by omega, fun c hc => j4 c (cs.2 c hc)⟩
  obtain ⟨z, rfl, lz, iz⟩ := hz
  obtain ⟨a7, b7, ha7, hb7, q7⟩ := right_ (a := r) (b := z) T a6 b6 (by omega) lz (ri.le (by decide)) iz ha6 hb6
  refine ⟨a7, b7, some (RW r), some (RW r4), some (RW z), ha7, hb7, ?_⟩
  unfold TB
  have q6' : F__law_some [.loc 0, .py (.list [.tuple (ofInts r4), .tuple (ofInts r4), .tuple (ofInts r5), .tuple (ofInts r6)])] (CS a5 b5 T) = .ok (RW z) (CS a6 b6 T) := q6
  have fr5 : ∀ l, frR (CS a4 b4 T).length (.ok (.loc (CS a5 b5 T).length) (CS a5 b5 T ++ [.lst l])) = .ok (.py (.list l)) (CS a5 b5 T) := fun l => frR_new rfl
  simp -implicitDefEqProofs only [bd_ok, bd_no, bd_exc, bdN_ok, bs_ok, bs_exc, mV_ap, getV_ok, mK_ap, m1_ap, m2_ap, k2_ap, k2'_ap, mNil_ap, mCons_ap, kC1_ap, kC2_ap, mCall_ap, mCallI_ap, mItems_ap, gItems_l, gItems_t, mIf_ap, kIf_t, kIf_f, mCB_ap, mAndT_ap, mOrT_ap, mNotT_ap, kNot_ap, mAnd_ap, kAnd_t, kAnd_f, mOr_ap, kOr_t, kOr_f, mNot_ap, kNotV_ap, mB_ap, kB_ap, mFr_ap, frR_py, frR_no, frR_exc, mSl_ap, kS1_ap, kS2_ap, kS3_ap, oNone_ap, oSome_ap, kO_ap, mChain_ap, kH1_ap, kH2_ap, kH3_t, kH3_f, mMeth_ap, kMe2_ap, sSeq_ap, seqK_nx, seqK_rt, seqK_bk, seqK_ct, seqK_exc, seqK_no, sNx_ap, sNo_ap, sEx_ap, kE_ap, sRet_ap, kR_ap, sRetN_ap, sIf_ap, kSI_t, kSI_f, sAs_ap, kA_ap, asK_ok, aN_ap, kA_N, asNil_ap, asCons_ap, kG_ap, asSub_ap, kU1_ap, kU2_ap, sFor_ap, kF_ap, sPar_ap, kP2_ap, sPar3_ap, kP3_ap, endB_nx, endB_rt, endB_exc, endB_no, gAdd_i, gSub_i, gLtI_i, gLe_i, gGt_i, gGe_i, gNeg_i, gIntF_i, gAbs_i, gMax2_i, gMin2_i, gLen_l, gLen_t, gTupF_l, gTupF_t, gSl_t, gRev_t, gIs_b, gIsNot_b, gIs_n, gIsNot_n, pys_nil, gZip_t, List.getElem?_cons_zero, List.getElem?_cons_succ, List.set_cons_zero, List.set_cons_succ, List.map_cons, List.map_nil, List.length_cons, List.length_nil, List.cons_append, List.nil_append, Nat.reduceAdd, Nat.reduceSub, List.replicate_succ, List.replicate_zero, ofInts_len, wipeE, List.take_length, frR_new, decide_true, decide_false, Bool.not_true, Bool.not_false, mDNew_ap, sDput_ap, kD1_ap, kD2_ap, kD3_ap, mGet2_ap, kG2_ap, kG3_ap, mIfT_ap, q1, q2, q3, q4, q5', ec, gLstD4, fr5, q6', q7]
theorem TBs (x0 : Option PX.D) : ∀ (n : Nat) (k a b : Int) (x2 x3 x4 x5 : Option PX.D), 0 ≤ a → 0 ≤ b → ∃ (a' b' : Int) (y2 y3 y4 y5 : Option PX.D), 0 ≤ a' ∧ 0 ≤ b' ∧ forS (aN 2) TB (rangeL k n) [x0, some (.loc 0), x2, x3, x4, x5] (CS a b []) = .go .nx [x0, some (.loc 0), y2, y3, y4, y5] (CS a' b' [])
  | 0, k, a, b, x2, x3, x4, x5, ha, hb => ⟨a, b, x2, x3, x4, x5, ha, hb, rfl⟩
  | n + 1, k, a, b, x2, x3, x4, x5, ha, hb => by
    obtain ⟨a1, b1, z3, z4, z5, ha1, hb1, e1⟩ := TB_ [] a b x0 (some (.py (.int k))) x3 x4 x5 ha hb
    obtain ⟨a', b', y2, y3, y4, y5, ha', hb', e⟩ := TBs x0 n (k + 1) a1 b1 (some (.py (.int k))) z3 z4 z5 ha1 hb1
    refine ⟨a', b', y2, y3, y4, y5, ha', hb', ?_⟩
    rw [rangeL_succ, forS_nx (env1 := [x0, some (.loc 0), some (.py (.int k)), x3, x4, x5]) aN_ap e1]
    exact e
theorem gTupD4 (a b c d : PyData) (S : Store) : gTupD [.py a, .py b, .py c, .py d] S = .ok (.py (.tuple [a, b, c, d])) S := rfl
theorem dx {a b : List Int} {v : PyData} (S : Store) (hv : told a b = v) (ha : a.length ≤ 12) (hb : b.length ≤ 12) (ia : (a.all fun c => decide (-1000000 ≤ c) && decide (c ≤ 1000000)) = true) (ib : (b.all fun c => decide (-1000000 ≤ c) && decide (c ≤ 1000000)) = true) : F_doublings [RW a, RW b] S = .ok (.py v) S := by
  rw [F_doub a b S ha hb (inb ia) (inb ib), hv]
theorem mul_12 (S : Store) : gMul (.py (.tuple [.int 3])) (.py (.int 12)) S = .ok (.py (.tuple [.int 3, .int 3, .int 3, .int 3, .int 3, .int 3, .int 3, .int 3, .int 3, .int 3, .int 3, .int 3])) S := by
  unfold gMul rd
  exact if_pos rfl
theorem law_true (ns : List Int) (hn : ns.length ≤ 63) : ∃ S', PX.runM 6 LW.b_law [.py (.list (PX.ofInts ns))] [] = .ok (.py (.bool true)) S' := by
  obtain ⟨a, b, ha, hb, q1⟩ := cup_ ns hn
  obtain ⟨a1, b1, x2, x3, x4, x5, ha1, hb1, q2⟩ := TBs (some (.py (.list (ofInts ns)))) 4 0 a b none none none none ha hb
  obtain ⟨a2, b2, ha2, hb2, q3⟩ := right_ (a := [0, 1, 3]) (b := [0, 0, 2, 3]) [] a1 b1 (by decide) (by decide) (inb (by decide)) (inb (by decide)) ha1 hb1
  obtain ⟨a3, b3, ha3, hb3, q4⟩ := right_ (a := [5, 5]) (b := [5]) [] a2 b2 (by decide) (by decide) (inb (by decide)) (inb (by decide)) ha2 hb2
  obtain ⟨a4, b4, ha4, hb4, q5⟩ := right_ (a := []) (b := [2]) [] a3 b3 (by decide) (by decide) (inb (by decide)) (inb (by decide)) ha3 hb3
  obtain ⟨a5, b5, ha5, hb5, q6⟩ := right_ (a := [0, 2]) (b := [0, 4]) [] a4 b4 (by decide) (by decide) (inb (by decide)) (inb (by decide)) ha4 hb4
  refine ⟨CS a5 b5 [], ?_⟩
  rw [runM_ap]
  unfold b_law
  generalize hns : PX.ofInts ns = nl at *
  have h1 : sAs (mCall F__law_cup (mCons (mV 0) mNil)) (aN 1) [some (.py (.list nl)), none, none, none, none, none] [] = .go .nx [some (.py (.list nl)), some (.loc 0), none, none, none, none] (CS a b []) := by simp -implicitDefEqProofs only [bd_ok, bd_no, bd_exc, bdN_ok, bs_ok, bs_exc, mV_ap, getV_ok, mK_ap, m1_ap, m2_ap, k2_ap, k2'_ap, mNil_ap, mCons_ap, kC1_ap, kC2_ap, mCall_ap, mCallI_ap, mItems_ap, gItems_l, gItems_t, mIf_ap, kIf_t, kIf_f, mCB_ap, mAndT_ap, mOrT_ap, mNotT_ap, kNot_ap, mAnd_ap, kAnd_t, kAnd_f, mOr_ap, kOr_t, kOr_f, mNot_ap, kNotV_ap, mB_ap, kB_ap, mFr_ap, frR_py, frR_no, frR_exc, mSl_ap, kS1_ap, kS2_ap, kS3_ap, oNone_ap, oSome_ap, kO_ap, mChain_ap, kH1_ap, kH2_ap, kH3_t, kH3_f, mMeth_ap, kMe2_ap, sSeq_ap, seqK_nx, seqK_rt, seqK_bk, seqK_ct, seqK_exc, seqK_no, sNx_ap, sNo_ap, sEx_ap, kE_ap, sRet_ap, kR_ap, sRetN_ap, sIf_ap, kSI_t, kSI_f, sAs_ap, kA_ap, asK_ok, aN_ap, kA_N, asNil_ap, asCons_ap, kG_ap, asSub_ap, kU1_ap, kU2_ap, sFor_ap, kF_ap, sPar_ap, kP2_ap, sPar3_ap, kP3_ap, endB_nx, endB_rt, endB_exc, endB_no, gAdd_i, gSub_i, gLtI_i, gLe_i, gGt_i, gGe_i, gNeg_i, gIntF_i, gAbs_i, gMax2_i, gMin2_i, gLen_l, gLen_t, gTupF_l, gTupF_t, gSl_t, gRev_t, gIs_b, gIsNot_b, gIs_n, gIsNot_n, pys_nil, gZip_t, List.getElem?_cons_zero, List.getElem?_cons_succ, List.set_cons_zero, List.set_cons_succ, List.map_cons, List.map_nil, List.length_cons, List.length_nil, List.cons_append, List.nil_append, Nat.reduceAdd, Nat.reduceSub, List.replicate_succ, List.replicate_zero, ofInts_len, wipeE, List.take_length, frR_new, decide_true, decide_false, Bool.not_true, Bool.not_false, mDNew_ap, sDput_ap, kD1_ap, kD2_ap, kD3_ap, mGet2_ap, kG2_ap, kG3_ap, mIfT_ap, q1]
  have e0 : ∀ S, gRange1 [.py (.int 4)] S = .ok (rangeL 0 4) S := fun S => rfl
  have h2 : sFor (mCallI gRange1 (mCons (mK (.int 4)) mNil)) (aN 2) TB [some (.py (.list nl)), some (.loc 0), none, none, none, none] (CS a b []) = .go .nx [some (.py (.list nl)), some (.loc 0), x2, x3, x4, x5] (CS a1 b1 []) := by simp -implicitDefEqProofs only [bd_ok, bd_no, bd_exc, bdN_ok, bs_ok, bs_exc, mV_ap, getV_ok, mK_ap, m1_ap, m2_ap, k2_ap, k2'_ap, mNil_ap, mCons_ap, kC1_ap, kC2_ap, mCall_ap, mCallI_ap, mItems_ap, gItems_l, gItems_t, mIf_ap, kIf_t, kIf_f, mCB_ap, mAndT_ap, mOrT_ap, mNotT_ap, kNot_ap, mAnd_ap, kAnd_t, kAnd_f, mOr_ap, kOr_t, kOr_f, mNot_ap, kNotV_ap, mB_ap, kB_ap, mFr_ap, frR_py, frR_no, frR_exc, mSl_ap, kS1_ap, kS2_ap, kS3_ap, oNone_ap, oSome_ap, kO_ap, mChain_ap, kH1_ap, kH2_ap, kH3_t, kH3_f, mMeth_ap, kMe2_ap, sSeq_ap, seqK_nx, seqK_rt, seqK_bk, seqK_ct, seqK_exc, seqK_no, sNx_ap, sNo_ap, sEx_ap, kE_ap, sRet_ap, kR_ap, sRetN_ap, sIf_ap, kSI_t, kSI_f, sAs_ap, kA_ap, asK_ok, aN_ap, kA_N, asNil_ap, asCons_ap, kG_ap, asSub_ap, kU1_ap, kU2_ap, sFor_ap, kF_ap, sPar_ap, kP2_ap, sPar3_ap, kP3_ap, endB_nx, endB_rt, endB_exc, endB_no, gAdd_i, gSub_i, gLtI_i, gLe_i, gGt_i, gGe_i, gNeg_i, gIntF_i, gAbs_i, gMax2_i, gMin2_i, gLen_l, gLen_t, gTupF_l, gTupF_t, gSl_t, gRev_t, gIs_b, gIsNot_b, gIs_n, gIsNot_n, pys_nil, gZip_t, List.getElem?_cons_zero, List.getElem?_cons_succ, List.set_cons_zero, List.set_cons_succ, List.map_cons, List.map_nil, List.length_cons, List.length_nil, List.cons_append, List.nil_append, Nat.reduceAdd, Nat.reduceSub, List.replicate_succ, List.replicate_zero, ofInts_len, wipeE, List.take_length, frR_new, decide_true, decide_false, Bool.not_true, Bool.not_false, mDNew_ap, sDput_ap, kD1_ap, kD2_ap, kD3_ap, mGet2_ap, kG2_ap, kG3_ap, mIfT_ap, e0, q2]
  have d1 : ∀ S, F_doublings [.py (.tuple [.int 0, .int 0, .int 2]), .py (.tuple [.int 0, .int 2])] S = .ok (.py (.int 1)) S := fun S => dx (a := [0, 0, 2]) (b := [0, 2]) S rfl (by decide) (by decide) (by decide) (by decide)
  have d2 : ∀ S, F_doublings [.py (.tuple [.int 0, .int 2]), .py (.tuple [.int 0, .int 2, .int 2, .int 2])] S = .ok (.py (.int (-2))) S := fun S => dx (a := [0, 2]) (b := [0, 2, 2, 2]) S rfl (by decide) (by decide) (by decide) (by decide)
  have d3 : ∀ S, F_doublings [.py (.tuple [.int 0]), .py (.tuple [])] S = .ok (.py .none) S := fun S => dx (a := [0]) (b := []) S rfl (by decide) (by decide) (by decide) (by decide)
  have d4 : ∀ S, F_doublings [.py (.tuple []), .py (.tuple [])] S = .ok (.py (.int 0)) S := fun S => dx (a := []) (b := []) S rfl (by decide) (by decide) (by decide) (by decide)
  have d5 : ∀ S, F_doublings [.py (.tuple [.int 3, .int 3, .int 3, .int 3, .int 3, .int 3, .int 3, .int 3, .int 3, .int 3, .int 3, .int 3]), .py (.tuple [.int 3])] S = .ok (.py (.int 11)) S := fun S => dx (a := [3, 3, 3, 3, 3, 3, 3, 3, 3, 3, 3, 3]) (b := [3]) S rfl (by decide) (by decide) (by decide) (by decide)
  have d6 : ∀ S, F_doublings [.py (.tuple [.int 0, .int 0, .int 1, .int 1]), .py (.tuple [.int 0, .int 1, .int 1, .int 1])] S = .ok (.py (.int 0)) S := fun S => dx (a := [0, 0, 1, 1]) (b := [0, 1, 1, 1]) S rfl (by decide) (by decide) (by decide) (by decide)
  have d7 : ∀ S, F_doublings [.py (.tuple [.int 0, .int 0, .int 1]), .py (.tuple [.int 1, .int 0, .int 0])] S = .ok (.py .none) S := fun S => dx (a := [0, 0, 1]) (b := [1, 0, 0]) S rfl (by decide) (by decide) (by decide) (by decide)
  have n2 : ∀ (i : Int) S, gNe (.py (.int i)) (.py (.int i)) S = .ok (.py (.bool false)) S := fun i S => by rw [gNe_i, decide_eq_true rfl]; rfl
  have n3 : ∀ S, gIsNot (.py .none) (.py .none) S = .ok (.py (.bool false)) S := fun S => rfl
  have q3' : F__law_right [.loc 0, .py (.tuple [.int 0, .int 1, .int 3]), .py (.tuple [.int 0, .int 0, .int 2, .int 3])] (CS a1 b1 []) = .ok (.py (.bool true)) (CS a2 b2 []) := q3
  have q4' : F__law_right [.loc 0, .py (.tuple [.int 5, .int 5]), .py (.tuple [.int 5])] (CS a2 b2 []) = .ok (.py (.bool true)) (CS a3 b3 []) := q4
  have q5' : F__law_right [.loc 0, .py (.tuple []), .py (.tuple [.int 2])] (CS a3 b3 []) = .ok (.py (.bool true)) (CS a4 b4 []) := q5
  have q6' : F__law_right [.loc 0, .py (.tuple [.int 0, .int 2]), .py (.tuple [.int 0, .int 4])] (CS a4 b4 []) = .ok (.py (.bool true)) (CS a5 b5 []) := q6
  show endB (sSeq _ (sSeq (sFor _ _ TB) _) [some (.py (.list nl)), none, none, none, none, none] _) = _
  rw [sSeq_nx h1, sSeq_nx h2]
  simp -implicitDefEqProofs only [bd_ok, bd_no, bd_exc, bdN_ok, bs_ok, bs_exc, mV_ap, getV_ok, mK_ap, m1_ap, m2_ap, k2_ap, k2'_ap, mNil_ap, mCons_ap, kC1_ap, kC2_ap, mCall_ap, mCallI_ap, mItems_ap, gItems_l, gItems_t, mIf_ap, kIf_t, kIf_f, mCB_ap, mAndT_ap, mOrT_ap, mNotT_ap, kNot_ap, mAnd_ap, kAnd_t, kAnd_f, mOr_ap, kOr_t, kOr_f, mNot_ap, kNotV_ap, mB_ap, kB_ap, mFr_ap, frR_py, frR_no, frR_exc, mSl_ap, kS1_ap, kS2_ap, kS3_ap, oNone_ap, oSome_ap, kO_ap, mChain_ap, kH1_ap, kH2_ap, kH3_t, kH3_f, mMeth_ap, kMe2_ap, sSeq_ap, seqK_nx, seqK_rt, seqK_bk, seqK_ct, seqK_exc, seqK_no, sNx_ap, sNo_ap, sEx_ap, kE_ap, sRet_ap, kR_ap, sRetN_ap, sIf_ap, kSI_t, kSI_f, sAs_ap, kA_ap, asK_ok, aN_ap, kA_N, asNil_ap, asCons_ap, kG_ap, asSub_ap, kU1_ap, kU2_ap, sFor_ap, kF_ap, sPar_ap, kP2_ap, sPar3_ap, kP3_ap, endB_nx, endB_rt, endB_exc, endB_no, gAdd_i, gSub_i, gLtI_i, gLe_i, gGt_i, gGe_i, gNeg_i, gIntF_i, gAbs_i, gMax2_i, gMin2_i, gLen_l, gLen_t, gTupF_l, gTupF_t, gSl_t, gRev_t, gIs_b, gIsNot_b, gIs_n, gIsNot_n, pys_nil, gZip_t, List.getElem?_cons_zero, List.getElem?_cons_succ, List.set_cons_zero, List.set_cons_succ, List.map_cons, List.map_nil, List.length_cons, List.length_nil, List.cons_append, List.nil_append, Nat.reduceAdd, Nat.reduceSub, List.replicate_succ, List.replicate_zero, ofInts_len, wipeE, List.take_length, frR_new, decide_true, decide_false, Bool.not_true, Bool.not_false, mDNew_ap, sDput_ap, kD1_ap, kD2_ap, kD3_ap, mGet2_ap, kG2_ap, kG3_ap, mIfT_ap, gTupD0, gTupD1, gTupD2, gTupD3, gTupD4, d1, d2, d3, d4, d5, d6, d7, n2, n3, isNone, mul_12, q3', q4', q5', q6']
end LW

end P_Q11
section P_B
set_option maxHeartbeats 4000000
namespace LW
open PySem PySem.Spec PyProof.Rows L2 PX
def top (i : Nat) : Stmt := PySem.Challenge.pw_wetfolds_k16_whole_rows_that_double_othe.main.body.getD i (.Pass ⟨0, 0, 0, 0⟩)
structure Zs (mg : Str → Option Value) : Prop where
  z_abs : mg "abs" = none
  z_all : mg "all" = none
  z_bool : mg "bool" = none
  z_int : mg "int" = none
  z_isinstance : mg "isinstance" = none
  z_len : mg "len" = none
  z_list : mg "list" = none
  z_max : mg "max" = none
  z_range : mg "range" = none
  z_sorted : mg "sorted" = none
  z_tuple : mg "tuple" = none
  z_zip : mg "zip" = none
  i_GREATEST_CREASE : ∃ t, mg "GREATEST_CREASE" = some (.int 1000000 t)
  i_MOST_FOLDS : ∃ t, mg "MOST_FOLDS" = some (.int 12 t)
section
variable {P : Program} {w : World} {K : PySem.W.Frag} {mg : Str → Option Value} {base : Heap}
abbrev s__law_cup : Stmt := top 22
theorem sc__law_cup : FnScope ["_law_script", "_law_cell"] ["_law_script"] (defScope s__law_cup) := ⟨rfl, rfl, rfl, by decide +kernel, rfl, by decide +kernel, by decide +kernel⟩
theorem ok__law_cup (Z : Zs mg) {f : Addr} (F : ∃ fd, FunD K "_law_cup" "_law_cup" (defArgs s__law_cup) (defBody s__law_cup) (defScope s__law_cup) [] [] f fd) (hm : mg "_law_cup" = some (.ref f)) : DefOk P w K mg base 1 "_law_cup" ["_law_script"] F__law_cup := by
  have sc := sc__law_cup
  refine def_mk (k := 0) (N := ["_law_script", "_law_cell"]) (ps := ["_law_script"]) (b := b__law_cup) F sc hm (fun _ _ _ _ _ _ us hl => match us, hl with | [_], _ => rfl) fun cdv A outer s H E hr => ?_
  have tk : Takes (cxOf (L2.CX P w) P w K mg base ["_law_script", "_law_cell"] "_law_cup" (defScope s__law_cup) f cdv A outer s H E) (fun c o _ H' => E c o H') := takes_of rfl rfl rfl rfl
  exact (sss_cons (ss_set (ps_set (i := 1) sc.nd rfl (by first | exact Or.inl rfl | exact Or.inr rfl) (se_callB call_abs cd_abs (by rfl) Z.z_abs (by decide +kernel) (sa_cons (se_ix (se_fr (se_op op_addA od_add (se_fr (se_callTy call_list_of cd_lst (by rfl) Z.z_list (by decide +kernel) (sa_cons (se_var (pv 0)) sa_nil))) (se_fr (se_lst (sa_cons (se_c (p := (.int 0)) rfl pe_int) sa_nil))))) (se_c (p := (.int 0)) rfl pe_int)) sa_nil))))
  (sss_one (ss_ret (se_lst (sa_cons (se_if (st_cmp op_ge od_ge (se_var (pv 1)) (se_op op_pow od_pow (se_c (p := (.int 10)) rfl pe_int) (se_c (p := (.int 18)) rfl pe_int)) (nomark _)) (se_op op_fdivW od_div (se_var (pv 1)) (se_c (p := (.int 37)) rfl pe_int)) (se_c (p := (.int 0)) rfl pe_int)) (sa_cons (se_op op_addA od_add (se_op op_mod od_mod (se_callTy call_int1 cd_int (by rfl) Z.z_int (by decide +kernel) (sa_cons (se_op op_addA od_add (se_op op_mulA od_mul (se_var (pv 1)) (se_c (p := (.int 239)) rfl pe_int)) (se_c (p := (.int 1913)) rfl pe_int)) sa_nil)) (se_c (p := (.int 2077503509)) rfl pe_int)) (se_c (p := (.int 127)) rfl pe_int)) sa_nil))))))
abbrev s__law_roll : Stmt := top 23
theorem sc__law_roll : FnScope ["_law_cup_here", "_law_many", "_law_found", "_law_deep"] ["_law_cup_here", "_law_many"] (defScope s__law_roll) := ⟨rfl, rfl, rfl, by decide +kernel, rfl, by decide +kernel, by decide +kernel⟩
theorem ok__law_roll (Z : Zs mg) {f : Addr} (F : ∃ fd, FunD K "_law_roll" "_law_roll" (defArgs s__law_roll) (defBody s__law_roll) (defScope s__law_roll) [] [] f fd) (hm : mg "_law_roll" = some (.ref f)) : DefOk P w K mg base 1 "_law_roll" ["_law_cup_here", "_law_many"] F__law_roll := by
  have sc := sc__law_roll
  refine DefOk.fr (N := 4) (b := b__law_roll) (def_mk (k := 0) (N := ["_law_cup_here", "_law_many", "_law_found", "_law_deep"]) (ps := ["_law_cup_here", "_law_many"]) (b := b__law_roll) F sc hm (fun _ _ _ _ _ _ us hl => match us, hl with | [_, _], _ => rfl) fun cdv A outer s H E hr => ?_)
  have tk : Takes (cxOf (L2.CX P w) P w K mg base ["_law_cup_here", "_law_many", "_law_found", "_law_deep"] "_law_roll" (defScope s__law_roll) f cdv A outer s H E) (fun c o _ H' => E c o H') := takes_of rfl rfl rfl rfl
  exact (sss_cons (ss_if (st_cmp op_gt od_gt (se_ix (se_var (pv 0)) (se_c (p := (.int 0)) rfl pe_int)) (se_c (p := (.int 0)) rfl pe_int) (nomark _)) (sss_cons (ss_set (ps_set (i := 2) sc.nd rfl (by first | exact Or.inl rfl | exact Or.inr rfl) (se_op op_mod od_mod (se_callTy call_int1 cd_int (by rfl) Z.z_int (by decide +kernel) (sa_cons (se_ix (se_var (pv 0)) (se_c (p := (.int 0)) rfl pe_int)) sa_nil)) (se_var (pv 1)))))
  (sss_cons (ss_asg (se_op op_fdivW od_div (se_ix (se_var (pv 0)) (se_c (p := (.int 0)) rfl pe_int)) (se_var (pv 1))) (sg_sub (se_var (pv 0)) (se_c (p := (.int 0)) rfl pe_int)))
  (sss_one (ss_ret (se_var (pv 2)))))) sss_nil)
  (sss_cons (ss_asg (se_op op_mod od_mod (se_callTy call_int1 cd_int (by rfl) Z.z_int (by decide +kernel) (sa_cons (se_op op_addA od_add (se_op op_mulA od_mul (se_ix (se_var (pv 0)) (se_c (p := (.int 1)) rfl pe_int)) (se_c (p := (.int 30949)) rfl pe_int)) (se_c (p := (.int 7919)) rfl pe_int)) sa_nil)) (se_c (p := (.int 2147483497)) rfl pe_int)) (sg_sub (se_var (pv 0)) (se_c (p := (.int 1)) rfl pe_int)))
  (sss_cons (ss_set (ps_set (i := 3) sc.nd rfl (by first | exact Or.inl rfl | exact Or.inr rfl) (se_op op_mod od_mod (se_callTy call_int1 cd_int (by rfl) Z.z_int (by decide +kernel) (sa_cons (se_op op_mulA od_mul (se_ix (se_var (pv 0)) (se_c (p := (.int 1)) rfl pe_int)) (se_op op_addA od_add (se_ix (se_var (pv 0)) (se_c (p := (.int 1)) rfl pe_int)) (se_c (p := (.int 191)) rfl pe_int))) sa_nil)) (se_c (p := (.int 2147483587)) rfl pe_int))))
  (sss_one (ss_ret (se_op op_mod od_mod (se_callTy call_int1 cd_int (by rfl) Z.z_int (by decide +kernel) (sa_cons (se_op op_fdivW od_div (se_var (pv 3)) (se_c (p := (.int 761)) rfl pe_int)) sa_nil)) (se_var (pv 1))))))))
abbrev s__law_some : Stmt := top 24
theorem sc__law_some : FnScope ["_law_cup_here", "_law_things"] ["_law_cup_here", "_law_things"] (defScope s__law_some) := ⟨rfl, rfl, rfl, by decide +kernel, rfl, by decide +kernel, by decide +kernel⟩
theorem ok__law_some (Z : Zs mg) (G__law_roll : DefOk P w K mg base 1 "_law_roll" ["_law_cup_here", "_law_many"] F__law_roll) {f : Addr} (F : ∃ fd, FunD K "_law_some" "_law_some" (defArgs s__law_some) (defBody s__law_some) (defScope s__law_some) [] [] f fd) (hm : mg "_law_some" = some (.ref f)) : DefOk P w K mg base 2 "_law_some" ["_law_cup_here", "_law_things"] F__law_some := by
  have sc := sc__law_some
  refine DefOk.fr (N := 2) (b := b__law_some) (def_mk (k := 1) (N := ["_law_cup_here", "_law_things"]) (ps := ["_law_cup_here", "_law_things"]) (b := b__law_some) F sc hm (fun _ _ _ _ _ _ us hl => match us, hl with | [_, _], _ => rfl) fun cdv A outer s H E hr => ?_)
  have tk : Takes (cxOf (L2.CX P w) P w K mg base ["_law_cup_here", "_law_things"] "_law_some" (defScope s__law_some) f cdv A outer s H E) (fun c o _ H' => E c o H') := takes_of rfl rfl rfl rfl
  exact (sss_one (ss_ret (se_ix (se_var (pv 1)) (se_def G__law_roll hr (by decide) (by rfl) tk (len_cons (len_cons len_nil)) (sa_cons (se_var (pv 0)) (sa_cons (se_callB call_len cd_len (by rfl) Z.z_len (by decide +kernel) (sa_cons (se_var (pv 1)) sa_nil)) sa_nil))))))
abbrev s__law_folds : Stmt := top 33
theorem sc__law_folds : FnScope ["_law_cup_here", "_law_most", "_law_many", "_law_found", "_law_step", "_law_way", "_law_turn"] ["_law_cup_here", "_law_most"] (defScope s__law_folds) := ⟨rfl, rfl, rfl, by decide +kernel, rfl, by decide +kernel, by decide +kernel⟩
theorem ok__law_folds (Z : Zs mg) (G__law_roll : DefOk P w K mg base 1 "_law_roll" ["_law_cup_here", "_law_many"] F__law_roll) (G__law_some : DefOk P w K mg base 2 "_law_some" ["_law_cup_here", "_law_things"] F__law_some) {f : Addr} (F : ∃ fd, FunD K "_law_folds" "_law_folds" (defArgs s__law_folds) (defBody s__law_folds) (defScope s__law_folds) [] [] f fd) (hm : mg "_law_folds" = some (.ref f)) : DefOk P w K mg base 3 "_law_folds" ["_law_cup_here", "_law_most"] F__law_folds := by
  have sc := sc__law_folds
  refine DefOk.fr (N := 7) (b := b__law_folds) (def_mk (k := 2) (N := ["_law_cup_here", "_law_most", "_law_many", "_law_found", "_law_step", "_law_way", "_law_turn"]) (ps := ["_law_cup_here", "_law_most"]) (b := b__law_folds) F sc hm (fun _ _ _ _ _ _ us hl => match us, hl with | [_, _], _ => rfl) fun cdv A outer s H E hr => ?_)
  have tk : Takes (cxOf (L2.CX P w) P w K mg base ["_law_cup_here", "_law_most", "_law_many", "_law_found", "_law_step", "_law_way", "_law_turn"] "_law_folds" (defScope s__law_folds) f cdv A outer s H E) (fun c o _ H' => E c o H') := takes_of rfl rfl rfl rfl
  exact (sss_cons (ss_set (ps_set (i := 2) sc.nd rfl (by first | exact Or.inl rfl | exact Or.inr rfl) (se_def G__law_roll hr (by decide) (by rfl) tk (len_cons (len_cons len_nil)) (sa_cons (se_var (pv 0)) (sa_cons (se_op op_addA od_add (se_var (pv 1)) (se_c (p := (.int 1)) rfl pe_int)) sa_nil)))))
  (sss_cons (ss_par (ps_par rfl sc.nd (i := 3) (j := 4) rfl rfl (by decide) rfl rfl (sa_cons (se_tup (sa_cons (se_op op_sub od_sub (se_def G__law_roll hr (by decide) (by rfl) tk (len_cons (len_cons len_nil)) (sa_cons (se_var (pv 0)) (sa_cons (se_c (p := (.int 15)) rfl pe_int) sa_nil))) (se_c (p := (.int 7)) rfl pe_int)) sa_nil)) (sa_cons (se_op op_addA od_add (se_c (p := (.int 1)) rfl pe_int) (se_def G__law_roll hr (by decide) (by rfl) tk (len_cons (len_cons len_nil)) (sa_cons (se_var (pv 0)) (sa_cons (se_c (p := (.int 4)) rfl pe_int) sa_nil)))) sa_nil)) (by rfl)))
  (sss_cons (ss_while (n := wf) (passes_of rfl) (st_cmp op_lt od_ltI (se_callB call_len cd_len (by rfl) Z.z_len (by decide +kernel) (sa_cons (se_var (pv 3)) sa_nil)) (se_var (pv 2)) (nomark _)) (sss_cons (ss_set (ps_set (i := 5) sc.nd rfl (by first | exact Or.inl rfl | exact Or.inr rfl) (se_def G__law_roll hr (by decide) (by rfl) tk (len_cons (len_cons len_nil)) (sa_cons (se_var (pv 0)) (sa_cons (se_c (p := (.int 8)) rfl pe_int) sa_nil)))))
  (sss_cons (ss_if (st_cmp op_gt od_gt (se_var (pv 5)) (se_c (p := (.int 3)) rfl pe_int) (nomark _)) (sss_one (ss_set (ps_set (i := 4) sc.nd rfl (by first | exact Or.inl rfl | exact Or.inr rfl) (se_def G__law_some hr (by decide) (by rfl) tk (len_cons (len_cons len_nil)) (sa_cons (se_var (pv 0)) (sa_cons (se_fr (se_lst (sa_cons (se_c (p := (.int 1)) rfl pe_int) (sa_cons (se_c (p := (.int 2)) rfl pe_int) (sa_cons (se_c (p := (.int 3)) rfl pe_int) (sa_cons (se_c (p := (.int 4)) rfl pe_int) (sa_cons (se_c (p := (.int 6)) rfl pe_int) (sa_cons (se_c (p := (.int 7)) rfl pe_int) (sa_cons (se_c (p := (.int 10)) rfl pe_int) sa_nil))))))))) sa_nil)))))) sss_nil)
  (sss_cons (ss_set (ps_set (i := 6) sc.nd rfl (by first | exact Or.inl rfl | exact Or.inr rfl) (se_def G__law_some hr (by decide) (by rfl) tk (len_cons (len_cons len_nil)) (sa_cons (se_var (pv 0)) (sa_cons (se_fr (se_lst (sa_cons (se_var (pv 4)) (sa_cons (se_un un_neg ud_neg (se_var (pv 4))) (sa_cons (se_var (pv 4)) (sa_cons (se_if (st_cmp (op_eqD hr.units) od_eq (se_var (pv 5)) (se_c (p := (.int 0)) rfl pe_int) (nomark _)) (se_c (p := (.int 0)) rfl pe_int) (se_un un_neg ud_neg (se_var (pv 4)))) sa_nil)))))) sa_nil)))))
  (sss_one (ss_set (ps_set (i := 3) sc.nd rfl (by first | exact Or.inl rfl | exact Or.inr rfl) (se_op op_addA od_add (se_var (pv 3)) (se_tup (sa_cons (se_fr (se_op op_addA od_add (se_ix (se_var (pv 3)) (se_un un_neg ud_neg (se_c (p := (.int 1)) rfl pe_int))) (se_var (pv 6)))) sa_nil))))))))))
  (sss_one (ss_ret (se_fr (se_sl (se_var (pv 3)) so_none (so_some (se_var (pv 2))))))))))
abbrev s__law_some_folds : Stmt := top 34
theorem sc__law_some_folds : FnScope ["_law_cup_here", "_law_most", "_law_found"] ["_law_cup_here", "_law_most"] (defScope s__law_some_folds) := ⟨rfl, rfl, rfl, by decide +kernel, rfl, by decide +kernel, by decide +kernel⟩
theorem ok__law_some_folds (Z : Zs mg) (G__law_roll : DefOk P w K mg base 1 "_law_roll" ["_law_cup_here", "_law_many"] F__law_roll) (G__law_folds : DefOk P w K mg base 3 "_law_folds" ["_law_cup_here", "_law_most"] F__law_folds) {f : Addr} (F : ∃ fd, FunD K "_law_some_folds" "_law_some_folds" (defArgs s__law_some_folds) (defBody s__law_some_folds) (defScope s__law_some_folds) [] [] f fd) (hm : mg "_law_some_folds" = some (.ref f)) : DefOk P w K mg base 4 "_law_some_folds" ["_law_cup_here", "_law_most"] F__law_some_folds := by
  have sc := sc__law_some_folds
  refine DefOk.fr (N := 3) (b := b__law_some_folds) (def_mk (k := 3) (N := ["_law_cup_here", "_law_most", "_law_found"]) (ps := ["_law_cup_here", "_law_most"]) (b := b__law_some_folds) F sc hm (fun _ _ _ _ _ _ us hl => match us, hl with | [_, _], _ => rfl) fun cdv A outer s H E hr => ?_)
  have tk : Takes (cxOf (L2.CX P w) P w K mg base ["_law_cup_here", "_law_most", "_law_found"] "_law_some_folds" (defScope s__law_some_folds) f cdv A outer s H E) (fun c o _ H' => E c o H') := takes_of rfl rfl rfl rfl
  exact (sss_cons (ss_set (ps_set (i := 2) sc.nd rfl (by first | exact Or.inl rfl | exact Or.inr rfl) (se_def G__law_folds hr (by decide) (by rfl) tk (len_cons (len_cons len_nil)) (sa_cons (se_var (pv 0)) (sa_cons (se_var (pv 1)) sa_nil)))))
  (sss_one (ss_ret (se_if (st_cmp (op_neD hr.units) od_ne (se_var (pv 2)) (se_tup sa_nil) (nomark _)) (se_var (pv 2)) (se_tup (sa_cons (se_op op_sub od_sub (se_def G__law_roll hr (by decide) (by rfl) tk (len_cons (len_cons len_nil)) (sa_cons (se_var (pv 0)) (sa_cons (se_c (p := (.int 15)) rfl pe_int) sa_nil))) (se_c (p := (.int 7)) rfl pe_int)) sa_nil))))))
abbrev s__law_more : Stmt := top 41
theorem sc__law_more : FnScope ["_law_cup_here", "_law_folds_here", "_law_many", "_law_turn", "_law_at"] ["_law_cup_here", "_law_folds_here", "_law_many"] (defScope s__law_more) := ⟨rfl, rfl, rfl, by decide +kernel, rfl, by decide +kernel, by decide +kernel⟩
theorem ok__law_more (Z : Zs mg) (G__law_roll : DefOk P w K mg base 1 "_law_roll" ["_law_cup_here", "_law_many"] F__law_roll) {f : Addr} (F : ∃ fd, FunD K "_law_more" "_law_more" (defArgs s__law_more) (defBody s__law_more) (defScope s__law_more) [] [] f fd) (hm : mg "_law_more" = some (.ref f)) : DefOk P w K mg base 2 "_law_more" ["_law_cup_here", "_law_folds_here", "_law_many"] F__law_more := by
  have sc := sc__law_more
  refine DefOk.fr (N := 5) (b := b__law_more) (def_mk (k := 1) (N := ["_law_cup_here", "_law_folds_here", "_law_many", "_law_turn", "_law_at"]) (ps := ["_law_cup_here", "_law_folds_here", "_law_many"]) (b := b__law_more) F sc hm (fun _ _ _ _ _ _ us hl => match us, hl with | [_, _, _], _ => rfl) fun cdv A outer s H E hr => ?_)
  have tk : Takes (cxOf (L2.CX P w) P w K mg base ["_law_cup_here", "_law_folds_here", "_law_many", "_law_turn", "_law_at"] "_law_more" (defScope s__law_more) f cdv A outer s H E) (fun c o _ H' => E c o H') := takes_of rfl rfl rfl rfl
  exact (sss_cons (ss_for (passes_of rfl) rfl (si_range1 (by rfl) Z.z_range (sa_cons (se_var (pv 2)) sa_nil)) (sg_name (pg_name (i := 3) sc.nd rfl (by first | exact Or.inl rfl | exact Or.inr rfl))) (sss_cons (ss_set (ps_set (i := 4) sc.nd rfl (by first | exact Or.inl rfl | exact Or.inr rfl) (se_def G__law_roll hr (by decide) (by rfl) tk (len_cons (len_cons len_nil)) (sa_cons (se_var (pv 0)) (sa_cons (se_callB call_len cd_len (by rfl) Z.z_len (by decide +kernel) (sa_cons (se_var (pv 1)) sa_nil)) sa_nil)))))
  (sss_one (ss_set (ps_set (i := 1) sc.nd rfl (by first | exact Or.inl rfl | exact Or.inr rfl) (se_op op_addA od_add (se_op op_addA od_add (se_fr (se_sl (se_var (pv 1)) so_none (so_some (se_var (pv 4))))) (se_tup (sa_cons (se_ix (se_var (pv 1)) (se_var (pv 4))) sa_nil))) (se_fr (se_sl (se_var (pv 1)) (so_some (se_var (pv 4))) so_none))))))))
  (sss_one (ss_ret (se_var (pv 1)))))
abbrev s_is_tuple_up_to : Stmt := top 9
theorem sc_is_tuple_up_to : FnScope ["value", "most"] ["value", "most"] (defScope s_is_tuple_up_to) := ⟨rfl, rfl, rfl, by decide +kernel, rfl, by decide +kernel, by decide +kernel⟩
theorem ok_is_tuple_up_to (Z : Zs mg) {f : Addr} (F : ∃ fd, FunD K "is_tuple_up_to" "is_tuple_up_to" (defArgs s_is_tuple_up_to) (defBody s_is_tuple_up_to) (defScope s_is_tuple_up_to) [] [] f fd) (hm : mg "is_tuple_up_to" = some (.ref f)) : DefOk P w K mg base 1 "is_tuple_up_to" ["value", "most"] F_is_tuple_up_to := by
  have sc := sc_is_tuple_up_to
  refine DefOk.fr (N := 2) (b := b_is_tuple_up_to) (def_mk (k := 0) (N := ["value", "most"]) (ps := ["value", "most"]) (b := b_is_tuple_up_to) F sc hm (fun _ _ _ _ _ _ us hl => match us, hl with | [_, _], _ => rfl) fun cdv A outer s H E hr => ?_)
  have tk : Takes (cxOf (L2.CX P w) P w K mg base ["value", "most"] "is_tuple_up_to" (defScope s_is_tuple_up_to) f cdv A outer s H E) (fun c o _ H' => E c o H') := takes_of rfl rfl rfl rfl
  exact (sss_one (ss_ret (se_and (se_isI (by rfl) Z.z_isinstance (se_var (pv 0)) (pe_bltn (by rfl) Z.z_tuple (by decide +kernel) rfl)) (se_one (se_cmp op_le od_le (se_callB call_len cd_len (by rfl) Z.z_len (by decide +kernel) (sa_cons (se_var (pv 0)) sa_nil)) (se_var (pv 1)) (nomark _))))))
abbrev s_is_whole : Stmt := top 6
theorem sc_is_whole : FnScope ["value"] ["value"] (defScope s_is_whole) := ⟨rfl, rfl, rfl, by decide +kernel, rfl, by decide +kernel, by decide +kernel⟩
theorem ok_is_whole (Z : Zs mg) {f : Addr} (F : ∃ fd, FunD K "is_whole" "is_whole" (defArgs s_is_whole) (defBody s_is_whole) (defScope s_is_whole) [] [] f fd) (hm : mg "is_whole" = some (.ref f)) : DefOk P w K mg base 1 "is_whole" ["value"] F_is_whole := by
  have sc := sc_is_whole
  refine DefOk.fr (N := 1) (b := b_is_whole) (def_mk (k := 0) (N := ["value"]) (ps := ["value"]) (b := b_is_whole) F sc hm (fun _ _ _ _ _ _ us hl => match us, hl with | [_], _ => rfl) fun cdv A outer s H E hr => ?_)
  have tk : Takes (cxOf (L2.CX P w) P w K mg base ["value"] "is_whole" (defScope s_is_whole) f cdv A outer s H E) (fun c o _ H' => E c o H') := takes_of rfl rfl rfl rfl
  exact (sss_one (ss_ret (se_and (se_isI (by rfl) Z.z_isinstance (se_var (pv 0)) (pe_bltn (by rfl) Z.z_int (by decide +kernel) rfl)) (se_one (se_not (se_isI (by rfl) Z.z_isinstance (se_var (pv 0)) (pe_bltn (by rfl) Z.z_bool (by decide +kernel) rfl)))))))
abbrev s_is_from_to : Stmt := top 7
theorem sc_is_from_to : FnScope ["value", "least", "greatest"] ["value", "least", "greatest"] (defScope s_is_from_to) := ⟨rfl, rfl, rfl, by decide +kernel, rfl, by decide +kernel, by decide +kernel⟩
theorem ok_is_from_to (Z : Zs mg) (G_is_whole : DefOk P w K mg base 1 "is_whole" ["value"] F_is_whole) {f : Addr} (F : ∃ fd, FunD K "is_from_to" "is_from_to" (defArgs s_is_from_to) (defBody s_is_from_to) (defScope s_is_from_to) [] [] f fd) (hm : mg "is_from_to" = some (.ref f)) : DefOk P w K mg base 2 "is_from_to" ["value", "least", "greatest"] F_is_from_to := by
  have sc := sc_is_from_to
  refine DefOk.fr (N := 3) (b := b_is_from_to) (def_mk (k := 1) (N := ["value", "least", "greatest"]) (ps := ["value", "least", "greatest"]) (b := b_is_from_to) F sc hm (fun _ _ _ _ _ _ us hl => match us, hl with | [_, _, _], _ => rfl) fun cdv A outer s H E hr => ?_)
  have tk : Takes (cxOf (L2.CX P w) P w K mg base ["value", "least", "greatest"] "is_from_to" (defScope s_is_from_to) f cdv A outer s H E) (fun c o _ H' => E c o H') := takes_of rfl rfl rfl rfl
  exact (sss_one (ss_ret (se_and (se_def G_is_whole hr (by decide) (by rfl) tk (len_cons len_nil) (sa_cons (se_var (pv 0)) sa_nil)) (se_one (se_chain op_le op_le od_le od_le gI_noexc (se_var (pv 1)) (se_var (pv 0)) (se_var (pv 2)) (fun _ _ _ h1 h2 h3 => pe_chain op_le op_le h1 h2 h3))))))
abbrev s_is_crease : Stmt := top 8
theorem sc_is_crease : FnScope ["value"] ["value"] (defScope s_is_crease) := ⟨rfl, rfl, rfl, by decide +kernel, rfl, by decide +kernel, by decide +kernel⟩
theorem ok_is_crease (Z : Zs mg) (G_is_from_to : DefOk P w K mg base 2 "is_from_to" ["value", "least", "greatest"] F_is_from_to) {f : Addr} (F : ∃ fd, FunD K "is_crease" "is_crease" (defArgs s_is_crease) (defBody s_is_crease) (defScope s_is_crease) [] [] f fd) (hm : mg "is_crease" = some (.ref f)) : DefOk P w K mg base 3 "is_crease" ["value"] F_is_crease := by
  have sc := sc_is_crease
  refine DefOk.fr (N := 1) (b := b_is_crease) (def_mk (k := 2) (N := ["value"]) (ps := ["value"]) (b := b_is_crease) F sc hm (fun _ _ _ _ _ _ us hl => match us, hl with | [_], _ => rfl) fun cdv A outer s H E hr => ?_)
  have tk : Takes (cxOf (L2.CX P w) P w K mg base ["value"] "is_crease" (defScope s_is_crease) f cdv A outer s H E) (fun c o _ H' => E c o H') := takes_of rfl rfl rfl rfl
  exact (sss_one (ss_ret (se_def G_is_from_to hr (by decide) (by rfl) tk (len_cons (len_cons (len_cons len_nil))) (sa_cons (se_var (pv 0)) (sa_cons (se_un un_neg ud_neg (se_gint (by rfl) Z.i_GREATEST_CREASE)) (sa_cons (se_gint (by rfl) Z.i_GREATEST_CREASE) sa_nil))))))
abbrev s_fits_folds : Stmt := top 10
theorem sc_fits_folds : FnScope ["value", "item"] ["value"] (defScope s_fits_folds) := ⟨rfl, rfl, rfl, by decide +kernel, rfl, by decide +kernel, by decide +kernel⟩
theorem ok_fits_folds (Z : Zs mg) (G_is_tuple_up_to : DefOk P w K mg base 1 "is_tuple_up_to" ["value", "most"] F_is_tuple_up_to) (G_is_crease : DefOk P w K mg base 3 "is_crease" ["value"] F_is_crease) {f : Addr} (F : ∃ fd, FunD K "fits_folds" "fits_folds" (defArgs s_fits_folds) (defBody s_fits_folds) (defScope s_fits_folds) [] [] f fd) (hm : mg "fits_folds" = some (.ref f)) : DefOk P w K mg base 4 "fits_folds" ["value"] F_fits_folds := by
  have sc := sc_fits_folds
  refine DefOk.fr (N := 2) (b := b_fits_folds) (def_mk (k := 3) (N := ["value", "item"]) (ps := ["value"]) (b := b_fits_folds) F sc hm (fun _ _ _ _ _ _ us hl => match us, hl with | [_], _ => rfl) fun cdv A outer s H E hr => ?_)
  have tk : Takes (cxOf (L2.CX P w) P w K mg base ["value", "item"] "fits_folds" (defScope s_fits_folds) f cdv A outer s H E) (fun c o _ H' => E c o H') := takes_of rfl rfl rfl rfl
  exact (sss_one (ss_ret (se_and (se_def G_is_tuple_up_to hr (by decide) (by rfl) tk (len_cons (len_cons len_nil)) (sa_cons (se_var (pv 0)) (sa_cons (se_gint (by rfl) Z.i_MOST_FOLDS) sa_nil))) (se_one (se_callB (cr_all rfl) cd_all (by rfl) Z.z_all (by decide +kernel) (sa_cons (se_fr (se_lcv [("item", 1)] rfl sc.nd (si_seq (se_var (pv 0))) (blkOk_by (N := ["value", "item"]) (sc := defScope s_fits_folds) (by decide +kernel)) (fun _ _ _ _ _ => (sg_name (pg_name (i := 1) sc.nd rfl (by first | exact Or.inl rfl | exact Or.inr rfl)))) (fun _ _ _ _ _ => spt_nil) (fun _ _ _ _ _ => (se_def G_is_crease hr (by decide) (by rfl) takes0 (len_cons len_nil) (sa_cons (se_var (pv 1)) sa_nil))))) sa_nil))))))
abbrev s_check_folds : Stmt := top 11
theorem sc_check_folds : FnScope ["value"] ["value"] (defScope s_check_folds) := ⟨rfl, rfl, rfl, by decide +kernel, rfl, by decide +kernel, by decide +kernel⟩
theorem ok_check_folds (Z : Zs mg) (G_fits_folds : DefOk P w K mg base 4 "fits_folds" ["value"] F_fits_folds) {f : Addr} (F : ∃ fd, FunD K "check_folds" "check_folds" (defArgs s_check_folds) (defBody s_check_folds) (defScope s_check_folds) [] [] f fd) (hm : mg "check_folds" = some (.ref f)) : DefOk P w K mg base 5 "check_folds" ["value"] F_check_folds := by
  have sc := sc_check_folds
  refine DefOk.fr (N := 1) (b := b_check_folds) (def_mk (k := 4) (N := ["value"]) (ps := ["value"]) (b := b_check_folds) F sc hm (fun _ _ _ _ _ _ us hl => match us, hl with | [_], _ => rfl) fun cdv A outer s H E hr => ?_)
  have tk : Takes (cxOf (L2.CX P w) P w K mg base ["value"] "check_folds" (defScope s_check_folds) f cdv A outer s H E) (fun c o _ H' => E c o H') := takes_of rfl rfl rfl rfl
  exact (sss_one (ss_if (st_not (st_val (se_def G_fits_folds hr (by decide) (by rfl) tk (len_cons len_nil) (sa_cons (se_var (pv 0)) sa_nil)))) (sss_one ss_never) sss_nil))
abbrev s_steps_between : Stmt := top 13
theorem sc_steps_between : FnScope ["folds", "crease", "further"] ["folds"] (defScope s_steps_between) := ⟨rfl, rfl, rfl, by decide +kernel, rfl, by decide +kernel, by decide +kernel⟩
theorem ok_steps_between (Z : Zs mg) {f : Addr} (F : ∃ fd, FunD K "steps_between" "steps_between" (defArgs s_steps_between) (defBody s_steps_between) (defScope s_steps_between) [] [] f fd) (hm : mg "steps_between" = some (.ref f)) : DefOk P w K mg base 1 "steps_between" ["folds"] F_steps_between := by
  have sc := sc_steps_between
  refine DefOk.fr (N := 3) (b := b_steps_between) (def_mk (k := 0) (N := ["folds", "crease", "further"]) (ps := ["folds"]) (b := b_steps_between) F sc hm (fun _ _ _ _ _ _ us hl => match us, hl with | [_], _ => rfl) fun cdv A outer s H E hr => ?_)
  have tk : Takes (cxOf (L2.CX P w) P w K mg base ["folds", "crease", "further"] "steps_between" (defScope s_steps_between) f cdv A outer s H E) (fun c o _ H' => E c o H') := takes_of rfl rfl rfl rfl
  exact (sss_one (ss_ret (se_callTy call_tuple_of cd_tup (by rfl) Z.z_tuple (by decide +kernel) (sa_cons (se_fr (se_callB cr_sortedI cd_sortI (by rfl) Z.z_sorted (by decide +kernel) (sa_cons (se_fr (se_lcv [("crease", 1), ("further", 2)] rfl sc.nd (si_zip (by rfl) Z.z_zip (sa_cons (se_var (pv 0)) (sa_cons (se_fr (se_sl (se_var (pv 0)) (so_some (se_c (p := (.int 1)) rfl pe_int)) so_none)) sa_nil))) (blkOk_by (N := ["folds", "crease", "further"]) (sc := defScope s_steps_between) (by decide +kernel)) (fun _ _ _ _ _ => (sg_tup rfl (sgs_cons (sg_name (pg_name (i := 1) sc.nd rfl (by first | exact Or.inl rfl | exact Or.inr rfl))) (sgs_cons (sg_name (pg_name (i := 2) sc.nd rfl (by first | exact Or.inl rfl | exact Or.inr rfl))) sgs_nil)))) (fun _ _ _ _ _ => spt_nil) (fun _ _ _ _ _ => (se_callB call_abs cd_abs (by rfl) Z.z_abs (by decide +kernel) (sa_cons (se_op op_sub od_sub (se_var (pv 2)) (se_var (pv 1))) sa_nil))))) sa_nil))) sa_nil))))
abbrev s_form_between : Stmt := top 15
theorem sc_form_between : FnScope ["folds"] ["folds"] (defScope s_form_between) := ⟨rfl, rfl, rfl, by decide +kernel, rfl, by decide +kernel, by decide +kernel⟩
theorem ok_form_between (Z : Zs mg) (G_steps_between : DefOk P w K mg base 1 "steps_between" ["folds"] F_steps_between) {f : Addr} (F : ∃ fd, FunD K "form_between" "form_between" (defArgs s_form_between) (defBody s_form_between) (defScope s_form_between) [] [] f fd) (hm : mg "form_between" = some (.ref f)) : DefOk P w K mg base 2 "form_between" ["folds"] F_form_between := by
  have sc := sc_form_between
  refine DefOk.fr (N := 1) (b := b_form_between) (def_mk (k := 1) (N := ["folds"]) (ps := ["folds"]) (b := b_form_between) F sc hm (fun _ _ _ _ _ _ us hl => match us, hl with | [_], _ => rfl) fun cdv A outer s H E hr => ?_)
  have tk : Takes (cxOf (L2.CX P w) P w K mg base ["folds"] "form_between" (defScope s_form_between) f cdv A outer s H E) (fun c o _ H' => E c o H') := takes_of rfl rfl rfl rfl
  exact (sss_one (ss_ret (se_tup (sa_cons (se_ix (se_var (pv 0)) (se_c (p := (.int 0)) rfl pe_int)) (sa_cons (se_ix (se_var (pv 0)) (se_un un_neg ud_neg (se_c (p := (.int 1)) rfl pe_int))) (sa_cons (se_def G_steps_between hr (by decide) (by rfl) tk (len_cons len_nil) (sa_cons (se_var (pv 0)) sa_nil)) sa_nil))))))
abbrev s_do_the_same : Stmt := top 19
theorem sc_do_the_same : FnScope ["folds", "beside"] ["folds", "beside"] (defScope s_do_the_same) := ⟨rfl, rfl, rfl, by decide +kernel, rfl, by decide +kernel, by decide +kernel⟩
theorem ok_do_the_same (Z : Zs mg) (G_form_between : DefOk P w K mg base 2 "form_between" ["folds"] F_form_between) {f : Addr} (F : ∃ fd, FunD K "do_the_same" "do_the_same" (defArgs s_do_the_same) (defBody s_do_the_same) (defScope s_do_the_same) [] [] f fd) (hm : mg "do_the_same" = some (.ref f)) : DefOk P w K mg base 3 "do_the_same" ["folds", "beside"] F_do_the_same := by
  have sc := sc_do_the_same
  refine DefOk.fr (N := 2) (b := b_do_the_same) (def_mk (k := 2) (N := ["folds", "beside"]) (ps := ["folds", "beside"]) (b := b_do_the_same) F sc hm (fun _ _ _ _ _ _ us hl => match us, hl with | [_, _], _ => rfl) fun cdv A outer s H E hr => ?_)
  have tk : Takes (cxOf (L2.CX P w) P w K mg base ["folds", "beside"] "do_the_same" (defScope s_do_the_same) f cdv A outer s H E) (fun c o _ H' => E c o H') := takes_of rfl rfl rfl rfl
  exact (sss_cons (ss_if (st_w (sw_or (st_cmp (op_eqD hr.units) od_eq (se_callB call_len cd_len (by rfl) Z.z_len (by decide +kernel) (sa_cons (se_var (pv 0)) sa_nil)) (se_c (p := (.int 0)) rfl pe_int) (nomark _)) (sw_or1 (st_cmp (op_eqD hr.units) od_eq (se_callB call_len cd_len (by rfl) Z.z_len (by decide +kernel) (sa_cons (se_var (pv 1)) sa_nil)) (se_c (p := (.int 0)) rfl pe_int) (nomark _))))) (sss_one (ss_ret (se_cmp (op_eqD hr.units) od_eq (se_callB call_len cd_len (by rfl) Z.z_len (by decide +kernel) (sa_cons (se_var (pv 0)) sa_nil)) (se_callB call_len cd_len (by rfl) Z.z_len (by decide +kernel) (sa_cons (se_var (pv 1)) sa_nil)) (nomark _)))) sss_nil)
  (sss_one (ss_ret (se_cmp (op_eqD hr.units) od_eq (se_def G_form_between hr (by decide) (by rfl) tk (len_cons len_nil) (sa_cons (se_var (pv 0)) sa_nil)) (se_def G_form_between hr (by decide) (by rfl) tk (len_cons len_nil) (sa_cons (se_var (pv 1)) sa_nil)) (nomark _)))))
abbrev s_without_halts : Stmt := top 20
theorem sc_without_halts : FnScope ["folds", "kept", "crease", "further"] ["folds"] (defScope s_without_halts) := ⟨rfl, rfl, rfl, by decide +kernel, rfl, by decide +kernel, by decide +kernel⟩
theorem ok_without_halts (Z : Zs mg) {f : Addr} (F : ∃ fd, FunD K "without_halts" "without_halts" (defArgs s_without_halts) (defBody s_without_halts) (defScope s_without_halts) [] [] f fd) (hm : mg "without_halts" = some (.ref f)) : DefOk P w K mg base 1 "without_halts" ["folds"] F_without_halts := by
  have sc := sc_without_halts
  refine DefOk.fr (N := 4) (b := b_without_halts) (def_mk (k := 0) (N := ["folds", "kept", "crease", "further"]) (ps := ["folds"]) (b := b_without_halts) F sc hm (fun _ _ _ _ _ _ us hl => match us, hl with | [_], _ => rfl) fun cdv A outer s H E hr => ?_)
  have tk : Takes (cxOf (L2.CX P w) P w K mg base ["folds", "kept", "crease", "further"] "without_halts" (defScope s_without_halts) f cdv A outer s H E) (fun c o _ H' => E c o H') := takes_of rfl rfl rfl rfl
  exact (sss_cons (ss_setLc (i := 1) [("crease", 2), ("further", 3)] rfl sc.nd rfl rfl (sw_true rfl rfl rfl (by decide +kernel)) (si_zip (by rfl) Z.z_zip (sa_cons (se_var (pv 0)) (sa_cons (se_fr (se_sl (se_var (pv 0)) (so_some (se_c (p := (.int 1)) rfl pe_int)) so_none)) sa_nil))) (blkOk_by (N := ["folds", "kept", "crease", "further"]) (sc := defScope s_without_halts) (by decide +kernel)) (fun _ _ _ _ _ => (sg_tup rfl (sgs_cons (sg_name (pg_name (i := 2) sc.nd rfl (by first | exact Or.inl rfl | exact Or.inr rfl))) (sgs_cons (sg_name (pg_name (i := 3) sc.nd rfl (by first | exact Or.inl rfl | exact Or.inr rfl))) sgs_nil)))) (fun _ _ _ _ _ => (spt_one (st_cmp (op_neD hr.units) od_ne (se_var (pv 2)) (se_var (pv 3)) (nomark _)))) (fun _ _ _ _ _ => (se_var (pv 3))))
  (sss_one (ss_ret (se_op op_addA od_add (se_fr (se_sl (se_var (pv 0)) so_none (so_some (se_c (p := (.int 1)) rfl pe_int)))) (se_callTy call_tuple_of cd_tup (by rfl) Z.z_tuple (by decide +kernel) (sa_cons (se_var (pv 1)) sa_nil))))))
abbrev s_doublings : Stmt := top 18
theorem sc_doublings : FnScope ["folds", "beside"] ["folds", "beside"] (defScope s_doublings) := ⟨rfl, rfl, rfl, by decide +kernel, rfl, by decide +kernel, by decide +kernel⟩
theorem ok_doublings (Z : Zs mg) (G_check_folds : DefOk P w K mg base 5 "check_folds" ["value"] F_check_folds) (G_do_the_same : DefOk P w K mg base 3 "do_the_same" ["folds", "beside"] F_do_the_same) (G_without_halts : DefOk P w K mg base 1 "without_halts" ["folds"] F_without_halts) {f : Addr} (F : ∃ fd, FunD K "doublings" "doublings" (defArgs s_doublings) (defBody s_doublings) (defScope s_doublings) [] [] f fd) (hm : mg "doublings" = some (.ref f)) : DefOk P w K mg base 6 "doublings" ["folds", "beside"] F_doublings := by
  have sc := sc_doublings
  refine DefOk.fr (N := 2) (b := b_doublings) (def_mk (k := 5) (N := ["folds", "beside"]) (ps := ["folds", "beside"]) (b := b_doublings) F sc hm (fun _ _ _ _ _ _ us hl => match us, hl with | [_, _], _ => rfl) fun cdv A outer s H E hr => ?_)
  have tk : Takes (cxOf (L2.CX P w) P w K mg base ["folds", "beside"] "doublings" (defScope s_doublings) f cdv A outer s H E) (fun c o _ H' => E c o H') := takes_of rfl rfl rfl rfl
  exact (sss_cons (ss_expr (se_def G_check_folds hr (by decide) (by rfl) tk (len_cons len_nil) (sa_cons (se_var (pv 0)) sa_nil)))
  (sss_cons (ss_expr (se_def G_check_folds hr (by decide) (by rfl) tk (len_cons len_nil) (sa_cons (se_var (pv 1)) sa_nil)))
  (sss_cons (ss_if (st_not (st_val (se_def G_do_the_same hr (by decide) (by rfl) tk (len_cons (len_cons len_nil)) (sa_cons (se_def G_without_halts hr (by decide) (by rfl) tk (len_cons len_nil) (sa_cons (se_var (pv 0)) sa_nil)) (sa_cons (se_def G_without_halts hr (by decide) (by rfl) tk (len_cons len_nil) (sa_cons (se_var (pv 1)) sa_nil)) sa_nil))))) (sss_one (ss_ret (se_c (p := .none) rfl pe_non))) sss_nil)
  (sss_one (ss_ret (se_op op_sub od_sub (se_callB call_len cd_len (by rfl) Z.z_len (by decide +kernel) (sa_cons (se_var (pv 0)) sa_nil)) (se_callB call_len cd_len (by rfl) Z.z_len (by decide +kernel) (sa_cons (se_var (pv 1)) sa_nil))))))))
abbrev s__law_tidy : Stmt := top 25
theorem sc__law_tidy : FnScope ["_law_drops", "_law_place_here"] ["_law_drops"] (defScope s__law_tidy) := ⟨rfl, rfl, rfl, by decide +kernel, rfl, by decide +kernel, by decide +kernel⟩
theorem ok__law_tidy (Z : Zs mg) {f : Addr} (F : ∃ fd, FunD K "_law_tidy" "_law_tidy" (defArgs s__law_tidy) (defBody s__law_tidy) (defScope s__law_tidy) [] [] f fd) (hm : mg "_law_tidy" = some (.ref f)) : DefOk P w K mg base 1 "_law_tidy" ["_law_drops"] F__law_tidy := by
  have sc := sc__law_tidy
  refine DefOk.fr (N := 2) (b := b__law_tidy) (def_mk (k := 0) (N := ["_law_drops", "_law_place_here"]) (ps := ["_law_drops"]) (b := b__law_tidy) F sc hm (fun _ _ _ _ _ _ us hl => match us, hl with | [_], _ => rfl) fun cdv A outer s H E hr => ?_)
  have tk : Takes (cxOf (L2.CX P w) P w K mg base ["_law_drops", "_law_place_here"] "_law_tidy" (defScope s__law_tidy) f cdv A outer s H E) (fun c o _ H' => E c o H') := takes_of rfl rfl rfl rfl
  exact (sss_one (ss_ret (se_callTy call_tuple_of cd_tup (by rfl) Z.z_tuple (by decide +kernel) (sa_cons (se_fr (se_lcv [("_law_place_here", 1)] rfl sc.nd (si_seq (se_fr (se_callB (cr_sortD rfl) cd_sortD (by rfl) Z.z_sorted (by decide +kernel) (sa_cons (se_var (pv 0)) sa_nil)))) (blkOk_by (N := ["_law_drops", "_law_place_here"]) (sc := defScope s__law_tidy) (by decide +kernel)) (fun _ _ _ _ _ => (sg_name (pg_name (i := 1) sc.nd rfl (by first | exact Or.inl rfl | exact Or.inr rfl)))) (fun _ _ _ _ _ => spt_nil) (fun _ _ _ _ _ => (se_tup (sa_cons (se_var (pv 1)) (sa_cons (se_dx hr.units (se_var (pv 0)) (se_var (pv 1))) sa_nil)))))) sa_nil))))
abbrev s__law_strip : Stmt := top 35
theorem sc__law_strip : FnScope ["_law_cup_here", "_law_most", "_law_found", "_law_turn"] ["_law_cup_here", "_law_most"] (defScope s__law_strip) := ⟨rfl, rfl, rfl, by decide +kernel, rfl, by decide +kernel, by decide +kernel⟩
theorem ok__law_strip (Z : Zs mg) (G__law_roll : DefOk P w K mg base 1 "_law_roll" ["_law_cup_here", "_law_many"] F__law_roll) (G__law_some : DefOk P w K mg base 2 "_law_some" ["_law_cup_here", "_law_things"] F__law_some) (G__law_tidy : DefOk P w K mg base 1 "_law_tidy" ["_law_drops"] F__law_tidy) {f : Addr} (F : ∃ fd, FunD K "_law_strip" "_law_strip" (defArgs s__law_strip) (defBody s__law_strip) (defScope s__law_strip) [] [] f fd) (hm : mg "_law_strip" = some (.ref f)) : DefOk P w K mg base 3 "_law_strip" ["_law_cup_here", "_law_most"] F__law_strip := by
  have sc := sc__law_strip
  refine DefOk.fr (N := 4) (b := b__law_strip) (def_mk (k := 2) (N := ["_law_cup_here", "_law_most", "_law_found", "_law_turn"]) (ps := ["_law_cup_here", "_law_most"]) (b := b__law_strip) F sc hm (fun _ _ _ _ _ _ us hl => match us, hl with | [_, _], _ => rfl) fun cdv A outer s H E hr => ?_)
  have tk : Takes (cxOf (L2.CX P w) P w K mg base ["_law_cup_here", "_law_most", "_law_found", "_law_turn"] "_law_strip" (defScope s__law_strip) f cdv A outer s H E) (fun c o _ H' => E c o H') := takes_of rfl rfl rfl rfl
  exact (sss_cons (ss_set (ps_set (i := 2) sc.nd rfl (by first | exact Or.inl rfl | exact Or.inr rfl) se_dnew))
  (sss_cons (ss_for (passes_of rfl) rfl (si_range1 (by rfl) Z.z_range (sa_cons (se_def G__law_roll hr (by decide) (by rfl) tk (len_cons (len_cons len_nil)) (sa_cons (se_var (pv 0)) (sa_cons (se_op op_addA od_add (se_var (pv 1)) (se_c (p := (.int 1)) rfl pe_int)) sa_nil))) sa_nil)) (sg_name (pg_name (i := 3) sc.nd rfl (by first | exact Or.inl rfl | exact Or.inr rfl))) (sss_one (ss_dput hr.units (se_def G__law_some hr (by decide) (by rfl) tk (len_cons (len_cons len_nil)) (sa_cons (se_var (pv 0)) (sa_cons (se_fr (se_lst (sa_cons (se_c (p := (.int 1)) rfl pe_int) (sa_cons (se_c (p := (.int 1)) rfl pe_int) (sa_cons (se_c (p := (.int 1)) rfl pe_int) (sa_cons (se_c (p := (.int 2)) rfl pe_int) (sa_cons (se_c (p := (.int 3)) rfl pe_int) (sa_cons (se_c (p := (.int 4)) rfl pe_int) (sa_cons (se_c (p := (.int 7)) rfl pe_int) (sa_cons (se_op op_pow od_pow (se_c (p := (.int 10)) rfl pe_int) (se_c (p := (.int 20)) rfl pe_int)) sa_nil)))))))))) sa_nil))) (se_var (pv 2)) (se_op op_sub od_sub (se_def G__law_roll hr (by decide) (by rfl) tk (len_cons (len_cons len_nil)) (sa_cons (se_var (pv 0)) (sa_cons (se_c (p := (.int 25)) rfl pe_int) sa_nil))) (se_c (p := (.int 12)) rfl pe_int)))))
  (sss_one (ss_ret (se_def G__law_tidy hr (by decide) (by rfl) tk (len_cons len_nil) (sa_cons (se_var (pv 2)) sa_nil))))))
abbrev s_rows_alike : Stmt := top 17
theorem sc_rows_alike : FnScope ["folds", "beside"] ["folds", "beside"] (defScope s_rows_alike) := ⟨rfl, rfl, rfl, by decide +kernel, rfl, by decide +kernel, by decide +kernel⟩
theorem ok_rows_alike (Z : Zs mg) (G_check_folds : DefOk P w K mg base 5 "check_folds" ["value"] F_check_folds) (G_do_the_same : DefOk P w K mg base 3 "do_the_same" ["folds", "beside"] F_do_the_same) {f : Addr} (F : ∃ fd, FunD K "rows_alike" "rows_alike" (defArgs s_rows_alike) (defBody s_rows_alike) (defScope s_rows_alike) [] [] f fd) (hm : mg "rows_alike" = some (.ref f)) : DefOk P w K mg base 6 "rows_alike" ["folds", "beside"] F_rows_alike := by
  have sc := sc_rows_alike
  refine DefOk.fr (N := 2) (b := b_rows_alike) (def_mk (k := 5) (N := ["folds", "beside"]) (ps := ["folds", "beside"]) (b := b_rows_alike) F sc hm (fun _ _ _ _ _ _ us hl => match us, hl with | [_, _], _ => rfl) fun cdv A outer s H E hr => ?_)
  have tk : Takes (cxOf (L2.CX P w) P w K mg base ["folds", "beside"] "rows_alike" (defScope s_rows_alike) f cdv A outer s H E) (fun c o _ H' => E c o H') := takes_of rfl rfl rfl rfl
  exact (sss_cons (ss_expr (se_def G_check_folds hr (by decide) (by rfl) tk (len_cons len_nil) (sa_cons (se_var (pv 0)) sa_nil)))
  (sss_cons (ss_expr (se_def G_check_folds hr (by decide) (by rfl) tk (len_cons len_nil) (sa_cons (se_var (pv 1)) sa_nil)))
  (sss_one (ss_ret (se_def G_do_the_same hr (by decide) (by rfl) tk (len_cons (len_cons len_nil)) (sa_cons (se_var (pv 0)) (sa_cons (se_var (pv 1)) sa_nil)))))))
abbrev s__law_steps : Stmt := top 29
theorem sc__law_steps : FnScope ["_law_folds_here", "_law_at"] ["_law_folds_here"] (defScope s__law_steps) := ⟨rfl, rfl, rfl, by decide +kernel, rfl, by decide +kernel, by decide +kernel⟩
theorem ok__law_steps (Z : Zs mg) {f : Addr} (F : ∃ fd, FunD K "_law_steps" "_law_steps" (defArgs s__law_steps) (defBody s__law_steps) (defScope s__law_steps) [] [] f fd) (hm : mg "_law_steps" = some (.ref f)) : DefOk P w K mg base 1 "_law_steps" ["_law_folds_here"] F__law_steps := by
  have sc := sc__law_steps
  refine DefOk.fr (N := 2) (b := b__law_steps) (def_mk (k := 0) (N := ["_law_folds_here", "_law_at"]) (ps := ["_law_folds_here"]) (b := b__law_steps) F sc hm (fun _ _ _ _ _ _ us hl => match us, hl with | [_], _ => rfl) fun cdv A outer s H E hr => ?_)
  have tk : Takes (cxOf (L2.CX P w) P w K mg base ["_law_folds_here", "_law_at"] "_law_steps" (defScope s__law_steps) f cdv A outer s H E) (fun c o _ H' => E c o H') := takes_of rfl rfl rfl rfl
  exact (sss_one (ss_ret (se_fr (se_callB cr_sortedI cd_sortI (by rfl) Z.z_sorted (by decide +kernel) (sa_cons (se_fr (se_lcv [("_law_at", 1)] rfl sc.nd (si_range1 (by rfl) Z.z_range (sa_cons (se_op op_sub od_sub (se_callB call_len cd_len (by rfl) Z.z_len (by decide +kernel) (sa_cons (se_var (pv 0)) sa_nil)) (se_c (p := (.int 1)) rfl pe_int)) sa_nil)) (blkOk_by (N := ["_law_folds_here", "_law_at"]) (sc := defScope s__law_steps) (by decide +kernel)) (fun _ _ _ _ _ => (sg_name (pg_name (i := 1) sc.nd rfl (by first | exact Or.inl rfl | exact Or.inr rfl)))) (fun _ _ _ _ _ => spt_nil) (fun _ _ _ _ _ => (se_callB call_abs cd_abs (by rfl) Z.z_abs (by decide +kernel) (sa_cons (se_op op_sub od_sub (se_ix (se_var (pv 0)) (se_op op_addA od_add (se_var (pv 1)) (se_c (p := (.int 1)) rfl pe_int))) (se_ix (se_var (pv 0)) (se_var (pv 1)))) sa_nil))))) sa_nil)))))
abbrev s__law_plain : Stmt := top 42
theorem sc__law_plain : FnScope ["_law_folds_here", "_law_step"] ["_law_folds_here"] (defScope s__law_plain) := ⟨rfl, rfl, rfl, by decide +kernel, rfl, by decide +kernel, by decide +kernel⟩
theorem ok__law_plain (Z : Zs mg) (G__law_steps : DefOk P w K mg base 1 "_law_steps" ["_law_folds_here"] F__law_steps) {f : Addr} (F : ∃ fd, FunD K "_law_plain" "_law_plain" (defArgs s__law_plain) (defBody s__law_plain) (defScope s__law_plain) [] [] f fd) (hm : mg "_law_plain" = some (.ref f)) : DefOk P w K mg base 2 "_law_plain" ["_law_folds_here"] F__law_plain := by
  have sc := sc__law_plain
  refine DefOk.fr (N := 2) (b := b__law_plain) (def_mk (k := 1) (N := ["_law_folds_here", "_law_step"]) (ps := ["_law_folds_here"]) (b := b__law_plain) F sc hm (fun _ _ _ _ _ _ us hl => match us, hl with | [_], _ => rfl) fun cdv A outer s H E hr => ?_)
  have tk : Takes (cxOf (L2.CX P w) P w K mg base ["_law_folds_here", "_law_step"] "_law_plain" (defScope s__law_plain) f cdv A outer s H E) (fun c o _ H' => E c o H') := takes_of rfl rfl rfl rfl
  exact (sss_one (ss_ret (se_if (st_cmp (op_neD hr.units) od_ne (se_var (pv 0)) (se_tup sa_nil) (nomark _)) (se_tup (sa_cons (se_ix (se_var (pv 0)) (se_c (p := (.int 0)) rfl pe_int)) (sa_cons (se_ix (se_var (pv 0)) (se_un un_neg ud_neg (se_c (p := (.int 1)) rfl pe_int))) (sa_cons (se_fr (se_lcv [("_law_step", 1)] rfl sc.nd (si_seq (se_def G__law_steps hr (by decide) (by rfl) tk (len_cons len_nil) (sa_cons (se_var (pv 0)) sa_nil))) (blkOk_by (N := ["_law_folds_here", "_law_step"]) (sc := defScope s__law_plain) (by decide +kernel)) (fun _ _ _ _ _ => (sg_name (pg_name (i := 1) sc.nd rfl (by first | exact Or.inl rfl | exact Or.inr rfl)))) (fun _ _ _ _ _ => (spt_one (st_cmp op_gt od_gt (se_var (pv 1)) (se_c (p := (.int 0)) rfl pe_int) (nomark _)))) (fun _ _ _ _ _ => (se_var (pv 1))))) sa_nil)))) (se_tup sa_nil))))
abbrev s__law_fold : Stmt := top 26
theorem sc__law_fold : FnScope ["_law_strip_here", "_law_crease", "_law_found", "_law_place_here", "_law_drops", "_law_there"] ["_law_strip_here", "_law_crease"] (defScope s__law_fold) := ⟨rfl, rfl, rfl, by decide +kernel, rfl, by decide +kernel, by decide +kernel⟩
theorem ok__law_fold (Z : Zs mg) (G__law_tidy : DefOk P w K mg base 1 "_law_tidy" ["_law_drops"] F__law_tidy) {f : Addr} (F : ∃ fd, FunD K "_law_fold" "_law_fold" (defArgs s__law_fold) (defBody s__law_fold) (defScope s__law_fold) [] [] f fd) (hm : mg "_law_fold" = some (.ref f)) : DefOk P w K mg base 2 "_law_fold" ["_law_strip_here", "_law_crease"] F__law_fold := by
  have sc := sc__law_fold
  refine DefOk.fr (N := 6) (b := b__law_fold) (def_mk (k := 1) (N := ["_law_strip_here", "_law_crease", "_law_found", "_law_place_here", "_law_drops", "_law_there"]) (ps := ["_law_strip_here", "_law_crease"]) (b := b__law_fold) F sc hm (fun _ _ _ _ _ _ us hl => match us, hl with | [_, _], _ => rfl) fun cdv A outer s H E hr => ?_)
  have tk : Takes (cxOf (L2.CX P w) P w K mg base ["_law_strip_here", "_law_crease", "_law_found", "_law_place_here", "_law_drops", "_law_there"] "_law_fold" (defScope s__law_fold) f cdv A outer s H E) (fun c o _ H' => E c o H') := takes_of rfl rfl rfl rfl
  exact (sss_cons (ss_set (ps_set (i := 2) sc.nd rfl (by first | exact Or.inl rfl | exact Or.inr rfl) se_dnew))
  (sss_cons (ss_for (passes_of rfl) rfl (si_seq (se_var (pv 0))) (sg_tup rfl (sgs_cons (sg_name (pg_name (i := 3) sc.nd rfl (by first | exact Or.inl rfl | exact Or.inr rfl))) (sgs_cons (sg_name (pg_name (i := 4) sc.nd rfl (by first | exact Or.inl rfl | exact Or.inr rfl))) sgs_nil))) (sss_one (ss_for (passes_of rfl) rfl (si_seq (se_tup (sa_cons (se_var (pv 3)) (sa_cons (se_op op_sub od_sub (se_var (pv 1)) (se_var (pv 3))) sa_nil)))) (sg_name (pg_name (i := 5) sc.nd rfl (by first | exact Or.inl rfl | exact Or.inr rfl))) (sss_one (ss_dput hr.units (se_fr (se_op op_addA od_add (se_dget2 hr.units (se_var (pv 2)) (se_var (pv 5)) (se_c (p := (.int 0)) rfl pe_int)) (se_var (pv 4)))) (se_var (pv 2)) (se_var (pv 5)))))))
  (sss_one (ss_ret (se_def G__law_tidy hr (by decide) (by rfl) tk (len_cons len_nil) (sa_cons (se_var (pv 2)) sa_nil))))))
abbrev s__law_folded : Stmt := top 27
theorem sc__law_folded : FnScope ["_law_strip_here", "_law_folds_here", "_law_crease"] ["_law_strip_here", "_law_folds_here"] (defScope s__law_folded) := ⟨rfl, rfl, rfl, by decide +kernel, rfl, by decide +kernel, by decide +kernel⟩
theorem ok__law_folded (Z : Zs mg) (G__law_fold : DefOk P w K mg base 2 "_law_fold" ["_law_strip_here", "_law_crease"] F__law_fold) {f : Addr} (F : ∃ fd, FunD K "_law_folded" "_law_folded" (defArgs s__law_folded) (defBody s__law_folded) (defScope s__law_folded) [] [] f fd) (hm : mg "_law_folded" = some (.ref f)) : DefOk P w K mg base 3 "_law_folded" ["_law_strip_here", "_law_folds_here"] F__law_folded := by
  have sc := sc__law_folded
  refine DefOk.fr (N := 3) (b := b__law_folded) (def_mk (k := 2) (N := ["_law_strip_here", "_law_folds_here", "_law_crease"]) (ps := ["_law_strip_here", "_law_folds_here"]) (b := b__law_folded) F sc hm (fun _ _ _ _ _ _ us hl => match us, hl with | [_, _], _ => rfl) fun cdv A outer s H E hr => ?_)
  have tk : Takes (cxOf (L2.CX P w) P w K mg base ["_law_strip_here", "_law_folds_here", "_law_crease"] "_law_folded" (defScope s__law_folded) f cdv A outer s H E) (fun c o _ H' => E c o H') := takes_of rfl rfl rfl rfl
  exact (sss_cons (ss_for (passes_of rfl) rfl (si_seq (se_var (pv 1))) (sg_name (pg_name (i := 2) sc.nd rfl (by first | exact Or.inl rfl | exact Or.inr rfl))) (sss_one (ss_set (ps_set (i := 0) sc.nd rfl (by first | exact Or.inl rfl | exact Or.inr rfl) (se_def G__law_fold hr (by decide) (by rfl) tk (len_cons (len_cons len_nil)) (sa_cons (se_var (pv 0)) (sa_cons (se_var (pv 2)) sa_nil)))))))
  (sss_one (ss_ret (se_var (pv 0)))))
abbrev s__law_print : Stmt := top 28
theorem sc__law_print : FnScope ["_law_place_here", "_law_folds_here"] ["_law_place_here", "_law_folds_here"] (defScope s__law_print) := ⟨rfl, rfl, rfl, by decide +kernel, rfl, by decide +kernel, by decide +kernel⟩
theorem ok__law_print (Z : Zs mg) (G__law_folded : DefOk P w K mg base 3 "_law_folded" ["_law_strip_here", "_law_folds_here"] F__law_folded) {f : Addr} (F : ∃ fd, FunD K "_law_print" "_law_print" (defArgs s__law_print) (defBody s__law_print) (defScope s__law_print) [] [] f fd) (hm : mg "_law_print" = some (.ref f)) : DefOk P w K mg base 4 "_law_print" ["_law_place_here", "_law_folds_here"] F__law_print := by
  have sc := sc__law_print
  refine DefOk.fr (N := 2) (b := b__law_print) (def_mk (k := 3) (N := ["_law_place_here", "_law_folds_here"]) (ps := ["_law_place_here", "_law_folds_here"]) (b := b__law_print) F sc hm (fun _ _ _ _ _ _ us hl => match us, hl with | [_, _], _ => rfl) fun cdv A outer s H E hr => ?_)
  have tk : Takes (cxOf (L2.CX P w) P w K mg base ["_law_place_here", "_law_folds_here"] "_law_print" (defScope s__law_print) f cdv A outer s H E) (fun c o _ H' => E c o H') := takes_of rfl rfl rfl rfl
  exact (sss_one (ss_ret (se_def G__law_folded hr (by decide) (by rfl) tk (len_cons (len_cons len_nil)) (sa_cons (se_tup (sa_cons (se_tup (sa_cons (se_var (pv 0)) (sa_cons (se_c (p := (.int 1)) rfl pe_int) sa_nil))) sa_nil)) (sa_cons (se_var (pv 1)) sa_nil)))))
abbrev s__law_times : Stmt := top 40
theorem sc__law_times : FnScope ["_law_strip_here", "_law_many", "_law_place_here", "_law_drops"] ["_law_strip_here", "_law_many"] (defScope s__law_times) := ⟨rfl, rfl, rfl, by decide +kernel, rfl, by decide +kernel, by decide +kernel⟩
theorem ok__law_times (Z : Zs mg) {f : Addr} (F : ∃ fd, FunD K "_law_times" "_law_times" (defArgs s__law_times) (defBody s__law_times) (defScope s__law_times) [] [] f fd) (hm : mg "_law_times" = some (.ref f)) : DefOk P w K mg base 1 "_law_times" ["_law_strip_here", "_law_many"] F__law_times := by
  have sc := sc__law_times
  refine DefOk.fr (N := 4) (b := b__law_times) (def_mk (k := 0) (N := ["_law_strip_here", "_law_many", "_law_place_here", "_law_drops"]) (ps := ["_law_strip_here", "_law_many"]) (b := b__law_times) F sc hm (fun _ _ _ _ _ _ us hl => match us, hl with | [_, _], _ => rfl) fun cdv A outer s H E hr => ?_)
  have tk : Takes (cxOf (L2.CX P w) P w K mg base ["_law_strip_here", "_law_many", "_law_place_here", "_law_drops"] "_law_times" (defScope s__law_times) f cdv A outer s H E) (fun c o _ H' => E c o H') := takes_of rfl rfl rfl rfl
  exact (sss_one (ss_ret (se_callTy call_tuple_of cd_tup (by rfl) Z.z_tuple (by decide +kernel) (sa_cons (se_fr (se_lcv [("_law_place_here", 2), ("_law_drops", 3)] rfl sc.nd (si_seq (se_var (pv 0))) (blkOk_by (N := ["_law_strip_here", "_law_many", "_law_place_here", "_law_drops"]) (sc := defScope s__law_times) (by decide +kernel)) (fun _ _ _ _ _ => (sg_tup rfl (sgs_cons (sg_name (pg_name (i := 2) sc.nd rfl (by first | exact Or.inl rfl | exact Or.inr rfl))) (sgs_cons (sg_name (pg_name (i := 3) sc.nd rfl (by first | exact Or.inl rfl | exact Or.inr rfl))) sgs_nil)))) (fun _ _ _ _ _ => spt_nil) (fun _ _ _ _ _ => (se_tup (sa_cons (se_var (pv 2)) (sa_cons (se_op op_mulA od_mul (se_var (pv 3)) (se_var (pv 1))) sa_nil)))))) sa_nil))))
abbrev s__law_power : Stmt := top 39
theorem sc__law_power : FnScope ["_law_many", "_law_found", "_law_turn"] ["_law_many"] (defScope s__law_power) := ⟨rfl, rfl, rfl, by decide +kernel, rfl, by decide +kernel, by decide +kernel⟩
theorem ok__law_power (Z : Zs mg) {f : Addr} (F : ∃ fd, FunD K "_law_power" "_law_power" (defArgs s__law_power) (defBody s__law_power) (defScope s__law_power) [] [] f fd) (hm : mg "_law_power" = some (.ref f)) : DefOk P w K mg base 1 "_law_power" ["_law_many"] F__law_power := by
  have sc := sc__law_power
  refine DefOk.fr (N := 3) (b := b__law_power) (def_mk (k := 0) (N := ["_law_many", "_law_found", "_law_turn"]) (ps := ["_law_many"]) (b := b__law_power) F sc hm (fun _ _ _ _ _ _ us hl => match us, hl with | [_], _ => rfl) fun cdv A outer s H E hr => ?_)
  have tk : Takes (cxOf (L2.CX P w) P w K mg base ["_law_many", "_law_found", "_law_turn"] "_law_power" (defScope s__law_power) f cdv A outer s H E) (fun c o _ H' => E c o H') := takes_of rfl rfl rfl rfl
  exact (sss_cons (ss_set (ps_set (i := 1) sc.nd rfl (by first | exact Or.inl rfl | exact Or.inr rfl) (se_c (p := (.int 1)) rfl pe_int)))
  (sss_cons (ss_for (passes_of rfl) rfl (si_range1 (by rfl) Z.z_range (sa_cons (se_var (pv 0)) sa_nil)) (sg_name (pg_name (i := 2) sc.nd rfl (by first | exact Or.inl rfl | exact Or.inr rfl))) (sss_one (ss_set (ps_set (i := 1) sc.nd rfl (by first | exact Or.inl rfl | exact Or.inr rfl) (se_op op_mulA od_mul (se_var (pv 1)) (se_c (p := (.int 2)) rfl pe_int))))))
  (sss_one (ss_ret (se_var (pv 1))))))
abbrev s__law_is_doubled : Stmt := top 44
theorem sc__law_is_doubled : FnScope ["_law_one", "_law_two", "_law_times_here"] ["_law_one", "_law_two", "_law_times_here"] (defScope s__law_is_doubled) := ⟨rfl, rfl, rfl, by decide +kernel, rfl, by decide +kernel, by decide +kernel⟩
theorem ok__law_is_doubled (Z : Zs mg) (G__law_times : DefOk P w K mg base 1 "_law_times" ["_law_strip_here", "_law_many"] F__law_times) (G__law_power : DefOk P w K mg base 1 "_law_power" ["_law_many"] F__law_power) {f : Addr} (F : ∃ fd, FunD K "_law_is_doubled" "_law_is_doubled" (defArgs s__law_is_doubled) (defBody s__law_is_doubled) (defScope s__law_is_doubled) [] [] f fd) (hm : mg "_law_is_doubled" = some (.ref f)) : DefOk P w K mg base 2 "_law_is_doubled" ["_law_one", "_law_two", "_law_times_here"] F__law_is_doubled := by
  have sc := sc__law_is_doubled
  refine DefOk.fr (N := 3) (b := b__law_is_doubled) (def_mk (k := 1) (N := ["_law_one", "_law_two", "_law_times_here"]) (ps := ["_law_one", "_law_two", "_law_times_here"]) (b := b__law_is_doubled) F sc hm (fun _ _ _ _ _ _ us hl => match us, hl with | [_, _, _], _ => rfl) fun cdv A outer s H E hr => ?_)
  have tk : Takes (cxOf (L2.CX P w) P w K mg base ["_law_one", "_law_two", "_law_times_here"] "_law_is_doubled" (defScope s__law_is_doubled) f cdv A outer s H E) (fun c o _ H' => E c o H') := takes_of rfl rfl rfl rfl
  exact (sss_one (ss_ret (se_if (st_cmp op_ge od_ge (se_var (pv 2)) (se_c (p := (.int 0)) rfl pe_int) (nomark _)) (se_cmp (op_eqD hr.units) od_eq (se_var (pv 0)) (se_def G__law_times hr (by decide) (by rfl) tk (len_cons (len_cons len_nil)) (sa_cons (se_var (pv 1)) (sa_cons (se_def G__law_power hr (by decide) (by rfl) tk (len_cons len_nil) (sa_cons (se_var (pv 2)) sa_nil)) sa_nil))) (nomark _)) (se_cmp (op_eqD hr.units) od_eq (se_var (pv 1)) (se_def G__law_times hr (by decide) (by rfl) tk (len_cons (len_cons len_nil)) (sa_cons (se_var (pv 0)) (sa_cons (se_def G__law_power hr (by decide) (by rfl) tk (len_cons len_nil) (sa_cons (se_un un_neg ud_neg (se_var (pv 2))) sa_nil)) sa_nil))) (nomark _)))))
abbrev s__law_right : Stmt := top 43
theorem sc__law_right : FnScope ["_law_cup_here", "_law_folds_here", "_law_beside", "_law_told", "_law_due", "_law_strip_here", "_law_some_here", "_law_one", "_law_two", "_law_pairs", "_law_place_here", "_law_pair"] ["_law_cup_here", "_law_folds_here", "_law_beside"] (defScope s__law_right) := ⟨rfl, rfl, rfl, by decide +kernel, rfl, by decide +kernel, by decide +kernel⟩
theorem ok__law_right (Z : Zs mg) (G_doublings : DefOk P w K mg base 6 "doublings" ["folds", "beside"] F_doublings) (G__law_strip : DefOk P w K mg base 3 "_law_strip" ["_law_cup_here", "_law_most"] F__law_strip) (G_rows_alike : DefOk P w K mg base 6 "rows_alike" ["folds", "beside"] F_rows_alike) (G__law_plain : DefOk P w K mg base 2 "_law_plain" ["_law_folds_here"] F__law_plain) (G__law_folded : DefOk P w K mg base 3 "_law_folded" ["_law_strip_here", "_law_folds_here"] F__law_folded) (G__law_print : DefOk P w K mg base 4 "_law_print" ["_law_place_here", "_law_folds_here"] F__law_print) (G__law_times : DefOk P w K mg base 1 "_law_times" ["_law_strip_here", "_law_many"] F__law_times) (G__law_power : DefOk P w K mg base 1 "_law_power" ["_law_many"] F__law_power) (G__law_is_doubled : DefOk P w K mg base 2 "_law_is_doubled" ["_law_one", "_law_two", "_law_times_here"] F__law_is_doubled) {f : Addr} (F : ∃ fd, FunD K "_law_right" "_law_right" (defArgs s__law_right) (defBody s__law_right) (defScope s__law_right) [] [] f fd) (hm : mg "_law_right" = some (.ref f)) : DefOk P w K mg base 7 "_law_right" ["_law_cup_here", "_law_folds_here", "_law_beside"] F__law_right := by
  have sc := sc__law_right
  refine DefOk.fr (N := 12) (b := b__law_right) (def_mk (k := 6) (N := ["_law_cup_here", "_law_folds_here", "_law_beside", "_law_told", "_law_due", "_law_strip_here", "_law_some_here", "_law_one", "_law_two", "_law_pairs", "_law_place_here", "_law_pair"]) (ps := ["_law_cup_here", "_law_folds_here", "_law_beside"]) (b := b__law_right) F sc hm (fun _ _ _ _ _ _ us hl => match us, hl with | [_, _, _], _ => rfl) fun cdv A outer s H E hr => ?_)
  have tk : Takes (cxOf (L2.CX P w) P w K mg base ["_law_cup_here", "_law_folds_here", "_law_beside", "_law_told", "_law_due", "_law_strip_here", "_law_some_here", "_law_one", "_law_two", "_law_pairs", "_law_place_here", "_law_pair"] "_law_right" (defScope s__law_right) f cdv A outer s H E) (fun c o _ H' => E c o H') := takes_of rfl rfl rfl rfl
  exact (sss_cons (ss_set (ps_set (i := 3) sc.nd rfl (by first | exact Or.inl rfl | exact Or.inr rfl) (se_def G_doublings hr (by decide) (by rfl) tk (len_cons (len_cons len_nil)) (sa_cons (se_var (pv 1)) (sa_cons (se_var (pv 2)) sa_nil)))))
  (sss_cons (ss_set (ps_set (i := 4) sc.nd rfl (by first | exact Or.inl rfl | exact Or.inr rfl) (se_if (st_cmp (op_eqD hr.units) od_eq (se_def G__law_plain hr (by decide) (by rfl) tk (len_cons len_nil) (sa_cons (se_var (pv 1)) sa_nil)) (se_def G__law_plain hr (by decide) (by rfl) tk (len_cons len_nil) (sa_cons (se_var (pv 2)) sa_nil)) (nomark _)) (se_op op_sub od_sub (se_callB call_len cd_len (by rfl) Z.z_len (by decide +kernel) (sa_cons (se_var (pv 1)) sa_nil)) (se_callB call_len cd_len (by rfl) Z.z_len (by decide +kernel) (sa_cons (se_var (pv 2)) sa_nil))) (se_c (p := .none) rfl pe_non))))
  (sss_cons (ss_if (st_w (sw_or (st_cmp (op_neD hr.units) od_ne (se_var (pv 3)) (se_var (pv 4)) (nomark _)) (sw_or1 (st_cmp (op_neD hr.units) od_ne (se_def G_doublings hr (by decide) (by rfl) tk (len_cons (len_cons len_nil)) (sa_cons (se_var (pv 2)) (sa_cons (se_var (pv 1)) sa_nil))) (se_if (st_cmp op_isA od_is (se_var (pv 4)) (se_c (p := .none) rfl pe_non) (nomark _)) (se_c (p := .none) rfl pe_non) (se_un un_neg ud_neg (se_var (pv 4)))) (nomark _))))) (sss_one (ss_ret (se_c (p := (.bool false)) rfl pe_bl))) sss_nil)
  (sss_cons (ss_if (st_cmp (op_neD hr.units) od_ne (se_def G_rows_alike hr (by decide) (by rfl) tk (len_cons (len_cons len_nil)) (sa_cons (se_var (pv 1)) (sa_cons (se_var (pv 2)) sa_nil))) (se_cmp (op_eqD hr.units) od_eq (se_var (pv 3)) (se_c (p := (.int 0)) rfl pe_int) (nomark _)) (nomark _)) (sss_one (ss_ret (se_c (p := (.bool false)) rfl pe_bl))) sss_nil)
  (sss_cons (ss_set (ps_set (i := 5) sc.nd rfl (by first | exact Or.inl rfl | exact Or.inr rfl) (se_def G__law_strip hr (by decide) (by rfl) tk (len_cons (len_cons len_nil)) (sa_cons (se_var (pv 0)) (sa_cons (se_c (p := (.int 3)) rfl pe_int) sa_nil)))))
  (sss_cons (ss_for (passes_of rfl) rfl (si_seq (se_tup (sa_cons (se_tup (sa_cons (se_tup (sa_cons (se_c (p := (.int 0)) rfl pe_int) (sa_cons (se_c (p := (.int 1)) rfl pe_int) sa_nil))) sa_nil)) (sa_cons (se_tup (sa_cons (se_tup (sa_cons (se_c (p := (.int 1)) rfl pe_int) (sa_cons (se_c (p := (.int 1)) rfl pe_int) sa_nil))) sa_nil)) (sa_cons (se_var (pv 5)) sa_nil))))) (sg_name (pg_name (i := 6) sc.nd rfl (by first | exact Or.inl rfl | exact Or.inr rfl))) (sss_cons (ss_par (ps_par rfl sc.nd (i := 7) (j := 8) rfl rfl (by decide) rfl rfl (sa_cons (se_def G__law_folded hr (by decide) (by rfl) tk (len_cons (len_cons len_nil)) (sa_cons (se_var (pv 6)) (sa_cons (se_var (pv 1)) sa_nil))) (sa_cons (se_def G__law_folded hr (by decide) (by rfl) tk (len_cons (len_cons len_nil)) (sa_cons (se_var (pv 6)) (sa_cons (se_var (pv 2)) sa_nil))) sa_nil)) (by rfl)))
  (sss_one (ss_if (st_w (sw_and (st_cmp op_isnotA od_isnot (se_var (pv 3)) (se_c (p := .none) rfl pe_non) (nomark _)) (sw_and1 (st_ifx (st_cmp op_ge od_ge (se_var (pv 3)) (se_c (p := (.int 0)) rfl pe_int) (nomark _)) (st_cmp (op_neD hr.units) od_ne (se_var (pv 7)) (se_def G__law_times hr (by decide) (by rfl) tk (len_cons (len_cons len_nil)) (sa_cons (se_var (pv 8)) (sa_cons (se_def G__law_power hr (by decide) (by rfl) tk (len_cons len_nil) (sa_cons (se_var (pv 3)) sa_nil)) sa_nil))) (nomark _)) (st_cmp (op_neD hr.units) od_ne (se_var (pv 8)) (se_def G__law_times hr (by decide) (by rfl) tk (len_cons (len_cons len_nil)) (sa_cons (se_var (pv 7)) (sa_cons (se_def G__law_power hr (by decide) (by rfl) tk (len_cons len_nil) (sa_cons (se_un un_neg ud_neg (se_var (pv 3))) sa_nil)) sa_nil))) (nomark _)))))) (sss_one (ss_ret (se_c (p := (.bool false)) rfl pe_bl))) sss_nil))))
  (sss_cons (ss_if (st_cmp op_isA od_is (se_var (pv 3)) (se_c (p := .none) rfl pe_non) (nomark _)) (sss_cons (ss_setLc (i := 9) [("_law_place_here", 10)] rfl sc.nd rfl rfl (sw_true rfl rfl rfl (by decide +kernel)) (si_seq (se_tup (sa_cons (se_c (p := (.int 0)) rfl pe_int) (sa_cons (se_c (p := (.int 1)) rfl pe_int) sa_nil)))) (blkOk_by (N := ["_law_cup_here", "_law_folds_here", "_law_beside", "_law_told", "_law_due", "_law_strip_here", "_law_some_here", "_law_one", "_law_two", "_law_pairs", "_law_place_here", "_law_pair"]) (sc := defScope s__law_right) (by decide +kernel)) (fun _ _ _ _ _ => (sg_name (pg_name (i := 10) sc.nd rfl (by first | exact Or.inl rfl | exact Or.inr rfl)))) (fun _ _ _ _ _ => spt_nil) (fun _ _ _ _ _ => (se_tup (sa_cons (se_def G__law_print hr (by decide) (by rfl) takes0 (len_cons (len_cons len_nil)) (sa_cons (se_var (pv 10)) (sa_cons (se_var (pv 1)) sa_nil))) (sa_cons (se_def G__law_print hr (by decide) (by rfl) takes0 (len_cons (len_cons len_nil)) (sa_cons (se_var (pv 10)) (sa_cons (se_var (pv 2)) sa_nil))) sa_nil)))))
  (sss_one (ss_ret (se_cmp (op_neD hr.units) od_ne (se_fr (se_lcv [("_law_pair", 11)] rfl sc.nd (si_seq (se_var (pv 9))) (blkOk_by (N := ["_law_cup_here", "_law_folds_here", "_law_beside", "_law_told", "_law_due", "_law_strip_here", "_law_some_here", "_law_one", "_law_two", "_law_pairs", "_law_place_here", "_law_pair"]) (sc := defScope s__law_right) (by decide +kernel)) (fun _ _ _ _ _ => (sg_name (pg_name (i := 11) sc.nd rfl (by first | exact Or.inl rfl | exact Or.inr rfl)))) (fun _ _ _ _ _ => (spt_one (st_not (st_val (se_def G__law_is_doubled hr (by decide) (by rfl) takes0 (len_cons (len_cons (len_cons len_nil))) (sa_cons (se_ix (se_var (pv 11)) (se_c (p := (.int 0)) rfl pe_int)) (sa_cons (se_ix (se_var (pv 11)) (se_c (p := (.int 1)) rfl pe_int)) (sa_cons (se_op op_sub od_sub (se_callB call_len cd_len (by rfl) Z.z_len (by decide +kernel) (sa_cons (se_var (pv 1)) sa_nil)) (se_callB call_len cd_len (by rfl) Z.z_len (by decide +kernel) (sa_cons (se_var (pv 2)) sa_nil))) sa_nil)))))))) (fun _ _ _ _ _ => (se_var (pv 11))))) (se_fr (se_lst sa_nil)) (nomark _))))) sss_nil)
  (sss_one (ss_ret (se_c (p := (.bool true)) rfl pe_bl))))))))))
abbrev s__law_like_row : Stmt := top 38
theorem sc__law_like_row : FnScope ["_law_cup_here", "_law_folds_here", "_law_turn", "_law_first", "_law_last", "_law_part", "_law_crease"] ["_law_cup_here", "_law_folds_here"] (defScope s__law_like_row) := ⟨rfl, rfl, rfl, by decide +kernel, rfl, by decide +kernel, by decide +kernel⟩
theorem ok__law_like_row (Z : Zs mg) (G__law_roll : DefOk P w K mg base 1 "_law_roll" ["_law_cup_here", "_law_many"] F__law_roll) {f : Addr} (F : ∃ fd, FunD K "_law_like_row" "_law_like_row" (defArgs s__law_like_row) (defBody s__law_like_row) (defScope s__law_like_row) [] [] f fd) (hm : mg "_law_like_row" = some (.ref f)) : DefOk P w K mg base 2 "_law_like_row" ["_law_cup_here", "_law_folds_here"] F__law_like_row := by
  have sc := sc__law_like_row
  refine DefOk.fr (N := 7) (b := b__law_like_row) (def_mk (k := 1) (N := ["_law_cup_here", "_law_folds_here", "_law_turn", "_law_first", "_law_last", "_law_part", "_law_crease"]) (ps := ["_law_cup_here", "_law_folds_here"]) (b := b__law_like_row) F sc hm (fun _ _ _ _ _ _ us hl => match us, hl with | [_, _], _ => rfl) fun cdv A outer s H E hr => ?_)
  have tk : Takes (cxOf (L2.CX P w) P w K mg base ["_law_cup_here", "_law_folds_here", "_law_turn", "_law_first", "_law_last", "_law_part", "_law_crease"] "_law_like_row" (defScope s__law_like_row) f cdv A outer s H E) (fun c o _ H' => E c o H') := takes_of rfl rfl rfl rfl
  exact (sss_cons (ss_for (passes_of rfl) rfl (si_range1 (by rfl) Z.z_range (sa_cons (se_c (p := (.int 3)) rfl pe_int) sa_nil)) (sg_name (pg_name (i := 2) sc.nd rfl (by first | exact Or.inl rfl | exact Or.inr rfl))) (sss_cons (ss_set (ps_set (i := 3) sc.nd rfl (by first | exact Or.inl rfl | exact Or.inr rfl) (se_def G__law_roll hr (by decide) (by rfl) tk (len_cons (len_cons len_nil)) (sa_cons (se_var (pv 0)) (sa_cons (se_callB (call_max2 rfl) cd_max2 (by rfl) Z.z_max (by decide +kernel) (sa_cons (se_c (p := (.int 1)) rfl pe_int) (sa_cons (se_callB call_len cd_len (by rfl) Z.z_len (by decide +kernel) (sa_cons (se_var (pv 1)) sa_nil)) sa_nil))) sa_nil)))))
  (sss_cons (ss_set (ps_set (i := 4) sc.nd rfl (by first | exact Or.inl rfl | exact Or.inr rfl) (se_op op_addA od_add (se_var (pv 3)) (se_def G__law_roll hr (by decide) (by rfl) tk (len_cons (len_cons len_nil)) (sa_cons (se_var (pv 0)) (sa_cons (se_callB (call_max2 rfl) cd_max2 (by rfl) Z.z_max (by decide +kernel) (sa_cons (se_c (p := (.int 1)) rfl pe_int) (sa_cons (se_op op_sub od_sub (se_callB call_len cd_len (by rfl) Z.z_len (by decide +kernel) (sa_cons (se_var (pv 1)) sa_nil)) (se_var (pv 3))) sa_nil))) sa_nil))))))
  (sss_cons (ss_set (ps_set (i := 5) sc.nd rfl (by first | exact Or.inl rfl | exact Or.inr rfl) (se_fr (se_sl (se_var (pv 1)) (so_some (se_var (pv 3))) (so_some (se_op op_addA od_add (se_var (pv 4)) (se_c (p := (.int 1)) rfl pe_int)))))))
  (sss_one (ss_if (st_cmp (op_neD hr.units) od_ne (se_var (pv 5)) (se_tup sa_nil) (nomark _)) (sss_one (ss_set (ps_set (i := 1) sc.nd rfl (by first | exact Or.inl rfl | exact Or.inr rfl) (se_op op_addA od_add (se_op op_addA od_add (se_fr (se_sl (se_var (pv 1)) so_none (so_some (se_var (pv 3))))) (se_callTy call_tuple_of cd_tup (by rfl) Z.z_tuple (by decide +kernel) (sa_cons (se_fr (se_lcv [("_law_crease", 6)] rfl sc.nd (si_seq (se_fr (se_rev (se_var (pv 5))))) (blkOk_by (N := ["_law_cup_here", "_law_folds_here", "_law_turn", "_law_first", "_law_last", "_law_part", "_law_crease"]) (sc := defScope s__law_like_row) (by decide +kernel)) (fun _ _ _ _ _ => (sg_name (pg_name (i := 6) sc.nd rfl (by first | exact Or.inl rfl | exact Or.inr rfl)))) (fun _ _ _ _ _ => spt_nil) (fun _ _ _ _ _ => (se_op op_sub od_sub (se_fr (se_op op_addA od_add (se_ix (se_var (pv 5)) (se_c (p := (.int 0)) rfl pe_int)) (se_ix (se_var (pv 5)) (se_un un_neg ud_neg (se_c (p := (.int 1)) rfl pe_int))))) (se_var (pv 6)))))) sa_nil))) (se_fr (se_sl (se_var (pv 1)) (so_some (se_op op_addA od_add (se_var (pv 4)) (se_c (p := (.int 1)) rfl pe_int))) so_none)))))) sss_nil))))))
  (sss_one (ss_ret (se_var (pv 1)))))
abbrev s_law : Stmt := top 45
theorem sc_law : FnScope ["_law_script", "_law_cup_here", "_law_turn", "_law_folds_here", "_law_more_here", "_law_other"] ["_law_script"] (defScope s_law) := ⟨rfl, rfl, rfl, by decide +kernel, rfl, by decide +kernel, by decide +kernel⟩
theorem ok_law (Z : Zs mg) (G__law_cup : DefOk P w K mg base 1 "_law_cup" ["_law_script"] F__law_cup) (G__law_roll : DefOk P w K mg base 1 "_law_roll" ["_law_cup_here", "_law_many"] F__law_roll) (G__law_some : DefOk P w K mg base 2 "_law_some" ["_law_cup_here", "_law_things"] F__law_some) (G__law_folds : DefOk P w K mg base 3 "_law_folds" ["_law_cup_here", "_law_most"] F__law_folds) (G__law_some_folds : DefOk P w K mg base 4 "_law_some_folds" ["_law_cup_here", "_law_most"] F__law_some_folds) (G__law_more : DefOk P w K mg base 2 "_law_more" ["_law_cup_here", "_law_folds_here", "_law_many"] F__law_more) (G_doublings : DefOk P w K mg base 6 "doublings" ["folds", "beside"] F_doublings) (G__law_right : DefOk P w K mg base 7 "_law_right" ["_law_cup_here", "_law_folds_here", "_law_beside"] F__law_right) (G__law_like_row : DefOk P w K mg base 2 "_law_like_row" ["_law_cup_here", "_law_folds_here"] F__law_like_row) {f : Addr} {fd : FuncData} (F : FunD K "law" "law" (defArgs s_law) (defBody s_law) (defScope s_law) [] [] f fd)
    (hF : ∀ ns : List Int, ns.length ≤ 63 → ∃ S', runM 6 b_law [.py (.list (ofInts ns))] [] = .ok (.py (.bool true)) S') : FnOk P w K mg base CX0 8 f fd ["_law_script"] (spLaw K) := by
  have sc := sc_law
  refine law_mk (b := b_law) F sc (fun cdv A outer s H E hr => ?_) hF
  have tk : Takes (cxOf CX0 P w K mg base ["_law_script", "_law_cup_here", "_law_turn", "_law_folds_here", "_law_more_here", "_law_other"] "law" (defScope s_law) f cdv A outer s H E).nox W0 := takes0
  exact (sss_cons (ss_set (ps_set (i := 1) sc.nd rfl (by first | exact Or.inl rfl | exact Or.inr rfl) (se_def G__law_cup hr (by decide) (by rfl) tk (len_cons len_nil) (sa_cons (se_var (pv 0)) sa_nil))))
  (sss_cons (ss_for PassesOwn.never rfl (si_range1 (by rfl) Z.z_range (sa_cons (se_c (p := (.int 4)) rfl pe_int) sa_nil)) (sg_name (pg_name (i := 2) sc.nd rfl (by first | exact Or.inl rfl | exact Or.inr rfl))) (sss_cons (ss_set (ps_set (i := 3) sc.nd rfl (by first | exact Or.inl rfl | exact Or.inr rfl) (se_def G__law_some_folds hr (by decide) (by rfl) tk (len_cons (len_cons len_nil)) (sa_cons (se_var (pv 1)) (sa_cons (se_c (p := (.int 5)) rfl pe_int) sa_nil)))))
  (sss_cons (ss_set (ps_set (i := 4) sc.nd rfl (by first | exact Or.inl rfl | exact Or.inr rfl) (se_def G__law_more hr (by decide) (by rfl) tk (len_cons (len_cons (len_cons len_nil))) (sa_cons (se_var (pv 1)) (sa_cons (se_def G__law_like_row hr (by decide) (by rfl) tk (len_cons (len_cons len_nil)) (sa_cons (se_var (pv 1)) (sa_cons (se_var (pv 3)) sa_nil))) (sa_cons (se_def G__law_roll hr (by decide) (by rfl) tk (len_cons (len_cons len_nil)) (sa_cons (se_var (pv 1)) (sa_cons (se_c (p := (.int 3)) rfl pe_int) sa_nil))) sa_nil))))))
  (sss_cons (ss_set (ps_set (i := 5) sc.nd rfl (by first | exact Or.inl rfl | exact Or.inr rfl) (se_def G__law_some hr (by decide) (by rfl) tk (len_cons (len_cons len_nil)) (sa_cons (se_var (pv 1)) (sa_cons (se_fr (se_lst (sa_cons (se_var (pv 4)) (sa_cons (se_var (pv 4)) (sa_cons (se_def G__law_folds hr (by decide) (by rfl) tk (len_cons (len_cons len_nil)) (sa_cons (se_var (pv 1)) (sa_cons (se_c (p := (.int 5)) rfl pe_int) sa_nil))) (sa_cons (se_fr (se_sl (se_var (pv 4)) so_none (so_some (se_un un_neg ud_neg (se_c (p := (.int 1)) rfl pe_int))))) sa_nil)))))) sa_nil)))))
  (sss_one (ss_if (st_not (st_val (se_def G__law_right hr (by decide) (by rfl) tk (len_cons (len_cons (len_cons len_nil))) (sa_cons (se_var (pv 1)) (sa_cons (se_var (pv 3)) (sa_cons (se_var (pv 5)) sa_nil)))))) (sss_one (ss_ret (se_c (p := (.bool false)) rfl pe_bl))) sss_nil))))))
  (sss_cons (ss_if (st_w (sw_or (st_cmp (op_neD hr.units) od_ne (se_def G_doublings hr (by decide) (by rfl) tk (len_cons (len_cons len_nil)) (sa_cons (se_tup (sa_cons (se_c (p := (.int 0)) rfl pe_int) (sa_cons (se_c (p := (.int 0)) rfl pe_int) (sa_cons (se_c (p := (.int 2)) rfl pe_int) sa_nil)))) (sa_cons (se_tup (sa_cons (se_c (p := (.int 0)) rfl pe_int) (sa_cons (se_c (p := (.int 2)) rfl pe_int) sa_nil))) sa_nil))) (se_c (p := (.int 1)) rfl pe_int) (nomark _)) (sw_or (st_cmp (op_neD hr.units) od_ne (se_def G_doublings hr (by decide) (by rfl) tk (len_cons (len_cons len_nil)) (sa_cons (se_tup (sa_cons (se_c (p := (.int 0)) rfl pe_int) (sa_cons (se_c (p := (.int 2)) rfl pe_int) sa_nil))) (sa_cons (se_tup (sa_cons (se_c (p := (.int 0)) rfl pe_int) (sa_cons (se_c (p := (.int 2)) rfl pe_int) (sa_cons (se_c (p := (.int 2)) rfl pe_int) (sa_cons (se_c (p := (.int 2)) rfl pe_int) sa_nil))))) sa_nil))) (se_un un_neg ud_neg (se_c (p := (.int 2)) rfl pe_int)) (nomark _)) (sw_or (st_cmp op_isnotA od_isnot (se_def G_doublings hr (by decide) (by rfl) tk (len_cons (len_cons len_nil)) (sa_cons (se_tup (sa_cons (se_c (p := (.int 0)) rfl pe_int) sa_nil)) (sa_cons (se_tup sa_nil) sa_nil))) (se_c (p := .none) rfl pe_non) (nomark _)) (sw_or1 (st_cmp (op_neD hr.units) od_ne (se_def G_doublings hr (by decide) (by rfl) tk (len_cons (len_cons len_nil)) (sa_cons (se_tup sa_nil) (sa_cons (se_tup sa_nil) sa_nil))) (se_c (p := (.int 0)) rfl pe_int) (nomark _))))))) (sss_one (ss_ret (se_c (p := (.bool false)) rfl pe_bl))) sss_nil)
  (sss_cons (ss_if (st_w (sw_or (st_cmp (op_neD hr.units) od_ne (se_def G_doublings hr (by decide) (by rfl) tk (len_cons (len_cons len_nil)) (sa_cons (se_op op_mulA od_mul (se_tup (sa_cons (se_c (p := (.int 3)) rfl pe_int) sa_nil)) (se_c (p := (.int 12)) rfl pe_int)) (sa_cons (se_tup (sa_cons (se_c (p := (.int 3)) rfl pe_int) sa_nil)) sa_nil))) (se_c (p := (.int 11)) rfl pe_int) (nomark _)) (sw_or (st_cmp (op_neD hr.units) od_ne (se_def G_doublings hr (by decide) (by rfl) tk (len_cons (len_cons len_nil)) (sa_cons (se_tup (sa_cons (se_c (p := (.int 0)) rfl pe_int) (sa_cons (se_c (p := (.int 0)) rfl pe_int) (sa_cons (se_c (p := (.int 1)) rfl pe_int) (sa_cons (se_c (p := (.int 1)) rfl pe_int) sa_nil))))) (sa_cons (se_tup (sa_cons (se_c (p := (.int 0)) rfl pe_int) (sa_cons (se_c (p := (.int 1)) rfl pe_int) (sa_cons (se_c (p := (.int 1)) rfl pe_int) (sa_cons (se_c (p := (.int 1)) rfl pe_int) sa_nil))))) sa_nil))) (se_c (p := (.int 0)) rfl pe_int) (nomark _)) (sw_or1 (st_cmp op_isnotA od_isnot (se_def G_doublings hr (by decide) (by rfl) tk (len_cons (len_cons len_nil)) (sa_cons (se_tup (sa_cons (se_c (p := (.int 0)) rfl pe_int) (sa_cons (se_c (p := (.int 0)) rfl pe_int) (sa_cons (se_c (p := (.int 1)) rfl pe_int) sa_nil)))) (sa_cons (se_tup (sa_cons (se_c (p := (.int 1)) rfl pe_int) (sa_cons (se_c (p := (.int 0)) rfl pe_int) (sa_cons (se_c (p := (.int 0)) rfl pe_int) sa_nil)))) sa_nil))) (se_c (p := .none) rfl pe_non) (nomark _)))))) (sss_one (ss_ret (se_c (p := (.bool false)) rfl pe_bl))) sss_nil)
  (sss_one (ss_ret (se_and (se_def G__law_right hr (by decide) (by rfl) tk (len_cons (len_cons (len_cons len_nil))) (sa_cons (se_var (pv 1)) (sa_cons (se_tup (sa_cons (se_c (p := (.int 0)) rfl pe_int) (sa_cons (se_c (p := (.int 1)) rfl pe_int) (sa_cons (se_c (p := (.int 3)) rfl pe_int) sa_nil)))) (sa_cons (se_tup (sa_cons (se_c (p := (.int 0)) rfl pe_int) (sa_cons (se_c (p := (.int 0)) rfl pe_int) (sa_cons (se_c (p := (.int 2)) rfl pe_int) (sa_cons (se_c (p := (.int 3)) rfl pe_int) sa_nil))))) sa_nil)))) (se_and (se_def G__law_right hr (by decide) (by rfl) tk (len_cons (len_cons (len_cons len_nil))) (sa_cons (se_var (pv 1)) (sa_cons (se_tup (sa_cons (se_c (p := (.int 5)) rfl pe_int) (sa_cons (se_c (p := (.int 5)) rfl pe_int) sa_nil))) (sa_cons (se_tup (sa_cons (se_c (p := (.int 5)) rfl pe_int) sa_nil)) sa_nil)))) (se_and (se_def G__law_right hr (by decide) (by rfl) tk (len_cons (len_cons (len_cons len_nil))) (sa_cons (se_var (pv 1)) (sa_cons (se_tup sa_nil) (sa_cons (se_tup (sa_cons (se_c (p := (.int 2)) rfl pe_int) sa_nil)) sa_nil)))) (se_one (se_def G__law_right hr (by decide) (by rfl) tk (len_cons (len_cons (len_cons len_nil))) (sa_cons (se_var (pv 1)) (sa_cons (se_tup (sa_cons (se_c (p := (.int 0)) rfl pe_int) (sa_cons (se_c (p := (.int 2)) rfl pe_int) sa_nil))) (sa_cons (se_tup (sa_cons (se_c (p := (.int 0)) rfl pe_int) (sa_cons (se_c (p := (.int 4)) rfl pe_int) sa_nil))) sa_nil))))))))))))))
end

end LW
end P_B
section P_C
set_option maxHeartbeats 0
namespace LW
open PySem PySem.Spec PyProof.Rows L2 PX
def d__law_cup : He.DefD := ⟨("_law_cup", none), "_law_cup", "_law_cup", defArgs s__law_cup, defBody s__law_cup, defScope s__law_cup, [], []⟩
def d__law_roll : He.DefD := ⟨("_law_roll", none), "_law_roll", "_law_roll", defArgs s__law_roll, defBody s__law_roll, defScope s__law_roll, [], []⟩
def d__law_some : He.DefD := ⟨("_law_some", none), "_law_some", "_law_some", defArgs s__law_some, defBody s__law_some, defScope s__law_some, [], []⟩
def d__law_folds : He.DefD := ⟨("_law_folds", none), "_law_folds", "_law_folds", defArgs s__law_folds, defBody s__law_folds, defScope s__law_folds, [], []⟩
def d__law_some_folds : He.DefD := ⟨("_law_some_folds", none), "_law_some_folds", "_law_some_folds", defArgs s__law_some_folds, defBody s__law_some_folds, defScope s__law_some_folds, [], []⟩
def d__law_more : He.DefD := ⟨("_law_more", none), "_law_more", "_law_more", defArgs s__law_more, defBody s__law_more, defScope s__law_more, [], []⟩
def d_is_tuple_up_to : He.DefD := ⟨("is_tuple_up_to", none), "is_tuple_up_to", "is_tuple_up_to", defArgs s_is_tuple_up_to, defBody s_is_tuple_up_to, defScope s_is_tuple_up_to, [], []⟩
def d_is_whole : He.DefD := ⟨("is_whole", none), "is_whole", "is_whole", defArgs s_is_whole, defBody s_is_whole, defScope s_is_whole, [], []⟩
def d_is_from_to : He.DefD := ⟨("is_from_to", none), "is_from_to", "is_from_to", defArgs s_is_from_to, defBody s_is_from_to, defScope s_is_from_to, [], []⟩
def d_is_crease : He.DefD := ⟨("is_crease", none), "is_crease", "is_crease", defArgs s_is_crease, defBody s_is_crease, defScope s_is_crease, [], []⟩
def d_fits_folds : He.DefD := ⟨("fits_folds", none), "fits_folds", "fits_folds", defArgs s_fits_folds, defBody s_fits_folds, defScope s_fits_folds, [], []⟩
def d_check_folds : He.DefD := ⟨("check_folds", none), "check_folds", "check_folds", defArgs s_check_folds, defBody s_check_folds, defScope s_check_folds, [], []⟩
def d_steps_between : He.DefD := ⟨("steps_between", none), "steps_between", "steps_between", defArgs s_steps_between, defBody s_steps_between, defScope s_steps_between, [], []⟩
def d_form_between : He.DefD := ⟨("form_between", none), "form_between", "form_between", defArgs s_form_between, defBody s_form_between, defScope s_form_between, [], []⟩
def d_do_the_same : He.DefD := ⟨("do_the_same", none), "do_the_same", "do_the_same", defArgs s_do_the_same, defBody s_do_the_same, defScope s_do_the_same, [], []⟩
def d_without_halts : He.DefD := ⟨("without_halts", none), "without_halts", "without_halts", defArgs s_without_halts, defBody s_without_halts, defScope s_without_halts, [], []⟩
def d_doublings : He.DefD := ⟨("doublings", none), "doublings", "doublings", defArgs s_doublings, defBody s_doublings, defScope s_doublings, [], []⟩
def d__law_tidy : He.DefD := ⟨("_law_tidy", none), "_law_tidy", "_law_tidy", defArgs s__law_tidy, defBody s__law_tidy, defScope s__law_tidy, [], []⟩
def d__law_strip : He.DefD := ⟨("_law_strip", none), "_law_strip", "_law_strip", defArgs s__law_strip, defBody s__law_strip, defScope s__law_strip, [], []⟩
def d_rows_alike : He.DefD := ⟨("rows_alike", none), "rows_alike", "rows_alike", defArgs s_rows_alike, defBody s_rows_alike, defScope s_rows_alike, [], []⟩
def d__law_steps : He.DefD := ⟨("_law_steps", none), "_law_steps", "_law_steps", defArgs s__law_steps, defBody s__law_steps, defScope s__law_steps, [], []⟩
def d__law_plain : He.DefD := ⟨("_law_plain", none), "_law_plain", "_law_plain", defArgs s__law_plain, defBody s__law_plain, defScope s__law_plain, [], []⟩
def d__law_fold : He.DefD := ⟨("_law_fold", none), "_law_fold", "_law_fold", defArgs s__law_fold, defBody s__law_fold, defScope s__law_fold, [], []⟩
def d__law_folded : He.DefD := ⟨("_law_folded", none), "_law_folded", "_law_folded", defArgs s__law_folded, defBody s__law_folded, defScope s__law_folded, [], []⟩
def d__law_print : He.DefD := ⟨("_law_print", none), "_law_print", "_law_print", defArgs s__law_print, defBody s__law_print, defScope s__law_print, [], []⟩
def d__law_times : He.DefD := ⟨("_law_times", none), "_law_times", "_law_times", defArgs s__law_times, defBody s__law_times, defScope s__law_times, [], []⟩
def d__law_power : He.DefD := ⟨("_law_power", none), "_law_power", "_law_power", defArgs s__law_power, defBody s__law_power, defScope s__law_power, [], []⟩
def d__law_is_doubled : He.DefD := ⟨("_law_is_doubled", none), "_law_is_doubled", "_law_is_doubled", defArgs s__law_is_doubled, defBody s__law_is_doubled, defScope s__law_is_doubled, [], []⟩
def d__law_right : He.DefD := ⟨("_law_right", none), "_law_right", "_law_right", defArgs s__law_right, defBody s__law_right, defScope s__law_right, [], []⟩
def d__law_like_row : He.DefD := ⟨("_law_like_row", none), "_law_like_row", "_law_like_row", defArgs s__law_like_row, defBody s__law_like_row, defScope s__law_like_row, [], []⟩
def d_law : He.DefD := ⟨("law", none), "law", "law", defArgs s_law, defBody s_law, defScope s_law, [], []⟩
def fn : List He.DefD := [d__law_cup, d__law_roll, d__law_some, d__law_folds, d__law_some_folds, d__law_more, d_is_tuple_up_to, d_is_whole, d_is_from_to, d_is_crease, d_fits_folds, d_check_folds, d_steps_between, d_form_between, d_do_the_same, d_without_halts, d_doublings, d__law_tidy, d__law_strip, d_rows_alike, d__law_steps, d__law_plain, d__law_fold, d__law_folded, d__law_print, d__law_times, d__law_power, d__law_is_doubled, d__law_right, d__law_like_row, d_law]
def fa : List He.Fa := [.glo "_law_cup", .glo "_law_roll", .glo "_law_some", .glo "_law_folds", .glo "_law_some_folds", .glo "_law_more", .glo "is_tuple_up_to", .glo "is_whole", .glo "is_from_to", .glo "is_crease", .glo "fits_folds", .glo "check_folds", .glo "steps_between", .glo "form_between", .glo "do_the_same", .glo "without_halts", .glo "doublings", .glo "_law_tidy", .glo "_law_strip", .glo "rows_alike", .glo "_law_steps", .glo "_law_plain", .glo "_law_fold", .glo "_law_folded", .glo "_law_print", .glo "_law_times", .glo "_law_power", .glo "_law_is_doubled", .glo "_law_right", .glo "_law_like_row", .glo "law", .free "abs", .free "all", .free "bool", .free "int", .free "isinstance", .free "len", .free "list", .free "max", .free "range", .free "sorted", .free "tuple", .free "zip", .int "GREATEST_CREASE" 1000000, .int "MOST_FOLDS" 12]
abbrev R : PySem.W.OpenRow := PySem.W.OpenLaw.row PySem.Challenge.rw_wetfolds_k16_whole_rows_that_double_othe
abbrev hk : PySem.W.Hook := He.hookD 4 fa fn
def ob (s : PySem.W.SharedT) : He.AlD := He.obsDG 4 fa fn (HandSHeadRun.getT s)
theorem ob_eq (s : PySem.W.SharedT) : ob s = hk.obs s.abs := He.obsDG_eq (HandSHeadRun.getT_eq s)
def loose : List Str := (["FoldError", "InvalidFolds", "GREATEST_CREASE", "MOST_FOLDS", "is_whole", "is_from_to", "is_crease", "is_tuple_up_to", "fits_folds", "check_folds", "steps_between", "form_between", "rows_alike", "doublings", "do_the_same", "without_halts", "_law_cup", "_law_roll", "_law_some", "_law_tidy", "_law_fold", "_law_folded", "_law_print", "_law_steps", "_law_form", "_law_place", "_law_together", "_law_folds", "_law_some_folds", "_law_strip"] : List Str) ++ (["_law_strip_on", "_law_own_mirror", "_law_like_row", "_law_power", "_law_times", "_law_more", "_law_plain", "_law_right", "_law_is_doubled"] : List Str)
theorem run_ (w : World) : HandSHeadRun.RunEq R (PySem.W.view R.prog [45]) hk ob 3000 loose w := by
  intro os
  kernel_rfl
theorem facts {P : Program} {w : World} {K : PySem.W.Frag} {h : Heap} {mg : Str → Option Value} {f : Addr} (hF : ∀ ns : List Int, ns.length ≤ 63 → ∃ S', runM 6 b_law [.py (.list (ofInts ns))] [] = .ok (.py (.bool true)) S') (X : K.In h) (G : h.Ns mainGlobals mg) (hfa : mg ("law" : Str) = some (.ref f)) (c : He.SaysD fa fn K) :
    ∃ fd : FuncData, (∀ (s : Shared) (v : Value), BindsTo s fd ⟨[v], []⟩ [("_law_script", v)]) ∧ ∀ base : Heap, K.In base → base.Ns mainGlobals mg → FnOk P w K mg base CX0 8 f fd ["_law_script"] (spLaw K) := by
  have Z : Zs mg := ⟨He.free_ok X G (c.fact 31 (f := .free "abs") rfl), He.free_ok X G (c.fact 32 (f := .free "all") rfl), He.free_ok X G (c.fact 33 (f := .free "bool") rfl), He.free_ok X G (c.fact 34 (f := .free "int") rfl), He.free_ok X G (c.fact 35 (f := .free "isinstance") rfl), He.free_ok X G (c.fact 36 (f := .free "len") rfl), He.free_ok X G (c.fact 37 (f := .free "list") rfl), He.free_ok X G (c.fact 38 (f := .free "max") rfl), He.free_ok X G (c.fact 39 (f := .free "range") rfl), He.free_ok X G (c.fact 40 (f := .free "sorted") rfl), He.free_ok X G (c.fact 41 (f := .free "tuple") rfl), He.free_ok X G (c.fact 42 (f := .free "zip") rfl), He.int_ok X G (c.fact 43 (f := .int "GREATEST_CREASE" 1000000) rfl), He.int_ok X G (c.fact 44 (f := .int "MOST_FOLDS" 12) rfl)⟩
  have g__law_cup := He.glo_ok X G (c.fact 0 (f := .glo "_law_cup") rfl)
  have F__law_cup_ := c.def_ 0 (d := d__law_cup) rfl
  have G__law_cup : ∀ base, DefOk P w K mg base 1 "_law_cup" ["_law_script"] F__law_cup := fun base => ok__law_cup Z F__law_cup_ g__law_cup
  have g__law_roll := He.glo_ok X G (c.fact 1 (f := .glo "_law_roll") rfl)
  have F__law_roll_ := c.def_ 1 (d := d__law_roll) rfl
  have G__law_roll : ∀ base, DefOk P w K mg base 1 "_law_roll" ["_law_cup_here", "_law_many"] F__law_roll := fun base => ok__law_roll Z F__law_roll_ g__law_roll
  have g__law_some := He.glo_ok X G (c.fact 2 (f := .glo "_law_some") rfl)
  have F__law_some_ := c.def_ 2 (d := d__law_some) rfl
  have G__law_some : ∀ base, DefOk P w K mg base 2 "_law_some" ["_law_cup_here", "_law_things"] F__law_some := fun base => ok__law_some Z (G__law_roll base) F__law_some_ g__law_some
  have g__law_folds := He.glo_ok X G (c.fact 3 (f := .glo "_law_folds") rfl)
  have F__law_folds_ := c.def_ 3 (d := d__law_folds) rfl
  have G__law_folds : ∀ base, DefOk P w K mg base 3 "_law_folds" ["_law_cup_here", "_law_most"] F__law_folds := fun base => ok__law_folds Z (G__law_roll base) (G__law_some base) F__law_folds_ g__law_folds
  have g__law_some_folds := He.glo_ok X G (c.fact 4 (f := .glo "_law_some_folds") rfl)
  have F__law_some_folds_ := c.def_ 4 (d := d__law_some_folds) rfl
  have G__law_some_folds : ∀ base, DefOk P w K mg base 4 "_law_some_folds" ["_law_cup_here", "_law_most"] F__law_some_folds := fun base => ok__law_some_folds Z (G__law_roll base) (G__law_folds base) F__law_some_folds_ g__law_some_folds
  have g__law_more := He.glo_ok X G (c.fact 5 (f := .glo "_law_more") rfl)
  have F__law_more_ := c.def_ 5 (d := d__law_more) rfl
  have G__law_more : ∀ base, DefOk P w K mg base 2 "_law_more" ["_law_cup_here", "_law_folds_here", "_law_many"] F__law_more := fun base => ok__law_more Z (G__law_roll base) F__law_more_ g__law_more
  have g_is_tuple_up_to := He.glo_ok X G (c.fact 6 (f := .glo "is_tuple_up_to") rfl)
  have F_is_tuple_up_to_ := c.def_ 6 (d := d_is_tuple_up_to) rfl
  have G_is_tuple_up_to : ∀ base, DefOk P w K mg base 1 "is_tuple_up_to" ["value", "most"] F_is_tuple_up_to := fun base => ok_is_tuple_up_to Z F_is_tuple_up_to_ g_is_tuple_up_to
  have g_is_whole := He.glo_ok X G (c.fact 7 (f := .glo "is_whole") rfl)
  have F_is_whole_ := c.def_ 7 (d := d_is_whole) rfl
  have G_is_whole : ∀ base, DefOk P w K mg base 1 "is_whole" ["value"] F_is_whole := fun base => ok_is_whole Z F_is_whole_ g_is_whole
  have g_is_from_to := He.glo_ok X G (c.fact 8 (f := .glo "is_from_to") rfl)
  have F_is_from_to_ := c.def_ 8 (d := d_is_from_to) rfl
  have G_is_from_to : ∀ base, DefOk P w K mg base 2 "is_from_to" ["value", "least", "greatest"] F_is_from_to := fun base => ok_is_from_to Z (G_is_whole base) F_is_from_to_ g_is_from_to
  have g_is_crease := He.glo_ok X G (c.fact 9 (f := .glo "is_crease") rfl)
  have F_is_crease_ := c.def_ 9 (d := d_is_crease) rfl
  have G_is_crease : ∀ base, DefOk P w K mg base 3 "is_crease" ["value"] F_is_crease := fun base => ok_is_crease Z (G_is_from_to base) F_is_crease_ g_is_crease
  have g_fits_folds := He.glo_ok X G (c.fact 10 (f := .glo "fits_folds") rfl)
  have F_fits_folds_ := c.def_ 10 (d := d_fits_folds) rfl
  have G_fits_folds : ∀ base, DefOk P w K mg base 4 "fits_folds" ["value"] F_fits_folds := fun base => ok_fits_folds Z (G_is_tuple_up_to base) (G_is_crease base) F_fits_folds_ g_fits_folds
  have g_check_folds := He.glo_ok X G (c.fact 11 (f := .glo "check_folds") rfl)
  have F_check_folds_ := c.def_ 11 (d := d_check_folds) rfl
  have G_check_folds : ∀ base, DefOk P w K mg base 5 "check_folds" ["value"] F_check_folds := fun base => ok_check_folds Z (G_fits_folds base) F_check_folds_ g_check_folds
  have g_steps_between := He.glo_ok X G (c.fact 12 (f := .glo "steps_between") rfl)
  have F_steps_between_ := c.def_ 12 (d := d_steps_between) rfl
  have G_steps_between : ∀ base, DefOk P w K mg base 1 "steps_between" ["folds"] F_steps_between := fun base => ok_steps_between Z F_steps_between_ g_steps_between
  have g_form_between := He.glo_ok X G (c.fact 13 (f := .glo "form_between") rfl)
  have F_form_between_ := c.def_ 13 (d := d_form_between) rfl
  have G_form_between : ∀ base, DefOk P w K mg base 2 "form_between" ["folds"] F_form_between := fun base => ok_form_between Z (G_steps_between base) F_form_between_ g_form_between
  have g_do_the_same := He.glo_ok X G (c.fact 14 (f := .glo "do_the_same") rfl)
  have F_do_the_same_ := c.def_ 14 (d := d_do_the_same) rfl
  have G_do_the_same : ∀ base, DefOk P w K mg base 3 "do_the_same" ["folds", "beside"] F_do_the_same := fun base => ok_do_the_same Z (G_form_between base) F_do_the_same_ g_do_the_same
  have g_without_halts := He.glo_ok X G (c.fact 15 (f := .glo "without_halts") rfl)
  have F_without_halts_ := c.def_ 15 (d := d_without_halts) rfl
  have G_without_halts : ∀ base, DefOk P w K mg base 1 "without_halts" ["folds"] F_without_halts := fun base => ok_without_halts Z F_without_halts_ g_without_halts
  have g_doublings := He.glo_ok X G (c.fact 16 (f := .glo "doublings") rfl)
  have F_doublings_ := c.def_ 16 (d := d_doublings) rfl
  have G_doublings : ∀ base, DefOk P w K mg base 6 "doublings" ["folds", "beside"] F_doublings := fun base => ok_doublings Z (G_check_folds base) (G_do_the_same base) (G_without_halts base) F_doublings_ g_doublings
  have g__law_tidy := He.glo_ok X G (c.fact 17 (f := .glo "_law_tidy") rfl)
  have F__law_tidy_ := c.def_ 17 (d := d__law_tidy) rfl
  have G__law_tidy : ∀ base, DefOk P w K mg base 1 "_law_tidy" ["_law_drops"] F__law_tidy := fun base => ok__law_tidy Z F__law_tidy_ g__law_tidy
  have g__law_strip := He.glo_ok X G (c.fact 18 (f := .glo "_law_strip") rfl)
  have F__law_strip_ := c.def_ 18 (d := d__law_strip) rfl
  have G__law_strip : ∀ base, DefOk P w K mg base 3 "_law_strip" ["_law_cup_here", "_law_most"] F__law_strip := fun base => ok__law_strip Z (G__law_roll base) (G__law_some base) (G__law_tidy base) F__law_strip_ g__law_strip
  have g_rows_alike := He.glo_ok X G (c.fact 19 (f := .glo "rows_alike") rfl)
  have F_rows_alike_ := c.def_ 19 (d := d_rows_alike) rfl
  have G_rows_alike : ∀ base, DefOk P w K mg base 6 "rows_alike" ["folds", "beside"] F_rows_alike := fun base => ok_rows_alike Z (G_check_folds base) (G_do_the_same base) F_rows_alike_ g_rows_alike
  have g__law_steps := He.glo_ok X G (c.fact 20 (f := .glo "_law_steps") rfl)
  have F__law_steps_ := c.def_ 20 (d := d__law_steps) rfl
  have G__law_steps : ∀ base, DefOk P w K mg base 1 "_law_steps" ["_law_folds_here"] F__law_steps := fun base => ok__law_steps Z F__law_steps_ g__law_steps
  have g__law_plain := He.glo_ok X G (c.fact 21 (f := .glo "_law_plain") rfl)
  have F__law_plain_ := c.def_ 21 (d := d__law_plain) rfl
  have G__law_plain : ∀ base, DefOk P w K mg base 2 "_law_plain" ["_law_folds_here"] F__law_plain := fun base => ok__law_plain Z (G__law_steps base) F__law_plain_ g__law_plain
  have g__law_fold := He.glo_ok X G (c.fact 22 (f := .glo "_law_fold") rfl)
  have F__law_fold_ := c.def_ 22 (d := d__law_fold) rfl
  have G__law_fold : ∀ base, DefOk P w K mg base 2 "_law_fold" ["_law_strip_here", "_law_crease"] F__law_fold := fun base => ok__law_fold Z (G__law_tidy base) F__law_fold_ g__law_fold
  have g__law_folded := He.glo_ok X G (c.fact 23 (f := .glo "_law_folded") rfl)
  have F__law_folded_ := c.def_ 23 (d := d__law_folded) rfl
  have G__law_folded : ∀ base, DefOk P w K mg base 3 "_law_folded" ["_law_strip_here", "_law_folds_here"] F__law_folded := fun base => ok__law_folded Z (G__law_fold base) F__law_folded_ g__law_folded
  have g__law_print := He.glo_ok X G (c.fact 24 (f := .glo "_law_print") rfl)
  have F__law_print_ := c.def_ 24 (d := d__law_print) rfl
  have G__law_print : ∀ base, DefOk P w K mg base 4 "_law_print" ["_law_place_here", "_law_folds_here"] F__law_print := fun base => ok__law_print Z (G__law_folded base) F__law_print_ g__law_print
  have g__law_times := He.glo_ok X G (c.fact 25 (f := .glo "_law_times") rfl)
  have F__law_times_ := c.def_ 25 (d := d__law_times) rfl
  have G__law_times : ∀ base, DefOk P w K mg base 1 "_law_times" ["_law_strip_here", "_law_many"] F__law_times := fun base => ok__law_times Z F__law_times_ g__law_times
  have g__law_power := He.glo_ok X G (c.fact 26 (f := .glo "_law_power") rfl)
  have F__law_power_ := c.def_ 26 (d := d__law_power) rfl
  have G__law_power : ∀ base, DefOk P w K mg base 1 "_law_power" ["_law_many"] F__law_power := fun base => ok__law_power Z F__law_power_ g__law_power
  have g__law_is_doubled := He.glo_ok X G (c.fact 27 (f := .glo "_law_is_doubled") rfl)
  have F__law_is_doubled_ := c.def_ 27 (d := d__law_is_doubled) rfl
  have G__law_is_doubled : ∀ base, DefOk P w K mg base 2 "_law_is_doubled" ["_law_one", "_law_two", "_law_times_here"] F__law_is_doubled := fun base => ok__law_is_doubled Z (G__law_times base) (G__law_power base) F__law_is_doubled_ g__law_is_doubled
  have g__law_right := He.glo_ok X G (c.fact 28 (f := .glo "_law_right") rfl)
  have F__law_right_ := c.def_ 28 (d := d__law_right) rfl
  have G__law_right : ∀ base, DefOk P w K mg base 7 "_law_right" ["_law_cup_here", "_law_folds_here", "_law_beside"] F__law_right := fun base => ok__law_right Z (G_doublings base) (G__law_strip base) (G_rows_alike base) (G__law_plain base) (G__law_folded base) (G__law_print base) (G__law_times base) (G__law_power base) (G__law_is_doubled base) F__law_right_ g__law_right
  have g__law_like_row := He.glo_ok X G (c.fact 29 (f := .glo "_law_like_row") rfl)
  have F__law_like_row_ := c.def_ 29 (d := d__law_like_row) rfl
  have G__law_like_row : ∀ base, DefOk P w K mg base 2 "_law_like_row" ["_law_cup_here", "_law_folds_here"] F__law_like_row := fun base => ok__law_like_row Z (G__law_roll base) F__law_like_row_ g__law_like_row
  obtain ⟨fd, F⟩ := c.def_ 30 (d := d_law) rfl
  have e := hfa.symm.trans (He.glo_ok X G (c.fact 30 (f := .glo "law") rfl))
  cases e
  have b := FunD.bindsA (ps := ["_law_script"]) F fun _ _ _ _ _ _ us hl => match us, hl with | [_], _ => rfl
  exact ⟨fd, fun s v => b s [v] rfl, fun base _ _ => ok_law Z (G__law_cup base) (G__law_roll base) (G__law_some base) (G__law_folds base) (G__law_some_folds base) (G__law_more base) (G_doublings base) (G__law_right base) (G__law_like_row base) F hF⟩
end LW

end P_C
section P_D
set_option maxHeartbeats 0
open PySem PySem.W PySem.Calls PyProof.Rows
set_option maxRecDepth 100000 in
set_option maxHeartbeats 0 in
theorem PySem.Challenge.cw_wetfolds_k16_whole_rows_that_double_othe_holds : PySem.Challenge.rw_wetfolds_k16_whole_rows_that_double_othe.Holds := by
  w_on; o_law
  refine HandSHeadRun.head_any (r := OpenLaw.row PySem.Challenge.rw_wetfolds_k16_whole_rows_that_double_othe) (q := view (OpenLaw.row PySem.Challenge.rw_wetfolds_k16_whole_rows_that_double_othe).prog [45]) (H := LW.hk) (ob := LW.ob) (M := 3000) (loose := LW.loose) (d := HandSHeadRun.topDef (OpenLaw.row PySem.Challenge.rw_wetfolds_k16_whole_rows_that_double_othe).prog 45) (kwd := []) LW.ob_eq
    (by kernel_rfl) (fun s => by kernel_rfl) LW.run_ (by kernel_rfl) (by kernel_rfl) (by kernel_rfl) (by rfl) (by first | assumption | decide +kernel) (by decide +kernel) ⟨rfl, rfl, rfl, rfl, rfl, by decide +kernel⟩ ?hw ?hc
  case hw => w_witness2
  case hc =>
    refine L2.walk_ofE (l := PySem.Challenge.rw_wetfolds_k16_whole_rows_that_double_othe) (n := 63) (k := 8) (x := "_law_script") (CX := L2.CX0) rfl (by decide) (by kernel_rfl) ⟨rfl, by decide, by decide⟩ ?F (fun _ _ _ _ z => z)
    intro w mg fa h Y G hmg0
    obtain ⟨K, KX, c⟩ := Y
    have hmg : mg ("law" : PySem.Str) = some (.ref fa) := by
      have e : (HandSHeadRun.topDef (OpenLaw.row PySem.Challenge.rw_wetfolds_k16_whole_rows_that_double_othe).prog 45).name = ("law" : PySem.Str) := by kernel_rfl
      rw [← e]
      exact hmg0
    obtain ⟨fd, hb, hF⟩ := LW.facts (P := (PySem.Challenge.rw_wetfolds_k16_whole_rows_that_double_othe).prog) (w := w) LW.law_true KX G hmg c
    exact ⟨K, fd, PX.spLaw K, KX, hb, fun H a ns hl _ hS => ⟨a, ns, rfl, hS, hl, fun _ => rfl⟩, hF⟩

end P_D
