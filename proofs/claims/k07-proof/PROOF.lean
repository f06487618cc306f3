import PyProof.Rows.All
import Wide.All
import OpenK.AllK
import Wide.FinOn
import HandS.ForMost
import HandS.ForExc
import HandS.TryMany
import HandS.IsInst
import HandS.Zip
import HandS.TupAny
import HandS.Gcd
import HandS.Wide
import HandS.WideBits
import HandS.ExcInit
import HandS.CallSlots
import HandS.Style
import HandS.Conv
import PyProof.ReprRoads
import HandS.TupMul
import HandS.ExcField
import HandS.Small
import KE.KExcIs
import PySem.Challenge.RW_stringrods_k07_whole_points_and_planes_o
set_option Elab.async false
set_option linter.all false
set_option maxRecDepth 100000
/-! A small evaluator of plain data beside the hand layer: data D, cells (mutable lists) by number, what a reading of the layer asks of it. -/
namespace PI
open PySem L2

inductive D where
  | non | bl (b : Bool) | int (i : Int) | str (x : Str) | tup (l : List D) | ref (n : Nat) | rol (l : List D) | ty (n : String) | cls (x : Str) | emp

abbrev HS := List (List D)
/-- an error of an own class: its name, its fields -/
structure Er where
  cls : Str
  args : List (Str × D)

inductive Res (α : Type) where
  | ok (a : α) (h : HS)
  | exc (e : Er) (h : HS)
  | stuck

def Res.bind {α β : Type} : Res α → (α → HS → Res β) → Res β
  | .ok a h, k => k a h
  | .exc e h, _ => .exc e h
  | .stuck, _ => .stuck

section
variable (K : PySem.W.Frag) (mg : Str → Option Value)

/-- a list that is read, never written -/
def RoL (H : Hp) (a : Addr) (xs : List V) : Prop := ∀ H' : Hp, (∀ o, H a = some (.frz o (.lst xs)) → H' a = some (.frz o (.lst xs))) → SqL K H' a xs
mutual
inductive Re (ι : List Addr) (H : Hp) : D → V → Prop
  | non : Re ι H .non .non
  | bl (b : Bool) : Re ι H (.bl b) (.bl b)
  | int (i : Int) : Re ι H (.int i) (.int i)
  | str (x : Str) : Re ι H (.str x) (.str x)
  | ty (n : String) : Re ι H (.ty n) (.ty n)
  | tup {a : Addr} {ds : List D} {xs : List V} : SqT K H a xs → ReL ι H ds xs → Re ι H (.tup ds) (.ref a)
  | rol {a : Addr} {ds : List D} {xs : List V} : RoL K H a xs → ReL ι H ds xs → Re ι H (.rol ds) (.ref a)
  | ref {n : Nat} {a : Addr} : ι[n]? = some a → Re ι H (.ref n) (.ref a)
  | cls {x : Str} {C : Addr} : mg x = some (.ref C) → Re ι H (.cls x) (.ref C)
  | emp {a : Addr} : H a = some (.dK []) → Re ι H .emp (.ref a)
inductive ReL (ι : List Addr) (H : Hp) : List D → List V → Prop
  | nil : ReL ι H [] []
  | cons {d : D} {v : V} {ds : List D} {vs : List V} : Re ι H d v → ReL ι H ds vs → ReL ι H (d :: ds) (v :: vs)
end

/-- the cells stand in the heap -/
structure Rep (ι : List Addr) (h : HS) (H : Hp) : Prop where
  len : ι.length = h.length
  nd : ι.Nodup
  cell : ∀ (n : Nat) (a : Addr) (l : List D), ι[n]? = some a → h[n]? = some l → ∃ xs, H a = some (.lst xs) ∧ ReL K mg ι H l xs

/-- how a heap goes on -/
structure Gr (ι : List Addr) (H : Hp) (ι' : List Addr) (H' : Hp) : Prop where
  pre : ι <+: ι'
  new : ∀ b ∈ ι', b ∈ ι ∨ H b = none
  stay : ∀ b o, b ∉ ι → H b = some o → H' b = some o
  keep : ∀ b ∈ ι, ∃ xs, H' b = some (.lst xs)

end

section
variable {K : PySem.W.Frag} {mg : Str → Option Value} {ι ι' ι1 ι2 : List Addr} {h h' h1 h2 : HS} {H H' H1 H2 : Hp}

theorem Gr.refl (R : Rep K mg ι h H) : Gr ι H ι H := by
  refine ⟨List.prefix_refl _, fun b hb => .inl hb, fun _ _ _ h => h, fun b hb => ?_⟩
  obtain ⟨n, hn, e⟩ := List.mem_iff_getElem.mp hb
  have e1 : ι[n]? = some b := by rw [List.getElem?_eq_getElem hn, e]
  have hn2 : n < h.length := by rw [← R.len]; exact hn
  obtain ⟨xs, hx, _⟩ := R.cell n b (h[n]) e1 (List.getElem?_eq_getElem hn2)
  exact ⟨xs, hx⟩
theorem Gr.trans (a : Gr ι H ι1 H1) (b : Gr ι1 H1 ι2 H2) : Gr ι H ι2 H2 := by
  refine ⟨a.pre.trans b.pre, fun x hx => ?_, fun x o hn e => ?_, fun x hx => b.keep x (a.pre.subset hx)⟩
  · rcases b.new x hx with h | h
    · exact a.new x h
    · by_cases q : x ∈ ι
      · exact .inl q
      · right
        cases e : H x with
        | none => rfl
        | some o => rw [a.stay x o q e] at h; cases h
  · have e1 := a.stay x o hn e
    have hn1 : x ∉ ι1 := fun z => by
      rcases a.new x z with q | q
      · exact hn q
      · rw [e] at q; cases q
    exact b.stay x o hn1 e1
/-- a cell is a list -/
theorem Rep.isList (R : Rep K mg ι h H) {b : Addr} (hb : b ∈ ι) : ∃ xs, H b = some (.lst xs) := (Gr.refl R).keep b hb
theorem Rep.notCell (R : Rep K mg ι h H) {b : Addr} {o : HO} (e : H b = some o) (ho : ∀ xs, o ≠ .lst xs) : b ∉ ι := fun hb => by
  obtain ⟨xs, q⟩ := R.isList hb
  rw [e] at q
  exact ho xs (Option.some.inj q)
theorem rd_stay (R : Rep K mg ι h H) (G : Gr ι H ι' H') {a : Addr} {xs : List V} (e : Rd H a (.tup xs)) : Rd H' a (.tup xs) := by
  rcases e with e | ⟨o, e⟩
  · exact .inl (G.stay a _ (R.notCell e fun _ z => nomatch z) e)
  · exact .inr ⟨o, G.stay a _ (R.notCell e fun _ z => nomatch z) e⟩
theorem sqt_stay (R : Rep K mg ι h H) (G : Gr ι H ι' H') {a : Addr} {xs : List V} (e : SqT K H a xs) : SqT K H' a xs := by
  rcases e with e | e
  · exact .inl (rd_stay R G e)
  · exact .inr e
theorem rol_stay (R : Rep K mg ι h H) (G : Gr ι H ι' H') {a : Addr} {xs : List V} (e : RoL K H a xs) : RoL K H' a xs := fun H2 k => e H2 fun o q => k o (G.stay a _ (R.notCell q fun _ z => nomatch z) q)
theorem RoL.now {a : Addr} {xs : List V} (e : RoL K H a xs) : SqL K H a xs := e H fun _ q => q
mutual
theorem Re.mono (R : Rep K mg ι h H) (G : Gr ι H ι' H') : ∀ {d : D} {v : V}, Re K mg ι H d v → Re K mg ι' H' d v
  | _, _, .non => .non
  | _, _, .bl b => .bl b
  | _, _, .int i => .int i
  | _, _, .str i => .str i
  | _, _, .ty i => .ty i
  | _, _, .tup s l => .tup (sqt_stay R G s) (ReL.mono R G l)
  | _, _, .rol s l => .rol (rol_stay R G s) (ReL.mono R G l)
  | _, _, .ref e => .ref (by
      obtain ⟨t, rfl⟩ := G.pre
      have hl := (List.getElem?_eq_some_iff.mp e).1
      rw [List.getElem?_append_left hl]
      exact e)
  | _, _, .cls e => .cls e
  | _, _, .emp e => .emp (G.stay _ _ (R.notCell e fun _ z => nomatch z) e)
theorem ReL.mono (R : Rep K mg ι h H) (G : Gr ι H ι' H') : ∀ {d : List D} {v : List V}, ReL K mg ι H d v → ReL K mg ι' H' d v
  | _, _, .nil => .nil
  | _, _, .cons a b => .cons (Re.mono R G a) (ReL.mono R G b)
end
theorem ReL.length : ∀ {ds : List D} {vs : List V}, ReL K mg ι H ds vs → ds.length = vs.length
  | _, _, .nil => rfl
  | _, _, .cons _ b => by rw [List.length_cons, List.length_cons, b.length]
theorem ReL.get : ∀ {ds : List D} {vs : List V} {i : Nat} {d : D}, ReL K mg ι H ds vs → ds[i]? = some d → ∃ v, vs[i]? = some v ∧ Re K mg ι H d v
  | _, _, _, _, .nil, e => by simp at e
  | _, _, 0, _, .cons a _, e => by
    have e : some _ = some _ := e
    cases e
    exact ⟨_, rfl, a⟩
  | _, _, i + 1, _, .cons _ b, e => ReL.get (i := i) b e
theorem ReL.append : ∀ {ds es : List D} {vs us : List V}, ReL K mg ι H ds vs → ReL K mg ι H es us → ReL K mg ι H (ds ++ es) (vs ++ us)
  | _, _, _, _, .nil, b => b
  | _, _, _, _, .cons a c, b => .cons a (c.append b)
theorem ReL.take : ∀ {ds : List D} {vs : List V} (n : Nat), ReL K mg ι H ds vs → ReL K mg ι H (ds.take n) (vs.take n)
  | _, _, 0, _ => .nil
  | _, _, _ + 1, .nil => .nil
  | _, _, n + 1, .cons a b => .cons a (ReL.take n b)
theorem ReL.drop : ∀ {ds : List D} {vs : List V} (n : Nat), ReL K mg ι H ds vs → ReL K mg ι H (ds.drop n) (vs.drop n)
  | _, _, 0, r => r
  | _, _, _ + 1, .nil => .nil
  | _, _, n + 1, .cons a b => ReL.drop n b
theorem ReL.set : ∀ {ds : List D} {vs : List V} (n : Nat) {d : D} {v : V}, ReL K mg ι H ds vs → Re K mg ι H d v → ReL K mg ι H (ds.set n d) (vs.set n v)
  | _, _, _, _, _, .nil, _ => .nil
  | _, _, 0, _, _, .cons _ b, r => .cons r b
  | _, _, n + 1, _, _, .cons a b, r => .cons a (ReL.set n b r)
/-- a new object that is no cell -/
theorem Gr.upd (R : Rep K mg ι h H) {p : Addr} {o : HO} (hp : H p = none) : Gr ι H ι (L2.upd H p o) := by
  refine ⟨List.prefix_refl _, fun b hb => .inl hb, fun b u _ e => ?_, fun b hb => ?_⟩
  · rw [upd_ne (ne_of_none e hp)]; exact e
  · obtain ⟨xs, e⟩ := R.isList hb
    exact ⟨xs, by rw [upd_ne (ne_of_none e hp)]; exact e⟩
theorem Rep.upd (R : Rep K mg ι h H) {p : Addr} {o : HO} (hp : H p = none) : Rep K mg ι h (L2.upd H p o) := by
  refine ⟨R.len, R.nd, fun n a l e1 e2 => ?_⟩
  obtain ⟨xs, e, r⟩ := R.cell n a l e1 e2
  refine ⟨xs, ?_, ReL.mono R (Gr.upd R hp) r⟩
  rw [upd_ne (ne_of_none e hp)]; exact e
/-- a new cell -/
theorem Gr.newCell (R : Rep K mg ι h H) {p : Addr} {xs : List V} (hp : H p = none) : Gr ι H (ι ++ [p]) (L2.upd H p (.lst xs)) := by
  refine ⟨List.prefix_append _ _, fun b hb => ?_, fun b u _ e => ?_, fun b hb => ?_⟩
  · rcases List.mem_append.mp hb with q | q
    · exact .inl q
    · right
      rw [List.mem_singleton.mp q]; exact hp
  · rw [upd_ne (ne_of_none e hp)]; exact e
  · obtain ⟨xs, e⟩ := R.isList hb
    exact ⟨xs, by rw [upd_ne (ne_of_none e hp)]; exact e⟩
theorem Rep.newCell (R : Rep K mg ι h H) {p : Addr} {l : List D} {xs : List V} (hp : H p = none) (r : ReL K mg ι H l xs) : Rep K mg (ι ++ [p]) (h ++ [l]) (L2.upd H p (.lst xs)) := by
  have G := Gr.newCell (xs := xs) R hp
  refine ⟨by simp [R.len], ?_, fun n a l' e1 e2 => ?_⟩
  · refine List.nodup_append.mpr ⟨R.nd, by simp, fun a ha b hb e => ?_⟩
    rw [List.mem_singleton.mp hb] at e
    obtain ⟨xs, q⟩ := R.isList ha
    rw [e, hp] at q; cases q
  · by_cases hn : n < ι.length
    · rw [List.getElem?_append_left hn] at e1
      rw [List.getElem?_append_left (by rw [← R.len]; exact hn)] at e2
      obtain ⟨ys, e, q⟩ := R.cell n a l' e1 e2
      exact ⟨ys, by rw [upd_ne (ne_of_none e hp)]; exact e, ReL.mono R G q⟩
    · have hn' : n = ι.length := by
        have := (List.getElem?_eq_some_iff.mp e1).1
        simp at this
        omega
      subst hn'
      simp at e1
      rw [R.len] at e2
      simp at e2
      subst e1; subst e2
      exact ⟨xs, upd_same, ReL.mono R G r⟩
/-- a cell is stored to -/
theorem Gr.setCell (R : Rep K mg ι h H) {n : Nat} {a : Addr} {xs : List V} (ha : ι[n]? = some a) : Gr ι H ι (L2.upd H a (.lst xs)) := by
  have hm : a ∈ ι := List.mem_of_getElem? ha
  refine ⟨List.prefix_refl _, fun b hb => .inl hb, fun b u hn e => ?_, fun b hb => ?_⟩
  · rw [upd_ne (fun z => hn (by rw [z]; exact hm))]; exact e
  · by_cases e : b = a
    · exact ⟨xs, by rw [e, upd_same]⟩
    · obtain ⟨ys, q⟩ := R.isList hb
      exact ⟨ys, by rw [upd_ne e]; exact q⟩
theorem Rep.setCell (R : Rep K mg ι h H) {n : Nat} {a : Addr} {l : List D} {xs : List V} (ha : ι[n]? = some a) (r : ReL K mg ι H l xs) : Rep K mg ι (h.set n l) (L2.upd H a (.lst xs)) := by
  have G := Gr.setCell (xs := xs) R ha
  refine ⟨by simp [R.len], R.nd, fun m b l' e1 e2 => ?_⟩
  have hn : n < ι.length := (List.getElem?_eq_some_iff.mp ha).1
  by_cases e : m = n
  · subst e
    rw [ha] at e1
    cases e1
    rw [List.getElem?_set_self (by rw [← R.len]; exact hn)] at e2
    cases e2
    exact ⟨xs, upd_same, ReL.mono R G r⟩
  · rw [List.getElem?_set_ne (fun z => e z.symm)] at e2
    obtain ⟨ys, q, r'⟩ := R.cell m b l' e1 e2
    refine ⟨ys, ?_, ReL.mono R G r'⟩
    rw [upd_ne]
    · exact q
    · intro z
      subst z
      have hm : m < ι.length := (List.getElem?_eq_some_iff.mp e1).1
      exact e ((List.getElem?_inj hm R.nd).mp (e1.trans ha.symm))
end
end PI

namespace PI
open PySem L2
abbrev DEnv := List (Option D)
abbrev DE := DEnv → HS → Res D
abbrev DT := DEnv → HS → Res Bool
abbrev DA := DEnv → HS → Res (List D)
abbrev Op1 := D → HS → Option (D × HS)
abbrev Op2 := D → D → HS → Option (D × HS)
abbrev OpN := List D → HS → Option (D × HS)
def lift {α : Type} : Option (α × HS) → Res α
  | some (d, h) => .ok d h
  | none => .stuck

/-! weakening -/
theorem _root_.L2.PE.weak {X : Cx} {e : Expr} {t t' : TE} (p : PE X e t) (h : ∀ σ H Q, t' σ H Q → t σ H Q) : PE X e t' := ⟨fun pins s σ H Q I q => p.run pins s σ H Q I (h σ H Q q)⟩
theorem _root_.L2.PT.weak {X : Cx} {e : Expr} {t t' : TT} (p : PT X e t) (h : ∀ σ H Q, t' σ H Q → t σ H Q) : PT X e t' := ⟨fun pins s σ H Q I q => p.run pins s σ H Q I (h σ H Q q)⟩
theorem _root_.L2.PW.weak {X : Cx} {e : Expr} {t t' : TT} (p : PW X e t) (h : ∀ σ H Q, t' σ H Q → t σ H Q) : PW X e t' := ⟨fun wh pins s σ H Q I q => p.run wh pins s σ H Q I (h σ H Q q)⟩
theorem _root_.L2.PA.weak {X : Cx} {e : List Expr} {t t' : TA} (p : PA X e t) (h : ∀ σ H Q, t' σ H Q → t σ H Q) : PA X e t' := ⟨fun pos pins s σ H Q I q => p.run pos pins s σ H Q I (h σ H Q q)⟩
theorem _root_.L2.PK.weak {X : Cx} {e : List Keyword} {t t' : TA} (p : PK X e t) (h : ∀ σ H Q, t' σ H Q → t σ H Q) : PK X e t' := ⟨fun pos pins s σ H Q I q => p.run pos pins s σ H Q I (h σ H Q q)⟩
theorem _root_.L2.PO.weak {X : Cx} {e : Option Expr} {t t' : TO} (p : PO X e t) (h : ∀ σ H Q, t' σ H Q → t σ H Q) : PO X e t' := ⟨fun pins s σ H Q I q => p.run pins s σ H Q I (h σ H Q q)⟩
theorem _root_.L2.PS.weak {X : Cx} {e : Stmt} {t t' : TS} (p : PS X e t) (h : ∀ D σ H, t' D σ H → t D σ H) : PS X e t' := ⟨fun pins s σ H D I q => p.run pins s σ H D I (h D σ H q)⟩
theorem _root_.L2.PSs.weak {X : Cx} {e : List Stmt} {t t' : TS} (p : PSs X e t) (h : ∀ D σ H, t' D σ H → t D σ H) : PSs X e t' := ⟨fun pins s σ H D I q => p.run pins s σ H D I (h D σ H q)⟩
theorem _root_.L2.PG.weak {X : Cx} {e : Expr} {t t' : TG} (p : PG X e t) (h : ∀ v σ H Q, t' v σ H Q → t v σ H Q) : PG X e t' := ⟨fun pins s σ H v u Q I r q => p.run pins s σ H v u Q I r (h v σ H Q q)⟩

section
variable (K : PySem.W.Frag) (mg : Str → Option Value)
/-- the slots -/
structure RelS (ι : List Addr) (H : Hp) (e : DEnv) (σ : St) : Prop where
  len : e.length = σ.length
  at_ : ∀ (i : Nat) (d : D), e[i]? = some (some d) → ∃ v, σ[i]? = some (some v) ∧ Re K mg ι H d v
/-- the error -/
structure ExR (ι : List Addr) (H : Hp) (e : Er) (c : Value) (dd : Option Addr) : Prop where
  cl : ∃ C, mg e.cls = some (.ref C) ∧ c = .ref C
  fs : match e.args with
    | [] => dd = none
    | a :: l => ∃ d fs, dd = some d ∧ H d = some (.xd fs) ∧ ∀ n x, (a :: l).lookup n = some x → ∃ v, fs.lookup n = some v ∧ Re K mg ι H x v
/-- what is wanted behind a result -/
def Post {α β : Type} (ρ : List Addr → Hp → α → β → Prop) (W : WX) (σ : St) (ι : List Addr) (H : Hp) (Q : β → Hp → Prop) : Res α → Prop
  | .ok d h' => ∀ ι' H' v, Gr ι H ι' H' → Rep K mg ι' h' H' → ρ ι' H' d v → Q v H'
  | .exc e h' => ∀ ι' H' c dd, Gr ι H ι' H' → Rep K mg ι' h' H' → ExR K mg ι' H' e c dd → W c dd σ H'
  | .stuck => False
def rho2 : List Addr → Hp → Bool → Bool → Prop := fun _ _ a b => a = b
def rhoO : List Addr → Hp → Option Int → Option Int → Prop := fun _ _ a b => a = b
def tmG {α β : Type} (ρ : List Addr → Hp → α → β → Prop) (W : WX) (m : DEnv → HS → Res α) : St → Hp → (β → Hp → Prop) → Prop := fun σ H Q =>
  ∃ ι e h, Rep K mg ι h H ∧ RelS K mg ι H e σ ∧ Post K mg ρ W σ ι H Q (m e h)
abbrev tm (W : WX) (m : DE) : TE := tmG K mg (Re K mg) W m
abbrev tmT (W : WX) (m : DT) : TT := tmG K mg rho2 W m
abbrev tmA (W : WX) (m : DA) : TA := tmG K mg (ReL K mg) W m
abbrev tmO (W : WX) (m : DEnv → HS → Res (Option Int)) : TO := tmG K mg rhoO W m
/-- a value operation's promise -/
def Pv (ι : List Addr) (H : Hp) (Q : VK) : Option (D × HS) → Prop
  | some (d, h') => ∀ ι' H' v, Gr ι H ι' H' → Rep K mg ι' h' H' → Re K mg ι' H' d v → Q v H'
  | none => False
def r1 (g : Op1) : V → Hp → VK → Prop := fun x H Q => ∃ ι h d, Rep K mg ι h H ∧ Re K mg ι H d x ∧ Pv K mg ι H Q (g d h)
def r2 (g : Op2) : R2 := fun x y H Q => ∃ ι h d e, Rep K mg ι h H ∧ Re K mg ι H d x ∧ Re K mg ι H e y ∧ Pv K mg ι H Q (g d e h)
def rN (g : OpN) : List V → Hp → VK → Prop := fun xs H Q => ∃ ι h ds, Rep K mg ι h H ∧ ReL K mg ι H ds xs ∧ Pv K mg ι H Q (g ds h)
def rM (g : D → OpN) : V → List V → Hp → VK → Prop := fun x xs H Q => ∃ ι h d ds, Rep K mg ι h H ∧ Re K mg ι H d x ∧ ReL K mg ι H ds xs ∧ Pv K mg ι H Q (g d ds h)
def rS (g : D → Option Int → Option Int → HS → Option (D × HS)) : V → Option Int → Option Int → Hp → VK → Prop := fun x lo hi H Q => ∃ ι h d, Rep K mg ι h H ∧ Re K mg ι H d x ∧ Pv K mg ι H Q (g d lo hi h)
end

section
variable {K : PySem.W.Frag} {mg : Str → Option Value} {ι ι' ι1 ι2 : List Addr} {h h' h1 h2 : HS} {H H' H1 H2 : Hp} {W : WX} {σ : St} {e : DEnv}
theorem RelS.mono (R : Rep K mg ι h H) (G : Gr ι H ι' H') (S : RelS K mg ι H e σ) : RelS K mg ι' H' e σ :=
  ⟨S.len, fun i d q => let ⟨v, a, b⟩ := S.at_ i d q; ⟨v, a, b.mono R G⟩⟩
theorem RelS.set (S : RelS K mg ι H e σ) {d : D} {v : V} (i : Nat) (r : Re K mg ι H d v) : RelS K mg ι H (e.set i (some d)) (σ.set i (some v)) := by
  refine ⟨by simp [S.len], fun j x q => ?_⟩
  by_cases c : j = i
  · subst c
    have hj : j < e.length := by
      have := (List.getElem?_eq_some_iff.mp q).1
      simpa using this
    rw [List.getElem?_set_self hj] at q
    cases q
    exact ⟨v, by rw [List.getElem?_set_self (by rw [← S.len]; exact hj)], r⟩
  · rw [List.getElem?_set_ne (fun z => c z.symm)] at q
    obtain ⟨u, a, b⟩ := S.at_ j x q
    exact ⟨u, by rw [List.getElem?_set_ne (fun z => c z.symm)]; exact a, b⟩
theorem Post.shift {α β : Type} {ρ : List Addr → Hp → α → β → Prop} {Q : β → Hp → Prop} {r : Res α} (G : Gr ι H ι' H') (p : Post K mg ρ W σ ι H Q r) : Post K mg ρ W σ ι' H' Q r := by
  cases r with
  | ok d h' => exact fun ι2 H2 v g => p ι2 H2 v (G.trans g)
  | exc e h' => exact fun ι2 H2 c dd g => p ι2 H2 c dd (G.trans g)
  | stuck => exact p
theorem Pv.shift {Q : VK} {r : Option (D × HS)} (G : Gr ι H ι' H') (p : Pv K mg ι H Q r) : Pv K mg ι' H' Q r := by
  cases r with
  | some q => exact fun ι2 H2 v g => p ι2 H2 v (G.trans g)
  | none => exact p
/-- the first of two parts -/
theorem Post.step {α β γ δ : Type} {ρ : List Addr → Hp → α → β → Prop} {ρ' : List Addr → Hp → γ → δ → Prop} {Q : δ → Hp → Prop} {Q' : β → Hp → Prop} {r : Res α} {k : α → HS → Res γ}
    (p : Post K mg ρ' W σ ι H Q (r.bind k))
    (f : ∀ d h' ι' H' v, Gr ι H ι' H' → Rep K mg ι' h' H' → ρ ι' H' d v → Post K mg ρ' W σ ι' H' Q (k d h') → Q' v H') : Post K mg ρ W σ ι H Q' r := by
  cases r with
  | ok d h' => exact fun ι2 H2 v g R q => f d h' ι2 H2 v g R q (Post.shift g p)
  | exc e h' => exact p
  | stuck => exact p
theorem Post.lift {Q : VK} {r : Option (D × HS)} (p : Post K mg (Re K mg) W σ ι H Q (lift r)) : Pv K mg ι H Q r := by
  cases r with
  | some q => exact p
  | none => exact p
theorem Post.now {α β : Type} {ρ : List Addr → Hp → α → β → Prop} {Q : β → Hp → Prop} {d : α} {v : β} (p : Post K mg ρ W σ ι H Q (.ok d h)) (R : Rep K mg ι h H) (r : ρ ι H d v) : Q v H := p ι H v (Gr.refl R) R r
theorem Pv.now {Q : VK} {d : D} {v : V} (p : Pv K mg ι H Q (some (d, h))) (R : Rep K mg ι h H) (r : Re K mg ι H d v) : Q v H := p ι H v (Gr.refl R) R r
theorem tm_in {α β : Type} {ρ : List Addr → Hp → α → β → Prop} {m : DEnv → HS → Res α} {Q : β → Hp → Prop} (R : Rep K mg ι h H) (S : RelS K mg ι H e σ) (p : Post K mg ρ W σ ι H Q (m e h)) : tmG K mg ρ W m σ H Q := ⟨ι, e, h, R, S, p⟩
end

section
variable {K : PySem.W.Frag} {mg : Str → Option Value} {ι : List Addr} {H : Hp}
theorem Re.tup_inv {ds : List D} {v : V} (r : Re K mg ι H (.tup ds) v) : ∃ a xs, v = .ref a ∧ SqT K H a xs ∧ ReL K mg ι H ds xs := by
  cases r with
  | tup s l => exact ⟨_, _, rfl, s, l⟩
theorem Re.ref_inv {n : Nat} {v : V} (r : Re K mg ι H (.ref n) v) : ∃ a, v = .ref a ∧ ι[n]? = some a := by
  cases r with
  | ref s => exact ⟨_, rfl, s⟩
theorem Re.rol_inv {ds : List D} {v : V} (r : Re K mg ι H (.rol ds) v) : ∃ a xs, v = .ref a ∧ RoL K H a xs ∧ ReL K mg ι H ds xs := by
  cases r with
  | rol s l => exact ⟨_, _, rfl, s, l⟩
theorem Re.str_inv {x : Str} {v : V} (r : Re K mg ι H (.str x) v) : v = .str x := by cases r; rfl
theorem Re.ty_inv {x : String} {v : V} (r : Re K mg ι H (.ty x) v) : v = .ty x := by cases r; rfl
theorem Re.emp_inv {v : V} (r : Re K mg ι H .emp v) : ∃ a, v = .ref a ∧ H a = some (.dK []) := by
  cases r with
  | emp s => exact ⟨_, rfl, s⟩
theorem Re.bl_inv {b : Bool} {v : V} (r : Re K mg ι H (.bl b) v) : v = .bl b := by cases r; rfl
theorem Re.int_inv {b : Int} {v : V} (r : Re K mg ι H (.int b) v) : v = .int b := by cases r; rfl
theorem Re.non_inv {v : V} (r : Re K mg ι H .non v) : v = .non := by cases r; rfl
theorem Re.cls_inv {x : Str} {v : V} (r : Re K mg ι H (.cls x) v) : ∃ C, v = .ref C ∧ mg x = some (.ref C) := by
  cases r with
  | cls s => exact ⟨_, rfl, s⟩
end

/-! ### expressions -/
def dVar (i : Nat) : DE := fun e h => match e[i]? with
  | some (some d) => .ok d h
  | _ => .stuck
def dC (d : D) : DE := fun _ h => .ok d h
def dOp (g : Op2) (a b : DE) : DE := fun e h => (a e h).bind fun x h1 => (b e h1).bind fun y h2 => lift (g x y h2)
def dUn (g : Op1) (a : DE) : DE := fun e h => (a e h).bind fun x h1 => lift (g x h1)
def dNil : DA := fun _ h => .ok [] h
def dCons (a : DE) (r : DA) : DA := fun e h => (a e h).bind fun x h1 => (r e h1).bind fun xs h2 => .ok (x :: xs) h2
def mkTup (l : List D) (h : HS) : Res D := if l.length ≤ 100000 then .ok (.tup l) h else .stuck
def dTup (a : DA) : DE := fun e h => (a e h).bind fun l h1 => mkTup l h1
def mkLst (l : List D) (h : HS) : Res D := if l.length ≤ 100000 then .ok (.ref h.length) (h ++ [l]) else .stuck
def dLst (a : DA) : DE := fun e h => (a e h).bind fun l h1 => mkLst l h1
def dB (a : DE) : DT := fun e h => (a e h).bind fun x h1 => match x with
  | .bl b => .ok b h1
  | _ => .stuck
def dAndT (a b : DT) : DT := fun e h => (a e h).bind fun x h1 => if x then b e h1 else .ok false h1
def dOrT (a b : DT) : DT := fun e h => (a e h).bind fun x h1 => if x then .ok true h1 else b e h1
def dNotT (a : DT) : DT := fun e h => (a e h).bind fun x h1 => .ok (!x) h1
def dAnd (a b : DE) : DE := fun e h => (dB a e h).bind fun x h1 => if x then b e h1 else .ok (.bl false) h1
def dOr (a b : DE) : DE := fun e h => (dB a e h).bind fun x h1 => if x then .ok (.bl true) h1 else b e h1
def dNot (a : DE) : DE := fun e h => (dB a e h).bind fun x h1 => .ok (.bl (!x)) h1
def dIf (t : DT) (a b : DE) : DE := fun e h => (t e h).bind fun x h1 => if x then a e h1 else b e h1
def dCB (g : OpN) (a : DA) : DE := fun e h => (a e h).bind fun l h1 => lift (g l h1)
def dBM (g : D → OpN) (o : DE) (a : DA) : DE := fun e h => (o e h).bind fun x h1 => (a e h1).bind fun l h2 => lift (g x l h2)
def dNoPart : DEnv → HS → Res (Option Int) := fun _ h => .ok none h
def dPart (a : DE) : DEnv → HS → Res (Option Int) := fun e h => (a e h).bind fun x h1 => match x with
  | .int i => .ok (some i) h1
  | _ => .stuck
def dSl (g : D → Option Int → Option Int → HS → Option (D × HS)) (a : DE) (l u : DEnv → HS → Res (Option Int)) : DE := fun e h => (a e h).bind fun x h1 => (l e h1).bind fun i h2 => (u e h2).bind fun j h3 => lift (g x i j h3)

section
variable {X : Cx} {W : WX} {a b c : Expr} {es : List Expr} {ma mb mc : DE} {ta tb : DT} {ms : DA} {pos : Pos}
theorem de_var {i : Nat} {x : Str} {pos : Pos} (hN : X.N[i]? = some x := by rfl) (hv : Vis X.env.scope x := by first | exact Or.inl rfl | exact Or.inr (Or.inl rfl) | exact Or.inr (Or.inr rfl)) (hd : (x == ("__debug__" : Str)) = false := by decide)
    (hcd : (x == ("__classdict__" : Str)) = false := by decide) : PE X (.Name x pos) (tm X.K X.mg W (dVar i)) := (pe_var hN hv hd hcd).weak fun σ H Q ⟨ι, e, h, R, S, p⟩ => by
  unfold dVar at p
  split at p
  · rename_i d q
    obtain ⟨v, hv, r⟩ := S.at_ i d q
    exact ⟨v, hv, p.now R r⟩
  · exact p.elim
theorem de_c {d : D} {v : V} (p : PE X a (tC v)) (r : ∀ ι H, Re X.K X.mg ι H d v) : PE X a (tm X.K X.mg W (dC d)) := p.weak fun σ H Q ⟨ι, e, h, R, S, q⟩ => q.now R (r ι H)
theorem de_int {i j pos} : PE X (.Constant (.int i) j pos) (tm X.K X.mg W (dC (.int i))) := de_c pe_int fun _ _ => .int _
theorem de_bl {i j pos} : PE X (.Constant (.bool i) j pos) (tm X.K X.mg W (dC (.bl i))) := de_c pe_bl fun _ _ => .bl _
theorem de_non {j pos} : PE X (.Constant .none j pos) (tm X.K X.mg W (dC .non)) := de_c pe_non fun _ _ => .non
theorem de_str {x j pos} : PE X (.Constant (.str x) j pos) (tm X.K X.mg W (dC (.str x))) := de_c pe_str fun _ _ => .str _
/-- two operands, by values -/
theorem two {g : Op2} {σ : St} {H : Hp} {Q : VK} (q : tm X.K X.mg W (dOp g ma mb) σ H Q) : tOp (r2 X.K X.mg g) (tm X.K X.mg W ma) (tm X.K X.mg W mb) σ H Q := by
  obtain ⟨ι, e, h, R, S, p⟩ := q
  refine tm_in R S (Post.step p fun d1 h1 ι1 H1 v1 g1 R1 x1 p1 => ?_)
  refine tm_in R1 (S.mono R g1) (Post.step p1 fun d2 h2 ι2 H2 v2 g2 R2 x2 p2 => ?_)
  exact ⟨ι2, h2, d1, d2, R2, x1.mono R1 g2, x2, p2.lift⟩
theorem de_op {op : Operator} {g : Op2} (ho : OpR X (binaryOp op) (r2 X.K X.mg g)) (ha : PE X a (tm X.K X.mg W ma)) (hb : PE X b (tm X.K X.mg W mb)) : PE X (.BinOp a op b pos) (tm X.K X.mg W (dOp g ma mb)) :=
  (pe_op ho ha hb).weak fun _ _ _ => two
theorem de_un {op : UnaryOp} {g : Op1} (ho : UnR X (unaryOp op) (r1 X.K X.mg g)) (ha : PE X a (tm X.K X.mg W ma)) : PE X (.UnaryOp op a pos) (tm X.K X.mg W (dUn g ma)) :=
  (pe_un ho ha).weak fun _ _ _ ⟨ι, e, h, R, S, p⟩ => tm_in R S (Post.step p fun d1 h1 ι1 H1 v1 g1 R1 x1 p1 => ⟨ι1, h1, d1, R1, x1, p1.lift⟩)
theorem de_cmp {op : CmpOp} {g : Op2} (ho : OpR X (compareOp op) (r2 X.K X.mg g)) (ha : PE X a (tm X.K X.mg W ma)) (hb : PE X b (tm X.K X.mg W mb)) (hm : behindInMarks op b = false := by first | exact nobehind _ (by decide) (by decide) | rfl) : PE X (.Compare a [op] [b] pos) (tm X.K X.mg W (dOp g ma mb)) :=
  (pe_cmpR ho ha hb hm).weak fun _ _ _ => two
theorem isBl {K : PySem.W.Frag} {mg : Str → Option Value} {ι : List Addr} {H : Hp} {b : Bool} {v : V} (r : Re K mg ι H (.bl b) v) : v = .bl b := by cases r; rfl
theorem isInt {K : PySem.W.Frag} {mg : Str → Option Value} {ι : List Addr} {H : Hp} {b : Int} {v : V} (r : Re K mg ι H (.int b) v) : v = .int b := by cases r; rfl
/-- an expression's bool -/
theorem bool_in {σ : St} {H : Hp} {Q : Bool → Hp → Prop} (q : tmT X.K X.mg W (dB ma) σ H Q) : tm X.K X.mg W ma σ H fun x H1 => ∃ k, x = .bl k ∧ Q k H1 := by
  obtain ⟨ι, e, h, R, S, p⟩ := q
  refine tm_in R S (Post.step p fun d1 h1 ι1 H1 v1 g1 R1 x1 p1 => ?_)
  cases d1 with
  | bl k => exact ⟨k, isBl x1, p1.now R1 rfl⟩
  | _ => exact p1.elim
theorem dt_val (ha : PE X a (tm X.K X.mg W ma)) (he : ∀ whole, isTrue a X.env whole = (do let v ← whole; standAt a.pos; holding [v] (truthy v)) := by intro _; rfl) : PT X a (tmT X.K X.mg W (dB ma)) :=
  (pt_val ha he).weak fun _ _ _ => bool_in
theorem dt_cmp {op : CmpOp} {g : Op2} (ho : OpR X (compareOp op) (r2 X.K X.mg g)) (ha : PE X a (tm X.K X.mg W ma)) (hb : PE X b (tm X.K X.mg W mb)) (hm : behindInMarks op b = false := by first | exact nobehind _ (by decide) (by decide) | rfl) : PT X (.Compare a [op] [b] pos) (tmT X.K X.mg W (dB (dOp g ma mb))) :=
  (pt_cmpR ho ha hb hm).weak fun _ _ _ q => two (bool_in q)
theorem dw_and1 (ha : PT X a (tmT X.K X.mg W ta)) : PW X (.BoolOp .And [a] pos) (tmT X.K X.mg W ta) := pw_and1 ha
theorem dw_or1 (ha : PT X a (tmT X.K X.mg W ta)) : PW X (.BoolOp .Or [a] pos) (tmT X.K X.mg W ta) := pw_or1 ha
theorem dw_and {rest : List Expr} (ha : PT X a (tmT X.K X.mg W ta)) (hb : PW X (.BoolOp .And (b :: rest) pos) (tmT X.K X.mg W tb)) : PW X (.BoolOp .And (a :: b :: rest) pos) (tmT X.K X.mg W (dAndT ta tb)) :=
  (pw_and ha hb).weak fun _ _ _ ⟨ι, e, h, R, S, p⟩ => tm_in R S (Post.step p fun d1 h1 ι1 H1 v1 g1 R1 x1 p1 => by
    cases x1
    cases d1 with
    | true => exact tm_in R1 (S.mono R g1) p1
    | false => exact p1.now R1 rfl)
theorem dw_or {rest : List Expr} (ha : PT X a (tmT X.K X.mg W ta)) (hb : PW X (.BoolOp .Or (b :: rest) pos) (tmT X.K X.mg W tb)) : PW X (.BoolOp .Or (a :: b :: rest) pos) (tmT X.K X.mg W (dOrT ta tb)) :=
  (pw_or ha hb).weak fun _ _ _ ⟨ι, e, h, R, S, p⟩ => tm_in R S (Post.step p fun d1 h1 ι1 H1 v1 g1 R1 x1 p1 => by
    cases x1
    cases d1 with
    | false => exact tm_in R1 (S.mono R g1) p1
    | true => exact p1.now R1 rfl)
theorem dt_w (h : PW X a (tmT X.K X.mg W ta)) : PT X a (tmT X.K X.mg W ta) := h.pt
theorem dt_not (ha : PT X a (tmT X.K X.mg W ta)) : PT X (.UnaryOp .Not a pos) (tmT X.K X.mg W (dNotT ta)) :=
  (pt_not ha).weak fun _ _ _ ⟨ι, e, h, R, S, p⟩ => tm_in R S (Post.step p fun d1 h1 ι1 H1 v1 g1 R1 x1 p1 => by
    cases x1
    exact p1.now R1 rfl)
theorem de_one {op} (h : PE X a (tm X.K X.mg W ma)) : PE X (.BoolOp op [a] pos) (tm X.K X.mg W ma) := pe_one h
theorem de_and {rest : List Expr} (ha : PE X a (tm X.K X.mg W ma)) (hb : PE X (.BoolOp .And (b :: rest) pos) (tm X.K X.mg W mb)) : PE X (.BoolOp .And (a :: b :: rest) pos) (tm X.K X.mg W (dAnd ma mb)) :=
  (pe_and ha hb).weak fun σ H Q ⟨ι, e, h, R, S, p⟩ => bool_in (tm_in R S (Post.step p fun d1 h1 ι1 H1 v1 g1 R1 x1 p1 => by
    cases x1
    cases d1 with
    | true =>
      show tm X.K X.mg W mb σ H1 Q
      exact tm_in R1 (S.mono R g1) p1
    | false => exact p1.now R1 (.bl _)))
theorem de_or {rest : List Expr} (ha : PE X a (tm X.K X.mg W ma)) (hb : PE X (.BoolOp .Or (b :: rest) pos) (tm X.K X.mg W mb)) : PE X (.BoolOp .Or (a :: b :: rest) pos) (tm X.K X.mg W (dOr ma mb)) :=
  (pe_or ha hb).weak fun σ H Q ⟨ι, e, h, R, S, p⟩ => bool_in (tm_in R S (Post.step p fun d1 h1 ι1 H1 v1 g1 R1 x1 p1 => by
    cases x1
    cases d1 with
    | false =>
      show tm X.K X.mg W mb σ H1 Q
      exact tm_in R1 (S.mono R g1) p1
    | true => exact p1.now R1 (.bl _)))
theorem de_not (ha : PE X a (tm X.K X.mg W ma)) : PE X (.UnaryOp .Not a pos) (tm X.K X.mg W (dNot ma)) :=
  (pe_not ha).weak fun σ H Q ⟨ι, e, h, R, S, p⟩ => bool_in (tm_in R S (Post.step p fun d1 h1 ι1 H1 v1 g1 R1 x1 p1 => by
    cases x1
    exact p1.now R1 (.bl _)))
theorem de_ifExp (hc : PT X c (tmT X.K X.mg W ta)) (ha : PE X a (tm X.K X.mg W ma)) (hb : PE X b (tm X.K X.mg W mb)) : PE X (.IfExp c a b pos) (tm X.K X.mg W (dIf ta ma mb)) :=
  (pe_ifExp hc ha hb).weak fun σ H Q ⟨ι, e, h, R, S, p⟩ => tm_in R S (Post.step p fun d1 h1 ι1 H1 v1 g1 R1 x1 p1 => by
    cases x1
    cases d1 with
    | true => exact tm_in R1 (S.mono R g1) p1
    | false => exact tm_in R1 (S.mono R g1) p1)
theorem da_nil : PA X [] (tmA X.K X.mg W dNil) := pa_nil.weak fun σ H Q ⟨ι, e, h, R, S, p⟩ => p.now R .nil
theorem da_cons (ha : PE X a (tm X.K X.mg W ma)) (hr : PA X es (tmA X.K X.mg W ms)) (hs : starEach (a :: es) X.env = (false, eval a X.env) :: starEach es X.env := by rfl) : PA X (a :: es) (tmA X.K X.mg W (dCons ma ms)) :=
  (pa_cons ha hr hs).weak fun σ H Q ⟨ι, e, h, R, S, p⟩ => tm_in R S (Post.step p fun d1 h1 ι1 H1 v1 g1 R1 x1 p1 => tm_in R1 (S.mono R g1) (Post.step p1 fun d2 h2 ι2 H2 v2 g2 R2 x2 p2 => p2.now R2 (.cons (x1.mono R1 g2) x2)))
theorem sz100 {n : Nat} (h : n ≤ 100000) : n ≤ sizeLine := Nat.le_trans h (by decide)
theorem de_tup {x1} (hs : PA X es (tmA X.K X.mg W ms)) : PE X (.Tuple es x1 pos) (tm X.K X.mg W (dTup ms)) :=
  (pe_tup hs).weak fun σ H Q ⟨ι, e, h, R, S, p⟩ => tm_in R S (Post.step p fun d1 h1 ι1 H1 v1 g1 R1 x1 p1 => by
    unfold mkTup at p1
    split at p1
    · rename_i hz
      rw [x1.length] at hz
      exact ⟨sz100 hz, fun q hq => p1 ι1 _ _ (Gr.upd R1 hq) (R1.upd hq) (.tup (.inl (.inl upd_same)) (x1.mono R1 (Gr.upd R1 hq)))⟩
    · exact p1.elim)
theorem cell_new {K : PySem.W.Frag} {mg : Str → Option Value} {ι : List Addr} {h : HS} {H : Hp} {l : List D} {xs : List V} {q : Addr} (R : Rep K mg ι h H) : Re K mg (ι ++ [q]) H (.ref h.length) (.ref q) :=
  .ref (by rw [← R.len]; simp)
theorem de_lst (hs : PA X es (tmA X.K X.mg W ms)) : PE X (.List es pos) (tm X.K X.mg W (dLst ms)) :=
  (pe_lst hs).weak fun σ H Q ⟨ι, e, h, R, S, p⟩ => tm_in R S (Post.step p fun d1 h1 ι1 H1 v1 g1 R1 x1 p1 => by
    unfold mkLst at p1
    split at p1
    · rename_i hz
      rw [x1.length] at hz
      exact ⟨sz100 hz, fun q hq => p1 (ι1 ++ [q]) _ _ (Gr.newCell R1 hq) (R1.newCell hq x1) (.ref (by rw [← R1.len]; simp))⟩
    · exact p1.elim)
theorem do_none : PO X none (tmO X.K X.mg W dNoPart) := po_none.weak fun σ H Q ⟨ι, e, h, R, S, p⟩ => p.now R rfl
theorem do_some (ha : PE X a (tm X.K X.mg W ma)) : PO X (some a) (tmO X.K X.mg W (dPart ma)) := (po_some ha).weak fun σ H Q ⟨ι, e, h, R, S, p⟩ => tm_in R S (Post.step p fun d1 h1 ι1 H1 v1 g1 R1 x1 p1 => by
  cases d1 with
  | int i => exact ⟨i, isInt x1, p1.now R1 rfl⟩
  | _ => exact p1.elim)
theorem de_slice {lo hi : Option Expr} {p2 : Pos} {g : D → Option Int → Option Int → HS → Option (D × HS)} {ml mh : DEnv → HS → Res (Option Int)} (hr : SlR X (rS X.K X.mg g)) (he : PE X a (tm X.K X.mg W ma)) (hl : PO X lo (tmO X.K X.mg W ml)) (hu : PO X hi (tmO X.K X.mg W mh)) :
    PE X (.Subscript a (.Slice lo hi none p2) pos) (tm X.K X.mg W (dSl g ma ml mh)) :=
  (pe_slice hr he hl hu).weak fun σ H Q ⟨ι, e, h, R, S, p⟩ => tm_in R S (Post.step p fun d1 h1 ι1 H1 v1 g1 R1 x1 p1 => tm_in R1 (S.mono R g1) (Post.step p1 fun d2 h2 ι2 H2 v2 g2 R2 x2 p2 =>
    tm_in R2 ((S.mono R g1).mono R1 g2) (Post.step p2 fun d3 h3 ι3 H3 v3 g3 R3 x3 p3 => by
      cases x2
      cases x3
      exact ⟨ι3, h3, d1, R3, (x1.mono R1 g2).mono R2 g3, p3.lift⟩)))
theorem de_ix {g : Op2} (hr : IxR X (r2 X.K X.mg g)) (ha : PE X a (tm X.K X.mg W ma)) (hb : PE X b (tm X.K X.mg W mb)) (hs : PlainIx b := by intro _ _; rfl) : PE X (.Subscript a b pos) (tm X.K X.mg W (dOp g ma mb)) :=
  (pe_ix hr ha hb hs).weak fun _ _ _ => two
theorem args_in {g : OpN} {σ : St} {H : Hp} {Q : VK} (q : tm X.K X.mg W (dCB g ms) σ H Q) : tCB (rN X.K X.mg g) (tmA X.K X.mg W ms) σ H Q := by
  obtain ⟨ι, e, h, R, S, p⟩ := q
  exact tm_in R S (Post.step p fun d1 h1 ι1 H1 v1 g1 R1 x1 p1 => ⟨ι1, h1, d1, R1, x1, p1.lift⟩)
theorem de_callB {id : String} {x : Str} {p : Pos} {g : OpN} (hc : CallR X (.builtin id) (rN X.K X.mg g)) (hg : Gl X x) (hm : X.mg x = none) (hv : bootBuiltins x = some (.builtin id)) (ha : PA X (a :: es) (tmA X.K X.mg W ms)) (hn : x ≠ "__name__" := by decide) (hdb : (x == ("__debug__" : Str)) = false := by decide)
    (he : starEach (a :: es) X.env = (false, eval a X.env) :: starEach es X.env := by rfl) (hpl : (backTo pos (starEach es X.env)).any (·.1) = false := by rfl) : PE X (.Call (.Name x p) (a :: es) [] pos) (tm X.K X.mg W (dCB g ms)) :=
  (pe_callB hc hg hm hv ha hn hdb he hpl).weak fun _ _ _ => args_in
theorem de_callTy {T : String} {x : Str} {p : Pos} {g : OpN} (hc : CallR X (.type T) (rN X.K X.mg g)) (hg : Gl X x) (hm : X.mg x = none) (hv : bootBuiltins x = some (.type T)) (ha : PA X (a :: es) (tmA X.K X.mg W ms)) (hn : x ≠ "__name__" := by decide) (hdb : (x == ("__debug__" : Str)) = false := by decide)
    (he : starEach (a :: es) X.env = (false, eval a X.env) :: starEach es X.env := by rfl) (hpl : (backTo pos (starEach es X.env)).any (·.1) = false := by rfl) : PE X (.Call (.Name x p) (a :: es) [] pos) (tm X.K X.mg W (dCB g ms)) :=
  (pe_callTy hc hg hm hv ha hn hdb he hpl).weak fun _ _ _ => args_in
end
end PI

namespace PI
open PySem L2
inductive SR where
  | next (e : DEnv) (h : HS) | ret (d : D) (h : HS) | brk (e : DEnv) (h : HS) | cont (e : DEnv) (h : HS) | exc (er : Er) (e : DEnv) (h : HS) | stuck
abbrev DS := DEnv → HS → SR
abbrev DG := D → DEnv → HS → Option (DEnv × HS)
abbrev DGs := List D → DEnv → HS → Option (DEnv × HS)
/-- a value, then the rest of a statement -/
def Res.toS {α : Type} (r : Res α) (e : DEnv) (k : α → HS → SR) : SR := match r with
  | .ok a h => k a h
  | .exc er h => .exc er e h
  | .stuck => .stuck
section
variable (K : PySem.W.Frag) (mg : Str → Option Value)
def PostS (W : WX) (ι : List Addr) (H : Hp) (D : Ends) : SR → Prop
  | .next e h' => ∀ ι' H' σ', Gr ι H ι' H' → Rep K mg ι' h' H' → RelS K mg ι' H' e σ' → D.nx σ' H'
  | .ret d h' => ∀ ι' H' v, Gr ι H ι' H' → Rep K mg ι' h' H' → Re K mg ι' H' d v → D.rt v H'
  | .brk e h' => ∀ ι' H' σ', Gr ι H ι' H' → Rep K mg ι' h' H' → RelS K mg ι' H' e σ' → D.bk σ' H'
  | .cont e h' => ∀ ι' H' σ', Gr ι H ι' H' → Rep K mg ι' h' H' → RelS K mg ι' H' e σ' → D.ct σ' H'
  | .exc er e h' => ∀ ι' H' σ' c dd, Gr ι H ι' H' → Rep K mg ι' h' H' → RelS K mg ι' H' e σ' → ExR K mg ι' H' er c dd → W c dd σ' H'
  | .stuck => False
def tms (W : WX) (m : DS) : TS := fun D σ H => ∃ ι e h, Rep K mg ι h H ∧ RelS K mg ι H e σ ∧ PostS K mg W ι H D (m e h)
def Pg (ι : List Addr) (H : Hp) (Q : St → Hp → Prop) : Option (DEnv × HS) → Prop
  | some (e, h') => ∀ ι' H' σ', Gr ι H ι' H' → Rep K mg ι' h' H' → RelS K mg ι' H' e σ' → Q σ' H'
  | none => False
def tmg (g : DG) : TG := fun v σ H Q => ∃ ι e h d, Rep K mg ι h H ∧ RelS K mg ι H e σ ∧ Re K mg ι H d v ∧ Pg K mg ι H Q (g d e h)
def tmgs (g : DGs) : TGs := fun vs σ H Q => ∃ ι e h ds, Rep K mg ι h H ∧ RelS K mg ι H e σ ∧ ReL K mg ι H ds vs ∧ Pg K mg ι H Q (g ds e h)
end
section
variable {K : PySem.W.Frag} {mg : Str → Option Value} {ι ι' ι1 ι2 : List Addr} {h h' h1 h2 : HS} {H H' H1 H2 : Hp} {W : WX} {σ : St} {e : DEnv}
theorem PostS.shift {D : Ends} {r : SR} (G : Gr ι H ι' H') (p : PostS K mg W ι H D r) : PostS K mg W ι' H' D r := by
  cases r with
  | next e h' => exact fun ι2 H2 s g => p ι2 H2 s (G.trans g)
  | ret e h' => exact fun ι2 H2 s g => p ι2 H2 s (G.trans g)
  | brk e h' => exact fun ι2 H2 s g => p ι2 H2 s (G.trans g)
  | cont e h' => exact fun ι2 H2 s g => p ι2 H2 s (G.trans g)
  | exc er e h' => exact fun ι2 H2 s c dd g => p ι2 H2 s c dd (G.trans g)
  | stuck => exact p
/-- a value first -/
theorem PostS.step {α β : Type} {ρ : List Addr → Hp → α → β → Prop} {D : Ends} {Q' : β → Hp → Prop} {r : Res α} {k : α → HS → SR} (R : Rep K mg ι h H) (S : RelS K mg ι H e σ)
    (p : PostS K mg W ι H D (r.toS e k))
    (f : ∀ d h' ι' H' v, Gr ι H ι' H' → Rep K mg ι' h' H' → ρ ι' H' d v → PostS K mg W ι' H' D (k d h') → Q' v H') : Post K mg ρ W σ ι H Q' r := by
  cases r with
  | ok d h' => exact fun ι2 H2 v g R q => f d h' ι2 H2 v g R q (PostS.shift g p)
  | exc er h' => exact fun ι2 H2 c dd g R2 x => p ι2 H2 σ c dd g R2 (S.mono R g) x
  | stuck => exact p
theorem tms_in {m : DS} {D : Ends} (R : Rep K mg ι h H) (S : RelS K mg ι H e σ) (p : PostS K mg W ι H D (m e h)) : tms K mg W m D σ H := ⟨ι, e, h, R, S, p⟩
theorem PostS.nx {D : Ends} (p : PostS K mg W ι H D (.next e h)) (R : Rep K mg ι h H) (S : RelS K mg ι H e σ) : D.nx σ H := p ι H σ (Gr.refl R) R S
/-- other ends -/
theorem PostS.ends {D D' : Ends} {r : SR} (p : PostS K mg W ι H D r) (h1 : ∀ σ H, D.nx σ H → D'.nx σ H) (h2 : ∀ v H, D.rt v H → D'.rt v H) (h3 : ∀ σ H, D.bk σ H → D'.bk σ H) (h4 : ∀ σ H, D.ct σ H → D'.ct σ H) : PostS K mg W ι H D' r := by
  cases r with
  | next e h' => exact fun ι2 H2 s g R S => h1 _ _ (p ι2 H2 s g R S)
  | ret e h' => exact fun ι2 H2 s g R S => h2 _ _ (p ι2 H2 s g R S)
  | brk e h' => exact fun ι2 H2 s g R S => h3 _ _ (p ι2 H2 s g R S)
  | cont e h' => exact fun ι2 H2 s g R S => h4 _ _ (p ι2 H2 s g R S)
  | exc er e h' => exact p
  | stuck => exact p
end
/-! ### statements -/
def sNil : DS := fun e h => .next e h
def sSeq (a b : DS) : DS := fun e h => match a e h with
  | .next e' h' => b e' h'
  | r => r
def sRet (a : DE) : DS := fun e h => (a e h).toS e fun d h1 => .ret d h1
def sRetN : DS := fun _ h => .ret .non h
def sDrop (a : DE) : DS := fun e h => (a e h).toS e fun _ h1 => .next e h1
def sIf (t : DT) (a b : DS) : DS := fun e h => (t e h).toS e fun x h1 => if x then a e h1 else b e h1
def gEnd : Option (DEnv × HS) → SR
  | some (e, h) => .next e h
  | none => .stuck
def sAsg (a : DE) (g : DG) : DS := fun e h => (a e h).toS e fun d h1 => gEnd (g d e h1)
def sBrk : DS := fun e h => .brk e h
def sCont : DS := fun e h => .cont e h
def gNm (i : Nat) : DG := fun d e h => some (e.set i (some d), h)
def gNilD : DGs := fun ds e h => match ds with
  | [] => some (e, h)
  | _ => none
def gConsD (g : DG) (gs : DGs) : DGs := fun ds e h => match ds with
  | d :: r => (g d e h).bind fun q => gs r q.1 q.2
  | [] => none
def gUn (n : Nat) (gs : DGs) : DG := fun d e h => match d with
  | .tup l => if l.length = n then gs l e h else none
  | .ref a => (h[a]?).bind fun l => if l.length = n then gs l e h else none
  | _ => none
def setD (o i v : D) (h : HS) : Option HS := match o, i with
  | .ref a, .int k => (h[a]?).bind fun l => (ixN l.length k).bind fun j => some (h.set a (l.set j v))
  | _, _ => none
def Res.val {α : Type} : Res α → Option (α × HS)
  | .ok a h => some (a, h)
  | _ => none
def gSubD (o i : DE) : DG := fun d e h => (o e h).val.bind fun x => (i e x.2).val.bind fun y => (setD x.1 y.1 d y.2).bind fun h3 => some (e, h3)
section
variable {X : Cx} {W : WX} {a b c : Expr} {es : List Expr} {ma mb mc : DE} {ta tb : DT} {ms : DA} {pos : Pos} {st : Stmt} {rest sts : List Stmt} {m m1 m2 : DS}
theorem ds_nil : PSs X [] (tms X.K X.mg W sNil) := pss_nil.weak fun D σ H ⟨ι, e, h, R, S, p⟩ => p.nx R S
theorem ds_cons (p1 : PS X st (tms X.K X.mg W m1)) (p2 : PSs X rest (tms X.K X.mg W m2)) : PSs X (st :: rest) (tms X.K X.mg W (sSeq m1 m2)) :=
  (pss_cons p1 p2).weak fun D σ H ⟨ι, e, h, R, S, p⟩ => by
    refine tms_in R S ?_
    unfold sSeq at p
    cases q : m1 e h with
    | next e' h' =>
      rw [q] at p
      exact fun ι2 H2 s g R2 S2 => tms_in R2 S2 (PostS.shift g p)
    | ret _ _ => rw [q] at p; exact p
    | brk _ _ => rw [q] at p; exact p
    | cont _ _ => rw [q] at p; exact p
    | exc _ _ _ => rw [q] at p; exact p
    | stuck => rw [q] at p; exact p
theorem ds_one (p1 : PS X st (tms X.K X.mg W m1)) : PSs X [st] (tms X.K X.mg W m1) := pss_one p1
theorem ds_pass : PS X (.Pass pos) (tms X.K X.mg W sNil) := ps_pass.weak fun D σ H ⟨ι, e, h, R, S, p⟩ => p.nx R S
theorem ds_brk : PS X (.Break pos) (tms X.K X.mg W sBrk) := ps_break.weak fun D σ H ⟨ι, e, h, R, S, p⟩ => p ι H σ (Gr.refl R) R S
theorem ds_cont : PS X (.Continue pos) (tms X.K X.mg W sCont) := ps_continue.weak fun D σ H ⟨ι, e, h, R, S, p⟩ => p ι H σ (Gr.refl R) R S
theorem ds_ret (ha : PE X a (tm X.K X.mg W ma)) : PS X (.Return (some a) pos) (tms X.K X.mg W (sRet ma)) :=
  (ps_ret ha).weak fun D σ H ⟨ι, e, h, R, S, p⟩ => tm_in R S (PostS.step R S p fun d1 h1 ι1 H1 v1 g1 R1 x1 p1 => p1 ι1 H1 v1 (Gr.refl R1) R1 x1)
theorem ds_retN : PS X (.Return none pos) (tms X.K X.mg W sRetN) := ps_retN.weak fun D σ H ⟨ι, e, h, R, S, p⟩ => p ι H _ (Gr.refl R) R .non
theorem ds_expr (ha : PE X a (tm X.K X.mg W ma)) (hs : swapsWith a none pos.line X.env = pure false := by rfl) : PS X (.Expr a pos) (tms X.K X.mg W (sDrop ma)) :=
  (ps_expr ha hs).weak fun D σ H ⟨ι, e, h, R, S, p⟩ => tm_in R S (PostS.step R S p fun d1 h1 ι1 H1 v1 g1 R1 x1 p1 => p1.nx R1 (S.mono R g1))
theorem ds_if {A B : List Stmt} (hc : PT X c (tmT X.K X.mg W ta)) (ha : PSs X A (tms X.K X.mg W m1)) (hb : PSs X B (tms X.K X.mg W m2)) : PS X (.If c A B pos) (tms X.K X.mg W (sIf ta m1 m2)) :=
  (ps_if hc ha hb).weak fun D σ H ⟨ι, e, h, R, S, p⟩ => tm_in R S (PostS.step R S p fun d1 h1 ι1 H1 v1 g1 R1 x1 p1 => by
    cases x1
    cases d1 with
    | true => exact tms_in R1 (S.mono R g1) p1
    | false => exact tms_in R1 (S.mono R g1) p1)
/-! targets -/
theorem Pg.shift {K : PySem.W.Frag} {mg : Str → Option Value} {ι ι' : List Addr} {H H' : Hp} {Q : St → Hp → Prop} {r : Option (DEnv × HS)} (G : Gr ι H ι' H') (p : Pg K mg ι H Q r) : Pg K mg ι' H' Q r := by
  cases r with
  | none => exact p
  | some q => exact fun ι2 H2 v g => p ι2 H2 v (G.trans g)
theorem dg_name {i : Nat} {x : Str} (hN : X.N.Nodup) (hi : X.N[i]? = some x) (hx : Loc X.env.scope x) (hf : X.fn x = true ∨ X.env.scope.names.lookup x = some .local := by first | exact .inl rfl | exact .inr rfl | assumption) : PG X (.Name x pos) (tmg X.K X.mg (gNm i)) :=
  (pg_name hN hi hx hf).weak fun v σ H Q ⟨ι, e, h, d, R, S, r, p⟩ => p ι H _ (Gr.refl R) R (S.set i r)
theorem dgs_nil : PGs X [] (tmgs X.K X.mg gNilD) := ⟨fun pins s σ H vs us Q I r q => pgs_nil.run pins s σ H vs us Q I r (by
  obtain ⟨ι, e, h, ds, R, S, r, p⟩ := q
  cases r with
  | nil => exact ⟨rfl, p ι H σ (Gr.refl R) R S⟩
  | cons _ _ => exact p.elim)⟩
theorem dgs_cons {g : DG} {gs : DGs} (h1 : PG X a (tmg X.K X.mg g)) (h2 : PGs X es (tmgs X.K X.mg gs)) (hs : (assignEach (a :: es) X.env).map (·.2) = assign a X.env :: (assignEach es X.env).map (·.2) := by rfl) : PGs X (a :: es) (tmgs X.K X.mg (gConsD g gs)) :=
  ⟨fun pins s σ H vs us Q I r q => (pgs_cons h1 h2 hs).run pins s σ H vs us Q I r (by
    obtain ⟨ι, e, h, ds, R, S, r, p⟩ := q
    cases r with
    | nil => exact p.elim
    | cons r0 rr =>
      refine ⟨_, _, rfl, ι, e, h, _, R, S, r0, ?_⟩
      rename_i d v ds vs
      have p : Pg X.K X.mg ι H Q ((g d e h).bind fun q => gs ds q.1 q.2) := p
      cases q : g d e h with
      | none => rw [q] at p; exact p
      | some x =>
        rw [q] at p
        exact fun ι1 H1 σ1 g1 R1 S1 => ⟨ι1, x.1, x.2, ds, R1, S1, rr.mono R g1, Pg.shift g1 p⟩)⟩
theorem PG.or {X : Cx} {e : Expr} {t t' : TG} (p : PG X e t) (q : PG X e t') : PG X e (fun v σ H Q => t v σ H Q ∨ t' v σ H Q) := ⟨fun pins s σ H v u Q I r h => h.elim (p.run pins s σ H v u Q I r) (q.run pins s σ H v u Q I r)⟩
theorem dg_un {k n : Nat} {gs : DGs} (hc : X.calm = true) (hg : PGs X es (tmgs X.K X.mg gs)) (hn : (assignEach es X.env).length = n := by rfl) (hst : (assignEach es X.env).findIdx? (·.1) = none := by rfl) : PG X (.Tuple es k pos) (tmg X.K X.mg (gUn n gs)) :=
  (PG.or (pg_tup hc hg hn hst) (pg_lst hc hg hn hst)).weak fun v σ H Q ⟨ι, e, h, d, R, S, r, p⟩ => by
    cases d with
    | tup ds =>
      obtain ⟨a, xs, rfl, s, l⟩ := r.tup_inv
      have p : Pg X.K X.mg ι H Q (if ds.length = n then gs ds e h else none) := p
      split at p
      · rename_i hl
        exact .inl ⟨a, xs, rfl, s, by rw [← l.length]; exact hl, ι, e, h, ds, R, S, l, p⟩
      · exact p.elim
    | ref m =>
      obtain ⟨a, rfl, ha⟩ := r.ref_inv
      have p : Pg X.K X.mg ι H Q ((h[m]?).bind fun l => if l.length = n then gs l e h else none) := p
      cases q : h[m]? with
      | none => rw [q] at p; exact p.elim
      | some l =>
        rw [q] at p
        have p : Pg X.K X.mg ι H Q (if l.length = n then gs l e h else none) := p
        obtain ⟨xs, hx, rl⟩ := R.cell m a l ha q
        split at p
        · rename_i hl
          exact .inr ⟨a, xs, rfl, .inl (.inl hx), by rw [← rl.length]; exact hl, ι, e, h, l, R, S, rl, p⟩
        · exact p.elim
    | _ => exact p.elim
theorem val_step {α β : Type} {K : PySem.W.Frag} {mg : Str → Option Value} {ρ : List Addr → Hp → α → β → Prop} {W : WX} {σ : St} {ι : List Addr} {H : Hp} {Q : St → Hp → Prop} {Q' : β → Hp → Prop} {r : Res α} {k : α × HS → Option (DEnv × HS)} (p : Pg K mg ι H Q (r.val.bind k))
    (f : ∀ d h' ι' H' v, Gr ι H ι' H' → Rep K mg ι' h' H' → ρ ι' H' d v → Pg K mg ι' H' Q (k (d, h')) → Q' v H') : Post K mg ρ W σ ι H Q' r := by
  cases r with
  | ok d h' => exact fun ι2 H2 v g R q => f d h' ι2 H2 v g R q (Pg.shift g p)
  | exc er h' => exact p.elim
  | stuck => exact p
theorem dg_sub {o i : Expr} {mo mi : DE} (ho : PE X o (tm X.K X.mg W mo)) (hi : PE X i (tm X.K X.mg W mi))
    (ha : ∀ v, assign (.Subscript o i pos) X.env v = (do
      let ov ← holding [v] (eval o X.env)
      let iv ← holding [v, ov] (eval i X.env)
      standAt pos
      holding [v, ov, iv] (setItem ov iv v)
      release [v, ov, iv] []) := by intro _; rfl) : PG X (.Subscript o i pos) (tmg X.K X.mg (gSubD mo mi)) :=
  (pg_sub ho hi set_list ha).weak fun v σ H Q ⟨ι, e, h, d, R, S, r, p⟩ => by
    refine tm_in R S (val_step p fun x h1 ι1 H1 v1 g1 R1 x1 p1 => ?_)
    refine tm_in R1 (S.mono R g1) (val_step p1 fun y h2 ι2 H2 v2 g2 R2 x2 p2 => ?_)
    cases x with
    | ref a =>
      cases y with
      | int k =>
        have p2 : Pg X.K X.mg ι2 H2 Q (((h2[a]?).bind fun l => (ixN l.length k).bind fun j => some (h2.set a (l.set j d))).bind fun h3 => some (e, h3)) := p2
        cases q : h2[a]? with
        | none => rw [q] at p2; exact p2.elim
        | some l =>
          rw [q] at p2
          have p2 : Pg X.K X.mg ι2 H2 Q (((ixN l.length k).bind fun j => some (h2.set a (l.set j d))).bind fun h3 => some (e, h3)) := p2
          cases q2 : ixN l.length k with
          | none => rw [q2] at p2; exact p2.elim
          | some j =>
            rw [q2] at p2
            have x1' := x1.mono R1 g2
            cases x2
            cases x1' with
            | ref ha =>
              obtain ⟨xs, hx, rl⟩ := R2.cell a _ l ha q
              refine ⟨_, xs, k, j, rfl, rfl, hx, by rw [← rl.length]; exact q2, ?_⟩
              have rd := (r.mono R g1).mono R1 g2
              exact p2 ι2 _ σ (Gr.setCell R2 ha) (R2.setCell ha (rl.set j rd)) (((S.mono R g1).mono R1 g2).mono R2 (Gr.setCell R2 ha))
      | _ => exact p2.elim
    | _ => exact p2.elim
theorem ds_asg {tg : Expr} {g : DG} (he : PE X a (tm X.K X.mg W ma)) (hg : PG X tg (tmg X.K X.mg g)) (hs : swapsWithSole [tg] a pos.line X.env = pure false := by rfl) (hw : swappedStores [tg] a X.env = pure none := by rfl)
    (h1 : (assignEach [tg] X.env).map (·.2) = [assign tg X.env] := by rfl) : PS X (.Assign [tg] a pos) (tms X.K X.mg W (sAsg ma g)) :=
  (ps_asg he hg hs hw h1).weak fun D σ H ⟨ι, e, h, R, S, p⟩ => tm_in R S (PostS.step R S p fun d1 h1 ι1 H1 v1 g1 R1 x1 p1 => ⟨ι1, e, h1, d1, R1, S.mono R g1, x1, by
    cases q : g d1 e h1 with
    | none => rw [q] at p1; exact p1
    | some x => rw [q] at p1; exact p1⟩)
theorem ds_set {i : Nat} {x : Str} {pos' : Pos} (hN : X.N.Nodup) (hi : X.N[i]? = some x) (hx : Loc X.env.scope x) (he : PE X a (tm X.K X.mg W ma)) (hs : swapsWith a (some (.Name x pos')) pos.line X.env = pure false := by rfl) (hf : X.fn x = true ∨ X.env.scope.names.lookup x = some .local := by first | exact .inl rfl | exact .inr rfl | assumption) :
    PS X (.Assign [.Name x pos'] a pos) (tms X.K X.mg W (sAsg ma (gNm i))) :=
  (ps_set hN hi hx he hs hf).weak fun D σ H ⟨ι, e, h, R, S, p⟩ => tm_in R S (PostS.step R S p fun d1 h1 ι1 H1 v1 g1 R1 x1 p1 => p1 ι1 H1 _ (Gr.refl R1) R1 ((S.mono R g1).set i x1))
/-- a, b = x, y with plain names; three -/
def sPar (i j : Nat) (ms : DA) : DS := fun e h => (ms e h).toS e fun l h1 => match l with
  | [x, y] => .next ((e.set i (some x)).set j (some y)) h1
  | _ => .stuck
theorem ds_par {i j : Nat} {x y : Str} {px py pt : Pos} {kt k2 pt2} (hc : X.calm = true) (hN : X.N.Nodup) (hi : X.N[i]? = some x) (hj : X.N[j]? = some y) (hij : i ≠ j)
    (hx : X.env.scope.names.lookup x = some .local) (hy : X.env.scope.names.lookup y = some .local) (ha : PA X [a, b] (tmA X.K X.mg W ms))
    (hw : swappedStores [.Tuple [.Name x px, .Name y py] kt pt] (.Tuple [a, b] k2 pt2) X.env = pure (some [x, y]))
    (hs : swapsWithSole [.Tuple [.Name x px, .Name y py] kt pt] (.Tuple [a, b] k2 pt2) pos.line X.env = pure false := by rfl) :
    PS X (.Assign [.Tuple [.Name x px, .Name y py] kt pt] (.Tuple [a, b] k2 pt2) pos) (tms X.K X.mg W (sPar i j ms)) :=
  (ps_par hc hN hi hj hij hx hy ha hw hs).weak fun D σ H ⟨ι, e, h, R, S, p⟩ => tm_in R S (PostS.step R S p fun d1 h1 ι1 H1 v1 g1 R1 x1 p1 => by
    match d1, p1, x1 with
    | [x, y], p1, .cons r1 (.cons r2 .nil) => exact ⟨_, _, rfl, p1 ι1 H1 _ (Gr.refl R1) R1 (((S.mono R g1).set i r1).set j r2)⟩
    | [], p1, _ => exact p1.elim
    | [_], p1, _ => exact p1.elim
    | _ :: _ :: _ :: _, p1, _ => exact p1.elim)
def sPar3 (i j l : Nat) (ms : DA) : DS := fun e h => (ms e h).toS e fun q h1 => match q with
  | [x, y, z] => .next (((e.set i (some x)).set j (some y)).set l (some z)) h1
  | _ => .stuck
theorem ds_par3 {i j l : Nat} {x y z : Str} {px py pz pt : Pos} {kt k2 pt2} (hc : X.calm = true) (hN : X.N.Nodup) (hi : X.N[i]? = some x) (hj : X.N[j]? = some y) (hl : X.N[l]? = some z) (hij : i ≠ j) (hil : i ≠ l) (hjl : j ≠ l)
    (hx : X.env.scope.names.lookup x = some .local) (hy : X.env.scope.names.lookup y = some .local) (hz : X.env.scope.names.lookup z = some .local) (ha : PA X [a, b, c] (tmA X.K X.mg W ms))
    (hw : swappedStores [.Tuple [.Name x px, .Name y py, .Name z pz] kt pt] (.Tuple [a, b, c] k2 pt2) X.env = pure (some [x, y, z]))
    (hs : swapsWithSole [.Tuple [.Name x px, .Name y py, .Name z pz] kt pt] (.Tuple [a, b, c] k2 pt2) pos.line X.env = pure false := by rfl) :
    PS X (.Assign [.Tuple [.Name x px, .Name y py, .Name z pz] kt pt] (.Tuple [a, b, c] k2 pt2) pos) (tms X.K X.mg W (sPar3 i j l ms)) :=
  (ps_par3 hc hN hi hj hl hij hil hjl hx hy hz ha hw hs).weak fun D σ H ⟨ι, e, h, R, S, p⟩ => tm_in R S (PostS.step R S p fun d1 h1 ι1 H1 v1 g1 R1 x1 p1 => by
    match d1, p1, x1 with
    | [x, y, z], p1, .cons r1 (.cons r2 (.cons r3 .nil)) => exact ⟨_, _, _, rfl, p1 ι1 H1 _ (Gr.refl R1) R1 ((((S.mono R g1).set i r1).set j r2).set l r3)⟩
    | [], p1, _ => exact p1.elim
    | [_], p1, _ => exact p1.elim
    | [_, _], p1, _ => exact p1.elim
    | _ :: _ :: _ :: _ :: _, p1, _ => exact p1.elim)
end
end PI

namespace PI
open PySem L2
/-! ### while -/
def whileGo (t : DT) (b : DS) : Nat → DEnv → HS → SR
  | 0, _, _ => .stuck
  | n + 1, e, h => (t e h).toS e fun x h1 => if x then (match b e h1 with
      | .next e2 h2 => whileGo t b n e2 h2
      | .cont e2 h2 => whileGo t b n e2 h2
      | .brk e2 h2 => .next e2 h2
      | r => r) else .next e h1
open Classical in
noncomputable def sWhile (t : DT) (b : DS) : DS := fun e h => if q : ∃ n, whileGo t b n e h ≠ .stuck then whileGo t b q.choose e h else .stuck
theorem whileGo_more {t : DT} {b : DS} : ∀ (n : Nat) (e : DEnv) (h : HS), whileGo t b n e h ≠ .stuck → whileGo t b (n + 1) e h = whileGo t b n e h
  | 0, e, h, q => absurd rfl q
  | n + 1, e, h, q => by
    have ih := whileGo_more (t := t) (b := b) n
    unfold whileGo at q
    rw [whileGo, whileGo]
    cases r : t e h with
    | ok x h1 =>
      rw [r] at q
      cases x with
      | false => rfl
      | true =>
        simp only [Res.toS, if_true] at q ⊢
        cases rb : b e h1 with
        | next e2 h2 => rw [rb] at q; exact ih e2 h2 q
        | cont e2 h2 => rw [rb] at q; exact ih e2 h2 q
        | brk e2 h2 => rfl
        | ret e2 h2 => rfl
        | exc er e2 h2 => rfl
        | stuck => rfl
    | exc er h1 => rfl
    | stuck => rfl
theorem whileGo_le {t : DT} {b : DS} {n m : Nat} {e : DEnv} {h : HS} (q : whileGo t b n e h ≠ .stuck) (l : n ≤ m) : whileGo t b m e h = whileGo t b n e h := by
  induction m with
  | zero =>
    have : n = 0 := by omega
    subst this; rfl
  | succ m ih =>
    by_cases c : n = m + 1
    · rw [c]
    · have i := ih (by omega)
      rw [whileGo_more m e h (by rw [i]; exact q), i]
/-- what a run of some length gives -/
theorem sWhile_eq {t : DT} {b : DS} {n : Nat} {e : DEnv} {h : HS} (q : whileGo t b n e h ≠ .stuck) : sWhile t b e h = whileGo t b n e h := by
  unfold sWhile
  have q' : ∃ n, whileGo t b n e h ≠ .stuck := ⟨n, q⟩
  rw [dif_pos q']
  have c := q'.choose_spec
  rcases Nat.le_total n q'.choose with l | l
  · exact whileGo_le q l
  · exact (whileGo_le c l).symm
section
variable {X : Cx} {W : WX} {c : Expr} {body : List Stmt} {t : DT} {b : DS} {pos : Pos}
theorem ds_while (hp : PassesOwn (model X.prog X.w) X.A X.env X.xe) (hc : PT X c (tmT X.K X.mg W t)) (hb : PSs X body (tms X.K X.mg W b)) : PS X (.While c body [] pos) (tms X.K X.mg W (sWhile t b)) :=
  (ps_while hp hc hb).weak fun D σ H ⟨ι, e, h, R, S, p⟩ => by
    have key : ∃ n, PostS X.K X.mg W ι H D (whileGo t b n e h) := by
      unfold sWhile at p
      split at p
      · exact ⟨_, p⟩
      · exact p.elim
    obtain ⟨n, p⟩ := key
    refine ⟨fun m σ H => ∃ ι e h, Rep X.K X.mg ι h H ∧ RelS X.K X.mg ι H e σ ∧ PostS X.K X.mg W ι H D (whileGo t b m e h), ⟨n, ι, e, h, R, S, p⟩, ?_⟩
    rintro m σ H ⟨ι, e, h, R, S, p⟩
    cases m with
    | zero => exact p.elim
    | succ m =>
      unfold whileGo at p
      refine tm_in R S (PostS.step R S p fun x h1 ι1 H1 v1 g1 R1 x1 p1 => ?_)
      cases x1
      cases x with
      | false => exact p1.nx R1 (S.mono R g1)
      | true =>
        refine ⟨fun σ' H' => ∃ ι e h, Rep X.K X.mg ι h H' ∧ RelS X.K X.mg ι H' e σ' ∧ PostS X.K X.mg W ι H' D (whileGo t b m e h), fun σ' H' q => ⟨m, Nat.lt_succ_self m, q⟩, ?_⟩
        have S1 := S.mono R g1
        refine tms_in R1 S1 ?_
        have p1 : PostS X.K X.mg W ι1 H1 D (match b e h1 with
          | .next e2 h2 => whileGo t b m e2 h2
          | .cont e2 h2 => whileGo t b m e2 h2
          | .brk e2 h2 => .next e2 h2
          | r => r) := p1
        cases q : b e h1 with
        | next e2 h2 => rw [q] at p1; exact fun ι2 H2 s g R2 S2 => ⟨ι2, e2, h2, R2, S2, PostS.shift g p1⟩
        | cont e2 h2 => rw [q] at p1; exact fun ι2 H2 s g R2 S2 => ⟨ι2, e2, h2, R2, S2, PostS.shift g p1⟩
        | brk e2 h2 => rw [q] at p1; exact p1
        | ret e2 h2 => rw [q] at p1; exact p1
        | exc er e2 h2 => rw [q] at p1; exact p1
        | stuck => rw [q] at p1; exact p1
end
/-! ### for -/
inductive Src where
  | lst (l : List D) | cell (n : Nat) | rng (lo : Int) (n : Nat) | zip (l m : List D) | zipc (n m : Nat)
def Src.get : Src → HS → Nat → Option (Option D)
  | .lst l, _, i => some l[i]?
  | .cell n, h, i => (h[n]?).map fun l => l[i]?
  | .rng lo n, _, i => some (if i < n then some (.int (lo + i)) else none)
  | .zip l m, _, i => some (match l[i]?, m[i]? with
      | some x, some y => some (.tup [x, y])
      | _, _ => none)
  | .zipc n m, h, i => (h[n]?).bind fun l => (h[m]?).map fun k => match l[i]?, k[i]? with
      | some x, some y => some (.tup [x, y])
      | _, _ => none
def Src.size : Src → HS → Nat
  | .lst l, _ => l.length
  | .cell n, h => (h.getD n []).length
  | .rng _ n, _ => n
  | .zip l _, _ => l.length
  | .zipc n _, h => (h.getD n []).length
abbrev DI := DEnv → HS → Res Src
section
variable (K : PySem.W.Frag) (mg : Str → Option Value)
/-- the layer's iterator does what the source says -/
def SrcR (ι : List Addr) (H : Hp) (s : Src) (J : It) : Prop := ∀ ι' h' H', Gr ι H ι' H' → Rep K mg ι' h' H' → ∀ i,
  (s.get h' i = some none → J.stop i H') ∧ (∀ d, s.get h' i = some (some d) → J.go i H' ∧ ∀ x H'', J.yld i H' x H'' → Gr ι' H' ι' H'' ∧ Rep K mg ι' h' H'' ∧ Re K mg ι' H'' d x)
abbrev tmI (W : WX) (m : DI) : TI := tmG K mg (SrcR K mg) W m
end
def forGo (s : Src) (g : DG) (b : DS) : Nat → Nat → DEnv → HS → SR
  | 0, _, _, _ => .stuck
  | n + 1, i, e, h => match s.get h i with
    | none => .stuck
    | some none => .next e h
    | some (some d) => match g d e h with
      | none => .stuck
      | some (e1, h1) => match b e1 h1 with
        | .next e2 h2 => forGo s g b n (i + 1) e2 h2
        | .cont e2 h2 => forGo s g b n (i + 1) e2 h2
        | .brk e2 h2 => .next e2 h2
        | r => r
def sFor (m : DI) (g : DG) (b : DS) : DS := fun e h => (m e h).toS e fun s h1 => forGo s g b (s.size h1 + 1) 0 e h1
section
variable {X : Cx} {W : WX} {c iter : Expr} {body : List Stmt} {m : DI} {g : DG} {b : DS} {pos : Pos} {ma mb : DE} {ms : DA} {a : Expr} {tg : Expr}
theorem ds_for (hp : PassesOwn (model X.prog X.w) X.A X.env X.xe) (hc : X.calm = true) (hi : L2.PI X tg iter (tmI X.K X.mg W m)) (hg : PG X tg (tmg X.K X.mg g)) (hb : PSs X body (tms X.K X.mg W b))
    (hs : ∀ x, foldedSetIterable iter X.env x = pure x := by intro _; rfl) : PS X (.For tg iter body [] pos) (tms X.K X.mg W (sFor m g b)) :=
  (ps_for hp hc hi hg hb hs).weak fun D σ H ⟨ι, e, h, R, S, p⟩ => by
    refine tm_in R S (PostS.step R S p fun s h1 ι1 H1 J g1 R1 x1 p1 => ?_)
    have S1 := S.mono R g1
    refine ⟨fun i n σ H' => ∃ ι' e h, Gr ι1 H1 ι' H' ∧ Rep X.K X.mg ι' h H' ∧ RelS X.K X.mg ι' H' e σ ∧ PostS X.K X.mg W ι' H' D (forGo s g b n i e h), ⟨_, ι1, e, h1, Gr.refl R1, R1, S1, p1⟩, ?_⟩
    rintro i n σ' H' ⟨ι', e', h', g', R', S', p'⟩
    cases n with
    | zero => exact p'.elim
    | succ n =>
      unfold forGo at p'
      obtain ⟨hstop, hgo⟩ := x1 ι' h' H' g' R' i
      cases q : s.get h' i with
      | none => rw [q] at p'; exact p'.elim
      | some od =>
        cases od with
        | none =>
          rw [q] at p'
          exact .inl ⟨hstop q, p'.nx R' S'⟩
        | some d =>
          rw [q] at p'
          obtain ⟨go, hy⟩ := hgo d q
          refine .inr ⟨go, fun σ'' H'' => ∃ ι' e h, Gr ι1 H1 ι' H'' ∧ Rep X.K X.mg ι' h H'' ∧ RelS X.K X.mg ι' H'' e σ'' ∧ PostS X.K X.mg W ι' H'' D (forGo s g b n (i + 1) e h), fun σ'' H'' z => ⟨n, Nat.lt_succ_self n, z⟩, fun x H2 y => ?_⟩
          obtain ⟨g2, R2, r2⟩ := hy x H2 y
          refine ⟨ι', e', h', d, R2, S'.mono R' g2, r2, ?_⟩
          have p' : PostS X.K X.mg W ι' H' D (match g d e' h' with
            | none => .stuck
            | some (e1, h1) => match b e1 h1 with
              | .next e2 h2 => forGo s g b n (i + 1) e2 h2
              | .cont e2 h2 => forGo s g b n (i + 1) e2 h2
              | .brk e2 h2 => .next e2 h2
              | r => r) := p'
          cases qg : g d e' h' with
          | none => rw [qg] at p'; exact p'
          | some z =>
            obtain ⟨e1, h1'⟩ := z
            rw [qg] at p'
            intro ι3 H3 σ3 g3 R3 S3
            refine tms_in R3 S3 ?_
            have p3 : PostS X.K X.mg W ι3 H3 D (match b e1 h1' with
              | .next e2 h2 => forGo s g b n (i + 1) e2 h2
              | .cont e2 h2 => forGo s g b n (i + 1) e2 h2
              | .brk e2 h2 => .next e2 h2
              | r => r) := PostS.shift (g2.trans g3) p'
            have g13 : Gr ι1 H1 ι3 H3 := (g'.trans g2).trans g3
            cases qb : b e1 h1' with
            | next e2 h2 => rw [qb] at p3; exact fun ι4 H4 s4 g4 R4 S4 => ⟨ι4, e2, h2, g13.trans g4, R4, S4, PostS.shift g4 p3⟩
            | cont e2 h2 => rw [qb] at p3; exact fun ι4 H4 s4 g4 R4 S4 => ⟨ι4, e2, h2, g13.trans g4, R4, S4, PostS.shift g4 p3⟩
            | brk e2 h2 => rw [qb] at p3; exact p3
            | ret e2 h2 => rw [qb] at p3; exact p3
            | exc er e2 h2 => rw [qb] at p3; exact p3
            | stuck => rw [qb] at p3; exact p3
/-! sources -/
theorem PI.weak {t t' : TI} (p : L2.PI X tg iter t) (h : ∀ σ H Q, t' σ H Q → t σ H Q) : L2.PI X tg iter t' := ⟨fun pins s σ H Q I q => p.run pins s σ H Q I (h σ H Q q)⟩
theorem PI.or {t t' : TI} (p : L2.PI X tg iter t) (q : L2.PI X tg iter t') : L2.PI X tg iter (fun σ H Q => t σ H Q ∨ t' σ H Q) := ⟨fun pins s σ H Q I h => h.elim (p.run pins s σ H Q I) (q.run pins s σ H Q I)⟩
/-- a list or a tuple -/
def iAny (K : PySem.W.Frag) (tl : TE) : TI := fun σ H R => tl σ H fun x H1 => (∃ a, x = .ref a ∧ (∃ xs, SqL K H1 a xs) ∧ R (Itl K a) H1) ∨ (∃ a, x = .ref a ∧ (∃ xs, SqT K H1 a xs) ∧ R (Itt K a) H1)
theorem pi_any {l : Expr} {tl : TE} (hl : PE X l tl) : L2.PI X tg l (iAny X.K tl) := by
  refine ⟨fun pins s σ H R I h => ?_⟩
  refine thn (hl.run pins s σ H _ I h) fun v s1 ⟨x, H1, I1, r1, q1⟩ => ?_
  rcases q1 with ⟨a, e, ⟨xs, hq⟩, q⟩ | ⟨a, e, ⟨xs, hq⟩, q⟩
  · subst e
    cases r1
    obtain ⟨its, rv, p, hz⟩ := I1.list hq
    refine wpAny_pyIter_list p.isList ?_
    refine ⟨s1.heap.objs.size, [s1.heap.objs.size], _, _, H1, rfl, I1.kept (t' := s1.toks) fun b o e => Heap.get?_push_of_some _ e, turn_list a _, ⟨_, Heap.get?_push_size _ rfl, rfl, rfl⟩, fun b hb => ?_, q⟩
    have e : b = s1.heap.objs.size := by simpa using hb
    subst e
    exact I1.fpOk (Nat.le_refl _) (I1.hok.fresh (Nat.le_refl _))
  · subst e
    cases r1
    obtain ⟨its, rv, p, hz⟩ := I1.tuple hq
    refine wpAny_pyIter_tuple (show s1.heap.IsTuple a its.toArray from p) ?_
    refine ⟨s1.heap.objs.size, [s1.heap.objs.size], _, _, H1, rfl, I1.kept (t' := s1.toks) fun b o e => Heap.get?_push_of_some _ e, turn_tuple a _, ⟨_, Heap.get?_push_size _ rfl, rfl, rfl⟩, fun b hb => ?_, q⟩
    have e : b = s1.heap.objs.size := by simpa using hb
    subst e
    exact I1.fpOk (Nat.le_refl _) (I1.hok.fresh (Nat.le_refl _))
def asInt : D → Option Int
  | .int i => some i
  | _ => none
def asTup : D → Option (List D)
  | .tup i => some i
  | _ => none
def get1 : List D → Option D
  | [d] => some d
  | _ => none
def get2 : List D → Option (D × D)
  | [d, e] => some (d, e)
  | _ => none
theorem asInt_eq {d : D} {i : Int} (h : asInt d = some i) : d = .int i := by
  cases d with
  | int j => exact congrArg D.int (Option.some.inj h)
  | _ => cases h
theorem asTup_eq {d : D} {i : List D} (h : asTup d = some i) : d = .tup i := by
  cases d with
  | tup j => exact congrArg D.tup (Option.some.inj h)
  | _ => cases h
theorem get1_eq {l : List D} {d : D} (h : get1 l = some d) : l = [d] := by
  match l, h with
  | [x], h => rw [Option.some.inj (show some x = some d from h)]
  | [], h => cases h
  | _ :: _ :: _, h => cases h
theorem get2_eq {l : List D} {d : D × D} (h : get2 l = some d) : l = [d.1, d.2] := by
  match l, h with
  | [x, y], h => rw [← Option.some.inj (show some (x, y) = some d from h)]
  | [], h => cases h
  | [_], h => cases h
  | _ :: _ :: _ :: _, h => cases h
def dSrc (ma : DE) : DI := fun e h => (ma e h).bind fun d h1 => match d with
  | .tup l => .ok (.lst l) h1
  | .rol l => .ok (.lst l) h1
  | .ref n => if n < h1.length then .ok (.cell n) h1 else .stuck
  | _ => .stuck
def ofOpt {α β : Type} (o : Option α) (k : α → Res β) : Res β := match o with
  | some a => k a
  | none => .stuck
/-- the bound of a range: told so that nothing works it out by itself -/
def RngOk (j : Int) : Prop := -(2 ^ 62) ≤ j ∧ j < 2 ^ 62
noncomputable instance (j : Int) : Decidable (RngOk j) := Classical.propDecidable _
noncomputable def dRng1 (ms : DA) : DI := fun e h => (ms e h).bind fun l h1 => ofOpt ((get1 l).bind asInt) fun j => if RngOk j then .ok (.rng 0 j.toNat) h1 else .stuck
noncomputable def dRng2 (ms : DA) : DI := fun e h => (ms e h).bind fun l h1 => ofOpt (get2 l) fun d => ofOpt (asInt d.1) fun i => ofOpt (asInt d.2) fun j => if RngOk i ∧ RngOk j then .ok (.rng i (j - i).toNat) h1 else .stuck
def zipSrc (d1 d2 : D) (h1 : HS) : Res Src := match d1, d2 with
  | .tup l, .tup m => .ok (.zip l m) h1
  | .ref n, .ref m => if n < h1.length ∧ m < h1.length then .ok (.zipc n m) h1 else .stuck
  | _, _ => .stuck
def dZip (ms : DA) : DI := fun e h => (ms e h).bind fun l h1 => ofOpt (get2 l) fun d => zipSrc d.1 d.2 h1
theorem ofOpt_post {α β γ : Type} {K : PySem.W.Frag} {mg : Str → Option Value} {ρ : List Addr → Hp → β → γ → Prop} {W : WX} {σ : St} {ι : List Addr} {H : Hp} {Q : γ → Hp → Prop} {o : Option α} {k : α → Res β} (p : Post K mg ρ W σ ι H Q (ofOpt o k)) : ∃ a, o = some a ∧ Post K mg ρ W σ ι H Q (k a) := by
  cases o with
  | some a => exact ⟨a, rfl, p⟩
  | none => exact p.elim
theorem sqt_one {K : PySem.W.Frag} {mg : Str → Option Value} {ι : List Addr} {H : Hp} {a : Addr} {ds : List D} {xs : List V} {i : Nat} (s : SqT K H a xs) (r : ReL K mg ι H ds xs) : (ds[i]? = none → (Itt K a).stop i H) ∧ (∀ d, ds[i]? = some d → (Itt K a).go i H ∧ ∀ x H'', (Itt K a).yld i H x H'' → H'' = H ∧ Re K mg ι H d x) := by
  refine ⟨fun e => ⟨xs, s, by rw [← r.length]; exact List.getElem?_eq_none_iff.mp e⟩, fun d e => ?_⟩
  obtain ⟨v, hv, rv⟩ := r.get e
  refine ⟨⟨xs, v, s, hv⟩, fun x H'' y => ⟨y.1, ?_⟩⟩
  have e2 := y.2 xs s
  rw [hv] at e2
  cases e2
  exact rv
theorem sql_one {K : PySem.W.Frag} {mg : Str → Option Value} {ι : List Addr} {H : Hp} {a : Addr} {ds : List D} {xs : List V} {i : Nat} (s : SqL K H a xs) (r : ReL K mg ι H ds xs) : (ds[i]? = none → (Itl K a).stop i H) ∧ (∀ d, ds[i]? = some d → (Itl K a).go i H ∧ ∀ x H'', (Itl K a).yld i H x H'' → H'' = H ∧ Re K mg ι H d x) := by
  refine ⟨fun e => ⟨xs, s, by rw [← r.length]; exact List.getElem?_eq_none_iff.mp e⟩, fun d e => ?_⟩
  obtain ⟨v, hv, rv⟩ := r.get e
  refine ⟨⟨xs, v, s, hv⟩, fun x H'' y => ⟨y.1, ?_⟩⟩
  have e2 := y.2 xs s
  rw [hv] at e2
  cases e2
  exact rv
theorem srcR_tup {K : PySem.W.Frag} {mg : Str → Option Value} {ι : List Addr} {h : HS} {H : Hp} {a : Addr} {ds : List D} {xs : List V} (R : Rep K mg ι h H) (s : SqT K H a xs) (r : ReL K mg ι H ds xs) : SrcR K mg ι H (.lst ds) (Itt K a) := by
  intro ι' h' H' g R' i
  obtain ⟨p, q⟩ := sqt_one (i := i) (sqt_stay R g s) (r.mono R g)
  refine ⟨fun e => p (by simpa [Src.get] using e), fun d e => ?_⟩
  obtain ⟨go, y⟩ := q d (by simpa [Src.get] using e)
  refine ⟨go, fun x H'' z => ?_⟩
  obtain ⟨rfl, r⟩ := y x H'' z
  exact ⟨Gr.refl R', R', r⟩
theorem srcR_rol {K : PySem.W.Frag} {mg : Str → Option Value} {ι : List Addr} {h : HS} {H : Hp} {a : Addr} {ds : List D} {xs : List V} (R : Rep K mg ι h H) (s : RoL K H a xs) (r : ReL K mg ι H ds xs) : SrcR K mg ι H (.lst ds) (Itl K a) := by
  intro ι' h' H' g R' i
  have s' : SqL K H' a xs := (rol_stay R g s).now
  obtain ⟨p, q⟩ := sql_one (i := i) s' (r.mono R g)
  refine ⟨fun e => p (by simpa [Src.get] using e), fun d e => ?_⟩
  obtain ⟨go, y⟩ := q d (by simpa [Src.get] using e)
  refine ⟨go, fun x H'' z => ?_⟩
  obtain ⟨rfl, r⟩ := y x H'' z
  exact ⟨Gr.refl R', R', r⟩
theorem srcR_cell {K : PySem.W.Frag} {mg : Str → Option Value} {ι : List Addr} {H : Hp} {a : Addr} {n : Nat} (ha : ι[n]? = some a) : SrcR K mg ι H (.cell n) (Itl K a) := by
  intro ι' h' H' g R' i
  have ha' : ι'[n]? = some a := by
    obtain ⟨t, rfl⟩ := g.pre
    rw [List.getElem?_append_left (List.getElem?_eq_some_iff.mp ha).1]
    exact ha
  cases q : h'[n]? with
  | none => exact ⟨fun e => by simp [Src.get, q] at e, fun d e => by simp [Src.get, q] at e⟩
  | some l =>
    obtain ⟨xs, hx, rl⟩ := R'.cell n a l ha' q
    obtain ⟨p, q'⟩ := sql_one (i := i) (.inl (.inl hx)) rl
    refine ⟨fun e => p (by simpa [Src.get, q] using e), fun d e => ?_⟩
    obtain ⟨go, y⟩ := q' d (by simpa [Src.get, q] using e)
    refine ⟨go, fun x H'' z => ?_⟩
    obtain ⟨rfl, r⟩ := y x H'' z
    exact ⟨Gr.refl R', R', r⟩
theorem srcR_rng {K : PySem.W.Frag} {mg : Str → Option Value} {ι : List Addr} {H : Hp} {lo : Int} {n : Nat} : SrcR K mg ι H (.rng lo n) (Itr lo n) := by
  intro ι' h' H' g R' i
  refine ⟨fun e => ?_, fun d e => ?_⟩
  · by_cases c : i < n
    · simp [Src.get, c] at e
    · exact Nat.le_of_not_lt c
  · by_cases c : i < n
    · have e' : d = .int (lo + i) := by
        simp [Src.get, c] at e
        exact e.symm
      subst e'
      refine ⟨c, fun x H'' z => ?_⟩
      obtain ⟨rfl, rfl⟩ := z
      exact ⟨Gr.refl R', R', .int _⟩
    · simp [Src.get, c] at e
theorem di_any (ha : PE X a (tm X.K X.mg W ma)) : L2.PI X tg a (tmI X.K X.mg W (dSrc ma)) :=
  (PI.weak (pi_any ha)) fun σ H Q ⟨ι, e, h, R, S, p⟩ => tm_in R S (Post.step p fun d1 h1 ι1 H1 v1 g1 R1 x1 p1 => by
    cases d1 with
    | tup ds =>
      obtain ⟨a, xs, rfl, s, l⟩ := x1.tup_inv
      exact .inr ⟨a, rfl, ⟨xs, s⟩, p1.now R1 (srcR_tup R1 s l)⟩
    | rol ds =>
      obtain ⟨a, xs, rfl, s, l⟩ := x1.rol_inv
      exact .inl ⟨a, rfl, ⟨xs, s.now⟩, p1.now R1 (srcR_rol R1 s l)⟩
    | ref n =>
      obtain ⟨a, rfl, ha⟩ := x1.ref_inv
      have p1 : Post X.K X.mg (SrcR X.K X.mg) W σ ι1 H1 Q (if n < h1.length then .ok (.cell n) h1 else .stuck) := p1
      split at p1
      · rename_i hn
        obtain ⟨xs, hx, rl⟩ := R1.cell n a h1[n] ha (List.getElem?_eq_getElem hn)
        exact .inl ⟨a, rfl, ⟨xs, .inl (.inl hx)⟩, p1.now R1 (srcR_cell ha)⟩
      · exact p1.elim
    | _ => exact p1.elim)
theorem di_rng1 {p pos : Pos} (hg : Gl X "range") (hm : X.mg "range" = none) (ha : PA X [a] (tmA X.K X.mg W ms)) (hs : starEach [a] X.env = [(false, eval a X.env)] := by rfl) : L2.PI X tg (.Call (.Name "range" p) [a] [] pos) (tmI X.K X.mg W (dRng1 ms)) :=
  (PI.weak (pi_range1 hg hm ha hs)) fun σ H Q ⟨ι, e, h, R, S, p⟩ => tm_in R S (Post.step p fun d1 h1 ι1 H1 v1 g1 R1 x1 p1 => by
    obtain ⟨j, e1, p2⟩ := ofOpt_post p1
    obtain ⟨d, e2, e3⟩ := Option.bind_eq_some_iff.mp e1
    rw [get1_eq e2, asInt_eq e3] at x1
    cases x1 with
    | cons r1 rn =>
      cases rn
      split at p2
      · rename_i c
        exact ⟨j, by rw [isInt r1], c.1, c.2, p2.now R1 srcR_rng⟩
      · exact p2.elim)
theorem di_rng2 {a b : Expr} {p pos : Pos} (hg : Gl X "range") (hm : X.mg "range" = none) (ha : PA X [a, b] (tmA X.K X.mg W ms)) (hs : starEach [a, b] X.env = [(false, eval a X.env), (false, eval b X.env)] := by rfl) (hs2 : starEach [b] X.env = [(false, eval b X.env)] := by rfl) : L2.PI X tg (.Call (.Name "range" p) [a, b] [] pos) (tmI X.K X.mg W (dRng2 ms)) :=
  (PI.weak (pi_range2 hg hm ha hs hs2)) fun σ H Q ⟨ι, e, h, R, S, p⟩ => tm_in R S (Post.step p fun d1 h1 ι1 H1 v1 g1 R1 x1 p1 => by
    obtain ⟨d, e1, p2⟩ := ofOpt_post p1
    obtain ⟨i, e2, p3⟩ := ofOpt_post p2
    obtain ⟨j, e3, p4⟩ := ofOpt_post p3
    rw [get2_eq e1, asInt_eq e2, asInt_eq e3] at x1
    cases x1 with
    | cons r1 rn =>
      cases rn with
      | cons r2 rn =>
        cases rn
        split at p4
        · rename_i c
          exact ⟨i, j, by rw [isInt r1, isInt r2], ⟨c.1.1, c.1.2, c.2.1, c.2.2⟩, p4.now R1 srcR_rng⟩
        · exact p4.elim)
theorem srcR_zip {K : PySem.W.Frag} {mg : Str → Option Value} {ι : List Addr} {h : HS} {H : Hp} {a b : Addr} {ds es : List D} {xs ys : List V} (R : Rep K mg ι h H) (s : SqT K H a xs) (s2 : SqT K H b ys) (r : ReL K mg ι H ds xs) (r2 : ReL K mg ι H es ys) : SrcR K mg ι H (.zip ds es) (RZ.ItzT K a b) := by
  intro ι' h' H' g R' i
  have s := sqt_stay R g s
  have s2 := sqt_stay R g s2
  have r := r.mono R g
  have r2 := r2.mono R g
  refine ⟨fun e => ⟨xs, ys, s, s2, ?_⟩, fun d e => ?_⟩
  · cases q1 : ds[i]? with
    | none => left; rw [← r.length]; exact List.getElem?_eq_none_iff.mp q1
    | some x =>
      cases q2 : es[i]? with
      | none => right; rw [← r2.length]; exact List.getElem?_eq_none_iff.mp q2
      | some y => simp [Src.get, q1, q2] at e
  · cases q1 : ds[i]? with
    | none => simp [Src.get, q1] at e
    | some x =>
      cases q2 : es[i]? with
      | none => simp [Src.get, q1, q2] at e
      | some y =>
        have e' : d = .tup [x, y] := by
          simp [Src.get, q1, q2] at e
          exact e.symm
        subst e'
        obtain ⟨v1, hv1, rv1⟩ := r.get q1
        obtain ⟨v2, hv2, rv2⟩ := r2.get q2
        refine ⟨⟨xs, ys, v1, v2, s, s2, hv1, hv2⟩, fun z H'' q => ?_⟩
        obtain ⟨T, x1, y1, rfl, nT, rfl, f1, f2⟩ := q
        have e1 := f1 xs s
        have e2 := f2 ys s2
        rw [hv1] at e1
        rw [hv2] at e2
        cases e1
        cases e2
        exact ⟨Gr.upd R' nT, R'.upd nT, .tup (.inl (.inl upd_same)) (.cons (rv1.mono R' (Gr.upd R' nT)) (.cons (rv2.mono R' (Gr.upd R' nT)) .nil))⟩
theorem srcR_zipc {K : PySem.W.Frag} {mg : Str → Option Value} {ι : List Addr} {H : Hp} {a b : Addr} {n m : Nat} (ha : ι[n]? = some a) (hb : ι[m]? = some b) : SrcR K mg ι H (.zipc n m) (Itz K a b) := by
  intro ι' h' H' g R' i
  obtain ⟨t, et⟩ := g.pre
  have ha' : ι'[n]? = some a := by rw [← et, List.getElem?_append_left (List.getElem?_eq_some_iff.mp ha).1]; exact ha
  have hb' : ι'[m]? = some b := by rw [← et, List.getElem?_append_left (List.getElem?_eq_some_iff.mp hb).1]; exact hb
  cases q : h'[n]? with
  | none => exact ⟨fun e => by simp [Src.get, q] at e, fun d e => by simp [Src.get, q] at e⟩
  | some l =>
    cases q' : h'[m]? with
    | none => exact ⟨fun e => by simp [Src.get, q, q'] at e, fun d e => by simp [Src.get, q, q'] at e⟩
    | some l' =>
      obtain ⟨xs, hx, r⟩ := R'.cell n a l ha' q
      obtain ⟨ys, hy, r2⟩ := R'.cell m b l' hb' q'
      have s : SqL K H' a xs := .inl (.inl hx)
      have s2 : SqL K H' b ys := .inl (.inl hy)
      refine ⟨fun e => ⟨xs, ys, s, s2, ?_⟩, fun d e => ?_⟩
      · cases q1 : l[i]? with
        | none => left; rw [← r.length]; exact List.getElem?_eq_none_iff.mp q1
        | some x =>
          cases q2 : l'[i]? with
          | none => right; rw [← r2.length]; exact List.getElem?_eq_none_iff.mp q2
          | some y => simp [Src.get, q, q', q1, q2] at e
      · cases q1 : l[i]? with
        | none => simp [Src.get, q, q', q1] at e
        | some x =>
          cases q2 : l'[i]? with
          | none => simp [Src.get, q, q', q1, q2] at e
          | some y =>
            have e' : d = .tup [x, y] := by
              simp [Src.get, q, q', q1, q2] at e
              exact e.symm
            subst e'
            obtain ⟨v1, hv1, rv1⟩ := r.get q1
            obtain ⟨v2, hv2, rv2⟩ := r2.get q2
            refine ⟨⟨xs, ys, v1, v2, s, s2, hv1, hv2⟩, fun z H'' w => ?_⟩
            obtain ⟨T, x1, y1, rfl, nT, rfl, f1, f2⟩ := w
            have e1 := f1 xs s
            have e2 := f2 ys s2
            rw [hv1] at e1
            rw [hv2] at e2
            cases e1
            cases e2
            exact ⟨Gr.upd R' nT, R'.upd nT, .tup (.inl (.inl upd_same)) (.cons (rv1.mono R' (Gr.upd R' nT)) (.cons (rv2.mono R' (Gr.upd R' nT)) .nil))⟩
theorem di_zip {a b : Expr} {p pos tpos : Pos} {elts : List Expr} {kk : Nat} (hg : Gl X "zip") (hm : X.mg "zip" = none) (ha : PA X [a, b] (tmA X.K X.mg W ms))
    (hs : starEach [a, b] X.env = (false, eval a X.env) :: starEach [b] X.env := by rfl) (hpl : (backTo pos (starEach [b] X.env)).any (·.1) = false := by rfl) :
    L2.PI X (.Tuple elts kk tpos) (.Call (.Name "zip" p) [a, b] [] pos) (tmI X.K X.mg W (dZip ms)) :=
  (PI.weak (RZ.pi_zipA hg hm ha hs hpl)) fun σ H Q ⟨ι, e, h, R, S, p⟩ => tm_in R S (Post.step p fun d1 h1 ι1 H1 v1 g1 R1 x1 p1 => by
    obtain ⟨⟨d1', d2'⟩, e1, p2⟩ := ofOpt_post p1
    rw [get2_eq e1] at x1
    cases x1 with
    | cons r1 rn =>
      cases rn with
      | cons r2 rn =>
        cases rn
        have p3 : Post X.K X.mg (SrcR X.K X.mg) W σ ι1 H1 Q (zipSrc d1' d2' h1) := p2
        clear p2
        unfold zipSrc at p3
        split at p3
        · obtain ⟨a, xs, rfl, s, rl⟩ := r1.tup_inv
          obtain ⟨b, ys, rfl, s2, rl2⟩ := r2.tup_inv
          exact ⟨a, b, xs, ys, rfl, .inr ⟨s, s2, p3.now R1 (srcR_zip R1 s s2 rl rl2)⟩⟩
        · rename_i _ _ n m
          split at p3
          · rename_i hn
            obtain ⟨a, rfl, ha⟩ := r1.ref_inv
            obtain ⟨b, rfl, hb⟩ := r2.ref_inv
            obtain ⟨xs, hx, _⟩ := R1.cell n a h1[n] ha (List.getElem?_eq_getElem hn.1)
            obtain ⟨ys, hy, _⟩ := R1.cell m b h1[m] hb (List.getElem?_eq_getElem hn.2)
            exact ⟨a, b, xs, ys, rfl, .inl ⟨.inl (.inl hx), .inl (.inl hy), p3.now R1 (srcR_zipc ha hb)⟩⟩
          · exact p3.elim
        · exact p3.elim)
end
end PI

namespace PI
open PySem L2
/-! ### list comprehensions: the new list is a cell from the start -/
def wipeD (e : DEnv) : List Nat → DEnv
  | [] => e
  | v :: vs => (wipeD e vs).set v none
theorem wipe_get {α : Type} (w : List (Option α) → List Nat → List (Option α)) (h0 : ∀ σ, w σ [] = σ) (h1 : ∀ σ v vs, w σ (v :: vs) = (w σ vs).set v none) (σ : List (Option α)) (j : Nat) : ∀ vs : List Nat, (w σ vs)[j]? = if j ∈ vs then (σ[j]?).map (fun _ => none) else σ[j]?
  | [] => by rw [h0]; simp
  | v :: vs => by
    have ih := wipe_get w h0 h1 σ j vs
    rw [h1, List.getElem?_set]
    have hl : ∀ vs : List Nat, (w σ vs).length = σ.length := by
      intro vs
      induction vs with
      | nil => rw [h0]
      | cons v vs ih => rw [h1, List.length_set, ih]
    by_cases c : v = j
    · subst c
      rw [if_pos rfl, if_pos List.mem_cons_self]
      by_cases l : v < σ.length
      · rw [if_pos (by rw [hl]; exact l), List.getElem?_eq_getElem l]; rfl
      · rw [if_neg (by rw [hl]; exact l), List.getElem?_eq_none (by omega)]; rfl
    · rw [if_neg c, ih]
      by_cases m : j ∈ vs
      · rw [if_pos m, if_pos (List.mem_cons_of_mem _ m)]
      · rw [if_neg m, if_neg (fun z => (List.mem_cons.mp z).elim (fun q => c q.symm) m)]
theorem wipe_at (σ : St) (vs : List Nat) (j : Nat) : (wipe σ vs)[j]? = if j ∈ vs then (σ[j]?).map (fun _ => none) else σ[j]? := wipe_get wipe (fun _ => rfl) (fun _ _ _ => rfl) σ j vs
theorem wipeD_at (σ : DEnv) (vs : List Nat) (j : Nat) : (wipeD σ vs)[j]? = if j ∈ vs then (σ[j]?).map (fun _ => none) else σ[j]? := wipe_get wipeD (fun _ => rfl) (fun _ _ _ => rfl) σ j vs
theorem wipeD_length (σ : DEnv) : ∀ vs : List Nat, (wipeD σ vs).length = σ.length
  | [] => rfl
  | v :: vs => by unfold wipeD; rw [List.length_set, wipeD_length σ vs]
theorem wipe_set {σ : St} {vs : List Nat} {i : Nat} {x : Option V} (hi : i ∈ vs) : wipe (σ.set i x) vs = wipe σ vs := by
  apply List.ext_getElem?
  intro j
  rw [wipe_at, wipe_at]
  by_cases m : j ∈ vs
  · rw [if_pos m, if_pos m, List.getElem?_set]
    by_cases c : i = j
    · subst c
      rw [if_pos rfl]
      by_cases l : i < σ.length
      · rw [if_pos l, List.getElem?_eq_getElem l]; rfl
      · rw [if_neg l, List.getElem?_eq_none (by omega)]
    · rw [if_neg c]
  · rw [if_neg m, if_neg m, List.getElem?_set_ne (fun z => m (by rw [← z]; exact hi))]
section
variable {K : PySem.W.Frag} {mg : Str → Option Value} {ι ι' : List Addr} {h h' : HS} {H H' : Hp} {σ : St} {e : DEnv}
theorem RelS.wipe (S : RelS K mg ι H e σ) (vs : List Nat) : RelS K mg ι H (wipeD e vs) (L2.wipe σ vs) := by
  refine ⟨by rw [wipeD_length, wipe_length, S.len], fun i d q => ?_⟩
  rw [wipeD_at] at q
  by_cases m : i ∈ vs
  · rw [if_pos m] at q
    cases z : e[i]? with
    | none => rw [z] at q; cases q
    | some x => rw [z] at q; cases q
  · rw [if_neg m] at q
    obtain ⟨v, a, b⟩ := S.at_ i d q
    exact ⟨v, by rw [wipe_at, if_neg m]; exact a, b⟩
end
section
variable (K : PySem.W.Frag) (mg : Str → Option Value)
/-- a target whose names are the block's own -/
def tmgW (vs : List Nat) (g : DG) : TG := fun v σ H Q => ∃ ι e h d, Rep K mg ι h H ∧ RelS K mg ι H e σ ∧ Re K mg ι H d v ∧ Pg K mg ι H (fun σ' H' => wipe σ' vs = wipe σ vs → Q σ' H') (g d e h)
def tmgsW (vs : List Nat) (g : DGs) : TGs := fun us σ H Q => ∃ ι e h ds, Rep K mg ι h H ∧ RelS K mg ι H e σ ∧ ReL K mg ι H ds us ∧ Pg K mg ι H (fun σ' H' => wipe σ' vs = wipe σ vs → Q σ' H') (g ds e h)
end
/-- nothing may be raised here -/
def Res.quiet {α : Type} : Res α → Res α
  | .ok a h => .ok a h
  | _ => .stuck
theorem Post.quiet {α β γ δ : Type} {K : PySem.W.Frag} {mg : Str → Option Value} {ι : List Addr} {H : Hp} {W W' : WX} {σ σ' : St} {ρ : List Addr → Hp → α → β → Prop} {ρ' : List Addr → Hp → γ → δ → Prop} {Q : δ → Hp → Prop} {Q' : β → Hp → Prop} {r : Res α} {k : α → HS → Res γ}
    (p : Post K mg ρ' W σ ι H Q (r.quiet.bind k))
    (f : ∀ d h' ι' H' v, Gr ι H ι' H' → Rep K mg ι' h' H' → ρ ι' H' d v → Post K mg ρ' W σ ι' H' Q (k d h') → Q' v H') : Post K mg ρ W' σ' ι H Q' r := by
  cases r with
  | ok d h' => exact fun ι2 H2 v g R q => f d h' ι2 H2 v g R q (Post.shift g p)
  | exc e h' => exact p.elim
  | stuck => exact p
theorem wipe_wipe (σ : St) (vs : List Nat) : wipe (wipe σ vs) vs = wipe σ vs := by
  apply List.ext_getElem?
  intro j
  rw [wipe_at]
  by_cases m : j ∈ vs
  · rw [if_pos m, wipe_at, if_pos m]
    cases σ[j]? <;> rfl
  · rw [if_neg m]
def lcGo (s : Src) (g : DG) (tt : DT) (te : DE) (k : Nat) (e0 : DEnv) : Nat → Nat → HS → Res D
  | 0, _, _ => .stuck
  | n + 1, i, h => match s.get h i with
    | none => .stuck
    | some none => .ok (.ref k) h
    | some (some d) => match g d e0 h with
      | none => .stuck
      | some (e1, h1) => (tt e1 h1).quiet.bind fun b h2 => if b then (te e1 h2).quiet.bind fun y h3 => ofOpt (h3[k]?) fun acc => if acc.length < 100000 then lcGo s g tt te k e0 n (i + 1) (h3.set k (acc ++ [y])) else .stuck
        else lcGo s g tt te k e0 n (i + 1) h2
def dLc (m : DI) (g : DG) (tt : DT) (te : DE) (vs : List Nat) : DE := fun e h => (m e h).bind fun s h1 => lcGo s g tt te h1.length (wipeD e vs) (s.size h1 + 1) 0 (h1 ++ [[]])
def dYes : DT := fun _ h => .ok true h
abbrev W0 : WX := fun _ _ _ _ => False
section
variable {X : Cx} {W : WX} {vs : List Nat} {es : List Expr} {a : Expr} {pos : Pos}
theorem dgw_name {i : Nat} {x : Str} (hN : X.N.Nodup) (hi : X.N[i]? = some x) (hx : Loc X.env.scope x) (hm : i ∈ vs) (hf : X.fn x = true ∨ X.env.scope.names.lookup x = some .local := by first | exact .inl rfl | exact .inr rfl | assumption) : PG X (.Name x pos) (tmgW X.K X.mg vs (gNm i)) :=
  (pg_name hN hi hx hf).weak fun v σ H Q ⟨ι, e, h, d, R, S, r, p⟩ => p ι H _ (Gr.refl R) R (S.set i r) (wipe_set hm)
theorem dgsw_nil : PGs X [] (tmgsW X.K X.mg vs gNilD) := ⟨fun pins s σ H us us' Q I r q => pgs_nil.run pins s σ H us us' Q I r (by
  obtain ⟨ι, e, h, ds, R, S, r, p⟩ := q
  cases r with
  | nil => exact ⟨rfl, p ι H σ (Gr.refl R) R S rfl⟩
  | cons _ _ => exact p.elim)⟩
theorem dgsw_cons {g : DG} {gs : DGs} (h1 : PG X a (tmgW X.K X.mg vs g)) (h2 : PGs X es (tmgsW X.K X.mg vs gs)) (hs : (assignEach (a :: es) X.env).map (·.2) = assign a X.env :: (assignEach es X.env).map (·.2) := by rfl) : PGs X (a :: es) (tmgsW X.K X.mg vs (gConsD g gs)) :=
  ⟨fun pins s σ H us us' Q I r q => (pgs_cons h1 h2 hs).run pins s σ H us us' Q I r (by
    obtain ⟨ι, e, h, ds, R, S, r, p⟩ := q
    cases r with
    | nil => exact p.elim
    | cons r0 rr =>
      refine ⟨_, _, rfl, ι, e, h, _, R, S, r0, ?_⟩
      rename_i d v ds vs'
      have p : Pg X.K X.mg ι H (fun σ' H' => wipe σ' vs = wipe σ vs → Q σ' H') ((g d e h).bind fun q => gs ds q.1 q.2) := p
      cases q : g d e h with
      | none => rw [q] at p; exact p
      | some x =>
        rw [q] at p
        exact fun ι1 H1 σ1 g1 R1 S1 hw => ⟨ι1, x.1, x.2, ds, R1, S1, rr.mono R g1, by
          have p2 : Pg X.K X.mg ι1 H1 (fun σ' H' => wipe σ' vs = wipe σ vs → Q σ' H') (gs ds x.1 x.2) := Pg.shift g1 p
          cases q2 : gs ds x.1 x.2 with
          | none => rw [q2] at p2; exact p2
          | some y => rw [q2] at p2; exact fun ι2 H2 σ2 g2 R2 S2 hw2 => p2 ι2 H2 σ2 g2 R2 S2 (hw2.trans hw)⟩)⟩
theorem dgw_un {k n : Nat} {gs : DGs} (hc : X.calm = true) (hg : PGs X es (tmgsW X.K X.mg vs gs)) (hn : (assignEach es X.env).length = n := by rfl) (hst : (assignEach es X.env).findIdx? (·.1) = none := by rfl) : PG X (.Tuple es k pos) (tmgW X.K X.mg vs (gUn n gs)) :=
  (PG.or (pg_tup hc hg hn hst) (pg_lst hc hg hn hst)).weak fun v σ H Q ⟨ι, e, h, d, R, S, r, p⟩ => by
    unfold gUn at p
    cases d with
    | tup ds =>
      obtain ⟨a, xs, rfl, s, l⟩ := r.tup_inv
      have p : Pg X.K X.mg ι H (fun σ' H' => wipe σ' vs = wipe σ vs → Q σ' H') (if ds.length = n then gs ds e h else none) := p
      split at p
      · rename_i hl
        exact .inl ⟨a, xs, rfl, s, by rw [← l.length]; exact hl, ι, e, h, ds, R, S, l, p⟩
      · exact p.elim
    | ref m =>
      obtain ⟨a, rfl, ha⟩ := r.ref_inv
      have p : Pg X.K X.mg ι H (fun σ' H' => wipe σ' vs = wipe σ vs → Q σ' H') ((h[m]?).bind fun l => if l.length = n then gs l e h else none) := p
      cases q : h[m]? with
      | none => rw [q] at p; exact p.elim
      | some l =>
        rw [q] at p
        have p : Pg X.K X.mg ι H (fun σ' H' => wipe σ' vs = wipe σ vs → Q σ' H') (if l.length = n then gs l e h else none) := p
        obtain ⟨xs, hx, rl⟩ := R.cell m a l ha q
        split at p
        · rename_i hl
          exact .inr ⟨a, xs, rfl, .inl (.inl hx), by rw [← rl.length]; exact hl, ι, e, h, l, R, S, rl, p⟩
        · exact p.elim
    | _ => exact p.elim
theorem dts_nil : PTs X [] (tmT X.K X.mg W dYes) := ⟨fun pins s σ H Q I q => pts_nil.run pins s σ H Q I (by
  obtain ⟨ι, e, h, R, S, p⟩ := q
  exact p.now R rfl)⟩
theorem dts_one {c : Expr} {t : DT} (h : PT X c (tmT X.K X.mg W t)) : PTs X [c] (tmT X.K X.mg W t) := pts_one h
/-- the reading of a comprehension -/
theorem lc_read {m : DI} {g : DG} {tt : DT} {te : DE} {σ : St} {H : Hp} {Q : VK} {ι : List Addr} {e : DEnv} {h : HS} (R : Rep X.K X.mg ι h H) (S : RelS X.K X.mg ι H e σ) (p : Post X.K X.mg (Re X.K X.mg) W σ ι H Q (dLc m g tt te vs e h)) :
    tLc (tmI X.K X.mg W m) (tmgW X.K X.mg vs g) (tmT X.K X.mg W0 tt) (tm X.K X.mg W0 te) vs σ H Q := by
  refine tm_in R S (Post.step p fun s h1 ι1 H1 J g1 R1 x1 p1 => ?_)
  intro D hD
  have S1 := (S.mono R g1).wipe vs
  have G0 : Gr ι1 H1 (ι1 ++ [D]) (upd H1 D (.lst [])) := Gr.newCell R1 hD
  have R0 : Rep X.K X.mg (ι1 ++ [D]) (h1 ++ [[]]) (upd H1 D (.lst [])) := R1.newCell hD .nil
  have S0 := S1.mono R1 G0
  have hk : (ι1 ++ [D])[h1.length]? = some D := by rw [← R1.len]; simp
  refine ⟨fun i n H' => ∃ ι' h', Gr (ι1 ++ [D]) (upd H1 D (.lst [])) ι' H' ∧ Rep X.K X.mg ι' h' H' ∧ Post X.K X.mg (Re X.K X.mg) W σ ι' H' Q (lcGo s g tt te h1.length (wipeD e vs) n i h'),
    ⟨_, ι1 ++ [D], _, Gr.refl R0, R0, Post.shift G0 p1⟩, ?_⟩
  rintro i n H' ⟨ι', h', g', R', p'⟩
  have hk' : ∀ {ι2 : List Addr} {H2 : Hp}, Gr (ι1 ++ [D]) (upd H1 D (.lst [])) ι2 H2 → ι2[h1.length]? = some D := fun {ι2 H2} G => by
    obtain ⟨t, rfl⟩ := G.pre
    rw [List.getElem?_append_left (List.getElem?_eq_some_iff.mp hk).1]
    exact hk
  cases n with
  | zero => exact p'.elim
  | succ n =>
    unfold lcGo at p'
    obtain ⟨hstop, hgo⟩ := x1 ι' h' H' (G0.trans g') R' i
    cases q : s.get h' i with
    | none => rw [q] at p'; exact p'.elim
    | some od =>
      cases od with
      | none =>
        rw [q] at p'
        exact .inl ⟨hstop q, p'.now R' (.ref (hk' g'))⟩
      | some d =>
        rw [q] at p'
        obtain ⟨go, hy⟩ := hgo d q
        refine .inr ⟨go, fun H'' => ∃ ι' h', Gr (ι1 ++ [D]) (upd H1 D (.lst [])) ι' H'' ∧ Rep X.K X.mg ι' h' H'' ∧ Post X.K X.mg (Re X.K X.mg) W σ ι' H'' Q (lcGo s g tt te h1.length (wipeD e vs) n (i + 1) h'), fun H'' z => ⟨n, Nat.lt_succ_self n, z⟩, fun x H2 y => ?_⟩
        obtain ⟨g2, R2, r2⟩ := hy x H2 y
        refine ⟨ι', wipeD e vs, h', d, R2, (S0.mono R0 g').mono R' g2, r2, ?_⟩
        have p' : Post X.K X.mg (Re X.K X.mg) W σ ι' H' Q (match g d (wipeD e vs) h' with
          | none => .stuck
          | some (e1, h2) => (tt e1 h2).quiet.bind fun b h3 => if b then (te e1 h3).quiet.bind fun y h4 => ofOpt (h4[h1.length]?) fun acc => if acc.length < 100000 then lcGo s g tt te h1.length (wipeD e vs) n (i + 1) (h4.set h1.length (acc ++ [y])) else .stuck
            else lcGo s g tt te h1.length (wipeD e vs) n (i + 1) h3) := p'
        cases qg : g d (wipeD e vs) h' with
        | none => rw [qg] at p'; exact p'
        | some z =>
          obtain ⟨e1, h2⟩ := z
          rw [qg] at p'
          intro ι3 H3 σ3 g3 R3 S3 hw
          refine ⟨hw.trans ?_, ?_⟩
          · exact (wipe_wipe σ vs)
          · have p3 : Post X.K X.mg (Re X.K X.mg) W σ ι3 H3 Q ((tt e1 h2).quiet.bind fun b h3 => if b then (te e1 h3).quiet.bind fun y h4 => ofOpt (h4[h1.length]?) fun acc => if acc.length < 100000 then lcGo s g tt te h1.length (wipeD e vs) n (i + 1) (h4.set h1.length (acc ++ [y])) else .stuck
              else lcGo s g tt te h1.length (wipeD e vs) n (i + 1) h3) := Post.shift (g2.trans g3) p'
            have g13 := (g'.trans g2).trans g3
            refine tm_in R3 S3 (Post.quiet p3 fun b h4 ι4 H4 v4 g4 R4 x4 p4 => ?_)
            cases x4
            cases b with
            | false => exact ⟨ι4, h4, g13.trans g4, R4, p4⟩
            | true =>
              have S4 := S3.mono R3 g4
              have p4 : Post X.K X.mg (Re X.K X.mg) W σ ι4 H4 Q ((te e1 h4).quiet.bind fun y h4 => ofOpt (h4[h1.length]?) fun acc => if acc.length < 100000 then lcGo s g tt te h1.length (wipeD e vs) n (i + 1) (h4.set h1.length (acc ++ [y])) else .stuck) := p4
              refine tm_in R4 S4 (Post.quiet p4 fun y h5 ι5 H5 v5 g5 R5 x5 p5 => ?_)
              have p5 : Post X.K X.mg (Re X.K X.mg) W σ ι5 H5 Q (ofOpt (h5[h1.length]?) fun acc => if acc.length < 100000 then lcGo s g tt te h1.length (wipeD e vs) n (i + 1) (h5.set h1.length (acc ++ [y])) else .stuck) := p5
              obtain ⟨acc, ea, p6⟩ := ofOpt_post p5
              have p6 : Post X.K X.mg (Re X.K X.mg) W σ ι5 H5 Q (if acc.length < 100000 then lcGo s g tt te h1.length (wipeD e vs) n (i + 1) (h5.set h1.length (acc ++ [y])) else .stuck) := p6
              have g15 := (g13.trans g4).trans g5
              obtain ⟨xs, hx, rl⟩ := R5.cell _ D acc (hk' g15) ea
              split at p6
              · rename_i hz
                rw [rl.length] at hz
                refine ⟨xs, hx, Nat.lt_of_lt_of_le hz (by decide), ι5, _, g15.trans (Gr.setCell R5 (hk' g15)), R5.setCell (hk' g15) (rl.append (.cons x5 .nil)), Post.shift (Gr.setCell R5 (hk' g15)) p6⟩
              · exact p6.elim
/-- as a value; as y = [..] on one line -/
theorem de_lc {elt tg iter : Expr} {ifs : List Expr} {scope : Scope} {own : List (Str × Nat)} {m : DI} {g : DG} {tt : DT} {te : DE} (hc : X.calm = true) (hN : X.N.Nodup) (hi : L2.PI X tg iter (tmI X.K X.mg W m)) (ok : BlkOk X.N X.env.scope scope own)
    (hg : ∀ (s : Shared) (H : Hp) (C : Addr) (cl : List (Str × Addr)) (fp : List Addr), PG (X.blk s H scope (compEnvC scope cl C X.env) fp) tg (tmgW X.K X.mg (own.map (·.2)) g)) (ht : ∀ (s : Shared) (H : Hp) (C : Addr) (cl : List (Str × Addr)) (fp : List Addr), PTs (X.blk s H scope (compEnvC scope cl C X.env) fp) ifs (tmT X.K X.mg W0 tt))
    (he : ∀ (s : Shared) (H : Hp) (C : Addr) (cl : List (Str × Addr)) (fp : List Addr), PE (X.blk s H scope (compEnvC scope cl C X.env) fp) elt (tm X.K X.mg W0 te)) (hs : ∀ x, foldedSetIterable iter X.env x = pure x := by intro _; rfl) :
    PE X (.ListComp elt [⟨tg, iter, ifs, 0⟩] scope pos) (tm X.K X.mg W (dLc m g tt te (own.map (·.2)))) :=
  (pe_lc hc hN hi ok hg ht he hs).weak fun σ H Q ⟨ι, e, h, R, S, p⟩ => lc_read R S p
theorem ds_setLc {i : Nat} {y : Str} {py : Pos} {elt tg iter : Expr} {ifs : List Expr} {scope : Scope} {own : List (Str × Nat)} {spos : Pos} {m : DI} {g : DG} {tt : DT} {te : DE} (hc : X.calm = true) (hN : X.N.Nodup) (hy : X.N[i]? = some y) (hyl : X.env.scope.names.lookup y = some .local)
    (hsw : swapsWith (.ListComp elt [⟨tg, iter, ifs, 0⟩] scope pos) (some (.Name y py)) spos.line X.env = pure true) (hi : L2.PI X tg iter (tmI X.K X.mg W m)) (ok : BlkOk X.N X.env.scope scope own)
    (hg : ∀ (s : Shared) (H : Hp) (C : Addr) (cl : List (Str × Addr)) (fp : List Addr), PG (X.blk s H scope (compEnvC scope cl C X.env) fp) tg (tmgW X.K X.mg (own.map (·.2)) g)) (ht : ∀ (s : Shared) (H : Hp) (C : Addr) (cl : List (Str × Addr)) (fp : List Addr), PTs (X.blk s H scope (compEnvC scope cl C X.env) fp) ifs (tmT X.K X.mg W0 tt))
    (he : ∀ (s : Shared) (H : Hp) (C : Addr) (cl : List (Str × Addr)) (fp : List Addr), PE (X.blk s H scope (compEnvC scope cl C X.env) fp) elt (tm X.K X.mg W0 te)) (hs : ∀ x, foldedSetIterable iter X.env x = pure x := by intro _; rfl) :
    PS X (.Assign [.Name y py] (.ListComp elt [⟨tg, iter, ifs, 0⟩] scope pos) spos) (tms X.K X.mg W (sAsg (dLc m g tt te (own.map (·.2))) (gNm i))) :=
  (ps_setLc hc hN hy hyl hsw hi ok hg ht he hs).weak fun D σ H ⟨ι, e, h, R, S, p⟩ => by
    refine lc_read R S (PostS.step R S p fun d1 h1 ι1 H1 v1 g1 R1 x1 p1 => ?_)
    exact p1 ι1 H1 _ (Gr.refl R1) R1 ((S.mono R g1).set i x1)
end
end PI

namespace PI
open PySem L2 PySem.Spec PyProof.Rows
/-- where the modules' dict stands, in the base -/
def SysB (base : Heap) : Prop := ∃ o es ep, base.get? sysModules = some o ∧ o.data = .dict es ep
/-- what a def's body knows of where it stands; a block of it the first four -/
structure Ctx (X : Cx) (W : WX) (k : Nat) : Prop where
  gd : X.A.guards = some []
  room : Room k X.A
  tk : Takes X W
  sb : SysB X.base
structure CtxS (X : Cx) (W : WX) (k : Nat) : Prop extends Ctx X W k where
  po : PassesOwn (model X.prog X.w) X.A X.env X.xe
  calm : X.calm = true
  stk : X.stack = X.env :: X.outer
  frm : X.env.frame = some X.env.locals
/-! ### own defs, where no representation is under way -/
abbrev DF := List D → HS → Res D
/-- a def's promise by a function of data -/
def spD (K : PySem.W.Frag) (mg : Str → Option Value) (n : Nat) (f : DF) : Sp := fun vs H Q E => vs.length = n ∧ ∃ ι h ds, Rep K mg ι h H ∧ ReL K mg ι H ds vs ∧ Post K mg (Re K mg) (fun c dd _ H' => E c dd H') [] ι H Q (f ds h)
abbrev EX (P : Program) (w : World) : CXT := L2.CX P w
/-- the def at f keeps the promise sp, called where no guard stands -/
structure FnG (P : Program) (w : World) (K : PySem.W.Frag) (mg : Str → Option Value) (base : Heap) (k : Nat) (f : Addr) (fd : FuncData) (ps : List Str) (sp : Sp) : Prop where
  arity : ∀ vs H Q E, sp vs H Q E → vs.length = ps.length
  go : ∀ (A : Around) (fr : List PySem.Env) (st : Shared) (H : Hp) (ar : Args) (us : List Value) (vs : List V) (Q : VK) (E : XK), A.guards = some [] → Room k A → Env0 P w K mg base A fr st H → BindsTo st fd ar (ps.zip us) → Vals vs us → sp vs H Q E →
    codeAny (model P w) A (.call (.ref f) ar) (CR (EX P w) fr P w H st Q E) st
theorem FnG.lift {P : Program} {w : World} {K : PySem.W.Frag} {mg : Str → Option Value} {base : Heap} {j k : Nat} {f : Addr} {fd : FuncData} {ps : List Str} {sp : Sp} (F : FnG P w K mg base j f fd ps sp) (h : j ≤ k) : FnG P w K mg base k f fd ps sp :=
  ⟨F.arity, fun A fr st H ar us vs Q E g r => F.go A fr st H ar us vs Q E g (r.mono h)⟩
theorem FnG.weak {P : Program} {w : World} {K : PySem.W.Frag} {mg : Str → Option Value} {base : Heap} {k : Nat} {f : Addr} {fd : FuncData} {ps : List Str} {sp sp' : Sp} (F : FnG P w K mg base k f fd ps sp) (h : ∀ vs H Q E, sp' vs H Q E → sp vs H Q E) : FnG P w K mg base k f fd ps sp' :=
  ⟨fun vs H Q E q => F.arity vs H Q E (h _ _ _ _ q), fun A fr st H ar us vs Q E g r e b v q => F.go A fr st H ar us vs Q E g r e b v (h _ _ _ _ q)⟩
section
variable {P : Program} {w : World} {K : PySem.W.Frag} {mg : Str → Option Value} {base : Heap}
/-- a def of the text keeps its promise: by its body -/
theorem fnG_of {x qual : Str} {st : Stmt} {f : Addr} {fd : FuncData} {N ps : List Str} {k : Nat} {sp : Sp} (F : Fun K x qual st f fd) (S : FnScope N ps (defScope st)) (ar : ∀ vs H Q E, sp vs H Q E → vs.length = ps.length)
    (body : ∀ (cdv : Value) (A : Around) (fr : List PySem.Env) (s : Shared) (H : Hp) (vs : List V) (Q : VK) (E : XK), A.guards = some [] → Room k (A.deeper (envOfC qual (defScope st) s.heap.objs.size f cdv)) → sp vs H Q E →
      ∃ t, PSs (cxOf (EX P w) P w K mg base N qual (defScope st) f cdv A fr s H E) (defBody st) t ∧ t { nx := fun _ H' => Q .non H', rt := Q } (L2.start N vs) H) : FnG P w K mg base (k + 1) f fd ps sp := by
  obtain ⟨oc, od, kV, doc, pm, an, cdv, ct, osl, rfl, lk, hcd⟩ := F.ex
  constructor
  · exact ar
  intro A fr s H args us vs Q E gd room e0 bd rel want
  have keep : K.In s.heap := e0.mod.kin.keeps fun b o q => (e0.bs b o q).1
  have noLim : s.heap.NoLimit := e0.mod.nolimit.keeps fun b o q => (e0.bs b o q).1
  have kinds : ∀ y ∈ ps.zip us, (defScope st).names.lookup y.1 = some .local ∨ ((defScope st).names.lookup y.1 = some .cell ∧ ((cellsFrom (s.heap.objs.size + 1) (defScope st).names []).lookup y.1).isSome = true) := by
    rintro ⟨n, v⟩ hy
    exact (S.par n (List.of_mem_zip hy).1).elim .inl fun q => .inr ⟨q, PySem.W.cellsFrom_some _ _ _ (.inl q)⟩
  refine codeAny_call_function room.depth (keep _ _ lk) rfl S.co S.gen rfl (PySem.W.codeRec_of keep hcd) (bd _ _ _ _ (wpAny_newFunctionEnv_cells S.kind kinds ?_))
  rintro env rfl s1 x
  refine ⟨noLim.keeps x.toInCall.keep, codeAny_func ?_⟩
  obtain ⟨t, ht, hq⟩ := body cdv A fr s H vs Q E gd (room.deeper _) want
  have J0 : Inv (cxOf (EX P w) P w K mg base N qual (defScope st) f cdv A fr s H E) [] (L2.start N vs) H s1 := inv_start S room.hd e0 (ar _ _ _ _ want) rel x
  refine wpAny_mono (ht.run [] s1 _ H _ J0 hq) ?_ fun e s' z => z
  intro fl s' z
  have out : ∀ {σ' : L2.St} {H' : Hp} {v : V} {u : Value}, Inv (cxOf (EX P w) P w K mg base N qual (defScope st) f cdv A fr s H E) [] σ' H' s' → RelV v u → Q v H' → CE fr P w H s Q u s' := by
    intro σ' H' v u J rv q
    exact ⟨v, H', J.os, J.bare, J.base, J.hok, rv, q⟩
  match fl, z with
  | .ret u, ⟨v, σ', H', J, rv, q⟩ => exact out J rv q
  | .next, ⟨σ', H', J, q⟩ => exact out (v := .non) (u := .none) J rfl q
  | .brk, ⟨_, _, _, q⟩ => exact q.elim
  | .cont, ⟨_, _, _, q⟩ => exact q.elim
/-- the promise by data from the body's function -/
@[irreducible] def run (N : Nat) (m : DS) : DF := fun ds h => match m (ds.map some ++ List.replicate (N - ds.length) none) h with
  | .next _ h' => .ok .non h'
  | .ret d h' => .ok d h'
  | .exc e _ h' => .exc e h'
  | _ => .stuck
theorem relS_start {ι : List Addr} {H : Hp} {N : List Str} {ds : List D} {vs : List V} (r : ReL K mg ι H ds vs) : RelS K mg ι H (ds.map some ++ List.replicate (N.length - ds.length) none) (L2.start N vs) := by
  have hl := r.length
  refine ⟨?_, fun i d q => ?_⟩
  · unfold L2.start
    simp [hl]
  · by_cases hi : i < ds.length
    · rw [List.getElem?_append_left (by simpa using hi), List.getElem?_map] at q
      cases z : ds[i]? with
      | none => rw [z] at q; cases q
      | some d' =>
        rw [z] at q
        cases q
        obtain ⟨v, hv, rv⟩ := r.get z
        refine ⟨v, ?_, rv⟩
        unfold L2.start
        rw [List.getElem?_append_left (by simp; omega), List.getElem?_map, hv]
        rfl
    · rw [List.getElem?_append_right (by simpa using hi), List.getElem?_replicate] at q
      split at q <;> cases q
theorem fnG_run (sb : SysB base) {x qual : Str} {st : Stmt} {f : Addr} {fd : FuncData} {N ps : List Str} {k n L : Nat} (F : Fun K x qual st f fd) (S : FnScope N ps (defScope st)) (hn : ps.length = n) (hL : N.length = L) (m : DS)
    (body : ∀ (cdv : Value) (A : Around) (fr : List PySem.Env) (s : Shared) (H : Hp) (E : XK) (W : WX), CtxS (cxOf (EX P w) P w K mg base N qual (defScope st) f cdv A fr s H E) W k →
      PSs (cxOf (EX P w) P w K mg base N qual (defScope st) f cdv A fr s H E) (defBody st) (tms K mg W m)) : FnG P w K mg base (k + 1) f fd ps (spD K mg n (run L m)) := by
  refine fnG_of F S (fun vs H Q E q => q.1.trans hn.symm) ?_
  intro cdv A fr s H vs Q E gd room want
  obtain ⟨hl, ι, h, ds, R, r, p⟩ := want
  refine ⟨_, body cdv A fr s H E (fun c dd _ H' => E c dd H') ⟨⟨gd, room, takes_of rfl rfl rfl rfl, sb⟩, passes_of rfl, rfl, rfl, rfl⟩, ?_⟩
  refine tms_in R (relS_start r) ?_
  have p : Post K mg (Re K mg) (fun c dd _ H' => E c dd H') [] ι H Q (match m (ds.map some ++ List.replicate (L - ds.length) none) h with
    | .next _ h' => .ok .non h'
    | .ret d h' => .ok d h'
    | .exc e _ h' => .exc e h'
    | _ => .stuck) := by
    unfold run at p
    exact p
  rw [hL]
  cases q : m (ds.map some ++ List.replicate (L - ds.length) none) h with
  | next e h' => rw [q] at p; exact fun ι' H' σ' g R' _ => p ι' H' _ g R' .non
  | ret d h' => rw [q] at p; exact p
  | brk e h' => rw [q] at p; exact p.elim
  | cont e h' => rw [q] at p; exact p.elim
  | exc er e h' => rw [q] at p; exact fun ι' H' σ' c dd g R' _ x => p ι' H' c dd g R' x
  | stuck => rw [q] at p; exact p.elim
/-- another function that says the same wherever it says something -/
theorem FnG.fn {k n : Nat} {f : Addr} {fd : FuncData} {ps : List Str} {F G : DF} (FO : FnG P w K mg base k f fd ps (spD K mg n F)) (h : ∀ ds h0, ds.length = n → G ds h0 ≠ .stuck → F ds h0 = G ds h0) : FnG P w K mg base k f fd ps (spD K mg n G) :=
  FO.weak fun vs H Q E ⟨hl, ι, h0, ds, R, r, p⟩ => ⟨hl, ι, h0, ds, R, r, by
    cases q : G ds h0 with
    | stuck => rw [q] at p; exact p.elim
    | ok d h' => rw [h ds h0 (r.length.trans hl) (by rw [q]; simp), q]; rw [q] at p; exact p
    | exc e h' => rw [h ds h0 (r.length.trans hl) (by rw [q]; simp), q]; rw [q] at p; exact p⟩
end
/-! calls -/
def dCall (n : Nat) (f : DF) (ms : DA) : DE := fun e h => (ms e h).bind fun l h1 => if l.length = n then f l h1 else .stuck
def pick {α : Type} (pi : List Nat) (l : List α) : List α := pi.filterMap fun i => l[i]?
def dCallK (n : Nat) (pi : List Nat) (f : DF) (ms : DA) : DE := fun e h => (ms e h).bind fun l h1 => if l.length = pi.length ∧ (pick pi l).length = n then f (pick pi l) h1 else .stuck
theorem ReL.pick {K : PySem.W.Frag} {mg : Str → Option Value} {ι : List Addr} {H : Hp} {ds : List D} {vs : List V} (r : ReL K mg ι H ds vs) : ∀ pi : List Nat, ReL K mg ι H (PI.pick pi ds) (PI.pick pi vs)
  | [] => .nil
  | i :: pi => by
    have ih := ReL.pick r pi
    unfold PI.pick at ih ⊢
    cases z : ds[i]? with
    | none =>
      have z2 : vs[i]? = none := List.getElem?_eq_none_iff.mpr (by rw [← r.length]; exact List.getElem?_eq_none_iff.mp z)
      simp only [List.filterMap_cons, z, z2]
      exact ih
    | some d =>
      obtain ⟨v, hv, rv⟩ := r.get z
      simp only [List.filterMap_cons, z, hv]
      exact .cons rv ih
theorem vals_pick {vs : List V} {us : List Value} (r : Vals vs us) : ∀ pi : List Nat, Vals (pick pi vs) (pick pi us)
  | [] => .nil
  | i :: pi => by
    have ih := vals_pick r pi
    unfold pick at ih ⊢
    cases z : vs[i]? with
    | none =>
      have z2 := r.none_of z
      simp only [List.filterMap_cons, z, z2]
      exact ih
    | some d =>
      obtain ⟨v, hv, rv⟩ := r.get z
      simp only [List.filterMap_cons, z, hv]
      exact .cons rv ih
section
variable {X : Cx} {W : WX} {a : Expr} {es : List Expr} {kws : List Keyword} {ms : DA} {pos p : Pos} {x : Str} {k n : Nat} {f : Addr} {fd : FuncData} {ps ks : List Str} {F : DF}
theorem dk_nil : PK X [] (tmA X.K X.mg W dNil) := pk_nil.weak fun σ H Q ⟨ι, e, h, R, S, p⟩ => p.now R .nil
theorem dk_cons {nm : Option Str} {kp : Pos} {ma : DE} (ha : PE X a (tm X.K X.mg W ma)) (hr : PK X kws (tmA X.K X.mg W ms)) : PK X (⟨nm, a, kp⟩ :: kws) (tmA X.K X.mg W (dCons ma ms)) :=
  (pk_cons ha hr).weak fun σ H Q ⟨ι, e, h, R, S, p⟩ => tm_in R S (Post.step p fun d1 h1 ι1 H1 v1 g1 R1 x1 p1 => tm_in R1 (S.mono R g1) (Post.step p1 fun d2 h2 ι2 H2 v2 g2 R2 x2 p2 => p2.now R2 (.cons (x1.mono R1 g2) x2)))
/-- the callee's run -/
theorem callee {sp : Sp} {pins : List (Addr × Obj)} {σ : L2.St} {H : Hp} {s : Shared} {Q : VK} {us : List Value} {vs : List V} {ar : Args} (FO : FnG X.prog X.w X.K X.mg X.base k f fd ps sp) (gd : X.A.guards = some []) (room : Room k X.A) (tk : Takes X W)
    (I : Inv X pins σ H s) (bd : BindsTo s fd ar (ps.zip us)) (r : Vals vs us) (q : sp vs H Q (WE W σ)) : wpAny (model X.prog X.w) X.A (call (.ref f) ar.pos ar.kw) (EP X pins σ Q) X.xe s := by
  refine wpAny_call (codeAny_mono (FO.go X.A X.stack s H ar us vs Q (WE W σ) gd room I.env0 bd r q) ?_)
  intro res s' z
  match res, z with
  | .error e, z => exact passAt tk σ pins H s e s' I z
  | .ok (.ret u), z => exact I.after z
  | .ok .next, z => exact z.elim
  | .ok .brk, z => exact z.elim
  | .ok .cont, z => exact z.elim
/-- f(e, ..) -/
theorem de_call (C : Ctx X W k) (FO : FnG X.prog X.w X.K X.mg X.base k f fd ps (spD X.K X.mg n F)) (hm : X.mg x = some (.ref f)) (hk : PySem.W.keepIn X.K (.ref f) = true) (hb : Binds X.K fd ps [])
    (ha : PA X (a :: es) (tmA X.K X.mg W ms)) (hg : Gl X x := by rfl) (hdb : (x == ("__debug__" : Str)) = false := by decide) (he : starEach (a :: es) X.env = (false, eval a X.env) :: starEach es X.env := by rfl) (hpl : (backTo pos (starEach es X.env)).any (·.1) = false := by rfl) :
    PE X (.Call (.Name x p) (a :: es) [] pos) (tm X.K X.mg W (dCall n F ms)) := by
  refine ⟨fun pins s σ H Q I q => ?_⟩
  obtain ⟨ι, e, h, R, S, q⟩ := q
  refine wpAny_Call_Name_kw (ld_glob I hg hm ?_ hdb)
  have args : tmA X.K X.mg W ms σ H (fun vs H1 => spD X.K X.mg n F vs H1 Q (WE W σ)) := tm_in R S (Post.step q fun l h1 ι1 H1 vs g1 R1 x1 p1 => by
    have p1 : Post X.K X.mg (Re X.K X.mg) W σ ι1 H1 Q (if l.length = n then F l h1 else .stuck) := p1
    split at p1
    · rename_i hl
      refine ⟨x1.length.symm.trans hl, ι1, h1, l, R1, x1, ?_⟩
      cases z : F l h1 with
      | ok d h2 => rw [z] at p1; exact p1
      | exc er h2 => rw [z] at p1; exact p1
      | stuck => rw [z] at p1; exact p1
    · exact p1.elim)
  refine PySem.W.callWith_K (h₀ := X.base) I.ok.mod.kin hk (thn (ha.run pos pins s σ H _ I args) fun us s1 z => ?_) he hpl
  obtain ⟨vs, H1, I1, r, q1⟩ := z
  refine ⟨I1.kIn, ?_⟩
  have hl : us.length = ps.length := r.length.symm.trans (FO.arity _ _ _ _ q1)
  have bd := hb s1 us I1.kIn (by rw [List.append_nil]; exact hl)
  rw [List.append_nil] at bd
  exact callee FO C.gd C.room C.tk I1 bd r q1
/-- f(k = v, ..) -/
theorem de_callK {pi : List Nat} (C : Ctx X W k) (FO : FnG X.prog X.w X.K X.mg X.base k f fd ps (spD X.K X.mg n F)) (hm : X.mg x = some (.ref f)) (hk : PySem.W.keepIn X.K (.ref f) = true)
    (hb : ∀ (s : Shared) (ws : List Value), ws.length = pi.length → BindsTo s fd ⟨[], ks.zip ws⟩ (ps.zip (pick pi ws)))
    (hkw : PK X kws (tmA X.K X.mg W ms)) (hall : (backToKw pos (keywordEach kws X.env)).all (·.1.isSome) = true := by rfl) (hks : (backToKw pos (keywordEach kws X.env)).filterMap (·.1) = ks := by rfl)
    (hg : Gl X x := by rfl) (hdb : (x == ("__debug__" : Str)) = false := by decide) (hpl : ((backTo pos (starEach [] X.env)).any (·.1) || (backToKw pos (keywordEach kws X.env)).any (·.1.isNone)) = false := by rfl) :
    PE X (.Call (.Name x p) [] kws pos) (tm X.K X.mg W (dCallK n pi F ms)) := by
  refine ⟨fun pins s σ H Q I q => ?_⟩
  obtain ⟨ι, e, h, R, S, q⟩ := q
  refine wpAny_Call_Name_kw (ld_glob I hg hm ?_ hdb)
  have args : tmA X.K X.mg W ms σ H (fun vs H1 => vs.length = pi.length ∧ spD X.K X.mg n F (pick pi vs) H1 Q (WE W σ)) := tm_in R S (Post.step q fun l h1 ι1 H1 vs g1 R1 x1 p1 => by
    have p1 : Post X.K X.mg (Re X.K X.mg) W σ ι1 H1 Q (if l.length = pi.length ∧ (pick pi l).length = n then F (pick pi l) h1 else .stuck) := p1
    split at p1
    · rename_i hl
      have x2 := x1.pick pi
      refine ⟨x1.length.symm.trans hl.1, x2.length.symm.trans hl.2, ι1, h1, _, R1, x2, ?_⟩
      cases z : F (pick pi l) h1 with
      | ok d h2 => rw [z] at p1; exact p1
      | exc er h2 => rw [z] at p1; exact p1
      | stuck => rw [z] at p1; exact p1
    · exact p1.elim)
  refine PySem.W.callWith_KW0 (h₀ := X.base) I.ok.mod.kin hk hall (thn (hkw.run pos pins s σ H _ I args) fun ws s2 z => ?_) hpl
  obtain ⟨zs, H2, I2, rz, lz, q2⟩ := z
  refine ⟨I2.kIn, ?_⟩
  rw [hks]
  have r := vals_pick rz pi
  exact callee (ar := ⟨[], ks.zip ws⟩) FO C.gd C.room C.tk I2 (hb s2 ws (rz.length.symm.trans lz)) r q2
end
end PI

namespace PI
open PySem L2 PySem.Spec
/-! ### operations on data -/
section
variable {K : PySem.W.Frag} {mg : Str → Option Value} {ι : List Addr} {h : HS} {H : Hp} {Q : VK}
/-- a new tuple, a new cell as the answer -/
theorem Pv.tup {l : List D} {xs : List V} (p : Pv K mg ι H Q (some (.tup l, h))) (R : Rep K mg ι h H) (r : ReL K mg ι H l xs) : ∀ q, H q = none → Q (.ref q) (upd H q (.tup xs)) :=
  fun q hq => p ι _ _ (Gr.upd R hq) (R.upd hq) (.tup (.inl (.inl upd_same)) (r.mono R (Gr.upd R hq)))
theorem Pv.cell {l : List D} {xs : List V} (p : Pv K mg ι H Q (some (.ref h.length, h ++ [l]))) (R : Rep K mg ι h H) (r : ReL K mg ι H l xs) : ∀ q, H q = none → Q (.ref q) (upd H q (.lst xs)) :=
  fun q hq => p (ι ++ [q]) _ _ (Gr.newCell R hq) (R.newCell hq r) (.ref (by rw [← R.len]; simp))
theorem Rep.cellAt (R : Rep K mg ι h H) {n : Nat} {l : List D} {v : V} (r : Re K mg ι H (.ref n) v) (e : h[n]? = some l) : ∃ a xs, v = .ref a ∧ ι[n]? = some a ∧ H a = some (.lst xs) ∧ ReL K mg ι H l xs := by
  obtain ⟨a, rfl, ha⟩ := r.ref_inv
  obtain ⟨xs, hx, rl⟩ := R.cell n a l ha e
  exact ⟨a, xs, rfl, ha, hx, rl⟩
theorem ReL.inj_len {ds : List D} {vs : List V} (r : ReL K mg ι H ds vs) : vs.length = ds.length := r.length.symm
end
def opAdd : Op2 := fun x y h => match x, y with
  | .int i, .int j => some (.int (i + j), h)
  | .tup a, .tup b => if a.length + b.length ≤ 100000 then some (.tup (a ++ b), h) else none
  | .ref a, .ref b => (h[a]?).bind fun l => (h[b]?).bind fun m => if l.length + m.length ≤ 100000 then some (.ref h.length, h ++ [l ++ m]) else none
  | .str a, .str b => if a.length + b.length ≤ 100000 then some (.str (a ++ b), h) else none
  | _, _ => none
def iiOp (C : Int → Int → Prop) [∀ i j, Decidable (C i j)] (f : Int → Int → Int) : Op2 := fun x y h => match x, y with
  | .int i, .int j => if C i j then some (.int (f i j), h) else none
  | _, _ => none
def opSub : Op2 := iiOp (fun _ _ => True) fun i j => i - j
def MulOk (i j : Int) : Prop := (-(2 ^ 64) < i ∧ i < 2 ^ 64) ∨ (-(2 ^ 64) < j ∧ j < 2 ^ 64) ∨ i.natAbs.log2 + j.natAbs.log2 < 1000000
noncomputable instance (i j : Int) : Decidable (MulOk i j) := Classical.propDecidable _
noncomputable def opMul : Op2 := fun x y h => match x, y with
  | .int i, .int j => if MulOk i j then some (.int (i * j), h) else none
  | .ref a, .int k => (h[a]?).bind fun l => if -(2 ^ 63) ≤ k ∧ k < 2 ^ 63 ∧ l.length * k.toNat ≤ 100000 then some (.ref h.length, h ++ [(List.replicate k.toNat l).flatten]) else none
  | .tup l, .int k => if (!l.isEmpty) = true ∧ 2 ≤ k ∧ k ≤ 1000 ∧ l.length ≤ 1000 then some (.tup (List.replicate k.toNat l).flatten, h) else none
  | _, _ => none
def PowOk (i j : Int) : Prop := (0 ≤ j ∧ j ≤ 1000000 ∧ i.natAbs < 2 ^ 64) ∨ (0 ≤ j ∧ (PySem.Builtin.Int.intBits i : Int) * j ≤ 2 ^ 27)
instance (i j : Int) : Decidable (PowOk i j) := by unfold PowOk; infer_instance
def opPow : Op2 := iiOp PowOk fun i j => i ^ j.toNat
def DivOk (_ j : Int) : Prop := j ≠ 0 ∧ j.natAbs.log2 < 9000
noncomputable instance (i j : Int) : Decidable (DivOk i j) := Classical.propDecidable _
noncomputable def opDiv : Op2 := iiOp DivOk fun i j => i.fdiv j
def opMod : Op2 := iiOp (fun _ j => 0 < j) fun i j => i % j
def icOp (f : Int → Int → Bool) : Op2 := fun x y h => match x, y with
  | .int i, .int j => some (.bl (f i j), h)
  | _, _ => none
def opLt := icOp fun i j => decide (i < j)
def opLe := icOp fun i j => decide (i ≤ j)
def opGt := icOp fun i j => decide (j < i)
def opGe := icOp fun i j => decide (j ≤ i)
def opNeg : Op1 := fun x h => match x with
  | .int i => some (.int (-i), h)
  | _ => none
def opIx : Op2 := fun x y h => match x, y with
  | .tup l, .int i => (atI l i).bind fun d => some (d, h)
  | .rol l, .int i => (atI l i).bind fun d => some (d, h)
  | .ref n, .int i => (h[n]?).bind fun l => (atI l i).bind fun d => some (d, h)
  | _, _ => none
def cutD (xs : List D) (lo hi : Option Int) : List D := (xs.drop (HT.sIx xs.length 0 lo)).take (HT.sIx xs.length xs.length hi - HT.sIx xs.length 0 lo)
def opSl : D → Option Int → Option Int → HS → Option (D × HS) := fun x lo hi h => match x with
  | .tup l => some (.tup (cutD l lo hi), h)
  | .rol l => some (.ref h.length, h ++ [cutD l lo hi])
  | .ref n => (h[n]?).bind fun l => some (.ref h.length, h ++ [cutD l lo hi])
  | _ => none
section
variable {X : Cx}
theorem OpR.or {f : Value → Value → Sem Value} {r r' : R2} (p : OpR X f r) (q : OpR X f r') : OpR X f (fun x y H Q => r x y H Q ∨ r' x y H Q) := fun pins s σ H x y v u Q I a b z => z.elim (p pins s σ H x y v u Q I a b) (q pins s σ H x y v u Q I a b)
theorem OpR.imp {f : Value → Value → Sem Value} {r r' : R2} (p : OpR X f r) (h : ∀ x y H Q, r' x y H Q → r x y H Q) : OpR X f r' := fun pins s σ H x y v u Q I a b z => p pins s σ H x y v u Q I a b (h x y H Q z)
theorem CallR.or {f : Value} {r r' : List V → Hp → VK → Prop} (p : CallR X f r) (q : CallR X f r') : CallR X f (fun x H Q => r x H Q ∨ r' x H Q) := fun pins s σ H x v Q I a z => z.elim (p pins s σ H x v Q I a) (q pins s σ H x v Q I a)
theorem CallR.imp {f : Value} {r r' : List V → Hp → VK → Prop} (p : CallR X f r) (h : ∀ x H Q, r' x H Q → r x H Q) : CallR X f r' := fun pins s σ H x v Q I a z => p pins s σ H x v Q I a (h x H Q z)
theorem oAdd : OpR X (binaryOp .Add) (r2 X.K X.mg opAdd) := OpR.imp (OpR.or op_add (OpR.or op_catA (OpR.or op_cat op_add_str))) fun x y H Q ⟨ι, h, d, e, R, rd, re, p⟩ => by
  cases d with
  | int i => cases e with
    | int j => exact .inl ⟨i, j, rd.int_inv, re.int_inv, p.now R (.int _)⟩
    | _ => exact p.elim
  | str i => cases e with
    | str j =>
      have p : Pv X.K X.mg ι H Q (if i.length + j.length ≤ 100000 then some (.str (i ++ j), h) else none) := p
      split at p
      · rename_i hz
        exact .inr (.inr (.inr ⟨i, j, rd.str_inv, re.str_inv, sz100 hz, p.now R (.str _)⟩))
      · exact p.elim
    | _ => exact p.elim
  | tup l => cases e with
    | tup m =>
      have p : Pv X.K X.mg ι H Q (if l.length + m.length ≤ 100000 then some (.tup (l ++ m), h) else none) := p
      split at p
      · rename_i hz
        obtain ⟨a, xs, rfl, s, rl⟩ := rd.tup_inv
        obtain ⟨b, ys, rfl, s2, rm⟩ := re.tup_inv
        refine .inr (.inl ⟨a, b, xs, ys, rfl, rfl, s, s2, by rw [← rl.length, ← rm.length]; exact sz100 hz, fun z => ?_, fun _ z => ?_, fun _ _ => p.tup R (rl.append rm)⟩)
        · subst z
          cases rl
          exact p.now R (.tup s2 rm)
        · subst z
          cases rm
          exact p.now R (.tup s (by rw [List.append_nil]; exact rl))
      · exact p.elim
    | _ => exact p.elim
  | ref a => cases e with
    | ref b =>
      have p : Pv X.K X.mg ι H Q ((h[a]?).bind fun l => (h[b]?).bind fun m => if l.length + m.length ≤ 100000 then some (.ref h.length, h ++ [l ++ m]) else none) := p
      cases q1 : h[a]? with
      | none => rw [q1] at p; exact p.elim
      | some l =>
        cases q2 : h[b]? with
        | none => rw [q1, q2] at p; exact p.elim
        | some m =>
          rw [q1, q2] at p
          have p : Pv X.K X.mg ι H Q (if l.length + m.length ≤ 100000 then some (.ref h.length, h ++ [l ++ m]) else none) := p
          split at p
          · rename_i hz
            obtain ⟨a, xs, rfl, _, s, rl⟩ := R.cellAt rd q1
            obtain ⟨b, ys, rfl, _, s2, rm⟩ := R.cellAt re q2
            exact .inr (.inr (.inl ⟨a, b, xs, ys, rfl, rfl, s, s2, by rw [← rl.length, ← rm.length]; exact sz100 hz, p.cell R (rl.append rm)⟩))
          · exact p.elim
    | _ => exact p.elim
  | _ => exact p.elim
theorem oII {op : Operator} {C : Int → Int → Prop} [∀ i j, Decidable (C i j)] {f : Int → Int → Int} (o : OpR X (binaryOp op) (rI C fun i j => .int (f i j))) : OpR X (binaryOp op) (r2 X.K X.mg (iiOp C f)) := OpR.imp o fun x y H Q ⟨ι, h, d, e, R, rd, re, p⟩ => by
  cases d with
  | int i => cases e with
    | int j =>
      have p : Pv X.K X.mg ι H Q (if C i j then some (.int (f i j), h) else none) := p
      split at p
      · rename_i c
        exact ⟨i, j, rd.int_inv, re.int_inv, c, p.now R (.int _)⟩
      · exact p.elim
    | _ => exact p.elim
  | _ => exact p.elim
theorem oSub : OpR X (binaryOp .Sub) (r2 X.K X.mg opSub) := oII (OpR.imp op_sub fun x y H Q ⟨i, j, a, b, _, q⟩ => ⟨i, j, a, b, q⟩)
theorem ReL.rep {K : PySem.W.Frag} {mg : Str → Option Value} {ι : List Addr} {H : Hp} {ds : List D} {vs : List V} (r : ReL K mg ι H ds vs) : ∀ n : Nat, ReL K mg ι H (List.replicate n ds).flatten (List.replicate n vs).flatten
  | 0 => .nil
  | n + 1 => by
    rw [List.replicate_succ, List.replicate_succ, List.flatten_cons, List.flatten_cons]
    exact r.append (r.rep n)
theorem oMul : OpR X (binaryOp .Mult) (r2 X.K X.mg opMul) := OpR.imp (OpR.or op_repT (OpR.or op_rep (OpR.or op_mul op_mulW))) fun x y H Q ⟨ι, h, d, e, R, rd, re, p⟩ => by
  cases d with
  | tup l => cases e with
    | int k =>
      have p : Pv X.K X.mg ι H Q (if (!l.isEmpty) = true ∧ 2 ≤ k ∧ k ≤ 1000 ∧ l.length ≤ 1000 then some (.tup (List.replicate k.toNat l).flatten, h) else none) := p
      split at p
      · rename_i c
        obtain ⟨a, xs, rfl, s, rl⟩ := rd.tup_inv
        refine .inl ⟨a, k, xs, rfl, re.int_inv, s, fun z => ?_, c.2.1, c.2.2.1, by rw [← rl.length]; exact c.2.2.2, p.tup R (rl.rep _)⟩
        subst z
        cases rl
        exact absurd c.1 (by simp)
      · exact p.elim
    | _ => exact p.elim
  | int i => cases e with
    | int j =>
      have p : Pv X.K X.mg ι H Q (if MulOk i j then some (.int (i * j), h) else none) := p
      split at p
      · rename_i c
        have q := p.now R (.int _)
        rcases c with c | c | c
        · exact .inr (.inr (.inl ⟨i, j, rd.int_inv, re.int_inv, .inl c, q⟩))
        · exact .inr (.inr (.inl ⟨i, j, rd.int_inv, re.int_inv, .inr c, q⟩))
        · exact .inr (.inr (.inr ⟨i, j, rd.int_inv, re.int_inv, c, q⟩))
      · exact p.elim
    | _ => exact p.elim
  | ref a => cases e with
    | int k =>
      have p : Pv X.K X.mg ι H Q ((h[a]?).bind fun l => if -(2 ^ 63) ≤ k ∧ k < 2 ^ 63 ∧ l.length * k.toNat ≤ 100000 then some (.ref h.length, h ++ [(List.replicate k.toNat l).flatten]) else none) := p
      cases q1 : h[a]? with
      | none => rw [q1] at p; exact p.elim
      | some l =>
        rw [q1] at p
        have p : Pv X.K X.mg ι H Q (if -(2 ^ 63) ≤ k ∧ k < 2 ^ 63 ∧ l.length * k.toNat ≤ 100000 then some (.ref h.length, h ++ [(List.replicate k.toNat l).flatten]) else none) := p
        obtain ⟨a, xs, rfl, _, s, rl⟩ := R.cellAt rd q1
        split at p
        · rename_i c
          exact .inr (.inl ⟨a, k, xs, rfl, re.int_inv, s, c.1, c.2.1, by rw [← rl.length]; exact sz100 c.2.2, p.cell R (rl.rep _)⟩)
        · exact p.elim
    | _ => exact p.elim
  | _ => exact p.elim
theorem op_powW : OpR X (binaryOp .Pow) (rI PowOk fun i j => .int (i ^ j.toNat)) := opI fun _ _ _ _ _ _ _ hc q => hc.elim (fun c => PyProof.Rows.pow_int_small c.1 c.2.1 c.2.2 q) fun c => PyProof.Rows.pow_int c.1 c.2 q
theorem oPow : OpR X (binaryOp .Pow) (r2 X.K X.mg opPow) := oII op_powW
theorem op_fdivF : OpR X (binaryOp .FloorDiv) (rI DivOk fun i j => .int (i.fdiv j)) := opI fun i j _ _ _ _ _ hc q => PyProof.Rows.floordiv_int hc.1 q (.inl (PyProof.noPylong_of_log2 hc.2))
theorem oDiv : OpR X (binaryOp .FloorDiv) (r2 X.K X.mg opDiv) := oII op_fdivF
theorem oMod : OpR X (binaryOp .Mod) (r2 X.K X.mg opMod) := oII op_mod
theorem oIC {op : CmpOp} {f : Int → Int → Bool} (o : OpR X (compareOp op) (rI0 fun i j => .bl (f i j))) : OpR X (compareOp op) (r2 X.K X.mg (icOp f)) := OpR.imp o fun x y H Q ⟨ι, h, d, e, R, rd, re, p⟩ => by
  cases d with
  | int i => cases e with
    | int j => exact ⟨i, j, rd.int_inv, re.int_inv, p.now R (.bl _)⟩
    | _ => exact p.elim
  | _ => exact p.elim
theorem oLt : OpR X (compareOp .Lt) (r2 X.K X.mg opLt) := oIC op_lt
theorem oLe : OpR X (compareOp .LtE) (r2 X.K X.mg opLe) := oIC op_le
theorem oGt : OpR X (compareOp .Gt) (r2 X.K X.mg opGt) := oIC op_gt
theorem oGe : OpR X (compareOp .GtE) (r2 X.K X.mg opGe) := oIC op_ge
theorem oNeg : UnR X (unaryOp .USub) (r1 X.K X.mg opNeg) := fun pins s σ H x v Q I rx ⟨ι, h, d, R, rd, p⟩ => by
  cases d with
  | int i => exact un_neg pins s σ H x v Q I rx ⟨i, rd.int_inv, p.now R (.int _)⟩
  | _ => exact p.elim
theorem ReL.atI {K : PySem.W.Frag} {mg : Str → Option Value} {ι : List Addr} {H : Hp} {ds : List D} {vs : List V} {i : Int} {d : D} (r : ReL K mg ι H ds vs) (e : L2.atI ds i = some d) : ∃ v, L2.atI vs i = some v ∧ Re K mg ι H d v := by
  unfold L2.atI at e ⊢
  rw [← r.length]
  cases q : ixN ds.length i with
  | none => rw [q] at e; cases e
  | some j =>
    rw [q] at e
    exact r.get e
theorem IxR.or {r r' : R2} (p : IxR X r) (q : IxR X r') : IxR X (fun x y H Q => r x y H Q ∨ r' x y H Q) := fun a b pins s σ H x y v u Q I rx ry z w => z.elim (fun t => p a b pins s σ H x y v u Q I rx ry t w) (fun t => q a b pins s σ H x y v u Q I rx ry t w)
theorem oIx : IxR X (r2 X.K X.mg opIx) := fun a b pins s σ H x y v u Q I rx ry ⟨ι, h, d, e, R, rd, re, p⟩ w => (IxR.or ix_list ix_tup) a b pins s σ H x y v u Q I rx ry (by
  cases d with
  | tup l => cases e with
    | int i =>
      have p : Pv X.K X.mg ι H Q ((atI l i).bind fun d => some (d, h)) := p
      obtain ⟨a, xs, rfl, s, rl⟩ := rd.tup_inv
      cases q : atI l i with
      | none => rw [q] at p; exact p.elim
      | some d =>
        rw [q] at p
        obtain ⟨v, hv, rv⟩ := rl.atI q
        exact .inr ⟨a, xs, i, v, rfl, re.int_inv, s, hv, p.now R rv⟩
    | _ => exact p.elim
  | rol l => cases e with
    | int i =>
      have p : Pv X.K X.mg ι H Q ((atI l i).bind fun d => some (d, h)) := p
      obtain ⟨a, xs, rfl, s, rl⟩ := rd.rol_inv
      cases q : atI l i with
      | none => rw [q] at p; exact p.elim
      | some d =>
        rw [q] at p
        obtain ⟨v, hv, rv⟩ := rl.atI q
        exact .inl ⟨a, xs, i, v, rfl, re.int_inv, s.now, hv, p.now R rv⟩
    | _ => exact p.elim
  | ref n => cases e with
    | int i =>
      have p : Pv X.K X.mg ι H Q ((h[n]?).bind fun l => (atI l i).bind fun d => some (d, h)) := p
      cases q0 : h[n]? with
      | none => rw [q0] at p; exact p.elim
      | some l =>
        rw [q0] at p
        have p : Pv X.K X.mg ι H Q ((atI l i).bind fun d => some (d, h)) := p
        obtain ⟨a, xs, rfl, _, s, rl⟩ := R.cellAt rd q0
        cases q : atI l i with
        | none => rw [q] at p; exact p.elim
        | some d =>
          rw [q] at p
          obtain ⟨v, hv, rv⟩ := rl.atI q
          exact .inl ⟨a, xs, i, v, rfl, re.int_inv, .inl (.inl s), hv, p.now R rv⟩
    | _ => exact p.elim
  | _ => exact p.elim) w
theorem ReL.cut {K : PySem.W.Frag} {mg : Str → Option Value} {ι : List Addr} {H : Hp} {ds : List D} {vs : List V} {lo hi : Option Int} (r : ReL K mg ι H ds vs) : ReL K mg ι H (cutD ds lo hi) (cutV vs lo hi) := by
  unfold cutD cutV
  rw [r.length]
  exact (r.drop _).take _
theorem oSl : SlR X (rS X.K X.mg opSl) := fun pins s σ H x v vl vu lo hi sl Q I rx hs pl pu ⟨ι, h, d, R, rd, p⟩ => (SlR.or sl_tupA sl_list) pins s σ H x v vl vu lo hi sl Q I rx hs pl pu (by
  cases d with
  | tup l =>
    have p : Pv X.K X.mg ι H Q (some (.tup (cutD l lo hi), h)) := p
    obtain ⟨a, xs, rfl, s, rl⟩ := rd.tup_inv
    refine .inl ⟨a, xs, rfl, s, fun z => ?_, fun _ => p.tup R rl.cut⟩
    have e : cutD l lo hi = l := by
      unfold cutD
      rw [rl.length, z.1, z.2, ← rl.length]
      simp
    rw [e] at p
    exact p.now R (.tup s rl)
  | rol l =>
    have p : Pv X.K X.mg ι H Q (some (.ref h.length, h ++ [cutD l lo hi])) := p
    obtain ⟨a, xs, rfl, s, rl⟩ := rd.rol_inv
    exact .inr ⟨a, xs, rfl, s.now, p.cell R rl.cut⟩
  | ref n =>
    have p : Pv X.K X.mg ι H Q ((h[n]?).bind fun l => some (.ref h.length, h ++ [cutD l lo hi])) := p
    cases q0 : h[n]? with
    | none => rw [q0] at p; exact p.elim
    | some l =>
      rw [q0] at p
      obtain ⟨a, xs, rfl, _, s, rl⟩ := R.cellAt rd q0
      exact .inr ⟨a, xs, rfl, .inl (.inl s), Pv.cell p R rl.cut⟩
  | _ => exact p.elim)
end
end PI

namespace PI
open PySem L2 PySem.Spec
/-! ### data as it is shown and compared -/
def toPW (f : D → Option PyData) : List D → Option (List PyData)
  | [] => some []
  | d :: r => (f d).bind fun p => (toPW f r).bind fun ps => some (p :: ps)
def toP (h : HS) : Nat → D → Option PyData
  | _, .non => some .none
  | _, .bl b => some (.bool b)
  | _, .int i => some (.int i)
  | _, .str x => some (.str x)
  | _, .emp => some (.dict [])
  | n + 1, .tup l => (toPW (toP h n) l).map .tuple
  | n + 1, .rol l => (toPW (toP h n) l).map .list
  | n + 1, .ref a => (h[a]?).bind fun l => (toPW (toP h n) l).map .list
  | _, _ => none
section
variable {X : Cx} {pins : List (Addr × Obj)} {σ : L2.St} {ι : List Addr} {h : HS} {H : Hp} {s : Shared}
theorem notSys (I : Inv X pins σ H s) (sb : SysB X.base) {a : Addr} {o : HO} (e : H a = some o) : a ≠ sysModules := fun z => by
  obtain ⟨ob, _, _, q, _⟩ := sb
  have n := (I.bs _ _ q).2
  rw [z, n] at e
  cases e
theorem notSysL (I : Inv X pins σ H s) (sb : SysB X.base) {a : Addr} {xs : List V} (e : SqL X.K H a xs) : a ≠ sysModules := by
  rcases e with (e | ⟨o, e⟩) | ⟨o, its, n, hk, hc, hd, hs, _⟩
  · exact notSys I sb e
  · exact notSys I sb e
  · intro z
    obtain ⟨ob, es, ep, q, d⟩ := sb
    have q2 := I.ok.mod.kin a o hk
    rw [z, q] at q2
    cases q2
    rw [hs] at d
    cases d
theorem reads_all (I : Inv X pins σ H s) {f : D → Option PyData} (ih : ∀ d p v u, f d = some p → Re X.K X.mg ι H d v → RelV v u → ∃ as, Reads s.heap u p as ∧ sysModules ∉ as) : ∀ (l : List D) (ps : List PyData) (vs : List V) (us : List Value), toPW f l = some ps → ReL X.K X.mg ι H l vs → Vals vs us → ∃ as, ReadsAll s.heap us ps as ∧ sysModules ∉ as
  | [], ps, _, _, e, .nil, .nil => by
    cases e
    exact ⟨_, ReadsAll.nil, by simp⟩
  | d :: l, ps, _, _, e, .cons a b, .cons r1 r2 => by
    obtain ⟨p, e1, e2⟩ := Option.bind_eq_some_iff.mp (show (f d).bind _ = some ps from e)
    obtain ⟨qs, e3, e4⟩ := Option.bind_eq_some_iff.mp e2
    cases e4
    obtain ⟨as, q1, n1⟩ := ih d p _ _ e1 a r1
    obtain ⟨bs, q2, n2⟩ := reads_all I ih l qs _ _ e3 b r2
    exact ⟨_, ReadsAll.cons q1 q2, fun z => (List.mem_append.mp z).elim n1 n2⟩
theorem reads_of (I : Inv X pins σ H s) (R : Rep X.K X.mg ι h H) (sb : SysB X.base) : ∀ (n : Nat) (d : D) (p : PyData) (v : V) (u : Value), toP h n d = some p → Re X.K X.mg ι H d v → RelV v u → ∃ as, Reads s.heap u p as ∧ sysModules ∉ as := by
  have flat : ∀ (n : Nat) (d : D) (p : PyData) (v : V) (u : Value), toP h n d = some p → Re X.K X.mg ι H d v → RelV v u → (∀ l, d ≠ .tup l) → (∀ l, d ≠ .rol l) → (∀ l, d ≠ .ref l) → ∃ as, Reads s.heap u p as ∧ sysModules ∉ as := by
    intro n d p v u e r rv h1 h2 h3
    have e : toP h 0 d = some p := by
      cases n with
      | zero => exact e
      | succ n => cases d <;> first | exact e | exact absurd rfl (h1 _) | exact absurd rfl (h2 _) | exact absurd rfl (h3 _)
    cases d with
    | non => cases e; rw [r.non_inv] at rv; cases rv; exact ⟨_, Reads.none, by simp⟩
    | bl b => cases e; rw [r.bl_inv] at rv; cases rv; exact ⟨_, Reads.bool b, by simp⟩
    | int b => cases e; rw [r.int_inv] at rv; obtain ⟨t, rfl⟩ := rv; exact ⟨_, Reads.int b t, by simp⟩
    | str b => cases e; rw [r.str_inv] at rv; obtain ⟨t, rfl⟩ := rv; exact ⟨_, Reads.str b t, by simp⟩
    | emp =>
      cases e
      obtain ⟨a, rfl, ha⟩ := r.emp_inv
      cases rv
      obtain ⟨_, _, vs, kv, o, es, ep, h1, h2, h3, _, h4, _⟩ := I.hok a _ ha
      cases kv
      cases he : es.toList with
      | nil => exact ⟨_, Reads.dict h1 h2.1 h3 (by rw [he]; exact .nil) (by rw [he]; exact .nil), by simpa using (notSys I sb ha).symm⟩
      | cons x y => rw [he] at h4; cases h4
    | _ => cases e
  intro n
  induction n with
  | zero =>
    intro d p v u e r rv
    exact flat 0 d p v u e r rv (fun l z => by subst z; cases e) (fun l z => by subst z; cases e) (fun l z => by subst z; cases e)
  | succ n ih =>
    intro d p v u e r rv
    cases d with
    | tup l =>
      obtain ⟨ps, e1, e2⟩ := Option.map_eq_some_iff.mp (show (toPW (toP h n) l).map PyData.tuple = some p from e)
      subst e2
      obtain ⟨a, xs, rfl, sq, rl⟩ := r.tup_inv
      cases rv
      obtain ⟨its, rv, ⟨o, ho, hc, m, hd⟩, _⟩ := I.tuple sq
      obtain ⟨as, hr, hn⟩ := reads_all I ih l ps xs its e1 rl rv
      exact ⟨_, Reads.tuple ho hc hd hr, hn⟩
    | rol l =>
      obtain ⟨ps, e1, e2⟩ := Option.map_eq_some_iff.mp (show (toPW (toP h n) l).map PyData.list = some p from e)
      subst e2
      obtain ⟨a, xs, rfl, sq, rl⟩ := r.rol_inv
      cases rv
      obtain ⟨its, rv, ⟨o, m, ho, hc, _, hd⟩, _⟩ := I.list sq.now
      obtain ⟨as, hr, hn⟩ := reads_all I ih l ps xs its e1 rl rv
      exact ⟨_, Reads.list ho hc hd hr, fun z => (List.mem_cons.mp z).elim (fun q => notSysL I sb sq.now q.symm) hn⟩
    | ref a =>
      obtain ⟨l, e0, e⟩ := Option.bind_eq_some_iff.mp (show (h[a]?).bind (fun l => (toPW (toP h n) l).map PyData.list) = some p from e)
      obtain ⟨ps, e1, e2⟩ := Option.map_eq_some_iff.mp e
      subst e2
      obtain ⟨a, xs, rfl, _, sq, rl⟩ := R.cellAt r e0
      cases rv
      obtain ⟨its, rv, ⟨o, m, ho, hc, _, hd⟩, _⟩ := I.list (.inl (.inl sq))
      obtain ⟨as, hr, hn⟩ := reads_all I ih l ps xs its e1 rl rv
      exact ⟨_, Reads.list ho hc hd hr, fun z => (List.mem_cons.mp z).elim (fun q => notSys I sb sq q.symm) hn⟩
    | _ => exact flat (n + 1) _ p v u e r rv (fun l z => by cases z) (fun l z => by cases z) (fun l z => by cases z)
end
abbrev deep : Nat := 12
def opEqP (neg : Bool) : Op2 := fun x y h => (toP h deep x).bind fun p => (toP h deep y).bind fun q => if SeqAt.shaped p && SeqAt.shaped q then some (.bl (if neg then !PyData.eqv p q else PyData.eqv p q), h) else none
def opEqB (neg : Bool) : Op2 := fun x y h => match x, y with
  | .str a, .str b => some (.bl (if neg then !(a == b) else (a == b)), h)
  | _, _ => opEqP neg x y h
def opEq : Op2 := opEqB false
def opNe : Op2 := opEqB true
mutual
/-- data whose text is short, leaf by leaf -/
def okP : PyData → Bool
  | .none => true
  | .bool _ => true
  | .int i => decide (i.natAbs.log2 < 1920)
  | .str x => x.cps.toList.all fun c => decide (c < 16 ^ 8)
  | .list xs => okPs xs
  | .tuple xs => okPs xs
  | .dict kvs => kvs.isEmpty
def okPs : List PyData → Bool
  | [] => true
  | x :: xs => okP x && okPs xs
end
theorem int_short {i : Int} (h : i.natAbs.log2 < 1920) : (PyData.shown (.int i)).length ≤ 2000 := by
  have e := int_text_length_le (k := 1920) (by decide) h
  simp only [PyData.shown]
  rw [ofString_length]
  omega
mutual
theorem okP_ok : ∀ p : PyData, okP p = true → p.showable = true ∧ p.leavesShort 2000 = true
  | .none, _ => by simp [PyData.showable, PyData.leavesShort]
  | .bool _, _ => by simp [PyData.showable, PyData.leavesShort]
  | .int i, h => by
    simp only [okP, decide_eq_true_eq] at h
    simp only [PyData.showable, PyData.leavesShort, decide_eq_true_eq]
    exact ⟨h, int_short h⟩
  | .str x, h => by
    simp only [okP] at h
    simp only [PyData.showable, PyData.leavesShort, h, and_self]
  | .list xs, h => by
    simp only [okP] at h
    simp only [PyData.showable, PyData.leavesShort]
    exact okPs_ok xs h
  | .tuple xs, h => by
    simp only [okP] at h
    simp only [PyData.showable, PyData.leavesShort]
    exact okPs_ok xs h
  | .dict [], _ => by simp [PyData.showable, PyData.leavesShort, PyData.showableKv, PyData.leavesShortKv]
  | .dict (_ :: _), h => by simp [okP] at h
theorem okPs_ok : ∀ ps : List PyData, okPs ps = true → PyData.showableAll ps = true ∧ PyData.leavesShortAll 2000 ps = true
  | [], _ => by simp [PyData.showableAll, PyData.leavesShortAll]
  | p :: ps, h => by
    simp only [okPs, Bool.and_eq_true] at h
    have a := okP_ok p h.1
    have b := okPs_ok ps h.2
    simp [PyData.showableAll, PyData.leavesShortAll, a.1, a.2, b.1, b.2]
end
theorem okP_len {p : PyData} (h : okP p = true) (hb : p.bulk ≤ 8000) : p.shown.length ≤ sizeLine := by
  have e := PyData.shown_le_bulk 2000 (by decide) p (okP_ok p h).2
  rw [sizeLine_eq]
  omega
def opRepr : OpN := fun l h => (get1 l).bind fun d => (toP h deep d).bind fun p => if okP p = true ∧ p.depth ≤ 40 ∧ p.bulk ≤ 8000 then some (.str p.shown, h) else none
/-! built-in functions -/
def tyName : D → Option String
  | .non => some "NoneType"
  | .bl _ => some "bool"
  | .int _ => some "int"
  | .str _ => some "str"
  | .tup _ => some "tuple"
  | .ref _ => some "list"
  | .emp => some "dict"
  | _ => none
def isSub (t c : String) : Option Bool := if c = "int" then some (t == "int" || t == "bool") else if c = "bool" then some (t == "bool") else if c = "tuple" then some (t == "tuple") else if c = "str" then some (t == "str") else if c = "list" then some (t == "list") else none
def asTy : D → Option String
  | .ty n => some n
  | _ => none
def opIsi : OpN := fun l h => (get2 l).bind fun d => (tyName d.1).bind fun t => (asTy d.2).bind fun c => (isSub t c).bind fun b => some (.bl b, h)
def lenD (d : D) (h : HS) : Option Nat := match d with
  | .tup l => some l.length
  | .rol l => some l.length
  | .ref n => (h[n]?).map (·.length)
  | .str x => if x.length ≤ 100000 then some x.length else none
  | _ => none
def opLen : OpN := fun l h => (get1 l).bind fun d => (lenD d h).bind fun n => some (.int n, h)
def opAbs : OpN := fun l h => (get1 l).bind fun d => (asInt d).bind fun i => some (.int (if i < 0 then -i else i), h)
def opInt : OpN := fun l h => (get1 l).bind fun d => match d with
  | .int i => some (.int i, h)
  | .bl b => some (.int (if b then 1 else 0), h)
  | _ => none
def opStr : OpN := fun l h => (get1 l).bind fun d => (asInt d).bind fun i => if i.natAbs.log2 < 1920 then some (.str (toString i), h) else none
def opGcd : OpN := fun l h => (get2 l).bind fun d => (asInt d.1).bind fun i => (asInt d.2).bind fun j => some (.int ((Nat.gcd i.natAbs j.natAbs : Nat) : Int), h)
def opMax : OpN := fun l h => (get2 l).bind fun d => (asInt d.1).bind fun i => (asInt d.2).bind fun j => some (.int (if j > i then j else i), h)
def opMin : OpN := fun l h => (get2 l).bind fun d => (asInt d.1).bind fun i => (asInt d.2).bind fun j => some (.int (if j < i then j else i), h)
def DivP (j : Int) : Prop := 0 < j ∧ j.natAbs.log2 < 9000
noncomputable instance (j : Int) : Decidable (DivP j) := Classical.propDecidable _
noncomputable def opDivmod : OpN := fun l h => (get2 l).bind fun d => (asInt d.1).bind fun i => (asInt d.2).bind fun j => if DivP j then some (.tup [.int (i / j), .int (i % j)], h) else none
def opTuple : OpN := fun l h => (get1 l).bind fun d => match d with
  | .tup l => some (.tup l, h)
  | .rol l => some (.tup l, h)
  | .ref n => (h[n]?).bind fun l => some (.tup l, h)
  | _ => none
def opList : OpN := fun l h => (get1 l).bind fun d => match d with
  | .tup l => some (.ref h.length, h ++ [l])
  | .rol l => some (.ref h.length, h ++ [l])
  | .ref n => (h[n]?).bind fun l => some (.ref h.length, h ++ [l])
  | _ => none
def allInt : List D → Option (List Int)
  | [] => some []
  | d :: l => (asInt d).bind fun i => (allInt l).bind fun r => some (i :: r)
def asBl : D → Option Bool
  | .bl b => some b
  | _ => none
def allBl : List D → Option (List Bool)
  | [] => some []
  | d :: l => (asBl d).bind fun i => (allBl l).bind fun r => some (i :: r)
def cellOf (d : D) (h : HS) : Option (List D) := match d with
  | .ref n => h[n]?
  | _ => none
def opSum : OpN := fun l h => (get1 l).bind fun d => (cellOf d h).bind fun l => (allInt l).bind fun ns => some (.int ns.sum, h)
def opAll : OpN := fun l h => (get1 l).bind fun d => (cellOf d h).bind fun l => (allBl l).bind fun ns => some (.bl (ns.all id), h)
def opAny : OpN := fun l h => (get1 l).bind fun d => (cellOf d h).bind fun l => (allBl l).bind fun ns => some (.bl (ns.any id), h)
def asRef : D → Option Nat
  | .ref n => some n
  | _ => none
theorem asRef_eq {d : D} {n : Nat} (h : asRef d = some n) : d = .ref n := by
  cases d with
  | ref j => exact congrArg D.ref (Option.some.inj h)
  | _ => cases h
def dApp (o a : DE) : DE := fun e h => (o e h).bind fun x h1 => ofOpt (asRef x) fun n => (a e h1).bind fun y h2 => ofOpt (h2[n]?) fun l => if l.length < 100000 then .ok .non (h2.set n (l ++ [y])) else .stuck
section
variable {K : PySem.W.Frag} {mg : Str → Option Value} {ι : List Addr} {h : HS} {H : Hp} {Q : VK}
theorem Pv.of {α : Type} {o : Option α} {k : α → Option (D × HS)} (p : Pv K mg ι H Q (o.bind k)) : ∃ a, o = some a ∧ Pv K mg ι H Q (k a) := by
  cases o with
  | some a => exact ⟨a, rfl, p⟩
  | none => exact p.elim
theorem Pv.if {c : Prop} [Decidable c] {r : Option (D × HS)} (p : Pv K mg ι H Q (if c then r else none)) : c ∧ Pv K mg ι H Q r := by
  split at p
  · exact ⟨by assumption, p⟩
  · exact p.elim
theorem ReL.one {l : List D} {d : D} {xs : List V} (e : get1 l = some d) (r : ReL K mg ι H l xs) : ∃ v, xs = [v] ∧ Re K mg ι H d v := by
  rw [get1_eq e] at r
  cases r with
  | cons a b => cases b; exact ⟨_, rfl, a⟩
theorem ReL.two {l : List D} {d : D × D} {xs : List V} (e : get2 l = some d) (r : ReL K mg ι H l xs) : ∃ v u, xs = [v, u] ∧ Re K mg ι H d.1 v ∧ Re K mg ι H d.2 u := by
  rw [get2_eq e] at r
  cases r with
  | cons a b => cases b with
    | cons b c => cases c; exact ⟨_, _, rfl, a, b⟩
theorem Re.asInt {d : D} {i : Int} {v : V} (e : asInt d = some i) (r : Re K mg ι H d v) : v = .int i := by
  rw [asInt_eq e] at r
  exact r.int_inv
theorem ReL.ints : ∀ {l : List D} {ns : List Int} {xs : List V}, allInt l = some ns → ReL K mg ι H l xs → xs = ns.map V.int
  | [], _, _, e, .nil => by cases e; rfl
  | d :: l, ns, _, e, .cons a b => by
    obtain ⟨i, e1, e2⟩ := Option.bind_eq_some_iff.mp (show (PI.asInt d).bind _ = some ns from e)
    obtain ⟨r, e3, e4⟩ := Option.bind_eq_some_iff.mp e2
    cases e4
    rw [Re.asInt e1 a, ReL.ints e3 b]
    rfl
theorem Re.asBl {d : D} {i : Bool} {v : V} (e : asBl d = some i) (r : Re K mg ι H d v) : v = .bl i := by
  cases d with
  | bl b => cases e; exact r.bl_inv
  | _ => cases e
theorem ReL.bools : ∀ {l : List D} {ns : List Bool} {xs : List V}, allBl l = some ns → ReL K mg ι H l xs → xs = ns.map V.bl
  | [], _, _, e, .nil => by cases e; rfl
  | d :: l, ns, _, e, .cons a b => by
    obtain ⟨i, e1, e2⟩ := Option.bind_eq_some_iff.mp (show (PI.asBl d).bind _ = some ns from e)
    obtain ⟨r, e3, e4⟩ := Option.bind_eq_some_iff.mp e2
    cases e4
    rw [Re.asBl e1 a, ReL.bools e3 b]
    rfl
theorem Rep.cellOf (R : Rep K mg ι h H) {d : D} {l : List D} {v : V} (e : cellOf d h = some l) (r : Re K mg ι H d v) : ∃ a xs, v = .ref a ∧ H a = some (.lst xs) ∧ ReL K mg ι H l xs := by
  cases d with
  | ref n =>
    obtain ⟨a, xs, e1, _, e2, e3⟩ := R.cellAt r e
    exact ⟨a, xs, e1, e2, e3⟩
  | _ => cases e
end
section
variable {X : Cx}
theorem oEqP (sb : SysB X.base) (neg : Bool) {op : CmpOp} {r : R2} (o : OpR X (compareOp op) r) (ho : ∀ (s : Shared) (Q : Value → Shared → Prop) (u v : Value) (p q : PyData) (as bs : List Addr), Reads s.heap u p as → Reads s.heap v q bs → SeqAt.shaped p = true → SeqAt.shaped q = true → Q (.bool (if neg then !PyData.eqv p q else PyData.eqv p q)) s → wpAny (model X.prog X.w) X.A (compareOp op u v) Q X.xe s) :
    OpR X (compareOp op) (r2 X.K X.mg (opEqP neg)) := fun pins s σ H x y v u Q I rx ry ⟨ι, h, d, e, R, rd, re, p⟩ => by
  obtain ⟨a, e1, p⟩ := Pv.of p
  obtain ⟨b, e2, p⟩ := Pv.of p
  obtain ⟨c, p⟩ := Pv.if p
  obtain ⟨c1, c2⟩ := Bool.and_eq_true_iff.mp c
  obtain ⟨as, q1, _⟩ := reads_of I R sb _ d a x v e1 rd rx
  obtain ⟨bs, q2, _⟩ := reads_of I R sb _ e b y u e2 re ry
  exact ho s _ v u a b as bs q1 q2 c1 c2 ⟨.bl _, H, I, rfl, p.now R (.bl _)⟩
theorem oEqB (neg : Bool) {op : CmpOp} (o : OpR X (compareOp op) (r2 X.K X.mg (opEqP neg))) (o2 : OpR X (compareOp op) fun x y H Q => scal x y = true ∧ Q (.bl (if neg then !decide (x = y) else decide (x = y))) H) :
    OpR X (compareOp op) (r2 X.K X.mg (opEqB neg)) := fun pins s σ H x y v u Q I rx ry ⟨ι, h, d, e, R, rd, re, p⟩ => by
  by_cases c : ∃ a b, d = .str a ∧ e = .str b
  · obtain ⟨a, b, rfl, rfl⟩ := c
    have e1 := rd.str_inv
    have e2 := re.str_inv
    subst e1
    subst e2
    refine o2 pins s σ H _ _ v u Q I rx ry ⟨rfl, ?_⟩
    have w : (if neg then !decide (V.str a = V.str b) else decide (V.str a = V.str b)) = (if neg then !(a == b) else (a == b)) := by
      have : decide (V.str a = V.str b) = (a == b) := by
        by_cases c : a = b
        · subst c; simp
        · simp [c]
      rw [this]
    rw [w]
    exact Pv.now p R (.bl _)
  · refine o pins s σ H x y v u Q I rx ry ⟨ι, h, d, e, R, rd, re, ?_⟩
    have w : opEqB neg d e h = opEqP neg d e h := by
      cases d with
      | str a => cases e with
        | str b => exact absurd ⟨a, b, rfl, rfl⟩ c
        | _ => rfl
      | _ => rfl
    rw [w] at p
    exact p
theorem oEq {k : Nat} (sb : SysB X.base) (room : Room k X.A) : OpR X (compareOp .Eq) (r2 X.K X.mg opEq) := oEqB false (oEqP sb false (op_eqD room.units) fun s Q u v p q as bs r1 r2 s1 s2 z => SeqAt.compareEq_shaped r1 r2 s1 s2 room.units z) fun pins s σ H x y v u Q I rx ry q => op_eq pins s σ H x y v u Q I rx ry q
theorem oNe {k : Nat} (sb : SysB X.base) (room : Room k X.A) : OpR X (compareOp .NotEq) (r2 X.K X.mg opNe) := oEqB true (oEqP sb true (op_neD room.units) fun s Q u v p q as bs r1 r2 s1 s2 z => SeqAt.compareNe_shaped r1 r2 s1 s2 room.units z) fun pins s σ H x y v u Q I rx ry q => op_ne pins s σ H x y v u Q I rx ry q
theorem cLen : CallR X (.builtin "len") (rN X.K X.mg opLen) := CallR.imp call_len fun xs H Q ⟨ι, h, ds, R, r, p⟩ => by
  obtain ⟨d, e1, p⟩ := Pv.of p
  obtain ⟨n, e2, p⟩ := Pv.of p
  obtain ⟨v, rfl, rv⟩ := r.one e1
  refine ⟨v, n, rfl, ?_, p.now R (.int _)⟩
  cases d with
  | tup l => cases e2; obtain ⟨a, xs, rfl, s, rl⟩ := rv.tup_inv; exact .inr ⟨xs, s, rl.length⟩
  | rol l => cases e2; obtain ⟨a, xs, rfl, s, rl⟩ := rv.rol_inv; exact .inl ⟨xs, s.now, rl.length⟩
  | ref m =>
    obtain ⟨l, e3, e4⟩ := Option.map_eq_some_iff.mp (show (h[m]?).map _ = some n from e2)
    obtain ⟨a, xs, rfl, _, s, rl⟩ := R.cellAt rv e3
    exact .inl ⟨xs, .inl (.inl s), by rw [← e4]; exact rl.length⟩
  | str x =>
    rw [rv.str_inv]
    have e2 : (if x.length ≤ 100000 then some x.length else none) = some n := e2
    split at e2
    · cases e2; exact ⟨sz100 (by assumption), rfl⟩
    · cases e2
  | _ => cases e2
theorem cAbs : CallR X (.builtin "abs") (rN X.K X.mg opAbs) := CallR.imp call_abs fun xs H Q ⟨ι, h, ds, R, r, p⟩ => by
  obtain ⟨d, e1, p⟩ := Pv.of p
  obtain ⟨n, e2, p⟩ := Pv.of p
  obtain ⟨v, rfl, rv⟩ := r.one e1
  exact ⟨n, by rw [rv.asInt e2], p.now R (.int _)⟩
theorem cInt : CallR X (.type "int") (rN X.K X.mg opInt) := CallR.imp call_int1 fun xs H Q ⟨ι, h, ds, R, r, p⟩ => by
  obtain ⟨d, e1, p⟩ := Pv.of p
  obtain ⟨v, rfl, rv⟩ := r.one e1
  cases d with
  | int i => exact .inl ⟨i, by rw [rv.int_inv], p.now R (.int _)⟩
  | bl i => exact .inr ⟨i, by rw [rv.bl_inv], p.now R (.int _)⟩
  | _ => exact p.elim
theorem cStr : CallR X (.type "str") (rN X.K X.mg opStr) := CallR.imp call_str_int fun xs H Q ⟨ι, h, ds, R, r, p⟩ => by
  obtain ⟨d, e1, p⟩ := Pv.of p
  obtain ⟨n, e2, p⟩ := Pv.of p
  obtain ⟨c, p⟩ := Pv.if p
  obtain ⟨v, rfl, rv⟩ := r.one e1
  exact ⟨n, by rw [rv.asInt e2], c, p.now R (.str _)⟩
theorem cGcd : CallR X (.builtin "math.gcd") (rN X.K X.mg opGcd) := CallR.imp cr_gcd fun xs H Q ⟨ι, h, ds, R, r, p⟩ => by
  obtain ⟨d, e1, p⟩ := Pv.of p
  obtain ⟨i, e2, p⟩ := Pv.of p
  obtain ⟨j, e3, p⟩ := Pv.of p
  obtain ⟨v, u, rfl, rv, ru⟩ := r.two e1
  exact ⟨i, j, by rw [rv.asInt e2, ru.asInt e3], p.now R (.int _)⟩
theorem cMax (hc : X.calm = true) : CallR X (.builtin "max") (rN X.K X.mg opMax) := CallR.imp (call_max2 hc) fun xs H Q ⟨ι, h, ds, R, r, p⟩ => by
  obtain ⟨d, e1, p⟩ := Pv.of p
  obtain ⟨i, e2, p⟩ := Pv.of p
  obtain ⟨j, e3, p⟩ := Pv.of p
  obtain ⟨v, u, rfl, rv, ru⟩ := r.two e1
  exact ⟨i, j, by rw [rv.asInt e2, ru.asInt e3], p.now R (.int _)⟩
theorem cMin (hc : X.calm = true) : CallR X (.builtin "min") (rN X.K X.mg opMin) := CallR.imp (call_min2 hc) fun xs H Q ⟨ι, h, ds, R, r, p⟩ => by
  obtain ⟨d, e1, p⟩ := Pv.of p
  obtain ⟨i, e2, p⟩ := Pv.of p
  obtain ⟨j, e3, p⟩ := Pv.of p
  obtain ⟨v, u, rfl, rv, ru⟩ := r.two e1
  exact ⟨i, j, by rw [rv.asInt e2, ru.asInt e3], p.now R (.int _)⟩
theorem cDivmod : CallR X (.builtin "divmod") (rN X.K X.mg opDivmod) := CallR.imp call_divmodW fun xs H Q ⟨ι, h, ds, R, r, p⟩ => by
  obtain ⟨d, e1, p⟩ := Pv.of p
  obtain ⟨i, e2, p⟩ := Pv.of p
  obtain ⟨j, e3, p⟩ := Pv.of p
  obtain ⟨c, p⟩ := Pv.if p
  obtain ⟨v, u, rfl, rv, ru⟩ := r.two e1
  exact ⟨i, j, by rw [rv.asInt e2, ru.asInt e3], ⟨c.1, PyProof.noPylong_of_log2 c.2⟩, p.tup R (.cons (.int _) (.cons (.int _) .nil))⟩
theorem cTuple : CallR X (.type "tuple") (rN X.K X.mg opTuple) := CallR.imp call_tuple_of fun xs H Q ⟨ι, h, ds, R, r, p⟩ => by
  obtain ⟨d, e1, p⟩ := Pv.of p
  obtain ⟨v, rfl, rv⟩ := r.one e1
  cases d with
  | tup l => obtain ⟨a, xs, rfl, s, rl⟩ := rv.tup_inv; exact ⟨a, xs, rfl, .inr ⟨s, p.now R (.tup s rl)⟩⟩
  | rol l => obtain ⟨a, xs, rfl, s, rl⟩ := rv.rol_inv; exact ⟨a, xs, rfl, .inl ⟨s.now, Pv.tup p R rl⟩⟩
  | ref m =>
    obtain ⟨l, e2, p⟩ := Pv.of (show Pv X.K X.mg ι H Q ((h[m]?).bind fun l => some (.tup l, h)) from p)
    obtain ⟨a, xs, rfl, _, s, rl⟩ := R.cellAt rv e2
    exact ⟨a, xs, rfl, .inl ⟨.inl (.inl s), p.tup R rl⟩⟩
  | _ => exact p.elim
theorem cList : CallR X (.type "list") (rN X.K X.mg opList) := CallR.imp call_list_of fun xs H Q ⟨ι, h, ds, R, r, p⟩ => by
  obtain ⟨d, e1, p⟩ := Pv.of p
  obtain ⟨v, rfl, rv⟩ := r.one e1
  cases d with
  | tup l => obtain ⟨a, xs, rfl, s, rl⟩ := rv.tup_inv; exact ⟨a, xs, rfl, .inr s, Pv.cell p R rl⟩
  | rol l => obtain ⟨a, xs, rfl, s, rl⟩ := rv.rol_inv; exact ⟨a, xs, rfl, .inl s.now, Pv.cell p R rl⟩
  | ref m =>
    obtain ⟨l, e2, p⟩ := Pv.of (show Pv X.K X.mg ι H Q ((h[m]?).bind fun l => some (.ref h.length, h ++ [l])) from p)
    obtain ⟨a, xs, rfl, _, s, rl⟩ := R.cellAt rv e2
    exact ⟨a, xs, rfl, .inl (.inl (.inl s)), p.cell R rl⟩
  | _ => exact p.elim
theorem cSum (hc : X.calm = true) : CallR X (.builtin "sum") (rN X.K X.mg opSum) := CallR.imp (cr_sum hc) fun xs H Q ⟨ι, h, ds, R, r, p⟩ => by
  obtain ⟨d, e1, p⟩ := Pv.of p
  obtain ⟨l, e2, p⟩ := Pv.of p
  obtain ⟨ns, e3, p⟩ := Pv.of p
  obtain ⟨v, rfl, rv⟩ := r.one e1
  obtain ⟨a, xs, rfl, s, rl⟩ := R.cellOf e2 rv
  exact ⟨a, ns, rfl, by rw [rl.ints e3] at s; exact .inl (.inl s), p.now R (.int _)⟩
theorem cAll (hc : X.calm = true) : CallR X (.builtin "all") (rN X.K X.mg opAll) := CallR.imp (cr_all hc) fun xs H Q ⟨ι, h, ds, R, r, p⟩ => by
  obtain ⟨d, e1, p⟩ := Pv.of p
  obtain ⟨l, e2, p⟩ := Pv.of p
  obtain ⟨ns, e3, p⟩ := Pv.of p
  obtain ⟨v, rfl, rv⟩ := r.one e1
  obtain ⟨a, xs, rfl, s, rl⟩ := R.cellOf e2 rv
  exact ⟨a, ns, rfl, by rw [rl.bools e3] at s; exact .inl (.inl s), p.now R (.bl _)⟩
theorem cAny (hc : X.calm = true) : CallR X (.builtin "any") (rN X.K X.mg opAny) := CallR.imp (cr_any hc) fun xs H Q ⟨ι, h, ds, R, r, p⟩ => by
  obtain ⟨d, e1, p⟩ := Pv.of p
  obtain ⟨l, e2, p⟩ := Pv.of p
  obtain ⟨ns, e3, p⟩ := Pv.of p
  obtain ⟨v, rfl, rv⟩ := r.one e1
  obtain ⟨a, xs, rfl, s, rl⟩ := R.cellOf e2 rv
  exact ⟨a, ns, rfl, by rw [rl.bools e3] at s; exact .inl (.inl s), p.now R (.bl _)⟩
theorem tyX {K : PySem.W.Frag} {mg : Str → Option Value} {ι : List Addr} {h : HS} {H : Hp} {d : D} {t : String} {v : V} (R : Rep K mg ι h H) (e : tyName d = some t) (r : Re K mg ι H d v) : TyX K H v (.type t) := by
  cases d with
  | non => cases e; rw [r.non_inv]; exact .base .non
  | bl b => cases e; rw [r.bl_inv]; exact .base (.bl _)
  | int b => cases e; rw [r.int_inv]; exact .base (.int _)
  | str b => cases e; rw [r.str_inv]; exact .base (.str _)
  | tup l =>
    cases e
    obtain ⟨a, xs, rfl, s, rl⟩ := r.tup_inv
    rcases s with (s | ⟨o, s⟩) | ⟨o, its, n, hk, hc, _⟩
    · exact .base (.tup s)
    · exact .fTuple s
    · exact .kTuple hk hc
  | ref n =>
    cases e
    obtain ⟨a, rfl, ha⟩ := r.ref_inv
    obtain ⟨xs, hx⟩ := R.isList (List.mem_of_getElem? ha)
    exact .base (.lst hx)
  | emp => cases e; obtain ⟨a, rfl, ha⟩ := r.emp_inv; exact .base (.dK ha)
  | _ => cases e
theorem kit_sub {K : PySem.W.Frag} {d : D} {t c : String} {b : Bool} (et : tyName d = some t) (e : isSub t c = some b) : PySem.W.kitOne K (.type t) (.type c) = some b := by
  have ht : t = "NoneType" ∨ t = "bool" ∨ t = "int" ∨ t = "str" ∨ t = "tuple" ∨ t = "list" ∨ t = "dict" := by
    cases d <;> simp [tyName] at et <;> simp [← et]
  unfold isSub at e
  split at e
  · subst c
    rcases ht with rfl | rfl | rfl | rfl | rfl | rfl | rfl <;> cases e <;> rfl
  split at e
  · subst c
    rcases ht with rfl | rfl | rfl | rfl | rfl | rfl | rfl <;> cases e <;> rfl
  split at e
  · subst c
    rcases ht with rfl | rfl | rfl | rfl | rfl | rfl | rfl <;> cases e <;> rfl
  split at e
  · subst c
    rcases ht with rfl | rfl | rfl | rfl | rfl | rfl | rfl <;> cases e <;> rfl
  split at e
  · subst c
    rcases ht with rfl | rfl | rfl | rfl | rfl | rfl | rfl <;> cases e <;> rfl
  · cases e
theorem cIsi : CallR X (.builtin "isinstance") (rN X.K X.mg opIsi) := CallR.imp call_isi fun xs H Q ⟨ι, h, ds, R, r, p⟩ => by
  obtain ⟨d, e1, p⟩ := Pv.of p
  obtain ⟨t, e2, p⟩ := Pv.of p
  obtain ⟨c, e3, p⟩ := Pv.of p
  obtain ⟨b, e4, p⟩ := Pv.of p
  obtain ⟨v, u, rfl, rv, ru⟩ := r.two e1
  have eu : u = .ty c := by
    cases z : d.2 with
    | ty n => rw [z] at e3 ru; cases e3; exact ru.ty_inv
    | _ => rw [z] at e3; cases e3
  rw [eu]
  exact ⟨v, _, _, _, b, rfl, .ty c, tyX R e2 rv, kit_sub e2 e4, p.now R (.bl _)⟩
theorem cRepr (sb : SysB X.base) (gd : X.A.guards = some []) {k : Nat} (room : Room k X.A) : CallR X (.builtin "repr") (rN X.K X.mg opRepr) := fun pins s σ H xs us Q I rx ⟨ι, h, ds, R, r, p⟩ => by
  obtain ⟨d, e1, p⟩ := Pv.of p
  obtain ⟨v, rfl, rv⟩ := r.one e1
  obtain ⟨u, rfl, ru⟩ := Vals.one rx
  obtain ⟨q, e2, p⟩ := Pv.of p
  obtain ⟨⟨c1', c2, c3'⟩, p⟩ := Pv.if p
  have c1 := (okP_ok q c1').1
  have c3 := okP_len c1' c3'
  obtain ⟨as, rr, hn⟩ := reads_of I R sb _ d q v u e2 rv ru
  have z : Q (.str q.shown) H := p.now R (.str _)
  have hu := room.units
  cases rr with
  | none => exact PySem.P.repr_of_none ⟨.str _, H, I.tok _, ⟨_, rfl⟩, by simpa only [PyData.shown] using z⟩
  | bool b => exact PySem.P.repr_of_bool ⟨.str _, H, I.tok _, ⟨_, rfl⟩, by simpa only [PyData.shown] using z⟩
  | int i t => exact PySem.P.repr_of_int (by simpa only [PyData.showable, decide_eq_true_eq] using c1) ⟨.str _, H, I.tok _, ⟨_, rfl⟩, by simpa only [PyData.shown] using z⟩
  | str x t => exact PySem.P.repr_of_str ⟨.str _, H, I.tok _, ⟨_, rfl⟩, by simpa only [PyData.shown] using z⟩ (by simpa only [PyData.shown] using c3)
  | list a1 a2 a3 a4 => exact repr_of_reads' (Reads.list a1 a2 a3 a4) c1 (fun _ => hn) gd (by omega) (fun _ _ e => e) (fun h' u tk k => ⟨.str _, H, I.kept (t' := tk) k, ⟨u, rfl⟩, z⟩) c3
  | tuple a1 a2 a3 a4 => exact repr_of_reads' (Reads.tuple a1 a2 a3 a4) c1 (fun _ => hn) gd (by omega) (fun _ _ e => e) (fun h' u tk k => ⟨.str _, H, I.kept (t' := tk) k, ⟨u, rfl⟩, z⟩) c3
  | dict a1 a2 a3 a4 a5 => exact repr_of_reads' (Reads.dict a1 a2 a3 a4 a5) c1 (fun _ => hn) gd (by omega) (fun _ _ e => e) (fun h' u tk k => ⟨.str _, H, I.kept (t' := tk) k, ⟨u, rfl⟩, z⟩) c3
/-- xs.append(e) -/
theorem de_append {W : WX} {o e : Expr} {mo me : DE} {apos cpos : Pos} (ho : PE X o (tm X.K X.mg W mo)) (ha : PE X e (tm X.K X.mg W me))
    (hbase : attributeBase o "append" X.env (eval o X.env) = eval o X.env := by rfl)
    (hfew : ((backTo cpos (starEach (e :: []) X.env)).all (fun x => !x.1) && (backToKw cpos (keywordEach [] X.env)).all (fun x => x.1.isSome)
      && decide ((e :: []).length + ([] : List Keyword).length + (if ([] : List Keyword).isEmpty then 0 else 1) < 30)) = true := by rfl)
    (hline : (apos.endLine == cpos.line) = true := by rfl) (hs : starEach (e :: []) X.env = (false, eval e X.env) :: starEach [] X.env := by rfl) (hplain : (backTo cpos (starEach [] X.env)).any (·.1) = false := by rfl) :
    PE X (.Call (.Attribute o "append" apos) [e] [] cpos) (tm X.K X.mg W (dApp mo me)) :=
  (pe_bm PySem.F.plainAttrs_list PySem.F.slot_list_append PySem.F.type_list_append mt_append ho (da_cons (W := W) ha da_nil hs) hbase hfew hline hs hplain).weak fun σ H Q ⟨ι, env, h, R, S, p⟩ => by
    refine tm_in R S (Post.step p fun d1 h1 ι1 H1 v1 g1 R1 x1 p1 => ?_)
    obtain ⟨n, e1, p1⟩ := ofOpt_post p1
    rw [asRef_eq e1] at x1
    obtain ⟨a, rfl, ha⟩ := x1.ref_inv
    obtain ⟨ys, hy⟩ := R1.isList (List.mem_of_getElem? ha)
    refine ⟨.inl ⟨rfl, _, .inl (.inl hy)⟩, ?_⟩
    refine tm_in R1 (S.mono R g1) ?_
    have p1 : Post X.K X.mg (Re X.K X.mg) W σ ι1 H1 Q ((me env h1).bind fun y h2 => ofOpt (h2[n]?) fun l => if l.length < 100000 then .ok .non (h2.set n (l ++ [y])) else .stuck) := p1
    unfold dCons
    cases z : me env h1 with
    | stuck => rw [z] at p1; exact p1
    | exc er h2 => rw [z] at p1; exact p1
    | ok y h2 =>
      rw [z] at p1
      have p1 : Post X.K X.mg (Re X.K X.mg) W σ ι1 H1 Q (ofOpt (h2[n]?) fun l => if l.length < 100000 then .ok .non (h2.set n (l ++ [y])) else .stuck) := p1
      obtain ⟨l, e2, p2⟩ := ofOpt_post p1
      split at p2
      · rename_i c
        intro ι2 H2 vs g2 R2 x2
        cases x2 with
        | cons rv rn =>
          cases rn
          obtain ⟨a2, xs, e3, ha2, s, rl⟩ := R2.cellAt (x1.mono R1 g2) e2
          cases e3
          exact ⟨a, xs, _, rfl, rfl, s, by rw [← rl.length]; exact Nat.lt_of_lt_of_le c (by decide), p2 ι2 _ _ (g2.trans (Gr.setCell R2 ha2)) (R2.setCell ha2 (rl.append (.cons rv .nil))) .non⟩
      · exact p2.elim
/-- {} -/
theorem de_emp {W : WX} {pos : Pos} : PE X (.Dict [] [] pos) (tm X.K X.mg W (dC .emp)) := pe_dnewK.weak fun σ H Q ⟨ι, e, h, R, S, p⟩ => fun q hq => p ι _ _ (Gr.upd R hq) (R.upd hq) (.emp upd_same)
/-- math.gcd(a, b) -/
theorem de_gcd {W : WX} {a : Expr} {es : List Expr} {ms : DA} {x : Str} {p pos : Pos} (hm : X.mg x = some (.builtin "math.gcd")) (ha : PA X (a :: es) (tmA X.K X.mg W ms)) (hg : Gl X x := by rfl) (hdb : (x == ("__debug__" : Str)) = false := by decide)
    (he : starEach (a :: es) X.env = (false, eval a X.env) :: starEach es X.env := by rfl) (hpl : (backTo pos (starEach es X.env)).any (·.1) = false := by rfl) : PE X (.Call (.Name x p) (a :: es) [] pos) (tm X.K X.mg W (dCB opGcd ms)) :=
  (pe_callBfun cGcd hg hm ha hdb he hpl).weak fun _ _ _ => args_in
end
end PI

namespace PI
open PySem L2 PySem.Spec
/-! ### errors of own classes -/
/-- __init__(self, f): self.f = f -/
def spIni (K : PySem.W.Frag) (f : Str) : Sp := fun vs H Q _ => ∃ (a C : Addr) (v : V), vs = [.ref a, v] ∧ OexC K C ∧ PySem.W.findIn K (.ref C) f = some none ∧ H a = some (exo a C none) ∧
  ∀ dx, H dx = none → dx ≠ a → Q .non (upd (upd H dx (exd dx [(f, v)])) a (exo a C (some dx)))
/-- what is known of an own class with one field -/
structure ErC (P : Program) (w : World) (K : PySem.W.Frag) (mg : Str → Option Value) (base : Heap) (x f : Str) (C : Addr) : Prop where
  g : mg x = some (.ref C)
  T : OexC K C
  xf : XfC K C
  no : PySem.W.findIn K (.ref C) f = some none
  te : PySem.W.exmOne K (.ref C) (.ref C) = some true
  ini : ∃ (fI : Addr) (fd : FuncData) (ps : List Str), PySem.W.findIn K (.ref C) "__init__" = some (some (.ref fI)) ∧ PySem.W.typeIn K (.ref fI) = some (.type "function") ∧ Binds K fd ps [] ∧ FnOk P w K mg base CX0 1 fI fd ps (spIni K f)
def sRaise (x f : Str) (m : DE) : DS := fun e h => (m e h).toS e fun d h1 => .exc ⟨x, [(f, d)]⟩ e h1
theorem ini_ok {P : Program} {w : World} {K : PySem.W.Frag} {mg : Str → Option Value} {base : Heap} {qual f : Str} {st : Stmt} {fI : Addr} {fd : FuncData} {ps : List Str} (F : Fun K "__init__" qual st fI fd) (S : FnScope ps ps (defScope st)) (hl : ps.length = 2)
    (body : ∀ (X : Cx), X.N = ps → X.env.scope = defScope st → PSs X (defBody st) (tOst X.K f (tVar 0) (tVar 1))) : FnOk P w K mg base CX0 1 fI fd ps (spIni K f) := by
  refine F.ok S (fun vs H Q E q => ?_) fun cdv A outer s H vs Q E hr q => ⟨_, body _ rfl rfl, ?_⟩
  · obtain ⟨a, C, v, rfl, _⟩ := q
    exact hl.symm
  · obtain ⟨a, C, v, rfl, T, no, ha, k⟩ := q
    have e0 : (L2.start ps [V.ref a, v])[0]? = some (some (.ref a)) := by simp [L2.start]
    have e1 : (L2.start ps [V.ref a, v])[1]? = some (some v) := by simp [L2.start]
    exact ⟨v, e1, .ref a, e0, a, C, rfl, T, no, .inl ⟨ha, fun dx h1 h2 => k dx h1 h2⟩⟩
section
variable {X : Cx} {W : WX} {e : Expr} {me : DE} {x f : Str} {C : Addr} {k : Nat} {p pos pos2 : Pos}
theorem ds_raise (hc : X.calm = true) (room : Room 2 X.A) (tk : Takes X W) (E : ErC X.prog X.w X.K X.mg X.base x f C) (he : PE X e (tm X.K X.mg W me)) (hg : Gl X x := by rfl) (hdb : (x == ("__debug__" : Str)) = false := by decide)
    (hs : starEach (e :: []) X.env = (false, eval e X.env) :: starEach [] X.env := by rfl) (hpl : (backTo pos (starEach [] X.env)).any (·.1) = false := by rfl) : PS X (.Raise (some (.Call (.Name x p) [e] [] pos)) none pos2) (tms X.K X.mg W (sRaise x f me)) := by
  obtain ⟨fI, fd, ps, iC, tI, bI, FI⟩ := E.ini
  refine (ps_raise hc tk (pmk_oex (dvs := []) (ds := []) E.T iC tI FI room bI .nil (fun _ _ _ _ _ _ _ z => z.elim) hg E.g (da_cons he da_nil hs) hdb hs hpl)).weak fun D σ H ⟨ι, env, h, R, S, q⟩ => ?_
  refine tm_in R S ?_
  have q : PostS X.K X.mg W ι H D ((me env h).toS env fun d h1 => .exc ⟨x, [(f, d)]⟩ env h1) := q
  unfold dCons
  cases z : me env h with
  | stuck => rw [z] at q; exact q
  | exc er h2 => rw [z] at q; exact fun ι2 H2 c dd g R2 y => q ι2 H2 σ c dd g R2 (S.mono R g) y
  | ok d h1 =>
    rw [z] at q
    intro ι1 H1 vs g1 R1 x1
    cases x1 with
    | cons rv rn =>
      cases rn
      rename_i v
      refine ⟨by simp, fun a ha => ?_⟩
      refine ⟨a, C, v, rfl, E.T, E.no, upd_same, fun dx hd hne => ⟨rfl, dx, [(f, v)], upd_same, ?_, ?_, ?_⟩⟩
      · rw [upd_ne hne]; exact upd_same
      · rw [upd_ne hne] at hd; exact hd
      · have hd1 : H1 dx = none := by rw [upd_ne hne] at hd; exact hd
        have eH : upd (del (upd (upd (upd H1 a (exo a C none)) dx (exd dx [(f, v)])) a (exo a C (some dx))) a) dx (.xd [(f, v)]) = upd H1 dx (.xd [(f, v)]) := by
          funext b
          by_cases c1 : b = dx
          · rw [c1, upd_same, upd_same]
          · rw [upd_ne c1, upd_ne c1]
            by_cases c2 : b = a
            · rw [c2, del_same, ha]
            · rw [del_ne c2, upd_ne c2, upd_ne c1, upd_ne c2]
        rw [eH]
        have G := Gr.upd (o := .xd [(f, v)]) R1 hd1
        refine q ι1 _ σ _ _ (g1.trans G) (R1.upd hd1) (S.mono R (g1.trans G)) ⟨⟨C, E.g, rfl⟩, ?_⟩
        refine ⟨dx, [(f, v)], rfl, upd_same, fun n y hy => ?_⟩
        by_cases c : n == f
        · have c' : n = f := by simpa using c
          subst c'
          simp [List.lookup] at hy
          subst hy
          exact ⟨v, by simp [List.lookup], rv.mono R1 G⟩
        · have c' : (n == f) = false := by simpa using c
          simp [List.lookup, c'] at hy
end
/-! try: .. except X as n: .. -/
def unset (i : Nat) : SR → SR
  | .next e h => .next (e.set i none) h
  | .brk e h => .brk (e.set i none) h
  | .cont e h => .cont (e.set i none) h
  | .ret d h => .ret d h
  | _ => .stuck
def sTryAs (mb : DS) (x : Str) (ys : List Str) (i : Nat) (su : Er → DS) : DS := fun e h => match mb e h with
  | .exc er e' h' => if er.cls = x then (if i < e'.length then unset i (su er (e'.set i none) h') else .stuck) else if er.cls ∈ ys then .exc er e' h' else .stuck
  | r => r
section
variable {K : PySem.W.Frag} {mg : Str → Option Value} {ι : List Addr} {h : HS} {H : Hp} {σ : L2.St} {e : DEnv}
theorem RelS.unset (S : RelS K mg ι H e σ) (i : Nat) (v : Option V) : RelS K mg ι H (e.set i none) (σ.set i v) := by
  refine ⟨by simp [S.len], fun j d q => ?_⟩
  by_cases c : j = i
  · subst c
    rw [List.getElem?_set] at q
    split at q
    · split at q
      · cases q
      · cases q
    · rename_i c; exact absurd rfl c
  · rw [List.getElem?_set_ne (fun z => c z.symm)] at q
    obtain ⟨u, a, b⟩ := S.at_ j d q
    exact ⟨u, by rw [List.getElem?_set_ne (fun z => c z.symm)]; exact a, b⟩
end
section
variable {X : Cx} {W : WX} {x n : Str} {C : Addr} {i : Nat} {body suite : List Stmt} {b₀ : Stmt} {np pos pos' : Pos} {mb : DS} {su : Er → DS} {ys : List Str} {ts : Addr → Value → Option Addr → TS}
/-- the suite's reading does what su says -/
def SuiteOk (X : Cx) (C : Addr) (i : Nat) (su : Er → DS) (ts : Addr → Value → Option Addr → TS) : Prop :=
  ∀ (ι : List Addr) (e : DEnv) (h : HS) (H : Hp) (σ : L2.St) (er : Er) (a : Addr) (dd : Option Addr) (D : Ends), Rep X.K X.mg ι h H → RelS X.K X.mg ι H e σ → ExR X.K X.mg ι H er (.ref C) dd → i < σ.length →
    PostS X.K X.mg W0 ι H D (su er (e.set i none) h) → ts a (.ref C) dd D (σ.set i (some (.ref a))) H
theorem ds_try_as (C0 : CtxS X W k) (hN : X.N.Nodup) (hi : X.N[i]? = some n) (hln : X.env.kindOf n = some .local) (hc : Names X x (.ref C)) (hg : X.mg x = some (.ref C)) (te : PySem.W.exmOne X.K (.ref C) (.ref C) = some true)
    (tf : ∀ y ∈ ys, ∃ C', X.mg y = some (.ref C') ∧ PySem.W.exmOne X.K (.ref C') (.ref C) = some false)
    (hb : ∀ (W : WX) (pn : List (Addr × Obj)) (xe : Value → Shared → Prop), Takes (X.tr pn xe) W → PassesOwn (model X.prog X.w) X.A X.env xe → PSs (X.tr pn xe) body (tms X.K X.mg W mb))
    (hsu : ∀ (a : Addr) (oe : Obj) (cls : Value) (d : Option Addr) (pn : List (Addr × Obj)), Zc cls d oe → (∃ vs, oe.data = .fields vs) → PSs (X.suite a ((a, oe) :: pn)) (b₀ :: suite) (ts a cls d)) (hok : SuiteOk X C i su ts) :
    PS X (.Try body [.ExceptHandler (some (.Name x np)) (some n) (b₀ :: suite) pos'] [] [] pos) (tms X.K X.mg W (sTryAs mb x ys i su)) :=
  (ps_try_as C0.stk C0.frm hN hi hln hc C0.tk hb hsu).weak fun D σ H ⟨ι, e, h, R, S, p⟩ => by
    have hlen : X.N.length = X.N.length := rfl
    refine tms_in R S ?_
    have p : PostS X.K X.mg W ι H D (match mb e h with
      | .exc er e' h' => if er.cls = x then (if i < e'.length then unset i (su er (e'.set i none) h') else .stuck) else if er.cls ∈ ys then .exc er e' h' else .stuck
      | r => r) := p
    cases z : mb e h with
    | next _ _ => rw [z] at p; exact p
    | ret _ _ => rw [z] at p; exact p
    | brk _ _ => rw [z] at p; exact p
    | cont _ _ => rw [z] at p; exact p
    | stuck => rw [z] at p; exact p
    | exc er e' h' =>
      rw [z] at p
      intro ι1 H1 σ1 c dd g1 R1 S1 x1
      obtain ⟨C2, hC2, rfl⟩ := x1.cl
      have p : PostS X.K X.mg W ι H D (if er.cls = x then (if i < e'.length then unset i (su er (e'.set i none) h') else .stuck) else if er.cls ∈ ys then .exc er e' h' else .stuck) := p
      split at p
      · rename_i hx
        have e2 : C2 = C := by
          rw [hx, hg] at hC2
          cases hC2
          rfl
        subst e2
        refine ⟨true, te, fun _ a ha => ?_, fun z => by cases z⟩
        split at p
        · rename_i hi
          have hi : i < σ1.length := by rw [← S1.len]; exact hi
          refine hok ι1 e' h' H1 σ1 er a dd _ R1 S1 x1 hi ?_
          have p2 := PostS.shift g1 p
          cases z2 : su er (e'.set i none) h' with
          | next e3 h3 => rw [z2] at p2; exact fun ι2 H2 σ2 g2 R2 S2 => p2 ι2 H2 _ g2 R2 (S2.unset i none)
          | brk e3 h3 => rw [z2] at p2; exact fun ι2 H2 σ2 g2 R2 S2 => p2 ι2 H2 _ g2 R2 (S2.unset i none)
          | cont e3 h3 => rw [z2] at p2; exact fun ι2 H2 σ2 g2 R2 S2 => p2 ι2 H2 _ g2 R2 (S2.unset i none)
          | ret d h3 => rw [z2] at p2; exact p2
          | exc er e3 h3 => rw [z2] at p2; exact p2.elim
          | stuck => rw [z2] at p2; exact p2
        · exact p.elim
      · rename_i hx
        split at p
        · rename_i hy
          obtain ⟨C', hC', hf⟩ := tf _ hy
          rw [hC2] at hC'
          cases hC'
          exact ⟨false, hf, (fun z => by cases z), fun _ => p ι1 H1 σ1 _ _ g1 R1 S1 x1⟩
        · exact p.elim
/-! expressions of a suite -/
theorem ExR.mono {K : PySem.W.Frag} {mg : Str → Option Value} {ι ι' : List Addr} {h : HS} {H H' : Hp} {er : Er} {c : Value} {dd : Option Addr} (R : Rep K mg ι h H) (G : Gr ι H ι' H') (x : ExR K mg ι H er c dd) : ExR K mg ι' H' er c dd := by
  refine ⟨x.cl, ?_⟩
  have y := x.fs
  cases z : er.args with
  | nil => rw [z] at y; exact y
  | cons a l =>
    rw [z] at y
    obtain ⟨d, fs, e1, e2, e3⟩ := y
    refine ⟨d, fs, e1, G.stay _ _ (R.notCell e2 fun _ z => nomatch z) e2, fun n u q => ?_⟩
    obtain ⟨v, a1, a2⟩ := e3 n u q
    exact ⟨v, a1, a2.mono R G⟩
def SufG {α β : Type} (X : Cx) (C : Addr) (i : Nat) (ρ : List Addr → Hp → α → β → Prop) (te : Addr → Value → Option Addr → L2.St → Hp → (β → Hp → Prop) → Prop) (m : Er → DEnv → HS → Res α) : Prop :=
  ∀ (ι : List Addr) (e : DEnv) (h : HS) (H : Hp) (σ : L2.St) (er : Er) (a : Addr) (dd : Option Addr) (Q : β → Hp → Prop), Rep X.K X.mg ι h H → RelS X.K X.mg ι H e σ → σ[i]? = some (some (.ref a)) → ExR X.K X.mg ι H er (.ref C) dd →
    Post X.K X.mg ρ W0 σ ι H Q (m er e h) → te a (.ref C) dd σ H Q
def dFld (f : Str) : Er → DE := fun er _ h => match er.args.lookup f with
  | some d => .ok d h
  | none => .stuck
theorem suf_plain {α β : Type} {ρ : List Addr → Hp → α → β → Prop} {m : DEnv → HS → Res α} : SufG X C i ρ (fun _ _ _ => tmG X.K X.mg ρ W0 m) (fun _ => m) := fun ι e h H σ er a dd Q R S _ _ p => tm_in R S p
theorem suf_fld {f : Str} : SufG X C i (Re X.K X.mg) (fun a cls d => tXf a cls d C f (tVar i)) (dFld f) := fun ι e h H σ er a dd Q R S hi x p => by
  refine ⟨.ref a, hi, rfl, rfl, ?_⟩
  have y := x.fs
  cases z : er.args with
  | nil =>
    have p : Post X.K X.mg (Re X.K X.mg) W0 σ ι H Q (match er.args.lookup f with
      | some d => .ok d h
      | none => .stuck) := p
    rw [z] at p
    exact p.elim
  | cons b l =>
    rw [z] at y
    obtain ⟨d, fs, e1, e2, e3⟩ := y
    have p : Post X.K X.mg (Re X.K X.mg) W0 σ ι H Q (match er.args.lookup f with
      | some d => .ok d h
      | none => .stuck) := p
    rw [z] at p
    cases q : (b :: l).lookup f with
    | none => rw [q] at p; exact p.elim
    | some u =>
      rw [q] at p
      obtain ⟨v, a1, a2⟩ := e3 f u q
      exact ⟨d, fs, v, e1, e2, a1, p.now R a2⟩
theorem suf_nil : SufG X C i (ReL X.K X.mg) (fun _ _ _ => tNil) (fun _ => dNil) := fun ι e h H σ er a dd Q R S _ _ p => p.now R .nil
theorem suf_cons {te : Addr → Value → Option Addr → TE} {ta : Addr → Value → Option Addr → TA} {m : Er → DE} {ms : Er → DA} (h1 : SufG X C i (Re X.K X.mg) te m) (h2 : SufG X C i (ReL X.K X.mg) ta ms) :
    SufG X C i (ReL X.K X.mg) (fun a c d => tCons (te a c d) (ta a c d)) (fun er => dCons (m er) (ms er)) := fun ι e h H σ er a dd Q R S hi x p =>
  h1 ι e h H σ er a dd _ R S hi x (Post.step p fun d1 h1 ι1 H1 v1 g1 R1 x1 p1 => h2 ι1 e h1 H1 σ er a dd _ R1 (S.mono R g1) hi (x.mono R g1) (Post.step p1 fun d2 h2 ι2 H2 v2 g2 R2 x2 p2 => p2.now R2 (.cons (x1.mono R1 g2) x2)))
theorem suf_tup {ta : Addr → Value → Option Addr → TA} {ms : Er → DA} (h : SufG X C i (ReL X.K X.mg) ta ms) : SufG X C i (Re X.K X.mg) (fun a c d => tTup (ta a c d)) (fun er => dTup (ms er)) := fun ι e h' H σ er a dd Q R S hi x p =>
  h ι e h' H σ er a dd _ R S hi x (Post.step p fun d1 h1 ι1 H1 v1 g1 R1 x1 p1 => by
    unfold mkTup at p1
    split at p1
    · rename_i hz
      rw [x1.length] at hz
      exact ⟨sz100 hz, fun q hq => p1 ι1 _ _ (Gr.upd R1 hq) (R1.upd hq) (.tup (.inl (.inl upd_same)) (x1.mono R1 (Gr.upd R1 hq)))⟩
    · exact p1.elim)
theorem suf_cb {g : OpN} {ta : Addr → Value → Option Addr → TA} {ms : Er → DA} (h : SufG X C i (ReL X.K X.mg) ta ms) : SufG X C i (Re X.K X.mg) (fun a c d => tCB (rN X.K X.mg g) (ta a c d)) (fun er => dCB g (ms er)) := fun ι e h' H σ er a dd Q R S hi x p =>
  h ι e h' H σ er a dd _ R S hi x (Post.step p fun d1 h1 ι1 H1 v1 g1 R1 x1 p1 => ⟨ι1, h1, d1, R1, x1, p1.lift⟩)
/-- return e, as a suite -/
theorem suite_ret {te : Addr → Value → Option Addr → TE} {m : Er → DE} (h : SufG X C i (Re X.K X.mg) te m) : SuiteOk X C i (fun er => sRet (m er)) (fun a c d => tRet (te a c d)) := fun ι e h0 H σ er a dd D R S x hi p => by
  have S2 := S.unset i (some (.ref a))
  refine h ι _ h0 H _ er a dd _ R S2 ?_ x (PostS.step R S2 p fun d1 h1 ι1 H1 v1 g1 R1 x1 p1 => p1 ι1 H1 v1 (Gr.refl R1) R1 x1)
  rw [List.getElem?_set_self hi]
end
end PI

namespace PI
open PySem L2 PySem.Spec
/-- a def of the text and what it does to data -/
structure Def (P : Program) (w : World) (K : PySem.W.Frag) (mg : Str → Option Value) (base : Heap) (x : Str) (st : Stmt) (lv n : Nat) (ps : List Str) (F : DF) where
  f : Addr
  fd : FuncData
  g : mg x = some (.ref f)
  fn : Fun K x x st f fd
  bd : Binds K fd ps []
  go : FnG P w K mg base lv f fd ps (spD K mg n F)
theorem Def.kp {P : Program} {w : World} {K : PySem.W.Frag} {mg : Str → Option Value} {base : Heap} {x : Str} {st : Stmt} {lv n : Nat} {ps : List Str} {F : DF} (D : Def P w K mg base x st lv n ps F) : PySem.W.keepIn K (.ref D.f) = true := D.fn.kp
theorem Def.kw {P : Program} {w : World} {K : PySem.W.Frag} {mg : Str → Option Value} {base : Heap} {x : Str} {st : Stmt} {lv n : Nat} {ps ks : List Str} {pi : List Nat} {F : DF} (D : Def P w K mg base x st lv n ps F)
    (h : ∀ (kV doc pm : Value) (an : Option Addr) (cdv ct : Value) (ws : List Value), ws.length = pi.length → bindArgs (PySem.W.fnOf x x (defArgs st) (defBody st) (defScope st) .none kV doc pm an cdv ct) ⟨[], ks.zip ws⟩ = pure (ps.zip (pick pi ws))) (s : Shared) (ws : List Value) (hl : ws.length = pi.length) : BindsTo s D.fd ⟨[], ks.zip ws⟩ (ps.zip (pick pi ws)) := by
  obtain ⟨oc, od, kV, doc, pm, an, cdv, ct, osl, e, lk, hcd⟩ := D.fn.ex
  rw [e]
  exact .of_eq (h kV doc pm an cdv ct ws hl)
/-- another function of data that says the same where it says something -/
def Def.re {P : Program} {w : World} {K : PySem.W.Frag} {mg : Str → Option Value} {base : Heap} {x : Str} {st : Stmt} {lv n : Nat} {ps : List Str} {F : DF} (D : Def P w K mg base x st lv n ps F) (G : DF) (h : ∀ ds h0, ds.length = n → G ds h0 ≠ .stuck → F ds h0 = G ds h0) : Def P w K mg base x st lv n ps G :=
  ⟨D.f, D.fd, D.g, D.fn, D.bd, D.go.fn h⟩
/-- the built-in names are the built-in ones -/
structure Blt (mg : Str → Option Value) : Prop where
  b_len : mg "len" = none
  b_abs : mg "abs" = none
  b_int : mg "int" = none
  b_bool : mg "bool" = none
  b_str : mg "str" = none
  b_tuple : mg "tuple" = none
  b_list : mg "list" = none
  b_isinstance : mg "isinstance" = none
  b_repr : mg "repr" = none
  b_sum : mg "sum" = none
  b_all : mg "all" = none
  b_any : mg "any" = none
  b_max : mg "max" = none
  b_min : mg "min" = none
  b_divmod : mg "divmod" = none
  b_range : mg "range" = none
  b_zip : mg "zip" = none
theorem Ctx.blk {X : Cx} {W : WX} {k : Nat} (C : Ctx X W k) (s : Shared) (H : Hp) (scope : Scope) (cenv : PySem.Env) (fp : List Addr) : Ctx (X.blk s H scope cenv fp) W0 k := ⟨C.gd, C.room, takes0, C.sb⟩
theorem CtxS.blk {X : Cx} {W : WX} {k : Nat} (C : CtxS X W k) (s : Shared) (H : Hp) (scope : Scope) (cenv : PySem.Env) (fp : List Addr) : Ctx (X.blk s H scope cenv fp) W0 k := ⟨C.gd, C.room, takes0, C.sb⟩
theorem CtxS.tr {X : Cx} {W W' : WX} {k : Nat} (C : CtxS X W k) {pn : List (Addr × Obj)} {xe : Value → Shared → Prop} (tk : Takes (X.tr pn xe) W') (po : PassesOwn (model X.prog X.w) X.A X.env xe) : CtxS (X.tr pn xe) W' k := ⟨⟨C.gd, C.room, tk, C.sb⟩, po, C.calm, C.stk, C.frm⟩
theorem Ctx.toCtx {X : Cx} {W : WX} {k : Nat} (C : Ctx X W k) : Ctx X W k := C
theorem ds_one_raw {X : Cx} {st : Stmt} {t : TS} (p : PS X st t) : PSs X [st] t := pss_one p
end PI

namespace PI
open PySem L2 PySem.Spec PyProof.Rows
/-! ### the law's own call -/
theorem exm_by {K : PySem.W.Frag} {C D : Addr} {b : Bool} (h1 : PySem.W.subIn K (.ref D) (.type "BaseException") = some true) (h2 : PySem.W.isClsIn K D = true) (h3 : PySem.W.typeIn K (.ref D) = some (.type "type")) (h4 : PySem.W.subIn K (.ref C) (.ref D) = some b) : PySem.W.exmOne K (.ref C) (.ref D) = some b := by
  have h2' : (PySem.W.clsIn K D).isSome = true := h2
  unfold PySem.W.exmOne PySem.W.kitCls
  simp [h1, h2', h3, h4]
section
variable {P : Program} {w : World} {K : PySem.W.Frag} {mg mb : Str → Option Value}
/-- what the law's run is to leave -/
def LawEnd (s₁ : Shared) (r : Result) (s' : Shared) : Prop := r = .ok (.ret (.bool true)) ∧ OldK s₁.heap s'.heap ∧ s'.os = s₁.os ∧ AllBare s'.gens
theorem law_at {k : Nat} {fa a : Addr} {fd : FuncData} {x : Str} {F : DF} {s₁ : Shared} {vs : List Value} {ns : List Int} {H : Hp}
    (kin : K.In s₁.heap) (hns : s₁.heap.Ns mainGlobals mg) (hbn : s₁.heap.Ns builtinsNs mb) (hbb : ∀ x : Str, x ≠ "__name__" → mb x = bootBuiltins x) (lim : s₁.heap.NoLimit) (sy : SysB s₁.heap) (hg : s₁.gens = #[])
    (ha : s₁.heap.get? a = some { cls := .type "list", data := .seq vs.toArray }) (room : Room k callerA)
    (go : ∀ base : Heap, K.In base → base.Ns mainGlobals mg → SysB base → FnG P w K mg base k fa fd [x] (spD K mg 1 F)) (bd : ∀ (s : Shared) (u : Value), BindsTo s fd ⟨[u], []⟩ [(x, u)])
    (hF : ∀ h0 : HS, ∃ h1, F [.rol (ns.map D.int)] h0 = .ok (.bl true) h1)
    (only : Only H) (rol : RoL K H a (ns.map V.int)) (hok : HOk P w H s₁.heap) (one : ∀ b, H b ≠ none → b = a) (nok : H a ≠ none → K.lookup a = none) :
    codeAny (model P w) callerA (.call (.ref fa) ⟨[.ref a], []⟩) (LawEnd s₁) s₁ := by
  -- the base: all but the script
  have seen : ∀ {b : Addr} {o : Obj}, s₁.heap.get? b = some o → H b = none → (hidT s₁.heap H).get? b = some o := fun e n => hidT_get e n
  have free : ∀ {b : Addr} {o : Obj}, s₁.heap.get? b = some o → (∀ es ep, o.data ≠ .dict es ep → True) → (b = a → False) → H b = none := fun {b o} _ _ hne => by
    cases q : H b with
    | none => rfl
    | some u => exact (hne (one b (by rw [q]; simp))).elim
  have dicts : ∀ {b : Addr} {m : Str → Option Value}, s₁.heap.Ns b m → (hidT s₁.heap H).Ns b m := by
    rintro b m ⟨o, es, ep, e, d, r⟩
    refine ⟨o, es, ep, seen e (free e (fun _ _ _ => trivial) fun z => ?_), d, r⟩
    subst z
    rw [ha] at e
    cases e
    have d' : Data.seq vs.toArray _ = Data.dict es ep := d
    cases d'
  have kb : K.In (hidT s₁.heap H) := by
    intro b o e
    refine seen (kin b o e) ?_
    cases q : H b with
    | none => rfl
    | some u =>
      have z := one b (by rw [q]; simp)
      subst z
      rw [nok (by rw [q]; simp)] at e
      cases e
  obtain ⟨mc, l1, l2⟩ := lim
  have md : Mod K mg (hidT s₁.heap H) := ⟨kb, dicts hns, ⟨mb, dicts hbn, hbb⟩, ⟨mc, dicts l1, l2⟩⟩
  have e0 : Env0 P w K mg (hidT s₁.heap H) callerA [] s₁ H := by
    refine ⟨rfl, md, fun b o e => of_hidT e, Nat.le_of_eq (hidT_size _ _), trivial, fun b hb => ?_, hok, .of_eq hg⟩
    exact absurd (show b ∈ ([] : List Addr) from hb) (by simp)
  have sy' : SysB (hidT s₁.heap H) := by
    obtain ⟨o, es, ep, e, d⟩ := sy
    refine ⟨o, es, ep, seen e (free e (fun _ _ _ => trivial) fun z => ?_), d⟩
    rw [z, ha] at e
    cases e
    have d' : Data.seq vs.toArray _ = Data.dict es ep := d
    cases d'
  obtain ⟨h1, eF⟩ := hF []
  have rl : ∀ l : List Int, ReL K mg [] H (l.map D.int) (l.map V.int) := by
    intro l
    induction l with
    | nil => exact .nil
    | cons i l ih => exact .cons (.int i) ih
  have want : spD K mg 1 F [.ref a] H (fun v _ => v = .bl true) (fun _ _ _ => False) := by
    refine ⟨rfl, [], [], [.rol (ns.map D.int)], ⟨rfl, by simp, fun n a l e => by simp at e⟩, .cons (.rol rol (rl ns)) .nil, ?_⟩
    rw [eF]
    exact fun ι' H' v _ _ r => r.bl_inv
  refine codeAny_mono ((go _ kb (dicts hns) sy').go callerA [] s₁ H ⟨[.ref a], []⟩ [.ref a] [.ref a] _ _ rfl room e0 (bd s₁ (.ref a)) (.cons rfl .nil) want) ?_
  intro r s' z
  match r, z with
  | .error e, z =>
    obtain ⟨_, _, _, _, _, _, _, _, _, _, _, _, no⟩ := z
    exact no.elim
  | .ok .next, z => exact z.elim
  | .ok .brk, z => exact z.elim
  | .ok .cont, z => exact z.elim
  | .ok (.ret u), ⟨v, H', os, bare, un, hok', rv, q⟩ =>
    have q' : v = .bl true := q
    subst q'
    cases rv
    refine ⟨rfl, OldK.of_keep ?_, os, bare⟩
    intro b o e
    cases q : H b with
    | none => exact un.keep b o e q (fun z => absurd (show b ∈ ([] : List Addr) from z) (by simp)) (by simp)
    | some u =>
      rcases only b with n | ⟨ob, xs, n⟩
      · rw [q] at n; cases n
      · obtain ⟨e1, _⟩ := hok b _ n
        obtain ⟨e2, _⟩ := hok' b _ (un.frzs b ob _ n)
        rw [e] at e1
        cases e1
        exact e2
theorem law_run {k : Nat} {fa a : Addr} {fd : FuncData} {x : Str} {F : DF} {s₁ : Shared} {vs : List Value} {ns : List Int}
    (kin : K.In s₁.heap) (hns : s₁.heap.Ns mainGlobals mg) (hbn : s₁.heap.Ns builtinsNs mb) (hbb : ∀ x : Str, x ≠ "__name__" → mb x = bootBuiltins x) (lim : s₁.heap.NoLimit) (sy : SysB s₁.heap) (hg : s₁.gens = #[])
    (ha : s₁.heap.get? a = some { cls := .type "list", data := .seq vs.toArray }) (hi : IntsAre vs ns) (hl : ns.length ≤ sizeLine) (room : Room k callerA)
    (go : ∀ base : Heap, K.In base → base.Ns mainGlobals mg → SysB base → FnG P w K mg base k fa fd [x] (spD K mg 1 F)) (bd : ∀ (s : Shared) (u : Value), BindsTo s fd ⟨[u], []⟩ [(x, u)])
    (hF : ∀ h0 : HS, ∃ h1, F [.rol (ns.map D.int)] h0 = .ok (.bl true) h1) : codeAny (model P w) callerA (.call (.ref fa) ⟨[.ref a], []⟩) (LawEnd s₁) s₁ := by
  have rv := vals_ints hi
  have lv := hi.length
  cases hk : K.lookup a with
  | some o =>
    have e := kin a o hk
    rw [ha] at e
    cases e
    have sq : ∀ H' : Hp, SqL K H' a (ns.map V.int) := fun H' => .inr ⟨_, vs.toArray, _, hk, rfl, rfl, rfl, by rw [List.size_toArray, lv]; exact hl, by simpa using rv⟩
    refine law_at (H := fun _ => none) kin hns hbn hbb lim sy hg ha room go bd hF (fun _ => .inl rfl) (fun H' _ => sq H') (fun b u z => ?_) (fun b z => absurd rfl z) fun z => absurd rfl z
    have z' : (none : Option HO) = some u := z
    cases z'
  | none =>
    let ob : Obj := { cls := .type "list", data := .seq vs.toArray }
    refine law_at (H := fun b => if b = a then some (.frz ob (.lst (ns.map V.int))) else none) kin hns hbn hbb lim sy hg ha room go bd hF (fun b => ?_) (fun H' z => .inl (.inr ⟨ob, z ob (if_pos rfl)⟩)) (fun b u z => ?_) (fun b z => ?_) fun _ => hk
    · by_cases c : b = a
      · exact .inr ⟨_, _, if_pos c⟩
      · exact .inl (if_neg c)
    · by_cases c : b = a
      · have z' := (if_pos c).symm.trans z
        cases z'
        subst c
        exact ⟨ha, by rw [List.length_map]; exact hl, vs, _, rv, ha⟩
      · have z' := (if_neg c).symm.trans z
        cases z'
    · by_cases c : b = a
      · exact c
      · exact absurd (if_neg c) z
end
/-- the goal of a law row, by what the law's def does to data -/
theorem walk_data {l : PySem.W.OpenLaw} {n k : Nat} {q : Program} {loose : List Str} {XP : (Str → Option Value) → Heap → Prop} {YP : World → Heap → Prop} {d : DefRec} {K : Params → PySem.W.Frag} {F : DF} {x : Str}
    (hn : l.most = some n) (hn2 : n ≤ sizeLine) (hdf : d.params.defaults = []) (hr : Room k callerA) (hY : ∀ (w : World) (h : Heap), YP w h → (K w.params).In h)
    (go : ∀ (w : World) (mg : Str → Option Value) (fa : Addr) (h : Heap), (K w.params).In h → h.Ns mainGlobals mg → mg d.name = some (.ref fa) →
      ∃ fd : FuncData, (∀ (s : Shared) (u : Value), BindsTo s fd ⟨[u], []⟩ [(x, u)]) ∧ ∀ base : Heap, (K w.params).In base → base.Ns mainGlobals mg → SysB base → FnG l.prog w (K w.params) mg base k fa fd [x] (spD (K w.params) mg 1 F))
    (himp : importsNone q = true) (hF : ∀ ns : List Int, ns.length ≤ n → ∀ h0 : HS, ∃ h1, F [.rol (ns.map D.int)] h0 = .ok (.bl true) h1) :
    PySem.W.WalkO q loose XP YP l.row.toRowW d [] (fun f vs => PySem.call f vs) := by
  refine Att.attach_call hn hdf ?_
  intro w s₀ s₁ mg mb fa o pm cd doc a vs ns G Y ho hd hcd hmg hobj hints hlen hg
  have kin := hY w _ Y
  obtain ⟨fd, bd, go⟩ := go w mg fa _ kin G.T.g hmg
  obtain ⟨mm, ⟨oM, es, ep, e1, e2, _⟩, _⟩ := (G.T.seer himp).mods
  exact law_run kin G.T.g G.T.b G.T.builtins G.T.nolimit ⟨oM, es, ep, e1, e2⟩ hg hobj hints (Nat.le_trans hlen hn2) hr go bd (hF ns hlen)
end PI

namespace PI
open PySem L2 PySem.Spec PyProof.Rows
/-! ### several except clauses, each with its name -/
/-- a clause: its class, and what its suite wishes (with a name, or without) -/
structure Cl where
  cls : Value
  wish : Addr → Value → Option Addr → TS
/-- the ends behind a suite: the name is gone -/
def goneEnds (D : Ends) (i : Nat) : Ends := ⟨fun τ J => D.nx (τ.set i none) J, D.rt, fun τ J => D.bk (τ.set i none) J, fun τ J => D.ct (τ.set i none) J⟩
def asWish (i : Nat) (ts : Addr → Value → Option Addr → TS) : Addr → Value → Option Addr → TS := fun a e dd D τ J => ts a e dd (goneEnds D i) (τ.set i (some (.ref a))) J
def wCls (K : PySem.W.Frag) (Wo : WX) (D : Ends) : List Cl → WX
  | [] => Wo
  | k :: r => fun e dd τ J => ∃ y, PySem.W.exmOne K e k.cls = some y ∧ (y = true → ∀ a, J a = none → k.wish a e dd D τ J) ∧ (y = false → wCls K Wo D r e dd τ J)
inductive ClsOk (X : Cx) : List ExceptHandler → List Cl → Prop
  | nil : ClsOk X [] []
  | cons {x n : Str} {c : Value} {i : Nat} {ts : Addr → Value → Option Addr → TS} {b₀ : Stmt} {rest : List Stmt} {p1 p2 : Pos} {hds : List ExceptHandler} {l : List Cl} (hi : X.N[i]? = some n) (hl : X.env.kindOf n = some .local) (hc : Names X x c)
      (su : ∀ (a : Addr) (ob : Obj) (e : Value) (dd : Option Addr) (pn : List (Addr × Obj)), Zc e dd ob → (∃ vs, ob.data = .fields vs) → PSs (X.suite a ((a, ob) :: pn)) (b₀ :: rest) (ts a e dd)) (r : ClsOk X hds l) :
      ClsOk X (.ExceptHandler (some (.Name x p1)) (some n) (b₀ :: rest) p2 :: hds) (⟨c, asWish i ts⟩ :: l)
  | bare {x : Str} {c : Value} {ts : Addr → Value → Option Addr → TS} {b₀ : Stmt} {rest : List Stmt} {p1 p2 : Pos} {hds : List ExceptHandler} {l : List Cl} (hc : Names X x c)
      (su : ∀ (a : Addr) (ob : Obj) (e : Value) (dd : Option Addr) (pn : List (Addr × Obj)), Zc e dd ob → (∃ vs, ob.data = .fields vs) → PSs (X.suite a ((a, ob) :: pn)) (b₀ :: rest) (ts a e dd)) (r : ClsOk X hds l) :
      ClsOk X (.ExceptHandler (some (.Name x p1)) none (b₀ :: rest) p2 :: hds) (⟨c, ts⟩ :: l)
section
variable {X : Cx} {body : List Stmt} {h₀ : ExceptHandler} {hds : List ExceptHandler} {l : List Cl} {pos : Pos} {tb : WX → TS} {Wo : WX}
theorem ps_try_cls (stk : X.stack = X.env :: X.outer) (frm : X.env.frame = some X.env.locals) (nd : X.N.Nodup) (tk : Takes X Wo)
    (hb : ∀ (W : WX) (pn : List (Addr × Obj)) (xe : Value → Shared → Prop), Takes (X.tr pn xe) W → PassesOwn (model X.prog X.w) X.A X.env xe → PSs (X.tr pn xe) body (tb W))
    (ck : ClsOk X (h₀ :: hds) l) : PS X (.Try body (h₀ :: hds) [] [] pos) (fun D τ J => tb (wCls X.K Wo D l) D τ J) := by
  constructor
  intro pins s τ J D I hyp
  have ok := I.ok
  have allFr : X.A.frames = some (X.env :: X.outer) := stk ▸ ok.frames
  refine wpAny_Try_except (wpAny_mono ((hb (wCls X.K Wo D l) (X.pn ++ pins) (fun e t1 => wpAny (model X.prog X.w) X.A (noteFrame e X.env) (fun _ t2 => wpAny (model X.prog X.w) X.A (setFlight e none) (fun _ t3 => wpAny (model X.prog X.w) X.A (handleBy e X.env (h₀ :: hds)) (SP X pins D) X.xe t3) X.xe t2) X.xe t1) (fun u s' thrown => ?_) PassesOwn.looking).run [] s τ J D (I.toTry _) hyp) (fun f s1 fin => ?_) fun _ _ z => z)
  · obtain ⟨a, B, sI, pins', τ', J', e, dd, rfl, inner, nb, up, sky, free, os, ag, wish⟩ := thrown
    have outerI : Inv X pins τ' J' sI := inner.ofTry ok
    show wpAny (model X.prog X.w) X.A (noteFrame (.ref a) X.env) _ _ _
    refine Sky.land Zc.steady allFr frm (show Sky B (X.env :: X.outer) a (Zc e dd) X.env.locals s'.heap from stk ▸ sky) fun g3 fl up3 => ?_
    have I3 : Inv X pins τ' J' { s' with heap := g3 } := outerI.landed nb fl.1 (up.trans up3) os ag
    have ⟨o3, v3, at3, z3, f3⟩ := fl.there
    have apart : a ∉ frs (X.env :: X.outer) := fun mem => by
      have ⟨_, o', e', hn⟩ := fl.2.2.1.mem mem
      have same := at3.symm.trans e'
      cases same
      exact hn _ f3
    have nL : a ≠ X.env.locals := fun z => apart (List.mem_filterMap.mpr ⟨X.env, .head _, frm.trans (congrArg some z.symm)⟩)
    have nF : a ∉ X.fs := fun mem => by
      have ⟨w, hw, q⟩ := List.mem_filterMap.mp mem
      exact apart (List.mem_filterMap.mpr ⟨w, .tail _ hw, q⟩)
    have S3 := I3.suite at3 f3 free nL nF
    have go : ∀ {hs : List ExceptHandler} {cs : List Cl}, ClsOk X hs cs → wCls X.K Wo D cs e dd τ' J' → wpAny (model X.prog X.w) X.A (handleBy (.ref a) X.env hs) (SP X pins D) X.xe { s' with heap := g3 } := by
      intro hs cs ck
      induction ck with
      | nil =>
        intro wish
        refine wpAny_handleBy_nil ?_
        have ⟨_, _, _, o, vs, T, _, _, ho, _, hd, h1, _⟩ := fl
        have rethrow : wpAny (model X.prog X.w) X.A (setFlight (.ref a) X.env.frame) (fun _ s4 => wpAny (model X.prog X.w) X.A (throw (.ref a) : Sem Flow) (SP X pins D) X.xe s4) X.xe { s' with heap := g3 } :=
          frm ▸ HandSPX.setFlight_upZ fl fun g4 hg4 up4 => wpAny_throw (tk _ _ ⟨a, B, sI, pins, τ', J', e, dd, rfl, outerI, nb, (up.trans up3).trans up4, .inr (.inr (stk ▸ hg4)), free, os, ag, wish⟩)
        unfold PySem.passOn
        refine wpAny_bind (wpAny_field ho hd h1 ?_)
        rw [if_neg (show ¬ ((Value.ref T == Value.none) = true) by simp)]
        first | exact wpAny_bind (wpAny_pure (wpAny_bind rethrow)) | exact wpAny_bind rethrow
      | @cons x n c i ts b₀ rest p1 p2 hds2 l2 hi hl hc su r ih =>
        intro ⟨y, hy, yes, no⟩
        have looks : PySem.W.Looks (model X.prog X.w) g3 (typeOf (.ref a)) e := fun A Q E s k q => wpAny_typeOf_ref (k _ _ at3) (z3.1 ▸ q)
        have test : ∀ {Q E : Value → Shared → Prop}, Q c { s' with heap := g3 } → wpAny (model X.prog X.w) (X.A.mark (some (.ref a))) (eval (.Name x p1) X.env) Q E { s' with heap := g3 } := fun {Q E} q => by
          rcases hc with ⟨hg, nodbg, hm | ⟨hm, hv, hn⟩⟩
          · exact ld_glob (X := X.suite a ((a, o3) :: (X.pn ++ pins))) S3 hg hm q nodbg
          · exact ld_blt (X := X.suite a ((a, o3) :: (X.pn ++ pins))) S3 hg hm hv q hn nodbg
        refine wpAny_handleBy_cons (codeAny_handlers_test (test ((PySem.W.exm_one (M := model X.prog X.w) I3.kIn looks hy).here ?_))) (fun q => nomatch q)
        cases y with
        | false => exact ih (no rfl)
        | true =>
          refine codeAny_handlers_suite_as (HandSPX.lands_againZ fl fun g4 fl4 up4 => ?_)
          have I4 : Inv X pins τ' J' { s' with heap := g4 } := outerI.landed nb fl4.1 ((up.trans up3).trans up4) os ag
          have ⟨o4, v4, at4, z4, f4⟩ := fl4.there
          refine store_ok (X := X.suite a ((a, o4) :: (X.pn ++ pins))) (v := .ref a) (I4.suite at4 f4 free nL nF) nd hi (show Loc X.env.scope n from .inl hl) rfl (fun s5 S5 => ?_) (.inr hl)
          refine wpAny_mono ((su a o4 e dd (X.pn ++ pins) z4 ⟨_, f4⟩).run [] s5 _ J' _ S5 (yes rfl a free)) (fun f s6 fin => ?_) fun _ _ z => z.elim
          have leave : ∀ {τ6 : L2.St} {J6 : Hp} {Q : Shared → Prop}, Inv (X.suite a ((a, o4) :: (X.pn ++ pins))) [] τ6 J6 s6 → (∀ s7, Inv X pins (τ6.set i none) J6 s7 → Q s7) → wpAny (model X.prog X.w) X.A (do bindName X.env n .none; unbindBehindTheSuite X.env n p2) (fun _ s7 => Q s7) X.xe s6 :=
            fun {τ6 J6 Q} S6 hq => gone_ok (S6.unsuite ok) nd hi hl hq
          match f, fin with
          | .next, ⟨_, _, S6, q⟩ => exact leave S6 fun _ J7 => ⟨_, _, J7, q⟩
          | .brk, ⟨_, _, S6, q⟩ => exact leave S6 fun _ J7 => ⟨_, _, J7, q⟩
          | .cont, ⟨_, _, S6, q⟩ => exact leave S6 fun _ J7 => ⟨_, _, J7, q⟩
          | .ret _, ⟨_, _, _, S6, rv, q⟩ => exact leave S6 fun _ J7 => ⟨_, _, _, J7, rv, q⟩
      | @bare x c ts b₀ rest p1 p2 hds2 l2 hc su r ih =>
        intro ⟨y, hy, yes, no⟩
        have looks : PySem.W.Looks (model X.prog X.w) g3 (typeOf (.ref a)) e := fun A Q E s k q => wpAny_typeOf_ref (k _ _ at3) (z3.1 ▸ q)
        have test : ∀ {Q E : Value → Shared → Prop}, Q c { s' with heap := g3 } → wpAny (model X.prog X.w) (X.A.mark (some (.ref a))) (eval (.Name x p1) X.env) Q E { s' with heap := g3 } := fun {Q E} q => by
          rcases hc with ⟨hg, nodbg, hm | ⟨hm, hv, hn⟩⟩
          · exact ld_glob (X := X.suite a ((a, o3) :: (X.pn ++ pins))) S3 hg hm q nodbg
          · exact ld_blt (X := X.suite a ((a, o3) :: (X.pn ++ pins))) S3 hg hm hv q hn nodbg
        refine wpAny_handleBy_cons (codeAny_handlers_test (test ((PySem.W.exm_one (M := model X.prog X.w) I3.kIn looks hy).here ?_))) (fun q => nomatch q)
        cases y with
        | false => exact ih (no rfl)
        | true =>
          refine codeAny_handlers_suite (HandSPX.lands_againZ fl fun g4 fl4 up4 => ?_)
          have I4 : Inv X pins τ' J' { s' with heap := g4 } := outerI.landed nb fl4.1 ((up.trans up3).trans up4) os ag
          have ⟨o4, v4, at4, z4, f4⟩ := fl4.there
          refine wpAny_mono ((su a o4 e dd (X.pn ++ pins) z4 ⟨_, f4⟩).run [] _ _ J' _ (I4.suite at4 f4 free nL nF) (yes rfl a free)) (fun f s6 fin => ?_) fun _ _ z => z.elim
          match f, fin with
          | .next, ⟨_, _, S6, q⟩ => exact ⟨_, _, S6.unsuite ok, q⟩
          | .brk, ⟨_, _, S6, q⟩ => exact ⟨_, _, S6.unsuite ok, q⟩
          | .cont, ⟨_, _, S6, q⟩ => exact ⟨_, _, S6.unsuite ok, q⟩
          | .ret _, ⟨_, _, _, S6, rv, q⟩ => exact ⟨_, _, _, S6.unsuite ok, rv, q⟩
    exact go ck wish
  · match f, fin with
    | .next, ⟨_, _, I1, q⟩ => exact wpAny_execs_nil ⟨_, _, I1.ofTry ok, q⟩
    | .brk, ⟨_, _, I1, q⟩ => exact ⟨_, _, I1.ofTry ok, q⟩
    | .cont, ⟨_, _, I1, q⟩ => exact ⟨_, _, I1.ofTry ok, q⟩
    | .ret _, ⟨_, _, _, I1, rv, q⟩ => exact ⟨_, _, _, I1.ofTry ok, rv, q⟩
end
/-! the same over data -/
structure DCl where
  x : Str
  go : Er → DEnv → HS → SR
/-- with a name in slot i -/
def clAs (x : Str) (i : Nat) (su : Er → DS) : DCl := ⟨x, fun er e h => if i < e.length then unset i (su er (e.set i none) h) else .stuck⟩
/-- without a name; nothing may be raised -/
def calmS : SR → SR
  | .exc _ _ _ => .stuck
  | r => r
def clNo (x : Str) (su : DS) : DCl := ⟨x, fun _ e h => calmS (su e h)⟩
def pickCl (ys : List Str) (er : Er) (e : DEnv) (h : HS) : List DCl → SR
  | [] => if er.cls ∈ ys then .exc er e h else .stuck
  | k :: r => if er.cls = k.x then k.go er e h else pickCl ys er e h r
def sTryN (mb : DS) (cs : List DCl) (ys : List Str) : DS := fun e h => match mb e h with
  | .exc er e' h' => pickCl ys er e' h' cs
  | r => r
inductive DClsOk (X : Cx) (ys : List Str) : List ExceptHandler → List DCl → List Cl → List Str → Prop
  | nil : DClsOk X ys [] [] [] ys
  | cons {x n : Str} {C : Addr} {i : Nat} {su : Er → DS} {ts : Addr → Value → Option Addr → TS} {b₀ : Stmt} {rest : List Stmt} {p1 p2 : Pos} {hds : List ExceptHandler} {cs : List DCl} {l : List Cl} {zs : List Str} (hi : X.N[i]? = some n) (hl : X.env.kindOf n = some .local)
      (hc : Names X x (.ref C)) (hg : X.mg x = some (.ref C)) (te : PySem.W.exmOne X.K (.ref C) (.ref C) = some true) (tf : ∀ y ∈ zs, ∃ C', X.mg y = some (.ref C') ∧ PySem.W.exmOne X.K (.ref C') (.ref C) = some false)
      (hsu : ∀ (a : Addr) (ob : Obj) (e : Value) (dd : Option Addr) (pn : List (Addr × Obj)), Zc e dd ob → (∃ vs, ob.data = .fields vs) → PSs (X.suite a ((a, ob) :: pn)) (b₀ :: rest) (ts a e dd)) (ok : SuiteOk X C i su ts) (r : DClsOk X ys hds cs l zs) :
      DClsOk X ys (.ExceptHandler (some (.Name x p1)) (some n) (b₀ :: rest) p2 :: hds) (clAs x i su :: cs) (⟨.ref C, asWish i ts⟩ :: l) (x :: zs)
  | bare {x : Str} {C : Addr} {su : DS} {b₀ : Stmt} {rest : List Stmt} {p1 p2 : Pos} {hds : List ExceptHandler} {cs : List DCl} {l : List Cl} {zs : List Str} (hc : Names X x (.ref C)) (hg : X.mg x = some (.ref C)) (te : PySem.W.exmOne X.K (.ref C) (.ref C) = some true)
      (tf : ∀ y ∈ zs, ∃ C', X.mg y = some (.ref C') ∧ PySem.W.exmOne X.K (.ref C') (.ref C) = some false)
      (hsu : ∀ (a : Addr) (ob : Obj) (e : Value) (dd : Option Addr) (pn : List (Addr × Obj)), Zc e dd ob → (∃ vs, ob.data = .fields vs) → PSs (X.suite a ((a, ob) :: pn)) (b₀ :: rest) (tms X.K X.mg W0 su)) (r : DClsOk X ys hds cs l zs) :
      DClsOk X ys (.ExceptHandler (some (.Name x p1)) none (b₀ :: rest) p2 :: hds) (clNo x su :: cs) (⟨.ref C, fun _ _ _ => tms X.K X.mg W0 su⟩ :: l) (x :: zs)
theorem tf_nil {P : Str → Prop} : ∀ y ∈ ([] : List Str), P y := fun _ z => nomatch z
theorem tf_cons {P : Str → Prop} {x : Str} {l : List Str} (a : P x) (b : ∀ y ∈ l, P y) : ∀ y ∈ x :: l, P y := fun y z => by
  rcases List.mem_cons.mp z with c | c
  · rw [c]; exact a
  · exact b y c
section
variable {X : Cx} {W : WX} {k : Nat} {ys zs : List Str} {h₀ : ExceptHandler} {hds : List ExceptHandler} {cs : List DCl} {l : List Cl} {body : List Stmt} {pos : Pos} {mb : DS}
theorem DClsOk.cls (d : DClsOk X ys hds cs l zs) : ClsOk X hds l := by
  induction d with
  | nil => exact .nil
  | cons hi hl hc hg te tf hsu ok r ih => exact .cons hi hl hc hsu ih
  | bare hc hg te tf hsu r ih => exact .bare hc hsu ih
theorem DClsOk.among (d : DClsOk X ys hds cs l zs) {er : Er} {e : DEnv} {h : HS} (q : pickCl ys er e h cs ≠ .stuck) : er.cls ∈ zs := by
  induction d with
  | nil =>
    unfold pickCl at q
    split at q
    · assumption
    · exact absurd rfl q
  | cons hi hl hc hg te tf hsu ok r ih =>
    unfold pickCl at q
    split at q
    · rename_i c
      rw [show er.cls = _ from c]
      exact .head _
    · exact .tail _ (ih q)
  | bare hc hg te tf hsu r ih =>
    unfold pickCl at q
    split at q
    · rename_i c
      rw [show er.cls = _ from c]
      exact .head _
    · exact .tail _ (ih q)
theorem DClsOk.wish (d : DClsOk X ys hds cs l zs) {ι : List Addr} {er : Er} {e : DEnv} {h : HS} {H : Hp} {σ : L2.St} {C2 : Addr} {dd : Option Addr} {D : Ends} (R : Rep X.K X.mg ι h H) (S : RelS X.K X.mg ι H e σ) (x1 : ExR X.K X.mg ι H er (.ref C2) dd) (hC2 : X.mg er.cls = some (.ref C2))
    (p : PostS X.K X.mg W ι H D (pickCl ys er e h cs)) : wCls X.K W D l (.ref C2) dd σ H := by
  induction d with
  | nil =>
    unfold pickCl at p
    split at p
    · exact p ι H σ _ _ (Gr.refl R) R S x1
    · exact p.elim
  | @cons x n C i su ts b₀ rest p1 p2 hds cs l zs hi hl hc hg te tf hsu ok r ih =>
    unfold pickCl at p
    split at p
    · rename_i hx
      have e2 : C2 = C := by
        rw [show er.cls = x from hx, hg] at hC2
        cases hC2
        rfl
      subst e2
      refine ⟨true, te, fun _ a ha => ?_, fun z => by cases z⟩
      have p : PostS X.K X.mg W ι H D (if i < e.length then unset i (su er (e.set i none) h) else .stuck) := p
      split at p
      · rename_i hi'
        refine ok ι e h H σ er a dd _ R S x1 (by rw [← S.len]; exact hi') ?_
        have p2 : PostS X.K X.mg W ι H D (unset i (su er (e.set i none) h)) := p
        cases z2 : su er (e.set i none) h with
        | next e3 h3 => rw [z2] at p2; exact fun ι2 H2 σ2 g2 R2 S2 => p2 ι2 H2 _ g2 R2 (S2.unset i none)
        | brk e3 h3 => rw [z2] at p2; exact fun ι2 H2 σ2 g2 R2 S2 => p2 ι2 H2 _ g2 R2 (S2.unset i none)
        | cont e3 h3 => rw [z2] at p2; exact fun ι2 H2 σ2 g2 R2 S2 => p2 ι2 H2 _ g2 R2 (S2.unset i none)
        | ret d h3 => rw [z2] at p2; exact p2
        | exc er e3 h3 => rw [z2] at p2; exact p2.elim
        | stuck => rw [z2] at p2; exact p2
      · exact p.elim
    · have mem : er.cls ∈ zs := r.among (er := er) (e := e) (h := h) fun z => by
        have p3 : PostS X.K X.mg W ι H D (pickCl ys er e h cs) := p
        rw [z] at p3
        exact p3
      obtain ⟨C', hC', hf⟩ := tf _ mem
      rw [hC2] at hC'
      cases hC'
      exact ⟨false, hf, (fun z => by cases z), fun _ => ih p⟩
  | @bare x C su b₀ rest p1 p2 hds cs l zs hc hg te tf hsu r ih =>
    unfold pickCl at p
    split at p
    · rename_i hx
      have e2 : C2 = C := by
        rw [show er.cls = x from hx, hg] at hC2
        cases hC2
        rfl
      subst e2
      refine ⟨true, te, fun _ a ha => ?_, fun z => by cases z⟩
      have p : PostS X.K X.mg W ι H D (calmS (su e h)) := p
      refine tms_in R S ?_
      cases z2 : su e h with
      | next e3 h3 => rw [z2] at p; exact p
      | brk e3 h3 => rw [z2] at p; exact p
      | cont e3 h3 => rw [z2] at p; exact p
      | ret d h3 => rw [z2] at p; exact p
      | exc er e3 h3 => rw [z2] at p; exact p.elim
      | stuck => rw [z2] at p; exact p
    · have mem : er.cls ∈ zs := r.among (er := er) (e := e) (h := h) fun z => by
        have p3 : PostS X.K X.mg W ι H D (pickCl ys er e h cs) := p
        rw [z] at p3
        exact p3
      obtain ⟨C', hC', hf⟩ := tf _ mem
      rw [hC2] at hC'
      cases hC'
      exact ⟨false, hf, (fun z => by cases z), fun _ => ih p⟩
theorem ds_try_n (C0 : CtxS X W k) (nd : X.N.Nodup) (hb : ∀ (W : WX) (pn : List (Addr × Obj)) (xe : Value → Shared → Prop), Takes (X.tr pn xe) W → PassesOwn (model X.prog X.w) X.A X.env xe → PSs (X.tr pn xe) body (tms X.K X.mg W mb))
    (d : DClsOk X ys (h₀ :: hds) cs l zs) : PS X (.Try body (h₀ :: hds) [] [] pos) (tms X.K X.mg W (sTryN mb cs ys)) :=
  (ps_try_cls C0.stk C0.frm nd C0.tk hb d.cls).weak fun D σ H ⟨ι, e, h, R, S, p⟩ => by
    refine tms_in R S ?_
    have p : PostS X.K X.mg W ι H D (match mb e h with
      | .exc er e' h' => pickCl ys er e' h' cs
      | r => r) := p
    cases z : mb e h with
    | next _ _ => rw [z] at p; exact p
    | ret _ _ => rw [z] at p; exact p
    | brk _ _ => rw [z] at p; exact p
    | cont _ _ => rw [z] at p; exact p
    | stuck => rw [z] at p; exact p
    | exc er e' h' =>
      rw [z] at p
      intro ι1 H1 σ1 c dd g1 R1 S1 x1
      obtain ⟨C2, hC2, rfl⟩ := x1.cl
      exact d.wish R1 S1 x1 hC2 (PostS.shift g1 p)
end
end PI

namespace PI
open PySem L2 PySem.Spec PyProof.Rows
/-! ### own errors without fields -/
abbrev veBase : List Value := [.type "ValueError", .type "Exception", .type "BaseException", .type "object"]
structure ErC0 (K : PySem.W.Frag) (mg : Str → Option Value) (x : Str) (C : Addr) : Prop where
  g : mg x = some (.ref C)
  q : PySem.W.excIn K C veBase "ValueError.__new__" = true
  kp : PySem.W.keepIn K (.ref C) = true
  sb : PySem.W.subIn K (.ref C) (.type "BaseException") = some true
  ty : PySem.W.typeIn K (.ref C) = some (.type "type")
  te : PySem.W.exmOne K (.ref C) (.ref C) = some true
def sRaise0 (x : Str) : DS := fun e h => .exc ⟨x, []⟩ e h
section
variable {X : Cx} {W : WX} {x : Str} {C : Addr} {p pos pos2 : Pos}
theorem mk_own0 (E : ErC0 X.K X.mg x C) (hg : Gl X x) (hdb : (x == ("__debug__" : Str)) = false := by decide) : PMk X (.Call (.Name x p) [] [] pos) (fun _ H Q => Q (.ref C) none H) := by
  intro pins s σ H Q I h
  refine wpAny_Call_Name_kw (ld_glob I hg E.g (PySem.W.callWith_K0 I.kIn E.kp ?_) hdb)
  obtain ⟨bm, N, nm, qn, bs, hdct, sn, sub, ab, col, dd, k0, k1, k2, k3, k5, mN, hC, hN, hni, T⟩ := exc_obj I.kIn E.q
  exact wpAny_call_exc_subT PySem.F.excBase_ValueError T hC hN hni (fun h' e hm => mk_of I hm (raises_own E.sb E.ty) h (I.hok.gone hm.new)) (Nat.zero_le _)
theorem ds_raise0 (hc : X.calm = true) (tk : Takes X W) (E : ErC0 X.K X.mg x C) (hg : Gl X x := by rfl) (hdb : (x == ("__debug__" : Str)) = false := by decide) : PS X (.Raise (some (.Call (.Name x p) [] [] pos)) none pos2) (tms X.K X.mg W (sRaise0 x)) :=
  (ps_raise hc tk (mk_own0 E hg hdb)).weak fun D σ H ⟨ι, env, h, R, S, q⟩ => by
    have q : PostS X.K X.mg W ι H D (.exc ⟨x, []⟩ env h) := q
    exact q ι H σ (.ref C) none (Gr.refl R) R S ⟨⟨C, E.g, rfl⟩, rfl⟩
end
/-! ### in, any over a tuple of numbers -/
def seqOf (d : D) (h : HS) : Option (List D) := match d with
  | .tup l => some l
  | .ref n => h[n]?
  | _ => none
def opIn : Op2 := fun x y h => (asInt x).bind fun i => (seqOf y h).bind fun l => (allInt l).bind fun ns => some (.bl (ns.any fun n => n == i), h)
theorem inV_ints (i : Int) : ∀ ns : List Int, inV (.int i) (ns.map V.int) = ns.any fun n => n == i
  | [] => rfl
  | n :: ns => by
    have := inV_ints i ns
    unfold inV at this ⊢
    rw [List.map_cons, List.any_cons, this, List.any_cons]
    rfl
theorem flat_ints : ∀ ns : List Int, (ns.map V.int).all flatV = true
  | [] => rfl
  | n :: ns => by rw [List.map_cons, List.all_cons, flat_ints ns]; rfl
section
variable {X : Cx}
theorem oIn : OpR X (compareOp .In) (r2 X.K X.mg opIn) := OpR.imp op_in_seq fun x y H Q ⟨ι, h, d, e, R, rd, re, p0⟩ => by
  obtain ⟨i, e1, p1⟩ := Pv.of p0
  obtain ⟨l, e2, p2⟩ := Pv.of p1
  obtain ⟨ns, e3, p3⟩ := Pv.of p2
  clear p0 p1 p2
  have w : ∀ ns : List Int, (if false then !inV (.int i) (ns.map V.int) else inV (.int i) (ns.map V.int)) = ns.any fun n => n == i := fun ns => inV_ints i ns
  rw [Re.asInt e1 rd]
  cases e with
  | tup l2 =>
    cases e2
    obtain ⟨a, xs, rfl, s, rl⟩ := re.tup_inv
    have ex := ReL.ints e3 rl
    subst ex
    refine ⟨a, _, rfl, .inr s, rfl, flat_ints ns, ?_⟩
    rw [w]
    exact p3.now R (.bl _)
  | ref m =>
    obtain ⟨a, xs, rfl, s, rl⟩ := R.cellOf (d := .ref m) e2 re
    have ex := rl.ints e3
    subst ex
    refine ⟨a, _, rfl, .inl (.inl (.inl s)), rfl, flat_ints ns, ?_⟩
    rw [w]
    exact p3.now R (.bl _)
  | _ => cases e2
/-- whole numbers and what stands for them -/
theorem nums_at : ∀ {ns : List Int} {its : List Value} {i : Nat} {v : Value}, Vals (ns.map V.int) its → its[i]? = some v → ∃ n t, ns[i]? = some n ∧ v = .int n t
  | [], _, _, _, .nil, e => by simp at e
  | n :: ns, _, 0, v, .cons a _, e => by
    obtain ⟨t, rfl⟩ := a
    cases e
    exact ⟨n, t, rfl, rfl⟩
  | n :: ns, _, i + 1, v, .cons _ b, e => nums_at (i := i) b e
/-- the truth of whole numbers, one after the other -/
theorem truth_nums {prog : Program} {w : World} {A : Around} {ns : List Int} {its : List Value} (r : Vals (ns.map V.int) its) :
    TruthOf prog w A (fun i v => its.toArray[i]? = some v) (fun i => ns.getD i 0 != 0) := fun i v s Q E hv hq => by
  have hv' : its[i]? = some v := by simpa using hv
  obtain ⟨n, t, hn, rfl⟩ := nums_at r hv'
  have hg : ns.getD i 0 = n := by rw [List.getD_eq_getElem?_getD, hn]; rfl
  have hq' : Q (ns.getD i 0 != 0) s := hq
  rw [hg] at hq'
  exact PySem.P.truthy_int hq'
theorem any_nums : ∀ ns : List Int, (List.range ns.length).any (fun i => ns.getD i 0 != 0) = ns.any fun n => n != 0
  | [] => rfl
  | n :: ns => by
    rw [List.length_cons, List.range_succ_eq_map, List.any_cons, List.any_map, List.any_cons, ← any_nums ns]
    rfl
theorem cr_anyT (hc : X.calm = true) : CallR X (.builtin "any") (fun vs H Q => ∃ (a : Addr) (ns : List Int), vs = [V.ref a] ∧ SqT X.K H a (ns.map V.int) ∧ Q (.bl (ns.any fun n => n != 0)) H) := by
  intro pins s σ H vs us Q I r h
  obtain ⟨a, ns, rfl, hs, q⟩ := h
  obtain ⟨its, rv, tp, _⟩ := I.tuple hs
  have tp : s.heap.IsTuple a its.toArray := tp
  rw [Vals.ref1 r]
  have lt : a < s.heap.objs.size := by obtain ⟨_, e, _⟩ := tp; exact Heap.lt_size e
  have ne : a ≠ s.heap.objs.size := Nat.ne_of_lt lt
  refine call_any_walk (wpAny_pyIter_tuple tp ?_)
  refine ⟨_, _, _, _, _, _, _, rfl, Walks.tuple (A := X.A.in1) (I.ok.hd hc) _ a ne its.toArray, ⟨⟨_, Heap.get?_push_size _ rfl, rfl, rfl⟩, tp.push _⟩, truth_nums rv, fun h' tk hk => ?_⟩
  refine ⟨.bl _, H, I.kept fun b o eo => hk b o (fun hm => ?_) (Heap.get?_push_of_some _ eo), ?_, q⟩
  · rcases List.mem_cons.mp hm with e1 | hm
    · exact absurd (e1 ▸ Heap.lt_size eo) (Nat.lt_irrefl _)
    · cases hm
  · show Value.bool _ = Value.bool _
    rw [← any_nums, List.size_toArray, ← rv.length, List.length_map]
def opAnyT : OpN := fun l h => (get1 l).bind fun d => (asTup d).bind fun l => (allInt l).bind fun ns => some (.bl (ns.any fun n => n != 0), h)
theorem cAnyT (hc : X.calm = true) : CallR X (.builtin "any") (rN X.K X.mg opAnyT) := CallR.imp (cr_anyT hc) fun xs H Q ⟨ι, h, ds, R, r, p⟩ => by
  obtain ⟨d, e1, p⟩ := Pv.of p
  obtain ⟨l, e2, p⟩ := Pv.of p
  obtain ⟨ns, e3, p⟩ := Pv.of p
  obtain ⟨v, rfl, rv⟩ := r.one e1
  rw [asTup_eq e2] at rv
  obtain ⟨a, ys, rfl, s, rl⟩ := rv.tup_inv
  exact ⟨a, ns, rfl, by rw [ReL.ints e3 rl] at s; exact s, p.now R (.bl _)⟩
end
/-! ### f() -/
section
variable {X : Cx} {W : WX} {k n : Nat} {f : Addr} {fd : FuncData} {ps : List Str} {F : DF} {x : Str} {p pos : Pos}
theorem de_call0 (C : Ctx X W k) (FO : FnG X.prog X.w X.K X.mg X.base k f fd ps (spD X.K X.mg n F)) (hm : X.mg x = some (.ref f)) (hk : PySem.W.keepIn X.K (.ref f) = true) (hb : Binds X.K fd ps [])
    (hg : Gl X x := by rfl) (hdb : (x == ("__debug__" : Str)) = false := by decide) : PE X (.Call (.Name x p) [] [] pos) (tm X.K X.mg W (dCall n F dNil)) := by
  refine ⟨fun pins s σ H Q I q => ?_⟩
  obtain ⟨ι, e, h, R, S, q⟩ := q
  refine wpAny_Call_Name_kw (ld_glob I hg hm ?_ hdb)
  refine PySem.W.callWith_K0 (first := []) I.kIn hk ?_
  have q0 : Post X.K X.mg (Re X.K X.mg) W σ ι H Q (if ([] : List D).length = n then F [] h else .stuck) := q
  have sp : spD X.K X.mg n F [] H Q (WE W σ) := by
    split at q0
    · rename_i hl
      refine ⟨hl, ι, h, [], R, .nil, ?_⟩
      cases z : F [] h with
      | ok d h2 => rw [z] at q0; exact q0
      | exc er h2 => rw [z] at q0; exact q0
      | stuck => rw [z] at q0; exact q0
    · exact q0.elim
  have hl : ([] : List Value).length = ps.length := FO.arity _ _ _ _ sp
  have bd := hb s [] I.kIn (by rw [List.append_nil]; exact hl)
  rw [List.append_nil] at bd
  exact callee FO C.gd C.room C.tk I bd .nil sp
end
end PI

namespace PI
open PySem L2 PySem.Spec
/-! ### reckoning with data: what a piece does, by what is wanted behind it -/
/-- it goes on without an error, and then Q -/
def OK {α : Type} (r : Res α) (Q : α → HS → Prop) : Prop := match r with
  | .ok a h => Q a h
  | _ => False
def SOK (r : SR) (Qn : DEnv → HS → Prop) (Qr : D → HS → Prop) : Prop := match r with
  | .next e h => Qn e h
  | .ret d h => Qr d h
  | _ => False
section
variable {α β : Type} {r : Res α} {k : α → HS → Res β} {Q : α → HS → Prop} {R : β → HS → Prop} {e : DEnv} {h h' : HS} {a b : DE} {d : D} {Qn : DEnv → HS → Prop} {Qr : D → HS → Prop}
theorem OK.imp {Q' : α → HS → Prop} (p : OK r Q) (f : ∀ a h, Q a h → Q' a h) : OK r Q' := by
  cases r with
  | ok a h => exact f a h p
  | _ => exact p
theorem OK.ok (p : OK r Q) : ∃ a h, r = .ok a h ∧ Q a h := by
  cases r with
  | ok a h => exact ⟨a, h, rfl, p⟩
  | _ => exact p.elim
theorem OK.of {a : α} (q : r = .ok a h) (p : Q a h) : OK r Q := by rw [q]; exact p
theorem OK.bind (p : OK r fun a h => OK (k a h) R) : OK (r.bind k) R := by
  cases r with
  | ok a h => exact p
  | _ => exact p
theorem SOK.toS {k : α → HS → SR} (p : OK r fun a h => SOK (k a h) Qn Qr) : SOK (r.toS e k) Qn Qr := by
  cases r with
  | ok a h => exact p
  | _ => exact p
theorem SOK.imp {Qn' : DEnv → HS → Prop} {Qr' : D → HS → Prop} {r : SR} (p : SOK r Qn Qr) (f : ∀ e h, Qn e h → Qn' e h) (g : ∀ d h, Qr d h → Qr' d h) : SOK r Qn' Qr' := by
  cases r with
  | next e h => exact f e h p
  | ret d h => exact g d h p
  | _ => exact p
theorem ok_var {i : Nat} {Q : D → HS → Prop} (q : e[i]? = some (some d)) (p : Q d h) : OK (dVar i e h) Q := by
  unfold dVar
  rw [q]
  exact p
theorem ok_c {Q : D → HS → Prop} (p : Q d h) : OK (dC d e h) Q := p
theorem ok_op {g : Op2} {Q : D → HS → Prop} (p : OK (a e h) fun x h1 => OK (b e h1) fun y h2 => ∃ d h3, g x y h2 = some (d, h3) ∧ Q d h3) : OK (dOp g a b e h) Q := by
  unfold dOp
  refine OK.bind (p.imp fun x h1 p => OK.bind (p.imp fun y h2 ⟨d, h3, q, z⟩ => ?_))
  rw [q]
  exact z
theorem ok_un {g : Op1} {Q : D → HS → Prop} (p : OK (a e h) fun x h1 => ∃ d h3, g x h1 = some (d, h3) ∧ Q d h3) : OK (dUn g a e h) Q := by
  unfold dUn
  refine OK.bind (p.imp fun x h1 ⟨d, h3, q, z⟩ => ?_)
  rw [q]
  exact z
theorem ok_nil {Q : List D → HS → Prop} (p : Q [] h) : OK (dNil e h) Q := p
theorem ok_cons {ms : DA} {Q : List D → HS → Prop} (p : OK (a e h) fun x h1 => OK (ms e h1) fun xs h2 => Q (x :: xs) h2) : OK (dCons a ms e h) Q := by
  unfold dCons
  exact OK.bind (p.imp fun x h1 p => OK.bind (p.imp fun xs h2 p => p))
theorem ok_tup {ms : DA} {Q : D → HS → Prop} (p : OK (ms e h) fun l h1 => l.length ≤ 100000 ∧ Q (.tup l) h1) : OK (dTup ms e h) Q := by
  unfold dTup
  refine OK.bind (p.imp fun l h1 ⟨z, p⟩ => ?_)
  unfold mkTup
  rw [if_pos z]
  exact p
theorem ok_lst {ms : DA} {Q : D → HS → Prop} (p : OK (ms e h) fun l h1 => l.length ≤ 100000 ∧ Q (.ref h1.length) (h1 ++ [l])) : OK (dLst ms e h) Q := by
  unfold dLst
  refine OK.bind (p.imp fun l h1 ⟨z, p⟩ => ?_)
  unfold mkLst
  rw [if_pos z]
  exact p
theorem ok_cb {g : OpN} {ms : DA} {Q : D → HS → Prop} (p : OK (ms e h) fun l h1 => ∃ d h3, g l h1 = some (d, h3) ∧ Q d h3) : OK (dCB g ms e h) Q := by
  unfold dCB
  refine OK.bind (p.imp fun x h1 ⟨d, h3, q, z⟩ => ?_)
  rw [q]
  exact z
theorem ok_call {n : Nat} {F : DF} {ms : DA} {Q : D → HS → Prop} (p : OK (ms e h) fun l h1 => l.length = n ∧ OK (F l h1) Q) : OK (dCall n F ms e h) Q := by
  unfold dCall
  refine OK.bind (p.imp fun x h1 ⟨z, p⟩ => ?_)
  rw [if_pos z]
  exact p
theorem ok_callK {n : Nat} {pi : List Nat} {F : DF} {ms : DA} {Q : D → HS → Prop} (p : OK (ms e h) fun l h1 => l.length = pi.length ∧ (pick pi l).length = n ∧ OK (F (pick pi l) h1) Q) : OK (dCallK n pi F ms e h) Q := by
  unfold dCallK
  refine OK.bind (p.imp fun x h1 ⟨z, z2, p⟩ => ?_)
  rw [if_pos ⟨z, z2⟩]
  exact p
theorem ok_sl {g : D → Option Int → Option Int → HS → Option (D × HS)} {l u : DEnv → HS → Res (Option Int)} {Q : D → HS → Prop} (p : OK (a e h) fun x h1 => OK (l e h1) fun i h2 => OK (u e h2) fun j h3 => ∃ d h4, g x i j h3 = some (d, h4) ∧ Q d h4) : OK (dSl g a l u e h) Q := by
  unfold dSl
  refine OK.bind (p.imp fun x h1 p => OK.bind (p.imp fun y h2 p => OK.bind (p.imp fun z h3 ⟨d, h4, q, w⟩ => ?_)))
  rw [q]
  exact w
theorem ok_nopart {Q : Option Int → HS → Prop} (p : Q none h) : OK (dNoPart e h) Q := p
theorem ok_part {Q : Option Int → HS → Prop} (p : OK (a e h) fun x h1 => ∃ i, x = .int i ∧ Q (some i) h1) : OK (dPart a e h) Q := by
  unfold dPart
  refine OK.bind (p.imp fun x h1 ⟨i, q, z⟩ => ?_)
  subst q
  exact z
theorem ok_B {Q : Bool → HS → Prop} (p : OK (a e h) fun x h1 => ∃ b, x = .bl b ∧ Q b h1) : OK (dB a e h) Q := by
  unfold dB
  refine OK.bind (p.imp fun x h1 ⟨i, q, z⟩ => ?_)
  subst q
  exact z
theorem ok_andT {s t : DT} {Q : Bool → HS → Prop} (p : OK (s e h) fun b h1 => (b = true → OK (t e h1) Q) ∧ (b = false → Q false h1)) : OK (dAndT s t e h) Q := by
  unfold dAndT
  refine OK.bind (p.imp fun b h1 p => ?_)
  cases b with
  | true => exact p.1 rfl
  | false => exact p.2 rfl
theorem ok_orT {s t : DT} {Q : Bool → HS → Prop} (p : OK (s e h) fun b h1 => (b = false → OK (t e h1) Q) ∧ (b = true → Q true h1)) : OK (dOrT s t e h) Q := by
  unfold dOrT
  refine OK.bind (p.imp fun b h1 p => ?_)
  cases b with
  | true => exact p.2 rfl
  | false => exact p.1 rfl
theorem ok_notT {s : DT} {Q : Bool → HS → Prop} (p : OK (s e h) fun b h1 => Q (!b) h1) : OK (dNotT s e h) Q := by
  unfold dNotT
  exact OK.bind p
theorem ok_and {Q : D → HS → Prop} (p : OK (dB a e h) fun x h1 => (x = true → OK (b e h1) Q) ∧ (x = false → Q (.bl false) h1)) : OK (dAnd a b e h) Q := by
  unfold dAnd
  refine OK.bind (p.imp fun b h1 p => ?_)
  cases b with
  | true => exact p.1 rfl
  | false => exact p.2 rfl
theorem ok_or {Q : D → HS → Prop} (p : OK (dB a e h) fun x h1 => (x = false → OK (b e h1) Q) ∧ (x = true → Q (.bl true) h1)) : OK (dOr a b e h) Q := by
  unfold dOr
  refine OK.bind (p.imp fun b h1 p => ?_)
  cases b with
  | true => exact p.2 rfl
  | false => exact p.1 rfl
theorem ok_not {Q : D → HS → Prop} (p : OK (dB a e h) fun x h1 => Q (.bl (!x)) h1) : OK (dNot a e h) Q := by
  unfold dNot
  exact OK.bind p
theorem ok_if {t : DT} {Q : D → HS → Prop} (p : OK (t e h) fun x h1 => (x = true → OK (a e h1) Q) ∧ (x = false → OK (b e h1) Q)) : OK (dIf t a b e h) Q := by
  unfold dIf
  refine OK.bind (p.imp fun b h1 p => ?_)
  cases b with
  | true => exact p.1 rfl
  | false => exact p.2 rfl
theorem ok_app {Q : D → HS → Prop} (p : OK (a e h) fun x h1 => ∃ n, x = .ref n ∧ OK (b e h1) fun y h2 => ∃ l, h2[n]? = some l ∧ l.length < 100000 ∧ Q .non (h2.set n (l ++ [y]))) : OK (dApp a b e h) Q := by
  unfold dApp
  refine OK.bind (p.imp fun x h1 ⟨n, q, p⟩ => ?_)
  subst q
  refine OK.bind (p.imp fun y h2 ⟨l, q, z, p⟩ => ?_)
  rw [q]
  show OK (if l.length < 100000 then .ok .non (h2.set n (l ++ [y])) else .stuck) Q
  rw [if_pos z]
  exact p
/-! statements -/
theorem sk_nil (p : Qn e h) : SOK (sNil e h) Qn Qr := p
theorem sk_seq {s t : DS} (p : SOK (s e h) (fun e' h' => SOK (t e' h') Qn Qr) Qr) : SOK (sSeq s t e h) Qn Qr := by
  unfold sSeq
  cases z : s e h with
  | next e' h' => rw [z] at p; exact p
  | ret d h' => rw [z] at p; exact p
  | _ => rw [z] at p; exact p
theorem sk_ret (p : OK (a e h) Qr) : SOK (sRet a e h) Qn Qr := SOK.toS p
theorem sk_drop (p : OK (a e h) fun _ h1 => Qn e h1) : SOK (sDrop a e h) Qn Qr := SOK.toS p
theorem sk_if {t : DT} {s u : DS} (p : OK (t e h) fun x h1 => (x = true → SOK (s e h1) Qn Qr) ∧ (x = false → SOK (u e h1) Qn Qr)) : SOK (sIf t s u e h) Qn Qr := by
  refine SOK.toS (p.imp fun b h1 p => ?_)
  cases b with
  | true => exact p.1 rfl
  | false => exact p.2 rfl
theorem sk_asg {g : DG} (p : OK (a e h) fun d h1 => ∃ e2 h2, g d e h1 = some (e2, h2) ∧ Qn e2 h2) : SOK (sAsg a g e h) Qn Qr := by
  refine SOK.toS (p.imp fun d h1 ⟨e2, h2, q, p⟩ => ?_)
  rw [q]
  exact p
theorem sk_par {i j : Nat} {ms : DA} (p : OK (ms e h) fun l h1 => ∃ x y, l = [x, y] ∧ Qn ((e.set i (some x)).set j (some y)) h1) : SOK (sPar i j ms e h) Qn Qr := by
  refine SOK.toS (p.imp fun l h1 ⟨x, y, q, p⟩ => ?_)
  subst q
  exact p
theorem sk_par3 {i j l : Nat} {ms : DA} (p : OK (ms e h) fun q h1 => ∃ x y z, q = [x, y, z] ∧ Qn (((e.set i (some x)).set j (some y)).set l (some z)) h1) : SOK (sPar3 i j l ms e h) Qn Qr := by
  refine SOK.toS (p.imp fun l h1 ⟨x, y, z, q, p⟩ => ?_)
  subst q
  exact p
/-- a for over what is fixed -/
theorem sk_for_at {s : Src} {g : DG} {b : DS} (N : Nat) (I : Nat → DEnv → HS → Prop) (step : ∀ i e h, i < N → I i e h → ∃ d, s.get h i = some (some d) ∧ ∃ e1 h1, g d e h = some (e1, h1) ∧ SOK (b e1 h1) (I (i + 1)) Qr)
    (stop : ∀ e h, I N e h → s.get h N = some none ∧ Qn e h) : ∀ (n i : Nat) (e : DEnv) (h : HS), N - i < n → i ≤ N → I i e h → SOK (forGo s g b n i e h) Qn Qr
  | 0, i, e, h, hn, _, _ => absurd hn (Nat.not_lt_zero _)
  | n + 1, i, e, h, hn, hi, p => by
    unfold forGo
    by_cases c : i < N
    · obtain ⟨d, q, e1, h1, qg, z⟩ := step i e h c p
      rw [q]
      simp only [qg]
      cases w : b e1 h1 with
      | next e2 h2 => rw [w] at z; exact sk_for_at N I step stop n (i + 1) e2 h2 (by omega) c z
      | cont e2 h2 => rw [w] at z; exact z.elim
      | ret d h2 => rw [w] at z; exact z
      | brk e2 h2 => rw [w] at z; exact z.elim
      | exc er e2 h2 => rw [w] at z; exact z.elim
      | stuck => rw [w] at z; exact z.elim
    · have e' : i = N := by omega
      subst e'
      obtain ⟨q, z⟩ := stop e h p
      rw [q]
      exact z
theorem sk_for {m : DI} {g : DG} {b : DS} (p : OK (m e h) fun s h1 => ∃ (N : Nat) (I : Nat → DEnv → HS → Prop), N ≤ s.size h1 ∧ I 0 e h1 ∧ (∀ i e h, i < N → I i e h → ∃ d, s.get h i = some (some d) ∧ ∃ e1 h1, g d e h = some (e1, h1) ∧ SOK (b e1 h1) (I (i + 1)) Qr) ∧
    (∀ e h, I N e h → s.get h N = some none ∧ Qn e h)) : SOK (sFor m g b e h) Qn Qr := by
  refine SOK.toS (p.imp fun s h1 ⟨N, I, hN, i0, step, stop⟩ => ?_)
  exact sk_for_at N I step stop _ 0 e h1 (by omega) (Nat.zero_le _) i0
/-- a comprehension over what is fixed: the new cell is k -/
theorem ok_lc {m : DI} {g : DG} {tt : DT} {te : DE} {vs : List Nat} {Q : D → HS → Prop} (p : OK (m e h) fun s h1 => ∃ (N : Nat) (I : Nat → HS → Prop), N ≤ s.size h1 ∧ I 0 (h1 ++ [[]]) ∧
    (∀ i h, i < N → I i h → ∃ d, s.get h i = some (some d) ∧ ∃ e1 h2, g d (wipeD e vs) h = some (e1, h2) ∧ OK (tt e1 h2) fun b h3 => (b = true → OK (te e1 h3) fun y h4 => ∃ acc, h4[h1.length]? = some acc ∧ acc.length < 100000 ∧ I (i + 1) (h4.set h1.length (acc ++ [y]))) ∧ (b = false → I (i + 1) h3)) ∧
    (∀ h, I N h → s.get h N = some none ∧ Q (.ref h1.length) h)) : OK (dLc m g tt te vs e h) Q := by
  unfold dLc
  refine OK.bind (p.imp fun s h1 ⟨N, I, hN, i0, step, stop⟩ => ?_)
  have key : ∀ (n i : Nat) (h : HS), N - i < n → i ≤ N → I i h → OK (lcGo s g tt te h1.length (wipeD e vs) n i h) Q := by
    intro n
    induction n with
    | zero => intro i h hn; exact absurd hn (Nat.not_lt_zero _)
    | succ n ih =>
      intro i h hn hi p
      unfold lcGo
      by_cases c : i < N
      · obtain ⟨d, q, e1, h2, qg, z⟩ := step i h c p
        rw [q]
        simp only [qg]
        obtain ⟨b, h3, q3, y, n3⟩ := z.ok
        rw [q3]
        show OK (if b = true then (te e1 h3).quiet.bind fun y h4 => ofOpt (h4[h1.length]?) fun acc => if acc.length < 100000 then lcGo s g tt te h1.length (wipeD e vs) n (i + 1) (h4.set h1.length (acc ++ [y])) else .stuck else lcGo s g tt te h1.length (wipeD e vs) n (i + 1) h3) Q
        cases b with
        | false => exact ih (i + 1) h3 (by omega) c (n3 rfl)
        | true =>
          obtain ⟨v, h4, q4, acc, qa, za, i4⟩ := (y rfl).ok
          rw [if_pos rfl, q4]
          show OK (ofOpt (h4[h1.length]?) fun acc => if acc.length < 100000 then lcGo s g tt te h1.length (wipeD e vs) n (i + 1) (h4.set h1.length (acc ++ [v])) else .stuck) Q
          rw [qa]
          show OK (if acc.length < 100000 then lcGo s g tt te h1.length (wipeD e vs) n (i + 1) (h4.set h1.length (acc ++ [v])) else .stuck) Q
          rw [if_pos za]
          exact ih (i + 1) _ (by omega) c i4
      · have e' : i = N := by omega
        subst e'
        obtain ⟨q, z⟩ := stop h p
        rw [q]
        exact z
  exact key _ 0 _ (by omega) (Nat.zero_le _) i0
theorem ok_yes {Q : Bool → HS → Prop} (p : Q true h) : OK (dYes e h) Q := p
theorem ok_src {Q : Src → HS → Prop} (p : OK (a e h) fun d h1 => (∃ l, d = .tup l ∧ Q (.lst l) h1) ∨ (∃ l, d = .rol l ∧ Q (.lst l) h1) ∨ ∃ n, d = .ref n ∧ n < h1.length ∧ Q (.cell n) h1) : OK (dSrc a e h) Q := by
  unfold dSrc
  refine OK.bind (p.imp fun d h1 p => ?_)
  rcases p with ⟨l, rfl, p⟩ | ⟨l, rfl, p⟩ | ⟨n, rfl, z, p⟩
  · exact p
  · exact p
  · show OK (if n < h1.length then .ok (.cell n) h1 else .stuck) Q
    rw [if_pos z]
    exact p
theorem ok_rng1 {ms : DA} {Q : Src → HS → Prop} (p : OK (ms e h) fun l h1 => ∃ j, l = [.int j] ∧ -(2 ^ 62) ≤ j ∧ j < 2 ^ 62 ∧ Q (.rng 0 j.toNat) h1) : OK (dRng1 ms e h) Q := by
  unfold dRng1
  refine OK.bind (p.imp fun l h1 ⟨j, q, z1, z2, p⟩ => ?_)
  subst q
  show OK (if RngOk j then .ok (.rng 0 j.toNat) h1 else .stuck) Q
  rw [if_pos ⟨z1, z2⟩]
  exact p
theorem ok_rng2 {ms : DA} {Q : Src → HS → Prop} (p : OK (ms e h) fun l h1 => ∃ i j, l = [.int i, .int j] ∧ (-(2 ^ 62) ≤ i ∧ i < 2 ^ 62 ∧ -(2 ^ 62) ≤ j ∧ j < 2 ^ 62) ∧ Q (.rng i (j - i).toNat) h1) : OK (dRng2 ms e h) Q := by
  unfold dRng2
  refine OK.bind (p.imp fun l h1 ⟨i, j, q, z, p⟩ => ?_)
  subst q
  show OK (if RngOk i ∧ RngOk j then .ok (.rng i (j - i).toNat) h1 else .stuck) Q
  rw [if_pos ⟨⟨z.1, z.2.1⟩, z.2.2⟩]
  exact p
theorem ok_zip {ms : DA} {Q : Src → HS → Prop} (p : OK (ms e h) fun l h1 => ∃ x y, l = [.tup x, .tup y] ∧ Q (.zip x y) h1) : OK (dZip ms e h) Q := by
  unfold dZip
  refine OK.bind (p.imp fun l h1 ⟨x, y, q, p⟩ => ?_)
  subst q
  exact p
theorem ok_zipc {ms : DA} {Q : Src → HS → Prop} (p : OK (ms e h) fun l h1 => ∃ n m, l = [.ref n, .ref m] ∧ n < h1.length ∧ m < h1.length ∧ Q (.zipc n m) h1) : OK (dZip ms e h) Q := by
  unfold dZip
  refine OK.bind (p.imp fun l h1 ⟨n, m, q, a, b, p⟩ => ?_)
  subst q
  show OK (if n < h1.length ∧ m < h1.length then _ else _) Q
  rw [if_pos ⟨a, b⟩]
  exact p
/-- a def's run -/
theorem ok_run {N : Nat} {m : DS} {ds : List D} {Q : D → HS → Prop} (p : SOK (m (ds.map some ++ List.replicate (N - ds.length) none) h) (fun _ h => Q .non h) Q) : OK (run N m ds h) Q := by
  unfold run
  cases z : m (ds.map some ++ List.replicate (N - ds.length) none) h with
  | next e' h' => rw [z] at p; exact p
  | ret d h' => rw [z] at p; exact p
  | _ => rw [z] at p; exact p
end
/-! operations where a condition is asked -/
theorem opMul_i {i j : Int} {h : HS} (c : MulOk i j) : opMul (.int i) (.int j) h = some (.int (i * j), h) := if_pos c
theorem opDiv_f {i j : Int} {h : HS} (c : j ≠ 0 ∧ j.natAbs.log2 < 9000) : opDiv (.int i) (.int j) h = some (.int (i.fdiv j), h) := if_pos c
theorem opDiv_i {i j : Int} {h : HS} (c : 0 < j ∧ j.natAbs.log2 < 9000) : opDiv (.int i) (.int j) h = some (.int (i / j), h) := by
  rw [← Int.fdiv_eq_ediv_of_nonneg i (by omega)]
  exact opDiv_f ⟨by omega, c.2⟩
theorem opMod_i {i j : Int} {h : HS} (c : 0 < j) : opMod (.int i) (.int j) h = some (.int (i % j), h) := if_pos c
theorem opIx_r {n : Nat} {i : Int} {h : HS} {l : List D} {d : D} (q : h[n]? = some l) (q2 : atI l i = some d) : opIx (.ref n) (.int i) h = some (d, h) := by
  show (h[n]?).bind _ = _
  rw [q]
  show (atI l i).bind _ = _
  rw [q2]
  rfl
theorem opIx_t {i : Int} {h : HS} {l : List D} {d : D} (q2 : atI l i = some d) : opIx (.tup l) (.int i) h = some (d, h) := by
  show (atI l i).bind _ = _
  rw [q2]
  rfl
theorem opEq_i {i j : Int} {h : HS} : opEq (.int i) (.int j) h = some (.bl (i == j), h) := by
  simp [opEq, opEqB, opEqP, toP, SeqAt.shaped, PyData.canLay0, PyData.depth, PyData.eqv]
theorem opNe_i {i j : Int} {h : HS} : opNe (.int i) (.int j) h = some (.bl (!(i == j)), h) := by
  simp [opNe, opEqB, opEqP, toP, SeqAt.shaped, PyData.canLay0, PyData.depth, PyData.eqv]
theorem opEq_s {a b : Str} {h : HS} : opEq (.str a) (.str b) h = some (.bl (a == b), h) := rfl
theorem opNe_s {a b : Str} {h : HS} : opNe (.str a) (.str b) h = some (.bl (!(a == b)), h) := rfl
/-- the lists of iL -/
def iL (l : List Int) : List D := l.map D.int
theorem allInt_il : ∀ l : List Int, allInt (iL l) = some l
  | [] => rfl
  | i :: l => by
    show (asInt (.int i)).bind _ = _
    have ih := allInt_il l
    unfold iL at ih
    show (allInt (l.map D.int)).bind _ = _
    rw [ih]
    rfl
theorem allInt_eq : ∀ {l : List D} {ns : List Int}, allInt l = some ns → l = iL ns
  | [], ns, e => by cases e; rfl
  | d :: l, ns, e => by
    obtain ⟨i, e1, e2⟩ := Option.bind_eq_some_iff.mp (show (asInt d).bind _ = some ns from e)
    obtain ⟨r, e3, e4⟩ := Option.bind_eq_some_iff.mp e2
    cases e4
    rw [asInt_eq e1, allInt_eq e3]
    rfl
end PI

/-! rows of whole numbers: their greatest common divisor, their first number, reduced rows -/
namespace PI
open PySem L2 PySem.Spec
theorem get_lt {α : Type} {l : List α} {i : Nat} (h : i < l.length) : ∃ x, l[i]? = some x := ⟨l[i], List.getElem?_eq_getElem h⟩
def gcdL (ns : List Int) : Int := ns.foldl (fun c n => ((Nat.gcd c.natAbs n.natAbs : Nat) : Int)) 0
def lead (ns : List Int) : Int := (ns.find? (fun n => !(n == 0))).getD 0
def mulL (k : Int) (ns : List Int) : List Int := ns.map fun x => k * x
def sgn (ns : List Int) : Int := if lead ns < 0 then -1 else 1
def redF (ns : List Int) : List Int := if gcdL ns = 0 then ns else ns.map fun x => sgn ns * x / gcdL ns
def facN (ns : List Int) : Int := sgn ns * gcdL ns
def Red (ns : List Int) : Prop := gcdL ns = 1 ∧ 0 < lead ns
def Nz (ns : List Int) : Prop := ∃ x ∈ ns, x ≠ 0
theorem gcdL_take {ns : List Int} {i : Nat} {x : Int} (h : ns[i]? = some x) : gcdL (ns.take (i + 1)) = ((Nat.gcd (gcdL (ns.take i)).natAbs x.natAbs : Nat) : Int) := by
  unfold gcdL
  rw [List.take_add_one, h, Option.toList_some, List.foldl_append]
  rfl
theorem lead_take {ns : List Int} {i : Nat} {x : Int} (h : ns[i]? = some x) : lead (ns.take (i + 1)) = if lead (ns.take i) = 0 then x else lead (ns.take i) := by
  unfold lead
  rw [List.take_add_one, h, Option.toList_some, List.find?_append]
  cases q : (ns.take i).find? (fun n => !(n == 0)) with
  | none =>
    simp only [Option.none_or, Option.getD_none, List.find?_cons, List.find?_nil]
    by_cases c : x = 0
    · subst c; rfl
    · have : (!(x == 0)) = true := by simpa using c
      rw [this]
      rfl
  | some y =>
    have hy := List.find?_some q
    have : y ≠ 0 := by simpa using hy
    simp [this]
theorem nat_dvd {n : Nat} {x : Int} (h : n ∣ x.natAbs) : ((n : Nat) : Int) ∣ x := Int.dvd_natAbs.mp (Int.ofNat_dvd.mpr h)
theorem gcdL_nn (ns : List Int) : 0 ≤ gcdL ns := by
  have e : ns = ns.take ns.length := by simp
  cases n : ns.length with
  | zero => rw [List.length_eq_zero_iff.mp n]; exact Int.le_refl _
  | succ k =>
    obtain ⟨x, hx⟩ := get_lt (l := ns) (i := k) (by omega)
    rw [e, n, gcdL_take hx]
    omega
theorem gcdL_dvd (ns : List Int) : ∀ (i : Nat) (x : Int), ns[i]? = some x → gcdL ns ∣ x := by
  have key : ∀ k, k ≤ ns.length → ∀ (i : Nat) (x : Int), i < k → ns[i]? = some x → gcdL (ns.take k) ∣ x := by
    intro k
    induction k with
    | zero => intro _ i x c; omega
    | succ k ih =>
      intro hk i x c hx
      obtain ⟨y, hy⟩ := get_lt (l := ns) (i := k) (by omega)
      rw [gcdL_take hy]
      by_cases q : i = k
      · subst q
        rw [hx] at hy
        cases hy
        exact nat_dvd (Nat.gcd_dvd_right _ _)
      · have z := ih (by omega) i x (by omega) hx
        refine Int.dvd_trans ?_ z
        exact nat_dvd (Nat.gcd_dvd_left _ _)
  intro i x h
  have c : i < ns.length := (List.getElem?_eq_some_iff.mp h).1
  have := key ns.length (Nat.le_refl _) i x c h
  rwa [List.take_length] at this
theorem gcdL_mem {ns : List Int} {x : Int} (h : x ∈ ns) : gcdL ns ∣ x := by
  obtain ⟨i, hi⟩ := List.mem_iff_getElem?.mp h
  exact gcdL_dvd ns i x hi
theorem gcdL_le {ns : List Int} {B : Nat} (hB : ∀ x ∈ ns, x.natAbs ≤ B) : (gcdL ns).natAbs ≤ B := by
  have key : ∀ k, k ≤ ns.length → (gcdL (ns.take k)).natAbs ≤ B := by
    intro k
    induction k with
    | zero => intro _; exact Nat.zero_le _
    | succ k ih =>
      intro hk
      obtain ⟨y, hy⟩ := get_lt (l := ns) (i := k) (by omega)
      rw [gcdL_take hy]
      have := ih (by omega)
      have h2 := hB y (List.mem_of_getElem? hy)
      show Nat.gcd _ _ ≤ B
      by_cases c : y.natAbs = 0
      · rw [c, Nat.gcd_zero_right]; exact this
      · exact Nat.le_trans (Nat.gcd_le_right _ (Nat.pos_of_ne_zero c)) h2
  have := key ns.length (Nat.le_refl _)
  rwa [List.take_length] at this
theorem gcd_zero {ns : List Int} (h : gcdL ns = 0) : ∀ x ∈ ns, x = 0 := by
  intro x hx
  have := gcdL_mem hx
  rw [h] at this
  exact Int.zero_dvd.mp this
theorem zero_gcd {ns : List Int} (h : ∀ x ∈ ns, x = 0) : gcdL ns = 0 := by
  have : (gcdL ns).natAbs ≤ 0 := gcdL_le fun x hx => by rw [h x hx]; exact Nat.le_refl _
  omega
theorem Nz.gcd {ns : List Int} (h : Nz ns) : 0 < gcdL ns := by
  obtain ⟨x, hx, h0⟩ := h
  have := gcdL_nn ns
  by_cases c : gcdL ns = 0
  · exact absurd (gcd_zero c x hx) h0
  · omega
theorem nz_of_gcd {ns : List Int} (h : gcdL ns ≠ 0) : Nz ns := by
  by_cases c : ∃ x ∈ ns, x ≠ 0
  · exact c
  · exact absurd (zero_gcd fun x hx => by
      by_cases z : x = 0
      · exact z
      · exact absurd ⟨x, hx, z⟩ c) h
theorem not_nz {ns : List Int} (h : ¬ Nz ns) : ∀ x ∈ ns, x = 0 := fun x hx => by
  by_cases z : x = 0
  · exact z
  · exact absurd ⟨x, hx, z⟩ h
theorem lead_mem {ns : List Int} (h : Nz ns) : lead ns ∈ ns ∧ lead ns ≠ 0 := by
  cases q : ns.find? (fun n => !(n == 0)) with
  | none =>
    obtain ⟨x, hx, h0⟩ := h
    have := List.find?_eq_none.mp q x hx
    exact absurd (by simpa using this) h0
  | some y =>
    have e : lead ns = y := by unfold lead; rw [q]; rfl
    rw [e]
    refine ⟨List.mem_of_find?_eq_some q, ?_⟩
    have := List.find?_some q
    simpa using this
theorem lead_zero {ns : List Int} (h : ¬ Nz ns) : lead ns = 0 := by
  have e2 : ns.find? (fun n => !(n == 0)) = none := List.find?_eq_none.mpr fun y hy => by simp [not_nz h y hy]
  unfold lead
  rw [e2]
  rfl
theorem Red.nz {ns : List Int} (h : Red ns) : Nz ns := nz_of_gcd (by rw [h.1]; decide)
theorem sgn_cases (ns : List Int) : sgn ns = 1 ∨ sgn ns = -1 := by
  unfold sgn
  split
  · exact .inr rfl
  · exact .inl rfl
theorem sgn_small (ns : List Int) : -(2 ^ 64) < sgn ns ∧ sgn ns < 2 ^ 64 := by
  rcases sgn_cases ns with h | h <;> rw [h] <;> decide
theorem gcdL_mul (k : Int) (ns : List Int) : gcdL (mulL k ns) = (k.natAbs : Int) * gcdL ns := by
  unfold gcdL mulL
  have key : ∀ (l : List Int) (c : Nat), (l.map fun x => k * x).foldl (fun c n => ((Nat.gcd c.natAbs n.natAbs : Nat) : Int)) ((k.natAbs : Int) * (c : Int)) = (k.natAbs : Int) * l.foldl (fun c n => ((Nat.gcd c.natAbs n.natAbs : Nat) : Int)) (c : Int) := by
    intro l
    induction l with
    | nil => intro c; rfl
    | cons x l ih =>
      intro c
      simp only [List.map_cons, List.foldl_cons]
      have e : Nat.gcd ((k.natAbs : Int) * (c : Int)).natAbs (k * x).natAbs = k.natAbs * Nat.gcd (c : Int).natAbs x.natAbs := by
        rw [Int.natAbs_mul, Int.natAbs_mul, Int.natAbs_natCast, Int.natAbs_natCast, Nat.gcd_mul_left]
      rw [e]
      have := ih (Nat.gcd (c : Int).natAbs x.natAbs)
      push_cast at this ⊢
      exact this
  have := key ns 0
  simpa using this
theorem lead_mul {k : Int} (hk : k ≠ 0) (ns : List Int) : lead (mulL k ns) = k * lead ns := by
  unfold lead mulL
  rw [List.find?_map]
  have e : (fun n : Int => !(n == 0)) ∘ (fun x => k * x) = fun n => !(n == 0) := by
    funext x
    show (!(k * x == 0)) = !(x == 0)
    by_cases c : x = 0
    · rw [c, Int.mul_zero]
    · have c2 : k * x ≠ 0 := fun z => by
        rcases Int.mul_eq_zero.mp z with q | q
        · exact hk q
        · exact c q
      have e1 : (k * x == 0) = false := by simpa using c2
      have e2 : (x == 0) = false := by simpa using c
      rw [e1, e2]
  rw [e]
  cases ns.find? (fun n => !(n == 0)) with
  | none => simp
  | some y => rfl
theorem mulL_inj {k : Int} (hk : k ≠ 0) {a b : List Int} (h : mulL k a = mulL k b) : a = b := by
  unfold mulL at h
  exact (List.map_inj_right fun x y e => Int.eq_of_mul_eq_mul_left hk e).mp h
theorem mulL_mulL {k m : Int} {a : List Int} : mulL k (mulL m a) = mulL (k * m) a := by
  simp [mulL, Int.mul_assoc]
theorem mulL_one {a : List Int} : mulL 1 a = a := by simp [mulL]
theorem mulL_len {k : Int} {a : List Int} : (mulL k a).length = a.length := by simp [mulL]
theorem facN_abs (ns : List Int) : ((facN ns).natAbs : Int) = gcdL ns := by
  have := gcdL_nn ns
  unfold facN
  rcases sgn_cases ns with h | h <;> rw [h] <;> omega
theorem facN_nz {ns : List Int} (h : Nz ns) : facN ns ≠ 0 := by
  have := facN_abs ns
  have := h.gcd
  omega
theorem redF_len {ns : List Int} : (redF ns).length = ns.length := by
  unfold redF
  split <;> simp
theorem redF_get {ns : List Int} (h : Nz ns) {y : Int} (hy : y ∈ ns) : facN ns * (sgn ns * y / gcdL ns) = y := by
  have c := h.gcd
  obtain ⟨q, hq⟩ := gcdL_mem hy
  have e : sgn ns * y / gcdL ns = sgn ns * q := by
    conv => lhs; rw [hq]
    rw [Int.mul_left_comm, Int.mul_ediv_cancel_left _ (by omega)]
  rw [e]
  unfold facN
  rcases sgn_cases ns with s | s <;> rw [s]
  · rw [Int.one_mul, Int.one_mul, ← hq]
  · rw [Int.mul_assoc, Int.mul_left_comm (gcdL ns), ← hq]
    omega
/-- a row is its factor times its reduced row -/
theorem redF_back {ns : List Int} (h : Nz ns) : mulL (facN ns) (redF ns) = ns := by
  unfold redF mulL
  rw [if_neg (by have := h.gcd; omega), List.map_map]
  conv => rhs; rw [← List.map_id ns]
  exact List.map_congr_left fun y hy => redF_get h hy
theorem Nz.mul {k : Int} (hk : k ≠ 0) {ns : List Int} (h : Nz ns) : Nz (mulL k ns) := by
  obtain ⟨x, hx, h0⟩ := h
  exact ⟨k * x, List.mem_map.mpr ⟨x, hx, rfl⟩, fun z => by
    rcases Int.mul_eq_zero.mp z with c | c
    · exact hk c
    · exact h0 c⟩
theorem red_redF {ns : List Int} (h : Nz ns) : Red (redF ns) := by
  have f0 := facN_nz h
  have e := redF_back h
  have g : gcdL ns = ((facN ns).natAbs : Int) * gcdL (redF ns) := by rw [← gcdL_mul, e]
  have l : lead ns = facN ns * lead (redF ns) := by rw [← lead_mul f0, e]
  have gp := h.gcd
  have fa := facN_abs ns
  refine ⟨?_, ?_⟩
  · rw [fa] at g
    have : gcdL ns * 1 = gcdL ns * gcdL (redF ns) := by rw [Int.mul_one]; exact g
    exact (Int.eq_of_mul_eq_mul_left (by omega) this).symm
  · have l0 := (lead_mem h).2
    unfold facN sgn at l
    have p : ∀ z : Int, 0 < gcdL ns * z → 0 < z := fun z hz => Int.pos_of_mul_pos_right hz (by omega)
    split at l
    · apply p
      rw [Int.neg_one_mul, Int.neg_mul] at l
      omega
    · apply p
      rw [Int.one_mul] at l
      omega
theorem red_unique {a b : List Int} {k m : Int} (ha : Red a) (hb : Red b) (hk : k ≠ 0) (hm : m ≠ 0) (h : mulL k a = mulL m b) : a = b := by
  have g : ((k.natAbs : Nat) : Int) * gcdL a = ((m.natAbs : Nat) : Int) * gcdL b := by rw [← gcdL_mul, ← gcdL_mul, h]
  have l : k * lead a = m * lead b := by rw [← lead_mul hk, ← lead_mul hm, h]
  rw [ha.1, hb.1] at g
  have e : k = m := by
    have c : k = m ∨ k = -m := by omega
    rcases c with c | c
    · exact c
    · exfalso
      have la := ha.2
      have lb := hb.2
      rw [c, Int.neg_mul] at l
      have z : m * (lead b + lead a) = 0 := by rw [Int.mul_add]; omega
      rcases Int.mul_eq_zero.mp z with z | z <;> omega
  rw [e] at h
  exact mulL_inj hm h
theorem redF_one {ns : List Int} (h : Red ns) : redF ns = ns := by
  unfold redF
  rw [h.1, if_neg (by decide)]
  have := h.2
  have : sgn ns = 1 := by unfold sgn; rw [if_neg (by omega)]
  rw [this]
  simp
theorem redF_mul {k : Int} (hk : k ≠ 0) {ns : List Int} (h : Nz ns) : redF (mulL k ns) = redF ns := by
  have h2 := h.mul hk
  refine red_unique (k := facN (mulL k ns)) (m := k * facN ns) (red_redF h2) (red_redF h) (facN_nz h2) ?_ ?_
  · intro z
    rcases Int.mul_eq_zero.mp z with c | c
    · exact hk c
    · exact facN_nz h c
  · rw [redF_back h2, ← mulL_mulL, redF_back h]
theorem redF_back_red {ns : List Int} (h : redF ns = ns) (h0 : Nz ns) : Red ns := by
  have := red_redF h0
  rwa [h] at this
theorem facN_red {ns : List Int} (h : Red ns) : facN ns = 1 := by
  unfold facN
  rw [h.1]
  have := h.2
  have : sgn ns = 1 := by unfold sgn; rw [if_neg (by omega)]
  rw [this]
  rfl
/-- two reduced rows without a minor other than 0 are the same -/
theorem red_minors {a b : List Int} (ha : Red a) (hb : Red b) (hl : a.length = b.length) (h : ∀ (i j : Nat) (x y z w : Int), a[i]? = some x → a[j]? = some y → b[i]? = some z → b[j]? = some w → x * w = y * z) : a = b := by
  obtain ⟨x, hx, x0⟩ := ha.nz
  obtain ⟨i, hi⟩ := List.mem_iff_getElem?.mp hx
  obtain ⟨z, hz⟩ := get_lt (l := b) (i := i) (by rw [← hl]; exact (List.getElem?_eq_some_iff.mp hi).1)
  have e : mulL x b = mulL z a := by
    refine List.ext_getElem? fun j => ?_
    unfold mulL
    rw [List.getElem?_map, List.getElem?_map]
    by_cases c : j < a.length
    · obtain ⟨y, hy⟩ := get_lt c
      obtain ⟨w, hw⟩ := get_lt (l := b) (i := j) (by omega)
      rw [hy, hw]
      show some (x * w) = some (z * y)
      rw [h i j x y z w hi hy hz hw, Int.mul_comm]
    · rw [List.getElem?_eq_none (by omega), List.getElem?_eq_none (by omega)]
      rfl
  have z0 : z ≠ 0 := by
    intro c
    rw [c] at e
    have nb := (hb.nz.mul x0)
    rw [e] at nb
    obtain ⟨w, hw, w0⟩ := nb
    obtain ⟨y, _, rfl⟩ := List.mem_map.mp hw
    exact w0 (Int.zero_mul _)
  exact (red_unique hb ha x0 z0 e).symm
end PI

/-! data of every law: rows, slices, cells, comparing, showing -/
namespace PI
open PySem L2 PySem.Spec
theorem il_get {ns : List Int} {i : Nat} {x : Int} (h : ns[i]? = some x) : (iL ns)[i]? = some (.int x) := by
  unfold iL
  rw [List.getElem?_map, h]
  rfl
theorem il_len {ns : List Int} : (iL ns).length = ns.length := by simp [iL]
theorem isi_eq {d : D} {t c : String} {b : Bool} {h : HS} (h1 : tyName d = some t) (h2 : isSub t c = some b) : opIsi [d, .ty c] h = some (.bl b, h) := by
  show (tyName d).bind _ = _
  rw [h1]
  show (isSub t c).bind _ = _
  rw [h2]
  rfl
def Known (d : D) : Prop := (tyName d).isSome = true
theorem Known.ty {d : D} (k : Known d) : ∃ t, tyName d = some t := Option.isSome_iff_exists.mp k
theorem allBl_map (l : List D) (f : D → Bool) : allBl (l.map fun d => .bl (f d)) = some (l.map f) := by
  induction l with
  | nil => rfl
  | cons d l ih =>
    show (asBl (.bl (f d))).bind _ = _
    show (allBl (l.map fun d => .bl (f d))).bind _ = _
    rw [ih]
    rfl
theorem allInt_iff : ∀ l : List D, (allInt l).isSome = l.all fun d => (asInt d).isSome
  | [] => rfl
  | d :: l => by
    have ih := allInt_iff l
    rw [List.all_cons, ← ih]
    show ((asInt d).bind fun i => (allInt l).bind fun r => some (i :: r)).isSome = _
    cases asInt d <;> cases allInt l <;> rfl
theorem map_take {α β : Type} {f : α → β} {l : List α} {i : Nat} {x : α} (h : l[i]? = some x) : (l.take (i + 1)).map f = (l.take i).map f ++ [f x] := by
  rw [List.take_add_one, h]
  simp
theorem getapp {h g : HS} {x : List D} : (h ++ [x])[h.length]? = some x := by simp
theorem setapp {h : HS} {x y : List D} : (h ++ [x]).set h.length y = h ++ [y] := by
  rw [List.set_append_right _ _ (Nat.le_refl _)]
  simp
theorem all_eq {n : Nat} {h : HS} {l : List D} {f : D → Bool} (q : h[n]? = some (l.map fun d => .bl (f d))) : opAll [.ref n] h = some (.bl (l.all f), h) := by
  show (h[n]?).bind _ = _
  rw [q]
  show (allBl (l.map fun d => .bl (f d))).bind _ = _
  rw [allBl_map]
  show some (D.bl ((l.map f).all id), h) = _
  rw [List.all_map]
  rfl
theorem sum_eq {n : Nat} {h : HS} {l : List Int} (q : h[n]? = some (iL l)) : opSum [.ref n] h = some (.int l.sum, h) := by
  show (h[n]?).bind _ = _
  rw [q]
  show (allInt (iL l)).bind _ = _
  rw [allInt_il]
  rfl
theorem zip_get {a b : List Int} {i : Nat} {x y : Int} (h1 : a[i]? = some x) (h2 : b[i]? = some y) : (List.zipWith (· * ·) a b)[i]? = some (x * y) := by
  rw [List.getElem?_zipWith, h1, h2]
theorem il_app {a b : List Int} : iL (a ++ b) = iL a ++ iL b := by simp [iL]
theorem cut_lo {ns : List Int} {k : Nat} : cutD (iL ns) none (some (k : Int)) = iL (ns.take k) := by
  unfold cutD
  rw [HT.sIx_nat, HT.sIx_none, il_len]
  simp only [List.drop_zero, Nat.sub_zero]
  unfold iL
  rw [← List.map_take, List.take_eq_take_iff.mpr]
  omega
theorem cut_hi {ns : List Int} {k : Nat} : cutD (iL ns) (some (k : Int)) none = iL (ns.drop k) := by
  unfold cutD
  rw [HT.sIx_nat, HT.sIx_none, il_len]
  unfold iL
  rw [List.map_drop]
  by_cases c : k ≤ ns.length
  · rw [Nat.min_eq_left c, List.take_of_length_le (by simp)]
  · rw [Nat.min_eq_right (by omega), List.drop_of_length_le (by simp), List.drop_of_length_le (by simp; omega)]
    simp
theorem sk_while {t : DT} {b : DS} {e : DEnv} {h : HS} {Qn : DEnv → HS → Prop} {Qr : D → HS → Prop} (n : Nat) (p : SOK (whileGo t b n e h) Qn Qr) : SOK (sWhile t b e h) Qn Qr := by
  rw [sWhile_eq (n := n) (fun z => by rw [z] at p; exact p)]
  exact p
theorem sk_wstep {t : DT} {b : DS} {n : Nat} {e : DEnv} {h : HS} {Qn : DEnv → HS → Prop} {Qr : D → HS → Prop} (p : OK (t e h) fun x h1 => (x = true → SOK (b e h1) (fun e2 h2 => SOK (whileGo t b n e2 h2) Qn Qr) Qr) ∧ (x = false → Qn e h1)) : SOK (whileGo t b (n + 1) e h) Qn Qr := by
  unfold whileGo
  refine SOK.toS (p.imp fun x h1 p => ?_)
  cases x with
  | false => exact p.2 rfl
  | true =>
    rw [if_pos rfl]
    have p := p.1 rfl
    cases z : b e h1 with
    | next e' h' => rw [z] at p; exact p
    | ret d h' => rw [z] at p; exact p
    | _ => rw [z] at p; exact p.elim
theorem abs_nat (a : Int) : (if a < 0 then -a else a) = ((a.natAbs : Nat) : Int) := by
  split <;> omega
theorem opTuple_ref {n : Nat} {h : HS} {l : List D} (q : h[n]? = some l) : opTuple [.ref n] h = some (.tup l, h) := by
  show (h[n]?).bind _ = _
  rw [q]
  rfl
theorem get_set {h : HS} {n : Nat} {l m : List D} (q : h[n]? = some l) : (h.set n m)[n]? = some m := by
  rw [List.getElem?_set_self]
  exact (List.getElem?_eq_some_iff.mp q).1
theorem gsub {o i : DE} {e : DEnv} {h h' : HS} {a : Nat} {k : Int} {d : D} (ho : o e h = .ok (.ref a) h) (hi : i e h = .ok (.int k) h) (hs : setD (.ref a) (.int k) d h = some h') : gSubD o i d e h = some (e, h') := by
  unfold gSubD
  rw [ho]
  show ((i e h).val.bind fun y => (setD (.ref a) y.1 d y.2).bind fun h3 => some (e, h3)) = _
  rw [hi]
  show ((setD (.ref a) (.int k) d h).bind fun h3 => some (e, h3)) = _
  rw [hs]
  rfl
theorem setD_at {h : HS} {n j : Nat} {k : Int} {l : List D} {d : D} (q : h[n]? = some l) (hj : ixN l.length k = some j) : setD (.ref n) (.int k) d h = some (h.set n (l.set j d)) := by
  show (h[n]?).bind _ = _
  rw [q]
  show (ixN l.length k).bind _ = _
  rw [hj]
  rfl
theorem opSl_r {n : Nat} {h : HS} {l : List D} {lo hi : Option Int} (q : h[n]? = some l) : opSl (.ref n) lo hi h = some (.ref h.length, h ++ [cutD l lo hi]) := by
  show (h[n]?).bind _ = _
  rw [q]
  rfl
theorem toPW_il {f : D → Option PyData} (hf : ∀ i, f (.int i) = some (.int i)) : ∀ ns : List Int, toPW f (iL ns) = some (ns.map PyData.int)
  | [] => rfl
  | i :: ns => by
    show (f (.int i)).bind _ = _
    rw [hf]
    show (toPW f (iL ns)).bind _ = _
    rw [toPW_il hf ns]
    rfl
theorem toP_int {h : HS} {n : Nat} {i : Int} : toP h n (.int i) = some (.int i) := by cases n <;> rfl
theorem toP_str {h : HS} {n : Nat} {i : Str} : toP h n (.str i) = some (.str i) := by cases n <;> rfl
theorem toP_bl {h : HS} {n : Nat} {i : Bool} : toP h n (.bl i) = some (.bool i) := by cases n <;> rfl
theorem toP_non {h : HS} {n : Nat} : toP h n .non = some .none := by cases n <;> rfl
theorem toP_emp {h : HS} {n : Nat} : toP h n .emp = some (.dict []) := by cases n <;> rfl
theorem toP_il {h : HS} {n : Nat} {ns : List Int} : toP h (n + 1) (.tup (iL ns)) = some (.tuple (ns.map .int)) := by
  show (toPW (toP h n) (iL ns)).map _ = _
  rw [toPW_il fun i => toP_int]
  rfl
theorem lay_ints : ∀ ns : List Int, PyData.canLayAll0 (ns.map .int) = true ∧ PyData.depthAll (ns.map .int) = 0
  | [] => by simp [PyData.canLayAll0, PyData.depthAll]
  | i :: ns => by
    have := lay_ints ns
    simp [PyData.canLayAll0, PyData.depthAll, PyData.canLay0, PyData.depth, this.1, this.2]
theorem shaped_ints {ns : List Int} : SeqAt.shaped (.tuple (ns.map .int)) = true := by
  have := lay_ints ns
  simp [SeqAt.shaped, PyData.canLay0, PyData.depth, this.1, this.2]
theorem eqv_ints : ∀ a b : List Int, PyData.eqvAll (a.map .int) (b.map .int) = (a == b)
  | [], [] => rfl
  | [], _ :: _ => rfl
  | _ :: _, [] => rfl
  | i :: a, j :: b => by
    have := eqv_ints a b
    simp [PyData.eqvAll, PyData.eqv, this]
theorem opNe_il {a b : List Int} {h : HS} : opNe (.tup (iL a)) (.tup (iL b)) h = some (.bl (!(a == b)), h) := by
  show ((toP h 12 (.tup (iL a))).bind fun p => (toP h 12 (.tup (iL b))).bind fun q => if SeqAt.shaped p && SeqAt.shaped q then some (D.bl (if true then !PyData.eqv p q else PyData.eqv p q), h) else none) = _
  rw [toP_il, toP_il]
  simp [shaped_ints, PyData.eqv, eqv_ints]
theorem opEq_il {a b : List Int} {h : HS} : opEq (.tup (iL a)) (.tup (iL b)) h = some (.bl (a == b), h) := by
  show ((toP h 12 (.tup (iL a))).bind fun p => (toP h 12 (.tup (iL b))).bind fun q => if SeqAt.shaped p && SeqAt.shaped q then some (D.bl (if false then !PyData.eqv p q else PyData.eqv p q), h) else none) = _
  rw [toP_il, toP_il]
  simp [shaped_ints, PyData.eqv, eqv_ints]
/-! sizes -/
theorem il_snoc {ns : List Int} {x : Int} : iL ns ++ [.int x] = iL (ns ++ [x]) := by simp [iL]
theorem toPW_mono {f f' : D → Option PyData} (hf : ∀ d p, f d = some p → f' d = some p) : ∀ {l : List D} {ps : List PyData}, toPW f l = some ps → toPW f' l = some ps
  | [], ps, e => e
  | d :: l, ps, e => by
    obtain ⟨p, e1, e2⟩ := Option.bind_eq_some_iff.mp (show (f d).bind _ = some ps from e)
    obtain ⟨qs, e3, e4⟩ := Option.bind_eq_some_iff.mp e2
    show (f' d).bind _ = _
    rw [hf _ _ e1]
    show (toPW f' l).bind _ = _
    rw [toPW_mono hf e3]
    exact e4
theorem toP_mono {h h' : HS} (hh : ∀ (j : Nat) (l : List D), h[j]? = some l → h'[j]? = some l) : ∀ {n m : Nat} {d : D} {p : PyData}, n ≤ m → toP h n d = some p → toP h' m d = some p := by
  intro n
  induction n with
  | zero =>
    intro m d p _ e
    cases d <;> first | (cases e; cases m <;> rfl) | cases e
  | succ n ih =>
    intro m d p c e
    obtain ⟨m, rfl⟩ : ∃ k, m = k + 1 := ⟨m - 1, by omega⟩
    have ih2 : ∀ d p, toP h n d = some p → toP h' m d = some p := fun d p z => ih (by omega) z
    cases d with
    | tup l =>
      obtain ⟨ps, e1, e2⟩ := Option.map_eq_some_iff.mp (show (toPW (toP h n) l).map PyData.tuple = some p from e)
      show (toPW (toP h' m) l).map _ = _
      rw [toPW_mono ih2 e1, ← e2]
      rfl
    | rol l =>
      obtain ⟨ps, e1, e2⟩ := Option.map_eq_some_iff.mp (show (toPW (toP h n) l).map PyData.list = some p from e)
      show (toPW (toP h' m) l).map _ = _
      rw [toPW_mono ih2 e1, ← e2]
      rfl
    | ref a =>
      obtain ⟨l, e0, e⟩ := Option.bind_eq_some_iff.mp (show (h[a]?).bind (fun l => (toPW (toP h n) l).map PyData.list) = some p from e)
      obtain ⟨ps, e1, e2⟩ := Option.map_eq_some_iff.mp e
      show (h'[a]?).bind _ = _
      rw [hh _ _ e0]
      show (toPW (toP h' m) l).map _ = _
      rw [toPW_mono ih2 e1, ← e2]
      rfl
    | ty _ => cases e
    | cls _ => cases e
    | _ => cases e; rfl
def Shown (n k b : Nat) (h : HS) (d : D) : Prop := ∃ p, toP h n d = some p ∧ okP p = true ∧ p.depth ≤ k ∧ p.bulk ≤ b
theorem okP_text (s : String) : okP (.str (Str.ofString s)) = true := by
  simp only [okP, Str.ofString_eq_toList, List.all_eq_true, decide_eq_true_eq]
  intro c hc
  obtain ⟨x, _, rfl⟩ := List.mem_map.mp hc
  have e : (16 : Nat) ^ 8 = 4294967296 := by decide
  have := x.val.toNat_lt
  show x.val.toNat < _
  omega
theorem shown_all {n k b : Nat} {h : HS} : ∀ {l : List D}, (∀ x ∈ l, Shown n k b h x) → ∃ ps, toPW (toP h n) l = some ps ∧ okPs ps = true ∧ PyData.depthAll ps ≤ k ∧ PyData.bulkAll ps ≤ (b + 1) * l.length
  | [], _ => ⟨[], rfl, rfl, by simp [PyData.depthAll], by simp [PyData.bulkAll]⟩
  | d :: l, hl => by
    obtain ⟨p, e1, e2, e3, e4⟩ := hl d (by simp)
    obtain ⟨ps, f1, f2, f3, f4⟩ := shown_all fun x hx => hl x (List.mem_cons_of_mem _ hx)
    refine ⟨p :: ps, ?_, ?_, ?_, ?_⟩
    · show (toP h n d).bind _ = _
      rw [e1]
      show (toPW (toP h n) l).bind _ = _
      rw [f1]
      rfl
    · simp only [okPs, e2, f2, Bool.and_self]
    · simp only [PyData.depthAll]; omega
    · simp only [PyData.bulkAll, List.length_cons]
      rw [Nat.mul_add, Nat.mul_one]
      omega
theorem shown_tup {n k b : Nat} {h : HS} {l : List D} (hl : ∀ x ∈ l, Shown n k b h x) : Shown (n + 1) (k + 1) ((b + 1) * l.length) h (.tup l) := by
  obtain ⟨ps, f1, f2, f3, f4⟩ := shown_all hl
  refine ⟨.tuple ps, ?_, by simpa only [okP] using f2, by simp only [PyData.depth]; omega, by simpa only [PyData.bulk] using f4⟩
  show (toPW (toP h n) l).map _ = _
  rw [f1]
  rfl
theorem shown_ref {n k b r : Nat} {h : HS} {l : List D} (q : h[r]? = some l) (hl : ∀ x ∈ l, Shown n k b h x) : Shown (n + 1) (k + 1) ((b + 1) * l.length) h (.ref r) := by
  obtain ⟨ps, f1, f2, f3, f4⟩ := shown_all hl
  refine ⟨.list ps, ?_, by simpa only [okP] using f2, by simp only [PyData.depth]; omega, by simpa only [PyData.bulk] using f4⟩
  show (h[r]?).bind _ = _
  rw [q]
  show (toPW (toP h n) l).map _ = _
  rw [f1]
  rfl
theorem Shown.up {n k b n' k' b' : Nat} {h h' : HS} {d : D} (s : Shown n k b h d) (hh : ∀ (j : Nat) (l : List D), h[j]? = some l → h'[j]? = some l) (hn : n ≤ n') (hk : k ≤ k') (hb : b ≤ b') : Shown n' k' b' h' d := by
  obtain ⟨p, a1, a2, a3, a4⟩ := s
  exact ⟨p, toP_mono hh hn a1, a2, by omega, by omega⟩
theorem ixN_nat {m a : Nat} (h : a < m) : ixN m (a : Int) = some a := by
  unfold ixN
  rw [if_pos (by omega), if_pos (by omega)]
  rfl
theorem atI_nat {l : List D} {a : Nat} {d : D} (h : l[a]? = some d) : atI l (a : Int) = some d := by
  unfold atI
  rw [ixN_nat (List.getElem?_eq_some_iff.mp h).1]
  exact h
theorem opAdd_t {a b : List D} {h : HS} (c : a.length + b.length ≤ 100000) : opAdd (.tup a) (.tup b) h = some (.tup (a ++ b), h) := if_pos c
theorem opAdd_r {a b : Nat} {l m : List D} {h : HS} (q : h[a]? = some l) (q2 : h[b]? = some m) (c : l.length + m.length ≤ 100000) : opAdd (.ref a) (.ref b) h = some (.ref h.length, h ++ [l ++ m]) := by
  show (h[a]?).bind _ = _
  rw [q]
  show (h[b]?).bind _ = _
  rw [q2]
  exact if_pos c
theorem nat_of {i m : Int} (h0 : 0 ≤ i) (h1 : i < m) : ∃ a : Nat, i = a ∧ (a : Int) < m := by
  obtain ⟨a, rfl⟩ := Int.eq_ofNat_of_zero_le h0
  exact ⟨a, rfl, h1⟩
theorem repr_eq {h : HS} {d : D} {p : PyData} (e : toP h 12 d = some p) (o : okP p = true) (k : p.depth ≤ 40) (b : p.bulk ≤ 8000) : opRepr [d] h = some (.str p.shown, h) := by
  show (toP h 12 d).bind _ = _
  rw [e]
  exact if_pos ⟨o, k, b⟩
theorem pre_get {h h' : HS} (e : ∃ g, h' = h ++ g) : ∀ (j : Nat) (l : List D), h[j]? = some l → h'[j]? = some l := by
  obtain ⟨g, rfl⟩ := e
  intro j l z
  rw [List.getElem?_append_left (List.getElem?_eq_some_iff.mp z).1, z]
theorem repr_cells {h : HS} {l : List D} {b : Nat} (hs : ∀ x ∈ l, Shown 11 39 b h x) (hb : (b + 1) * l.length ≤ 2000) : ∃ T : Str, ∀ (r : Nat) (h' : HS), (∃ g, h' = h ++ g) → h'[r]? = some l → opRepr [.ref r] h' = some (.str T, h') := by
  obtain ⟨ps, f1, f2, f3, f4⟩ := shown_all hs
  refine ⟨(PyData.list ps).shown, fun r h' e q => repr_eq ?_ (by simpa only [okP] using f2) (by simp only [PyData.depth]; omega) (by simp only [PyData.bulk]; omega)⟩
  show (h'[r]?).bind _ = _
  rw [q]
  show (toPW (toP h' 11) l).map _ = _
  rw [toPW_mono (fun d p z => toP_mono (pre_get e) (Nat.le_refl _) z) f1]
  rfl
theorem repr_tup {h : HS} {l : List D} {b : Nat} (hs : ∀ x ∈ l, Shown 11 39 b h x) (hb : (b + 1) * l.length ≤ 2000) : ∃ T : Str, ∀ (h' : HS), (∃ g, h' = h ++ g) → opRepr [.tup l] h' = some (.str T, h') := by
  obtain ⟨ps, f1, f2, f3, f4⟩ := shown_all hs
  refine ⟨(PyData.tuple ps).shown, fun h' e => repr_eq ?_ (by simpa only [okP] using f2) (by simp only [PyData.depth]; omega) (by simp only [PyData.bulk]; omega)⟩
  show (toPW (toP h' 11) l).map _ = _
  rw [toPW_mono (fun d p z => toP_mono (pre_get e) (Nat.le_refl _) z) f1]
  rfl
theorem shown_bl {n k m : Nat} {h : HS} {b : Bool} : Shown n k m h (.bl b) := ⟨_, toP_bl, rfl, by simp [PyData.depth], by simp [PyData.bulk]⟩
theorem pre_app {h h' g : HS} (e : ∃ g, h' = h ++ g) : ∃ g', h' ++ g = h ++ g' := by
  obtain ⟨k, rfl⟩ := e
  exact ⟨k ++ g, by rw [List.append_assoc]⟩
theorem pre_self {h : HS} : ∃ g, h = h ++ g := ⟨[], by simp⟩
end PI
namespace PI
open PySem L2 PySem.Spec
/-! bounds by powers of two -/
def Bd (k : Nat) (x : Int) : Prop := x.natAbs < 2 ^ k
theorem Bd.mono {j k : Nat} {x : Int} (h : Bd j x) (c : j ≤ k) : Bd k x := Nat.lt_of_lt_of_le h (Nat.pow_le_pow_right (by decide) c)
theorem Bd.mul {j k : Nat} {x y : Int} (a : Bd j x) (b : Bd k y) : Bd (j + k) (x * y) := by
  unfold Bd at *
  rw [Int.natAbs_mul, Nat.pow_add]
  by_cases c : y.natAbs = 0
  · rw [c, Nat.mul_zero]
    exact Nat.mul_pos (Nat.two_pow_pos _) (Nat.two_pow_pos _)
  · exact Nat.mul_lt_mul'' a b
theorem two_pow_max (j k : Nat) : 2 ^ j + 2 ^ k ≤ 2 ^ (max j k + 1) := by
  have a : 2 ^ j ≤ 2 ^ (max j k) := Nat.pow_le_pow_right (by decide) (Nat.le_max_left _ _)
  have b : 2 ^ k ≤ 2 ^ (max j k) := Nat.pow_le_pow_right (by decide) (Nat.le_max_right _ _)
  rw [Nat.pow_succ]
  omega
theorem Bd.add {j k : Nat} {x y : Int} (a : Bd j x) (b : Bd k y) : Bd (max j k + 1) (x + y) := by
  unfold Bd at *
  have := two_pow_max j k
  omega
theorem Bd.sub {j k : Nat} {x y : Int} (a : Bd j x) (b : Bd k y) : Bd (max j k + 1) (x - y) := by
  unfold Bd at *
  have := two_pow_max j k
  omega
theorem Bd.neg {j : Nat} {x : Int} (a : Bd j x) : Bd j (-x) := by
  unfold Bd at *
  omega
theorem Bd.log {j : Nat} {x : Int} (a : Bd j x) : x.natAbs.log2 ≤ j := by
  by_cases c : x.natAbs = 0
  · rw [c]
    have : Nat.log2 0 = 0 := by decide
    omega
  · exact Nat.le_of_lt ((Nat.log2_lt c).mpr a)
theorem Bd.ok {j k : Nat} {x y : Int} (a : Bd j x) (b : Bd k y) (c : j + k < 1000000) : MulOk x y := by
  have := a.log
  have := b.log
  exact .inr (.inr (by omega))
theorem Bd.zero {k : Nat} : Bd k 0 := Nat.two_pow_pos k
def BdL (k : Nat) (l : List Int) : Prop := ∀ x ∈ l, Bd k x
theorem BdL.mono {j k : Nat} {l : List Int} (h : BdL j l) (c : j ≤ k) : BdL k l := fun x hx => (h x hx).mono c
theorem natAbs_lt {k : Nat} {x : Int} (h : x.natAbs < 2 ^ k) : Bd k x := h
theorem bdl_nil {k : Nat} : BdL k [] := fun _ h => by cases h
theorem bdl_cons {k : Nat} {x : Int} {l : List Int} (a : Bd k x) (b : BdL k l) : BdL k (x :: l) := fun y hy => by
  rcases List.mem_cons.mp hy with rfl | c
  · exact a
  · exact b y c
/-- the shown of numbers -/
theorem shown_bd {n k m j : Nat} {h : HS} {i : Int} (hi : Bd j i) (hj : j ≤ 1900) : Shown n k m h (.int i) := ⟨_, toP_int, (by simp only [okP, decide_eq_true_eq]; have := hi.log; omega), by simp [PyData.depth], by simp [PyData.bulk]⟩
theorem redF_bd {k : Nat} {ns : List Int} (h : BdL k ns) : BdL k (redF ns) := by
  unfold redF
  by_cases c : gcdL ns = 0
  · rw [if_pos c]; exact h
  · rw [if_neg c]
    intro x hx
    obtain ⟨y, hy, rfl⟩ := List.mem_map.mp hx
    have e := redF_get (nz_of_gcd c) hy
    have f0 := facN_nz (nz_of_gcd c)
    have hb := h y hy
    unfold Bd at *
    rw [← e, Int.natAbs_mul] at hb
    exact Nat.lt_of_le_of_lt (Nat.le_mul_of_pos_left _ (by omega)) hb
theorem gcdL_bd {k : Nat} {ns : List Int} (h : BdL k ns) : Bd k (gcdL ns) := by
  unfold Bd
  have h1 : ∀ x ∈ ns, x.natAbs ≤ 2 ^ k - 1 := fun x hx => Nat.le_sub_one_of_lt (h x hx)
  have a := gcdL_le h1
  have := Nat.two_pow_pos k
  omega
theorem facN_bd {k : Nat} {ns : List Int} (h : BdL k ns) : Bd k (facN ns) := by
  have a := gcdL_bd h
  have b := facN_abs ns
  unfold Bd at *
  omega
/-! lists of cells -/
theorem toP_rl {h : HS} {n r : Nat} {ns : List Int} (q : h[r]? = some (iL ns)) : toP h (n + 1) (.ref r) = some (.list (ns.map .int)) := by
  show (h[r]?).bind _ = _
  rw [q]
  show (toPW (toP h n) (iL ns)).map _ = _
  rw [toPW_il fun i => toP_int]
  rfl
theorem shapedL_ints {ns : List Int} : SeqAt.shaped (.list (ns.map .int)) = true := by
  have := lay_ints ns
  simp [SeqAt.shaped, PyData.canLay0, PyData.depth, this.1, this.2]
theorem opNe_rl {a b : List Int} {r s : Nat} {h : HS} (q : h[r]? = some (iL a)) (q2 : h[s]? = some (iL b)) : opNe (.ref r) (.ref s) h = some (.bl (!(a == b)), h) := by
  show ((toP h 12 (.ref r)).bind fun p => (toP h 12 (.ref s)).bind fun q => if SeqAt.shaped p && SeqAt.shaped q then some (D.bl (if true then !PyData.eqv p q else PyData.eqv p q), h) else none) = _
  rw [toP_rl q, toP_rl q2]
  simp [shapedL_ints, PyData.eqv, eqv_ints]
theorem opEq_rl {a b : List Int} {r s : Nat} {h : HS} (q : h[r]? = some (iL a)) (q2 : h[s]? = some (iL b)) : opEq (.ref r) (.ref s) h = some (.bl (a == b), h) := by
  show ((toP h 12 (.ref r)).bind fun p => (toP h 12 (.ref s)).bind fun q => if SeqAt.shaped p && SeqAt.shaped q then some (D.bl (if false then !PyData.eqv p q else PyData.eqv p q), h) else none) = _
  rw [toP_rl q, toP_rl q2]
  simp [shapedL_ints, PyData.eqv, eqv_ints]
/-! walks over what is told in full -/
theorem ok_lcN {m : DI} {g : DG} {tt : DT} {te : DE} {vs : List Nat} {Q : D → HS → Prop} {e : DEnv} {h : HS} (p : OK (m e h) fun s h1 => OK (lcGo s g tt te h1.length (wipeD e vs) (s.size h1 + 1) 0 (h1 ++ [[]])) Q) : OK (dLc m g tt te vs e h) Q := by
  unfold dLc
  exact OK.bind p
theorem lc_more {s : Src} {g : DG} {tt : DT} {te : DE} {c n i : Nat} {e e1 : DEnv} {h h2 : HS} {d : D} {Q : D → HS → Prop} (q : s.get h i = some (some d)) (qg : g d e h = some (e1, h2))
    (p : OK (tt e1 h2) fun b h3 => (b = true → OK (te e1 h3) fun y h4 => ∃ acc, h4[c]? = some acc ∧ acc.length < 100000 ∧ OK (lcGo s g tt te c e n (i + 1) (h4.set c (acc ++ [y]))) Q) ∧ (b = false → OK (lcGo s g tt te c e n (i + 1) h3) Q)) : OK (lcGo s g tt te c e (n + 1) i h) Q := by
  unfold lcGo
  rw [q]
  simp only [qg]
  obtain ⟨b, h3, q3, y, n3⟩ := p.ok
  rw [q3]
  show OK (if b = true then (te e1 h3).quiet.bind fun y h4 => ofOpt (h4[c]?) fun acc => if acc.length < 100000 then lcGo s g tt te c e n (i + 1) (h4.set c (acc ++ [y])) else .stuck else lcGo s g tt te c e n (i + 1) h3) Q
  cases b with
  | false => exact n3 rfl
  | true =>
    obtain ⟨v, h4, q4, acc, qa, za, i4⟩ := (y rfl).ok
    rw [if_pos rfl, q4]
    show OK (ofOpt (h4[c]?) fun acc => if acc.length < 100000 then lcGo s g tt te c e n (i + 1) (h4.set c (acc ++ [v])) else .stuck) Q
    rw [qa]
    show OK (if acc.length < 100000 then lcGo s g tt te c e n (i + 1) (h4.set c (acc ++ [v])) else .stuck) Q
    rw [if_pos za]
    exact i4
theorem lc_end {s : Src} {g : DG} {tt : DT} {te : DE} {c n i : Nat} {e : DEnv} {h : HS} {Q : D → HS → Prop} (q : s.get h i = some none) (p : Q (.ref c) h) : OK (lcGo s g tt te c e (n + 1) i h) Q := by
  unfold lcGo
  rw [q]
  exact p
theorem sk_forN {m : DI} {g : DG} {b : DS} {e : DEnv} {h : HS} {Qn : DEnv → HS → Prop} {Qr : D → HS → Prop} (p : OK (m e h) fun s h1 => SOK (forGo s g b (s.size h1 + 1) 0 e h1) Qn Qr) : SOK (sFor m g b e h) Qn Qr := SOK.toS p
theorem for_more {s : Src} {g : DG} {b : DS} {n i : Nat} {e e1 : DEnv} {h h1 : HS} {d : D} {Qn : DEnv → HS → Prop} {Qr : D → HS → Prop} (q : s.get h i = some (some d)) (qg : g d e h = some (e1, h1)) (p : SOK (b e1 h1) (fun e2 h2 => SOK (forGo s g b n (i + 1) e2 h2) Qn Qr) Qr) : SOK (forGo s g b (n + 1) i e h) Qn Qr := by
  unfold forGo
  rw [q]
  simp only [qg]
  cases w : b e1 h1 with
  | next e2 h2 => rw [w] at p; exact p
  | cont e2 h2 => rw [w] at p; exact p.elim
  | ret d h2 => rw [w] at p; exact p
  | brk e2 h2 => rw [w] at p; exact p.elim
  | exc er e2 h2 => rw [w] at p; exact p.elim
  | stuck => rw [w] at p; exact p.elim
theorem for_end {s : Src} {g : DG} {b : DS} {n i : Nat} {e : DEnv} {h : HS} {Qn : DEnv → HS → Prop} {Qr : D → HS → Prop} (q : s.get h i = some none) (p : Qn e h) : SOK (forGo s g b (n + 1) i e h) Qn Qr := by
  unfold forGo
  rw [q]
  exact p
theorem getapp2 {h g : HS} {x : List D} : (h ++ [x] ++ g)[h.length]? = some x := by simp
theorem setapp2 {h g : HS} {x y : List D} : (h ++ [x] ++ g).set h.length y = h ++ [y] ++ g := by simp
theorem six {ns : List Int} (h : ns.length = 6) : ∃ a b c d e f, ns = [a, b, c, d, e, f] := by
  match ns, h with
  | [a, b, c, d, e, f], _ => exact ⟨a, b, c, d, e, f, rfl⟩
theorem four {ns : List Int} (h : ns.length = 4) : ∃ a b c d, ns = [a, b, c, d] := by
  match ns, h with
  | [a, b, c, d], _ => exact ⟨a, b, c, d, rfl⟩
theorem three {ns : List Int} (h : ns.length = 3) : ∃ a b c, ns = [a, b, c] := by
  match ns, h with
  | [a, b, c], _ => exact ⟨a, b, c, rfl⟩
theorem BdL.take {k n : Nat} {l : List Int} (h : BdL k l) : BdL k (l.take n) := fun x hx => h x (List.mem_of_mem_take hx)
theorem BdL.drop {k n : Nat} {l : List Int} (h : BdL k l) : BdL k (l.drop n) := fun x hx => h x (List.mem_of_mem_drop hx)
theorem BdL.app {k : Nat} {l m : List Int} (h : BdL k l) (i : BdL k m) : BdL k (l ++ m) := fun x hx => (List.mem_append.mp hx).elim (h x) (i x)
end PI
namespace PI
open PySem L2 PySem.Spec
theorem gNm1 {i : Nat} {d : D} {e : DEnv} {h : HS} : gNm i d e h = some (e.set i (some d), h) := rfl
theorem gUn2 {i j : Nat} {x y : D} {e : DEnv} {h : HS} : gUn 2 (gConsD (gNm i) (gConsD (gNm j) gNilD)) (.tup [x, y]) e h = some ((e.set i (some x)).set j (some y), h) := rfl
theorem gUn3 {i j k : Nat} {x y z : D} {e : DEnv} {h : HS} : gUn 3 (gConsD (gNm i) (gConsD (gNm j) (gConsD (gNm k) gNilD))) (.tup [x, y, z]) e h = some (((e.set i (some x)).set j (some y)).set k (some z), h) := rfl
end PI
namespace PI
open PySem L2 PySem.Spec
theorem opSub_i {i j : Int} {h : HS} : opSub (.int i) (.int j) h = some (.int (i - j), h) := rfl
theorem opAdd_i {i j : Int} {h : HS} : opAdd (.int i) (.int j) h = some (.int (i + j), h) := rfl
end PI

namespace PI
open PySem L2 PySem.Spec
def opNotB : Op2 := fun x y h => match x, y with
  | .bl a, .bl b => some (.bl (!decide (a = b)), h)
  | _, _ => none
section
variable {X : Cx}
theorem oNotB : OpR X (compareOp .IsNot) (r2 X.K X.mg opNotB) := OpR.imp op_notBl fun x y H Q ⟨ι, h, d, e, R, rd, re, p⟩ => by
  cases d with
  | bl a => cases e with
    | bl b =>
      cases rd
      cases re
      exact ⟨a, b, rfl, rfl, p.now R (.bl _)⟩
    | _ => exact p.elim
  | _ => exact p.elim
end
end PI

namespace PI
open PySem L2 PySem.Spec PyProof.Rows
/-! ### isinstance(fault, ValueError) in a suite -/
structure IsX (K : PySem.W.Frag) (C : Addr) : Prop where
  ic : PySem.W.isClsIn K C = true
  ga : PySem.W.findIn K (.ref C) "__getattribute__" = some (some (.builtin "BaseException.__getattribute__"))
  gg : PySem.W.findIn K (.ref C) "__getattr__" = some none
  sb : PySem.W.subIn K (.ref C) (.type "BaseException") = some true
  ca : PySem.W.findIn K (.ref C) "__class__" = some (some (.builtin "object.__class__"))
  cn : PySem.W.specialIn K (.builtin "object.__class__") "__get__" = some (some (.builtin "getset_descriptor.__get__"))
  tk : PySem.W.takesIn K (.builtin "object.__class__") = some true
  mo : PySem.W.mroIn K C (.type "object") = some true
  ve : PySem.W.subIn K (.ref C) (.type "ValueError") = some true
theorem kit_ve {K : PySem.W.Frag} {C : Addr} (h : PySem.W.subIn K (.ref C) (.type "ValueError") = some true) : PySem.W.kitOne K (.ref C) (.type "ValueError") = some true := by
  unfold PySem.W.kitOne PySem.W.kitCls
  rw [if_neg (by intro z; exact nomatch (beq_iff_eq.mp z))]
  show (if PySem.W.kitMeta "ValueError" = true then PySem.W.subIn K (.ref C) (.type "ValueError") else none) = _
  rw [if_pos (by decide +kernel)]
  exact h
def rIsx (a : Addr) (cls : Value) (d : Option Addr) (C : Addr) : List V → Hp → VK → Prop := fun xs H Q => xs = [.ref a, .ty "ValueError"] ∧ cls = .ref C ∧ d = none ∧ Q (.bl true) H
theorem call_isx {X : Cx} {a C : Addr} {oe : Obj} {cls : Value} {d : Option Addr} {pn : List (Addr × Obj)} (T : IsX X.K C) (hz : Zc cls d oe) (hf : ∃ vs, oe.data = .fields vs) : CallR (X.suite a ((a, oe) :: pn)) (.builtin "isinstance") (rIsx a cls d C) := by
  intro pins s σ H xs us Q I r h
  obtain ⟨rfl, rfl, rfl, q⟩ := h
  obtain ⟨u1, u2, rfl, r1, r2⟩ := r.two
  cases (show u1 = Value.ref a from r1)
  cases (show u2 = Value.type "ValueError" from r2)
  obtain ⟨ha, _⟩ := I.pin (a, oe) (List.mem_append_left _ List.mem_cons_self)
  obtain ⟨vs, hd⟩ := hf
  have J : PySem.W.InstAt s.heap a oe C none := ⟨ha, hz.1, by unfold PySem.W.notCls; rw [hd], by rw [hz.2]; exact True.intro⟩
  exact PySem.W.kia_one (PySem.W.kitx_exc T.ic T.ga T.gg T.sb T.ca T.cn T.tk T.mo) I.kIn J (kit_ve T.ve) (fun z => nomatch z) fun tk => ⟨.bl true, H, I.tok tk, rfl, q⟩
theorem Res.bind_bind {α β γ : Type} {r : Res α} {f : α → HS → Res β} {g : β → HS → Res γ} : (r.bind f).bind g = r.bind fun a h => (f a h).bind g := by cases r <;> rfl
def dIsx : Er → DE := fun er _ h => match er.args with
  | [] => .ok (.bl true) h
  | _ => .stuck
section
variable {X : Cx} {C : Addr} {i j : Nat}
theorem suf_isx : SufG X C i (Re X.K X.mg) (fun a cls d => tCB (rIsx a cls d C) (tCons (tVar i) (tCons (tC (.ty "ValueError")) tNil))) dIsx := fun ι e h H σ er a dd Q R S hi x p => by
  have p : Post X.K X.mg (Re X.K X.mg) W0 σ ι H Q (match er.args with
    | [] => .ok (.bl true) h
    | _ => .stuck) := p
  have y := x.fs
  cases z : er.args with
  | nil =>
    rw [z] at y p
    exact ⟨.ref a, hi, rfl, rfl, y, p.now R (.bl true)⟩
  | cons b l =>
    rw [z] at p
    exact p.elim
theorem suf_op {g : Op2} {ta tb : Addr → Value → Option Addr → TE} {ma mb : Er → DE} (h1 : SufG X C i (Re X.K X.mg) ta ma) (h2 : SufG X C i (Re X.K X.mg) tb mb) :
    SufG X C i (Re X.K X.mg) (fun a c d => tOp (r2 X.K X.mg g) (ta a c d) (tb a c d)) (fun er => dOp g (ma er) (mb er)) := fun ι e h H σ er a dd Q R S hi x p =>
  h1 ι e h H σ er a dd _ R S hi x (Post.step p fun d1 h1 ι1 H1 v1 g1 R1 x1 p1 => h2 ι1 e h1 H1 σ er a dd _ R1 (S.mono R g1) hi (x.mono R g1) (Post.step p1 fun d2 h2 ι2 H2 v2 g2 R2 x2 p2 => ⟨ι2, h2, d1, d2, R2, x1.mono R1 g2, x2, p2.lift⟩))
theorem suf_if {tc ta tb : Addr → Value → Option Addr → TE} {mc ma mb : Er → DE} (h0 : SufG X C i (Re X.K X.mg) tc mc) (h1 : SufG X C i (Re X.K X.mg) ta ma) (h2 : SufG X C i (Re X.K X.mg) tb mb) :
    SufG X C i (Re X.K X.mg) (fun a c d => L2.tIf (tB (tc a c d)) (ta a c d) (tb a c d)) (fun er => dIf (dB (mc er)) (ma er) (mb er)) := fun ι e h H σ er a dd Q R S hi x p => by
  have p : Post X.K X.mg (Re X.K X.mg) W0 σ ι H Q ((((mc er) e h).bind fun x h1 => match x with
    | .bl b => .ok b h1
    | _ => .stuck).bind fun x h1 => if x then ma er e h1 else mb er e h1) := p
  rw [Res.bind_bind] at p
  refine h0 ι e h H σ er a dd _ R S hi x (Post.step p fun d1 h1' ι1 H1 v1 g1 R1 x1 p1 => ?_)
  cases d1 with
  | bl k =>
    refine ⟨k, isBl x1, ?_⟩
    cases k with
    | true => exact h1 ι1 e h1' H1 σ er a dd _ R1 (S.mono R g1) hi (x.mono R g1) p1
    | false => exact h2 ι1 e h1' H1 σ er a dd _ R1 (S.mono R g1) hi (x.mono R g1) p1
  | _ => exact p1.elim
/-- y = e, as a suite -/
theorem suite_set {te : Addr → Value → Option Addr → TE} {m : Er → DE} (h : SufG X C i (Re X.K X.mg) te m) : SuiteOk X C i (fun er => sAsg (m er) (gNm j)) (fun a c d => tAsg (te a c d) (gName j)) := fun ι e h0 H σ er a dd D R S x hi p => by
  have S2 := S.unset i (some (.ref a))
  refine h ι _ h0 H _ er a dd _ R S2 ?_ x (PostS.step R S2 p fun d1 h1 ι1 H1 v1 g1 R1 x1 p1 => p1 ι1 H1 _ (Gr.refl R1) R1 ((S2.mono R g1).set j x1))
  rw [List.getElem?_set_self hi]
end
/-! ### is None -/
def opIsN : Op2 := fun x y h => match y with
  | .non => (match x with
    | .non => some (.bl true, h)
    | .int _ => some (.bl false, h)
    | _ => none)
  | _ => none
section
variable {X : Cx}
theorem oIsN : OpR X (compareOp .Is) (r2 X.K X.mg opIsN) := OpR.imp op_isN fun x y H Q ⟨ι, h, d, e, R, rd, re, p⟩ => by
  cases e with
  | non =>
    cases re
    refine ⟨rfl, ?_⟩
    cases d with
    | non => cases rd; exact p.now R (.bl true)
    | int i => cases rd; exact p.now R (.bl false)
    | _ => exact p.elim
  | _ => exact p.elim
end
/-! ### names of a module's top that hold a value -/
structure KV (K : PySem.W.Frag) (mg : Str → Option Value) (d : D) (v : V) (u : Value) : Prop where
  r : RelV v u
  re : ∀ ι H, Re K mg ι H d v
structure KVs (K : PySem.W.Frag) (mg : Str → Option Value) (ds : List D) (vs : List V) (us : List Value) : Prop where
  r : Vals vs us
  re : ∀ ι H, ReL K mg ι H ds vs
section
variable {K : PySem.W.Frag} {mg : Str → Option Value}
theorem kv_int {i : Int} {t : Tok} : KV K mg (.int i) (.int i) (.int i t) := ⟨⟨t, rfl⟩, fun _ _ => .int i⟩
theorem kv_str {x : Str} {t : Tok} : KV K mg (.str x) (.str x) (.str x t) := ⟨⟨t, rfl⟩, fun _ _ => .str x⟩
theorem kvs_nil : KVs K mg [] [] [] := ⟨.nil, fun _ _ => .nil⟩
theorem kvs_cons {d : D} {v : V} {u : Value} {ds : List D} {vs : List V} {us : List Value} (a : KV K mg d v u) (b : KVs K mg ds vs us) : KVs K mg (d :: ds) (v :: vs) (u :: us) := ⟨.cons a.r b.r, fun ι H => .cons (a.re ι H) (b.re ι H)⟩
theorem kv_tup {a : Addr} {dd : Option Addr} {us : List Value} {n : Nat} {sl : Array (Option Value)} {ds : List D} {vs : List V} (hl : K.lookup a = some ⟨.type "tuple", dd, .seq us.toArray n, sl⟩) (hz : us.length ≤ sizeLine) (h : KVs K mg ds vs us) : KV K mg (.tup ds) (.ref a) (.ref a) :=
  ⟨rfl, fun ι H => .tup (.inr ⟨_, us.toArray, n, hl, rfl, rfl, by simpa using hz, by simpa using h.r⟩) (h.re ι H)⟩
def Glb (K : PySem.W.Frag) (mg : Str → Option Value) (x : Str) (d : D) : Prop := ∃ v u, mg x = some u ∧ KV K mg d v u
end
theorem de_gc {X : Cx} {W : WX} {x : Str} {d : D} {pos : Pos} (Z : Glb X.K X.mg x d) (hg : Gl X x) (hd : (x == ("__debug__" : Str)) = false := by decide) : PE X (.Name x pos) (tm X.K X.mg W (dC d)) := by
  obtain ⟨v, u, hm, k⟩ := Z
  exact de_c (pe_glob hg hm k.r hd) k.re
end PI

/-! the program's functions as data, as the generator tells them, once for all laws -/
namespace PK
open PySem L2 PySem.Spec PI
noncomputable section
def m_is_whole : DS :=
  (sRet (dAnd (dCB opIsi (dCons (dVar 0) (dCons (dC (.ty "int")) dNil))) (dNot (dCB opIsi (dCons (dVar 0) (dCons (dC (.ty "bool")) dNil))))))
def F_is_whole : DF := run 1 m_is_whole
def m_common_divisor : DS :=
  (sSeq (sAsg (dC (.int 0)) (gNm 1))
    (sSeq (sFor (dSrc (dVar 0)) (gNm 2) (sAsg (dCB opGcd (dCons (dVar 1) (dCons (dVar 2) dNil))) (gNm 1)))
    (sRet (dVar 1))))
def F_common_divisor : DF := run 3 m_common_divisor
def m_first_not_zero : DS :=
  (sSeq (sFor (dSrc (dVar 0)) (gNm 1) (sIf (dB (dOp opNe (dVar 1) (dC (.int 0)))) (sRet (dVar 1)) sNil))
    (sRet (dC (.int 0))))
def F_first_not_zero : DF := run 2 m_first_not_zero
def m_dot : DS :=
  (sRet (dCB opSum (dCons (dLc (dZip (dCons (dVar 0) (dCons (dVar 1) dNil))) (gUn 2 (gConsD (gNm 2) (gConsD (gNm 3) gNilD))) dYes (dOp opMul (dVar 2) (dVar 3)) [2, 3]) dNil)))
def F_dot : DF := run 4 m_dot
def m_is_reduced_row : DS :=
  (sSeq (sIf (dOrT (dNotT (dB (dCB opIsi (dCons (dVar 0) (dCons (dC (.ty "tuple")) dNil))))) (dB (dOp opNe (dCB opLen (dCons (dVar 0) dNil)) (dVar 1)))) (sRet (dC (.bl false))) sNil)
    (sSeq (sIf (dNotT (dB (dCB opAll (dCons (dLc (dSrc (dVar 0)) (gNm 2) dYes (dCall 1 F_is_whole (dCons (dVar 2) dNil)) [2]) dNil)))) (sRet (dC (.bl false))) sNil)
    (sRet (dAnd (dOp opEq (dCall 1 F_common_divisor (dCons (dVar 0) dNil)) (dC (.int 1))) (dOp opGt (dCall 1 F_first_not_zero (dCons (dVar 0) dNil)) (dC (.int 0)))))))
def F_is_reduced_row : DF := run 3 m_is_reduced_row
def m_is_point : DS :=
  (sRet (dCall 2 F_is_reduced_row (dCons (dVar 0) (dCons (dC (.int 4)) dNil))))
def F_is_point : DF := run 1 m_is_point
def m_is_plane : DS :=
  (sRet (dCall 2 F_is_reduced_row (dCons (dVar 0) (dCons (dC (.int 4)) dNil))))
def F_is_plane : DF := run 1 m_is_plane
def m_check_point : DS :=
  (sIf (dNotT (dB (dCall 1 F_is_point (dCons (dVar 0) dNil)))) (sRaise "InvalidPoint" "given" (dVar 0)) sNil)
def F_check_point : DF := run 1 m_check_point
def m_check_plane : DS :=
  (sIf (dNotT (dB (dCall 1 F_is_plane (dCons (dVar 0) dNil)))) (sRaise "InvalidPlane" "given" (dVar 0)) sNil)
def F_check_plane : DF := run 1 m_check_plane
def m_lies_in : DS :=
  (sSeq (sDrop (dCall 1 F_check_point (dCons (dVar 0) dNil)))
    (sSeq (sDrop (dCall 1 F_check_plane (dCons (dVar 1) dNil)))
    (sRet (dOp opEq (dCall 2 F_dot (dCons (dVar 0) (dCons (dVar 1) dNil))) (dC (.int 0))))))
def F_lies_in : DF := run 2 m_lies_in
def m_swapped : DS :=
  (sRet (dOp opAdd (dSl opSl (dVar 0) (dPart (dC (.int 3))) dNoPart) (dSl opSl (dVar 0) dNoPart (dPart (dC (.int 3))))))
def F_swapped : DF := run 1 m_swapped
def m_row_product : DS :=
  (sRet (dCall 2 F_dot (dCons (dVar 0) (dCons (dCall 1 F_swapped (dCons (dVar 1) dNil)) dNil))))
def F_row_product : DF := run 2 m_row_product
def m_is_rod : DS :=
  (sRet (dAnd (dCall 2 F_is_reduced_row (dCons (dVar 0) (dCons (dC (.int 6)) dNil))) (dOp opEq (dCall 2 F_dot (dCons (dSl opSl (dVar 0) dNoPart (dPart (dC (.int 3)))) (dCons (dSl opSl (dVar 0) (dPart (dC (.int 3))) dNoPart) dNil))) (dC (.int 0)))))
def F_is_rod : DF := run 1 m_is_rod
def m_check_rod : DS :=
  (sIf (dNotT (dB (dCall 1 F_is_rod (dCons (dVar 0) dNil)))) (sRaise "InvalidRod" "given" (dVar 0)) sNil)
def F_check_rod : DF := run 1 m_check_rod
def m_check_rods : DS :=
  (sSeq (sDrop (dCall 1 F_check_rod (dCons (dVar 0) dNil)))
    (sDrop (dCall 1 F_check_rod (dCons (dVar 1) dNil))))
def F_check_rods : DF := run 2 m_check_rods
def m_product : DS :=
  (sSeq (sDrop (dCall 2 F_check_rods (dCons (dVar 0) (dCons (dVar 1) dNil))))
    (sRet (dCall 2 F_row_product (dCons (dVar 0) (dCons (dVar 1) dNil)))))
def F_product : DF := run 2 m_product
def m_do_meet : DS :=
  (sSeq (sDrop (dCall 2 F_check_rods (dCons (dVar 0) (dCons (dVar 1) dNil))))
    (sRet (dOp opEq (dCall 2 F_row_product (dCons (dVar 0) (dCons (dVar 1) dNil))) (dC (.int 0)))))
def F_do_meet : DF := run 2 m_do_meet
def m_cross : DS :=
  (sRet (dTup (dCons (dOp opSub (dOp opMul (dOp opIx (dVar 0) (dC (.int 1))) (dOp opIx (dVar 1) (dC (.int 2)))) (dOp opMul (dOp opIx (dVar 0) (dC (.int 2))) (dOp opIx (dVar 1) (dC (.int 1))))) (dCons (dOp opSub (dOp opMul (dOp opIx (dVar 0) (dC (.int 2))) (dOp opIx (dVar 1) (dC (.int 0)))) (dOp opMul (dOp opIx (dVar 0) (dC (.int 0))) (dOp opIx (dVar 1) (dC (.int 2))))) (dCons (dOp opSub (dOp opMul (dOp opIx (dVar 0) (dC (.int 0))) (dOp opIx (dVar 1) (dC (.int 1)))) (dOp opMul (dOp opIx (dVar 0) (dC (.int 1))) (dOp opIx (dVar 1) (dC (.int 0))))) dNil)))))
def F_cross : DF := run 2 m_cross
def m_times : DS :=
  (sRet (dCB opTuple (dCons (dLc (dSrc (dVar 1)) (gNm 2) dYes (dOp opMul (dVar 0) (dVar 2)) [2]) dNil)))
def F_times : DF := run 3 m_times
def m_plus : DS :=
  (sRet (dCB opTuple (dCons (dLc (dZip (dCons (dVar 0) (dCons (dVar 1) dNil))) (gUn 2 (gConsD (gNm 2) (gConsD (gNm 3) gNilD))) dYes (dOp opAdd (dVar 2) (dVar 3)) [2, 3]) dNil)))
def F_plus : DF := run 4 m_plus
def m_minus : DS :=
  (sRet (dCB opTuple (dCons (dLc (dZip (dCons (dVar 0) (dCons (dVar 1) dNil))) (gUn 2 (gConsD (gNm 2) (gConsD (gNm 3) gNilD))) dYes (dOp opSub (dVar 2) (dVar 3)) [2, 3]) dNil)))
def F_minus : DF := run 4 m_minus
def m_reduced : DS :=
  (sSeq (sAsg (dCall 1 F_common_divisor (dCons (dVar 0) dNil)) (gNm 1))
    (sSeq (sIf (dB (dOp opLt (dCall 1 F_first_not_zero (dCons (dVar 0) dNil)) (dC (.int 0)))) (sAsg (dUn opNeg (dVar 1)) (gNm 1)) sNil)
    (sRet (dCB opTuple (dCons (dLc (dSrc (dVar 0)) (gNm 2) dYes (dOp opDiv (dVar 2) (dVar 1)) [2]) dNil)))))
def F_reduced : DF := run 3 m_reduced
def m_plane_row : DS :=
  (sSeq (sPar 3 4 (dCons (dSl opSl (dVar 0) dNoPart (dPart (dC (.int 3)))) (dCons (dSl opSl (dVar 0) (dPart (dC (.int 3))) dNoPart) dNil)))
    (sSeq (sAsg (dCall 2 F_plus (dCons (dCall 2 F_times (dCons (dOp opIx (dVar 1) (dC (.int 0))) (dCons (dVar 4) dNil))) (dCons (dCall 2 F_cross (dCons (dVar 3) (dCons (dSl opSl (dVar 1) (dPart (dC (.int 1))) dNoPart) dNil))) dNil))) (gNm 2))
    (sRet (dOp opAdd (dTup (dCons (dUn opNeg (dCall 2 F_dot (dCons (dVar 4) (dCons (dSl opSl (dVar 1) (dPart (dC (.int 1))) dNoPart) dNil)))) dNil)) (dVar 2)))))
def F_plane_row : DF := run 5 m_plane_row
def m_point_row : DS :=
  (sSeq (sPar 3 4 (dCons (dSl opSl (dVar 0) dNoPart (dPart (dC (.int 3)))) (dCons (dSl opSl (dVar 0) (dPart (dC (.int 3))) dNoPart) dNil)))
    (sSeq (sAsg (dCall 2 F_minus (dCons (dCall 2 F_cross (dCons (dSl opSl (dVar 1) (dPart (dC (.int 1))) dNoPart) (dCons (dVar 4) dNil))) (dCons (dCall 2 F_times (dCons (dOp opIx (dVar 1) (dC (.int 0))) (dCons (dVar 3) dNil))) dNil))) (gNm 2))
    (sRet (dOp opAdd (dTup (dCons (dCall 2 F_dot (dCons (dSl opSl (dVar 1) (dPart (dC (.int 1))) dNoPart) (dCons (dVar 3) dNil))) dNil)) (dVar 2)))))
def F_point_row : DF := run 5 m_point_row
def m_join : DS :=
  (sSeq (sDrop (dCall 1 F_check_point (dCons (dVar 0) dNil)))
    (sSeq (sDrop (dCall 1 F_check_point (dCons (dVar 1) dNil)))
    (sSeq (sIf (dB (dOp opEq (dVar 0) (dVar 1))) (sRaise0 "Same") sNil)
    (sSeq (sAsg (dCall 2 F_minus (dCons (dCall 2 F_times (dCons (dOp opIx (dVar 0) (dC (.int 0))) (dCons (dSl opSl (dVar 1) (dPart (dC (.int 1))) dNoPart) dNil))) (dCons (dCall 2 F_times (dCons (dOp opIx (dVar 1) (dC (.int 0))) (dCons (dSl opSl (dVar 0) (dPart (dC (.int 1))) dNoPart) dNil))) dNil))) (gNm 2))
    (sRet (dCall 1 F_reduced (dCons (dOp opAdd (dVar 2) (dCall 2 F_cross (dCons (dSl opSl (dVar 0) (dPart (dC (.int 1))) dNoPart) (dCons (dSl opSl (dVar 1) (dPart (dC (.int 1))) dNoPart) dNil)))) dNil)))))))
def F_join : DF := run 3 m_join
def m_cut : DS :=
  (sSeq (sDrop (dCall 1 F_check_plane (dCons (dVar 0) dNil)))
    (sSeq (sDrop (dCall 1 F_check_plane (dCons (dVar 1) dNil)))
    (sSeq (sIf (dB (dOp opEq (dVar 0) (dVar 1))) (sRaise0 "Same") sNil)
    (sSeq (sAsg (dCall 2 F_minus (dCons (dCall 2 F_times (dCons (dOp opIx (dVar 0) (dC (.int 0))) (dCons (dSl opSl (dVar 1) (dPart (dC (.int 1))) dNoPart) dNil))) (dCons (dCall 2 F_times (dCons (dOp opIx (dVar 1) (dC (.int 0))) (dCons (dSl opSl (dVar 0) (dPart (dC (.int 1))) dNoPart) dNil))) dNil))) (gNm 2))
    (sRet (dCall 1 F_reduced (dCons (dOp opAdd (dCall 2 F_cross (dCons (dSl opSl (dVar 0) (dPart (dC (.int 1))) dNoPart) (dCons (dSl opSl (dVar 1) (dPart (dC (.int 1))) dNoPart) dNil))) (dVar 2)) dNil)))))))
def F_cut : DF := run 3 m_cut
def m_on_rod : DS :=
  (sSeq (sDrop (dCall 1 F_check_point (dCons (dVar 0) dNil)))
    (sSeq (sDrop (dCall 1 F_check_rod (dCons (dVar 1) dNil)))
    (sRet (dNot (dCB opAnyT (dCons (dCall 2 F_plane_row (dCons (dVar 1) (dCons (dVar 0) dNil))) dNil))))))
def F_on_rod : DF := run 2 m_on_rod
def m_in_plane : DS :=
  (sSeq (sDrop (dCall 1 F_check_rod (dCons (dVar 0) dNil)))
    (sSeq (sDrop (dCall 1 F_check_plane (dCons (dVar 1) dNil)))
    (sRet (dNot (dCB opAnyT (dCons (dCall 2 F_point_row (dCons (dVar 0) (dCons (dVar 1) dNil))) dNil))))))
def F_in_plane : DF := run 2 m_in_plane
def m_plane_with : DS :=
  (sSeq (sDrop (dCall 1 F_check_rod (dCons (dVar 0) dNil)))
    (sSeq (sDrop (dCall 1 F_check_point (dCons (dVar 1) dNil)))
    (sSeq (sAsg (dCall 2 F_plane_row (dCons (dVar 0) (dCons (dVar 1) dNil))) (gNm 2))
    (sSeq (sIf (dNotT (dB (dCB opAnyT (dCons (dVar 2) dNil)))) (sRaise0 "NotJustOne") sNil)
    (sRet (dCall 1 F_reduced (dCons (dVar 2) dNil)))))))
def F_plane_with : DF := run 3 m_plane_with
def m_point_in : DS :=
  (sSeq (sDrop (dCall 1 F_check_rod (dCons (dVar 0) dNil)))
    (sSeq (sDrop (dCall 1 F_check_plane (dCons (dVar 1) dNil)))
    (sSeq (sAsg (dCall 2 F_point_row (dCons (dVar 0) (dCons (dVar 1) dNil))) (gNm 2))
    (sSeq (sIf (dNotT (dB (dCB opAnyT (dCons (dVar 2) dNil)))) (sRaise0 "NotJustOne") sNil)
    (sRet (dCall 1 F_reduced (dCons (dVar 2) dNil)))))))
def F_point_in : DF := run 3 m_point_in
def m_combined : DS :=
  (sSeq (sAsg (dCall 2 F_times (dCons (dOp opIx (dVar 0) (dC (.int 0))) (dCons (dOp opIx (dVar 1) (dC (.int 0))) dNil))) (gNm 2))
    (sSeq (sFor (dZip (dCons (dSl opSl (dVar 0) (dPart (dC (.int 1))) dNoPart) (dCons (dSl opSl (dVar 1) (dPart (dC (.int 1))) dNoPart) dNil))) (gUn 2 (gConsD (gNm 3) (gConsD (gNm 4) gNilD))) (sAsg (dCall 2 F_plus (dCons (dVar 2) (dCons (dCall 2 F_times (dCons (dVar 3) (dCons (dVar 4) dNil))) dNil))) (gNm 2)))
    (sRet (dVar 2))))
def F_combined : DF := run 5 m_combined
def m_three_products : DS :=
  (sSeq (sAsg (dTup (dCons (dCall 2 F_row_product (dCons (dVar 1) (dCons (dVar 2) dNil))) (dCons (dCall 2 F_row_product (dCons (dVar 0) (dCons (dVar 2) dNil))) (dCons (dCall 2 F_row_product (dCons (dVar 0) (dCons (dVar 1) dNil))) dNil)))) (gNm 3))
    (sSeq (sIf (dB (dOp opIn (dC (.int 0)) (dVar 3))) (sRaise0 "Meeting") sNil)
    (sRet (dVar 3))))
def F_three_products : DF := run 4 m_three_products
def m_check_number : DS :=
  (sIf (dNotT (dB (dCall 1 F_is_whole (dCons (dVar 0) dNil)))) (sRaise "InvalidNumber" "given" (dVar 0)) sNil)
def F_check_number : DF := run 1 m_check_number
def m_ring_row : DS :=
  (sRet (dCall 1 F_reduced (dCons (dCall 2 F_combined (dCons (dTup (dCons (dOp opMul (dVar 1) (dVar 1)) (dCons (dOp opMul (dVar 1) (dVar 2)) (dCons (dOp opMul (dVar 2) (dVar 2)) dNil)))) (dCons (dVar 0) dNil))) dNil)))
def F_ring_row : DF := run 3 m_ring_row
def m_ring_form : DS :=
  (sSeq (sAsg (dCall 3 F_three_products (dCons (dVar 0) (dCons (dVar 1) (dCons (dVar 2) dNil)))) (gUn 3 (gConsD (gNm 4) (gConsD (gNm 5) (gConsD (gNm 6) gNilD)))))
    (sSeq (sAsg (dCall 2 F_combined (dCons (dTup (dCons (dVar 4) (dCons (dUn opNeg (dVar 5)) (dCons (dVar 6) dNil)))) (dCons (dTup (dCons (dVar 0) (dCons (dVar 1) (dCons (dVar 2) dNil)))) dNil))) (gNm 3))
    (sRet (dTup (dCons (dCall 2 F_times (dCons (dUn opNeg (dVar 4)) (dCons (dVar 2) dNil))) (dCons (dVar 3) (dCons (dCall 2 F_times (dCons (dUn opNeg (dVar 6)) (dCons (dVar 0) dNil))) dNil)))))))
def F_ring_form : DF := run 7 m_ring_form
def m_check_three : DS :=
  (sSeq (sDrop (dCall 2 F_check_rods (dCons (dVar 0) (dCons (dVar 1) dNil))))
    (sDrop (dCall 1 F_check_rod (dCons (dVar 2) dNil))))
def F_check_three : DF := run 3 m_check_three
def m_ring_rod : DS :=
  (sSeq (sDrop (dCall 3 F_check_three (dCons (dVar 0) (dCons (dVar 1) (dCons (dVar 2) dNil)))))
    (sSeq (sDrop (dCall 1 F_check_number (dCons (dVar 3) dNil)))
    (sSeq (sDrop (dCall 1 F_check_number (dCons (dVar 4) dNil)))
    (sSeq (sIf (dAndT (dB (dOp opEq (dVar 3) (dC (.int 0)))) (dB (dOp opEq (dVar 4) (dC (.int 0))))) (sRaise "InvalidNumber" "given" (dVar 4)) sNil)
    (sRet (dCall 3 F_ring_row (dCons (dCall 3 F_ring_form (dCons (dVar 0) (dCons (dVar 1) (dCons (dVar 2) dNil)))) (dCons (dVar 3) (dCons (dVar 4) dNil)))))))))
def F_ring_rod : DF := run 5 m_ring_rod
def m_cleared : DS :=
  (sSeq (sIf (dB (dOp opEq (dOp opIx (dVar 0) (dVar 2)) (dC (.int 0)))) (sRet (dVar 0)) sNil)
    (sSeq (sAsg (dCall 2 F_minus (dCons (dCall 2 F_times (dCons (dOp opIx (dVar 1) (dVar 2)) (dCons (dVar 0) dNil))) (dCons (dCall 2 F_times (dCons (dOp opIx (dVar 0) (dVar 2)) (dCons (dVar 1) dNil))) dNil))) (gNm 3))
    (sRet (dIf (dB (dCB opAnyT (dCons (dVar 3) dNil))) (dCall 1 F_reduced (dCons (dVar 3) dNil)) (dVar 3)))))
def F_cleared : DF := run 4 m_cleared
def m_in_stairs : DS :=
  (sSeq (sAsg (dLc (dSrc (dVar 0)) (gNm 6) (dB (dCB opAnyT (dCons (dVar 6) dNil))) (dVar 6) [6]) (gNm 1))
    (sSeq (sAsg (dLst dNil) (gNm 2))
    (sSeq (sFor (dRng1 (dCons (dCB opMax (dCons (dLc (dSrc (dVar 0)) (gNm 6) dYes (dCB opLen (dCons (dVar 6) dNil)) [6]) dNil)) dNil)) (gNm 3) (sSeq (sAsg (dLc (dSrc (dVar 1)) (gNm 6) (dB (dOp opNe (dOp opIx (dVar 6) (dVar 3)) (dC (.int 0)))) (dVar 6) [6]) (gNm 4))
    (sIf (dB (dVar 4)) (sSeq (sAsg (dCall 1 F_reduced (dCons (dOp opIx (dVar 4) (dC (.int 0))) dNil)) (gNm 5))
    (sSeq (sAsg (dOp opAdd (dLc (dSrc (dVar 2)) (gNm 7) dYes (dCall 3 F_cleared (dCons (dVar 7) (dCons (dVar 5) (dCons (dVar 3) dNil)))) [7]) (dLst (dCons (dVar 5) dNil))) (gNm 2))
    (sAsg (dLc (dSrc (dLc (dSrc (dVar 1)) (gNm 7) dYes (dCall 3 F_cleared (dCons (dVar 7) (dCons (dVar 5) (dCons (dVar 3) dNil)))) [7])) (gNm 6) (dB (dCB opAnyT (dCons (dVar 6) dNil))) (dVar 6) [6]) (gNm 1)))) sNil)))
    (sRet (dCB opTuple (dCons (dVar 2) dNil))))))
def F_in_stairs : DF := run 8 m_in_stairs
def m_rank_of : DS :=
  (sRet (dCB opLen (dCons (dCall 1 F_in_stairs (dCons (dVar 0) dNil)) dNil)))
def F_rank_of : DF := run 1 m_rank_of
def m_in_ring : DS :=
  (sSeq (sDrop (dCall 3 F_check_three (dCons (dVar 0) (dCons (dVar 1) (dCons (dVar 2) dNil)))))
    (sSeq (sDrop (dCall 1 F_check_rod (dCons (dVar 3) dNil)))
    (sSeq (sDrop (dCall 3 F_three_products (dCons (dVar 0) (dCons (dVar 1) (dCons (dVar 2) dNil)))))
    (sRet (dOp opEq (dCall 1 F_rank_of (dCons (dTup (dCons (dVar 0) (dCons (dVar 1) (dCons (dVar 2) (dCons (dVar 3) dNil))))) dNil)) (dC (.int 3)))))))
def F_in_ring : DF := run 4 m_in_ring
def m_meets_all : DS :=
  (sSeq (sDrop (dCall 3 F_check_three (dCons (dVar 0) (dCons (dVar 1) (dCons (dVar 2) dNil)))))
    (sSeq (sDrop (dCall 1 F_check_rod (dCons (dVar 3) dNil)))
    (sSeq (sDrop (dCall 3 F_three_products (dCons (dVar 0) (dCons (dVar 1) (dCons (dVar 2) dNil)))))
    (sRet (dCB opAll (dCons (dLc (dSrc (dTup (dCons (dVar 0) (dCons (dVar 1) (dCons (dVar 2) dNil))))) (gNm 4) dYes (dOp opEq (dCall 2 F_row_product (dCons (dVar 4) (dCons (dVar 3) dNil))) (dC (.int 0))) [4]) dNil))))))
def F_meets_all : DF := run 5 m_meets_all
def m_ratio : DS :=
  (sSeq (sAsg (dCB opGcd (dCons (dVar 0) (dCons (dVar 1) dNil))) (gNm 2))
    (sSeq (sIf (dB (dOp opLt (dVar 1) (dC (.int 0)))) (sAsg (dUn opNeg (dVar 2)) (gNm 2)) sNil)
    (sRet (dTup (dCons (dOp opDiv (dVar 0) (dVar 2)) (dCons (dOp opDiv (dVar 1) (dVar 2)) dNil))))))
def F_ratio : DF := run 3 m_ratio
def m_length : DS :=
  (sRet (dCall 2 F_dot (dCons (dVar 0) (dCons (dVar 0) dNil))))
def F_length : DF := run 1 m_length
def m_square_way : DS :=
  (sRet (dCall 2 F_cross (dCons (dSl opSl (dVar 0) dNoPart (dPart (dC (.int 3)))) (dCons (dSl opSl (dVar 1) dNoPart (dPart (dC (.int 3)))) dNil))))
def F_square_way : DF := run 2 m_square_way
def m_check_near_rods : DS :=
  (sIf (dNotT (dB (dCB opAll (dCons (dLc (dSrc (dVar 0)) (gNm 1) dYes (dCB opAnyT (dCons (dSl opSl (dVar 1) dNoPart (dPart (dC (.int 3)))) dNil)) [1]) dNil)))) (sRaise0 "Far") sNil)
def F_check_near_rods : DF := run 2 m_check_near_rods
def m_check_near_points : DS :=
  (sIf (dNotT (dB (dCB opAll (dCons (dLc (dSrc (dVar 0)) (gNm 1) dYes (dOp opNe (dOp opIx (dVar 1) (dC (.int 0))) (dC (.int 0))) [1]) dNil)))) (sRaise0 "Far") sNil)
def F_check_near_points : DF := run 2 m_check_near_points
def m_rod_gap : DS :=
  (sSeq (sDrop (dCall 1 F_check_rod (dCons (dVar 0) dNil)))
    (sSeq (sDrop (dCall 1 F_check_point (dCons (dVar 1) dNil)))
    (sSeq (sDrop (dCall 1 F_check_near_rods (dCons (dTup (dCons (dVar 0) dNil)) dNil)))
    (sSeq (sDrop (dCall 1 F_check_near_points (dCons (dTup (dCons (dVar 1) dNil)) dNil)))
    (sSeq (sAsg (dCall 2 F_minus (dCons (dCall 2 F_times (dCons (dOp opIx (dVar 1) (dC (.int 0))) (dCons (dSl opSl (dVar 0) (dPart (dC (.int 3))) dNoPart) dNil))) (dCons (dCall 2 F_cross (dCons (dSl opSl (dVar 1) (dPart (dC (.int 1))) dNoPart) (dCons (dSl opSl (dVar 0) dNoPart (dPart (dC (.int 3)))) dNil))) dNil))) (gNm 2))
    (sRet (dCall 2 F_ratio (dCons (dCall 1 F_length (dCons (dVar 2) dNil)) (dCons (dOp opMul (dOp opMul (dOp opIx (dVar 1) (dC (.int 0))) (dOp opIx (dVar 1) (dC (.int 0)))) (dCall 1 F_length (dCons (dSl opSl (dVar 0) dNoPart (dPart (dC (.int 3)))) dNil))) dNil)))))))))
def F_rod_gap : DF := run 3 m_rod_gap
def m_point_gap : DS :=
  (sSeq (sDrop (dCall 1 F_check_point (dCons (dVar 0) dNil)))
    (sSeq (sDrop (dCall 1 F_check_point (dCons (dVar 1) dNil)))
    (sSeq (sDrop (dCall 1 F_check_near_points (dCons (dTup (dCons (dVar 0) (dCons (dVar 1) dNil))) dNil)))
    (sSeq (sAsg (dCall 2 F_minus (dCons (dCall 2 F_times (dCons (dOp opIx (dVar 0) (dC (.int 0))) (dCons (dSl opSl (dVar 1) (dPart (dC (.int 1))) dNoPart) dNil))) (dCons (dCall 2 F_times (dCons (dOp opIx (dVar 1) (dC (.int 0))) (dCons (dSl opSl (dVar 0) (dPart (dC (.int 1))) dNoPart) dNil))) dNil))) (gNm 2))
    (sSeq (sAsg (dOp opMul (dOp opIx (dVar 0) (dC (.int 0))) (dOp opIx (dVar 1) (dC (.int 0)))) (gNm 3))
    (sRet (dCall 2 F_ratio (dCons (dCall 1 F_length (dCons (dVar 2) dNil)) (dCons (dOp opMul (dVar 3) (dVar 3)) dNil)))))))))
def F_point_gap : DF := run 4 m_point_gap
def m_check_two : DS :=
  (sSeq (sDrop (dCall 2 F_check_rods (dCons (dVar 0) (dCons (dVar 1) dNil))))
    (sDrop (dCall 1 F_check_near_rods (dCons (dTup (dCons (dVar 0) (dCons (dVar 1) dNil))) dNil))))
def F_check_two : DF := run 2 m_check_two
def m_gap : DS :=
  (sSeq (sDrop (dCall 2 F_check_two (dCons (dVar 0) (dCons (dVar 1) dNil))))
    (sSeq (sAsg (dCall 2 F_square_way (dCons (dVar 0) (dCons (dVar 1) dNil))) (gNm 2))
    (sSeq (sIf (dB (dCB opAnyT (dCons (dVar 2) dNil))) (sSeq (sAsg (dCall 2 F_row_product (dCons (dVar 0) (dCons (dVar 1) dNil))) (gNm 4))
    (sRet (dCall 2 F_ratio (dCons (dOp opMul (dVar 4) (dVar 4)) (dCons (dCall 1 F_length (dCons (dVar 2) dNil)) dNil))))) sNil)
    (sSeq (sPar 5 6 (dCons (dCall 2 F_dot (dCons (dSl opSl (dVar 0) dNoPart (dPart (dC (.int 3)))) (dCons (dSl opSl (dVar 1) dNoPart (dPart (dC (.int 3)))) dNil))) (dCons (dCall 1 F_length (dCons (dSl opSl (dVar 0) dNoPart (dPart (dC (.int 3)))) dNil)) dNil)))
    (sSeq (sAsg (dCall 2 F_minus (dCons (dCall 2 F_times (dCons (dVar 5) (dCons (dSl opSl (dVar 0) (dPart (dC (.int 3))) dNoPart) dNil))) (dCons (dCall 2 F_times (dCons (dVar 6) (dCons (dSl opSl (dVar 1) (dPart (dC (.int 3))) dNoPart) dNil))) dNil))) (gNm 3))
    (sRet (dCall 2 F_ratio (dCons (dCall 1 F_length (dCons (dVar 3) dNil)) (dCons (dOp opMul (dOp opMul (dVar 6) (dVar 5)) (dVar 5)) dNil)))))))))
def F_gap : DF := run 7 m_gap
def m_check_slanted : DS :=
  (sSeq (sDrop (dCall 2 F_check_two (dCons (dVar 0) (dCons (dVar 1) dNil))))
    (sIf (dNotT (dB (dCB opAnyT (dCons (dCall 2 F_square_way (dCons (dVar 0) (dCons (dVar 1) dNil))) dNil)))) (sRaise0 "Parallel") sNil))
def F_check_slanted : DF := run 2 m_check_slanted
def m_square_rod : DS :=
  (sSeq (sDrop (dCall 2 F_check_slanted (dCons (dVar 0) (dCons (dVar 1) dNil))))
    (sSeq (sAsg (dOp opAdd (dTup (dCons (dC (.int 0)) dNil)) (dCall 2 F_square_way (dCons (dVar 0) (dCons (dVar 1) dNil)))) (gNm 2))
    (sRet (dCall 2 F_cut (dCons (dCall 1 F_reduced (dCons (dCall 2 F_plane_row (dCons (dVar 0) (dCons (dVar 2) dNil))) dNil)) (dCons (dCall 1 F_reduced (dCons (dCall 2 F_plane_row (dCons (dVar 1) (dCons (dVar 2) dNil))) dNil)) dNil))))))
def F_square_rod : DF := run 3 m_square_rod
def m_nearest : DS :=
  (sSeq (sDrop (dCall 2 F_check_slanted (dCons (dVar 0) (dCons (dVar 1) dNil))))
    (sSeq (sAsg (dOp opAdd (dTup (dCons (dC (.int 0)) dNil)) (dCall 2 F_square_way (dCons (dVar 0) (dCons (dVar 1) dNil)))) (gNm 2))
    (sSeq (sAsg (dCall 2 F_point_row (dCons (dVar 0) (dCons (dCall 2 F_plane_row (dCons (dVar 1) (dCons (dVar 2) dNil))) dNil))) (gNm 3))
    (sSeq (sAsg (dCall 2 F_point_row (dCons (dVar 1) (dCons (dCall 2 F_plane_row (dCons (dVar 0) (dCons (dVar 2) dNil))) dNil))) (gNm 4))
    (sRet (dTup (dCons (dCall 1 F_reduced (dCons (dVar 3) dNil)) (dCons (dCall 1 F_reduced (dCons (dVar 4) dNil)) dNil))))))))
def F_nearest : DF := run 5 m_nearest
def m_foot : DS :=
  (sSeq (sDrop (dCall 1 F_check_rod (dCons (dVar 0) dNil)))
    (sSeq (sDrop (dCall 1 F_check_point (dCons (dVar 1) dNil)))
    (sSeq (sDrop (dCall 1 F_check_near_rods (dCons (dTup (dCons (dVar 0) dNil)) dNil)))
    (sSeq (sDrop (dCall 1 F_check_near_points (dCons (dTup (dCons (dVar 1) dNil)) dNil)))
    (sSeq (sAsg (dSl opSl (dVar 0) dNoPart (dPart (dC (.int 3)))) (gNm 2))
    (sSeq (sAsg (dOp opAdd (dTup (dCons (dUn opNeg (dCall 2 F_dot (dCons (dVar 2) (dCons (dSl opSl (dVar 1) (dPart (dC (.int 1))) dNoPart) dNil)))) dNil)) (dCall 2 F_times (dCons (dOp opIx (dVar 1) (dC (.int 0))) (dCons (dVar 2) dNil)))) (gNm 3))
    (sRet (dCall 1 F_reduced (dCons (dCall 2 F_point_row (dCons (dVar 0) (dCons (dVar 3) dNil))) dNil)))))))))
def F_foot : DF := run 4 m_foot
def m_plane_gap : DS :=
  (sSeq (sDrop (dCall 1 F_check_plane (dCons (dVar 0) dNil)))
    (sSeq (sDrop (dCall 1 F_check_point (dCons (dVar 1) dNil)))
    (sSeq (sIf (dNotT (dB (dCB opAnyT (dCons (dSl opSl (dVar 0) (dPart (dC (.int 1))) dNoPart) dNil)))) (sRaise0 "Far") sNil)
    (sSeq (sDrop (dCall 1 F_check_near_points (dCons (dTup (dCons (dVar 1) dNil)) dNil)))
    (sSeq (sAsg (dCall 2 F_dot (dCons (dVar 0) (dCons (dVar 1) dNil))) (gNm 2))
    (sRet (dCall 2 F_ratio (dCons (dOp opMul (dVar 2) (dVar 2)) (dCons (dOp opMul (dOp opMul (dOp opIx (dVar 1) (dC (.int 0))) (dOp opIx (dVar 1) (dC (.int 0)))) (dCall 1 F_length (dCons (dSl opSl (dVar 0) (dPart (dC (.int 1))) dNoPart) dNil))) dNil)))))))))
def F_plane_gap : DF := run 3 m_plane_gap
def m_is_parallel : DS :=
  (sSeq (sDrop (dCall 2 F_check_two (dCons (dVar 0) (dCons (dVar 1) dNil))))
    (sRet (dNot (dCB opAnyT (dCons (dCall 2 F_square_way (dCons (dVar 0) (dCons (dVar 1) dNil))) dNil)))))
def F_is_parallel : DF := run 2 m_is_parallel
def m_slant : DS :=
  (sSeq (sDrop (dCall 2 F_check_two (dCons (dVar 0) (dCons (dVar 1) dNil))))
    (sSeq (sAsg (dCall 2 F_dot (dCons (dSl opSl (dVar 0) dNoPart (dPart (dC (.int 3)))) (dCons (dSl opSl (dVar 1) dNoPart (dPart (dC (.int 3)))) dNil))) (gNm 2))
    (sRet (dCall 2 F_ratio (dCons (dOp opMul (dVar 2) (dVar 2)) (dCons (dOp opMul (dCall 1 F_length (dCons (dSl opSl (dVar 0) dNoPart (dPart (dC (.int 3)))) dNil)) (dCall 1 F_length (dCons (dSl opSl (dVar 1) dNoPart (dPart (dC (.int 3)))) dNil))) dNil))))))
def F_slant : DF := run 3 m_slant
def m_is_screw : DS :=
  (sRet (dCall 2 F_is_reduced_row (dCons (dVar 0) (dCons (dC (.int 6)) dNil))))
def F_is_screw : DF := run 1 m_is_screw
def m_check_screw : DS :=
  (sIf (dNotT (dB (dCall 1 F_is_screw (dCons (dVar 0) dNil)))) (sRaise "InvalidScrew" "given" (dVar 0)) sNil)
def F_check_screw : DF := run 1 m_check_screw
def m_check_screws : DS :=
  (sSeq (sDrop (dCall 1 F_check_screw (dCons (dVar 0) dNil)))
    (sDrop (dCall 1 F_check_screw (dCons (dVar 1) dNil))))
def F_check_screws : DF := run 2 m_check_screws
def m_is_flat : DS :=
  (sSeq (sDrop (dCall 1 F_check_screw (dCons (dVar 0) dNil)))
    (sRet (dOp opEq (dCall 2 F_row_product (dCons (dVar 0) (dCons (dVar 0) dNil))) (dC (.int 0)))))
def F_is_flat : DF := run 1 m_is_flat
def m_in_net : DS :=
  (sSeq (sDrop (dCall 1 F_check_screw (dCons (dVar 0) dNil)))
    (sSeq (sDrop (dCall 1 F_check_rod (dCons (dVar 1) dNil)))
    (sRet (dOp opEq (dCall 2 F_row_product (dCons (dVar 0) (dCons (dVar 1) dNil))) (dC (.int 0))))))
def F_in_net : DF := run 2 m_in_net
def m_screw_product : DS :=
  (sSeq (sDrop (dCall 2 F_check_screws (dCons (dVar 0) (dCons (dVar 1) dNil))))
    (sRet (dCall 2 F_row_product (dCons (dVar 0) (dCons (dVar 1) dNil)))))
def F_screw_product : DF := run 2 m_screw_product
def m_check_not_flat : DS :=
  (sIf (dB (dOp opEq (dCall 2 F_row_product (dCons (dVar 0) (dCons (dVar 0) dNil))) (dC (.int 0)))) (sRaise0 "Flat") sNil)
def F_check_not_flat : DF := run 1 m_check_not_flat
def m_pole_plane : DS :=
  (sSeq (sDrop (dCall 1 F_check_screw (dCons (dVar 0) dNil)))
    (sSeq (sDrop (dCall 1 F_check_point (dCons (dVar 1) dNil)))
    (sSeq (sDrop (dCall 1 F_check_not_flat (dCons (dVar 0) dNil)))
    (sRet (dCall 1 F_reduced (dCons (dCall 2 F_plane_row (dCons (dVar 0) (dCons (dVar 1) dNil))) dNil))))))
def F_pole_plane : DF := run 2 m_pole_plane
def m_turned_rod : DS :=
  (sSeq (sDrop (dCall 1 F_check_screw (dCons (dVar 0) dNil)))
    (sSeq (sDrop (dCall 1 F_check_rod (dCons (dVar 1) dNil)))
    (sSeq (sDrop (dCall 1 F_check_not_flat (dCons (dVar 0) dNil)))
    (sSeq (sPar 2 3 (dCons (dCall 2 F_row_product (dCons (dVar 0) (dCons (dVar 0) dNil))) (dCons (dCall 2 F_row_product (dCons (dVar 0) (dCons (dVar 1) dNil))) dNil)))
    (sRet (dCall 1 F_reduced (dCons (dCall 2 F_minus (dCons (dCall 2 F_times (dCons (dVar 2) (dCons (dVar 1) dNil))) (dCons (dCall 2 F_times (dCons (dOp opMul (dC (.int 2)) (dVar 3)) (dCons (dVar 0) dNil))) dNil))) dNil)))))))
def F_turned_rod : DF := run 4 m_turned_rod
def m_hand : DS :=
  (sSeq (sDrop (dCall 3 F_check_three (dCons (dVar 0) (dCons (dVar 1) (dCons (dVar 2) dNil)))))
    (sSeq (sAsg (dLc (dSrc (dCall 3 F_three_products (dCons (dVar 0) (dCons (dVar 1) (dCons (dVar 2) dNil))))) (gNm 4) (dB (dOp opLt (dVar 4) (dC (.int 0)))) (dVar 4) [4]) (gNm 3))
    (sRet (dIf (dB (dOp opIn (dCB opLen (dCons (dVar 3) dNil)) (dTup (dCons (dC (.int 1)) (dCons (dC (.int 3)) dNil))))) (dUn opNeg (dC (.int 1))) (dC (.int 1))))))
def F_hand : DF := run 5 m_hand
def m_check_with_axis : DS :=
  (sSeq (sDrop (dCall 1 F_check_screw (dCons (dVar 0) dNil)))
    (sIf (dNotT (dB (dCB opAnyT (dCons (dSl opSl (dVar 0) dNoPart (dPart (dC (.int 3)))) dNil)))) (sRaise0 "Far") sNil))
def F_check_with_axis : DF := run 1 m_check_with_axis
def m_pitch : DS :=
  (sSeq (sDrop (dCall 1 F_check_with_axis (dCons (dVar 0) dNil)))
    (sRet (dCall 2 F_ratio (dCons (dCall 2 F_dot (dCons (dSl opSl (dVar 0) dNoPart (dPart (dC (.int 3)))) (dCons (dSl opSl (dVar 0) (dPart (dC (.int 3))) dNoPart) dNil))) (dCons (dCall 2 F_dot (dCons (dSl opSl (dVar 0) dNoPart (dPart (dC (.int 3)))) (dCons (dSl opSl (dVar 0) dNoPart (dPart (dC (.int 3)))) dNil))) dNil)))))
def F_pitch : DF := run 1 m_pitch
def m_axis : DS :=
  (sSeq (sDrop (dCall 1 F_check_with_axis (dCons (dVar 0) dNil)))
    (sSeq (sPar 2 3 (dCons (dSl opSl (dVar 0) dNoPart (dPart (dC (.int 3)))) (dCons (dSl opSl (dVar 0) (dPart (dC (.int 3))) dNoPart) dNil)))
    (sSeq (sAsg (dCall 2 F_dot (dCons (dVar 2) (dCons (dVar 2) dNil))) (gNm 1))
    (sRet (dCall 1 F_reduced (dCons (dOp opAdd (dCall 2 F_times (dCons (dVar 1) (dCons (dVar 2) dNil))) (dCall 2 F_minus (dCons (dCall 2 F_times (dCons (dVar 1) (dCons (dVar 3) dNil))) (dCons (dCall 2 F_times (dCons (dCall 2 F_dot (dCons (dVar 2) (dCons (dVar 3) dNil))) (dCons (dVar 2) dNil))) dNil)))) dNil))))))
def F_axis : DF := run 4 m_axis
end
end PK

set_option maxHeartbeats 4000000
namespace PK
open PySem L2 PySem.Spec PI
local macro_rules | `(tactic| walk_at "b") => `(tactic| first
  | with_reducible assumption
  | (with_reducible refine Bd.mul ?_ ?_) <;> walk_at "b"
  | (with_reducible refine Bd.sub ?_ ?_) <;> walk_at "b"
  | (with_reducible refine Bd.add ?_ ?_) <;> walk_at "b"
  | (with_reducible refine Bd.neg ?_) <;> walk_at "b"
  | exact natAbs_lt (k := 40) (by decide))
local macro_rules | `(tactic| walk_at "m") => `(tactic| (apply Bd.ok <;> first | walk_at "b" | decide))
local macro_rules | `(tactic| walk_at "p") => `(tactic| (first | exact pre_self | assumption | (refine pre_app ?_; walk_at "p")))
local macro_rules | `(tactic| walk_at "e") => `(tactic| first
  | refine ⟨_, _, opMul_i (.inl ⟨by decide, by decide⟩), ?_⟩
  | refine ⟨_, _, opMul_i (.inr (.inl ⟨by decide, by decide⟩)), ?_⟩
  | (refine ⟨_, _, opMul_i ?_, ?_⟩; · walk_at "m")
  | refine ⟨_, _, rfl, ?_⟩
  | refine ⟨_, rfl, ?_⟩
  | refine ⟨rfl, ?_⟩
  | refine ⟨rfl, rfl, ?_⟩)
local macro_rules | `(tactic| walk_at "d") => `(tactic| first
  | with_reducible refine ok_c ?_
  | with_reducible refine ok_var rfl ?_
  | with_reducible refine ok_op ?_
  | with_reducible refine ok_un ?_
  | with_reducible refine ok_nil ?_
  | with_reducible refine ok_cons ?_
  | with_reducible refine ok_tup ?_
  | with_reducible refine ok_lst ?_
  | with_reducible refine ok_cb ?_
  | with_reducible refine ok_call ?_
  | with_reducible refine ok_callK ?_
  | with_reducible refine ok_sl ?_
  | with_reducible refine ok_nopart ?_
  | with_reducible refine ok_part ?_
  | with_reducible refine ok_B ?_
  | with_reducible refine ok_andT ?_
  | with_reducible refine ok_orT ?_
  | with_reducible refine ok_notT ?_
  | with_reducible refine ok_and ?_
  | with_reducible refine ok_or ?_
  | with_reducible refine ok_not ?_
  | with_reducible refine ok_if ?_
  | with_reducible refine ok_app ?_
  | with_reducible refine ok_lc ?_
  | with_reducible refine ok_yes ?_
  | with_reducible refine ok_src ?_
  | with_reducible refine ok_rng1 ?_
  | with_reducible refine ok_rng2 ?_
  | with_reducible refine ok_zip ?_
  | with_reducible refine sk_nil ?_
  | with_reducible refine sk_seq ?_
  | with_reducible refine sk_ret ?_
  | with_reducible refine sk_drop ?_
  | with_reducible refine sk_if ?_
  | with_reducible refine sk_asg ?_
  | with_reducible refine sk_par ?_
  | with_reducible refine sk_par3 ?_
  | with_reducible refine sk_for ?_
  | with_reducible refine ⟨_, _, gNm1, ?_⟩
  | with_reducible refine ⟨_, _, gUn2, ?_⟩
  | with_reducible refine ⟨_, _, gUn3, ?_⟩
  | with_reducible refine ⟨_, _, opSub_i, ?_⟩
  | with_reducible refine ⟨_, _, opAdd_i, ?_⟩
  | with_reducible refine ⟨_, _, opNe_i, ?_⟩
  | with_reducible refine ⟨_, _, opEq_i, ?_⟩
  | with_reducible refine ⟨_, _, opMod_i (by decide), ?_⟩
  | with_reducible refine ⟨_, _, opDiv_i ⟨by decide, by decide⟩, ?_⟩
  | ((with_reducible refine And.intro ?_ ?_); · rfl)
  | ((fail_if_success (with_reducible refine And.intro ?_ ?_)); (fail_if_success (with_reducible refine OK.imp (Q := fun _ _ => True) ?_ ?_)); (fail_if_success (with_reducible refine SOK.imp (Qn := fun _ _ => True) (Qr := fun _ _ => True) ?_ ?_ ?_)); walk_at "e"))

def dotL (a b : List Int) : Int := (List.zipWith (· * ·) a b).sum
theorem dot_ok {a b : List Int} {h : HS} {j k : Nat} (hz : a.length ≤ 1000) (ha : BdL j a) (hb : BdL k b) (c : j + k < 1000000) : OK (F_dot [.tup (iL a), .tup (iL b)] h) fun v h' => v = .int (dotL a b) ∧ ∃ g, h' = h ++ g := by
  unfold F_dot m_dot
  refine ok_run ?_
  repeat walk_at "d"
  refine ⟨min a.length b.length, fun i h' => h' = h ++ [iL ((List.zipWith (· * ·) a b).take i)], by simp [Src.size, il_len]; omega, by simp [iL], ?_, ?_⟩
  · rintro i _ hi rfl
    obtain ⟨x, hx⟩ := get_lt (l := a) (i := i) (by omega)
    obtain ⟨y, hy⟩ := get_lt (l := b) (i := i) (by omega)
    refine ⟨.tup [.int x, .int y], by simp [Src.get, il_get hx, il_get hy], ?_⟩
    repeat walk_at "d"
    refine ⟨fun _ => ?_, fun c => (by cases c)⟩
    repeat walk_at "d"
    refine ⟨_, _, opMul_i ((ha x (List.mem_of_getElem? hx)).ok (hb y (List.mem_of_getElem? hy)) c), _, getapp (g := h), by simp [il_len]; omega, ?_⟩
    show _ = _
    rw [setapp, List.take_add_one, zip_get hx hy, il_app]
    rfl
  · rintro _ rfl
    refine ⟨?_, ?_⟩
    · have e : (iL a)[min a.length b.length]? = none ∨ (iL b)[min a.length b.length]? = none := by
        by_cases c : a.length ≤ b.length
        · left; simp [iL]; omega
        · right; simp [iL]; omega
      rcases e with e | e
      · simp [Src.get, e]
      · simp only [Src.get, e]
        cases (iL a)[min a.length b.length]? <;> rfl
    · repeat walk_at "d"
      refine ⟨_, _, sum_eq (getapp (g := h)), ?_, _, rfl⟩
      have e : (List.zipWith (fun x1 x2 : Int => x1 * x2) a b).take (min a.length b.length) = List.zipWith (fun x1 x2 => x1 * x2) a b := List.take_of_length_le (by rw [List.length_zipWith]; omega)
      rw [e]
      rfl
theorem zip2 (f : Int → Int → Int) {a b : List Int} {i : Nat} {x y : Int} (h1 : a[i]? = some x) (h2 : b[i]? = some y) : (List.zipWith f a b)[i]? = some (f x y) := by
  rw [List.getElem?_zipWith, h1, h2]
theorem plus_ok {a b : List Int} {h : HS} (hz : a.length ≤ 1000) (hl : b.length = a.length) : OK (F_plus [.tup (iL a), .tup (iL b)] h) fun v h' => v = .tup (iL (List.zipWith (· + ·) a b)) ∧ ∃ g, h' = h ++ g := by
  unfold F_plus m_plus
  refine ok_run ?_
  repeat walk_at "d"
  refine ⟨a.length, fun i h' => h' = h ++ [iL ((List.zipWith (· + ·) a b).take i)], by simp [Src.size, il_len], by simp [iL], ?_, ?_⟩
  · rintro i _ hi rfl
    obtain ⟨x, hx⟩ := get_lt (l := a) (i := i) (by omega)
    obtain ⟨y, hy⟩ := get_lt (l := b) (i := i) (by omega)
    refine ⟨.tup [.int x, .int y], by simp [Src.get, il_get hx, il_get hy], ?_⟩
    repeat walk_at "d"
    refine ⟨fun _ => ?_, fun c => (by cases c)⟩
    repeat walk_at "d"
    refine ⟨_, getapp (g := h), by simp [il_len]; omega, ?_⟩
    show _ = _
    rw [setapp, List.take_add_one, zip2 _ hx hy, il_app]
    rfl
  · rintro _ rfl
    refine ⟨by simp [Src.get, il_len], ?_⟩
    repeat walk_at "d"
    refine ⟨_, _, opTuple_ref (getapp (g := h)), ?_, _, rfl⟩
    rw [List.take_of_length_le (by rw [List.length_zipWith]; omega)]
theorem minus_ok {a b : List Int} {h : HS} (hz : a.length ≤ 1000) (hl : b.length = a.length) : OK (F_minus [.tup (iL a), .tup (iL b)] h) fun v h' => v = .tup (iL (List.zipWith (· - ·) a b)) ∧ ∃ g, h' = h ++ g := by
  unfold F_minus m_minus
  refine ok_run ?_
  repeat walk_at "d"
  refine ⟨a.length, fun i h' => h' = h ++ [iL ((List.zipWith (· - ·) a b).take i)], by simp [Src.size, il_len], by simp [iL], ?_, ?_⟩
  · rintro i _ hi rfl
    obtain ⟨x, hx⟩ := get_lt (l := a) (i := i) (by omega)
    obtain ⟨y, hy⟩ := get_lt (l := b) (i := i) (by omega)
    refine ⟨.tup [.int x, .int y], by simp [Src.get, il_get hx, il_get hy], ?_⟩
    repeat walk_at "d"
    refine ⟨fun _ => ?_, fun c => (by cases c)⟩
    repeat walk_at "d"
    refine ⟨_, getapp (g := h), by simp [il_len]; omega, ?_⟩
    show _ = _
    rw [setapp, List.take_add_one, zip2 _ hx hy, il_app]
    rfl
  · rintro _ rfl
    refine ⟨by simp [Src.get, il_len], ?_⟩
    repeat walk_at "d"
    refine ⟨_, _, opTuple_ref (getapp (g := h)), ?_, _, rfl⟩
    rw [List.take_of_length_le (by rw [List.length_zipWith]; omega)]
theorem times_ok {f : Int} {a : List Int} {h : HS} {j k : Nat} (hz : a.length ≤ 1000) (hf : Bd j f) (ha : BdL k a) (c : j + k < 1000000) : OK (F_times [.int f, .tup (iL a)] h) fun v h' => v = .tup (iL (mulL f a)) ∧ ∃ g, h' = h ++ g := by
  unfold F_times m_times
  refine ok_run ?_
  repeat walk_at "d"
  refine .inl ⟨_, rfl, a.length, fun i h' => h' = h ++ [iL ((a.take i).map fun x => f * x)], by simp [Src.size, il_len], by simp [iL], ?_, ?_⟩
  · rintro i _ hi rfl
    obtain ⟨x, hx⟩ := get_lt hi
    refine ⟨.int x, by simp [Src.get, il_get hx], ?_⟩
    repeat walk_at "d"
    refine ⟨fun _ => ?_, fun c => (by cases c)⟩
    repeat walk_at "d"
    refine ⟨_, _, opMul_i (hf.ok (ha x (List.mem_of_getElem? hx)) c), ?_⟩
    refine ⟨_, getapp (g := h), by simp [il_len]; omega, ?_⟩
    show _ = _
    rw [setapp, map_take hx, il_app]
    rfl
  · rintro _ rfl
    refine ⟨by simp [Src.get, il_len], ?_⟩
    repeat walk_at "d"
    refine ⟨_, _, opTuple_ref (getapp (g := h)), ?_, _, rfl⟩
    rw [List.take_length]
    rfl
theorem swapped_ok {b : List Int} {h : HS} (hb : b.length ≤ 1000) : OK (F_swapped [.tup (iL b)] h) fun v h' => v = .tup (iL (b.drop 3 ++ b.take 3)) ∧ h' = h := by
  unfold F_swapped m_swapped
  refine ok_run ?_
  repeat walk_at "d"
  rw [show cutD (iL b) none (some 3) = iL (b.take 3) from cut_lo, show cutD (iL b) (some 3) none = iL (b.drop 3) from cut_hi]
  refine ⟨_, _, if_pos (by simp [il_len]; omega), ?_, rfl⟩
  rw [il_app]
theorem div_ok {ns : List Int} {h : HS} : OK (F_common_divisor [.tup (iL ns)] h) fun d h' => d = .int (gcdL ns) ∧ h' = h := by
  unfold F_common_divisor m_common_divisor
  refine ok_run ?_
  repeat walk_at "d"
  refine .inl ⟨_, rfl, ns.length, fun i e h' => h' = h ∧ ∃ v, e = [some (.tup (iL ns)), some (.int (gcdL (ns.take i))), v], by simp [Src.size, il_len], ⟨rfl, none, rfl⟩, ?_, ?_⟩
  · rintro i e _ hi ⟨rfl, v, rfl⟩
    obtain ⟨x, hx⟩ := get_lt hi
    refine ⟨.int x, by simp [Src.get, il_get hx], ?_⟩
    repeat walk_at "d"
    refine ⟨some (.int x), ?_⟩
    rw [gcdL_take hx]
    rfl
  · rintro e _ ⟨rfl, v, rfl⟩
    refine ⟨by simp [Src.get, il_len], ?_⟩
    repeat walk_at "d"
    simp
theorem lead_of {ns : List Int} {i : Nat} {x : Int} (hx : ns[i]? = some x) (hz : ∀ y ∈ ns.take i, y = 0) (c : x ≠ 0) : lead ns = x := by
  have e1 : ns = ns.take i ++ x :: ns.drop (i + 1) := by
    obtain ⟨_, rfl⟩ := List.getElem?_eq_some_iff.mp hx
    simp
  have e2 : (ns.take i).find? (fun n => !(n == 0)) = none := List.find?_eq_none.mpr fun y hy => by simp [hz y hy]
  have e3 : (!(x == 0)) = true := by simpa using c
  unfold lead
  rw [e1, List.find?_append, e2]
  simp only [Option.none_or, List.find?_cons, e3]
  rfl
theorem lead_ok {ns : List Int} {h : HS} : OK (F_first_not_zero [.tup (iL ns)] h) fun d h' => d = .int (lead ns) ∧ h' = h := by
  unfold F_first_not_zero m_first_not_zero
  refine ok_run ?_
  repeat walk_at "d"
  refine .inl ⟨_, rfl, ns.length, fun i e h' => h' = h ∧ (∃ v, e = [some (.tup (iL ns)), v]) ∧ ∀ x ∈ ns.take i, x = 0, by simp [Src.size, il_len], ⟨rfl, ⟨none, rfl⟩, by simp⟩, ?_, ?_⟩
  · rintro i e _ hi ⟨rfl, ⟨v, rfl⟩, hz⟩
    obtain ⟨x, hx⟩ := get_lt hi
    refine ⟨.int x, by simp [Src.get, il_get hx], ?_⟩
    repeat walk_at "d"
    refine ⟨fun c => ?_, fun c => ?_⟩
    · repeat walk_at "d"
      refine ⟨?_, rfl⟩
      rw [lead_of hx hz (by simpa using c)]
    · refine sk_nil ⟨rfl, ⟨some (.int x), rfl⟩, fun y hy => ?_⟩
      rw [List.take_add_one, hx] at hy
      rcases List.mem_append.mp hy with q | q
      · exact hz y q
      · have : y = x := by simpa using q
        subst this
        simpa using c
  · rintro e _ ⟨rfl, ⟨v, rfl⟩, hz⟩
    refine ⟨by simp [Src.get, il_len], ?_⟩
    repeat walk_at "d"
    refine ⟨?_, rfl⟩
    rw [List.take_length] at hz
    rw [lead_zero fun ⟨y, hy, y0⟩ => y0 (hz y hy)]
theorem whole_ok {i : Int} {h : HS} : F_is_whole [.int i] h = .ok (.bl true) h := by
  unfold F_is_whole PI.run
  rfl
theorem isred_ok {ns : List Int} {n : Nat} {h : HS} (hz : ns.length ≤ 1000) (hl : ns.length = n) (hr : Red ns) : OK (F_is_reduced_row [.tup (iL ns), .int n] h) fun v h' => v = .bl true ∧ ∃ g, h' = h ++ g := by
  unfold F_is_reduced_row m_is_reduced_row
  refine ok_run ?_
  repeat walk_at "d"
  refine ⟨fun _ => ?_, fun c => (by cases c)⟩
  repeat walk_at "d"
  refine ⟨fun c => absurd c ?_, fun c => ?_⟩
  · rw [il_len, hl]; simp
  repeat walk_at "d"
  refine .inl ⟨_, rfl, ns.length, fun i h' => h' = h ++ [((iL ns).take i).map fun _ => .bl true], by simp [Src.size, il_len], by simp, ?_, ?_⟩
  · rintro i _ hi rfl
    obtain ⟨x, hx⟩ := get_lt hi
    refine ⟨.int x, by simp [Src.get, il_get hx], ?_⟩
    repeat walk_at "d"
    refine ⟨fun _ => ?_, fun c => (by cases c)⟩
    repeat walk_at "d"
    refine OK.of whole_ok ⟨_, getapp (g := h), by simp; omega, ?_⟩
    show _ = _
    rw [setapp, map_take (il_get hx)]
  · rintro _ rfl
    refine ⟨by simp [Src.get, il_len], ?_⟩
    repeat walk_at "d"
    refine ⟨_, _, all_eq (f := fun _ => true) (getapp (g := h)), ?_⟩
    repeat walk_at "d"
    refine ⟨fun c => absurd c (by simp), fun _ => ?_⟩
    refine sk_nil ?_
    repeat walk_at "d"
    refine div_ok.imp ?_
    rintro _ _ ⟨rfl, rfl⟩
    repeat walk_at "d"
    refine ⟨fun _ => ?_, fun c3 => ?_⟩
    · repeat walk_at "d"
      refine lead_ok.imp ?_
      rintro _ _ ⟨rfl, rfl⟩
      repeat walk_at "d"
      refine ⟨?_, _, rfl⟩
      have := hr.2
      simpa using this
    · rw [hr.1] at c3
      cases c3
theorem log9 {k : Nat} {x : Int} (a : Bd k x) (h : k < 9000) : x.natAbs.log2 < 9000 := Nat.lt_of_le_of_lt a.log h
theorem fdiv_fac {f x : Int} (hf : f ≠ 0) : (f * x).fdiv f = x := Int.mul_fdiv_cancel_left x hf
theorem redF_fdiv {ns : List Int} (h : Nz ns) : (ns.map fun x => x.fdiv (facN ns)) = redF ns := by
  have e := redF_back h
  conv => lhs; rw [← e]
  unfold mulL
  rw [List.map_map]
  conv => rhs; rw [← List.map_id (redF ns)]
  refine List.map_congr_left fun x _ => ?_
  show (facN ns * x).fdiv (facN (mulL (facN ns) (redF ns))) = x
  rw [e]
  exact fdiv_fac (facN_nz h)
theorem reduced_ok {ns : List Int} {h : HS} {k : Nat} (hz : ns.length ≤ 1000) (hn : Nz ns) (hb : BdL k ns) (hk : k < 9000) : OK (F_reduced [.tup (iL ns)] h) fun v h' => v = .tup (iL (redF ns)) ∧ ∃ g, h' = h ++ g := by
  unfold F_reduced m_reduced
  refine ok_run ?_
  repeat walk_at "d"
  refine div_ok.imp ?_
  rintro _ _ ⟨rfl, rfl⟩
  repeat walk_at "d"
  refine lead_ok.imp ?_
  rintro _ h ⟨rfl, rfl⟩
  repeat walk_at "d"
  have go : ∀ f : Int, f = facN ns → SOK ((sRet (dCB opTuple (dCons (dLc (dSrc (dVar 0)) (gNm 2) dYes (dOp opDiv (dVar 2) (dVar 1)) [2]) dNil))) [some (.tup (iL ns)), some (.int f), none] h) (fun _ _ => False) (fun v h'' => v = .tup (iL (redF ns)) ∧ ∃ g, h'' = h ++ g) := by
    rintro f rfl
    repeat walk_at "d"
    refine .inl ⟨_, rfl, ns.length, fun i h'' => h'' = h ++ [iL ((ns.take i).map fun x => x.fdiv (facN ns))], by simp [Src.size, il_len], by simp [iL], ?_, ?_⟩
    · rintro i _ hi rfl
      obtain ⟨x, hx⟩ := get_lt hi
      refine ⟨.int x, by simp [Src.get, il_get hx], ?_⟩
      repeat walk_at "d"
      refine ⟨fun _ => ?_, fun c => (by cases c)⟩
      repeat walk_at "d"
      refine ⟨_, _, opDiv_f ⟨facN_nz hn, log9 (facN_bd hb) hk⟩, _, getapp (g := h), by simp [il_len]; omega, ?_⟩
      show _ = _
      rw [setapp, map_take hx, il_app]
      rfl
    · rintro _ rfl
      refine ⟨by simp [Src.get, il_len], ?_⟩
      repeat walk_at "d"
      refine ⟨_, _, opTuple_ref (getapp (g := h)), ?_, _, rfl⟩
      rw [List.take_length, redF_fdiv hn]
  refine ⟨fun c => ?_, fun c => ?_⟩
  · refine sk_asg (ok_un (ok_var rfl ⟨_, _, rfl, _, _, rfl, ?_⟩))
    refine (go (-gcdL ns) ?_).imp (fun _ _ z => z.elim) fun _ _ z => z
    have : lead ns < 0 := by simpa using c
    unfold facN sgn
    rw [if_pos this]
    omega
  · refine sk_nil ((go (gcdL ns) ?_).imp (fun _ _ z => z.elim) fun _ _ z => z)
    have : ¬ lead ns < 0 := by simpa using c
    unfold facN sgn
    rw [if_neg this]
    omega

end PK

set_option maxHeartbeats 4000000
namespace PK
open PySem L2 PySem.Spec PI
local macro_rules | `(tactic| walk_at "b") => `(tactic| first
  | with_reducible assumption
  | (with_reducible refine Bd.mul ?_ ?_) <;> walk_at "b"
  | (with_reducible refine Bd.sub ?_ ?_) <;> walk_at "b"
  | (with_reducible refine Bd.add ?_ ?_) <;> walk_at "b"
  | (with_reducible refine Bd.neg ?_) <;> walk_at "b"
  | exact natAbs_lt (k := 40) (by decide))
local macro_rules | `(tactic| walk_at "m") => `(tactic| (apply Bd.ok <;> first | walk_at "b" | decide))
local macro_rules | `(tactic| walk_at "p") => `(tactic| (first | exact pre_self | assumption | (refine pre_app ?_; walk_at "p")))
local macro_rules | `(tactic| walk_at "e") => `(tactic| first
  | refine ⟨_, _, opMul_i (.inl ⟨by decide, by decide⟩), ?_⟩
  | refine ⟨_, _, opMul_i (.inr (.inl ⟨by decide, by decide⟩)), ?_⟩
  | (refine ⟨_, _, opMul_i ?_, ?_⟩; · walk_at "m")
  | refine ⟨_, _, rfl, ?_⟩
  | refine ⟨_, rfl, ?_⟩
  | refine ⟨rfl, ?_⟩
  | refine ⟨rfl, rfl, ?_⟩)
local macro_rules | `(tactic| walk_at "d") => `(tactic| first
  | with_reducible refine ok_c ?_
  | with_reducible refine ok_var rfl ?_
  | with_reducible refine ok_op ?_
  | with_reducible refine ok_un ?_
  | with_reducible refine ok_nil ?_
  | with_reducible refine ok_cons ?_
  | with_reducible refine ok_tup ?_
  | with_reducible refine ok_lst ?_
  | with_reducible refine ok_cb ?_
  | with_reducible refine ok_call ?_
  | with_reducible refine ok_callK ?_
  | with_reducible refine ok_sl ?_
  | with_reducible refine ok_nopart ?_
  | with_reducible refine ok_part ?_
  | with_reducible refine ok_B ?_
  | with_reducible refine ok_andT ?_
  | with_reducible refine ok_orT ?_
  | with_reducible refine ok_notT ?_
  | with_reducible refine ok_and ?_
  | with_reducible refine ok_or ?_
  | with_reducible refine ok_not ?_
  | with_reducible refine ok_if ?_
  | with_reducible refine ok_app ?_
  | with_reducible refine ok_lc ?_
  | with_reducible refine ok_yes ?_
  | with_reducible refine ok_src ?_
  | with_reducible refine ok_rng1 ?_
  | with_reducible refine ok_rng2 ?_
  | with_reducible refine ok_zip ?_
  | with_reducible refine sk_nil ?_
  | with_reducible refine sk_seq ?_
  | with_reducible refine sk_ret ?_
  | with_reducible refine sk_drop ?_
  | with_reducible refine sk_if ?_
  | with_reducible refine sk_asg ?_
  | with_reducible refine sk_par ?_
  | with_reducible refine sk_par3 ?_
  | with_reducible refine sk_for ?_
  | with_reducible refine ⟨_, _, gNm1, ?_⟩
  | with_reducible refine ⟨_, _, gUn2, ?_⟩
  | with_reducible refine ⟨_, _, gUn3, ?_⟩
  | with_reducible refine ⟨_, _, opSub_i, ?_⟩
  | with_reducible refine ⟨_, _, opAdd_i, ?_⟩
  | with_reducible refine ⟨_, _, opNe_i, ?_⟩
  | with_reducible refine ⟨_, _, opEq_i, ?_⟩
  | with_reducible refine ⟨_, _, opMod_i (by decide), ?_⟩
  | with_reducible refine ⟨_, _, opDiv_i ⟨by decide, by decide⟩, ?_⟩
  | ((with_reducible refine And.intro ?_ ?_); · rfl)
  | ((fail_if_success (with_reducible refine And.intro ?_ ?_)); (fail_if_success (with_reducible refine OK.imp (Q := fun _ _ => True) ?_ ?_)); (fail_if_success (with_reducible refine SOK.imp (Qn := fun _ _ => True) (Qr := fun _ _ => True) ?_ ?_ ?_)); walk_at "e"))

def gI (l : List Int) (i : Nat) : Int := l.getD i 0
def rp (a b : List Int) : Int := gI a 0 * gI b 3 + gI a 1 * gI b 4 + gI a 2 * gI b 5 + gI a 3 * gI b 0 + gI a 4 * gI b 1 + gI a 5 * gI b 2
structure IsRod (ns : List Int) : Prop where
  len : ns.length = 6
  red : Red ns
  dm : gI ns 0 * gI ns 3 + gI ns 1 * gI ns 4 + gI ns 2 * gI ns 5 = 0
structure IsPt (ns : List Int) : Prop where
  len : ns.length = 4
  red : Red ns
theorem isrod_ok {ns : List Int} {h : HS} {k : Nat} (R : IsRod ns) (hb : BdL k ns) (hk : k < 400000) : OK (F_is_rod [.tup (iL ns)] h) fun v h' => v = .bl true ∧ ∃ g, h' = h ++ g := by
  have hl := R.len
  unfold F_is_rod m_is_rod
  refine ok_run ?_
  repeat walk_at "d"
  refine (isred_ok (n := 6) (by omega) hl R.red).imp ?_
  rintro _ _ ⟨rfl, g, rfl⟩
  repeat walk_at "d"
  refine ⟨fun c => ?_, fun c => (by cases c)⟩
  repeat walk_at "d"
  rw [show cutD (iL ns) none (some 3) = iL (ns.take 3) from cut_lo, show cutD (iL ns) (some 3) none = iL (ns.drop 3) from cut_hi]
  refine (dot_ok (j := k) (k := k) (by simp; omega) hb.take hb.drop (by omega)).imp ?_
  rintro _ _ ⟨rfl, g2, rfl⟩
  repeat walk_at "d"
  refine ⟨?_, g ++ g2, by simp⟩
  have dm := R.dm
  obtain ⟨a, b, c, d, e, f, rfl⟩ := six hl
  have dm : a * d + b * e + c * f = 0 := dm
  have e2 : dotL (List.take 3 [a, b, c, d, e, f]) (List.drop 3 [a, b, c, d, e, f]) = a * d + b * e + c * f := by
    show a * d + (b * e + (c * f + 0)) = _
    omega
  rw [e2, dm]
  rfl
theorem check_rod_ok {ns : List Int} {h : HS} {k : Nat} (R : IsRod ns) (hb : BdL k ns) (hk : k < 400000) : OK (F_check_rod [.tup (iL ns)] h) fun v h' => v = .non ∧ ∃ g, h' = h ++ g := by
  unfold F_check_rod m_check_rod
  refine ok_run ?_
  repeat walk_at "d"
  refine (isrod_ok R hb hk).imp ?_
  rintro _ _ ⟨rfl, g, rfl⟩
  repeat walk_at "d"
  refine ⟨fun c => (by cases c), fun _ => sk_nil ⟨rfl, g, rfl⟩⟩
theorem check_rods_ok {a b : List Int} {h : HS} {k : Nat} (R : IsRod a) (S : IsRod b) (ha : BdL k a) (hb : BdL k b) (hk : k < 400000) : OK (F_check_rods [.tup (iL a), .tup (iL b)] h) fun v h' => v = .non ∧ ∃ g, h' = h ++ g := by
  unfold F_check_rods m_check_rods
  refine ok_run ?_
  repeat walk_at "d"
  refine (check_rod_ok R ha hk).imp ?_
  rintro _ _ ⟨rfl, g, rfl⟩
  repeat walk_at "d"
  refine (check_rod_ok S hb hk).imp ?_
  rintro _ _ ⟨rfl, g2, rfl⟩
  exact ⟨rfl, g ++ g2, by simp⟩
theorem rowp_ok {a b : List Int} {h : HS} {j k : Nat} (la : a.length = 6) (lb : b.length = 6) (ha : BdL j a) (hb : BdL k b) (c : j + k < 1000000) : OK (F_row_product [.tup (iL a), .tup (iL b)] h) fun v h' => v = .int (rp a b) ∧ ∃ g, h' = h ++ g := by
  unfold F_row_product m_row_product
  refine ok_run ?_
  repeat walk_at "d"
  refine (swapped_ok (by omega)).imp ?_
  rintro _ _ ⟨rfl, rfl⟩
  repeat walk_at "d"
  refine (dot_ok (by omega) ha (hb.drop.app hb.take) c).imp ?_
  rintro _ _ ⟨rfl, g, rfl⟩
  refine ⟨?_, g, rfl⟩
  obtain ⟨a, b, c, d, e, f, rfl⟩ := six la
  obtain ⟨p, q, r, s, t, u, rfl⟩ := six lb
  show D.int (a * s + (b * t + (c * u + (d * p + (e * q + (f * r + 0)))))) = D.int (a * s + b * t + c * u + d * p + e * q + f * r)
  congr 1
  omega
theorem product_ok {a b : List Int} {h : HS} {k : Nat} (R : IsRod a) (S : IsRod b) (ha : BdL k a) (hb : BdL k b) (hk : k < 400000) : OK (F_product [.tup (iL a), .tup (iL b)] h) fun v h' => v = .int (rp a b) ∧ ∃ g, h' = h ++ g := by
  unfold F_product m_product
  refine ok_run ?_
  repeat walk_at "d"
  refine (check_rods_ok R S ha hb hk).imp ?_
  rintro _ _ ⟨rfl, g, rfl⟩
  repeat walk_at "d"
  refine (rowp_ok R.len S.len ha hb (by omega)).imp ?_
  rintro _ _ ⟨rfl, g2, rfl⟩
  exact ⟨rfl, g ++ g2, by simp⟩
theorem meet_ok {a b : List Int} {h : HS} {k : Nat} (R : IsRod a) (S : IsRod b) (ha : BdL k a) (hb : BdL k b) (hk : k < 400000) : OK (F_do_meet [.tup (iL a), .tup (iL b)] h) fun v h' => v = .bl (rp a b == 0) ∧ ∃ g, h' = h ++ g := by
  unfold F_do_meet m_do_meet
  refine ok_run ?_
  repeat walk_at "d"
  refine (check_rods_ok R S ha hb hk).imp ?_
  rintro _ _ ⟨rfl, g, rfl⟩
  repeat walk_at "d"
  refine (rowp_ok R.len S.len ha hb (by omega)).imp ?_
  rintro _ _ ⟨rfl, g2, rfl⟩
  repeat walk_at "d"
  exact ⟨g ++ g2, by simp⟩
theorem ispoint_ok {ns : List Int} {h : HS} (R : IsPt ns) : OK (F_is_point [.tup (iL ns)] h) fun v h' => v = .bl true ∧ ∃ g, h' = h ++ g := by
  have hl := R.len
  unfold F_is_point m_is_point
  refine ok_run ?_
  repeat walk_at "d"
  exact isred_ok (n := 4) (by omega) hl R.red
theorem isplane_ok {ns : List Int} {h : HS} (R : IsPt ns) : OK (F_is_plane [.tup (iL ns)] h) fun v h' => v = .bl true ∧ ∃ g, h' = h ++ g := by
  have hl := R.len
  unfold F_is_plane m_is_plane
  refine ok_run ?_
  repeat walk_at "d"
  exact isred_ok (n := 4) (by omega) hl R.red
theorem check_point_ok {ns : List Int} {h : HS} (R : IsPt ns) : OK (F_check_point [.tup (iL ns)] h) fun v h' => v = .non ∧ ∃ g, h' = h ++ g := by
  unfold F_check_point m_check_point
  refine ok_run ?_
  repeat walk_at "d"
  refine (ispoint_ok R).imp ?_
  rintro _ _ ⟨rfl, g, rfl⟩
  repeat walk_at "d"
  refine ⟨fun c => (by cases c), fun _ => sk_nil ⟨rfl, g, rfl⟩⟩
theorem check_plane_ok {ns : List Int} {h : HS} (R : IsPt ns) : OK (F_check_plane [.tup (iL ns)] h) fun v h' => v = .non ∧ ∃ g, h' = h ++ g := by
  unfold F_check_plane m_check_plane
  refine ok_run ?_
  repeat walk_at "d"
  refine (isplane_ok R).imp ?_
  rintro _ _ ⟨rfl, g, rfl⟩
  repeat walk_at "d"
  refine ⟨fun c => (by cases c), fun _ => sk_nil ⟨rfl, g, rfl⟩⟩
theorem dot4 {a b c d w x y z : Int} : dotL [a, b, c, d] [w, x, y, z] = a * w + b * x + c * y + d * z := by
  show a * w + (b * x + (c * y + (d * z + 0))) = _
  omega
theorem dot3 {a b c x y z : Int} : dotL [a, b, c] [x, y, z] = a * x + b * y + c * z := by
  show a * x + (b * y + (c * z + 0)) = _
  omega
theorem lies_ok {a b : List Int} {h : HS} {k : Nat} (R : IsPt a) (S : IsPt b) (ha : BdL k a) (hb : BdL k b) (hk : k < 400000) : OK (F_lies_in [.tup (iL a), .tup (iL b)] h) fun v h' => v = .bl (dotL a b == 0) ∧ ∃ g, h' = h ++ g := by
  unfold F_lies_in m_lies_in
  refine ok_run ?_
  repeat walk_at "d"
  refine (check_point_ok R).imp ?_
  rintro _ _ ⟨rfl, g, rfl⟩
  repeat walk_at "d"
  refine (check_plane_ok S).imp ?_
  rintro _ _ ⟨rfl, g2, rfl⟩
  repeat walk_at "d"
  refine (dot_ok (by have := R.len; omega) ha hb (by omega)).imp ?_
  rintro _ _ ⟨rfl, g3, rfl⟩
  repeat walk_at "d"
  exact ⟨g ++ (g2 ++ g3), by simp⟩
theorem cross_ok {a b c x y z : Int} {h : HS} {k : Nat} (ha : Bd k a) (hb : Bd k b) (hc : Bd k c) (hx : Bd k x) (hy : Bd k y) (hz : Bd k z) (hk : k < 400000) : OK (F_cross [.tup (iL [a, b, c]), .tup (iL [x, y, z])] h) fun v h' => v = .tup (iL [b * z - c * y, c * x - a * z, a * y - b * x]) ∧ h' = h := by
  have m : ∀ {i j : Int}, Bd k i → Bd k j → MulOk i j := fun a b => a.ok b (by omega)
  unfold F_cross m_cross
  refine ok_run ?_
  repeat walk_at "d"
  refine ⟨_, _, opMul_i (m hb hz), ?_⟩
  repeat walk_at "d"
  refine ⟨_, _, opMul_i (m hc hy), ?_⟩
  repeat walk_at "d"
  refine ⟨_, _, opMul_i (m hc hx), ?_⟩
  repeat walk_at "d"
  refine ⟨_, _, opMul_i (m ha hz), ?_⟩
  repeat walk_at "d"
  refine ⟨_, _, opMul_i (m ha hy), ?_⟩
  repeat walk_at "d"
  refine ⟨_, _, opMul_i (m hb hx), ?_⟩
  repeat walk_at "d"
  exact ⟨by simp, rfl, rfl⟩

end PK

set_option maxHeartbeats 4000000
namespace PK
open PySem L2 PySem.Spec PI
local macro_rules | `(tactic| walk_at "b") => `(tactic| first
  | with_reducible assumption
  | (with_reducible refine Bd.mul ?_ ?_) <;> walk_at "b"
  | (with_reducible refine Bd.sub ?_ ?_) <;> walk_at "b"
  | (with_reducible refine Bd.add ?_ ?_) <;> walk_at "b"
  | (with_reducible refine Bd.neg ?_) <;> walk_at "b"
  | exact natAbs_lt (k := 40) (by decide))
local macro_rules | `(tactic| walk_at "m") => `(tactic| (apply Bd.ok <;> first | walk_at "b" | decide))
local macro_rules | `(tactic| walk_at "p") => `(tactic| (first | exact pre_self | assumption | (refine pre_app ?_; walk_at "p")))
local macro_rules | `(tactic| walk_at "e") => `(tactic| first
  | refine ⟨_, _, opMul_i (.inl ⟨by decide, by decide⟩), ?_⟩
  | refine ⟨_, _, opMul_i (.inr (.inl ⟨by decide, by decide⟩)), ?_⟩
  | (refine ⟨_, _, opMul_i ?_, ?_⟩; · walk_at "m")
  | refine ⟨_, _, rfl, ?_⟩
  | refine ⟨_, rfl, ?_⟩
  | refine ⟨rfl, ?_⟩
  | refine ⟨rfl, rfl, ?_⟩)
local macro_rules | `(tactic| walk_at "d") => `(tactic| first
  | with_reducible refine ok_c ?_
  | with_reducible refine ok_var rfl ?_
  | with_reducible refine ok_op ?_
  | with_reducible refine ok_un ?_
  | with_reducible refine ok_nil ?_
  | with_reducible refine ok_cons ?_
  | with_reducible refine ok_tup ?_
  | with_reducible refine ok_lst ?_
  | with_reducible refine ok_cb ?_
  | with_reducible refine ok_call ?_
  | with_reducible refine ok_callK ?_
  | with_reducible refine ok_sl ?_
  | with_reducible refine ok_nopart ?_
  | with_reducible refine ok_part ?_
  | with_reducible refine ok_B ?_
  | with_reducible refine ok_andT ?_
  | with_reducible refine ok_orT ?_
  | with_reducible refine ok_notT ?_
  | with_reducible refine ok_and ?_
  | with_reducible refine ok_or ?_
  | with_reducible refine ok_not ?_
  | with_reducible refine ok_if ?_
  | with_reducible refine ok_app ?_
  | with_reducible refine ok_lc ?_
  | with_reducible refine ok_yes ?_
  | with_reducible refine ok_src ?_
  | with_reducible refine ok_rng1 ?_
  | with_reducible refine ok_rng2 ?_
  | with_reducible refine ok_zip ?_
  | with_reducible refine sk_nil ?_
  | with_reducible refine sk_seq ?_
  | with_reducible refine sk_ret ?_
  | with_reducible refine sk_drop ?_
  | with_reducible refine sk_if ?_
  | with_reducible refine sk_asg ?_
  | with_reducible refine sk_par ?_
  | with_reducible refine sk_par3 ?_
  | with_reducible refine sk_for ?_
  | with_reducible refine ⟨_, _, gNm1, ?_⟩
  | with_reducible refine ⟨_, _, gUn2, ?_⟩
  | with_reducible refine ⟨_, _, gUn3, ?_⟩
  | with_reducible refine ⟨_, _, opSub_i, ?_⟩
  | with_reducible refine ⟨_, _, opAdd_i, ?_⟩
  | with_reducible refine ⟨_, _, opNe_i, ?_⟩
  | with_reducible refine ⟨_, _, opEq_i, ?_⟩
  | with_reducible refine ⟨_, _, opMod_i (by decide), ?_⟩
  | with_reducible refine ⟨_, _, opDiv_i ⟨by decide, by decide⟩, ?_⟩
  | ((with_reducible refine And.intro ?_ ?_); · rfl)
  | ((fail_if_success (with_reducible refine And.intro ?_ ?_)); (fail_if_success (with_reducible refine OK.imp (Q := fun _ _ => True) ?_ ?_)); (fail_if_success (with_reducible refine SOK.imp (Qn := fun _ _ => True) (Qr := fun _ _ => True) ?_ ?_ ?_)); walk_at "e"))

theorem gI_mul (k : Int) (l : List Int) (i : Nat) : gI (mulL k l) i = k * gI l i := by
  unfold gI mulL
  simp only [List.getD_eq_getElem?_getD, List.getElem?_map]
  cases l[i]? <;> simp
theorem gI_back {l : List Int} (h : Nz l) (i : Nat) : gI l i = facN l * gI (redF l) i := by
  rw [← gI_mul, redF_back h]
theorem zero_of_mul {f x : Int} (hf : f ≠ 0) (h : f * x = 0) : x = 0 := (Int.mul_eq_zero.mp h).resolve_left hf
theorem gI_bd {k : Nat} {l : List Int} (h : BdL k l) (i : Nat) : Bd k (gI l i) := by
  unfold gI
  rw [List.getD_eq_getElem?_getD]
  cases q : l[i]? with
  | none => exact Bd.zero
  | some x => exact h x (List.mem_of_getElem? q)
def planeL (r x : List Int) : List Int := [-(gI r 3 * gI x 1 + gI r 4 * gI x 2 + gI r 5 * gI x 3), gI x 0 * gI r 3 + (gI r 1 * gI x 3 - gI r 2 * gI x 2), gI x 0 * gI r 4 + (gI r 2 * gI x 1 - gI r 0 * gI x 3), gI x 0 * gI r 5 + (gI r 0 * gI x 2 - gI r 1 * gI x 1)]
def pointL (r s : List Int) : List Int := [gI s 1 * gI r 0 + gI s 2 * gI r 1 + gI s 3 * gI r 2, (gI s 2 * gI r 5 - gI s 3 * gI r 4) - gI s 0 * gI r 0, (gI s 3 * gI r 3 - gI s 1 * gI r 5) - gI s 0 * gI r 1, (gI s 1 * gI r 4 - gI s 2 * gI r 3) - gI s 0 * gI r 2]
theorem bdl3 {k : Nat} {a b c : Int} (x : Bd k a) (y : Bd k b) (z : Bd k c) : BdL k [a, b, c] := bdl_cons x (bdl_cons y (bdl_cons z bdl_nil))
theorem bdl4 {k : Nat} {a b c d : Int} (x : Bd k a) (y : Bd k b) (z : Bd k c) (w : Bd k d) : BdL k [a, b, c, d] := bdl_cons x (bdl3 y z w)
theorem bd4 {k : Nat} {a b c d : Int} (h : BdL k [a, b, c, d]) : Bd k a ∧ Bd k b ∧ Bd k c ∧ Bd k d := ⟨h a (by simp), h b (by simp), h c (by simp), h d (by simp)⟩
theorem bd6 {k : Nat} {a b c d e f : Int} (h : BdL k [a, b, c, d, e, f]) : Bd k a ∧ Bd k b ∧ Bd k c ∧ Bd k d ∧ Bd k e ∧ Bd k f := ⟨h a (by simp), h b (by simp), h c (by simp), h d (by simp), h e (by simp), h f (by simp)⟩
theorem plane_row_ok {r x : List Int} {h : HS} {k : Nat} (lr : r.length = 6) (lx : x.length = 4) (hr : BdL k r) (hx : BdL k x) (hk : k < 100000) : OK (F_plane_row [.tup (iL r), .tup (iL x)] h) fun v h' => v = .tup (iL (planeL r x)) ∧ ∃ g, h' = h ++ g := by
  obtain ⟨a, b, c, d, e, f, rfl⟩ := six lr
  obtain ⟨w, p, q, s, rfl⟩ := four lx
  obtain ⟨A, B, C, D', E, F⟩ := bd6 hr
  obtain ⟨W, P, Q, S⟩ := bd4 hx
  unfold F_plane_row m_plane_row
  refine ok_run ?_
  repeat walk_at "d"
  rw [show cutD (iL [a, b, c, d, e, f]) none (some 3) = iL [a, b, c] from cut_lo (k := 3), show cutD (iL [a, b, c, d, e, f]) (some 3) none = iL [d, e, f] from cut_hi (k := 3)]
  repeat walk_at "d"
  refine (times_ok (f := w) (a := [d, e, f]) (by simp) W (bdl3 D' E F) (by omega)).imp ?_
  rintro _ _ ⟨rfl, g1, rfl⟩
  repeat walk_at "d"
  rw [show cutD (iL [w, p, q, s]) (some 1) none = iL [p, q, s] from cut_hi (k := 1)]
  refine (cross_ok A B C P Q S (by omega)).imp ?_
  rintro _ _ ⟨rfl, rfl⟩
  repeat walk_at "d"
  refine (plus_ok (a := mulL w [d, e, f]) (by simp [mulL]) (by simp [mulL])).imp ?_
  rintro _ _ ⟨rfl, g2, rfl⟩
  repeat walk_at "d"
  rw [show cutD (iL [w, p, q, s]) (some 1) none = iL [p, q, s] from cut_hi (k := 1)]
  refine (dot_ok (a := [d, e, f]) (b := [p, q, s]) (by simp) (bdl3 D' E F) (bdl3 P Q S) (by omega)).imp ?_
  rintro _ _ ⟨rfl, g3, rfl⟩
  repeat walk_at "d"
  refine ⟨by simp, ?_⟩
  repeat walk_at "d"
  refine ⟨?_, g1 ++ (g2 ++ g3), by simp⟩
  rw [dot3]
  rfl
theorem point_row_ok {r x : List Int} {h : HS} {k : Nat} (lr : r.length = 6) (lx : x.length = 4) (hr : BdL k r) (hx : BdL k x) (hk : k < 100000) : OK (F_point_row [.tup (iL r), .tup (iL x)] h) fun v h' => v = .tup (iL (pointL r x)) ∧ ∃ g, h' = h ++ g := by
  obtain ⟨a, b, c, d, e, f, rfl⟩ := six lr
  obtain ⟨w, p, q, s, rfl⟩ := four lx
  obtain ⟨A, B, C, D', E, F⟩ := bd6 hr
  obtain ⟨W, P, Q, S⟩ := bd4 hx
  unfold F_point_row m_point_row
  refine ok_run ?_
  repeat walk_at "d"
  rw [show cutD (iL [a, b, c, d, e, f]) none (some 3) = iL [a, b, c] from cut_lo (k := 3), show cutD (iL [a, b, c, d, e, f]) (some 3) none = iL [d, e, f] from cut_hi (k := 3)]
  repeat walk_at "d"
  rw [show cutD (iL [w, p, q, s]) (some 1) none = iL [p, q, s] from cut_hi (k := 1)]
  refine (cross_ok P Q S D' E F (by omega)).imp ?_
  rintro _ _ ⟨rfl, rfl⟩
  repeat walk_at "d"
  refine (times_ok (f := w) (a := [a, b, c]) (by simp) W (bdl3 A B C) (by omega)).imp ?_
  rintro _ _ ⟨rfl, g1, rfl⟩
  repeat walk_at "d"
  refine (minus_ok (b := mulL w [a, b, c]) (by simp) (by simp [mulL])).imp ?_
  rintro _ _ ⟨rfl, g2, rfl⟩
  repeat walk_at "d"
  rw [show cutD (iL [w, p, q, s]) (some 1) none = iL [p, q, s] from cut_hi (k := 1)]
  refine (dot_ok (a := [p, q, s]) (b := [a, b, c]) (by simp) (bdl3 P Q S) (bdl3 A B C) (by omega)).imp ?_
  rintro _ _ ⟨rfl, g3, rfl⟩
  repeat walk_at "d"
  refine ⟨by simp, ?_⟩
  repeat walk_at "d"
  refine ⟨?_, g1 ++ (g2 ++ g3), by simp⟩
  rw [dot3]
  rfl
/-- whether some number is not 0 -/
def anyL (l : List Int) : Bool := l.any fun x => x != 0
theorem anyT_eq {l : List Int} {h : HS} : opAnyT [.tup (iL l)] h = some (.bl (anyL l), h) := by
  show (allInt (iL l)).bind _ = _
  rw [allInt_il]
  rfl
theorem anyL_nz {l : List Int} : anyL l = true ↔ Nz l := by
  unfold anyL Nz
  simp
theorem anyL_no {l : List Int} : anyL l = false ↔ ¬ Nz l := by
  rw [← anyL_nz]
  simp
theorem on_rod_ok {x r : List Int} {h : HS} {k : Nat} (X : IsPt x) (R : IsRod r) (hx : BdL k x) (hr : BdL k r) (hk : k < 100000) : OK (F_on_rod [.tup (iL x), .tup (iL r)] h) fun v h' => v = .bl (!anyL (planeL r x)) ∧ ∃ g, h' = h ++ g := by
  unfold F_on_rod m_on_rod
  refine ok_run ?_
  repeat walk_at "d"
  refine (check_point_ok X).imp ?_
  rintro _ _ ⟨rfl, g1, rfl⟩
  repeat walk_at "d"
  refine (check_rod_ok R hr (by omega)).imp ?_
  rintro _ _ ⟨rfl, g2, rfl⟩
  repeat walk_at "d"
  refine (plane_row_ok R.len X.len hr hx hk).imp ?_
  rintro _ _ ⟨rfl, g3, rfl⟩
  refine ok_nil ⟨_, _, anyT_eq, _, rfl, rfl, g1 ++ (g2 ++ g3), by simp⟩
theorem in_plane_ok {r s : List Int} {h : HS} {k : Nat} (R : IsRod r) (S : IsPt s) (hr : BdL k r) (hs : BdL k s) (hk : k < 100000) : OK (F_in_plane [.tup (iL r), .tup (iL s)] h) fun v h' => v = .bl (!anyL (pointL r s)) ∧ ∃ g, h' = h ++ g := by
  unfold F_in_plane m_in_plane
  refine ok_run ?_
  repeat walk_at "d"
  refine (check_rod_ok R hr (by omega)).imp ?_
  rintro _ _ ⟨rfl, g1, rfl⟩
  repeat walk_at "d"
  refine (check_plane_ok S).imp ?_
  rintro _ _ ⟨rfl, g2, rfl⟩
  repeat walk_at "d"
  refine (point_row_ok R.len S.len hr hs hk).imp ?_
  rintro _ _ ⟨rfl, g3, rfl⟩
  refine ok_nil ⟨_, _, anyT_eq, _, rfl, rfl, g1 ++ (g2 ++ g3), by simp⟩
theorem plane_bd {r x : List Int} {j : Nat} (hr : BdL j r) (hx : BdL j x) : BdL (2 * j + 5) (planeL r x) := by
  have m : ∀ i i', Bd (2 * j) (gI r i * gI x i') := fun i i' => ((gI_bd hr i).mul (gI_bd hx i')).mono (by omega)
  have m2 : ∀ i i', Bd (2 * j) (gI x i * gI r i') := fun i i' => ((gI_bd hx i).mul (gI_bd hr i')).mono (by omega)
  refine bdl4 ?_ ?_ ?_ ?_
  · exact ((((m _ _).add (m _ _)).add (m _ _)).neg).mono (by omega)
  · exact ((m2 _ _).add ((m _ _).sub (m _ _))).mono (by omega)
  · exact ((m2 _ _).add ((m _ _).sub (m _ _))).mono (by omega)
  · exact ((m2 _ _).add ((m _ _).sub (m _ _))).mono (by omega)
theorem point_bd {r x : List Int} {j : Nat} (hr : BdL j r) (hx : BdL j x) : BdL (2 * j + 5) (pointL r x) := by
  have m2 : ∀ i i', Bd (2 * j) (gI x i * gI r i') := fun i i' => ((gI_bd hx i).mul (gI_bd hr i')).mono (by omega)
  refine bdl4 ?_ ?_ ?_ ?_
  · exact (((m2 _ _).add (m2 _ _)).add (m2 _ _)).mono (by omega)
  · exact (((m2 _ _).sub (m2 _ _)).sub (m2 _ _)).mono (by omega)
  · exact (((m2 _ _).sub (m2 _ _)).sub (m2 _ _)).mono (by omega)
  · exact (((m2 _ _).sub (m2 _ _)).sub (m2 _ _)).mono (by omega)
def noOne : Er := ⟨"NotJustOne", []⟩
theorem plane_with_yes {x r : List Int} {h : HS} {k : Nat} (X : IsPt x) (R : IsRod r) (hx : BdL k x) (hr : BdL k r) (hk : k < 4000) (nz : Nz (planeL r x)) : OK (F_plane_with [.tup (iL r), .tup (iL x)] h) fun v h' => v = .tup (iL (redF (planeL r x))) ∧ ∃ g, h' = h ++ g := by
  unfold F_plane_with m_plane_with
  refine ok_run ?_
  repeat walk_at "d"
  refine (check_rod_ok R hr (by omega)).imp ?_
  rintro _ _ ⟨rfl, g1, rfl⟩
  repeat walk_at "d"
  refine (check_point_ok X).imp ?_
  rintro _ _ ⟨rfl, g2, rfl⟩
  repeat walk_at "d"
  refine (plane_row_ok R.len X.len hr hx (by omega)).imp ?_
  rintro _ _ ⟨rfl, g3, rfl⟩
  refine ⟨_, _, gNm1, ?_⟩
  refine sk_seq (sk_if (ok_notT (ok_B (ok_cb (ok_cons (ok_var rfl (ok_nil ⟨_, _, anyT_eq, _, rfl, ?_⟩)))))))
  rw [anyL_nz.mpr nz]
  refine ⟨fun c => (by cases c), fun _ => sk_nil ?_⟩
  repeat walk_at "d"
  refine (reduced_ok (by simp [planeL]) nz (plane_bd hr hx) (by omega)).imp ?_
  rintro _ _ ⟨rfl, g4, rfl⟩
  exact ⟨rfl, g1 ++ (g2 ++ (g3 ++ g4)), by simp⟩
theorem point_in_yes {s r : List Int} {h : HS} {k : Nat} (R : IsRod r) (S : IsPt s) (hr : BdL k r) (hs : BdL k s) (hk : k < 4000) (nz : Nz (pointL r s)) : OK (F_point_in [.tup (iL r), .tup (iL s)] h) fun v h' => v = .tup (iL (redF (pointL r s))) ∧ ∃ g, h' = h ++ g := by
  unfold F_point_in m_point_in
  refine ok_run ?_
  repeat walk_at "d"
  refine (check_rod_ok R hr (by omega)).imp ?_
  rintro _ _ ⟨rfl, g1, rfl⟩
  repeat walk_at "d"
  refine (check_plane_ok S).imp ?_
  rintro _ _ ⟨rfl, g2, rfl⟩
  repeat walk_at "d"
  refine (point_row_ok R.len S.len hr hs (by omega)).imp ?_
  rintro _ _ ⟨rfl, g3, rfl⟩
  refine ⟨_, _, gNm1, ?_⟩
  refine sk_seq (sk_if (ok_notT (ok_B (ok_cb (ok_cons (ok_var rfl (ok_nil ⟨_, _, anyT_eq, _, rfl, ?_⟩)))))))
  rw [anyL_nz.mpr nz]
  refine ⟨fun c => (by cases c), fun _ => sk_nil ?_⟩
  repeat walk_at "d"
  refine (reduced_ok (by simp [pointL]) nz (point_bd hr hs) (by omega)).imp ?_
  rintro _ _ ⟨rfl, g4, rfl⟩
  exact ⟨rfl, g1 ++ (g2 ++ (g3 ++ g4)), by simp⟩
theorem plane_with_no {x r : List Int} {h : HS} {k : Nat} (X : IsPt x) (R : IsRod r) (hx : BdL k x) (hr : BdL k r) (hk : k < 4000) (nz : ¬ Nz (planeL r x)) : ∃ g, F_plane_with [.tup (iL r), .tup (iL x)] h = .exc noOne (h ++ g) := by
  obtain ⟨_, _, e1, rfl, g1, rfl⟩ := (check_rod_ok (h := h) R hr (by omega)).ok
  obtain ⟨_, _, e2, rfl, g2, rfl⟩ := (check_point_ok (h := h ++ g1) X).ok
  obtain ⟨_, _, e3, rfl, g3, rfl⟩ := (plane_row_ok (h := h ++ g1 ++ g2) R.len X.len hr hx (by omega)).ok
  have e4 := anyT_eq (l := planeL r x) (h := h ++ g1 ++ g2 ++ g3)
  rw [anyL_no.mpr nz] at e4
  simp only [List.append_assoc] at e1 e2 e3 e4
  refine ⟨g1 ++ (g2 ++ g3), ?_⟩
  unfold F_plane_with m_plane_with PI.run sSeq sDrop sAsg sIf dNotT dB dCall dCB sRaise0
  simp [dCons, dVar, dNil, Res.bind, Res.toS, e1, e2, e3, e4, gNm, gEnd, noOne, lift]
theorem point_in_no {s r : List Int} {h : HS} {k : Nat} (R : IsRod r) (S : IsPt s) (hr : BdL k r) (hs : BdL k s) (hk : k < 4000) (nz : ¬ Nz (pointL r s)) : ∃ g, F_point_in [.tup (iL r), .tup (iL s)] h = .exc noOne (h ++ g) := by
  obtain ⟨_, _, e1, rfl, g1, rfl⟩ := (check_rod_ok (h := h) R hr (by omega)).ok
  obtain ⟨_, _, e2, rfl, g2, rfl⟩ := (check_plane_ok (h := h ++ g1) S).ok
  obtain ⟨_, _, e3, rfl, g3, rfl⟩ := (point_row_ok (h := h ++ g1 ++ g2) R.len S.len hr hs (by omega)).ok
  have e4 := anyT_eq (l := pointL r s) (h := h ++ g1 ++ g2 ++ g3)
  rw [anyL_no.mpr nz] at e4
  simp only [List.append_assoc] at e1 e2 e3 e4
  refine ⟨g1 ++ (g2 ++ g3), ?_⟩
  unfold F_point_in m_point_in PI.run sSeq sDrop sAsg sIf dNotT dB dCall dCB sRaise0
  simp [dCons, dVar, dNil, Res.bind, Res.toS, e1, e2, e3, e4, gNm, gEnd, noOne, lift]
/-- the numbers of the rod of two points, as the program makes them -/
def lineL (a b : List Int) : List Int := [gI a 0 * gI b 1 - gI b 0 * gI a 1, gI a 0 * gI b 2 - gI b 0 * gI a 2, gI a 0 * gI b 3 - gI b 0 * gI a 3, gI a 2 * gI b 3 - gI a 3 * gI b 2, gI a 3 * gI b 1 - gI a 1 * gI b 3, gI a 1 * gI b 2 - gI a 2 * gI b 1]
theorem line_bd {a b : List Int} {j k : Nat} (ha : BdL j a) (hb : BdL k b) : BdL (j + k + 1) (lineL a b) := by
  have m : ∀ i i' n n', Bd (j + k + 1) (gI a i * gI b i' - gI b n * gI a n') := fun i i' n n' => ((((gI_bd ha i).mul (gI_bd hb i')).sub ((gI_bd hb n).mul (gI_bd ha n'))).mono (by omega))
  have m2 : ∀ i i' n n', Bd (j + k + 1) (gI a i * gI b i' - gI a n' * gI b n) := fun i i' n n' => ((((gI_bd ha i).mul (gI_bd hb i')).sub ((gI_bd ha n').mul (gI_bd hb n))).mono (by omega))
  intro x hx
  simp only [lineL, List.mem_cons, List.not_mem_nil, or_false] at hx
  rcases hx with rfl | rfl | rfl | rfl | rfl | rfl
  · exact m _ _ _ _
  · exact m _ _ _ _
  · exact m _ _ _ _
  · exact m2 _ _ _ _
  · exact m2 _ _ _ _
  · exact m2 _ _ _ _
/-- two unlike points have a line -/
theorem line_nz {a b : List Int} (A : IsPt a) (B : IsPt b) (hn : a ≠ b) : Nz (lineL a b) := by
  by_cases c : Nz (lineL a b)
  · exact c
  exfalso
  apply hn
  have z := not_nz c
  have la := A.len
  have lb := B.len
  refine red_minors A.red B.red (by omega) ?_
  obtain ⟨a0, a1, a2, a3, rfl⟩ := four la
  obtain ⟨b0, b1, b2, b3, rfl⟩ := four lb
  have e1 : a0 * b1 - b0 * a1 = 0 := z _ (by simp [lineL, gI])
  have e2 : a0 * b2 - b0 * a2 = 0 := z _ (by simp [lineL, gI])
  have e3 : a0 * b3 - b0 * a3 = 0 := z _ (by simp [lineL, gI])
  have e4 : a2 * b3 - a3 * b2 = 0 := z _ (by simp [lineL, gI])
  have e5 : a3 * b1 - a1 * b3 = 0 := z _ (by simp [lineL, gI])
  have e6 : a1 * b2 - a2 * b1 = 0 := z _ (by simp [lineL, gI])
  intro i j x y z w hx hy hz hw
  have hi : i < 4 := (List.getElem?_eq_some_iff.mp hx).1
  have hj : j < 4 := (List.getElem?_eq_some_iff.mp hy).1
  have hi' : i = 0 ∨ i = 1 ∨ i = 2 ∨ i = 3 := by omega
  have hj' : j = 0 ∨ j = 1 ∨ j = 2 ∨ j = 3 := by omega
  rcases hi' with rfl | rfl | rfl | rfl <;> rcases hj' with rfl | rfl | rfl | rfl <;> (cases hx; cases hy; cases hz; cases hw; grind)
/-- a row on the quadric is a rod, reduced -/
theorem rod_of {l : List Int} (hl : l.length = 6) (h : Nz l) (d : gI l 0 * gI l 3 + gI l 1 * gI l 4 + gI l 2 * gI l 5 = 0) : IsRod (redF l) := by
  refine ⟨by rw [redF_len, hl], red_redF h, ?_⟩
  have f0 := facN_nz h
  rw [gI_back h 0, gI_back h 1, gI_back h 2, gI_back h 3, gI_back h 4, gI_back h 5] at d
  refine zero_of_mul f0 (zero_of_mul f0 ?_)
  grind
theorem line_quad (a b : List Int) : gI (lineL a b) 0 * gI (lineL a b) 3 + gI (lineL a b) 1 * gI (lineL a b) 4 + gI (lineL a b) 2 * gI (lineL a b) 5 = 0 := by
  show (gI a 0 * gI b 1 - gI b 0 * gI a 1) * (gI a 2 * gI b 3 - gI a 3 * gI b 2) + (gI a 0 * gI b 2 - gI b 0 * gI a 2) * (gI a 3 * gI b 1 - gI a 1 * gI b 3) + (gI a 0 * gI b 3 - gI b 0 * gI a 3) * (gI a 1 * gI b 2 - gI a 2 * gI b 1) = 0
  grind
theorem line_rod {a b : List Int} (A : IsPt a) (B : IsPt b) (hn : a ≠ b) : IsRod (redF (lineL a b)) := rod_of rfl (line_nz A B hn) (line_quad a b)

end PK

set_option maxHeartbeats 4000000
namespace PK
open PySem L2 PySem.Spec PI
local macro_rules | `(tactic| walk_at "b") => `(tactic| first
  | with_reducible assumption
  | (with_reducible refine Bd.mul ?_ ?_) <;> walk_at "b"
  | (with_reducible refine Bd.sub ?_ ?_) <;> walk_at "b"
  | (with_reducible refine Bd.add ?_ ?_) <;> walk_at "b"
  | (with_reducible refine Bd.neg ?_) <;> walk_at "b"
  | exact natAbs_lt (k := 40) (by decide))
local macro_rules | `(tactic| walk_at "m") => `(tactic| (apply Bd.ok <;> first | walk_at "b" | decide))
local macro_rules | `(tactic| walk_at "p") => `(tactic| (first | exact pre_self | assumption | (refine pre_app ?_; walk_at "p")))
local macro_rules | `(tactic| walk_at "e") => `(tactic| first
  | refine ⟨_, _, opMul_i (.inl ⟨by decide, by decide⟩), ?_⟩
  | refine ⟨_, _, opMul_i (.inr (.inl ⟨by decide, by decide⟩)), ?_⟩
  | (refine ⟨_, _, opMul_i ?_, ?_⟩; · walk_at "m")
  | refine ⟨_, _, rfl, ?_⟩
  | refine ⟨_, rfl, ?_⟩
  | refine ⟨rfl, ?_⟩
  | refine ⟨rfl, rfl, ?_⟩)
local macro_rules | `(tactic| walk_at "d") => `(tactic| first
  | with_reducible refine ok_c ?_
  | with_reducible refine ok_var rfl ?_
  | with_reducible refine ok_op ?_
  | with_reducible refine ok_un ?_
  | with_reducible refine ok_nil ?_
  | with_reducible refine ok_cons ?_
  | with_reducible refine ok_tup ?_
  | with_reducible refine ok_lst ?_
  | with_reducible refine ok_cb ?_
  | with_reducible refine ok_call ?_
  | with_reducible refine ok_callK ?_
  | with_reducible refine ok_sl ?_
  | with_reducible refine ok_nopart ?_
  | with_reducible refine ok_part ?_
  | with_reducible refine ok_B ?_
  | with_reducible refine ok_andT ?_
  | with_reducible refine ok_orT ?_
  | with_reducible refine ok_notT ?_
  | with_reducible refine ok_and ?_
  | with_reducible refine ok_or ?_
  | with_reducible refine ok_not ?_
  | with_reducible refine ok_if ?_
  | with_reducible refine ok_app ?_
  | with_reducible refine ok_lc ?_
  | with_reducible refine ok_yes ?_
  | with_reducible refine ok_src ?_
  | with_reducible refine ok_rng1 ?_
  | with_reducible refine ok_rng2 ?_
  | with_reducible refine ok_zip ?_
  | with_reducible refine sk_nil ?_
  | with_reducible refine sk_seq ?_
  | with_reducible refine sk_ret ?_
  | with_reducible refine sk_drop ?_
  | with_reducible refine sk_if ?_
  | with_reducible refine sk_asg ?_
  | with_reducible refine sk_par ?_
  | with_reducible refine sk_par3 ?_
  | with_reducible refine sk_for ?_
  | with_reducible refine ⟨_, _, gNm1, ?_⟩
  | with_reducible refine ⟨_, _, gUn2, ?_⟩
  | with_reducible refine ⟨_, _, gUn3, ?_⟩
  | with_reducible refine ⟨_, _, opSub_i, ?_⟩
  | with_reducible refine ⟨_, _, opAdd_i, ?_⟩
  | with_reducible refine ⟨_, _, opNe_i, ?_⟩
  | with_reducible refine ⟨_, _, opEq_i, ?_⟩
  | with_reducible refine ⟨_, _, opMod_i (by decide), ?_⟩
  | with_reducible refine ⟨_, _, opDiv_i ⟨by decide, by decide⟩, ?_⟩
  | ((with_reducible refine And.intro ?_ ?_); · rfl)
  | ((fail_if_success (with_reducible refine And.intro ?_ ?_)); (fail_if_success (with_reducible refine OK.imp (Q := fun _ _ => True) ?_ ?_)); (fail_if_success (with_reducible refine SOK.imp (Qn := fun _ _ => True) (Qr := fun _ _ => True) ?_ ?_ ?_)); walk_at "e"))

theorem join_ok {a b : List Int} {h : HS} {j : Nat} (A : IsPt a) (B : IsPt b) (hn : a ≠ b) (ha : BdL j a) (hb : BdL j b) (hk : j < 2000) : OK (F_join [.tup (iL a), .tup (iL b)] h) fun v h' => v = .tup (iL (redF (lineL a b))) ∧ ∃ g, h' = h ++ g := by
  have nz := line_nz A B hn
  have bl := line_bd ha hb
  have la := A.len
  have lb := B.len
  unfold F_join m_join
  refine ok_run ?_
  refine sk_seq (sk_drop (ok_call (ok_cons (ok_var rfl (ok_nil ⟨rfl, ?_⟩)))))
  refine (check_point_ok A).imp ?_
  rintro _ _ ⟨rfl, g1, rfl⟩
  refine sk_seq (sk_drop (ok_call (ok_cons (ok_var rfl (ok_nil ⟨rfl, ?_⟩)))))
  refine (check_point_ok B).imp ?_
  rintro _ _ ⟨rfl, g2, rfl⟩
  refine sk_seq (sk_if (ok_B (ok_op (ok_var rfl (ok_var rfl ⟨_, _, opEq_il, _, rfl, fun c => absurd c (by simpa using hn), fun _ => sk_nil ?_⟩)))))
  obtain ⟨a0, a1, a2, a3, rfl⟩ := four la
  obtain ⟨b0, b1, b2, b3, rfl⟩ := four lb
  obtain ⟨A0, A1, A2, A3⟩ := bd4 ha
  obtain ⟨B0, B1, B2, B3⟩ := bd4 hb
  have ca : cutD (iL [a0, a1, a2, a3]) (some 1) none = iL [a1, a2, a3] := cut_hi (k := 1)
  have cb : cutD (iL [b0, b1, b2, b3]) (some 1) none = iL [b1, b2, b3] := cut_hi (k := 1)
  repeat walk_at "d"
  rw [cb]
  refine (times_ok (f := a0) (a := [b1, b2, b3]) (by simp) A0 (bdl3 B1 B2 B3) (by omega)).imp ?_
  rintro _ _ ⟨rfl, g3, rfl⟩
  repeat walk_at "d"
  rw [ca]
  refine (times_ok (f := b0) (a := [a1, a2, a3]) (by simp) B0 (bdl3 A1 A2 A3) (by omega)).imp ?_
  rintro _ _ ⟨rfl, g4, rfl⟩
  repeat walk_at "d"
  refine (minus_ok (a := mulL a0 [b1, b2, b3]) (b := mulL b0 [a1, a2, a3]) (by simp [mulL]) (by simp [mulL])).imp ?_
  rintro _ _ ⟨rfl, g5, rfl⟩
  repeat walk_at "d"
  rw [ca, cb]
  refine (cross_ok A1 A2 A3 B1 B2 B3 (by omega)).imp ?_
  rintro _ _ ⟨rfl, rfl⟩
  have eq : iL (List.zipWith (fun x1 x2 => x1 - x2) (mulL a0 [b1, b2, b3]) (mulL b0 [a1, a2, a3])) ++ iL [a2 * b3 - a3 * b2, a3 * b1 - a1 * b3, a1 * b2 - a2 * b1] = iL (lineL [a0, a1, a2, a3] [b0, b1, b2, b3]) := by simp [iL, mulL, lineL, gI]
  refine ⟨_, _, opAdd_t (by simp [iL, mulL]), ?_⟩
  rw [eq]
  refine ok_nil ⟨rfl, ?_⟩
  refine (reduced_ok (ns := lineL [a0, a1, a2, a3] [b0, b1, b2, b3]) (by simp [lineL]) nz bl (by omega)).imp ?_
  rintro _ _ ⟨rfl, g6, rfl⟩
  exact ⟨rfl, g1 ++ (g2 ++ (g3 ++ (g4 ++ (g5 ++ g6)))), by simp⟩
def swL (l : List Int) : List Int := [gI l 3, gI l 4, gI l 5, gI l 0, gI l 1, gI l 2]
def cutL (s t : List Int) : List Int := swL (lineL s t)
theorem cut_nz {s t : List Int} (S : IsPt s) (T : IsPt t) (hn : s ≠ t) : Nz (cutL s t) := by
  obtain ⟨x, hx, x0⟩ := line_nz S T hn
  refine ⟨x, ?_, x0⟩
  simp only [lineL, List.mem_cons, List.not_mem_nil, or_false] at hx
  rcases hx with rfl | rfl | rfl | rfl | rfl | rfl <;> simp [cutL, swL, lineL, gI]
theorem cut_quad (a b : List Int) : gI (cutL a b) 0 * gI (cutL a b) 3 + gI (cutL a b) 1 * gI (cutL a b) 4 + gI (cutL a b) 2 * gI (cutL a b) 5 = 0 := by
  have := line_quad a b
  show gI (lineL a b) 3 * gI (lineL a b) 0 + gI (lineL a b) 4 * gI (lineL a b) 1 + gI (lineL a b) 5 * gI (lineL a b) 2 = 0
  generalize gI (lineL a b) 0 = x0 at *
  generalize gI (lineL a b) 1 = x1 at *
  generalize gI (lineL a b) 2 = x2 at *
  generalize gI (lineL a b) 3 = x3 at *
  generalize gI (lineL a b) 4 = x4 at *
  generalize gI (lineL a b) 5 = x5 at *
  grind
theorem cut_rod {a b : List Int} (A : IsPt a) (B : IsPt b) (hn : a ≠ b) : IsRod (redF (cutL a b)) := rod_of rfl (cut_nz A B hn) (cut_quad a b)
theorem cut_bd {a b : List Int} {k : Nat} (h : BdL k (lineL a b)) : BdL k (cutL a b) := by
  intro x hx
  simp only [cutL, swL, List.mem_cons, List.not_mem_nil, or_false] at hx
  rcases hx with rfl | rfl | rfl | rfl | rfl | rfl <;> exact gI_bd h _
theorem cut_ok {a b : List Int} {h : HS} {j : Nat} (A : IsPt a) (B : IsPt b) (hn : a ≠ b) (ha : BdL j a) (hb : BdL j b) (hk : j < 2000) : OK (F_cut [.tup (iL a), .tup (iL b)] h) fun v h' => v = .tup (iL (redF (cutL a b))) ∧ ∃ g, h' = h ++ g := by
  have nz := cut_nz A B hn
  have bl := cut_bd (line_bd ha hb)
  have la := A.len
  have lb := B.len
  unfold F_cut m_cut
  refine ok_run ?_
  refine sk_seq (sk_drop (ok_call (ok_cons (ok_var rfl (ok_nil ⟨rfl, ?_⟩)))))
  refine (check_plane_ok A).imp ?_
  rintro _ _ ⟨rfl, g1, rfl⟩
  refine sk_seq (sk_drop (ok_call (ok_cons (ok_var rfl (ok_nil ⟨rfl, ?_⟩)))))
  refine (check_plane_ok B).imp ?_
  rintro _ _ ⟨rfl, g2, rfl⟩
  refine sk_seq (sk_if (ok_B (ok_op (ok_var rfl (ok_var rfl ⟨_, _, opEq_il, _, rfl, fun c => absurd c (by simpa using hn), fun _ => sk_nil ?_⟩)))))
  obtain ⟨a0, a1, a2, a3, rfl⟩ := four la
  obtain ⟨b0, b1, b2, b3, rfl⟩ := four lb
  obtain ⟨A0, A1, A2, A3⟩ := bd4 ha
  obtain ⟨B0, B1, B2, B3⟩ := bd4 hb
  have ca : cutD (iL [a0, a1, a2, a3]) (some 1) none = iL [a1, a2, a3] := cut_hi (k := 1)
  have cb : cutD (iL [b0, b1, b2, b3]) (some 1) none = iL [b1, b2, b3] := cut_hi (k := 1)
  repeat walk_at "d"
  rw [cb]
  refine (times_ok (f := a0) (a := [b1, b2, b3]) (by simp) A0 (bdl3 B1 B2 B3) (by omega)).imp ?_
  rintro _ _ ⟨rfl, g3, rfl⟩
  repeat walk_at "d"
  rw [ca]
  refine (times_ok (f := b0) (a := [a1, a2, a3]) (by simp) B0 (bdl3 A1 A2 A3) (by omega)).imp ?_
  rintro _ _ ⟨rfl, g4, rfl⟩
  repeat walk_at "d"
  refine (minus_ok (a := mulL a0 [b1, b2, b3]) (b := mulL b0 [a1, a2, a3]) (by simp [mulL]) (by simp [mulL])).imp ?_
  rintro _ _ ⟨rfl, g5, rfl⟩
  repeat walk_at "d"
  rw [ca, cb]
  refine (cross_ok A1 A2 A3 B1 B2 B3 (by omega)).imp ?_
  rintro _ _ ⟨rfl, rfl⟩
  have eq : iL [a2 * b3 - a3 * b2, a3 * b1 - a1 * b3, a1 * b2 - a2 * b1] ++ iL (List.zipWith (fun x1 x2 => x1 - x2) (mulL a0 [b1, b2, b3]) (mulL b0 [a1, a2, a3])) = iL (cutL [a0, a1, a2, a3] [b0, b1, b2, b3]) := by simp [iL, mulL, cutL, swL, lineL, gI]
  refine ok_var rfl ⟨_, _, opAdd_t (by simp [iL, mulL]), ?_⟩
  rw [eq]
  refine ok_nil ⟨rfl, ?_⟩
  refine (reduced_ok (ns := cutL [a0, a1, a2, a3] [b0, b1, b2, b3]) (by simp [cutL, swL]) nz bl (by omega)).imp ?_
  rintro _ _ ⟨rfl, g6, rfl⟩
  exact ⟨rfl, g1 ++ (g2 ++ (g3 ++ (g4 ++ (g5 ++ g6)))), by simp⟩

end PK

namespace LA
open PySem L2 PySem.Spec PI
noncomputable section
def m_law_well : DS :=
  (sSeq (sAsg (dOp opAdd (dC (.int 70001)) (dOp opMul (dC (.int 1009)) (dVar 1))) (gNm 2))
    (sSeq (sFor (dSrc (dSl opSl (dVar 0) dNoPart (dPart (dC (.int 10))))) (gNm 3) (sAsg (dOp opMod (dCB opInt (dCons (dOp opAdd (dOp opAdd (dOp opMul (dVar 2) (dC (.int 48179))) (dOp opMul (dCB opInt (dCons (dVar 3) dNil)) (dC (.int 29)))) (dC (.int 11))) dNil)) (dC (.int 2147483423))) (gNm 2)))
    (sSeq (sAsg (dIf (dB (dOp opLt (dVar 1) (dCB opLen (dCons (dVar 0) dNil)))) (dCB opInt (dCons (dOp opIx (dVar 0) (dVar 1)) dNil)) (dC (.int 0))) (gNm 3))
    (sSeq (sAsg (dIf (dB (dOp opGe (dCB opAbs (dCons (dVar 3) dNil)) (dOp opPow (dC (.int 10)) (dC (.int 18))))) (dCB opAbs (dCons (dVar 3) dNil)) (dC (.int 0))) (gNm 4))
    (sRet (dLst (dCons (dVar 4) (dCons (dOp opMod (dCB opInt (dCons (dOp opAdd (dOp opAdd (dOp opMul (dVar 2) (dC (.int 61))) (dOp opMul (dOp opMod (dCB opInt (dCons (dVar 3) dNil)) (dC (.int 2147483399))) (dC (.int 6971)))) (dC (.int 5))) dNil)) (dC (.int 2147483423))) (dCons (dC (.int 0)) dNil)))))))))
def F_law_well : DF := run 5 m_law_well
def m_law_draw : DS :=
  (sSeq (sIf (dB (dOp opGt (dOp opIx (dVar 0) (dC (.int 0))) (dC (.int 0)))) (sSeq (sAsg (dCB opDivmod (dCons (dOp opIx (dVar 0) (dC (.int 0))) (dCons (dVar 1) dNil))) (gUn 2 (gConsD (gSubD (dVar 0) (dC (.int 0))) (gConsD (gNm 3) gNilD))))
    (sRet (dVar 3))) sNil)
    (sSeq (sAsg (dOp opAdd (dOp opIx (dVar 0) (dC (.int 2))) (dC (.int 1))) (gSubD (dVar 0) (dC (.int 2))))
    (sSeq (sAsg (dOp opMod (dCB opInt (dCons (dOp opAdd (dOp opIx (dVar 0) (dC (.int 1))) (dOp opMul (dC (.int 92821)) (dOp opIx (dVar 0) (dC (.int 2))))) dNil)) (dC (.int 2147483423))) (gNm 2))
    (sSeq (sAsg (dOp opMod (dCB opInt (dCons (dOp opAdd (dOp opMul (dVar 2) (dOp opAdd (dOp opMod (dCB opInt (dCons (dVar 2) dNil)) (dC (.int 9973))) (dC (.int 28657)))) (dOp opMul (dC (.int 19)) (dOp opIx (dVar 0) (dC (.int 2))))) dNil)) (dC (.int 2147483423))) (gSubD (dVar 0) (dC (.int 1))))
    (sRet (dOp opMod (dCB opInt (dCons (dOp opDiv (dOp opIx (dVar 0) (dC (.int 1))) (dC (.int 1024))) dNil)) (dVar 1)))))))
def F_law_draw : DF := run 4 m_law_draw
def m_law_common : DS :=
  (sSeq (sPar 0 1 (dCons (dCB opAbs (dCons (dVar 0) dNil)) (dCons (dCB opAbs (dCons (dVar 1) dNil)) dNil)))
    (sSeq (sWhile (dB (dOp opGt (dVar 1) (dC (.int 0)))) (sPar 0 1 (dCons (dVar 1) (dCons (dOp opMod (dCB opInt (dCons (dVar 0) dNil)) (dVar 1)) dNil))))
    (sRet (dVar 0))))
def F_law_common : DF := run 2 m_law_common
def m_law_cross : DS :=
  (sRet (dTup (dCons (dOp opSub (dOp opMul (dOp opIx (dVar 0) (dC (.int 1))) (dOp opIx (dVar 1) (dC (.int 2)))) (dOp opMul (dOp opIx (dVar 0) (dC (.int 2))) (dOp opIx (dVar 1) (dC (.int 1))))) (dCons (dOp opSub (dOp opMul (dOp opIx (dVar 0) (dC (.int 2))) (dOp opIx (dVar 1) (dC (.int 0)))) (dOp opMul (dOp opIx (dVar 0) (dC (.int 0))) (dOp opIx (dVar 1) (dC (.int 2))))) (dCons (dOp opSub (dOp opMul (dOp opIx (dVar 0) (dC (.int 0))) (dOp opIx (dVar 1) (dC (.int 1)))) (dOp opMul (dOp opIx (dVar 0) (dC (.int 1))) (dOp opIx (dVar 1) (dC (.int 0))))) dNil)))))
def F_law_cross : DF := run 2 m_law_cross
def m_law_dot : DS :=
  (sRet (dCB opSum (dCons (dLc (dRng1 (dCons (dCB opLen (dCons (dVar 0) dNil)) dNil)) (gNm 2) dYes (dOp opMul (dOp opIx (dVar 0) (dVar 2)) (dOp opIx (dVar 1) (dVar 2))) [2]) dNil)))
def F_law_dot : DF := run 3 m_law_dot
def m_law_minors : DS :=
  (sSeq (sAsg (dLst dNil) (gNm 3))
    (sSeq (sFor (dRng1 (dCons (dC (.int 4)) dNil)) (gNm 4) (sSeq (sAsg (dLc (dRng1 (dCons (dC (.int 4)) dNil)) (gNm 9) (dB (dOp opNe (dVar 9) (dVar 4))) (dVar 9) [9]) (gUn 3 (gConsD (gNm 6) (gConsD (gNm 7) (gConsD (gNm 8) gNilD)))))
    (sSeq (sAsg (dOp opMul (dOp opIx (dVar 0) (dVar 6)) (dOp opSub (dOp opMul (dOp opIx (dVar 1) (dVar 7)) (dOp opIx (dVar 2) (dVar 8))) (dOp opMul (dOp opIx (dVar 1) (dVar 8)) (dOp opIx (dVar 2) (dVar 7))))) (gNm 5))
    (sSeq (sAsg (dOp opSub (dVar 5) (dOp opMul (dOp opIx (dVar 0) (dVar 7)) (dOp opSub (dOp opMul (dOp opIx (dVar 1) (dVar 6)) (dOp opIx (dVar 2) (dVar 8))) (dOp opMul (dOp opIx (dVar 1) (dVar 8)) (dOp opIx (dVar 2) (dVar 6)))))) (gNm 5))
    (sSeq (sAsg (dOp opAdd (dVar 5) (dOp opMul (dOp opIx (dVar 0) (dVar 8)) (dOp opSub (dOp opMul (dOp opIx (dVar 1) (dVar 6)) (dOp opIx (dVar 2) (dVar 7))) (dOp opMul (dOp opIx (dVar 1) (dVar 7)) (dOp opIx (dVar 2) (dVar 6)))))) (gNm 5))
    (sDrop (dApp (dVar 3) (dIf (dB (dOp opEq (dOp opMod (dCB opInt (dCons (dVar 4) dNil)) (dC (.int 2))) (dC (.int 0)))) (dVar 5) (dUn opNeg (dVar 5))))))))))
    (sRet (dVar 3))))
def F_law_minors : DF := run 10 m_law_minors
def m_law_units : DS :=
  (sRet (dTup (dCons (dTup (dCons (dC (.int 1)) (dCons (dC (.int 0)) (dCons (dC (.int 0)) (dCons (dC (.int 0)) dNil))))) (dCons (dTup (dCons (dC (.int 0)) (dCons (dC (.int 1)) (dCons (dC (.int 0)) (dCons (dC (.int 0)) dNil))))) (dCons (dTup (dCons (dC (.int 0)) (dCons (dC (.int 0)) (dCons (dC (.int 1)) (dCons (dC (.int 0)) dNil))))) (dCons (dTup (dCons (dC (.int 0)) (dCons (dC (.int 0)) (dCons (dC (.int 0)) (dCons (dC (.int 1)) dNil))))) dNil))))))
def F_law_units : DF := run 0 m_law_units
def m_law_row : DS :=
  (sSeq (sAsg (dLst dNil) (gNm 3))
    (sSeq (sFor (dRng1 (dCons (dVar 1) dNil)) (gNm 4) (sDrop (dApp (dVar 3) (dOp opSub (dCall 2 F_law_draw (dCons (dVar 0) (dCons (dOp opAdd (dOp opMul (dC (.int 2)) (dVar 2)) (dC (.int 1))) dNil))) (dVar 2)))))
    (sRet (dVar 3))))
def F_law_row : DF := run 5 m_law_row
def m_law_reduced : DS :=
  (sSeq (sAsg (dTup (dCons (dC (.int 0)) (dCons (dC (.int 0)) dNil))) (gUn 2 (gConsD (gNm 3) (gConsD (gNm 4) gNilD))))
    (sSeq (sFor (dSrc (dVar 0)) (gNm 1) (sSeq (sAsg (dCall 2 F_law_common (dCons (dVar 3) (dCons (dVar 1) dNil))) (gNm 3))
    (sAsg (dIf (dB (dOp opEq (dVar 4) (dC (.int 0)))) (dVar 1) (dVar 4)) (gNm 4))))
    (sSeq (sIf (dB (dOp opEq (dVar 3) (dC (.int 0)))) (sRet (dCB opTuple (dCons (dVar 0) dNil))) sNil)
    (sSeq (sAsg (dIf (dB (dOp opLt (dVar 4) (dC (.int 0)))) (dUn opNeg (dC (.int 1))) (dC (.int 1))) (gNm 2))
    (sRet (dCB opTuple (dCons (dLc (dSrc (dVar 0)) (gNm 1) dYes (dOp opDiv (dOp opMul (dVar 2) (dVar 1)) (dVar 3)) [1]) dNil)))))))
def F_law_reduced : DF := run 5 m_law_reduced
def m_law_line : DS :=
  (sSeq (sAsg (dCB opTuple (dCons (dLc (dRng2 (dCons (dC (.int 1)) (dCons (dC (.int 4)) dNil))) (gNm 3) dYes (dOp opSub (dOp opMul (dOp opIx (dVar 0) (dC (.int 0))) (dOp opIx (dVar 1) (dVar 3))) (dOp opMul (dOp opIx (dVar 1) (dC (.int 0))) (dOp opIx (dVar 0) (dVar 3)))) [3]) dNil)) (gNm 2))
    (sRet (dOp opAdd (dVar 2) (dCall 2 F_law_cross (dCons (dSl opSl (dVar 0) (dPart (dC (.int 1))) dNoPart) (dCons (dSl opSl (dVar 1) (dPart (dC (.int 1))) dNoPart) dNil))))))
def F_law_line : DF := run 4 m_law_line
def m_law_place : DS :=
  (sSeq (sAsg (dCall 2 F_law_draw (dCons (dVar 0) (dCons (dC (.int 8)) dNil))) (gNm 1))
    (sSeq (sAsg (dCall 3 F_law_row (dCons (dVar 0) (dCons (dC (.int 4)) (dCons (dIf (dB (dOp opLt (dVar 1) (dC (.int 3)))) (dC (.int 2)) (dIf (dB (dOp opLt (dVar 1) (dC (.int 6)))) (dC (.int 4)) (dIf (dB (dOp opLt (dVar 1) (dC (.int 7)))) (dC (.int 9)) (dC (.int 1000))))) dNil)))) (gNm 2))
    (sSeq (sIf (dB (dOp opLt (dVar 1) (dC (.int 3)))) (sAsg (dIf (dB (dOp opEq (dVar 1) (dC (.int 0)))) (dC (.int 0)) (dC (.int 1))) (gSubD (dVar 2) (dC (.int 0)))) sNil)
    (sRet (dIf (dB (dOp opNe (dVar 2) (dLst (dCons (dC (.int 0)) (dCons (dC (.int 0)) (dCons (dC (.int 0)) (dCons (dC (.int 0)) dNil))))))) (dCall 1 F_law_reduced (dCons (dVar 2) dNil)) (dTup (dCons (dC (.int 1)) (dCons (dC (.int 0)) (dCons (dC (.int 0)) (dCons (dC (.int 0)) dNil))))))))))
def F_law_place : DF := run 3 m_law_place
def m_law_two_with : DS :=
  (sSeq (sAsg (dLc (dSrc (dCall 0 F_law_units dNil)) (gNm 4) dYes (dCall 3 F_law_minors (dCons (dVar 0) (dCons (dVar 1) (dCons (dVar 4) dNil)))) [4]) (gNm 2))
    (sSeq (sAsg (dLc (dSrc (dVar 2)) (gNm 5) (dB (dOp opNe (dVar 5) (dLst (dCons (dC (.int 0)) (dCons (dC (.int 0)) (dCons (dC (.int 0)) (dCons (dC (.int 0)) dNil))))))) (dCall 1 F_law_reduced (dCons (dVar 5) dNil)) [5]) (gNm 2))
    (sSeq (sAsg (dLc (dSrc (dVar 2)) (gNm 5) (dB (dOp opNe (dVar 5) (dOp opIx (dVar 2) (dC (.int 0))))) (dVar 5) [5]) (gNm 3))
    (sRet (dTup (dCons (dOp opIx (dVar 2) (dC (.int 0))) (dCons (dOp opIx (dVar 3) (dC (.int 0))) dNil)))))))
def F_law_two_with : DF := run 6 m_law_two_with
def m_law_four_factors : DS :=
  (sSeq (sAsg (dCall 3 F_law_row (dCons (dVar 0) (dCons (dC (.int 4)) (dCons (dC (.int 4)) dNil)))) (gUn 4 (gConsD (gNm 1) (gConsD (gNm 2) (gConsD (gNm 3) (gConsD (gNm 4) gNilD))))))
    (sRet (dIf (dB (dOp opNe (dOp opMul (dVar 1) (dVar 4)) (dOp opMul (dVar 2) (dVar 3)))) (dTup (dCons (dVar 1) (dCons (dVar 2) (dCons (dVar 3) (dCons (dVar 4) dNil))))) (dTup (dCons (dC (.int 1)) (dCons (dC (.int 2)) (dCons (dC (.int 1)) (dCons (dC (.int 1)) dNil))))))))
def F_law_four_factors : DF := run 5 m_law_four_factors
def m_law_sum : DS :=
  (sRet (dCall 1 F_law_reduced (dCons (dLc (dRng1 (dCons (dCB opLen (dCons (dVar 1) dNil)) dNil)) (gNm 4) dYes (dOp opAdd (dOp opMul (dVar 0) (dOp opIx (dVar 1) (dVar 4))) (dOp opMul (dVar 2) (dOp opIx (dVar 3) (dVar 4)))) [4]) dNil)))
def F_law_sum : DF := run 5 m_law_sum
def m_law_unlike : DS :=
  (sSeq (sAsg (dCall 1 F_law_place (dCons (dVar 0) dNil)) (gNm 2))
    (sSeq (sIf (dB (dOp opEq (dVar 2) (dVar 1))) (sRet (dIf (dB (dOp opNe (dVar 1) (dTup (dCons (dC (.int 0)) (dCons (dC (.int 1)) (dCons (dC (.int 0)) (dCons (dC (.int 0)) dNil))))))) (dTup (dCons (dC (.int 0)) (dCons (dC (.int 1)) (dCons (dC (.int 0)) (dCons (dC (.int 0)) dNil))))) (dTup (dCons (dC (.int 0)) (dCons (dC (.int 0)) (dCons (dC (.int 1)) (dCons (dC (.int 0)) dNil))))))) sNil)
    (sRet (dVar 2))))
def F_law_unlike : DF := run 3 m_law_unlike
def m_law_factor : DS :=
  (sSeq (sFor (dRng1 (dCons (dC (.int 6)) dNil)) (gNm 2) (sIf (dB (dOp opNe (dOp opIx (dVar 1) (dVar 2)) (dC (.int 0)))) (sRet (dOp opDiv (dOp opIx (dVar 0) (dVar 2)) (dOp opIx (dVar 1) (dVar 2)))) sNil))
    (sRet (dC (.int 1))))
def F_law_factor : DF := run 3 m_law_factor
def m_law_mixed : DS :=
  (sSeq (sAsg (dCall 3 F_law_row (dCons (dVar 0) (dCons (dCB opLen (dCons (dVar 1) dNil)) (dCons (dC (.int 3)) dNil)))) (gNm 2))
    (sSeq (sAsg (dLc (dRng1 (dCons (dC (.int 4)) dNil)) (gNm 4) dYes (dCB opSum (dCons (dLc (dRng1 (dCons (dCB opLen (dCons (dVar 1) dNil)) dNil)) (gNm 5) dYes (dOp opMul (dOp opIx (dVar 2) (dVar 5)) (dOp opIx (dOp opIx (dVar 1) (dVar 5)) (dVar 4))) [5]) dNil)) [4]) (gNm 3))
    (sRet (dIf (dB (dOp opNe (dVar 3) (dLst (dCons (dC (.int 0)) (dCons (dC (.int 0)) (dCons (dC (.int 0)) (dCons (dC (.int 0)) dNil))))))) (dCall 1 F_law_reduced (dCons (dVar 3) dNil)) (dCall 1 F_law_reduced (dCons (dOp opIx (dVar 1) (dC (.int 0))) dNil))))))
def F_law_mixed : DF := run 6 m_law_mixed
def m_law_second : DS :=
  (sSeq (sPar 4 5 (dCons (dCall 2 F_law_draw (dCons (dVar 0) (dCons (dC (.int 6)) dNil))) (dCons (dCall 1 F_law_place (dCons (dVar 0) dNil)) dNil)))
    (sSeq (sIf (dB (dOp opEq (dVar 4) (dC (.int 0)))) (sAsg (dCall 2 F_law_mixed (dCons (dVar 0) (dCons (dLst (dCons (dVar 1) (dCons (dVar 2) dNil))) dNil))) (gNm 5)) sNil)
    (sSeq (sAsg (dCall 2 F_law_unlike (dCons (dVar 0) (dCons (dVar 5) dNil))) (gNm 3))
    (sSeq (sIf (dB (dOp opIn (dVar 4) (dTup (dCons (dC (.int 1)) (dCons (dC (.int 2)) dNil))))) (sAsg (dCall 2 F_law_mixed (dCons (dVar 0) (dCons (dLst (dCons (dVar 1) (dCons (dVar 2) (dCons (dVar 5) dNil)))) dNil))) (gNm 3)) sNil)
    (sSeq (sIf (dB (dOp opEq (dVar 3) (dVar 5))) (sAsg (dIf (dB (dOp opNe (dVar 5) (dVar 1))) (dVar 1) (dVar 2)) (gNm 3)) sNil)
    (sRet (dTup (dCons (dVar 5) (dCons (dVar 3) dNil)))))))))
def F_law_second : DF := run 6 m_law_second
end
end LA

set_option maxHeartbeats 4000000
namespace LA
open PySem L2 PySem.Spec PI
local macro_rules | `(tactic| walk_at "b") => `(tactic| first
  | with_reducible assumption
  | (with_reducible refine Bd.mul ?_ ?_) <;> walk_at "b"
  | (with_reducible refine Bd.sub ?_ ?_) <;> walk_at "b"
  | (with_reducible refine Bd.add ?_ ?_) <;> walk_at "b"
  | (with_reducible refine Bd.neg ?_) <;> walk_at "b"
  | exact natAbs_lt (k := 40) (by decide))
local macro_rules | `(tactic| walk_at "m") => `(tactic| (apply Bd.ok <;> first | walk_at "b" | decide))
local macro_rules | `(tactic| walk_at "p") => `(tactic| (first | exact pre_self | assumption | (refine pre_app ?_; walk_at "p")))
local macro_rules | `(tactic| walk_at "e") => `(tactic| first
  | refine ⟨_, _, opMul_i (.inl ⟨by decide, by decide⟩), ?_⟩
  | refine ⟨_, _, opMul_i (.inr (.inl ⟨by decide, by decide⟩)), ?_⟩
  | (refine ⟨_, _, opMul_i ?_, ?_⟩; · walk_at "m")
  | refine ⟨_, _, rfl, ?_⟩
  | refine ⟨_, rfl, ?_⟩
  | refine ⟨rfl, ?_⟩
  | refine ⟨rfl, rfl, ?_⟩)
local macro_rules | `(tactic| walk_at "d") => `(tactic| first
  | with_reducible refine ok_c ?_
  | with_reducible refine ok_var rfl ?_
  | with_reducible refine ok_op ?_
  | with_reducible refine ok_un ?_
  | with_reducible refine ok_nil ?_
  | with_reducible refine ok_cons ?_
  | with_reducible refine ok_tup ?_
  | with_reducible refine ok_lst ?_
  | with_reducible refine ok_cb ?_
  | with_reducible refine ok_call ?_
  | with_reducible refine ok_callK ?_
  | with_reducible refine ok_sl ?_
  | with_reducible refine ok_nopart ?_
  | with_reducible refine ok_part ?_
  | with_reducible refine ok_B ?_
  | with_reducible refine ok_andT ?_
  | with_reducible refine ok_orT ?_
  | with_reducible refine ok_notT ?_
  | with_reducible refine ok_and ?_
  | with_reducible refine ok_or ?_
  | with_reducible refine ok_not ?_
  | with_reducible refine ok_if ?_
  | with_reducible refine ok_app ?_
  | with_reducible refine ok_lc ?_
  | with_reducible refine ok_yes ?_
  | with_reducible refine ok_src ?_
  | with_reducible refine ok_rng1 ?_
  | with_reducible refine ok_rng2 ?_
  | with_reducible refine ok_zip ?_
  | with_reducible refine sk_nil ?_
  | with_reducible refine sk_seq ?_
  | with_reducible refine sk_ret ?_
  | with_reducible refine sk_drop ?_
  | with_reducible refine sk_if ?_
  | with_reducible refine sk_asg ?_
  | with_reducible refine sk_par ?_
  | with_reducible refine sk_par3 ?_
  | with_reducible refine sk_for ?_
  | with_reducible refine ⟨_, _, gNm1, ?_⟩
  | with_reducible refine ⟨_, _, gUn2, ?_⟩
  | with_reducible refine ⟨_, _, gUn3, ?_⟩
  | with_reducible refine ⟨_, _, opSub_i, ?_⟩
  | with_reducible refine ⟨_, _, opAdd_i, ?_⟩
  | with_reducible refine ⟨_, _, opNe_i, ?_⟩
  | with_reducible refine ⟨_, _, opEq_i, ?_⟩
  | with_reducible refine ⟨_, _, opMod_i (by decide), ?_⟩
  | with_reducible refine ⟨_, _, opDiv_i ⟨by decide, by decide⟩, ?_⟩
  | ((with_reducible refine And.intro ?_ ?_); · rfl)
  | ((fail_if_success (with_reducible refine And.intro ?_ ?_)); (fail_if_success (with_reducible refine OK.imp (Q := fun _ _ => True) ?_ ?_)); (fail_if_success (with_reducible refine SOK.imp (Qn := fun _ _ => True) (Qr := fun _ _ => True) ?_ ?_ ?_)); walk_at "e"))

theorem euclid {h : HS} : ∀ (n x y : Nat), y < n → SOK (whileGo (dB (dOp opGt (dVar 1) (dC (.int 0)))) (sPar 0 1 (dCons (dVar 1) (dCons (dOp opMod (dCB opInt (dCons (dVar 0) dNil)) (dVar 1)) dNil))) n [some (.int x), some (.int y)] h) (fun e' h' => h' = h ∧ ∃ z, e' = [some (.int ((Nat.gcd x y : Nat) : Int)), z]) (fun _ _ => False)
  | 0, _, _, c => absurd c (Nat.not_lt_zero _)
  | n + 1, x, y, c => by
    refine sk_wstep ?_
    repeat walk_at "d"
    refine ⟨fun q => ?_, fun q => ?_⟩
    · have q2 : 0 < y := by simpa using q
      repeat walk_at "d"
      refine ⟨_, _, opMod_i (by omega), ?_⟩
      repeat walk_at "d"
      have ih := euclid (h := h) n y (x % y) (by have := Nat.mod_lt x q2; omega)
      have e2 : Nat.gcd x y = Nat.gcd y (x % y) := by rw [Nat.gcd_comm x y, Nat.gcd_rec y x, Nat.gcd_comm]
      rw [e2]
      exact ih
    · have q2 : y = 0 := by
        have : ¬ 0 < y := by simpa using q
        omega
      subst q2
      rw [Nat.gcd_zero_right]
      exact ⟨rfl, _, rfl⟩
theorem common_ok {a b : Int} {h : HS} : OK (F_law_common [.int a, .int b] h) fun v h' => v = .int ((Nat.gcd a.natAbs b.natAbs : Nat) : Int) ∧ h' = h := by
  unfold F_law_common m_law_common
  refine ok_run ?_
  repeat walk_at "d"
  show SOK (sWhile _ _ [some (.int (if a < 0 then -a else a)), some (.int (if b < 0 then -b else b))] h) _ _
  rw [abs_nat, abs_nat]
  refine (sk_while (b.natAbs + 1) ((euclid _ a.natAbs b.natAbs (Nat.lt_succ_self _)).imp ?_ ?_))
  · rintro _ _ ⟨rfl, z, rfl⟩
    repeat walk_at "d"
    rfl
  · intro _ _ z
    exact z.elim
/-! reduced -/
theorem reduced_ok {ns : List Int} {h : HS} {k : Nat} (hz : ns.length ≤ 1000) (sm : BdL k ns) (hk : k < 9000) : OK (F_law_reduced [.tup (iL ns)] h) fun v h' => v = .tup (iL (redF ns)) ∧ ∃ g, h' = h ++ g := by
  unfold F_law_reduced m_law_reduced
  refine ok_run ?_
  repeat walk_at "d"
  refine ⟨by decide, ?_⟩
  repeat walk_at "d"
  refine .inl ⟨_, rfl, ns.length, fun i e h' => h' = h ∧ ∃ v, e = [some (.tup (iL ns)), v, none, some (.int (gcdL (ns.take i))), some (.int (lead (ns.take i)))], by simp [Src.size, il_len], ⟨rfl, none, rfl⟩, ?_, ?_⟩
  · rintro i e _ hi ⟨rfl, v, rfl⟩
    obtain ⟨x, hx⟩ := get_lt hi
    refine ⟨.int x, by simp [Src.get, il_get hx], ?_⟩
    repeat walk_at "d"
    refine common_ok.imp ?_
    rintro _ _ ⟨rfl, rfl⟩
    repeat walk_at "d"
    refine ⟨fun c => ?_, fun c => ?_⟩
    · repeat walk_at "d"
      have c' : lead (ns.take i) = 0 := by simpa using c
      refine ⟨some (.int x), ?_⟩
      rw [gcdL_take hx, lead_take hx, if_pos c']
      rfl
    · repeat walk_at "d"
      have c' : lead (ns.take i) ≠ 0 := by simpa using c
      refine ⟨some (.int x), ?_⟩
      rw [gcdL_take hx, lead_take hx, if_neg c']
      rfl
  · rintro e h' ⟨rfl, v, rfl⟩
    refine ⟨by simp [Src.get, il_len], ?_⟩
    rw [List.take_length]
    repeat walk_at "d"
    refine ⟨fun c => ?_, fun c => ?_⟩
    · repeat walk_at "d"
      have c' : gcdL ns = 0 := by simpa using c
      refine ⟨?_, [], by simp⟩
      unfold redF
      rw [if_pos c']
    · have c' : gcdL ns ≠ 0 := by simpa using c
      have cp : 0 < gcdL ns := by have := gcdL_nn ns; omega
      repeat walk_at "d"
      have go : ∀ s : Int, s = sgn ns → SOK ((sRet (dCB opTuple (dCons (dLc (dSrc (dVar 0)) (gNm 1) dYes (dOp opDiv (dOp opMul (dVar 2) (dVar 1)) (dVar 3)) [1]) dNil))) [some (.tup (iL ns)), v, some (.int s), some (.int (gcdL ns)), some (.int (lead ns))] h') (fun _ _ => False) (fun v h'' => v = .tup (iL (redF ns)) ∧ ∃ g, h'' = h' ++ g) := by
        rintro s rfl
        repeat walk_at "d"
        refine .inl ⟨_, rfl, ns.length, fun i h'' => h'' = h' ++ [iL ((ns.take i).map fun x => sgn ns * x / gcdL ns)], by simp [Src.size, il_len], by simp [iL], ?_, ?_⟩
        · rintro i _ hi rfl
          obtain ⟨x, hx⟩ := get_lt hi
          refine ⟨.int x, by simp [Src.get, il_get hx], ?_⟩
          repeat walk_at "d"
          refine ⟨fun _ => ?_, fun c => (by cases c)⟩
          repeat walk_at "d"
          refine ⟨_, _, opMul_i (.inl (sgn_small ns)), ?_⟩
          repeat walk_at "d"
          refine ⟨_, _, opDiv_i ⟨cp, ?_⟩, _, getapp (g := h'), by simp [il_len]; omega, ?_⟩
          · exact PK.log9 (gcdL_bd sm) hk
          · show _ = _
            rw [setapp, map_take hx, il_app]
            rfl
        · rintro _ rfl
          refine ⟨by simp [Src.get, il_len], ?_⟩
          repeat walk_at "d"
          refine ⟨_, _, opTuple_ref (getapp (g := h')), ?_, _, rfl⟩
          unfold redF
          rw [if_neg c', List.take_length]
      refine ⟨fun c => ?_, fun c => ?_⟩
      · refine ok_un (ok_c ⟨_, _, rfl, _, _, rfl, ?_⟩)
        refine (go (-1) ?_).imp (fun _ _ z => z.elim) fun _ _ z => z
        have : lead ns < 0 := by simpa using c
        unfold sgn
        rw [if_pos this]
      · refine ok_c ⟨_, _, rfl, ?_⟩
        refine (go 1 ?_).imp (fun _ _ z => z.elim) fun _ _ z => z
        have : ¬ lead ns < 0 := by simpa using c
        unfold sgn
        rw [if_neg this]
def Well (n : Nat) (h : HS) : Prop := ∃ a b c : Int, h[n]? = some [.int a, .int b, .int c]
theorem draw_ok {n : Nat} {m : Int} {h : HS} (W : Well n h) (hm : 0 < m) (hm2 : m < 1073741824) : OK (F_law_draw [.ref n, .int m] h) fun v h' => ∃ i, v = .int i ∧ 0 ≤ i ∧ i < m ∧ ∃ a b c : Int, h' = h.set n [.int a, .int b, .int c] := by
  obtain ⟨a, b, c, q⟩ := W
  unfold F_law_draw m_law_draw
  refine ok_run ?_
  repeat walk_at "d"
  refine ⟨_, _, opIx_r q rfl, ?_⟩
  repeat walk_at "d"
  refine ⟨fun _ => ?_, fun _ => ?_⟩
  · repeat walk_at "d"
    refine ⟨_, _, opIx_r q rfl, ?_⟩
    repeat walk_at "d"
    refine ⟨_, _, show opDivmod [.int a, .int m] h = some (.tup [.int (a / m), .int (a % m)], h) from if_pos ⟨hm, Nat.lt_of_le_of_lt (Bd.log (j := 30) (show m.natAbs < 2 ^ 30 by omega)) (by decide)⟩, ?_⟩
    refine ⟨[some (.ref n), some (.int m), none, some (.int (a % m))], h.set n [.int (a / m), .int b, .int c], ?_, ?_⟩
    · show (gSubD (dVar 0) (dC (.int 0)) (.int (a / m)) _ h).bind _ = _
      rw [gsub (a := n) (k := 0) rfl rfl (setD_at q (j := 0) rfl)]
      rfl
    · repeat walk_at "d"
      exact ⟨Int.emod_nonneg _ (by omega), Int.emod_lt_of_pos _ hm, _, _, _, rfl⟩
  · repeat walk_at "d"
    refine ⟨_, _, opIx_r q rfl, ?_⟩
    repeat walk_at "d"
    refine ⟨_, _, gsub (a := n) (k := 2) rfl rfl (setD_at q (j := 2) rfl), ?_⟩
    have q1 := get_set (m := [.int a, .int b, .int (c + 1)]) q
    repeat walk_at "d"
    refine ⟨_, _, opIx_r q1 rfl, ?_⟩
    repeat walk_at "d"
    refine ⟨_, _, opIx_r q1 rfl, ?_⟩
    repeat walk_at "d"
    generalize hs : (b + 92821 * (c + 1)) % 2147483423 = s
    have s0 : 0 ≤ s := by rw [← hs]; exact Int.emod_nonneg _ (by decide)
    have s1 : s < 2147483423 := by rw [← hs]; exact Int.emod_lt_of_pos _ (by decide)
    refine ⟨_, _, opMul_i (.inl ⟨by omega, by omega⟩), ?_⟩
    repeat walk_at "d"
    refine ⟨_, _, opIx_r q1 rfl, ?_⟩
    repeat walk_at "d"
    refine ⟨_, _, gsub (a := n) (k := 1) rfl rfl (setD_at q1 (j := 1) rfl), ?_⟩
    generalize (s * (s % 9973 + 28657) + 19 * (c + 1)) % 2147483423 = t
    have q2 := get_set (m := [.int a, .int t, .int (c + 1)]) q1
    repeat walk_at "d"
    refine ⟨_, _, opIx_r q2 rfl, ?_⟩
    repeat walk_at "d"
    refine ⟨_, _, opMod_i hm, ?_⟩
    refine ⟨_, rfl, Int.emod_nonneg _ (by omega), Int.emod_lt_of_pos _ hm, a, t, c + 1, ?_⟩
    exact List.set_set _
structure Ext (n : Nat) (h h' : HS) : Prop where
  well : Well n h'
  len : h.length ≤ h'.length
  same : ∀ j, j < h.length → j ≠ n → h'[j]? = h[j]?
theorem Ext.refl {n : Nat} {h : HS} (W : Well n h) : Ext n h h := ⟨W, Nat.le_refl _, fun _ _ _ => rfl⟩
theorem Ext.trans {n : Nat} {h1 h2 h3 : HS} (a : Ext n h1 h2) (b : Ext n h2 h3) : Ext n h1 h3 := ⟨b.well, Nat.le_trans a.len b.len, fun j c d => by rw [b.same j (Nat.lt_of_lt_of_le c a.len) d, a.same j c d]⟩
theorem Well.lt {n : Nat} {h : HS} (W : Well n h) : n < h.length := by
  obtain ⟨a, b, c, q⟩ := W
  exact (List.getElem?_eq_some_iff.mp q).1
theorem Ext.app {n : Nat} {h g : HS} (W : Well n h) : Ext n h (h ++ g) := by
  refine ⟨?_, by simp, fun j c _ => List.getElem?_append_left c⟩
  have l := W.lt
  obtain ⟨a, b, c, q⟩ := W
  exact ⟨a, b, c, by rw [List.getElem?_append_left l, q]⟩
theorem Ext.setO {n k : Nat} {h : HS} {l : List D} {h0 : HS} (E : Ext n h0 h) (hk : h0.length ≤ k) (hn : n < h0.length) : Ext n h0 (h.set k l) := by
  refine ⟨?_, by simpa using E.len, fun j c d => ?_⟩
  · obtain ⟨a, b, c, q⟩ := E.well
    exact ⟨a, b, c, by rw [List.getElem?_set_ne (by omega), q]⟩
  · rw [List.getElem?_set_ne (by omega)]
    exact E.same j c d
theorem drawE {n : Nat} {m : Int} {h : HS} (W : Well n h) (hm : 0 < m) (hm2 : m < 1073741824) : OK (F_law_draw [.ref n, .int m] h) fun v h' => ∃ i, v = .int i ∧ 0 ≤ i ∧ i < m ∧ Ext n h h' ∧ h'.length = h.length := by
  have l := W.lt
  refine (draw_ok W hm hm2).imp ?_
  rintro _ _ ⟨i, e, h0, h1, a, b, c, rfl⟩
  refine ⟨i, e, h0, h1, ⟨⟨a, b, c, ?_⟩, by simp, fun j _ d => ?_⟩, by simp⟩
  · rw [List.getElem?_set_self l]
  · rw [List.getElem?_set_ne (by omega)]
theorem well_ok {ns : List Int} {k : Nat} {h : HS} : OK (F_law_well [.rol (iL ns), .int k] h) fun v h' => ∃ n, v = .ref n ∧ Well n h' := by
  unfold F_law_well m_law_well
  refine ok_run ?_
  repeat walk_at "d"
  have hc : cutD (iL ns) none (some 10) = iL (ns.take 10) := by
    unfold cutD
    rw [show (10 : Int) = ((10 : Nat) : Int) from rfl, HT.sIx_nat, HT.sIx_none, il_len]
    simp only [List.drop_zero, Nat.sub_zero]
    unfold iL
    rw [← List.map_take, List.take_eq_take_iff.mpr]
    omega
  rw [hc]
  refine .inr (.inr ⟨_, rfl, by simp, (ns.take 10).length, fun i e h' => h' = h ++ [iL (ns.take 10)] ∧ ∃ s v, e = [some (.rol (iL ns)), some (.int k), some (.int s), v, none], ?_, ⟨rfl, _, none, rfl⟩, ?_, ?_⟩)
  · simp [Src.size, il_len]
  · rintro i e h' hi ⟨rfl, s, v, rfl⟩
    obtain ⟨x, hx⟩ := get_lt hi
    refine ⟨.int x, ?_, ?_⟩
    · show ((h ++ [iL (ns.take 10)])[h.length]?).map _ = _
      rw [getapp (g := h)]
      exact congrArg some (il_get hx)
    repeat walk_at "d"
    exact ⟨_, _, rfl⟩
  · rintro e h' ⟨rfl, s, v, rfl⟩
    refine ⟨?_, ?_⟩
    · show ((h ++ [iL (ns.take 10)])[h.length]?).map _ = _
      rw [getapp (g := h)]
      simp [il_len]
    have fin : ∀ x : Int, SOK (sSeq (sAsg (dIf (dB (dOp opGe (dCB opAbs (dCons (dVar 3) dNil)) (dOp opPow (dC (.int 10)) (dC (.int 18))))) (dCB opAbs (dCons (dVar 3) dNil)) (dC (.int 0))) (gNm 4)) (sRet (dLst (dCons (dVar 4) (dCons (dOp opMod (dCB opInt (dCons (dOp opAdd (dOp opAdd (dOp opMul (dVar 2) (dC (.int 61))) (dOp opMul (dOp opMod (dCB opInt (dCons (dVar 3) dNil)) (dC (.int 2147483399))) (dC (.int 6971)))) (dC (.int 5))) dNil)) (dC (.int 2147483423))) (dCons (dC (.int 0)) dNil))))) [some (.rol (iL ns)), some (.int k), some (.int s), some (.int x), none] (h ++ [iL (ns.take 10)])) (fun _ _ => False) fun v h' => ∃ n, v = .ref n ∧ Well n h' := by
      intro x
      have fin2 : ∀ y : Int, SOK ((sRet (dLst (dCons (dVar 4) (dCons (dOp opMod (dCB opInt (dCons (dOp opAdd (dOp opAdd (dOp opMul (dVar 2) (dC (.int 61))) (dOp opMul (dOp opMod (dCB opInt (dCons (dVar 3) dNil)) (dC (.int 2147483399))) (dC (.int 6971)))) (dC (.int 5))) dNil)) (dC (.int 2147483423))) (dCons (dC (.int 0)) dNil))))) [some (.rol (iL ns)), some (.int k), some (.int s), some (.int x), some (.int y)] (h ++ [iL (ns.take 10)])) (fun _ _ => False) fun v h' => ∃ n, v = .ref n ∧ Well n h' := by
        intro y
        repeat walk_at "d"
        exact ⟨by simp, _, rfl, _, _, _, getapp (g := h ++ [iL (ns.take 10)])⟩
      refine sk_seq (sk_asg (ok_if ?_))
      repeat walk_at "d"
      refine ⟨fun _ => ?_, fun _ => ?_⟩
      · refine ok_cb (ok_cons (ok_var rfl (ok_nil ⟨_, _, rfl, _, _, rfl, fin2 _⟩)))
      · exact ok_c ⟨_, _, rfl, fin2 _⟩
    refine sk_seq (sk_asg (ok_if ?_))
    repeat walk_at "d"
    refine ⟨fun c => ?_, fun _ => ?_⟩
    · have c' : k < ns.length := by
        have : (k : Int) < ((iL ns).length : Int) := of_decide_eq_true c
        rw [il_len] at this
        omega
      obtain ⟨x, hx⟩ := get_lt c'
      refine ok_cb (ok_cons (ok_op (ok_var rfl (ok_var rfl ⟨.int x, h ++ [iL (ns.take 10)], ?_, ?_⟩))))
      · have w : atI (iL ns) (k : Int) = some (.int x) := by
          unfold atI ixN
          rw [if_pos (by omega), if_pos (by rw [il_len]; omega)]
          exact il_get hx
        show (atI (iL ns) (k : Int)).bind _ = _
        rw [w]
        rfl
      · exact ok_nil ⟨_, _, rfl, _, _, rfl, (fin x).imp (fun _ _ z => z.elim) fun _ _ z => z⟩
    · exact ok_c ⟨_, _, rfl, (fin 0).imp (fun _ _ z => z.elim) fun _ _ z => z⟩
theorem Ext.at {n : Nat} {h h' : HS} (E : Ext n h h') {j : Nat} {l : List D} (q : h[j]? = some l) (hj : j ≠ n) : h'[j]? = some l := by
  rw [E.same j (List.getElem?_eq_some_iff.mp q).1 hj, q]

end LA

set_option maxHeartbeats 4000000
namespace LA
open PySem L2 PySem.Spec PI
local macro_rules | `(tactic| walk_at "b") => `(tactic| first
  | with_reducible assumption
  | (with_reducible refine Bd.mul ?_ ?_) <;> walk_at "b"
  | (with_reducible refine Bd.sub ?_ ?_) <;> walk_at "b"
  | (with_reducible refine Bd.add ?_ ?_) <;> walk_at "b"
  | (with_reducible refine Bd.neg ?_) <;> walk_at "b"
  | exact natAbs_lt (k := 40) (by decide))
local macro_rules | `(tactic| walk_at "m") => `(tactic| (apply Bd.ok <;> first | walk_at "b" | decide))
local macro_rules | `(tactic| walk_at "p") => `(tactic| (first | exact pre_self | assumption | (refine pre_app ?_; walk_at "p")))
local macro_rules | `(tactic| walk_at "e") => `(tactic| first
  | refine ⟨_, _, opMul_i (.inl ⟨by decide, by decide⟩), ?_⟩
  | refine ⟨_, _, opMul_i (.inr (.inl ⟨by decide, by decide⟩)), ?_⟩
  | (refine ⟨_, _, opMul_i ?_, ?_⟩; · walk_at "m")
  | refine ⟨_, _, rfl, ?_⟩
  | refine ⟨_, rfl, ?_⟩
  | refine ⟨rfl, ?_⟩
  | refine ⟨rfl, rfl, ?_⟩)
local macro_rules | `(tactic| walk_at "d") => `(tactic| first
  | with_reducible refine ok_c ?_
  | with_reducible refine ok_var rfl ?_
  | with_reducible refine ok_op ?_
  | with_reducible refine ok_un ?_
  | with_reducible refine ok_nil ?_
  | with_reducible refine ok_cons ?_
  | with_reducible refine ok_tup ?_
  | with_reducible refine ok_lst ?_
  | with_reducible refine ok_cb ?_
  | with_reducible refine ok_call ?_
  | with_reducible refine ok_callK ?_
  | with_reducible refine ok_sl ?_
  | with_reducible refine ok_nopart ?_
  | with_reducible refine ok_part ?_
  | with_reducible refine ok_B ?_
  | with_reducible refine ok_andT ?_
  | with_reducible refine ok_orT ?_
  | with_reducible refine ok_notT ?_
  | with_reducible refine ok_and ?_
  | with_reducible refine ok_or ?_
  | with_reducible refine ok_not ?_
  | with_reducible refine ok_if ?_
  | with_reducible refine ok_app ?_
  | with_reducible refine ok_lc ?_
  | with_reducible refine ok_yes ?_
  | with_reducible refine ok_src ?_
  | with_reducible refine ok_rng1 ?_
  | with_reducible refine ok_rng2 ?_
  | with_reducible refine ok_zip ?_
  | with_reducible refine sk_nil ?_
  | with_reducible refine sk_seq ?_
  | with_reducible refine sk_ret ?_
  | with_reducible refine sk_drop ?_
  | with_reducible refine sk_if ?_
  | with_reducible refine sk_asg ?_
  | with_reducible refine sk_par ?_
  | with_reducible refine sk_par3 ?_
  | with_reducible refine sk_for ?_
  | with_reducible refine ⟨_, _, gNm1, ?_⟩
  | with_reducible refine ⟨_, _, gUn2, ?_⟩
  | with_reducible refine ⟨_, _, gUn3, ?_⟩
  | with_reducible refine ⟨_, _, opSub_i, ?_⟩
  | with_reducible refine ⟨_, _, opAdd_i, ?_⟩
  | with_reducible refine ⟨_, _, opNe_i, ?_⟩
  | with_reducible refine ⟨_, _, opEq_i, ?_⟩
  | with_reducible refine ⟨_, _, opMod_i (by decide), ?_⟩
  | with_reducible refine ⟨_, _, opDiv_i ⟨by decide, by decide⟩, ?_⟩
  | ((with_reducible refine And.intro ?_ ?_); · rfl)
  | ((fail_if_success (with_reducible refine And.intro ?_ ?_)); (fail_if_success (with_reducible refine OK.imp (Q := fun _ _ => True) ?_ ?_)); (fail_if_success (with_reducible refine SOK.imp (Qn := fun _ _ => True) (Qr := fun _ _ => True) ?_ ?_ ?_)); walk_at "e"))

open PK
theorem reduced_ref {ns : List Int} {r : Nat} {h : HS} {k : Nat} (q : h[r]? = some (iL ns)) (hz : ns.length ≤ 1000) (sm : BdL k ns) (hk : k < 9000) : OK (F_law_reduced [.ref r] h) fun v h' => v = .tup (iL (redF ns)) ∧ ∃ g, h' = h ++ g := by
  have rl := (List.getElem?_eq_some_iff.mp q).1
  unfold F_law_reduced m_law_reduced
  refine ok_run ?_
  repeat walk_at "d"
  refine ⟨by decide, ?_⟩
  repeat walk_at "d"
  refine .inr (.inr ⟨_, rfl, rl, ns.length, fun i e h' => h' = h ∧ ∃ v, e = [some (.ref r), v, none, some (.int (gcdL (ns.take i))), some (.int (lead (ns.take i)))], ?_, ⟨rfl, none, rfl⟩, ?_, ?_⟩)
  · simp [Src.size, q, il_len]
  · rintro i e h' hi ⟨rfl, v, rfl⟩
    obtain ⟨x, hx⟩ := get_lt hi
    refine ⟨.int x, ?_, ?_⟩
    · show (h'[r]?).map _ = _
      rw [q]
      exact congrArg some (il_get hx)
    repeat walk_at "d"
    refine common_ok.imp ?_
    rintro _ _ ⟨rfl, rfl⟩
    repeat walk_at "d"
    refine ⟨fun c => ?_, fun c => ?_⟩
    · repeat walk_at "d"
      have c' : lead (ns.take i) = 0 := by simpa using c
      refine ⟨some (.int x), ?_⟩
      rw [gcdL_take hx, lead_take hx, if_pos c']
      rfl
    · repeat walk_at "d"
      have c' : lead (ns.take i) ≠ 0 := by simpa using c
      refine ⟨some (.int x), ?_⟩
      rw [gcdL_take hx, lead_take hx, if_neg c']
      rfl
  · rintro e h' ⟨rfl, v, rfl⟩
    refine ⟨?_, ?_⟩
    · show (h'[r]?).map _ = _
      rw [q]
      simp [il_len]
    rw [List.take_length]
    repeat walk_at "d"
    refine ⟨fun c => ?_, fun c => ?_⟩
    · repeat walk_at "d"
      have c' : gcdL ns = 0 := by simpa using c
      refine ⟨_, _, opTuple_ref q, ?_, [], by simp⟩
      unfold redF
      rw [if_pos c']
    · have c' : gcdL ns ≠ 0 := by simpa using c
      have cp : 0 < gcdL ns := by have := gcdL_nn ns; omega
      repeat walk_at "d"
      have go : ∀ s : Int, s = sgn ns → SOK ((sRet (dCB opTuple (dCons (dLc (dSrc (dVar 0)) (gNm 1) dYes (dOp opDiv (dOp opMul (dVar 2) (dVar 1)) (dVar 3)) [1]) dNil))) [some (.ref r), v, some (.int s), some (.int (gcdL ns)), some (.int (lead ns))] h') (fun _ _ => False) (fun v h'' => v = .tup (iL (redF ns)) ∧ ∃ g, h'' = h' ++ g) := by
        rintro s rfl
        repeat walk_at "d"
        have w : ∀ g : List D, (h' ++ [g])[r]? = some (iL ns) := fun g => by rw [List.getElem?_append_left rl, q]
        refine .inr (.inr ⟨_, rfl, rl, ns.length, fun i h'' => h'' = h' ++ [iL ((ns.take i).map fun x => sgn ns * x / gcdL ns)], ?_, by simp [iL], ?_, ?_⟩)
        · simp [Src.size, q, il_len]
        · rintro i _ hi rfl
          obtain ⟨x, hx⟩ := get_lt hi
          refine ⟨.int x, ?_, ?_⟩
          · show ((h' ++ [_])[r]?).map _ = _
            rw [w]
            exact congrArg some (il_get hx)
          repeat walk_at "d"
          refine ⟨fun _ => ?_, fun c => (by cases c)⟩
          repeat walk_at "d"
          refine ⟨_, _, opMul_i (.inl (sgn_small ns)), ?_⟩
          repeat walk_at "d"
          refine ⟨_, _, opDiv_i ⟨cp, ?_⟩, _, getapp (g := h'), by simp [il_len]; omega, ?_⟩
          · exact PK.log9 (gcdL_bd sm) hk
          · show _ = _
            rw [setapp, map_take hx, il_app]
            rfl
        · rintro _ rfl
          refine ⟨?_, ?_⟩
          · show ((h' ++ [_])[r]?).map _ = _
            rw [w]
            simp [il_len]
          repeat walk_at "d"
          refine ⟨_, _, opTuple_ref (getapp (g := h')), ?_, _, rfl⟩
          unfold redF
          rw [if_neg c', List.take_length]
      refine ⟨fun c => ?_, fun c => ?_⟩
      · refine ok_un (ok_c ⟨_, _, rfl, _, _, rfl, ?_⟩)
        refine (go (-1) ?_).imp (fun _ _ z => z.elim) fun _ _ z => z
        have : lead ns < 0 := by simpa using c
        unfold sgn
        rw [if_pos this]
      · refine ok_c ⟨_, _, rfl, ?_⟩
        refine (go 1 ?_).imp (fun _ _ z => z.elim) fun _ _ z => z
        have : ¬ lead ns < 0 := by simpa using c
        unfold sgn
        rw [if_neg this]
theorem row_ok {n k m : Nat} {ki mi : Int} {h : HS} (W : Well n h) (hk : k ≤ 100) (hm : m ≤ 1000) (ek : ki = (k : Nat)) (em : mi = (m : Nat)) : OK (F_law_row [.ref n, .int ki, .int mi] h) fun v h' => Ext n h h' ∧ ∃ (r : Nat) (ns : List Int), v = .ref r ∧ h.length ≤ r ∧ h'[r]? = some (iL ns) ∧ ns.length = k ∧ ∀ x ∈ ns, x.natAbs ≤ m := by
  subst ek em
  have hn := W.lt
  unfold F_law_row m_law_row
  refine ok_run ?_
  repeat walk_at "d"
  refine ⟨by simp, ?_⟩
  repeat walk_at "d"
  refine ⟨by omega, by omega, k, fun i e h' => Ext n h h' ∧ (∃ v, e = [some (.ref n), some (.int (k : Nat)), some (.int (m : Nat)), some (.ref h.length), v]) ∧ ∃ ns : List Int, h'[h.length]? = some (iL ns) ∧ ns.length = i ∧ ∀ x ∈ ns, x.natAbs ≤ m, by simp [Src.size], ?_, ?_, ?_⟩
  · exact ⟨Ext.app W, ⟨none, rfl⟩, [], getapp (g := h), rfl, by simp⟩
  · rintro i e h1 hi ⟨E1, ⟨v, rfl⟩, ns, q, nl, nb⟩
    refine ⟨.int (0 + i), by simp [Src.get]; omega, ?_⟩
    repeat walk_at "d"
    refine (drawE (m := 2 * (m : Int) + 1) E1.well (by omega) (by omega)).imp ?_
    rintro _ h2 ⟨x, rfl, x0, x1, E2, L2⟩
    repeat walk_at "d"
    have q2 := E2.at q (by omega)
    refine ⟨iL ns, q2, by rw [il_len]; omega, ?_⟩
    show _ ∧ _ ∧ _
    refine ⟨(E1.trans E2).setO (Nat.le_refl _) hn, ⟨_, rfl⟩, ns ++ [x - m], ?_, by simp [nl], ?_⟩
    · rw [get_set q2, ← il_snoc]
    · intro z hz
      rcases List.mem_append.mp hz with c | c
      · exact nb z c
      · rw [List.mem_singleton.mp c]; omega
  · rintro e h1 ⟨E1, ⟨v, rfl⟩, ns, q, nl, nb⟩
    refine ⟨by simp [Src.get], ?_⟩
    repeat walk_at "d"
    exact ⟨E1, h.length, ns, rfl, Nat.le_refl _, q, nl, nb⟩
theorem bd10 {x : Int} {m : Nat} (h : x.natAbs ≤ m) (c : m ≤ 1000) : Bd 10 x := Nat.lt_of_le_of_lt (Nat.le_trans h c) (by decide)
theorem nz_ne {ns : List Int} (h : ns ≠ List.replicate ns.length 0) : Nz ns := by
  by_cases c : Nz ns
  · exact c
  · exact absurd (List.eq_replicate_iff.mpr ⟨rfl, not_nz c⟩) h
/-- the end of a drawn place -/
theorem place_end {n r : Nat} {h h3 : HS} {ns : List Int} {e : DEnv} (E : Ext n h h3) (q : h3[r]? = some (iL ns)) (nl : ns.length = 4) (nb : BdL 10 ns) (he : e[2]? = some (some (.ref r))) : OK (dIf (dB (dOp opNe (dVar 2) (dLst (dCons (dC (.int 0)) (dCons (dC (.int 0)) (dCons (dC (.int 0)) (dCons (dC (.int 0)) dNil))))))) (dCall 1 F_law_reduced (dCons (dVar 2) dNil)) (dTup (dCons (dC (.int 1)) (dCons (dC (.int 0)) (dCons (dC (.int 0)) (dCons (dC (.int 0)) dNil))))) e h3) fun v h' => Ext n h h' ∧ ∃ p, v = .tup (iL p) ∧ IsPt p ∧ BdL 10 p := by
  have rl := (List.getElem?_eq_some_iff.mp q).1
  refine ok_if (ok_B (ok_op (ok_var he (ok_lst ?_))))
  repeat walk_at "d"
  refine ⟨by simp, ?_⟩
  refine ⟨_, _, opNe_rl (a := ns) (b := [0, 0, 0, 0]) (by rw [List.getElem?_append_left rl, q]) (getapp (g := h3)), ?_⟩
  have E4 : Ext n h (h3 ++ [iL [0, 0, 0, 0]]) := E.trans (Ext.app E.well)
  refine ⟨_, rfl, fun c => ?_, fun c => ?_⟩
  · refine ok_call (ok_cons (ok_var he (ok_nil ⟨rfl, ?_⟩)))
    refine (reduced_ref (ns := ns) (k := 10) (by rw [List.getElem?_append_left rl, q]) (by omega) nb (by decide)).imp ?_
    rintro _ _ ⟨rfl, g, rfl⟩
    have nz : Nz ns := nz_ne (by rw [nl]; simpa using c)
    exact ⟨E4.trans (Ext.app E4.well), _, rfl, ⟨by rw [redF_len, nl], red_redF nz⟩, redF_bd nb⟩
  · repeat walk_at "d"
    refine ⟨by simp, E4, [1, 0, 0, 0], rfl, ⟨rfl, by decide, by decide⟩, ?_⟩
    intro x hx
    simp only [List.mem_cons, List.not_mem_nil, or_false] at hx
    rcases hx with rfl | rfl | rfl | rfl <;> exact natAbs_lt (k := 10) (by decide)
theorem place_ok {n : Nat} {h : HS} (W : Well n h) : OK (F_law_place [.ref n] h) fun v h' => Ext n h h' ∧ ∃ p, v = .tup (iL p) ∧ IsPt p ∧ BdL 10 p := by
  have hn := W.lt
  unfold F_law_place m_law_place
  refine ok_run ?_
  refine sk_seq (sk_asg (ok_call (ok_cons (ok_var rfl (ok_cons (ok_c (ok_nil ⟨rfl, ?_⟩)))))))
  refine (drawE W (by decide) (by decide)).imp ?_
  rintro _ h1 ⟨i, rfl, i0, i1, E1, L1⟩
  refine ⟨_, _, rfl, ?_⟩
  have hm : ∃ m : Nat, m ≤ 1000 ∧ OK (dIf (dB (dOp opLt (dVar 1) (dC (.int 3)))) (dC (.int 2)) (dIf (dB (dOp opLt (dVar 1) (dC (.int 6)))) (dC (.int 4)) (dIf (dB (dOp opLt (dVar 1) (dC (.int 7)))) (dC (.int 9)) (dC (.int 1000)))) [some (.ref n), some (.int i), none] h1) fun v h' => v = .int (m : Nat) ∧ h' = h1 := by
    by_cases c1 : i < 3
    · refine ⟨2, by decide, ok_if (ok_B (ok_op (ok_var rfl (ok_c ⟨_, _, rfl, _, rfl, fun _ => ok_c ⟨rfl, rfl⟩, fun c => ?_⟩))))⟩
      simp [c1] at c
    by_cases c2 : i < 6
    · refine ⟨4, by decide, ok_if (ok_B (ok_op (ok_var rfl (ok_c ⟨_, _, rfl, _, rfl, fun c => ?_, fun c => ok_if (ok_B (ok_op (ok_var rfl (ok_c ⟨_, _, rfl, _, rfl, fun _ => ok_c ⟨rfl, rfl⟩, fun c => ?_⟩))))⟩))))⟩
      · simp [c1] at c
      · simp [c2] at c
    by_cases c3 : i < 7
    · refine ⟨9, by decide, ok_if (ok_B (ok_op (ok_var rfl (ok_c ⟨_, _, rfl, _, rfl, fun c => ?_, fun c => ok_if (ok_B (ok_op (ok_var rfl (ok_c ⟨_, _, rfl, _, rfl, fun c => ?_, fun c => ok_if (ok_B (ok_op (ok_var rfl (ok_c ⟨_, _, rfl, _, rfl, fun _ => ok_c ⟨rfl, rfl⟩, fun c => ?_⟩))))⟩))))⟩))))⟩
      · simp [c1] at c
      · simp [c2] at c
      · simp [c3] at c
    · refine ⟨1000, by decide, ok_if (ok_B (ok_op (ok_var rfl (ok_c ⟨_, _, rfl, _, rfl, fun c => ?_, fun c => ok_if (ok_B (ok_op (ok_var rfl (ok_c ⟨_, _, rfl, _, rfl, fun c => ?_, fun c => ok_if (ok_B (ok_op (ok_var rfl (ok_c ⟨_, _, rfl, _, rfl, fun c => ?_, fun _ => ok_c ⟨rfl, rfl⟩⟩))))⟩))))⟩))))⟩
      · simp [c1] at c
      · simp [c2] at c
      · simp [c3] at c
  obtain ⟨m, m1, hm⟩ := hm
  refine sk_seq (sk_asg (ok_call (ok_cons (ok_var rfl (ok_cons (ok_c (ok_cons (hm.imp ?_))))))))
  rintro _ _ ⟨rfl, rfl⟩
  refine ok_nil ⟨rfl, ?_⟩
  refine (row_ok (k := 4) E1.well (by decide) m1 rfl rfl).imp ?_
  rintro _ h2 ⟨E2, r, ns, rfl, rl, q, nl, nb⟩
  refine ⟨_, _, rfl, ?_⟩
  have E12 := E1.trans E2
  have l1 := E1.len
  have nb10 : BdL 10 ns := fun x hx => bd10 (nb x hx) m1
  refine sk_seq (sk_if (ok_B (ok_op (ok_var rfl (ok_c ⟨_, _, rfl, _, rfl, fun c => ?_, fun c => ?_⟩)))))
  · obtain ⟨a, b, c, d, rfl⟩ := four nl
    have fin : ∀ z : Int, Bd 10 z → ∃ e2 h4, gSubD (dVar 2) (dC (.int 0)) (.int z) [some (.ref n), some (.int i), some (.ref r)] h2 = some (e2, h4) ∧ SOK (sRet (dIf (dB (dOp opNe (dVar 2) (dLst (dCons (dC (.int 0)) (dCons (dC (.int 0)) (dCons (dC (.int 0)) (dCons (dC (.int 0)) dNil))))))) (dCall 1 F_law_reduced (dCons (dVar 2) dNil)) (dTup (dCons (dC (.int 1)) (dCons (dC (.int 0)) (dCons (dC (.int 0)) (dCons (dC (.int 0)) dNil))))) ) e2 h4) (fun _ h_1 => Ext n h h_1 ∧ ∃ p, D.non = .tup (iL p) ∧ IsPt p ∧ BdL 10 p) fun v h' => Ext n h h' ∧ ∃ p, v = .tup (iL p) ∧ IsPt p ∧ BdL 10 p := by
      intro z hz
      refine ⟨_, _, gsub (a := r) (k := 0) rfl rfl (setD_at q (j := 0) rfl), sk_ret ?_⟩
      refine place_end (r := r) (ns := [z, b, c, d]) (E12.setO (by omega) hn) (get_set q) rfl ?_ rfl
      intro x hx
      rcases List.mem_cons.mp hx with rfl | hx
      · exact hz
      · exact nb10 x (List.mem_cons_of_mem _ hx)
    refine sk_asg (ok_if (ok_B (ok_op (ok_var rfl (ok_c ⟨_, _, opEq_i, _, rfl, fun _ => ok_c (fin 0 Bd.zero), fun _ => ok_c (fin 1 (natAbs_lt (k := 10) (by decide)))⟩)))))
  · exact sk_nil (sk_ret (place_end E12 q nl nb10 rfl))
theorem unlike_ok {n : Nat} {h : HS} {a : List Int} (W : Well n h) : OK (F_law_unlike [.ref n, .tup (iL a)] h) fun v h' => Ext n h h' ∧ ∃ p, v = .tup (iL p) ∧ IsPt p ∧ BdL 10 p ∧ p ≠ a := by
  have u1 : IsPt [0, 1, 0, 0] := ⟨rfl, by decide, by decide⟩
  have u2 : IsPt [0, 0, 1, 0] := ⟨rfl, by decide, by decide⟩
  have b1 : BdL 10 [0, 1, 0, 0] := by
    intro x hx
    simp only [List.mem_cons, List.not_mem_nil, or_false] at hx
    rcases hx with rfl | rfl | rfl | rfl <;> exact natAbs_lt (k := 10) (by decide)
  have b2 : BdL 10 [0, 0, 1, 0] := by
    intro x hx
    simp only [List.mem_cons, List.not_mem_nil, or_false] at hx
    rcases hx with rfl | rfl | rfl | rfl <;> exact natAbs_lt (k := 10) (by decide)
  unfold F_law_unlike m_law_unlike
  refine ok_run ?_
  repeat walk_at "d"
  refine (place_ok W).imp ?_
  rintro _ h1 ⟨E1, p, rfl, P, B⟩
  repeat walk_at "d"
  refine ⟨_, _, opEq_il, ?_⟩
  repeat walk_at "d"
  refine ⟨fun c => ?_, fun c => ?_⟩
  · have c : p = a := by simpa using c
    subst c
    repeat walk_at "d"
    refine ⟨by simp, ?_⟩
    refine ⟨_, _, opNe_il (a := p) (b := [0, 1, 0, 0]), ?_⟩
    repeat walk_at "d"
    refine ⟨fun c => ?_, fun c => ?_⟩
    · repeat walk_at "d"
      refine ⟨by simp, E1, _, rfl, u1, b1, ?_⟩
      intro z
      rw [← z] at c
      simp at c
    · repeat walk_at "d"
      refine ⟨by simp, E1, _, rfl, u2, b2, ?_⟩
      have c : p = [0, 1, 0, 0] := by simpa using c
      rw [c]
      decide
  · repeat walk_at "d"
    exact ⟨E1, p, rfl, P, B, by simpa using c⟩

end LA

set_option maxHeartbeats 4000000
namespace LA
open PySem L2 PySem.Spec PI
local macro_rules | `(tactic| walk_at "b") => `(tactic| first
  | with_reducible assumption
  | (with_reducible refine Bd.mul ?_ ?_) <;> walk_at "b"
  | (with_reducible refine Bd.sub ?_ ?_) <;> walk_at "b"
  | (with_reducible refine Bd.add ?_ ?_) <;> walk_at "b"
  | (with_reducible refine Bd.neg ?_) <;> walk_at "b"
  | exact natAbs_lt (k := 40) (by decide))
local macro_rules | `(tactic| walk_at "m") => `(tactic| (apply Bd.ok <;> first | walk_at "b" | decide))
local macro_rules | `(tactic| walk_at "p") => `(tactic| (first | exact pre_self | assumption | (refine pre_app ?_; walk_at "p")))
local macro_rules | `(tactic| walk_at "e") => `(tactic| first
  | refine ⟨_, _, opMul_i (.inl ⟨by decide, by decide⟩), ?_⟩
  | refine ⟨_, _, opMul_i (.inr (.inl ⟨by decide, by decide⟩)), ?_⟩
  | (refine ⟨_, _, opMul_i ?_, ?_⟩; · walk_at "m")
  | refine ⟨_, _, rfl, ?_⟩
  | refine ⟨_, rfl, ?_⟩
  | refine ⟨rfl, ?_⟩
  | refine ⟨rfl, rfl, ?_⟩)
local macro_rules | `(tactic| walk_at "d") => `(tactic| first
  | with_reducible refine ok_c ?_
  | with_reducible refine ok_var rfl ?_
  | with_reducible refine ok_op ?_
  | with_reducible refine ok_un ?_
  | with_reducible refine ok_nil ?_
  | with_reducible refine ok_cons ?_
  | with_reducible refine ok_tup ?_
  | with_reducible refine ok_lst ?_
  | with_reducible refine ok_cb ?_
  | with_reducible refine ok_call ?_
  | with_reducible refine ok_callK ?_
  | with_reducible refine ok_sl ?_
  | with_reducible refine ok_nopart ?_
  | with_reducible refine ok_part ?_
  | with_reducible refine ok_B ?_
  | with_reducible refine ok_andT ?_
  | with_reducible refine ok_orT ?_
  | with_reducible refine ok_notT ?_
  | with_reducible refine ok_and ?_
  | with_reducible refine ok_or ?_
  | with_reducible refine ok_not ?_
  | with_reducible refine ok_if ?_
  | with_reducible refine ok_app ?_
  | with_reducible refine ok_lc ?_
  | with_reducible refine ok_yes ?_
  | with_reducible refine ok_src ?_
  | with_reducible refine ok_rng1 ?_
  | with_reducible refine ok_rng2 ?_
  | with_reducible refine ok_zip ?_
  | with_reducible refine sk_nil ?_
  | with_reducible refine sk_seq ?_
  | with_reducible refine sk_ret ?_
  | with_reducible refine sk_drop ?_
  | with_reducible refine sk_if ?_
  | with_reducible refine sk_asg ?_
  | with_reducible refine sk_par ?_
  | with_reducible refine sk_par3 ?_
  | with_reducible refine sk_for ?_
  | with_reducible refine ⟨_, _, gNm1, ?_⟩
  | with_reducible refine ⟨_, _, gUn2, ?_⟩
  | with_reducible refine ⟨_, _, gUn3, ?_⟩
  | with_reducible refine ⟨_, _, opSub_i, ?_⟩
  | with_reducible refine ⟨_, _, opAdd_i, ?_⟩
  | with_reducible refine ⟨_, _, opNe_i, ?_⟩
  | with_reducible refine ⟨_, _, opEq_i, ?_⟩
  | with_reducible refine ⟨_, _, opMod_i (by decide), ?_⟩
  | with_reducible refine ⟨_, _, opDiv_i ⟨by decide, by decide⟩, ?_⟩
  | ((with_reducible refine And.intro ?_ ?_); · rfl)
  | ((fail_if_success (with_reducible refine And.intro ?_ ?_)); (fail_if_success (with_reducible refine OK.imp (Q := fun _ _ => True) ?_ ?_)); (fail_if_success (with_reducible refine SOK.imp (Qn := fun _ _ => True) (Qr := fun _ _ => True) ?_ ?_ ?_)); walk_at "e"))

open PK
theorem lcross_ok {a b c x y z : Int} {h : HS} {k : Nat} (ha : Bd k a) (hb : Bd k b) (hc : Bd k c) (hx : Bd k x) (hy : Bd k y) (hz : Bd k z) (hk : k < 400000) : OK (F_law_cross [.tup (iL [a, b, c]), .tup (iL [x, y, z])] h) fun v h' => v = .tup (iL [b * z - c * y, c * x - a * z, a * y - b * x]) ∧ h' = h := by
  have m : ∀ {i j : Int}, Bd k i → Bd k j → MulOk i j := fun a b => a.ok b (by omega)
  unfold F_law_cross m_law_cross
  refine ok_run ?_
  repeat walk_at "d"
  refine ⟨_, _, opMul_i (m hb hz), ?_⟩
  repeat walk_at "d"
  refine ⟨_, _, opMul_i (m hc hy), ?_⟩
  repeat walk_at "d"
  refine ⟨_, _, opMul_i (m hc hx), ?_⟩
  repeat walk_at "d"
  refine ⟨_, _, opMul_i (m ha hz), ?_⟩
  repeat walk_at "d"
  refine ⟨_, _, opMul_i (m ha hy), ?_⟩
  repeat walk_at "d"
  refine ⟨_, _, opMul_i (m hb hx), ?_⟩
  repeat walk_at "d"
  exact ⟨by simp, rfl, rfl⟩
theorem line_ok {a b : List Int} {h : HS} {j k : Nat} (la : a.length = 4) (lb : b.length = 4) (ha : BdL j a) (hb : BdL k b) (hk : j + k < 200000) : OK (F_law_line [.tup (iL a), .tup (iL b)] h) fun v h' => v = .tup (iL (lineL a b)) ∧ ∃ g, h' = h ++ g := by
  obtain ⟨a0, a1, a2, a3, rfl⟩ := four la
  obtain ⟨b0, b1, b2, b3, rfl⟩ := four lb
  have ha : BdL (j + k) [a0, a1, a2, a3] := ha.mono (by omega)
  have hb : BdL (j + k) [b0, b1, b2, b3] := hb.mono (by omega)
  generalize j + k = k at *
  obtain ⟨A0, A1, A2, A3⟩ := bd4 ha
  obtain ⟨B0, B1, B2, B3⟩ := bd4 hb
  have m : ∀ {i j : Int}, Bd k i → Bd k j → MulOk i j := fun a b => a.ok b (by omega)
  unfold F_law_line m_law_line
  refine ok_run ?_
  repeat walk_at "d"
  let f : Nat → Int := fun k => if k = 0 then a0 * b1 - b0 * a1 else if k = 1 then a0 * b2 - b0 * a2 else a0 * b3 - b0 * a3
  refine ⟨by decide, 3, fun i h' => h' = h ++ [iL ((List.range i).map f)], Nat.le_refl _, rfl, ?_, ?_⟩
  · rintro i _ hi rfl
    refine ⟨.int (1 + i), by simp [Src.get, hi], ?_⟩
    have hi' : i = 0 ∨ i = 1 ∨ i = 2 := by omega
    rcases hi' with rfl | rfl | rfl <;> (
      repeat walk_at "d"
      refine ⟨fun _ => ?_, fun c => (by cases c)⟩
      repeat walk_at "d"
      refine ⟨_, _, opMul_i (m (by assumption) (by assumption)), ?_⟩
      repeat walk_at "d"
      refine ⟨_, _, opMul_i (m (by assumption) (by assumption)), ?_⟩
      repeat walk_at "d"
      refine ⟨_, getapp (g := h), by simp [iL], ?_⟩
      show _ = _
      rw [setapp]
      rfl)
  · rintro _ rfl
    refine ⟨by simp [Src.get], ?_⟩
    repeat walk_at "d"
    refine ⟨_, _, opTuple_ref (getapp (g := h)), ?_⟩
    repeat walk_at "d"
    rw [show cutD (iL [a0, a1, a2, a3]) (some 1) none = iL [a1, a2, a3] from cut_hi (k := 1), show cutD (iL [b0, b1, b2, b3]) (some 1) none = iL [b1, b2, b3] from cut_hi (k := 1)]
    refine (lcross_ok A1 A2 A3 B1 B2 B3 (by omega)).imp ?_
    rintro _ _ ⟨rfl, rfl⟩
    refine ⟨_, _, opAdd_t (by simp [iL]), ?_⟩
    exact ⟨rfl, _, rfl⟩
/-- the factor of a row -/
theorem factor_ok {l : List Int} {h : HS} {k : Nat} (hl : l.length = 6) (hn : Nz l) (hb : BdL k l) (hk : k < 9000) : OK (F_law_factor [.tup (iL l), .tup (iL (redF l))] h) fun v h' => v = .int (facN l) ∧ h' = h := by
  have rl : (redF l).length = 6 := by rw [redF_len, hl]
  unfold F_law_factor m_law_factor
  refine ok_run ?_
  repeat walk_at "d"
  refine ⟨by decide, by decide, 6, fun i e h' => h' = h ∧ (∃ v, e = [some (.tup (iL l)), some (.tup (iL (redF l))), v]) ∧ ∀ x ∈ (redF l).take i, x = 0, by simp [Src.size], ⟨rfl, ⟨none, rfl⟩, by simp⟩, ?_, ?_⟩
  · rintro i e h' hi ⟨rfl, ⟨v, rfl⟩, hz⟩
    obtain ⟨x, hx⟩ := get_lt (l := redF l) (i := i) (by omega)
    obtain ⟨y, hy⟩ := get_lt (l := l) (i := i) (by omega)
    refine ⟨.int (i : Nat), by simp [Src.get, hi], ?_⟩
    repeat walk_at "d"
    refine ⟨_, _, opIx_t (PI.atI_nat (il_get hx)), ?_⟩
    repeat walk_at "d"
    refine ⟨fun c => ?_, fun c => ?_⟩
    · have x0 : x ≠ 0 := by simpa using c
      repeat walk_at "d"
      refine ⟨_, _, opIx_t (PI.atI_nat (il_get hy)), ?_⟩
      repeat walk_at "d"
      refine ⟨_, _, opIx_t (PI.atI_nat (il_get hx)), ?_⟩
      refine ⟨_, _, opDiv_f ⟨x0, PK.log9 (redF_bd hb x (List.mem_of_getElem? hx)) hk⟩, ?_, rfl⟩
      have e : y = facN l * x := by
        have := gI_back hn i
        unfold gI at this
        rw [List.getD_eq_getElem?_getD, List.getD_eq_getElem?_getD, hx, hy] at this
        exact this
      rw [e, Int.mul_fdiv_cancel _ x0]
    · refine sk_nil ⟨rfl, ⟨_, rfl⟩, fun z hz' => ?_⟩
      rw [List.take_add_one, hx] at hz'
      rcases List.mem_append.mp hz' with q | q
      · exact hz z q
      · have : z = x := by simpa using q
        subst this
        simpa using c
  · rintro e h' ⟨rfl, ⟨v, rfl⟩, hz⟩
    exfalso
    rw [List.take_of_length_le (by omega)] at hz
    obtain ⟨x, hx, x0⟩ := (red_redF hn).nz
    exact x0 (hz x hx)
theorem ldot_ok {a b : List Int} {r : Nat} {h : HS} {j k : Nat} (la : a.length = 4) (lb : b.length = 4) (q : h[r]? = some (iL b)) (ha : BdL j a) (hb : BdL k b) (c : j + k < 1000000) : OK (F_law_dot [.tup (iL a), .ref r] h) fun v h' => v = .int (dotL a b) ∧ ∃ g, h' = h ++ g := by
  have rl := (List.getElem?_eq_some_iff.mp q).1
  unfold F_law_dot m_law_dot
  refine ok_run ?_
  repeat walk_at "d"
  refine ⟨by simp [il_len, la], by simp [il_len, la], 4, fun i h' => h' = h ++ [iL ((List.zipWith (· * ·) a b).take i)], by simp [Src.size, il_len, la], by simp [iL], ?_, ?_⟩
  · rintro i _ hi rfl
    obtain ⟨x, hx⟩ := get_lt (l := a) (i := i) (by omega)
    obtain ⟨y, hy⟩ := get_lt (l := b) (i := i) (by omega)
    refine ⟨.int (0 + i), by simp [Src.get, il_len, la, hi], ?_⟩
    repeat walk_at "d"
    rw [Int.zero_add]
    refine ⟨fun _ => ?_, fun c => (by cases c)⟩
    repeat walk_at "d"
    refine ⟨_, _, opIx_t (PI.atI_nat (il_get hx)), ?_⟩
    repeat walk_at "d"
    refine ⟨_, _, opIx_r (l := iL b) (by rw [List.getElem?_append_left rl, q]) (PI.atI_nat (il_get hy)), ?_⟩
    refine ⟨_, _, opMul_i ((ha x (List.mem_of_getElem? hx)).ok (hb y (List.mem_of_getElem? hy)) c), _, getapp (g := h), by simp [il_len]; omega, ?_⟩
    show _ = _
    rw [setapp, List.take_add_one, zip_get hx hy, il_app]
    rfl
  · rintro _ rfl
    refine ⟨by simp [Src.get, il_len, la], ?_⟩
    repeat walk_at "d"
    refine ⟨_, _, sum_eq (getapp (g := h)), ?_, _, rfl⟩
    have e : (List.zipWith (fun x1 x2 : Int => x1 * x2) a b).take 4 = List.zipWith (fun x1 x2 => x1 * x2) a b := List.take_of_length_le (by rw [List.length_zipWith]; omega)
    rw [e]
    rfl

end LA

set_option maxHeartbeats 4000000
namespace LA
open PySem L2 PySem.Spec PI
local macro_rules | `(tactic| walk_at "b") => `(tactic| first
  | with_reducible assumption
  | (with_reducible refine Bd.mul ?_ ?_) <;> walk_at "b"
  | (with_reducible refine Bd.sub ?_ ?_) <;> walk_at "b"
  | (with_reducible refine Bd.add ?_ ?_) <;> walk_at "b"
  | (with_reducible refine Bd.neg ?_) <;> walk_at "b"
  | exact natAbs_lt (k := 40) (by decide))
local macro_rules | `(tactic| walk_at "m") => `(tactic| (apply Bd.ok <;> first | walk_at "b" | decide))
local macro_rules | `(tactic| walk_at "p") => `(tactic| (first | exact pre_self | assumption | (refine pre_app ?_; walk_at "p")))
local macro_rules | `(tactic| walk_at "e") => `(tactic| first
  | refine ⟨_, _, opMul_i (.inl ⟨by decide, by decide⟩), ?_⟩
  | refine ⟨_, _, opMul_i (.inr (.inl ⟨by decide, by decide⟩)), ?_⟩
  | (refine ⟨_, _, opMul_i ?_, ?_⟩; · walk_at "m")
  | refine ⟨_, _, rfl, ?_⟩
  | refine ⟨_, rfl, ?_⟩
  | refine ⟨rfl, ?_⟩
  | refine ⟨rfl, rfl, ?_⟩)
local macro_rules | `(tactic| walk_at "d") => `(tactic| first
  | with_reducible refine ok_c ?_
  | with_reducible refine ok_var rfl ?_
  | with_reducible refine ok_op ?_
  | with_reducible refine ok_un ?_
  | with_reducible refine ok_nil ?_
  | with_reducible refine ok_cons ?_
  | with_reducible refine ok_tup ?_
  | with_reducible refine ok_lst ?_
  | with_reducible refine ok_cb ?_
  | with_reducible refine ok_call ?_
  | with_reducible refine ok_callK ?_
  | with_reducible refine ok_sl ?_
  | with_reducible refine ok_nopart ?_
  | with_reducible refine ok_part ?_
  | with_reducible refine ok_B ?_
  | with_reducible refine ok_andT ?_
  | with_reducible refine ok_orT ?_
  | with_reducible refine ok_notT ?_
  | with_reducible refine ok_and ?_
  | with_reducible refine ok_or ?_
  | with_reducible refine ok_not ?_
  | with_reducible refine ok_if ?_
  | with_reducible refine ok_app ?_
  | with_reducible refine ok_lc ?_
  | with_reducible refine ok_yes ?_
  | with_reducible refine ok_src ?_
  | with_reducible refine ok_rng1 ?_
  | with_reducible refine ok_rng2 ?_
  | with_reducible refine ok_zip ?_
  | with_reducible refine sk_nil ?_
  | with_reducible refine sk_seq ?_
  | with_reducible refine sk_ret ?_
  | with_reducible refine sk_drop ?_
  | with_reducible refine sk_if ?_
  | with_reducible refine sk_asg ?_
  | with_reducible refine sk_par ?_
  | with_reducible refine sk_par3 ?_
  | with_reducible refine sk_for ?_
  | with_reducible refine ⟨_, _, gNm1, ?_⟩
  | with_reducible refine ⟨_, _, gUn2, ?_⟩
  | with_reducible refine ⟨_, _, gUn3, ?_⟩
  | with_reducible refine ⟨_, _, opSub_i, ?_⟩
  | with_reducible refine ⟨_, _, opAdd_i, ?_⟩
  | with_reducible refine ⟨_, _, opNe_i, ?_⟩
  | with_reducible refine ⟨_, _, opEq_i, ?_⟩
  | with_reducible refine ⟨_, _, opMod_i (by decide), ?_⟩
  | with_reducible refine ⟨_, _, opDiv_i ⟨by decide, by decide⟩, ?_⟩
  | ((with_reducible refine And.intro ?_ ?_); · rfl)
  | ((fail_if_success (with_reducible refine And.intro ?_ ?_)); (fail_if_success (with_reducible refine OK.imp (Q := fun _ _ => True) ?_ ?_)); (fail_if_success (with_reducible refine SOK.imp (Qn := fun _ _ => True) (Qr := fun _ _ => True) ?_ ?_ ?_)); walk_at "e"))

open PK
local macro_rules | `(tactic| walk_at "u") => `(tactic| first
  | with_reducible refine ok_lcN ?_
  | with_reducible refine sk_forN ?_
  | refine lc_more rfl rfl ?_
  | refine lc_end rfl ?_
  | refine for_more rfl rfl ?_
  | refine for_end rfl ?_
  | (refine ⟨_, getapp (g := []), by simp, ?_⟩; rw [setapp])
  | (refine ⟨_, _, opTuple_ref (getapp (g := [])), ?_⟩)
  | with_reducible refine ⟨by decide, by decide, ?_⟩
  | refine ⟨fun _ => ?_, fun c => absurd c (by decide)⟩
  | refine ⟨fun c => absurd c (by decide), fun _ => ?_⟩
  | walk_at "d")
/-- the minors of three rows: what with a fourth one makes their determinant -/
def minL (b c d : List Int) : List Int :=
  [gI b 1 * (gI c 2 * gI d 3 - gI c 3 * gI d 2) - gI b 2 * (gI c 1 * gI d 3 - gI c 3 * gI d 1) + gI b 3 * (gI c 1 * gI d 2 - gI c 2 * gI d 1),
   -(gI b 0 * (gI c 2 * gI d 3 - gI c 3 * gI d 2) - gI b 2 * (gI c 0 * gI d 3 - gI c 3 * gI d 0) + gI b 3 * (gI c 0 * gI d 2 - gI c 2 * gI d 0)),
   gI b 0 * (gI c 1 * gI d 3 - gI c 3 * gI d 1) - gI b 1 * (gI c 0 * gI d 3 - gI c 3 * gI d 0) + gI b 3 * (gI c 0 * gI d 1 - gI c 1 * gI d 0),
   -(gI b 0 * (gI c 1 * gI d 2 - gI c 2 * gI d 1) - gI b 1 * (gI c 0 * gI d 2 - gI c 2 * gI d 0) + gI b 2 * (gI c 0 * gI d 1 - gI c 1 * gI d 0))]
theorem gUn_ref {n a : Nat} {gs : DGs} {e e2 : DEnv} {h h2 : HS} {l : List D} (q : h[a]? = some l) (hl : l.length = n) (k : gs l e h = some (e2, h2)) : gUn n gs (.ref a) e h = some (e2, h2) := by
  show (h[a]?).bind _ = _
  rw [q]
  show (if l.length = n then gs l e h else none) = _
  rw [if_pos hl, k]
theorem setapp1 {h g : HS} {x y : List D} {n : Nat} (hn : n = h.length) : (h ++ [x] ++ g).set n y = h ++ [y] ++ g := by subst hn; simp
theorem minor_tail {b c d : D} {i p q r bp bq br cp cq cr dp dq dr x : Int} {a : Nat} {v5 v9 : Option D} {H : HS} {l : List D} {k : Nat} {Qn : DEnv → HS → Prop} {Qr : D → HS → Prop}
    (b1 : ∀ h, opIx b (.int p) h = some (.int bp, h)) (b2 : ∀ h, opIx b (.int q) h = some (.int bq, h)) (b3 : ∀ h, opIx b (.int r) h = some (.int br, h))
    (c1 : ∀ h, opIx c (.int p) h = some (.int cp, h)) (c2 : ∀ h, opIx c (.int q) h = some (.int cq, h)) (c3 : ∀ h, opIx c (.int r) h = some (.int cr, h))
    (d1 : ∀ h, opIx d (.int p) h = some (.int dp, h)) (d2 : ∀ h, opIx d (.int q) h = some (.int dq, h)) (d3 : ∀ h, opIx d (.int r) h = some (.int dr, h))
    (B1 : Bd k bp) (B2 : Bd k bq) (B3 : Bd k br) (C1 : Bd k cp) (C2 : Bd k cq) (C3 : Bd k cr) (E1 : Bd k dp) (E2 : Bd k dq) (E3 : Bd k dr) (hk : k < 100000)
    (hx : x = if i % 2 = 0 then bp * (cq * dr - cr * dq) - bq * (cp * dr - cr * dp) + br * (cp * dq - cq * dp) else -(bp * (cq * dr - cr * dq) - bq * (cp * dr - cr * dp) + br * (cp * dq - cq * dp)))
    (q0 : H[a]? = some l) (ql : l.length < 100000) (z : ∀ v5, Qn [some b, some c, some d, some (.ref a), some (.int i), v5, some (.int p), some (.int q), some (.int r), v9] (H.set a (l ++ [.int x]))) :
    SOK ((sSeq (sAsg (dOp opMul (dOp opIx (dVar 0) (dVar 6)) (dOp opSub (dOp opMul (dOp opIx (dVar 1) (dVar 7)) (dOp opIx (dVar 2) (dVar 8))) (dOp opMul (dOp opIx (dVar 1) (dVar 8)) (dOp opIx (dVar 2) (dVar 7))))) (gNm 5))
    (sSeq (sAsg (dOp opSub (dVar 5) (dOp opMul (dOp opIx (dVar 0) (dVar 7)) (dOp opSub (dOp opMul (dOp opIx (dVar 1) (dVar 6)) (dOp opIx (dVar 2) (dVar 8))) (dOp opMul (dOp opIx (dVar 1) (dVar 8)) (dOp opIx (dVar 2) (dVar 6)))))) (gNm 5))
    (sSeq (sAsg (dOp opAdd (dVar 5) (dOp opMul (dOp opIx (dVar 0) (dVar 8)) (dOp opSub (dOp opMul (dOp opIx (dVar 1) (dVar 6)) (dOp opIx (dVar 2) (dVar 7))) (dOp opMul (dOp opIx (dVar 1) (dVar 7)) (dOp opIx (dVar 2) (dVar 6)))))) (gNm 5))
    (sDrop (dApp (dVar 3) (dIf (dB (dOp opEq (dOp opMod (dCB opInt (dCons (dVar 4) dNil)) (dC (.int 2))) (dC (.int 0)))) (dVar 5) (dUn opNeg (dVar 5)))))))) [some b, some c, some d, some (.ref a), some (.int i), v5, some (.int p), some (.int q), some (.int r), v9] H) Qn Qr := by
  have m : ∀ {i j : Int}, Bd k i → Bd k j → MulOk i j := fun a b => a.ok b (by omega)
  have m3 : ∀ {x p q r s : Int}, Bd k x → Bd k p → Bd k q → Bd k r → Bd k s → MulOk x (p * q - r * s) := fun a b c d e => a.ok ((b.mul c).sub (d.mul e)) (by omega)
  have ix : ∀ {e : DEnv} {j n : Nat} {o : D} {y z : Int} {Q : D → HS → Prop}, e[j]? = some (some o) → e[n]? = some (some (.int y)) → (∀ h, opIx o (.int y) h = some (.int z, h)) → Q (.int z) H → OK (dOp opIx (dVar j) (dVar n) e H) Q := fun h1 h2 h3 h4 => ok_op (ok_var h1 (ok_var h2 ⟨_, _, h3 _, h4⟩))
  refine sk_seq (sk_asg (ok_op ?_))
  refine ix rfl rfl b1 ?_
  refine ok_op ?_
  refine ok_op ?_
  refine ix rfl rfl c2 ?_
  refine ix rfl rfl d3 ?_
  refine ⟨_, _, opMul_i (m C2 E3), ?_⟩
  refine ok_op ?_
  refine ix rfl rfl c3 ?_
  refine ix rfl rfl d2 ?_
  refine ⟨_, _, opMul_i (m C3 E2), ?_⟩
  refine ⟨_, _, rfl, ?_⟩
  refine ⟨_, _, opMul_i (m3 B1 C2 E3 C3 E2), ?_⟩
  refine ⟨_, _, rfl, ?_⟩
  refine sk_seq (sk_asg (ok_op (ok_var rfl ?_)))
  refine ok_op ?_
  refine ix rfl rfl b2 ?_
  refine ok_op ?_
  refine ok_op ?_
  refine ix rfl rfl c1 ?_
  refine ix rfl rfl d3 ?_
  refine ⟨_, _, opMul_i (m C1 E3), ?_⟩
  refine ok_op ?_
  refine ix rfl rfl c3 ?_
  refine ix rfl rfl d1 ?_
  refine ⟨_, _, opMul_i (m C3 E1), ?_⟩
  refine ⟨_, _, rfl, ?_⟩
  refine ⟨_, _, opMul_i (m3 B2 C1 E3 C3 E1), ?_⟩
  refine ⟨_, _, rfl, ?_⟩
  refine ⟨_, _, rfl, ?_⟩
  refine sk_seq (sk_asg (ok_op (ok_var rfl ?_)))
  refine ok_op ?_
  refine ix rfl rfl b3 ?_
  refine ok_op ?_
  refine ok_op ?_
  refine ix rfl rfl c1 ?_
  refine ix rfl rfl d2 ?_
  refine ⟨_, _, opMul_i (m C1 E2), ?_⟩
  refine ok_op ?_
  refine ix rfl rfl c2 ?_
  refine ix rfl rfl d1 ?_
  refine ⟨_, _, opMul_i (m C2 E1), ?_⟩
  refine ⟨_, _, rfl, ?_⟩
  refine ⟨_, _, opMul_i (m3 B3 C1 E2 C2 E1), ?_⟩
  refine ⟨_, _, rfl, ?_⟩
  refine ⟨_, _, rfl, ?_⟩
  refine sk_drop (ok_app (ok_var rfl ?_))
  refine ⟨_, rfl, ?_⟩
  refine ok_if (ok_B (ok_op (ok_op ?_)))
  refine ok_cb (ok_cons (ok_var rfl (ok_nil ?_)))
  refine ⟨_, _, rfl, ?_⟩
  refine ok_c ?_
  refine ⟨_, _, opMod_i (by decide), ?_⟩
  refine ok_c ?_
  refine ⟨_, _, opEq_i, ?_⟩
  refine ⟨_, rfl, fun c => ?_, fun c => ?_⟩
  · have c : i % 2 = 0 := by simpa using c
    rw [if_pos c] at hx
    refine ok_var rfl ⟨l, q0, ql, ?_⟩
    rw [← hx]
    exact z _
  · have c : ¬ i % 2 = 0 := by simpa using c
    rw [if_neg c] at hx
    refine ok_un (ok_var rfl ⟨_, _, rfl, l, q0, ql, ?_⟩)
    rw [← hx]
    exact z _
theorem others0 {x0 x1 x2 x3 x5 x6 x7 x8 x9 : Option D} {H : HS} : OK (dLc (dRng1 (dCons (dC (.int 4)) dNil)) (gNm 9) (dB (dOp opNe (dVar 9) (dVar 4))) (dVar 9) [9] [x0, x1, x2, x3, some (.int (0 + (0 : Nat))), x5, x6, x7, x8, x9] H) fun v h' => v = .ref H.length ∧ h' = H ++ [[.int 1, .int 2, .int 3]] := by
  repeat walk_at "u"
  rfl
theorem others1 {x0 x1 x2 x3 x5 x6 x7 x8 x9 : Option D} {H : HS} : OK (dLc (dRng1 (dCons (dC (.int 4)) dNil)) (gNm 9) (dB (dOp opNe (dVar 9) (dVar 4))) (dVar 9) [9] [x0, x1, x2, x3, some (.int (0 + (1 : Nat))), x5, x6, x7, x8, x9] H) fun v h' => v = .ref H.length ∧ h' = H ++ [[.int 0, .int 2, .int 3]] := by
  repeat walk_at "u"
  rfl
theorem others2 {x0 x1 x2 x3 x5 x6 x7 x8 x9 : Option D} {H : HS} : OK (dLc (dRng1 (dCons (dC (.int 4)) dNil)) (gNm 9) (dB (dOp opNe (dVar 9) (dVar 4))) (dVar 9) [9] [x0, x1, x2, x3, some (.int (0 + (2 : Nat))), x5, x6, x7, x8, x9] H) fun v h' => v = .ref H.length ∧ h' = H ++ [[.int 0, .int 1, .int 3]] := by
  repeat walk_at "u"
  rfl
theorem others3 {x0 x1 x2 x3 x5 x6 x7 x8 x9 : Option D} {H : HS} : OK (dLc (dRng1 (dCons (dC (.int 4)) dNil)) (gNm 9) (dB (dOp opNe (dVar 9) (dVar 4))) (dVar 9) [9] [x0, x1, x2, x3, some (.int (0 + (3 : Nat))), x5, x6, x7, x8, x9] H) fun v h' => v = .ref H.length ∧ h' = H ++ [[.int 0, .int 1, .int 2]] := by
  repeat walk_at "u"
  rfl
theorem minors_ok {b c d : List Int} {h : HS} {k : Nat} (lb : b.length = 4) (lc : c.length = 4) (ld : d.length = 4) (hb : BdL k b) (hc : BdL k c) (hd : BdL k d) (hk : k < 100000) : OK (F_law_minors [.tup (iL b), .tup (iL c), .tup (iL d)] h) fun v h' => ∃ r g, v = .ref r ∧ h' = h ++ g ∧ h.length ≤ r ∧ h'[r]? = some (iL (minL b c d)) := by
  obtain ⟨b0, b1, b2, b3, rfl⟩ := four lb
  obtain ⟨c0, c1, c2, c3, rfl⟩ := four lc
  obtain ⟨d0, d1, d2, d3, rfl⟩ := four ld
  obtain ⟨B0, B1, B2, B3⟩ := bd4 hb
  obtain ⟨C0, C1, C2, C3⟩ := bd4 hc
  obtain ⟨E0, E1, E2, E3⟩ := bd4 hd
  have mm : ∀ {i j : Int}, Bd k i → Bd k j → MulOk i j := fun a b => a.ok b (by omega)
  have m3 : ∀ {x p q r s : Int}, Bd k x → Bd k p → Bd k q → Bd k r → Bd k s → MulOk x (p * q - r * s) := fun a b c d e => a.ok ((b.mul c).sub (d.mul e)) (by omega)
  unfold F_law_minors m_law_minors
  refine ok_run ?_
  repeat walk_at "d"
  refine ⟨by simp, ?_⟩
  repeat walk_at "d"
  refine ⟨by decide, by decide, 4, fun i e h' => (∃ v5 v6 v7 v8 v9, ∃ v4, e = [some (.tup (iL [b0, b1, b2, b3])), some (.tup (iL [c0, c1, c2, c3])), some (.tup (iL [d0, d1, d2, d3])), some (.ref h.length), v4, v5, v6, v7, v8, v9]) ∧ ∃ g, h' = h ++ [iL ((minL [b0, b1, b2, b3] [c0, c1, c2, c3] [d0, d1, d2, d3]).take i)] ++ g, by simp [Src.size], ?_, ?_, ?_⟩
  · exact ⟨⟨none, none, none, none, none, none, rfl⟩, [], by simp [iL]⟩
  · rintro i e h' hi ⟨⟨v5, v6, v7, v8, v9, v4, rfl⟩, g, rfl⟩
    refine ⟨.int (0 + i), by simp [Src.get, hi], ?_⟩
    generalize hH : h ++ [iL ((minL [b0, b1, b2, b3] [c0, c1, c2, c3] [d0, d1, d2, d3]).take i)] ++ g = H
    have fin : ∀ (G : HS) (x : Int), (minL [b0, b1, b2, b3] [c0, c1, c2, c3] [d0, d1, d2, d3])[i]? = some x → (H ++ G)[h.length]? = some (iL ((minL [b0, b1, b2, b3] [c0, c1, c2, c3] [d0, d1, d2, d3]).take i)) ∧ ∃ g, (H ++ G).set h.length (iL ((minL [b0, b1, b2, b3] [c0, c1, c2, c3] [d0, d1, d2, d3]).take i) ++ [.int x]) = h ++ [iL ((minL [b0, b1, b2, b3] [c0, c1, c2, c3] [d0, d1, d2, d3]).take (i + 1))] ++ g := by
      intro G x hx
      refine ⟨?_, g ++ G, ?_⟩
      · rw [← hH, List.append_assoc]; exact getapp2
      · rw [← hH, List.append_assoc, setapp1 rfl, List.take_add_one, hx, il_app]
        rfl
    have hi' : i = 0 ∨ i = 1 ∨ i = 2 ∨ i = 3 := by omega
    have lim : ∀ i, (iL ((minL [b0, b1, b2, b3] [c0, c1, c2, c3] [d0, d1, d2, d3]).take i)).length < 100000 := fun i => by rw [il_len, List.length_take]; have : (minL [b0, b1, b2, b3] [c0, c1, c2, c3] [d0, d1, d2, d3]).length = 4 := rfl; omega
    rcases hi' with rfl | rfl | rfl | rfl
    · refine ⟨_, _, rfl, ?_⟩
      refine sk_seq (sk_asg (others0.imp ?_))
      rintro _ _ ⟨rfl, rfl⟩
      refine ⟨_, _, gUn_ref (getapp (g := [])) rfl rfl, ?_⟩
      refine minor_tail (fun _ => rfl) (fun _ => rfl) (fun _ => rfl) (fun _ => rfl) (fun _ => rfl) (fun _ => rfl) (fun _ => rfl) (fun _ => rfl) (fun _ => rfl) (by assumption) (by assumption) (by assumption) (by assumption) (by assumption) (by assumption) (by assumption) (by assumption) (by assumption) hk rfl (fin _ _ rfl).1 (lim _) fun v5 => ⟨⟨_, _, _, _, _, _, rfl⟩, (fin _ _ rfl).2⟩
    · refine ⟨_, _, rfl, ?_⟩
      refine sk_seq (sk_asg (others1.imp ?_))
      rintro _ _ ⟨rfl, rfl⟩
      refine ⟨_, _, gUn_ref (getapp (g := [])) rfl rfl, ?_⟩
      refine minor_tail (fun _ => rfl) (fun _ => rfl) (fun _ => rfl) (fun _ => rfl) (fun _ => rfl) (fun _ => rfl) (fun _ => rfl) (fun _ => rfl) (fun _ => rfl) (by assumption) (by assumption) (by assumption) (by assumption) (by assumption) (by assumption) (by assumption) (by assumption) (by assumption) hk rfl (fin _ _ rfl).1 (lim _) fun v5 => ⟨⟨_, _, _, _, _, _, rfl⟩, (fin _ _ rfl).2⟩
    · refine ⟨_, _, rfl, ?_⟩
      refine sk_seq (sk_asg (others2.imp ?_))
      rintro _ _ ⟨rfl, rfl⟩
      refine ⟨_, _, gUn_ref (getapp (g := [])) rfl rfl, ?_⟩
      refine minor_tail (fun _ => rfl) (fun _ => rfl) (fun _ => rfl) (fun _ => rfl) (fun _ => rfl) (fun _ => rfl) (fun _ => rfl) (fun _ => rfl) (fun _ => rfl) (by assumption) (by assumption) (by assumption) (by assumption) (by assumption) (by assumption) (by assumption) (by assumption) (by assumption) hk rfl (fin _ _ rfl).1 (lim _) fun v5 => ⟨⟨_, _, _, _, _, _, rfl⟩, (fin _ _ rfl).2⟩
    · refine ⟨_, _, rfl, ?_⟩
      refine sk_seq (sk_asg (others3.imp ?_))
      rintro _ _ ⟨rfl, rfl⟩
      refine ⟨_, _, gUn_ref (getapp (g := [])) rfl rfl, ?_⟩
      refine minor_tail (fun _ => rfl) (fun _ => rfl) (fun _ => rfl) (fun _ => rfl) (fun _ => rfl) (fun _ => rfl) (fun _ => rfl) (fun _ => rfl) (fun _ => rfl) (by assumption) (by assumption) (by assumption) (by assumption) (by assumption) (by assumption) (by assumption) (by assumption) (by assumption) hk rfl (fin _ _ rfl).1 (lim _) fun v5 => ⟨⟨_, _, _, _, _, _, rfl⟩, (fin _ _ rfl).2⟩
  · rintro e h' ⟨⟨v5, v6, v7, v8, v9, v4, rfl⟩, g, rfl⟩
    refine ⟨by simp [Src.get], ?_⟩
    repeat walk_at "d"
    exact ⟨h.length, [iL (minL [b0, b1, b2, b3] [c0, c1, c2, c3] [d0, d1, d2, d3])] ++ g, rfl, by simp [minL], Nat.le_refl _, by simp [minL]⟩

end LA

set_option maxHeartbeats 4000000
namespace LA
open PySem L2 PySem.Spec PI
local macro_rules | `(tactic| walk_at "b") => `(tactic| first
  | with_reducible assumption
  | (with_reducible refine Bd.mul ?_ ?_) <;> walk_at "b"
  | (with_reducible refine Bd.sub ?_ ?_) <;> walk_at "b"
  | (with_reducible refine Bd.add ?_ ?_) <;> walk_at "b"
  | (with_reducible refine Bd.neg ?_) <;> walk_at "b"
  | exact natAbs_lt (k := 40) (by decide))
local macro_rules | `(tactic| walk_at "m") => `(tactic| (apply Bd.ok <;> first | walk_at "b" | decide))
local macro_rules | `(tactic| walk_at "p") => `(tactic| (first | exact pre_self | assumption | (refine pre_app ?_; walk_at "p")))
local macro_rules | `(tactic| walk_at "e") => `(tactic| first
  | refine ⟨_, _, opMul_i (.inl ⟨by decide, by decide⟩), ?_⟩
  | refine ⟨_, _, opMul_i (.inr (.inl ⟨by decide, by decide⟩)), ?_⟩
  | (refine ⟨_, _, opMul_i ?_, ?_⟩; · walk_at "m")
  | refine ⟨_, _, rfl, ?_⟩
  | refine ⟨_, rfl, ?_⟩
  | refine ⟨rfl, ?_⟩
  | refine ⟨rfl, rfl, ?_⟩)
local macro_rules | `(tactic| walk_at "d") => `(tactic| first
  | with_reducible refine ok_c ?_
  | with_reducible refine ok_var rfl ?_
  | with_reducible refine ok_op ?_
  | with_reducible refine ok_un ?_
  | with_reducible refine ok_nil ?_
  | with_reducible refine ok_cons ?_
  | with_reducible refine ok_tup ?_
  | with_reducible refine ok_lst ?_
  | with_reducible refine ok_cb ?_
  | with_reducible refine ok_call ?_
  | with_reducible refine ok_callK ?_
  | with_reducible refine ok_sl ?_
  | with_reducible refine ok_nopart ?_
  | with_reducible refine ok_part ?_
  | with_reducible refine ok_B ?_
  | with_reducible refine ok_andT ?_
  | with_reducible refine ok_orT ?_
  | with_reducible refine ok_notT ?_
  | with_reducible refine ok_and ?_
  | with_reducible refine ok_or ?_
  | with_reducible refine ok_not ?_
  | with_reducible refine ok_if ?_
  | with_reducible refine ok_app ?_
  | with_reducible refine ok_lc ?_
  | with_reducible refine ok_yes ?_
  | with_reducible refine ok_src ?_
  | with_reducible refine ok_rng1 ?_
  | with_reducible refine ok_rng2 ?_
  | with_reducible refine ok_zip ?_
  | with_reducible refine sk_nil ?_
  | with_reducible refine sk_seq ?_
  | with_reducible refine sk_ret ?_
  | with_reducible refine sk_drop ?_
  | with_reducible refine sk_if ?_
  | with_reducible refine sk_asg ?_
  | with_reducible refine sk_par ?_
  | with_reducible refine sk_par3 ?_
  | with_reducible refine sk_for ?_
  | with_reducible refine ⟨_, _, gNm1, ?_⟩
  | with_reducible refine ⟨_, _, gUn2, ?_⟩
  | with_reducible refine ⟨_, _, gUn3, ?_⟩
  | with_reducible refine ⟨_, _, opSub_i, ?_⟩
  | with_reducible refine ⟨_, _, opAdd_i, ?_⟩
  | with_reducible refine ⟨_, _, opNe_i, ?_⟩
  | with_reducible refine ⟨_, _, opEq_i, ?_⟩
  | with_reducible refine ⟨_, _, opMod_i (by decide), ?_⟩
  | with_reducible refine ⟨_, _, opDiv_i ⟨by decide, by decide⟩, ?_⟩
  | ((with_reducible refine And.intro ?_ ?_); · rfl)
  | ((fail_if_success (with_reducible refine And.intro ?_ ?_)); (fail_if_success (with_reducible refine OK.imp (Q := fun _ _ => True) ?_ ?_)); (fail_if_success (with_reducible refine SOK.imp (Qn := fun _ _ => True) (Qr := fun _ _ => True) ?_ ?_ ?_)); walk_at "e"))

open PK
def tL (rows : List (List Int)) : List D := rows.map fun p => .tup (iL p)
theorem opLen_ref {a m : Nat} {h : HS} {l : List D} (q : h[a]? = some l) (hm : l.length = m) : opLen [.ref a] h = some (.int (m : Nat), h) := by
  show ((h[a]?).map fun l => l.length).bind _ = _
  rw [q, ← hm]
  rfl
theorem sum_le {B : Nat} : ∀ {ys : List Int}, (∀ y ∈ ys, y.natAbs ≤ B) → ys.sum.natAbs ≤ ys.length * B
  | [], _ => Nat.zero_le _
  | y :: ys, h => by
    have a := h y (by simp)
    have b := sum_le fun z hz => h z (List.mem_cons_of_mem _ hz)
    rw [List.sum_cons, List.length_cons, Nat.add_mul, Nat.one_mul]
    omega
theorem mixed_ok {n R k : Nat} {rows : List (List Int)} {h : HS} (W : Well n h) (hn : R ≠ n) (q : h[R]? = some (tL rows)) (h1 : 1 ≤ rows.length) (h3 : rows.length ≤ 3) (P : ∀ p ∈ rows, IsPt p ∧ BdL k p) (hk : k < 5000) : OK (F_law_mixed [.ref n, .ref R] h) fun v h' => Ext n h h' ∧ ∃ p, v = .tup (iL p) ∧ IsPt p ∧ BdL (k + 4) p := by
  have hl : (tL rows).length = rows.length := by simp [tL]
  have wl := W.lt
  have Rl := (List.getElem?_eq_some_iff.mp q).1
  have rget : ∀ {i : Nat} {p : List Int}, rows[i]? = some p → (tL rows)[i]? = some (.tup (iL p)) := fun {i p} e => by
    unfold tL
    rw [List.getElem?_map, e]
    rfl
  obtain ⟨K, hK⟩ : ∃ K : Int, K = (rows.length : Nat) := ⟨_, rfl⟩
  have len_ok : ∀ {h : HS}, h[R]? = some (tL rows) → opLen [.ref R] h = some (.int K, h) := fun q => by rw [hK]; exact opLen_ref q hl
  unfold F_law_mixed m_law_mixed
  refine ok_run ?_
  refine sk_seq (sk_asg (ok_call (ok_cons (ok_var rfl (ok_cons (ok_cb (ok_cons (ok_var rfl (ok_nil ?_)))))))))
  refine ⟨.int K, h, len_ok q, ?_⟩
  refine ok_cons (ok_c (ok_nil ⟨rfl, ?_⟩))
  refine (row_ok (m := 3) W (Nat.le_trans h3 (by decide)) (by decide) hK rfl).imp ?_
  rintro _ h2 ⟨E2, r, fs, rfl, rl, qf, fl, fb⟩
  refine ⟨_, _, rfl, ?_⟩
  have q2 := E2.at q hn
  have rl2 := (List.getElem?_eq_some_iff.mp qf).1
  have Rl2 := (List.getElem?_eq_some_iff.mp q2).1
  have key : ∀ x : Int, x.natAbs ≤ 3 * (3 * 2 ^ k) → Bd (k + 4) x := fun x hx => by
    unfold Bd
    rw [Nat.pow_add]
    have := Nat.two_pow_pos k
    omega
  refine sk_seq (sk_asg (ok_lc (ok_rng1 (ok_cons (ok_c (ok_nil ⟨4, rfl, by decide, by decide, 4, fun i h' => ∃ xs g, h' = h2 ++ [iL xs] ++ g ∧ xs.length = i ∧ BdL (k + 4) xs, Nat.le_refl _, ⟨[], [], by simp [iL], rfl, bdl_nil⟩, ?_, ?_⟩))))))
  · rintro i h' hi ⟨xs, g, rfl, xl, xb⟩
    refine ⟨.int (i : Nat), by simp [Src.get, hi], _, _, rfl, ok_yes ⟨fun _ => ?_, fun c => (by cases c)⟩⟩
    have qR : ∀ G : HS, (h2 ++ [iL xs] ++ g ++ G)[R]? = some (tL rows) := fun G => by
      rw [List.append_assoc, List.append_assoc, List.getElem?_append_left Rl2, q2]
    have qr : ∀ G : HS, (h2 ++ [iL xs] ++ g ++ G)[r]? = some (iL fs) := fun G => by
      rw [List.append_assoc, List.append_assoc, List.getElem?_append_left rl2, qf]
    refine ok_cb (ok_cons (ok_lc (ok_rng1 (ok_cons (ok_cb (ok_cons (ok_var rfl (ok_nil ?_))))))))
    refine ⟨.int K, _, len_ok (by have := qR []; rw [List.append_nil] at this; exact this), ?_⟩
    refine ok_nil ⟨_, rfl, by omega, by omega, rows.length, fun j h' => ∃ ys, h' = h2 ++ [iL xs] ++ g ++ [iL ys] ∧ ys.length = j ∧ ∀ y ∈ ys, y.natAbs ≤ 3 * 2 ^ k, by show rows.length ≤ K.toNat; omega, ⟨[], by simp [iL], rfl, by simp⟩, ?_, ?_⟩
    · rintro j _ hj ⟨ys, rfl, yl, yb⟩
      obtain ⟨p, hp⟩ := get_lt (l := rows) (i := j) hj
      obtain ⟨f, hf⟩ := get_lt (l := fs) (i := j) (by omega)
      have pm := P p (List.mem_of_getElem? hp)
      obtain ⟨x, hx⟩ := get_lt (l := p) (i := i) (by rw [pm.1.len]; omega)
      refine ⟨.int (j : Nat), by simp [Src.get]; omega, _, _, rfl, ok_yes ⟨fun _ => ?_, fun c => (by cases c)⟩⟩
      refine ok_op (ok_op (ok_var rfl (ok_var rfl ?_)))
      refine ⟨_, _, opIx_r (qr _) (PI.atI_nat (il_get hf)), ?_⟩
      refine ok_op (ok_op (ok_var rfl (ok_var rfl ?_)))
      refine ⟨_, _, opIx_r (qR _) (PI.atI_nat (rget hp)), ?_⟩
      refine ok_var rfl ?_
      refine ⟨_, _, opIx_t (PI.atI_nat (il_get hx)), ?_⟩
      have fb3 : f.natAbs ≤ 3 := fb f (List.mem_of_getElem? hf)
      have xb3 : x.natAbs < 2 ^ k := pm.2 x (List.mem_of_getElem? hx)
      have fb2 : Bd 10 f := bd10 fb3 (by decide)
      refine ⟨_, _, opMul_i (fb2.ok (show Bd k x from xb3) (by omega)), ?_⟩
      refine ⟨_, getapp (g := []), by rw [il_len]; omega, ys ++ [f * x], ?_, by simp [yl], ?_⟩
      · rw [setapp, ← il_snoc]
      · intro y hy
        rcases List.mem_append.mp hy with c | c
        · exact yb y c
        · rw [List.mem_singleton.mp c, Int.natAbs_mul]
          exact Nat.mul_le_mul fb3 (Nat.le_of_lt xb3)
    · rintro _ ⟨ys, rfl, yl, yb⟩
      refine ⟨by simp [Src.get]; omega, ok_nil ?_⟩
      refine ⟨_, _, sum_eq (getapp (g := [])), ?_⟩
      refine ⟨iL xs, by rw [List.append_assoc]; exact getapp2, by rw [il_len]; omega, xs ++ [ys.sum], g ++ [iL ys], ?_, by simp [xl], ?_⟩
      · rw [List.append_assoc, setapp1 rfl, ← il_snoc]
      · refine xb.app ?_
        refine bdl_cons (key _ ?_) bdl_nil
        refine Nat.le_trans (sum_le yb) ?_
        exact Nat.mul_le_mul_right _ (by omega)
  · rintro h' ⟨xs, g, rfl, xl, xb⟩
    refine ⟨by simp [Src.get], _, _, rfl, ?_⟩
    have qx : ∀ G : HS, (h2 ++ [iL xs] ++ g ++ G)[h2.length]? = some (iL xs) := fun G => by rw [List.append_assoc]; exact getapp2
    have E3 : Ext n h (h2 ++ [iL xs] ++ g ++ [iL [0, 0, 0, 0]]) := by
      rw [List.append_assoc, List.append_assoc]
      exact E2.trans (Ext.app E2.well)
    refine sk_ret (ok_if (ok_B (ok_op (ok_var rfl (ok_lst ?_)))))
    repeat walk_at "d"
    refine ⟨by simp, ?_⟩
    refine ⟨_, _, opNe_rl (a := xs) (b := [0, 0, 0, 0]) (qx _) (getapp (g := [])), _, rfl, fun c => ?_, fun c => ?_⟩
    · refine ok_call (ok_cons (ok_var rfl (ok_nil ⟨rfl, ?_⟩)))
      refine (reduced_ref (qx _) (by omega) xb (by omega)).imp ?_
      rintro _ _ ⟨rfl, g, rfl⟩
      have nz : Nz xs := nz_ne (by rw [xl]; simpa using c)
      exact ⟨E3.trans (Ext.app E3.well), _, rfl, ⟨by rw [redF_len, xl], red_redF nz⟩, redF_bd xb⟩
    · obtain ⟨p, hp⟩ := get_lt (l := rows) (i := 0) (by omega)
      have pm := P p (List.mem_of_getElem? hp)
      refine ok_call (ok_cons (ok_op (ok_var rfl (ok_c ⟨_, _, opIx_r (l := tL rows) (d := .tup (iL p)) ?_ (PI.atI_nat (a := 0) (rget hp)), ok_nil ⟨rfl, ?_⟩⟩))))
      · rw [List.append_assoc, List.append_assoc, List.getElem?_append_left Rl2, q2]
      refine (reduced_ok (by rw [pm.1.len]; decide) pm.2 (by omega)).imp ?_
      rintro _ _ ⟨rfl, g, rfl⟩
      exact ⟨E3.trans (Ext.app E3.well), _, rfl, ⟨by rw [redF_len, pm.1.len], red_redF pm.1.red.nz⟩, redF_bd (pm.2.mono (by omega))⟩
theorem second_ok {n : Nat} {one two : List Int} {h : HS} (W : Well n h) (A : IsPt one) (B : IsPt two) (ba : BdL 10 one) (bb : BdL 10 two) (hn : one ≠ two) : OK (F_law_second [.ref n, .tup (iL one), .tup (iL two)] h) fun v h' => Ext n h h' ∧ ∃ c d, v = .tup [.tup (iL c), .tup (iL d)] ∧ IsPt c ∧ IsPt d ∧ BdL 18 c ∧ BdL 18 d ∧ c ≠ d := by
  have hw := W.lt
  unfold F_law_second m_law_second
  refine ok_run ?_
  refine sk_seq (sk_par (ok_cons (ok_call (ok_cons (ok_var rfl (ok_cons (ok_c (ok_nil ⟨rfl, ?_⟩))))))))
  refine (drawE W (by decide) (by decide)).imp ?_
  rintro _ h1 ⟨i, rfl, i0, i1, E1, L1⟩
  refine ok_cons (ok_call (ok_cons (ok_var rfl (ok_nil ⟨rfl, ?_⟩))))
  refine (place_ok E1.well).imp ?_
  rintro _ h2 ⟨E2, p, rfl, P, bp⟩
  refine ok_nil ⟨_, _, rfl, ?_⟩
  have E12 := E1.trans E2
  have last : ∀ (c d : List Int) (h5 : HS), Ext n h h5 → IsPt c → IsPt d → BdL 18 c → BdL 18 d → SOK ((sSeq (sIf (dB (dOp opEq (dVar 3) (dVar 5))) (sAsg (dIf (dB (dOp opNe (dVar 5) (dVar 1))) (dVar 1) (dVar 2)) (gNm 3)) sNil)
    (sRet (dTup (dCons (dVar 5) (dCons (dVar 3) dNil))))) [some (.ref n), some (.tup (iL one)), some (.tup (iL two)), some (.tup (iL d)), some (.int i), some (.tup (iL c))] h5) (fun _ h_1 => Ext n h h_1 ∧ ∃ c d, D.non = .tup [.tup (iL c), .tup (iL d)] ∧ IsPt c ∧ IsPt d ∧ BdL 18 c ∧ BdL 18 d ∧ c ≠ d) fun v h' => Ext n h h' ∧ ∃ c d, v = .tup [.tup (iL c), .tup (iL d)] ∧ IsPt c ∧ IsPt d ∧ BdL 18 c ∧ BdL 18 d ∧ c ≠ d := by
    intro c d h5 E C D' bc bd
    refine sk_seq (sk_if (ok_B (ok_op (ok_var rfl (ok_var rfl ⟨_, _, opEq_il, _, rfl, fun z => ?_, fun z => ?_⟩)))))
    · refine sk_asg (ok_if (ok_B (ok_op (ok_var rfl (ok_var rfl ⟨_, _, opNe_il, _, rfl, fun y => ?_, fun y => ?_⟩)))))
      · have y : c ≠ one := by simpa using y
        refine ok_var rfl ⟨_, _, rfl, sk_ret (ok_tup (ok_cons (ok_var rfl (ok_cons (ok_var rfl (ok_nil ⟨by simp, E, c, one, rfl, C, A, bc, ba.mono (by decide), y⟩))))))⟩
      · have y : c = one := by simpa using y
        refine ok_var rfl ⟨_, _, rfl, sk_ret (ok_tup (ok_cons (ok_var rfl (ok_cons (ok_var rfl (ok_nil ⟨by simp, E, c, two, rfl, C, B, bc, bb.mono (by decide), by rw [y]; exact hn⟩))))))⟩
    · have z : d ≠ c := by simpa using z
      exact sk_nil (sk_ret (ok_tup (ok_cons (ok_var rfl (ok_cons (ok_var rfl (ok_nil ⟨by simp, E, c, d, rfl, C, D', bc, bd, fun y => z y.symm⟩)))))))
  have mid : ∀ (c : List Int) (h3 : HS), Ext n h h3 → IsPt c → BdL 14 c → SOK ((sSeq (sAsg (dCall 2 F_law_unlike (dCons (dVar 0) (dCons (dVar 5) dNil))) (gNm 3))
    (sSeq (sIf (dB (dOp opIn (dVar 4) (dTup (dCons (dC (.int 1)) (dCons (dC (.int 2)) dNil))))) (sAsg (dCall 2 F_law_mixed (dCons (dVar 0) (dCons (dLst (dCons (dVar 1) (dCons (dVar 2) (dCons (dVar 5) dNil)))) dNil))) (gNm 3)) sNil)
    (sSeq (sIf (dB (dOp opEq (dVar 3) (dVar 5))) (sAsg (dIf (dB (dOp opNe (dVar 5) (dVar 1))) (dVar 1) (dVar 2)) (gNm 3)) sNil)
    (sRet (dTup (dCons (dVar 5) (dCons (dVar 3) dNil))))))) [some (.ref n), some (.tup (iL one)), some (.tup (iL two)), none, some (.int i), some (.tup (iL c))] h3) (fun _ h_1 => Ext n h h_1 ∧ ∃ c d, D.non = .tup [.tup (iL c), .tup (iL d)] ∧ IsPt c ∧ IsPt d ∧ BdL 18 c ∧ BdL 18 d ∧ c ≠ d) fun v h' => Ext n h h' ∧ ∃ c d, v = .tup [.tup (iL c), .tup (iL d)] ∧ IsPt c ∧ IsPt d ∧ BdL 18 c ∧ BdL 18 d ∧ c ≠ d := by
    intro c h3 E3 C bc
    refine sk_seq (sk_asg (ok_call (ok_cons (ok_var rfl (ok_cons (ok_var rfl (ok_nil ⟨rfl, ?_⟩)))))))
    refine (unlike_ok E3.well).imp ?_
    rintro _ h4 ⟨E4, d, rfl, D', bd, ne⟩
    have E34 := E3.trans E4
    refine ⟨_, _, rfl, ?_⟩
    refine sk_seq (sk_if (ok_B (ok_op (ok_var rfl (ok_tup (ok_cons (ok_c (ok_cons (ok_c (ok_nil ⟨by simp, ?_⟩))))))))))
    refine ⟨_, _, rfl, _, rfl, fun z => ?_, fun z => ?_⟩
    · refine sk_asg (ok_call (ok_cons (ok_var rfl (ok_cons (ok_lst (ok_cons (ok_var rfl (ok_cons (ok_var rfl (ok_cons (ok_var rfl (ok_nil ⟨by simp, ?_⟩))))))))))))
      refine ok_nil ⟨rfl, ?_⟩
      have W4 := E34.well.lt
      refine (mixed_ok (k := 14) (rows := [one, two, c]) (Ext.app E34.well).well (by omega) (getapp (g := [])) (by simp) (by simp) ?_ (by decide)).imp ?_
      · intro p hp
        simp only [List.mem_cons, List.not_mem_nil, or_false] at hp
        rcases hp with rfl | rfl | rfl
        · exact ⟨A, ba.mono (by decide)⟩
        · exact ⟨B, bb.mono (by decide)⟩
        · exact ⟨C, bc⟩
      rintro _ h5 ⟨E5, d2, rfl, D2, bd2⟩
      refine ⟨_, _, rfl, ?_⟩
      exact last c d2 h5 ((E34.trans (Ext.app E34.well)).trans E5) C D2 (bc.mono (by decide)) bd2
    · exact sk_nil (last c d h4 E34 C D' (bc.mono (by decide)) (bd.mono (by decide)))
  refine sk_seq (sk_if (ok_B (ok_op (ok_var rfl (ok_c ⟨_, _, opEq_i, _, rfl, fun z => ?_, fun z => ?_⟩)))))
  · refine sk_asg (ok_call (ok_cons (ok_var rfl (ok_cons (ok_lst (ok_cons (ok_var rfl (ok_cons (ok_var rfl (ok_nil ⟨by simp, ?_⟩))))))))))
    refine ok_nil ⟨rfl, ?_⟩
    have W4 := E12.well.lt
    refine (mixed_ok (k := 10) (rows := [one, two]) (Ext.app E12.well).well (by omega) (getapp (g := [])) (by simp) (by simp) ?_ (by decide)).imp ?_
    · intro p hp
      simp only [List.mem_cons, List.not_mem_nil, or_false] at hp
      rcases hp with rfl | rfl
      · exact ⟨A, ba⟩
      · exact ⟨B, bb⟩
    rintro _ h5 ⟨E5, c, rfl, C, bc⟩
    refine ⟨_, _, rfl, ?_⟩
    exact mid c h5 ((E12.trans (Ext.app E12.well)).trans E5) C bc
  · exact sk_nil (mid p h2 E12 P (bp.mono (by decide)))

end LA

set_option maxHeartbeats 4000000
namespace LA
open PySem L2 PySem.Spec PI
local macro_rules | `(tactic| walk_at "b") => `(tactic| first
  | with_reducible assumption
  | (with_reducible refine Bd.mul ?_ ?_) <;> walk_at "b"
  | (with_reducible refine Bd.sub ?_ ?_) <;> walk_at "b"
  | (with_reducible refine Bd.add ?_ ?_) <;> walk_at "b"
  | (with_reducible refine Bd.neg ?_) <;> walk_at "b"
  | exact natAbs_lt (k := 40) (by decide))
local macro_rules | `(tactic| walk_at "m") => `(tactic| (apply Bd.ok <;> first | walk_at "b" | decide))
local macro_rules | `(tactic| walk_at "p") => `(tactic| (first | exact pre_self | assumption | (refine pre_app ?_; walk_at "p")))
local macro_rules | `(tactic| walk_at "e") => `(tactic| first
  | refine ⟨_, _, opMul_i (.inl ⟨by decide, by decide⟩), ?_⟩
  | refine ⟨_, _, opMul_i (.inr (.inl ⟨by decide, by decide⟩)), ?_⟩
  | (refine ⟨_, _, opMul_i ?_, ?_⟩; · walk_at "m")
  | refine ⟨_, _, rfl, ?_⟩
  | refine ⟨_, rfl, ?_⟩
  | refine ⟨rfl, ?_⟩
  | refine ⟨rfl, rfl, ?_⟩)
local macro_rules | `(tactic| walk_at "d") => `(tactic| first
  | with_reducible refine ok_c ?_
  | with_reducible refine ok_var rfl ?_
  | with_reducible refine ok_op ?_
  | with_reducible refine ok_un ?_
  | with_reducible refine ok_nil ?_
  | with_reducible refine ok_cons ?_
  | with_reducible refine ok_tup ?_
  | with_reducible refine ok_lst ?_
  | with_reducible refine ok_cb ?_
  | with_reducible refine ok_call ?_
  | with_reducible refine ok_callK ?_
  | with_reducible refine ok_sl ?_
  | with_reducible refine ok_nopart ?_
  | with_reducible refine ok_part ?_
  | with_reducible refine ok_B ?_
  | with_reducible refine ok_andT ?_
  | with_reducible refine ok_orT ?_
  | with_reducible refine ok_notT ?_
  | with_reducible refine ok_and ?_
  | with_reducible refine ok_or ?_
  | with_reducible refine ok_not ?_
  | with_reducible refine ok_if ?_
  | with_reducible refine ok_app ?_
  | with_reducible refine ok_lc ?_
  | with_reducible refine ok_yes ?_
  | with_reducible refine ok_src ?_
  | with_reducible refine ok_rng1 ?_
  | with_reducible refine ok_rng2 ?_
  | with_reducible refine ok_zip ?_
  | with_reducible refine sk_nil ?_
  | with_reducible refine sk_seq ?_
  | with_reducible refine sk_ret ?_
  | with_reducible refine sk_drop ?_
  | with_reducible refine sk_if ?_
  | with_reducible refine sk_asg ?_
  | with_reducible refine sk_par ?_
  | with_reducible refine sk_par3 ?_
  | with_reducible refine sk_for ?_
  | with_reducible refine ⟨_, _, gNm1, ?_⟩
  | with_reducible refine ⟨_, _, gUn2, ?_⟩
  | with_reducible refine ⟨_, _, gUn3, ?_⟩
  | with_reducible refine ⟨_, _, opSub_i, ?_⟩
  | with_reducible refine ⟨_, _, opAdd_i, ?_⟩
  | with_reducible refine ⟨_, _, opNe_i, ?_⟩
  | with_reducible refine ⟨_, _, opEq_i, ?_⟩
  | with_reducible refine ⟨_, _, opMod_i (by decide), ?_⟩
  | with_reducible refine ⟨_, _, opDiv_i ⟨by decide, by decide⟩, ?_⟩
  | ((with_reducible refine And.intro ?_ ?_); · rfl)
  | ((fail_if_success (with_reducible refine And.intro ?_ ?_)); (fail_if_success (with_reducible refine OK.imp (Q := fun _ _ => True) ?_ ?_)); (fail_if_success (with_reducible refine SOK.imp (Qn := fun _ _ => True) (Qr := fun _ _ => True) ?_ ?_ ?_)); walk_at "e"))

open PK
def uL : List (List Int) := [[1, 0, 0, 0], [0, 1, 0, 0], [0, 0, 1, 0], [0, 0, 0, 1]]
theorem units_ok {h : HS} : OK (F_law_units [] h) fun v h' => v = .tup (tL uL) ∧ h' = h := by
  unfold F_law_units m_law_units
  refine ok_run ?_
  repeat walk_at "d"
  refine ⟨by simp, ?_⟩
  repeat walk_at "d"
  refine ⟨by simp, ?_⟩
  repeat walk_at "d"
  refine ⟨by simp, ?_⟩
  repeat walk_at "d"
  refine ⟨by simp, ?_⟩
  repeat walk_at "d"
  exact ⟨by simp, rfl, rfl⟩
theorem dotg {a b : List Int} (la : a.length = 4) (lb : b.length = 4) : dotL a b = gI a 0 * gI b 0 + gI a 1 * gI b 1 + gI a 2 * gI b 2 + gI a 3 * gI b 3 := by
  obtain ⟨a0, a1, a2, a3, rfl⟩ := four la
  obtain ⟨b0, b1, b2, b3, rfl⟩ := four lb
  rw [dot4]
  rfl
theorem dot_back {a m : List Int} (la : a.length = 4) (lm : m.length = 4) (nz : Nz m) : dotL a m = facN m * dotL a (redF m) := by
  rw [dotg la lm, dotg la (by rw [redF_len, lm]), gI_back nz 0, gI_back nz 1, gI_back nz 2, gI_back nz 3]
  grind
def rowsL (a b : List Int) : List (List Int) := uL.map (minL a b)
theorem rows_zero {a b m : List Int} (la : a.length = 4) (lb : b.length = 4) (hm : m ∈ rowsL a b) : m.length = 4 ∧ dotL a m = 0 ∧ dotL b m = 0 := by
  obtain ⟨u, hu, rfl⟩ := List.mem_map.mp hm
  refine ⟨rfl, ?_, ?_⟩
  · rw [dotg la rfl]
    simp only [minL, gI, List.getD_cons_zero, List.getD_cons_succ]
    grind
  · rw [dotg lb rfl]
    simp only [minL, gI, List.getD_cons_zero, List.getD_cons_succ]
    grind
theorem red_ne {m m' : List Int} {k : Nat} (n1 : Nz m) (n2 : Nz m') (z : gI m k = 0) (z' : gI m' k ≠ 0) : redF m ≠ redF m' := by
  intro e
  rw [gI_back n1 k, e] at z
  have := zero_of_mul (facN_nz n1) z
  rw [gI_back n2 k, this] at z'
  simp at z'
theorem nz_gI {m : List Int} {k : Nat} (z : gI m k ≠ 0) : Nz m := by
  unfold gI at z
  rw [List.getD_eq_getElem?_getD] at z
  cases q : m[k]? with
  | none => rw [q] at z; exact absurd rfl z
  | some x => rw [q] at z; exact ⟨x, List.mem_of_getElem? q, z⟩
theorem two_of {a b u u' : List Int} {k l : Nat} (hu : u ∈ uL) (hu' : u' ∈ uL) (z1 : gI (minL a b u) k = 0) (z2 : gI (minL a b u') k ≠ 0) (z3 : gI (minL a b u) l ≠ 0) : ∃ m ∈ rowsL a b, ∃ m' ∈ rowsL a b, Nz m ∧ Nz m' ∧ redF m ≠ redF m' :=
  ⟨_, List.mem_map.mpr ⟨u, hu, rfl⟩, _, List.mem_map.mpr ⟨u', hu', rfl⟩, nz_gI z3, nz_gI z2, red_ne (nz_gI z3) (nz_gI z2) z1 z2⟩
theorem two_rows {a b : List Int} (A : IsPt a) (B : IsPt b) (hn : a ≠ b) : ∃ m ∈ rowsL a b, ∃ m' ∈ rowsL a b, Nz m ∧ Nz m' ∧ redF m ≠ redF m' := by
  obtain ⟨x, hx, x0⟩ := line_nz A B hn
  have u0 : [1, 0, 0, 0] ∈ uL := by simp [uL]
  have u1 : [0, 1, 0, 0] ∈ uL := by simp [uL]
  have u2 : [0, 0, 1, 0] ∈ uL := by simp [uL]
  have u3 : [0, 0, 0, 1] ∈ uL := by simp [uL]
  simp only [lineL, List.mem_cons, List.not_mem_nil, or_false] at hx
  rcases hx with rfl | rfl | rfl | rfl | rfl | rfl
  · refine two_of (k := 2) (l := 3) u2 u3 ?_ ?_ ?_ <;> (simp only [minL, gI, List.getD_cons_zero, List.getD_cons_succ] at x0 ⊢; grind)
  · refine two_of (k := 1) (l := 3) u1 u3 ?_ ?_ ?_ <;> (simp only [minL, gI, List.getD_cons_zero, List.getD_cons_succ] at x0 ⊢; grind)
  · refine two_of (k := 1) (l := 2) u1 u2 ?_ ?_ ?_ <;> (simp only [minL, gI, List.getD_cons_zero, List.getD_cons_succ] at x0 ⊢; grind)
  · refine two_of (k := 0) (l := 1) u0 u1 ?_ ?_ ?_ <;> (simp only [minL, gI, List.getD_cons_zero, List.getD_cons_succ] at x0 ⊢; grind)
  · refine two_of (k := 0) (l := 2) u0 u2 ?_ ?_ ?_ <;> (simp only [minL, gI, List.getD_cons_zero, List.getD_cons_succ] at x0 ⊢; grind)
  · refine two_of (k := 0) (l := 3) u0 u3 ?_ ?_ ?_ <;> (simp only [minL, gI, List.getD_cons_zero, List.getD_cons_succ] at x0 ⊢; grind)
theorem min_bd {b c d : List Int} {k : Nat} (hb : BdL k b) (hc : BdL k c) (hd : BdL k d) : BdL (3 * k + 10) (minL b c d) := by
  have m : ∀ i j l p q, Bd (3 * k + 5) (gI b i * (gI c j * gI d l - gI c p * gI d q)) := fun i j l p q => ((gI_bd hb i).mul (((gI_bd hc j).mul (gI_bd hd l)).sub ((gI_bd hc p).mul (gI_bd hd q)))).mono (by omega)
  have s : ∀ {x y z : Int}, Bd (3 * k + 5) x → Bd (3 * k + 5) y → Bd (3 * k + 5) z → Bd (3 * k + 10) (x - y + z) := fun a b c => ((a.sub b).add c).mono (by omega)
  intro x hx
  simp only [minL, List.mem_cons, List.not_mem_nil, or_false] at hx
  rcases hx with rfl | rfl | rfl | rfl
  · exact s (m _ _ _ _ _) (m _ _ _ _ _) (m _ _ _ _ _)
  · exact (s (m _ _ _ _ _) (m _ _ _ _ _) (m _ _ _ _ _)).neg
  · exact s (m _ _ _ _ _) (m _ _ _ _ _) (m _ _ _ _ _)
  · exact (s (m _ _ _ _ _) (m _ _ _ _ _) (m _ _ _ _ _)).neg
def notZ (m : List Int) : Bool := !(m == [0, 0, 0, 0])
def keptL (rows : List (List Int)) : List (List Int) := (rows.filter notZ).map redF
theorem kept_take {rows : List (List Int)} {i : Nat} {m : List Int} (h : rows[i]? = some m) : keptL (rows.take (i + 1)) = if notZ m then keptL (rows.take i) ++ [redF m] else keptL (rows.take i) := by
  unfold keptL
  rw [List.take_add_one, h, Option.toList_some, List.filter_append, List.map_append]
  cases c : notZ m <;> simp [List.filter, c]
theorem filter_take {rows : List (List Int)} {f : List Int → Bool} {i : Nat} {m : List Int} (h : rows[i]? = some m) : (rows.take (i + 1)).filter f = if f m then (rows.take i).filter f ++ [m] else (rows.take i).filter f := by
  rw [List.take_add_one, h, Option.toList_some, List.filter_append]
  cases c : f m <;> simp [List.filter, c]
theorem tl_snoc {rows : List (List Int)} {m : List Int} : tL rows ++ [.tup (iL m)] = tL (rows ++ [m]) := by simp [tL]
theorem tl_len {rows : List (List Int)} : (tL rows).length = rows.length := by simp [tL]
theorem tl_get {rows : List (List Int)} {i : Nat} {m : List Int} (h : rows[i]? = some m) : (tL rows)[i]? = some (.tup (iL m)) := by
  unfold tL
  rw [List.getElem?_map, h]
  rfl
theorem two_with_ok {a b : List Int} {h : HS} {k : Nat} (A : IsPt a) (B : IsPt b) (hn : a ≠ b) (ba : BdL k a) (bb : BdL k b) (hk1 : 1 ≤ k) (hk : k < 1000) : OK (F_law_two_with [.tup (iL a), .tup (iL b)] h) fun v h' => (∃ g, h' = h ++ g) ∧ ∃ p q, v = .tup [.tup (iL p), .tup (iL q)] ∧ IsPt p ∧ IsPt q ∧ BdL (3 * k + 10) p ∧ BdL (3 * k + 10) q ∧ p ≠ q ∧ dotL a p = 0 ∧ dotL b p = 0 ∧ dotL a q = 0 ∧ dotL b q = 0 := by
  have ub : ∀ u ∈ uL, u.length = 4 ∧ BdL k u := by
    intro u hu
    have : ∀ x ∈ u, Bd k x := by
      intro x hx
      have : x = 0 ∨ x = 1 := by
        simp only [uL, List.mem_cons, List.not_mem_nil, or_false] at hu
        rcases hu with rfl | rfl | rfl | rfl <;> (simp only [List.mem_cons, List.not_mem_nil, or_false] at hx; omega)
      rcases this with rfl | rfl
      · exact Bd.zero
      · exact (natAbs_lt (k := 1) (by decide)).mono hk1
    refine ⟨?_, this⟩
    simp only [uL, List.mem_cons, List.not_mem_nil, or_false] at hu
    rcases hu with rfl | rfl | rfl | rfl <;> rfl
  have rb : ∀ m ∈ rowsL a b, BdL (3 * k + 10) m := by
    intro m hm
    obtain ⟨u, hu, rfl⟩ := List.mem_map.mp hm
    exact min_bd ba bb (ub u hu).2
  unfold F_law_two_with m_law_two_with
  refine ok_run ?_
  refine sk_seq (sk_asg (ok_lc (ok_src (ok_call (ok_nil ⟨rfl, ?_⟩)))))
  refine units_ok.imp ?_
  rintro _ _ ⟨rfl, rfl⟩
  rename_i h
  refine .inl ⟨_, rfl, 4, fun i h' => ∃ (rs : List Nat) (g : HS), h' = h ++ [rs.map D.ref] ++ g ∧ rs.length = i ∧ ∀ (j : Nat) (r : Nat), rs[j]? = some r → h.length < r ∧ ∃ m, (rowsL a b)[j]? = some m ∧ h'[r]? = some (iL m), by simp [Src.size, tL, uL], ⟨[], [], by simp, rfl, by simp⟩, ?_, ?_⟩
  · rintro i h' hi ⟨rs, g, rfl, rl, hr⟩
    obtain ⟨u, hu⟩ := get_lt (l := uL) (i := i) (by simpa [uL] using hi)
    have um := ub u (List.mem_of_getElem? hu)
    refine ⟨.tup (iL u), by simp [Src.get, tl_get hu], _, _, rfl, ok_yes ⟨fun _ => ?_, fun c => (by cases c)⟩⟩
    refine ok_call (ok_cons (ok_var rfl (ok_cons (ok_var rfl (ok_cons (ok_var rfl (ok_nil ⟨rfl, ?_⟩)))))))
    refine (minors_ok A.len B.len um.1 ba bb um.2 (by omega)).imp ?_
    rintro _ _ ⟨r, g2, rfl, rfl, hlr, qr⟩
    refine ⟨rs.map D.ref, by rw [List.append_assoc]; exact getapp2, by simp; omega, rs ++ [r], g ++ g2, ?_, by simp [rl], ?_⟩
    · rw [List.append_assoc, setapp1 rfl]; simp
    · intro j r' hj
      have key : ∀ (r' : Nat) (m : List Int), h.length < r' → (h ++ [rs.map D.ref] ++ g ++ g2)[r']? = some (iL m) → ((h ++ [rs.map D.ref] ++ g ++ g2).set h.length (rs.map D.ref ++ [.ref r]))[r']? = some (iL m) := fun r' m c q => by
        rw [List.getElem?_set_ne (by omega), q]
      by_cases c : j < rs.length
      · rw [List.getElem?_append_left c] at hj
        obtain ⟨c1, m, c2, c3⟩ := hr j r' hj
        refine ⟨c1, m, c2, key r' m c1 ?_⟩
        rw [List.getElem?_append_left (List.getElem?_eq_some_iff.mp c3).1, c3]
      · have cj : j = rs.length := by
          have := (List.getElem?_eq_some_iff.mp hj).1
          simp at this
          omega
        subst cj
        simp at hj
        subst hj
        have lr : h.length < r := by simp at hlr; omega
        refine ⟨lr, minL a b u, ?_, key r _ lr qr⟩
        unfold rowsL
        rw [List.getElem?_map, rl, hu]
        rfl
  · rintro h' ⟨rs, g, rfl, rl, hr⟩
    refine ⟨by simp [Src.get, tL, uL], _, _, rfl, ?_⟩
    have rlen : (rowsL a b).length = 4 := rfl
    have q0 : ∀ G : HS, (h ++ [rs.map D.ref] ++ g ++ G)[h.length]? = some (rs.map D.ref) := fun G => by rw [List.append_assoc]; exact getapp2
    have qr : ∀ (j : Nat) (m : List Int), (rowsL a b)[j]? = some m → ∃ r, rs[j]? = some r ∧ ∀ G : HS, (h ++ [rs.map D.ref] ++ g ++ G)[r]? = some (iL m) := by
      intro j m hm
      have cj : j < 4 := by rw [← rlen]; exact (List.getElem?_eq_some_iff.mp hm).1
      obtain ⟨r, e⟩ := get_lt (l := rs) (i := j) (by omega)
      obtain ⟨_, m', c2, c3⟩ := hr j r e
      rw [hm] at c2
      cases c2
      exact ⟨r, e, fun G => by rw [List.getElem?_append_left (List.getElem?_eq_some_iff.mp c3).1, c3]⟩
    generalize hH : h ++ [rs.map D.ref] ++ g = H at *
    have hlt : h.length < H.length := by rw [← hH]; simp
    refine sk_seq (sk_asg (ok_lc (ok_src (ok_var rfl (.inr (.inr ⟨_, rfl, hlt, 4, fun i h' => ∃ g, h' = H ++ [tL (keptL ((rowsL a b).take i))] ++ g, ?_, ⟨[], by simp [keptL, tL]⟩, ?_, ?_⟩))))))
    · have := q0 []
      rw [List.append_nil] at this
      simp [Src.size, this, rl]
    · rintro i h' hi ⟨g2, rfl⟩
      obtain ⟨m, hm⟩ := get_lt (l := rowsL a b) (i := i) (by rw [rlen]; exact hi)
      obtain ⟨r, er, qm⟩ := qr i m hm
      refine ⟨.ref r, ?_, _, _, rfl, ?_⟩
      · show ((H ++ [_] ++ g2)[h.length]?).map _ = _
        rw [List.append_assoc, q0]
        simp [er]
      refine ok_B (ok_op (ok_var rfl (ok_lst ?_)))
      repeat walk_at "d"
      refine ⟨by simp, ?_⟩
      refine ⟨_, _, opNe_rl (a := m) (b := [0, 0, 0, 0]) (by rw [List.append_assoc, List.append_assoc]; exact qm _) (getapp (g := [])), _, rfl, fun c => ?_, fun c => ?_⟩
      · have lm := (rows_zero A.len B.len (List.mem_of_getElem? hm)).1
        refine ok_call (ok_cons (ok_var rfl (ok_nil ⟨rfl, ?_⟩)))
        refine (reduced_ref (ns := m) (by rw [List.append_assoc, List.append_assoc]; exact qm _) (by omega) (rb m (List.mem_of_getElem? hm)) (by omega)).imp ?_
        rintro _ _ ⟨rfl, g3, rfl⟩
        refine ⟨_, by simp only [List.append_assoc]; rw [← List.append_assoc]; exact getapp2, by rw [tl_len]; unfold keptL; rw [List.length_map]; have := List.length_filter_le notZ ((rowsL a b).take i); rw [List.length_take] at this; omega, g2 ++ [iL [0, 0, 0, 0]] ++ g3, ?_⟩
        rw [kept_take hm, show notZ m = true from c, if_pos rfl, ← tl_snoc]
        simp only [List.append_assoc]
        rw [← List.append_assoc, setapp1 rfl]
        simp
        rfl
      · refine ⟨g2 ++ [iL [0, 0, 0, 0]], ?_⟩
        rw [kept_take hm, show notZ m = false from c]
        simp; rfl
    · rintro h' ⟨g2, rfl⟩
      refine ⟨?_, _, _, rfl, ?_⟩
      · show ((H ++ [_] ++ g2)[h.length]?).map _ = _
        rw [List.append_assoc, q0]
        simp [rl]
      rw [List.take_of_length_le (by rw [rlen]; exact Nat.le_refl _)]
      have kf : ∀ p, p ∈ keptL (rowsL a b) ↔ ∃ m ∈ rowsL a b, Nz m ∧ p = redF m := by
        intro p
        unfold keptL
        constructor
        · intro hp
          obtain ⟨m, hm, rfl⟩ := List.mem_map.mp hp
          obtain ⟨h1, h2⟩ := List.mem_filter.mp hm
          exact ⟨m, h1, nz_ne (by rw [(rows_zero A.len B.len h1).1]; simpa [notZ] using h2), rfl⟩
        · rintro ⟨m, h1, h2, rfl⟩
          refine List.mem_map.mpr ⟨m, List.mem_filter.mpr ⟨h1, ?_⟩, rfl⟩
          have : m ≠ [0, 0, 0, 0] := by
            rintro rfl
            obtain ⟨x, hx, x0⟩ := h2
            simp at hx
            exact x0 hx
          simpa [notZ] using this
      have good : ∀ p ∈ keptL (rowsL a b), IsPt p ∧ BdL (3 * k + 10) p ∧ dotL a p = 0 ∧ dotL b p = 0 := by
        intro p hp
        obtain ⟨m, h1, h2, rfl⟩ := (kf p).mp hp
        obtain ⟨z1, z2, z3⟩ := rows_zero A.len B.len h1
        rw [dot_back A.len z1 h2] at z2
        rw [dot_back B.len z1 h2] at z3
        exact ⟨⟨by rw [redF_len, z1], red_redF h2⟩, redF_bd (rb m h1), zero_of_mul (facN_nz h2) z2, zero_of_mul (facN_nz h2) z3⟩
      obtain ⟨m, hm, m', hm', n1, n2, ne⟩ := two_rows A B hn
      have k1 := (kf _).mpr ⟨m, hm, n1, rfl⟩
      have k2 := (kf _).mpr ⟨m', hm', n2, rfl⟩
      have klen : (keptL (rowsL a b)).length ≤ 4 := by
        unfold keptL
        rw [List.length_map]
        exact Nat.le_trans (List.length_filter_le _ _) (by rw [rlen]; exact Nat.le_refl _)
      generalize keptL (rowsL a b) = F at *
      have qF : ∀ G : HS, (H ++ [tL F] ++ g2 ++ G)[H.length]? = some (tL F) := fun G => by rw [List.append_assoc]; exact getapp2
      obtain ⟨f0, hf0⟩ : ∃ f, F[0]? = some f := get_lt (List.length_pos_of_mem k1)
      have rest : ∃ q, (F.filter fun p => !(p == f0))[0]? = some q := by
        refine get_lt (List.length_pos_of_mem (a := if redF m = f0 then redF m' else redF m) ?_)
        refine List.mem_filter.mpr ?_
        by_cases c : redF m = f0
        · rw [if_pos c]
          exact ⟨k2, by rw [← c]; simpa using fun z => ne z.symm⟩
        · rw [if_neg c]
          exact ⟨k1, by simpa using c⟩
      obtain ⟨q, hq⟩ := rest
      refine sk_seq (sk_asg (ok_lc (ok_src (ok_var rfl (.inr (.inr ⟨_, rfl, by simp, F.length, fun i h' => h' = H ++ [tL F] ++ g2 ++ [tL ((F.take i).filter fun p => !(p == f0))], ?_, by simp [tL], ?_, ?_⟩))))))
      · have := qF []
        rw [List.append_nil] at this
        simp [Src.size, this, tl_len]
      · rintro i _ hi rfl
        obtain ⟨p, hp⟩ := get_lt hi
        refine ⟨.tup (iL p), ?_, _, _, rfl, ?_⟩
        · show ((H ++ [tL F] ++ g2 ++ _)[H.length]?).map _ = _
          rw [qF]
          simp [tl_get hp]
        refine ok_B (ok_op (ok_var rfl (ok_op (ok_var rfl (ok_c ⟨_, _, opIx_r (qF _) (PI.atI_nat (a := 0) (tl_get hf0)), _, _, opNe_il, _, rfl, fun c => ?_, fun c => ?_⟩)))))
        · refine ok_var rfl ⟨_, getapp (g := []), by rw [tl_len]; have := List.length_filter_le (fun p => !(p == f0)) (F.take i); rw [List.length_take] at this; omega, ?_⟩
          show _ = _
          rw [setapp, filter_take hp, c, if_pos rfl, tl_snoc]
        · show _ = _
          rw [filter_take hp, c]
          simp
      · rintro _ rfl
        refine ⟨?_, _, _, rfl, ?_⟩
        · show ((H ++ [tL F] ++ g2 ++ _)[H.length]?).map _ = _
          rw [qF]
          simp [tl_len]
        rw [List.take_length]
        refine sk_ret (ok_tup (ok_cons (ok_op (ok_var rfl (ok_c ⟨_, _, opIx_r (qF _) (PI.atI_nat (a := 0) (tl_get hf0)), ok_cons (ok_op (ok_var rfl (ok_c ⟨_, _, opIx_r (getapp (g := [])) (PI.atI_nat (a := 0) (tl_get hq)), ok_nil ⟨by simp, ?_, f0, q, rfl, ?_⟩⟩)))⟩)))))
        · rw [← hH]
          exact ⟨_, by simp only [List.append_assoc]; rfl⟩
        · have p1 := good f0 (List.mem_of_getElem? hf0)
          have qm := List.mem_filter.mp (List.mem_of_getElem? hq)
          have p2 := good q qm.1
          have pq : q ≠ f0 := by simpa using qm.2
          exact ⟨p1.1, p2.1, p1.2.1, p2.2.1, fun z => pq z.symm, p1.2.2.1, p1.2.2.2, p2.2.2.1, p2.2.2.2⟩

end LA

set_option maxHeartbeats 4000000
namespace LA
open PySem L2 PySem.Spec PI
local macro_rules | `(tactic| walk_at "b") => `(tactic| first
  | with_reducible assumption
  | (with_reducible refine Bd.mul ?_ ?_) <;> walk_at "b"
  | (with_reducible refine Bd.sub ?_ ?_) <;> walk_at "b"
  | (with_reducible refine Bd.add ?_ ?_) <;> walk_at "b"
  | (with_reducible refine Bd.neg ?_) <;> walk_at "b"
  | exact natAbs_lt (k := 40) (by decide))
local macro_rules | `(tactic| walk_at "m") => `(tactic| (apply Bd.ok <;> first | walk_at "b" | decide))
local macro_rules | `(tactic| walk_at "p") => `(tactic| (first | exact pre_self | assumption | (refine pre_app ?_; walk_at "p")))
local macro_rules | `(tactic| walk_at "e") => `(tactic| first
  | refine ⟨_, _, opMul_i (.inl ⟨by decide, by decide⟩), ?_⟩
  | refine ⟨_, _, opMul_i (.inr (.inl ⟨by decide, by decide⟩)), ?_⟩
  | (refine ⟨_, _, opMul_i ?_, ?_⟩; · walk_at "m")
  | refine ⟨_, _, rfl, ?_⟩
  | refine ⟨_, rfl, ?_⟩
  | refine ⟨rfl, ?_⟩
  | refine ⟨rfl, rfl, ?_⟩)
local macro_rules | `(tactic| walk_at "d") => `(tactic| first
  | with_reducible refine ok_c ?_
  | with_reducible refine ok_var rfl ?_
  | with_reducible refine ok_op ?_
  | with_reducible refine ok_un ?_
  | with_reducible refine ok_nil ?_
  | with_reducible refine ok_cons ?_
  | with_reducible refine ok_tup ?_
  | with_reducible refine ok_lst ?_
  | with_reducible refine ok_cb ?_
  | with_reducible refine ok_call ?_
  | with_reducible refine ok_callK ?_
  | with_reducible refine ok_sl ?_
  | with_reducible refine ok_nopart ?_
  | with_reducible refine ok_part ?_
  | with_reducible refine ok_B ?_
  | with_reducible refine ok_andT ?_
  | with_reducible refine ok_orT ?_
  | with_reducible refine ok_notT ?_
  | with_reducible refine ok_and ?_
  | with_reducible refine ok_or ?_
  | with_reducible refine ok_not ?_
  | with_reducible refine ok_if ?_
  | with_reducible refine ok_app ?_
  | with_reducible refine ok_lc ?_
  | with_reducible refine ok_yes ?_
  | with_reducible refine ok_src ?_
  | with_reducible refine ok_rng1 ?_
  | with_reducible refine ok_rng2 ?_
  | with_reducible refine ok_zip ?_
  | with_reducible refine sk_nil ?_
  | with_reducible refine sk_seq ?_
  | with_reducible refine sk_ret ?_
  | with_reducible refine sk_drop ?_
  | with_reducible refine sk_if ?_
  | with_reducible refine sk_asg ?_
  | with_reducible refine sk_par ?_
  | with_reducible refine sk_par3 ?_
  | with_reducible refine sk_for ?_
  | with_reducible refine ⟨_, _, gNm1, ?_⟩
  | with_reducible refine ⟨_, _, gUn2, ?_⟩
  | with_reducible refine ⟨_, _, gUn3, ?_⟩
  | with_reducible refine ⟨_, _, opSub_i, ?_⟩
  | with_reducible refine ⟨_, _, opAdd_i, ?_⟩
  | with_reducible refine ⟨_, _, opNe_i, ?_⟩
  | with_reducible refine ⟨_, _, opEq_i, ?_⟩
  | with_reducible refine ⟨_, _, opMod_i (by decide), ?_⟩
  | with_reducible refine ⟨_, _, opDiv_i ⟨by decide, by decide⟩, ?_⟩
  | ((with_reducible refine And.intro ?_ ?_); · rfl)
  | ((fail_if_success (with_reducible refine And.intro ?_ ?_)); (fail_if_success (with_reducible refine OK.imp (Q := fun _ _ => True) ?_ ?_)); (fail_if_success (with_reducible refine SOK.imp (Qn := fun _ _ => True) (Qr := fun _ _ => True) ?_ ?_ ?_)); walk_at "e"))

open PK
theorem mulL4 (f a b c d : Int) : mulL f [a, b, c, d] = [f * a, f * b, f * c, f * d] := rfl
theorem plane_line (a b x : List Int) : planeL (lineL a b) x = mulL (-1) (minL a b x) := by
  unfold planeL lineL minL
  simp only [gI, List.getD_cons_zero, List.getD_cons_succ, mulL4, List.cons.injEq, and_true]
  refine ⟨?_, ?_, ?_, ?_⟩ <;> grind
theorem planeL_mul (f : Int) (r x : List Int) : planeL (mulL f r) x = mulL f (planeL r x) := by
  unfold planeL
  rw [mulL4]
  simp only [gI_mul, List.cons.injEq, and_true]
  refine ⟨?_, ?_, ?_, ?_⟩ <;> grind
theorem pointL_mul (f : Int) (r x : List Int) : pointL (mulL f r) x = mulL f (pointL r x) := by
  unfold pointL
  rw [mulL4]
  simp only [gI_mul, List.cons.injEq, and_true]
  refine ⟨?_, ?_, ?_, ?_⟩ <;> grind
def difL (x : Int) (u : List Int) (y : Int) (v : List Int) : List Int := List.zipWith (fun p q => x * p - y * q) u v
theorem point_line {a b s : List Int} (la : a.length = 4) (lb : b.length = 4) (ls : s.length = 4) : pointL (lineL a b) s = difL (dotL b s) a (dotL a s) b := by
  rw [dotg la ls, dotg lb ls]
  obtain ⟨a0, a1, a2, a3, rfl⟩ := four la
  obtain ⟨b0, b1, b2, b3, rfl⟩ := four lb
  obtain ⟨s0, s1, s2, s3, rfl⟩ := four ls
  unfold pointL lineL difL
  simp only [gI, List.getD_cons_zero, List.getD_cons_succ, List.zipWith_cons_cons, List.zipWith_nil_left, mulL4, List.cons.injEq, and_true]
  refine ⟨?_, ?_, ?_, ?_⟩ <;> grind
theorem nz_mul_iff {k : Int} (hk : k ≠ 0) {l : List Int} : Nz (mulL k l) ↔ Nz l := by
  refine ⟨fun ⟨x, hx, x0⟩ => ?_, fun h => h.mul hk⟩
  obtain ⟨y, hy, rfl⟩ := List.mem_map.mp hx
  exact ⟨y, hy, fun z => x0 (by rw [z, Int.mul_zero])⟩
theorem plane_beam {a b x : List Int} (nz : Nz (lineL a b)) : (Nz (planeL (redF (lineL a b)) x) ↔ Nz (minL a b x)) ∧ (Nz (minL a b x) → redF (planeL (redF (lineL a b)) x) = redF (minL a b x)) := by
  have f0 := facN_nz nz
  have e : mulL (facN (lineL a b)) (planeL (redF (lineL a b)) x) = mulL (-1) (minL a b x) := by rw [← planeL_mul, redF_back nz, plane_line]
  have i : Nz (planeL (redF (lineL a b)) x) ↔ Nz (minL a b x) := by
    rw [← nz_mul_iff f0, e, nz_mul_iff (by decide)]
  refine ⟨i, fun h => ?_⟩
  have h2 := i.mpr h
  rw [← redF_mul f0 h2, e, redF_mul (by decide) h]
theorem point_beam {a b s : List Int} (la : a.length = 4) (lb : b.length = 4) (ls : s.length = 4) (nz : Nz (lineL a b)) : (Nz (pointL (redF (lineL a b)) s) ↔ Nz (difL (dotL b s) a (dotL a s) b)) ∧ (Nz (difL (dotL b s) a (dotL a s) b) → redF (pointL (redF (lineL a b)) s) = redF (difL (dotL b s) a (dotL a s) b)) := by
  have f0 := facN_nz nz
  have e : mulL (facN (lineL a b)) (pointL (redF (lineL a b)) s) = difL (dotL b s) a (dotL a s) b := by rw [← pointL_mul, redF_back nz, point_line la lb ls]
  have i : Nz (pointL (redF (lineL a b)) s) ↔ Nz (difL (dotL b s) a (dotL a s) b) := by
    rw [← nz_mul_iff f0, e]
  refine ⟨i, fun h => ?_⟩
  have h2 := i.mpr h
  rw [← redF_mul f0 h2, e]
theorem dif_nz {a b : List Int} {x y : Int} (A : IsPt a) (B : IsPt b) (hn : a ≠ b) : Nz (difL x a y b) ↔ ¬(y = 0 ∧ x = 0) := by
  have la := A.len
  have lb := B.len
  constructor
  · rintro ⟨z, hz, z0⟩ ⟨rfl, rfl⟩
    unfold difL at hz
    obtain ⟨a0, a1, a2, a3, rfl⟩ := four la
    obtain ⟨b0, b1, b2, b3, rfl⟩ := four lb
    simp at hz
    exact z0 hz
  · intro c
    by_cases nz : Nz (difL x a y b)
    · exact nz
    exfalso
    have z := not_nz nz
    have e : mulL x a = mulL y b := by
      obtain ⟨a0, a1, a2, a3, rfl⟩ := four la
      obtain ⟨b0, b1, b2, b3, rfl⟩ := four lb
      have z0 := z (x * a0 - y * b0) (by simp [difL])
      have z1 := z (x * a1 - y * b1) (by simp [difL])
      have z2 := z (x * a2 - y * b2) (by simp [difL])
      have z3 := z (x * a3 - y * b3) (by simp [difL])
      rw [mulL4, mulL4]
      simp only [List.cons.injEq, and_true]
      omega
    by_cases x0 : x = 0
    · have y0 : y ≠ 0 := fun q => c ⟨q, x0⟩
      obtain ⟨w, hw, w0⟩ := B.red.nz.mul y0
      rw [← e, x0] at hw
      obtain ⟨p, _, rfl⟩ := List.mem_map.mp hw
      simp at w0
    · by_cases y0 : y = 0
      · obtain ⟨w, hw, w0⟩ := A.red.nz.mul x0
        rw [e, y0] at hw
        obtain ⟨p, _, rfl⟩ := List.mem_map.mp hw
        simp at w0
      · exact hn (red_unique A.red B.red x0 y0 e)
theorem pre0 {h' : HS} : ∃ g, h' = ([] : HS) ++ g := ⟨h', rfl⟩
theorem ldot2_ok {a b : List Int} {h : HS} {j k : Nat} (la : a.length = 4) (lb : b.length = 4) (ha : BdL j a) (hb : BdL k b) (c : j + k < 1000000) : OK (F_law_dot [.tup (iL a), .tup (iL b)] h) fun v h' => v = .int (dotL a b) ∧ ∃ g, h' = h ++ g := by
  unfold F_law_dot m_law_dot
  refine ok_run ?_
  repeat walk_at "d"
  refine ⟨by simp [il_len, la], by simp [il_len, la], 4, fun i h' => h' = h ++ [iL ((List.zipWith (· * ·) a b).take i)], by simp [Src.size, il_len, la], by simp [iL], ?_, ?_⟩
  · rintro i _ hi rfl
    obtain ⟨x, hx⟩ := get_lt (l := a) (i := i) (by omega)
    obtain ⟨y, hy⟩ := get_lt (l := b) (i := i) (by omega)
    refine ⟨.int (0 + i), by simp [Src.get, il_len, la, hi], ?_⟩
    repeat walk_at "d"
    rw [Int.zero_add]
    refine ⟨fun _ => ?_, fun c => (by cases c)⟩
    repeat walk_at "d"
    refine ⟨_, _, opIx_t (PI.atI_nat (il_get hx)), ?_⟩
    repeat walk_at "d"
    refine ⟨_, _, opIx_t (PI.atI_nat (il_get hy)), ?_⟩
    refine ⟨_, _, opMul_i ((ha x (List.mem_of_getElem? hx)).ok (hb y (List.mem_of_getElem? hy)) c), _, getapp (g := h), by simp [il_len]; omega, ?_⟩
    show _ = _
    rw [setapp, List.take_add_one, zip_get hx hy, il_app]
    rfl
  · rintro _ rfl
    refine ⟨by simp [Src.get, il_len, la], ?_⟩
    repeat walk_at "d"
    refine ⟨_, _, sum_eq (getapp (g := h)), ?_, _, rfl⟩
    have e : (List.zipWith (fun x1 x2 : Int => x1 * x2) a b).take 4 = List.zipWith (fun x1 x2 => x1 * x2) a b := List.take_of_length_le (by rw [List.length_zipWith]; omega)
    rw [e]
    rfl
theorem dotL_comm {a b : List Int} : dotL a b = dotL b a := by
  unfold dotL
  rw [List.zipWith_comm]
  congr 2
  funext x y
  exact Int.mul_comm _ _
theorem anyL_dec {l m : List Int} (h : Nz l ↔ Nz m) (lm : m.length = 4) : (!anyL l) = (m == [0, 0, 0, 0]) := by
  by_cases c : Nz l
  · rw [anyL_nz.mpr c]
    obtain ⟨x, hx, x0⟩ := h.mp c
    have : m ≠ [0, 0, 0, 0] := by
      rintro rfl
      simp at hx
      exact x0 hx
    symm
    simpa using this
  · rw [anyL_no.mpr c]
    have n2 : ¬ Nz m := fun z => c (h.mpr z)
    have : m = [0, 0, 0, 0] := by
      have := List.eq_replicate_iff.mpr ⟨rfl, not_nz n2⟩
      rw [lm] at this
      exact this
    rw [this]
    rfl
def mixL (x : Int) (u : List Int) (y : Int) (v : List Int) : List Int := List.zipWith (fun p q => x * p + y * q) u v
theorem gI_mix {x y : Int} {u v : List Int} (h : u.length = v.length) (i : Nat) : gI (mixL x u y v) i = x * gI u i + y * gI v i := by
  unfold gI mixL
  simp only [List.getD_eq_getElem?_getD, List.getElem?_zipWith]
  by_cases c : i < u.length
  · obtain ⟨p, hp⟩ := get_lt c
    obtain ⟨q, hq⟩ := get_lt (l := v) (i := i) (by omega)
    rw [hp, hq]
    rfl
  · rw [List.getElem?_eq_none (by omega), List.getElem?_eq_none (by omega)]
    simp
theorem mix_bd {x y : Int} {u v : List Int} {j k : Nat} (hx : Bd j x) (hy : Bd j y) (hu : BdL k u) (hv : BdL k v) : BdL (j + k + 1) (mixL x u y v) := by
  intro z hz
  obtain ⟨i, hi⟩ := List.mem_iff_getElem?.mp hz
  unfold mixL at hi
  rw [List.getElem?_zipWith] at hi
  cases hp : u[i]? with
  | none => rw [hp] at hi; cases hi
  | some p =>
    cases hq : v[i]? with
    | none => rw [hp, hq] at hi; cases hi
    | some q =>
      rw [hp, hq] at hi
      cases hi
      exact ((hx.mul (hu p (List.mem_of_getElem? hp))).add (hy.mul (hv q (List.mem_of_getElem? hq)))).mono (by omega)
theorem det_eq {a b c d : List Int} (la : a.length = 4) : dotL a (minL b c d) = rp (lineL a b) (lineL c d) := by
  obtain ⟨a0, a1, a2, a3, rfl⟩ := four la
  unfold minL
  rw [dot4]
  unfold rp lineL
  simp only [gI, List.getD_cons_zero, List.getD_cons_succ]
  grind
theorem rp_comm (a b : List Int) : rp b a = rp a b := by
  unfold rp
  grind
theorem rp_self {a : List Int} (R : IsRod a) : rp a a = 0 := by
  have := R.dm
  unfold rp
  grind
theorem rp_back {a b : List Int} (ha : Nz a) (hb : Nz b) : rp a b = facN a * facN b * rp (redF a) (redF b) := by
  unfold rp
  rw [gI_back ha 0, gI_back ha 1, gI_back ha 2, gI_back ha 3, gI_back ha 4, gI_back ha 5, gI_back hb 0, gI_back hb 1, gI_back hb 2, gI_back hb 3, gI_back hb 4, gI_back hb 5]
  grind
theorem rp_back1 {a b : List Int} (ha : Nz a) : rp a b = facN a * rp (redF a) b := by
  unfold rp
  rw [gI_back ha 0, gI_back ha 1, gI_back ha 2, gI_back ha 3, gI_back ha 4, gI_back ha 5]
  grind
theorem line_meet (a b c : List Int) : rp (lineL a b) (lineL a c) = 0 := by
  unfold rp lineL
  simp only [gI, List.getD_cons_zero, List.getD_cons_succ]
  grind
theorem rp_mix {x y : Int} {u v w : List Int} (e : u.length = v.length) : rp (mixL x u y v) w = x * rp u w + y * rp v w := by
  unfold rp
  rw [gI_mix e, gI_mix e, gI_mix e, gI_mix e, gI_mix e, gI_mix e]
  grind
theorem mix_dif {x y : Int} {u v : List Int} : mixL x u y v = difL x u (-y) v := by
  unfold mixL difL
  congr 1
  funext p q
  rw [Int.neg_mul]
  omega
theorem mix_nz {a b : List Int} {x y : Int} (A : IsPt a) (B : IsPt b) (hn : a ≠ b) (h : ¬(x = 0 ∧ y = 0)) : Nz (mixL x a y b) := by
  rw [mix_dif, dif_nz A B hn]
  omega
theorem mix_len {a b : List Int} {x y : Int} (la : a.length = 4) (lb : b.length = 4) : (mixL x a y b).length = 4 := by simp [mixL, la, lb]
theorem mulL6 (f a b c d e g : Int) : mulL f [a, b, c, d, e, g] = [f * a, f * b, f * c, f * d, f * e, f * g] := rfl
theorem lineL_mul (f g : Int) (x y : List Int) : lineL (mulL f x) (mulL g y) = mulL (f * g) (lineL x y) := by
  unfold lineL
  rw [mulL6]
  simp only [gI_mul, List.cons.injEq, and_true]
  refine ⟨?_, ?_, ?_, ?_, ?_, ?_⟩ <;> grind
theorem lineL_mix {a b : List Int} (e : a.length = b.length) (x y z w : Int) : lineL (mixL x a y b) (mixL z a w b) = mulL (x * w - y * z) (lineL a b) := by
  unfold lineL
  rw [mulL6]
  simp only [gI_mix e, List.cons.injEq, and_true]
  refine ⟨?_, ?_, ?_, ?_, ?_, ?_⟩ <;> grind
theorem line_self (a : List Int) : ¬ Nz (lineL a a) := by
  rintro ⟨x, hx, x0⟩
  simp only [lineL, List.mem_cons, List.not_mem_nil, or_false] at hx
  apply x0
  rcases hx with rfl | rfl | rfl | rfl | rfl | rfl <;> grind
/-- sums of two points told by factors with a determinant other than 0 are unlike -/
theorem sums_ne {a b : List Int} {x y z w : Int} (A : IsPt a) (B : IsPt b) (hn : a ≠ b) (d : x * w ≠ y * z) : redF (mixL x a y b) ≠ redF (mixL z a w b) := by
  have n1 : Nz (mixL x a y b) := mix_nz A B hn (by rintro ⟨rfl, rfl⟩; simp at d)
  have n2 : Nz (mixL z a w b) := mix_nz A B hn (by rintro ⟨rfl, rfl⟩; simp at d)
  intro e
  have h := lineL_mix (a := a) (b := b) (by rw [A.len, B.len]) x y z w
  rw [← redF_back n1, ← redF_back n2, lineL_mul, e] at h
  have nz := (line_nz A B hn).mul (k := x * w - y * z) (by omega)
  rw [← h] at nz
  obtain ⟨p, hp, p0⟩ := nz
  obtain ⟨q, hq, rfl⟩ := List.mem_map.mp hp
  exact line_self _ ⟨q, hq, fun z => p0 (by rw [z, Int.mul_zero])⟩
theorem minL_mul (f : Int) (a b x : List Int) : minL a b (mulL f x) = mulL f (minL a b x) := by
  unfold minL
  rw [mulL4]
  simp only [gI_mul, List.cons.injEq, and_true]
  refine ⟨?_, ?_, ?_, ?_⟩ <;> grind
theorem minL_mix {a b : List Int} (e : a.length = b.length) (x y : Int) : ¬ Nz (minL a b (mixL x a y b)) := by
  rintro ⟨p, hp, p0⟩
  simp only [minL, gI_mix e, List.mem_cons, List.not_mem_nil, or_false] at hp
  apply p0
  rcases hp with rfl | rfl | rfl | rfl <;> grind
/-- a sum of the two points is on their rod -/
theorem sum_on {a b : List Int} {x y : Int} (A : IsPt a) (B : IsPt b) (hn : a ≠ b) (h : ¬(x = 0 ∧ y = 0)) : ¬ Nz (planeL (redF (lineL a b)) (redF (mixL x a y b))) := by
  have n1 := mix_nz A B hn h
  rw [(plane_beam (line_nz A B hn)).1]
  have e := minL_mix (a := a) (b := b) (by rw [A.len, B.len]) x y
  rw [← redF_back n1, minL_mul, nz_mul_iff (facN_nz n1)] at e
  exact e
/-- the numbers of a rod and of the line of two of its points are proportional -/
theorem prop_of {r x y : List Int} (lr : r.length = 6) (lx : x.length = 4) (ly : y.length = 4) (h1 : ¬ Nz (planeL r x)) (h2 : ¬ Nz (planeL r y)) : ∀ i j, i < 6 → j < 6 → gI r i * gI (lineL x y) j = gI r j * gI (lineL x y) i := by
  obtain ⟨r0, r1, r2, r3, r4, r5, rfl⟩ := six lr
  obtain ⟨x0, x1, x2, x3, rfl⟩ := four lx
  obtain ⟨y0, y1, y2, y3, rfl⟩ := four ly
  have z1 := not_nz h1
  have z2 := not_nz h2
  have e0 : -(r3 * x1 + r4 * x2 + r5 * x3) = 0 := z1 _ (by simp [planeL, gI])
  have e1 : x0 * r3 + (r1 * x3 - r2 * x2) = 0 := z1 _ (by simp [planeL, gI])
  have e2 : x0 * r4 + (r2 * x1 - r0 * x3) = 0 := z1 _ (by simp [planeL, gI])
  have e3 : x0 * r5 + (r0 * x2 - r1 * x1) = 0 := z1 _ (by simp [planeL, gI])
  have f0 : -(r3 * y1 + r4 * y2 + r5 * y3) = 0 := z2 _ (by simp [planeL, gI])
  have f1 : y0 * r3 + (r1 * y3 - r2 * y2) = 0 := z2 _ (by simp [planeL, gI])
  have f2 : y0 * r4 + (r2 * y1 - r0 * y3) = 0 := z2 _ (by simp [planeL, gI])
  have f3 : y0 * r5 + (r0 * y2 - r1 * y1) = 0 := z2 _ (by simp [planeL, gI])
  clear z1 z2 h1 h2
  have l0 : gI (lineL [x0, x1, x2, x3] [y0, y1, y2, y3]) 0 = x0 * y1 - y0 * x1 := rfl
  have l1 : gI (lineL [x0, x1, x2, x3] [y0, y1, y2, y3]) 1 = x0 * y2 - y0 * x2 := rfl
  have l2 : gI (lineL [x0, x1, x2, x3] [y0, y1, y2, y3]) 2 = x0 * y3 - y0 * x3 := rfl
  have l3 : gI (lineL [x0, x1, x2, x3] [y0, y1, y2, y3]) 3 = x2 * y3 - x3 * y2 := rfl
  have l4 : gI (lineL [x0, x1, x2, x3] [y0, y1, y2, y3]) 4 = x3 * y1 - x1 * y3 := rfl
  have l5 : gI (lineL [x0, x1, x2, x3] [y0, y1, y2, y3]) 5 = x1 * y2 - x2 * y1 := rfl
  have k0 : gI [r0, r1, r2, r3, r4, r5] 0 = r0 := rfl
  have k1 : gI [r0, r1, r2, r3, r4, r5] 1 = r1 := rfl
  have k2 : gI [r0, r1, r2, r3, r4, r5] 2 = r2 := rfl
  have k3 : gI [r0, r1, r2, r3, r4, r5] 3 = r3 := rfl
  have k4 : gI [r0, r1, r2, r3, r4, r5] 4 = r4 := rfl
  have k5 : gI [r0, r1, r2, r3, r4, r5] 5 = r5 := rfl
  have half : ∀ i j, i < j → j < 6 → gI [r0, r1, r2, r3, r4, r5] i * gI (lineL [x0, x1, x2, x3] [y0, y1, y2, y3]) j = gI [r0, r1, r2, r3, r4, r5] j * gI (lineL [x0, x1, x2, x3] [y0, y1, y2, y3]) i := by
    intro i j hi hj
    have hi' : i = 0 ∨ i = 1 ∨ i = 2 ∨ i = 3 ∨ i = 4 := by omega
    have hj' : j = 1 ∨ j = 2 ∨ j = 3 ∨ j = 4 ∨ j = 5 := by omega
    rcases hi' with rfl | rfl | rfl | rfl | rfl <;> rcases hj' with rfl | rfl | rfl | rfl | rfl <;> first
      | (exfalso; revert hi; decide)
      | (simp only [l0, l1, l2, l3, l4, l5, k0, k1, k2, k3, k4, k5]; clear l0 l1 l2 l3 l4 l5 k0 k1 k2 k3 k4 k5 lr lx ly hi hj; grind)
  intro i j hi hj
  by_cases c : i < j
  · exact half i j c hj
  · by_cases c2 : j < i
    · exact (half j i c2 hi).symm
    · have : i = j := by omega
      subst this
      rfl
theorem get_gI {l : List Int} {i : Nat} {x : Int} (h : l[i]? = some x) : gI l i = x := by
  unfold gI
  rw [List.getD_eq_getElem?_getD, h]
  rfl
/-- two rows of six that are proportional, one reduced, the other one brought so -/
theorem same_of {r l : List Int} (lr : r.length = 6) (ll : l.length = 6) (R : Red r) (nz : Nz l) (h : ∀ i j, i < 6 → j < 6 → gI r i * gI l j = gI r j * gI l i) : redF l = r := by
  refine red_minors (red_redF nz) R (by rw [redF_len, ll, lr]) ?_
  intro i j x y z w hx hy hz hw
  have hi : i < 6 := by have := (List.getElem?_eq_some_iff.mp hz).1; omega
  have hj : j < 6 := by have := (List.getElem?_eq_some_iff.mp hw).1; omega
  have e := h i j hi hj
  rw [gI_back nz i, gI_back nz j, get_gI hx, get_gI hy, get_gI hz, get_gI hw] at e
  have f0 := facN_nz nz
  have : facN l * (x * w - y * z) = 0 := by grind
  have := zero_of_mul f0 this
  omega
/-- the rod through two unlike points of a rod is this rod -/
theorem on_unique {r x y : List Int} (R : IsRod r) (X : IsPt x) (Y : IsPt y) (hn : x ≠ y) (h1 : ¬ Nz (planeL r x)) (h2 : ¬ Nz (planeL r y)) : redF (lineL x y) = r :=
  same_of R.len rfl R.red (line_nz X Y hn) (prop_of R.len X.len Y.len h1 h2)
theorem line_on (x y : List Int) : ¬ Nz (planeL (lineL x y) y) := by
  rintro ⟨p, hp, p0⟩
  simp only [planeL, List.mem_cons, List.not_mem_nil, or_false] at hp
  apply p0
  simp only [lineL, gI, List.getD_cons_zero, List.getD_cons_succ] at hp
  rcases hp with rfl | rfl | rfl | rfl <;> grind
/-- a further point is on a rod exactly if the rod through it and a point of the rod is the rod -/
theorem join_iff {r x y : List Int} (R : IsRod r) (X : IsPt x) (Y : IsPt y) (hn : x ≠ y) (h1 : ¬ Nz (planeL r x)) : redF (lineL x y) = r ↔ ¬ Nz (planeL r y) := by
  refine ⟨fun e => ?_, fun h2 => on_unique R X Y hn h1 h2⟩
  have nz := line_nz X Y hn
  have h := line_on x y
  rw [← redF_back nz, planeL_mul, nz_mul_iff (facN_nz nz), e] at h
  exact h
theorem point_sw (r s : List Int) : pointL r s = mulL (-1) (planeL (swL r) s) := by
  unfold pointL planeL swL
  simp only [gI, List.getD_cons_zero, List.getD_cons_succ, mulL4, List.cons.injEq, and_true]
  refine ⟨?_, ?_, ?_, ?_⟩ <;> grind
theorem point_sw_nz {r s : List Int} : Nz (pointL r s) ↔ Nz (planeL (swL r) s) := by
  rw [point_sw, nz_mul_iff (by decide)]
def sg (i : Nat) : Nat := if i < 3 then i + 3 else i - 3
theorem sw_gI {l : List Int} {i : Nat} (hi : i < 6) : gI (swL l) (sg i) = gI l i := by
  have : i = 0 ∨ i = 1 ∨ i = 2 ∨ i = 3 ∨ i = 4 ∨ i = 5 := by omega
  rcases this with rfl | rfl | rfl | rfl | rfl | rfl <;> rfl
theorem sw_sw {l : List Int} {i : Nat} (hi : i < 6) : gI (swL l) i = gI l (sg i) := by
  have : i = 0 ∨ i = 1 ∨ i = 2 ∨ i = 3 ∨ i = 4 ∨ i = 5 := by omega
  rcases this with rfl | rfl | rfl | rfl | rfl | rfl <;> rfl
theorem sg_lt {i : Nat} (hi : i < 6) : sg i < 6 := by unfold sg; split <;> omega
theorem in_unique {r s t : List Int} (R : IsRod r) (S : IsPt s) (T : IsPt t) (hn : s ≠ t) (h1 : ¬ Nz (pointL r s)) (h2 : ¬ Nz (pointL r t)) : redF (cutL s t) = r := by
  rw [point_sw_nz] at h1 h2
  refine same_of R.len rfl R.red (cut_nz S T hn) ?_
  intro i j hi hj
  have e := prop_of (r := swL r) rfl S.len T.len h1 h2 (sg i) (sg j) (sg_lt hi) (sg_lt hj)
  rw [sw_gI hi, sw_gI hj] at e
  unfold cutL
  rw [sw_sw hi, sw_sw hj]
  exact e
theorem cut_in (s t : List Int) : ¬ Nz (pointL (cutL s t) t) := by
  rintro ⟨p, hp, p0⟩
  simp only [pointL, List.mem_cons, List.not_mem_nil, or_false] at hp
  apply p0
  simp only [cutL, swL, lineL, gI, List.getD_cons_zero, List.getD_cons_succ] at hp
  rcases hp with rfl | rfl | rfl | rfl <;> grind
theorem cut_iff {r s t : List Int} (R : IsRod r) (S : IsPt s) (T : IsPt t) (hn : s ≠ t) (h1 : ¬ Nz (pointL r s)) : redF (cutL s t) = r ↔ ¬ Nz (pointL r t) := by
  refine ⟨fun e => ?_, fun h2 => in_unique R S T hn h1 h2⟩
  have nz := cut_nz S T hn
  have h := cut_in s t
  rw [← redF_back nz, pointL_mul, nz_mul_iff (facN_nz nz), e] at h
  exact h

end LA

set_option maxHeartbeats 4000000
namespace LA
open PySem L2 PySem.Spec PI
local macro_rules | `(tactic| walk_at "b") => `(tactic| first
  | with_reducible assumption
  | (with_reducible refine Bd.mul ?_ ?_) <;> walk_at "b"
  | (with_reducible refine Bd.sub ?_ ?_) <;> walk_at "b"
  | (with_reducible refine Bd.add ?_ ?_) <;> walk_at "b"
  | (with_reducible refine Bd.neg ?_) <;> walk_at "b"
  | exact natAbs_lt (k := 40) (by decide))
local macro_rules | `(tactic| walk_at "m") => `(tactic| (apply Bd.ok <;> first | walk_at "b" | decide))
local macro_rules | `(tactic| walk_at "p") => `(tactic| (first | exact pre_self | assumption | (refine pre_app ?_; walk_at "p")))
local macro_rules | `(tactic| walk_at "e") => `(tactic| first
  | refine ⟨_, _, opMul_i (.inl ⟨by decide, by decide⟩), ?_⟩
  | refine ⟨_, _, opMul_i (.inr (.inl ⟨by decide, by decide⟩)), ?_⟩
  | (refine ⟨_, _, opMul_i ?_, ?_⟩; · walk_at "m")
  | refine ⟨_, _, rfl, ?_⟩
  | refine ⟨_, rfl, ?_⟩
  | refine ⟨rfl, ?_⟩
  | refine ⟨rfl, rfl, ?_⟩)
local macro_rules | `(tactic| walk_at "d") => `(tactic| first
  | with_reducible refine ok_c ?_
  | with_reducible refine ok_var rfl ?_
  | with_reducible refine ok_op ?_
  | with_reducible refine ok_un ?_
  | with_reducible refine ok_nil ?_
  | with_reducible refine ok_cons ?_
  | with_reducible refine ok_tup ?_
  | with_reducible refine ok_lst ?_
  | with_reducible refine ok_cb ?_
  | with_reducible refine ok_call ?_
  | with_reducible refine ok_callK ?_
  | with_reducible refine ok_sl ?_
  | with_reducible refine ok_nopart ?_
  | with_reducible refine ok_part ?_
  | with_reducible refine ok_B ?_
  | with_reducible refine ok_andT ?_
  | with_reducible refine ok_orT ?_
  | with_reducible refine ok_notT ?_
  | with_reducible refine ok_and ?_
  | with_reducible refine ok_or ?_
  | with_reducible refine ok_not ?_
  | with_reducible refine ok_if ?_
  | with_reducible refine ok_app ?_
  | with_reducible refine ok_lc ?_
  | with_reducible refine ok_yes ?_
  | with_reducible refine ok_src ?_
  | with_reducible refine ok_rng1 ?_
  | with_reducible refine ok_rng2 ?_
  | with_reducible refine ok_zip ?_
  | with_reducible refine sk_nil ?_
  | with_reducible refine sk_seq ?_
  | with_reducible refine sk_ret ?_
  | with_reducible refine sk_drop ?_
  | with_reducible refine sk_if ?_
  | with_reducible refine sk_asg ?_
  | with_reducible refine sk_par ?_
  | with_reducible refine sk_par3 ?_
  | with_reducible refine sk_for ?_
  | with_reducible refine ⟨_, _, gNm1, ?_⟩
  | with_reducible refine ⟨_, _, gUn2, ?_⟩
  | with_reducible refine ⟨_, _, gUn3, ?_⟩
  | with_reducible refine ⟨_, _, opSub_i, ?_⟩
  | with_reducible refine ⟨_, _, opAdd_i, ?_⟩
  | with_reducible refine ⟨_, _, opNe_i, ?_⟩
  | with_reducible refine ⟨_, _, opEq_i, ?_⟩
  | with_reducible refine ⟨_, _, opMod_i (by decide), ?_⟩
  | with_reducible refine ⟨_, _, opDiv_i ⟨by decide, by decide⟩, ?_⟩
  | ((with_reducible refine And.intro ?_ ?_); · rfl)
  | ((fail_if_success (with_reducible refine And.intro ?_ ?_)); (fail_if_success (with_reducible refine OK.imp (Q := fun _ _ => True) ?_ ?_)); (fail_if_success (with_reducible refine SOK.imp (Qn := fun _ _ => True) (Qr := fun _ _ => True) ?_ ?_ ?_)); walk_at "e"))

open PK
theorem bd3' {z : Int} {m : Nat} (h : z.natAbs ≤ m) (c : m ≤ 4) : Bd 3 z := Nat.lt_of_le_of_lt (Nat.le_trans h c) (by decide)
theorem four_factors_ok {n : Nat} {h : HS} (W : Well n h) : OK (F_law_four_factors [.ref n] h) fun v h' => Ext n h h' ∧ ∃ x y z w : Int, v = .tup [.int x, .int y, .int z, .int w] ∧ x * w ≠ y * z ∧ Bd 3 x ∧ Bd 3 y ∧ Bd 3 z ∧ Bd 3 w := by
  unfold F_law_four_factors m_law_four_factors
  refine ok_run ?_
  refine sk_seq (sk_asg (ok_call (ok_cons (ok_var rfl (ok_cons (ok_c (ok_cons (ok_c (ok_nil ⟨rfl, ?_⟩)))))))))
  refine (row_ok (k := 4) (m := 4) W (by decide) (by decide) rfl rfl).imp ?_
  rintro _ h1 ⟨E, r, ns, rfl, rl, q, nl, nb⟩
  obtain ⟨x, y, z, w, rfl⟩ := four nl
  have bx := bd3' (nb x (by simp)) (by decide)
  have b_y := bd3' (nb y (by simp)) (by decide)
  have bz := bd3' (nb z (by simp)) (by decide)
  have bw := bd3' (nb w (by simp)) (by decide)
  refine ⟨_, _, gUn_ref q rfl rfl, ?_⟩
  refine sk_ret (ok_if (ok_B (ok_op (ok_op (ok_var rfl (ok_var rfl ⟨_, _, opMul_i (bx.ok bw (by decide)), ok_op (ok_var rfl (ok_var rfl ⟨_, _, opMul_i (b_y.ok bz (by decide)), _, _, opNe_i, _, rfl, fun c => ?_, fun c => ?_⟩))⟩))))))
  · refine ok_tup (ok_cons (ok_var rfl (ok_cons (ok_var rfl (ok_cons (ok_var rfl (ok_cons (ok_var rfl (ok_nil ⟨by simp, E, x, y, z, w, rfl, ?_, bx, b_y, bz, bw⟩)))))))))
    simpa using c
  · exact ok_tup (ok_cons (ok_c (ok_cons (ok_c (ok_cons (ok_c (ok_cons (ok_c (ok_nil ⟨by simp, E, 1, 2, 1, 1, rfl, by decide, natAbs_lt (by decide), natAbs_lt (by decide), natAbs_lt (by decide), natAbs_lt (by decide)⟩)))))))))
theorem sum_ok {a b : List Int} {x y : Int} {h : HS} {j k : Nat} (la : a.length = 4) (lb : b.length = 4) (bx : Bd j x) (b_y : Bd j y) (ba : BdL k a) (bb : BdL k b) (hk : j + k < 4000) : OK (F_law_sum [.int x, .tup (iL a), .int y, .tup (iL b)] h) fun v h' => v = .tup (iL (redF (mixL x a y b))) ∧ ∃ g, h' = h ++ g := by
  have lm : (mixL x a y b).length = 4 := by simp [mixL, la, lb]
  unfold F_law_sum m_law_sum
  refine ok_run ?_
  refine sk_ret (ok_call (ok_cons (ok_lc (ok_rng1 (ok_cons (ok_cb (ok_cons (ok_var rfl (ok_nil ⟨_, _, rfl, ok_nil ⟨_, rfl, ?_⟩⟩)))))))))
  rw [il_len, la]
  refine ⟨by decide, by decide, 4, fun i h' => h' = h ++ [iL ((mixL x a y b).take i)], Nat.le_refl _, by simp [iL], ?_, ?_⟩
  · rintro k _ hk rfl
    obtain ⟨p, hp⟩ := get_lt (l := a) (i := k) (by rw [la]; exact hk)
    obtain ⟨q, hq⟩ := get_lt (l := b) (i := k) (by rw [lb]; exact hk)
    refine ⟨.int (k : Nat), by simp [Src.get, hk], _, _, gNm1, ok_yes ⟨fun _ => ?_, fun c => (by cases c)⟩⟩
    refine ok_op (ok_op (ok_var rfl (ok_op (ok_var rfl (ok_var rfl ?_)))))
    refine ⟨_, _, opIx_t (PI.atI_nat (il_get hp)), ?_⟩
    refine ⟨_, _, opMul_i (bx.ok (ba p (List.mem_of_getElem? hp)) (by omega)), ?_⟩
    refine ok_op (ok_var rfl (ok_op (ok_var rfl (ok_var rfl ?_))))
    refine ⟨_, _, opIx_t (PI.atI_nat (il_get hq)), ?_⟩
    refine ⟨_, _, opMul_i (b_y.ok (bb q (List.mem_of_getElem? hq)) (by omega)), ?_⟩
    refine ⟨_, _, opAdd_i, ?_⟩
    refine ⟨_, getapp (g := []), by rw [il_len]; simp; omega, ?_⟩
    show _ = _
    rw [setapp, List.take_add_one, show (mixL x a y b)[k]? = some (x * p + y * q) from by unfold mixL; rw [List.getElem?_zipWith, hp, hq], il_app]
    rfl
  · rintro _ rfl
    refine ⟨by simp [Src.get], ok_nil ⟨rfl, ?_⟩⟩
    rw [List.take_of_length_le (by omega)]
    refine (reduced_ref (getapp (g := [])) (by omega) (mix_bd bx b_y ba bb) (by omega)).imp ?_
    rintro _ _ ⟨rfl, g, rfl⟩
    exact ⟨rfl, _, by rw [List.append_assoc]⟩
theorem dot_mix {a p q : List Int} {x y : Int} (la : a.length = 4) (lp : p.length = 4) (lq : q.length = 4) : dotL a (mixL x p y q) = x * dotL a p + y * dotL a q := by
  rw [dotg la (mix_len lp lq), dotg la lp, dotg la lq, gI_mix (by rw [lp, lq]), gI_mix (by rw [lp, lq]), gI_mix (by rw [lp, lq]), gI_mix (by rw [lp, lq])]
  grind
theorem dot_sum {a p q : List Int} {x y : Int} (la : a.length = 4) (lp : p.length = 4) (lq : q.length = 4) (nz : Nz (mixL x p y q)) (h1 : dotL a p = 0) (h2 : dotL a q = 0) : dotL a (redF (mixL x p y q)) = 0 := by
  have e := dot_mix (x := x) (y := y) la lp lq
  rw [dot_back la (mix_len lp lq) nz, h1, h2] at e
  refine zero_of_mul (facN_nz nz) ?_
  rw [e]
  simp
theorem opMul_rep {a : Nat} {k : Int} {h : HS} {l : List D} (q : h[a]? = some l) (hk : -(2 ^ 63) ≤ k ∧ k < 2 ^ 63 ∧ l.length * k.toNat ≤ 100000) : opMul (.ref a) (.int k) h = some (.ref h.length, h ++ [(List.replicate k.toNat l).flatten]) := by
  show (h[a]?).bind _ = _
  rw [q]
  exact if_pos hk

end LA

namespace LB
open PySem L2 PySem.Spec PI
noncomputable section
def m_law_take : DS :=
  (sSeq (sIf (dB (dOp opGt (dOp opIx (dVar 0) (dC (.int 0))) (dC (.int 0)))) (sSeq (sAsg (dCB opDivmod (dCons (dOp opIx (dVar 0) (dC (.int 0))) (dCons (dVar 1) dNil))) (gUn 2 (gConsD (gSubD (dVar 0) (dC (.int 0))) (gConsD (gNm 3) gNilD))))
    (sRet (dVar 3))) sNil)
    (sSeq (sAsg (dOp opAdd (dOp opIx (dVar 0) (dC (.int 2))) (dC (.int 1))) (gSubD (dVar 0) (dC (.int 2))))
    (sSeq (sAsg (dOp opMod (dCB opInt (dCons (dOp opAdd (dOp opMul (dOp opIx (dVar 0) (dC (.int 1))) (dC (.int 39119))) (dOp opMul (dOp opIx (dVar 0) (dC (.int 2))) (dC (.int 70001)))) dNil)) (dC (.int 2147483563))) (gNm 2))
    (sSeq (sAsg (dOp opMod (dCB opInt (dCons (dOp opAdd (dOp opMul (dVar 2) (dOp opAdd (dOp opMod (dCB opInt (dCons (dVar 2) dNil)) (dC (.int 6007))) (dC (.int 24007)))) (dC (.int 19))) dNil)) (dC (.int 2147483579))) (gSubD (dVar 0) (dC (.int 1))))
    (sRet (dOp opMod (dCB opInt (dCons (dOp opDiv (dOp opIx (dVar 0) (dC (.int 1))) (dC (.int 743))) dNil)) (dVar 1)))))))
def F_law_take : DF := run 4 m_law_take
def m_law_gcd : DS :=
  (sSeq (sPar 0 1 (dCons (dCB opAbs (dCons (dVar 0) dNil)) (dCons (dCB opAbs (dCons (dVar 1) dNil)) dNil)))
    (sSeq (sWhile (dB (dOp opGt (dVar 1) (dC (.int 0)))) (sPar 0 1 (dCons (dVar 1) (dCons (dOp opMod (dCB opInt (dCons (dVar 0) dNil)) (dVar 1)) dNil))))
    (sRet (dVar 0))))
def F_law_gcd : DF := run 2 m_law_gcd
def m_law_dot : DS :=
  (sRet (dCB opSum (dCons (dLc (dRng1 (dCons (dCB opLen (dCons (dVar 0) dNil)) dNil)) (gNm 2) dYes (dOp opMul (dOp opIx (dVar 0) (dVar 2)) (dOp opIx (dVar 1) (dVar 2))) [2]) dNil)))
def F_law_dot : DF := run 3 m_law_dot
def m_law_crossed : DS :=
  (sSeq (sAsg (dVar 0) (gUn 3 (gConsD (gNm 2) (gConsD (gNm 3) (gConsD (gNm 4) gNilD)))))
    (sSeq (sAsg (dVar 1) (gUn 3 (gConsD (gNm 5) (gConsD (gNm 6) (gConsD (gNm 7) gNilD)))))
    (sRet (dLst (dCons (dOp opSub (dOp opMul (dVar 3) (dVar 7)) (dOp opMul (dVar 4) (dVar 6))) (dCons (dOp opSub (dOp opMul (dVar 4) (dVar 5)) (dOp opMul (dVar 2) (dVar 7))) (dCons (dOp opSub (dOp opMul (dVar 2) (dVar 6)) (dOp opMul (dVar 3) (dVar 5))) dNil)))))))
def F_law_crossed : DF := run 8 m_law_crossed
def m_law_pick : DS :=
  (sRet (dOp opIx (dVar 1) (dCall 2 F_law_take (dCons (dVar 0) (dCons (dCB opLen (dCons (dVar 1) dNil)) dNil)))))
def F_law_pick : DF := run 2 m_law_pick
def m_law_number : DS :=
  (sRet (dOp opSub (dCall 2 F_law_take (dCons (dVar 0) (dCons (dOp opAdd (dOp opMul (dC (.int 2)) (dVar 1)) (dC (.int 1))) dNil))) (dVar 1)))
def F_law_number : DF := run 2 m_law_number
def m_law_reduced : DS :=
  (sSeq (sAsg (dC (.int 0)) (gNm 1))
    (sSeq (sFor (dSrc (dVar 0)) (gNm 2) (sIf (dB (dOp opNe (dVar 1) (dC (.int 1)))) (sAsg (dCall 2 F_law_gcd (dCons (dVar 1) (dCons (dVar 2) dNil))) (gNm 1)) sNil))
    (sSeq (sIf (dB (dOp opEq (dVar 1) (dC (.int 0)))) (sRet (dCB opTuple (dCons (dVar 0) dNil))) sNil)
    (sSeq (sIf (dB (dOp opLt (dOp opIx (dLc (dSrc (dVar 0)) (gNm 2) (dB (dOp opNe (dVar 2) (dC (.int 0)))) (dVar 2) [2]) (dC (.int 0))) (dC (.int 0)))) (sAsg (dOp opSub (dC (.int 0)) (dVar 1)) (gNm 1)) sNil)
    (sRet (dCB opTuple (dCons (dLc (dSrc (dVar 0)) (gNm 2) dYes (dOp opDiv (dVar 2) (dVar 1)) [2]) dNil)))))))
def F_law_reduced : DF := run 3 m_law_reduced
def m_law_paired : DS :=
  (sRet (dCall 2 F_law_dot (dCons (dVar 0) (dCons (dOp opAdd (dSl opSl (dVar 1) (dPart (dC (.int 3))) dNoPart) (dSl opSl (dVar 1) dNoPart (dPart (dC (.int 3))))) dNil))))
def F_law_paired : DF := run 2 m_law_paired
def m_law_sheet : DS :=
  (sSeq (sAsg (dCall 2 F_law_crossed (dCons (dSl opSl (dVar 0) dNoPart (dPart (dC (.int 3)))) (dCons (dSl opSl (dVar 1) (dPart (dC (.int 1))) dNoPart) dNil))) (gNm 2))
    (sRet (dOp opAdd (dLst (dCons (dOp opSub (dC (.int 0)) (dCall 2 F_law_dot (dCons (dSl opSl (dVar 0) (dPart (dC (.int 3))) dNoPart) (dCons (dSl opSl (dVar 1) (dPart (dC (.int 1))) dNoPart) dNil)))) dNil)) (dLc (dRng1 (dCons (dC (.int 3)) dNil)) (gNm 3) dYes (dOp opAdd (dOp opMul (dOp opIx (dVar 1) (dC (.int 0))) (dOp opIx (dVar 0) (dOp opAdd (dVar 3) (dC (.int 3))))) (dOp opIx (dVar 2) (dVar 3))) [3]))))
def F_law_sheet : DF := run 4 m_law_sheet
def m_law_size : DS :=
  (sRet (dCall 2 F_law_pick (dCons (dVar 0) (dCons (dTup (dCons (dC (.int 1)) (dCons (dC (.int 2)) (dCons (dC (.int 2)) (dCons (dC (.int 3)) (dCons (dC (.int 9)) (dCons (dC (.int 60)) (dCons (dOp opPow (dC (.int 10)) (dC (.int 9))) dNil)))))))) dNil))))
def F_law_size : DF := run 1 m_law_size
def m_law_numbers : DS :=
  (sSeq (sAsg (dLst dNil) (gNm 3))
    (sSeq (sFor (dRng1 (dCons (dVar 1) dNil)) (gNm 4) (sDrop (dApp (dVar 3) (dCall 2 F_law_number (dCons (dVar 0) (dCons (dVar 2) dNil))))))
    (sRet (dVar 3))))
def F_law_numbers : DF := run 5 m_law_numbers
def m_law_joined : DS :=
  (sSeq (sAsg (dLc (dRng1 (dCons (dC (.int 3)) dNil)) (gNm 3) dYes (dOp opSub (dOp opMul (dOp opIx (dVar 0) (dC (.int 0))) (dOp opIx (dVar 1) (dOp opAdd (dVar 3) (dC (.int 1))))) (dOp opMul (dOp opIx (dVar 1) (dC (.int 0))) (dOp opIx (dVar 0) (dOp opAdd (dVar 3) (dC (.int 1)))))) [3]) (gNm 2))
    (sRet (dCall 1 F_law_reduced (dCons (dOp opAdd (dVar 2) (dCall 2 F_law_crossed (dCons (dSl opSl (dVar 0) (dPart (dC (.int 1))) dNoPart) (dCons (dSl opSl (dVar 1) (dPart (dC (.int 1))) dNoPart) dNil)))) dNil))))
def F_law_joined : DF := run 4 m_law_joined
def m_law_ends : DS :=
  (sSeq (sAsg (dVar 0) (gUn 6 (gConsD (gNm 3) (gConsD (gNm 4) (gConsD (gNm 5) (gConsD (gNm 6) (gConsD (gNm 7) (gConsD (gNm 8) gNilD))))))))
    (sSeq (sAsg (dLst (dCons (dTup (dCons (dC (.int 0)) (dCons (dVar 3) (dCons (dVar 4) (dCons (dVar 5) dNil))))) (dCons (dTup (dCons (dVar 3) (dCons (dC (.int 0)) (dCons (dOp opSub (dC (.int 0)) (dVar 8)) (dCons (dVar 7) dNil))))) (dCons (dTup (dCons (dVar 4) (dCons (dVar 8) (dCons (dC (.int 0)) (dCons (dOp opSub (dC (.int 0)) (dVar 6)) dNil))))) (dCons (dTup (dCons (dVar 5) (dCons (dOp opSub (dC (.int 0)) (dVar 7)) (dCons (dVar 6) (dCons (dC (.int 0)) dNil))))) dNil))))) (gNm 1))
    (sSeq (sAsg (dLc (dSrc (dVar 1)) (gNm 9) (dB (dOp opNe (dVar 9) (dTup (dCons (dC (.int 0)) (dCons (dC (.int 0)) (dCons (dC (.int 0)) (dCons (dC (.int 0)) dNil))))))) (dCall 1 F_law_reduced (dCons (dVar 9) dNil)) [9]) (gNm 2))
    (sRet (dLst (dCons (dOp opIx (dVar 2) (dC (.int 0))) (dCons (dOp opIx (dLc (dSrc (dVar 2)) (gNm 10) (dB (dOp opNe (dVar 10) (dOp opIx (dVar 2) (dC (.int 0))))) (dVar 10) [10]) (dC (.int 0))) dNil)))))))
def F_law_ends : DF := run 11 m_law_ends
def m_law_spot : DS :=
  (sSeq (sAsg (dCall 3 F_law_numbers (dCons (dVar 0) (dCons (dC (.int 4)) (dCons (dVar 1) dNil)))) (gNm 2))
    (sSeq (sIf (dOrT (dB (dOp opEq (dVar 2) (dLst (dCons (dC (.int 0)) (dCons (dC (.int 0)) (dCons (dC (.int 0)) (dCons (dC (.int 0)) dNil))))))) (dB (dOp opGt (dCall 2 F_law_take (dCons (dVar 0) (dCons (dC (.int 3)) dNil))) (dC (.int 0))))) (sAsg (dC (.int 1)) (gSubD (dVar 2) (dC (.int 0)))) sNil)
    (sRet (dCall 1 F_law_reduced (dCons (dVar 2) dNil)))))
def F_law_spot : DF := run 3 m_law_spot
def m_law_on : DS :=
  (sSeq (sAsg (dTup (dCons (dCall 1 F_law_ends (dCons (dVar 1) dNil)) (dCons (dCall 2 F_law_number (dCons (dVar 0) (dCons (dC (.int 4)) dNil))) (dCons (dCall 2 F_law_number (dCons (dVar 0) (dCons (dC (.int 4)) dNil))) dNil)))) (gUn 3 (gConsD (gNm 2) (gConsD (gNm 3) (gConsD (gNm 4) gNilD)))))
    (sSeq (sIf (dAndT (dB (dOp opEq (dVar 3) (dC (.int 0)))) (dB (dOp opEq (dVar 4) (dC (.int 0))))) (sAsg (dC (.int 1)) (gNm 3)) sNil)
    (sRet (dCall 1 F_law_reduced (dCons (dLc (dRng1 (dCons (dC (.int 4)) dNil)) (gNm 5) dYes (dOp opAdd (dOp opMul (dVar 3) (dOp opIx (dOp opIx (dVar 2) (dC (.int 0))) (dVar 5))) (dOp opMul (dVar 4) (dOp opIx (dOp opIx (dVar 2) (dC (.int 1))) (dVar 5)))) [5]) dNil)))))
def F_law_on : DF := run 6 m_law_on
def m_law_in_sheet : DS :=
  (sSeq (sAsg (dVar 1) (gUn 4 (gConsD (gNm 7) (gConsD (gNm 8) (gConsD (gNm 9) (gConsD (gNm 10) gNilD))))))
    (sSeq (sAsg (dCall 3 F_law_numbers (dCons (dVar 0) (dCons (dC (.int 6)) (dCons (dC (.int 3)) dNil)))) (gNm 3))
    (sSeq (sPar 11 12 (dCons (dOp opAdd (dOp opAdd (dOp opMul (dOp opIx (dVar 3) (dC (.int 0))) (dVar 8)) (dOp opMul (dOp opIx (dVar 3) (dC (.int 1))) (dVar 9))) (dOp opMul (dOp opIx (dVar 3) (dC (.int 2))) (dVar 10))) (dCons (dOp opSub (dOp opAdd (dOp opMul (dOp opIx (dVar 3) (dC (.int 3))) (dVar 9)) (dOp opMul (dOp opIx (dVar 3) (dC (.int 4))) (dVar 10))) (dOp opMul (dOp opIx (dVar 3) (dC (.int 0))) (dVar 7))) dNil)))
    (sSeq (sAsg (dTup (dCons (dVar 11) (dCons (dVar 12) (dCons (dOp opSub (dOp opSub (dOp opMul (dOp opIx (dVar 3) (dC (.int 5))) (dVar 10)) (dOp opMul (dOp opIx (dVar 3) (dC (.int 1))) (dVar 7))) (dOp opMul (dOp opIx (dVar 3) (dC (.int 3))) (dVar 8))) (dCons (dOp opSub (dOp opSub (dOp opSub (dC (.int 0)) (dOp opMul (dOp opIx (dVar 3) (dC (.int 2))) (dVar 7))) (dOp opMul (dOp opIx (dVar 3) (dC (.int 4))) (dVar 8))) (dOp opMul (dOp opIx (dVar 3) (dC (.int 5))) (dVar 9))) dNil))))) (gNm 4))
    (sSeq (sAsg (dLst (dCons (dVar 4) (dCons (dTup (dCons (dVar 8) (dCons (dOp opSub (dC (.int 0)) (dVar 7)) (dCons (dC (.int 0)) (dCons (dC (.int 0)) dNil))))) (dCons (dTup (dCons (dVar 9) (dCons (dC (.int 0)) (dCons (dOp opSub (dC (.int 0)) (dVar 7)) (dCons (dC (.int 0)) dNil))))) (dCons (dTup (dCons (dVar 10) (dCons (dC (.int 0)) (dCons (dC (.int 0)) (dCons (dOp opSub (dC (.int 0)) (dVar 7)) dNil))))) dNil))))) (gNm 5))
    (sSeq (sAsg (dOp opAdd (dVar 5) (dLst (dCons (dTup (dCons (dC (.int 0)) (dCons (dVar 9) (dCons (dOp opSub (dC (.int 0)) (dVar 8)) (dCons (dC (.int 0)) dNil))))) (dCons (dTup (dCons (dC (.int 0)) (dCons (dVar 10) (dCons (dC (.int 0)) (dCons (dOp opSub (dC (.int 0)) (dVar 8)) dNil))))) (dCons (dTup (dCons (dC (.int 0)) (dCons (dC (.int 0)) (dCons (dVar 10) (dCons (dOp opSub (dC (.int 0)) (dVar 9)) dNil))))) dNil))))) (gNm 5))
    (sSeq (sAsg (dLc (dSrc (dVar 5)) (gNm 13) (dB (dOp opNe (dVar 13) (dTup (dCons (dC (.int 0)) (dCons (dC (.int 0)) (dCons (dC (.int 0)) (dCons (dC (.int 0)) dNil))))))) (dCall 1 F_law_reduced (dCons (dVar 13) dNil)) [13]) (gNm 6))
    (sRet (dOp opIx (dLc (dSrc (dVar 6)) (gNm 13) (dB (dOp opNe (dVar 13) (dVar 2))) (dVar 13) [13]) (dC (.int 0)))))))))))
def F_law_in_sheet : DF := run 14 m_law_in_sheet
def m_law_unlike : DS :=
  (sSeq (sAsg (dCall 2 F_law_spot (dCons (dVar 0) (dCons (dVar 1) dNil))) (gNm 3))
    (sSeq (sIf (dB (dOp opNe (dVar 3) (dVar 2))) (sRet (dVar 3)) sNil)
    (sRet (dIf (dB (dOp opNe (dVar 2) (dTup (dCons (dC (.int 1)) (dCons (dC (.int 0)) (dCons (dC (.int 0)) (dCons (dC (.int 0)) dNil))))))) (dTup (dCons (dC (.int 1)) (dCons (dC (.int 0)) (dCons (dC (.int 0)) (dCons (dC (.int 0)) dNil))))) (dTup (dCons (dC (.int 0)) (dCons (dC (.int 1)) (dCons (dC (.int 0)) (dCons (dC (.int 0)) dNil)))))))))
def F_law_unlike : DF := run 4 m_law_unlike
def m_law_bar : DS :=
  (sSeq (sAsg (dCall 2 F_law_spot (dCons (dVar 0) (dCons (dVar 1) dNil))) (gNm 2))
    (sRet (dCall 2 F_law_joined (dCons (dVar 2) (dCons (dCall 3 F_law_unlike (dCons (dVar 0) (dCons (dVar 1) (dCons (dVar 2) dNil)))) dNil)))))
def F_law_bar : DF := run 3 m_law_bar
def m_law_netted : DS :=
  (sSeq (sAsg (dCall 2 F_law_spot (dCons (dVar 0) (dCons (dVar 2) dNil))) (gNm 3))
    (sSeq (sAsg (dCall 2 F_law_sheet (dCons (dVar 1) (dCons (dVar 3) dNil))) (gNm 4))
    (sSeq (sIf (dB (dOp opEq (dVar 4) (dLst (dCons (dC (.int 0)) (dCons (dC (.int 0)) (dCons (dC (.int 0)) (dCons (dC (.int 0)) dNil))))))) (sRet (dCall 2 F_law_joined (dCons (dVar 3) (dCons (dCall 3 F_law_unlike (dCons (dVar 0) (dCons (dVar 2) (dCons (dVar 3) dNil)))) dNil)))) sNil)
    (sRet (dCall 2 F_law_joined (dCons (dVar 3) (dCons (dCall 3 F_law_in_sheet (dCons (dVar 0) (dCons (dVar 4) (dCons (dVar 3) dNil)))) dNil)))))))
def F_law_netted : DF := run 5 m_law_netted
def m_law_six : DS :=
  (sSeq (sIf (dB (dOp opEq (dCall 2 F_law_take (dCons (dVar 0) (dCons (dC (.int 3)) dNil))) (dC (.int 0)))) (sRet (dCall 2 F_law_bar (dCons (dVar 0) (dCons (dVar 1) dNil)))) sNil)
    (sSeq (sAsg (dCall 3 F_law_numbers (dCons (dVar 0) (dCons (dC (.int 6)) (dCons (dVar 1) dNil)))) (gNm 2))
    (sSeq (sIf (dB (dOp opEq (dVar 2) (dLst (dCons (dC (.int 0)) (dCons (dC (.int 0)) (dCons (dC (.int 0)) (dCons (dC (.int 0)) (dCons (dC (.int 0)) (dCons (dC (.int 0)) dNil))))))))) (sAsg (dLst (dCons (dC (.int 0)) (dCons (dC (.int 0)) (dCons (dC (.int 1)) (dCons (dC (.int 0)) (dCons (dC (.int 0)) (dCons (dC (.int 1)) dNil))))))) (gNm 2)) sNil)
    (sRet (dCall 1 F_law_reduced (dCons (dVar 2) dNil))))))
def F_law_six : DF := run 3 m_law_six
def m_law_twisted : DS :=
  (sSeq (sAsg (dCall 2 F_law_six (dCons (dVar 0) (dCons (dVar 1) dNil))) (gNm 2))
    (sSeq (sIf (dB (dOp opNe (dCall 2 F_law_paired (dCons (dVar 2) (dCons (dVar 2) dNil))) (dC (.int 0)))) (sRet (dVar 2)) sNil)
    (sSeq (sAsg (dIf (dB (dOp opNe (dSl opSl (dVar 2) dNoPart (dPart (dC (.int 3)))) (dTup (dCons (dC (.int 0)) (dCons (dC (.int 0)) (dCons (dC (.int 0)) dNil)))))) (dSl opSl (dVar 2) dNoPart (dPart (dC (.int 3)))) (dSl opSl (dVar 2) (dPart (dC (.int 3))) dNoPart)) (gNm 3))
    (sRet (dCall 1 F_law_reduced (dCons (dOp opAdd (dVar 3) (dCB opTuple (dCons (dLc (dRng1 (dCons (dC (.int 3)) dNil)) (gNm 4) dYes (dOp opAdd (dOp opIx (dVar 2) (dOp opAdd (dVar 4) (dC (.int 3)))) (dOp opIx (dVar 3) (dVar 4))) [4]) dNil))) dNil))))))
def F_law_twisted : DF := run 5 m_law_twisted
def m_law_turned : DS :=
  (sSeq (sAsg (dTup (dCons (dCall 2 F_law_paired (dCons (dVar 0) (dCons (dVar 0) dNil))) (dCons (dCall 2 F_law_paired (dCons (dVar 0) (dCons (dVar 1) dNil))) dNil))) (gUn 2 (gConsD (gNm 2) (gConsD (gNm 3) gNilD))))
    (sRet (dCall 1 F_law_reduced (dCons (dLc (dRng1 (dCons (dC (.int 6)) dNil)) (gNm 4) dYes (dOp opSub (dOp opMul (dVar 2) (dOp opIx (dVar 1) (dVar 4))) (dOp opMul (dOp opMul (dC (.int 2)) (dVar 3)) (dOp opIx (dVar 0) (dVar 4)))) [4]) dNil))))
def F_law_turned : DF := run 5 m_law_turned
def m_law_fraction : DS :=
  (sSeq (sAsg (dCall 2 F_law_gcd (dCons (dVar 0) (dCons (dVar 1) dNil))) (gNm 2))
    (sSeq (sIf (dB (dOp opLt (dVar 1) (dC (.int 0)))) (sAsg (dOp opSub (dC (.int 0)) (dVar 2)) (gNm 2)) sNil)
    (sRet (dTup (dCons (dOp opDiv (dVar 0) (dVar 2)) (dCons (dOp opDiv (dVar 1) (dVar 2)) dNil))))))
def F_law_fraction : DF := run 3 m_law_fraction
def m_law_made : DS :=
  (sSeq (sAsg (dLc (dRng1 (dCons (dC (.int 3)) dNil)) (gNm 4) dYes (dOp opMul (dVar 2) (dOp opIx (dVar 0) (dVar 4))) [4]) (gNm 3))
    (sRet (dCall 1 F_law_reduced (dCons (dOp opAdd (dVar 3) (dLc (dRng1 (dCons (dC (.int 3)) dNil)) (gNm 4) dYes (dOp opAdd (dOp opMul (dVar 2) (dOp opIx (dVar 0) (dOp opAdd (dVar 4) (dC (.int 3))))) (dOp opMul (dVar 1) (dOp opIx (dVar 0) (dVar 4)))) [4])) dNil))))
def F_law_made : DF := run 5 m_law_made
end
end LB

set_option maxHeartbeats 4000000
namespace LB
open PySem L2 PySem.Spec PI
local macro_rules | `(tactic| walk_at "b") => `(tactic| first
  | with_reducible assumption
  | (with_reducible refine Bd.mul ?_ ?_) <;> walk_at "b"
  | (with_reducible refine Bd.sub ?_ ?_) <;> walk_at "b"
  | (with_reducible refine Bd.add ?_ ?_) <;> walk_at "b"
  | (with_reducible refine Bd.neg ?_) <;> walk_at "b"
  | exact natAbs_lt (k := 40) (by decide))
local macro_rules | `(tactic| walk_at "m") => `(tactic| (apply Bd.ok <;> first | walk_at "b" | decide))
local macro_rules | `(tactic| walk_at "p") => `(tactic| (first | exact pre_self | assumption | (refine pre_app ?_; walk_at "p")))
local macro_rules | `(tactic| walk_at "e") => `(tactic| first
  | refine ⟨_, _, opMul_i (.inl ⟨by decide, by decide⟩), ?_⟩
  | refine ⟨_, _, opMul_i (.inr (.inl ⟨by decide, by decide⟩)), ?_⟩
  | (refine ⟨_, _, opMul_i ?_, ?_⟩; · walk_at "m")
  | refine ⟨_, _, rfl, ?_⟩
  | refine ⟨_, rfl, ?_⟩
  | refine ⟨rfl, ?_⟩
  | refine ⟨rfl, rfl, ?_⟩)
local macro_rules | `(tactic| walk_at "d") => `(tactic| first
  | with_reducible refine ok_c ?_
  | with_reducible refine ok_var rfl ?_
  | with_reducible refine ok_op ?_
  | with_reducible refine ok_un ?_
  | with_reducible refine ok_nil ?_
  | with_reducible refine ok_cons ?_
  | with_reducible refine ok_tup ?_
  | with_reducible refine ok_lst ?_
  | with_reducible refine ok_cb ?_
  | with_reducible refine ok_call ?_
  | with_reducible refine ok_callK ?_
  | with_reducible refine ok_sl ?_
  | with_reducible refine ok_nopart ?_
  | with_reducible refine ok_part ?_
  | with_reducible refine ok_B ?_
  | with_reducible refine ok_andT ?_
  | with_reducible refine ok_orT ?_
  | with_reducible refine ok_notT ?_
  | with_reducible refine ok_and ?_
  | with_reducible refine ok_or ?_
  | with_reducible refine ok_not ?_
  | with_reducible refine ok_if ?_
  | with_reducible refine ok_app ?_
  | with_reducible refine ok_lc ?_
  | with_reducible refine ok_yes ?_
  | with_reducible refine ok_src ?_
  | with_reducible refine ok_rng1 ?_
  | with_reducible refine ok_rng2 ?_
  | with_reducible refine ok_zip ?_
  | with_reducible refine sk_nil ?_
  | with_reducible refine sk_seq ?_
  | with_reducible refine sk_ret ?_
  | with_reducible refine sk_drop ?_
  | with_reducible refine sk_if ?_
  | with_reducible refine sk_asg ?_
  | with_reducible refine sk_par ?_
  | with_reducible refine sk_par3 ?_
  | with_reducible refine sk_for ?_
  | with_reducible refine ⟨_, _, gNm1, ?_⟩
  | with_reducible refine ⟨_, _, gUn2, ?_⟩
  | with_reducible refine ⟨_, _, gUn3, ?_⟩
  | with_reducible refine ⟨_, _, opSub_i, ?_⟩
  | with_reducible refine ⟨_, _, opAdd_i, ?_⟩
  | with_reducible refine ⟨_, _, opNe_i, ?_⟩
  | with_reducible refine ⟨_, _, opEq_i, ?_⟩
  | with_reducible refine ⟨_, _, opMod_i (by decide), ?_⟩
  | with_reducible refine ⟨_, _, opDiv_i ⟨by decide, by decide⟩, ?_⟩
  | ((with_reducible refine And.intro ?_ ?_); · rfl)
  | ((fail_if_success (with_reducible refine And.intro ?_ ?_)); (fail_if_success (with_reducible refine OK.imp (Q := fun _ _ => True) ?_ ?_)); (fail_if_success (with_reducible refine SOK.imp (Qn := fun _ _ => True) (Qr := fun _ _ => True) ?_ ?_ ?_)); walk_at "e"))

open PK
theorem euclid {h : HS} : ∀ (n x y : Nat), y < n → SOK (whileGo (dB (dOp opGt (dVar 1) (dC (.int 0)))) (sPar 0 1 (dCons (dVar 1) (dCons (dOp opMod (dCB opInt (dCons (dVar 0) dNil)) (dVar 1)) dNil))) n [some (.int x), some (.int y)] h) (fun e' h' => h' = h ∧ ∃ z, e' = [some (.int ((Nat.gcd x y : Nat) : Int)), z]) (fun _ _ => False)
  | 0, _, _, c => absurd c (Nat.not_lt_zero _)
  | n + 1, x, y, c => by
    refine sk_wstep ?_
    repeat walk_at "d"
    refine ⟨fun q => ?_, fun q => ?_⟩
    · have q2 : 0 < y := by simpa using q
      repeat walk_at "d"
      refine ⟨_, _, opMod_i (by omega), ?_⟩
      repeat walk_at "d"
      have ih := euclid (h := h) n y (x % y) (by have := Nat.mod_lt x q2; omega)
      have e2 : Nat.gcd x y = Nat.gcd y (x % y) := by rw [Nat.gcd_comm x y, Nat.gcd_rec y x, Nat.gcd_comm]
      rw [e2]
      exact ih
    · have q2 : y = 0 := by
        have : ¬ 0 < y := by simpa using q
        omega
      subst q2
      rw [Nat.gcd_zero_right]
      exact ⟨rfl, _, rfl⟩
theorem gcd_ok {a b : Int} {h : HS} : OK (F_law_gcd [.int a, .int b] h) fun v h' => v = .int ((Nat.gcd a.natAbs b.natAbs : Nat) : Int) ∧ h' = h := by
  unfold F_law_gcd m_law_gcd
  refine ok_run ?_
  repeat walk_at "d"
  show SOK (sWhile _ _ [some (.int (if a < 0 then -a else a)), some (.int (if b < 0 then -b else b))] h) _ _
  rw [abs_nat, abs_nat]
  refine (sk_while (b.natAbs + 1) ((euclid _ a.natAbs b.natAbs (Nat.lt_succ_self _)).imp ?_ ?_))
  · rintro _ _ ⟨rfl, z, rfl⟩
    repeat walk_at "d"
    rfl
  · intro _ _ z
    exact z.elim
def Well (n : Nat) (h : HS) : Prop := ∃ a b c : Int, h[n]? = some [.int a, .int b, .int c]
structure Ext (n : Nat) (h h' : HS) : Prop where
  well : Well n h'
  len : h.length ≤ h'.length
  same : ∀ j, j < h.length → j ≠ n → h'[j]? = h[j]?
theorem Ext.refl {n : Nat} {h : HS} (W : Well n h) : Ext n h h := ⟨W, Nat.le_refl _, fun _ _ _ => rfl⟩
theorem Ext.trans {n : Nat} {h1 h2 h3 : HS} (a : Ext n h1 h2) (b : Ext n h2 h3) : Ext n h1 h3 := ⟨b.well, Nat.le_trans a.len b.len, fun j c d => by rw [b.same j (Nat.lt_of_lt_of_le c a.len) d, a.same j c d]⟩
theorem Well.lt {n : Nat} {h : HS} (W : Well n h) : n < h.length := by
  obtain ⟨a, b, c, q⟩ := W
  exact (List.getElem?_eq_some_iff.mp q).1
theorem Ext.app {n : Nat} {h g : HS} (W : Well n h) : Ext n h (h ++ g) := by
  refine ⟨?_, by simp, fun j c _ => List.getElem?_append_left c⟩
  have l := W.lt
  obtain ⟨a, b, c, q⟩ := W
  exact ⟨a, b, c, by rw [List.getElem?_append_left l, q]⟩
theorem Ext.setO {n k : Nat} {h : HS} {l : List D} {h0 : HS} (E : Ext n h0 h) (hk : h0.length ≤ k) (hn : n < h0.length) : Ext n h0 (h.set k l) := by
  refine ⟨?_, by simpa using E.len, fun j c d => ?_⟩
  · obtain ⟨a, b, c, q⟩ := E.well
    exact ⟨a, b, c, by rw [List.getElem?_set_ne (by omega), q]⟩
  · rw [List.getElem?_set_ne (by omega)]
    exact E.same j c d
theorem Ext.at {n : Nat} {h h' : HS} (E : Ext n h h') {j : Nat} {l : List D} (q : h[j]? = some l) (hj : j ≠ n) : h'[j]? = some l := by
  rw [E.same j (List.getElem?_eq_some_iff.mp q).1 hj, q]
theorem take_ok0 {n : Nat} {m : Int} {h : HS} (W : Well n h) (hm : 0 < m) (hm2 : Bd 60 m) : OK (F_law_take [.ref n, .int m] h) fun v h' => ∃ i, v = .int i ∧ 0 ≤ i ∧ i < m ∧ ∃ a b c : Int, h' = h.set n [.int a, .int b, .int c] := by
  obtain ⟨a, b, c, q⟩ := W
  unfold F_law_take m_law_take
  refine ok_run ?_
  repeat walk_at "d"
  refine ⟨_, _, opIx_r q rfl, ?_⟩
  repeat walk_at "d"
  refine ⟨fun _ => ?_, fun _ => ?_⟩
  · repeat walk_at "d"
    refine ⟨_, _, opIx_r q rfl, ?_⟩
    repeat walk_at "d"
    refine ⟨_, _, show opDivmod [.int a, .int m] h = some (.tup [.int (a / m), .int (a % m)], h) from if_pos ⟨hm, Nat.lt_of_le_of_lt hm2.log (by decide)⟩, ?_⟩
    refine ⟨[some (.ref n), some (.int m), none, some (.int (a % m))], h.set n [.int (a / m), .int b, .int c], ?_, ?_⟩
    · show (gSubD (dVar 0) (dC (.int 0)) (.int (a / m)) _ h).bind _ = _
      rw [gsub (a := n) (k := 0) rfl rfl (setD_at q (j := 0) rfl)]
      rfl
    · repeat walk_at "d"
      exact ⟨Int.emod_nonneg _ (by omega), Int.emod_lt_of_pos _ hm, _, _, _, rfl⟩
  · repeat walk_at "d"
    refine ⟨_, _, opIx_r q rfl, ?_⟩
    repeat walk_at "d"
    refine ⟨_, _, gsub (a := n) (k := 2) rfl rfl (setD_at q (j := 2) rfl), ?_⟩
    have q1 := get_set (m := [.int a, .int b, .int (c + 1)]) q
    repeat walk_at "d"
    refine ⟨_, _, opIx_r q1 rfl, ?_⟩
    repeat walk_at "d"
    refine ⟨_, _, opIx_r q1 rfl, ?_⟩
    repeat walk_at "d"
    generalize hs : (b * 39119 + (c + 1) * 70001) % 2147483563 = s
    have s0 : 0 ≤ s := by rw [← hs]; exact Int.emod_nonneg _ (by decide)
    have s1 : s < 2147483563 := by rw [← hs]; exact Int.emod_lt_of_pos _ (by decide)
    refine ⟨_, _, opMul_i (.inl ⟨by omega, by omega⟩), ?_⟩
    repeat walk_at "d"
    refine ⟨_, _, gsub (a := n) (k := 1) rfl rfl (setD_at q1 (j := 1) rfl), ?_⟩
    generalize (s * (s % 6007 + 24007) + 19) % 2147483579 = t
    have q2 := get_set (m := [.int a, .int t, .int (c + 1)]) q1
    repeat walk_at "d"
    refine ⟨_, _, opIx_r q2 rfl, ?_⟩
    repeat walk_at "d"
    refine ⟨_, _, opMod_i hm, ?_⟩
    refine ⟨_, rfl, Int.emod_nonneg _ (by omega), Int.emod_lt_of_pos _ hm, a, t, c + 1, ?_⟩
    exact List.set_set _
theorem take_ok {n : Nat} {m : Int} {h : HS} (W : Well n h) (hm : 0 < m) (hm2 : Bd 60 m) : OK (F_law_take [.ref n, .int m] h) fun v h' => ∃ i, v = .int i ∧ 0 ≤ i ∧ i < m ∧ Ext n h h' ∧ h'.length = h.length := by
  have l := W.lt
  refine (take_ok0 W hm hm2).imp ?_
  rintro _ _ ⟨i, e, h0, h1, a, b, c, rfl⟩
  refine ⟨i, e, h0, h1, ⟨⟨a, b, c, ?_⟩, by simp, fun j _ d => ?_⟩, by simp⟩
  · rw [List.getElem?_set_self l]
  · rw [List.getElem?_set_ne (by omega)]
/-- a size: from 0 on, below 2 ^ 31 -/
def Sz (s : Int) : Prop := 0 ≤ s ∧ s < 2147483648
theorem number_ok {n : Nat} {s : Int} {h : HS} (W : Well n h) (hs : Sz s) : OK (F_law_number [.ref n, .int s] h) fun v h' => ∃ i, v = .int i ∧ Bd 32 i ∧ Ext n h h' ∧ h'.length = h.length := by
  obtain ⟨s0, s1⟩ := hs
  unfold F_law_number m_law_number
  refine ok_run ?_
  repeat walk_at "d"
  refine (take_ok W (by omega) (show (2 * s + 1).natAbs < 2 ^ 60 by omega)).imp ?_
  rintro _ h1 ⟨i, rfl, i0, i1, E, L⟩
  refine ok_var rfl ⟨_, _, opSub_i, _, rfl, show (i - s).natAbs < 2 ^ 32 by omega, E, L⟩
theorem size_ok {n : Nat} {h : HS} (W : Well n h) : OK (F_law_size [.ref n] h) fun v h' => ∃ s, v = .int s ∧ Sz s ∧ Ext n h h' ∧ h'.length = h.length := by
  unfold F_law_size m_law_size
  refine ok_run ?_
  repeat walk_at "d"
  refine ⟨by simp, ?_⟩
  repeat walk_at "d"
  unfold F_law_pick m_law_pick
  refine ok_run ?_
  repeat walk_at "d"
  refine (take_ok W (by decide) (show Bd 60 7 from natAbs_lt (by decide))).imp ?_
  rintro _ h1 ⟨i, rfl, i0, i1, E, L⟩
  have : ∃ s : Int, atI [D.int 1, .int 2, .int 2, .int 3, .int 9, .int 60, .int (10 ^ 9)] i = some (.int s) ∧ Sz s := by
    have : i = 0 ∨ i = 1 ∨ i = 2 ∨ i = 3 ∨ i = 4 ∨ i = 5 ∨ i = 6 := by omega
    rcases this with rfl | rfl | rfl | rfl | rfl | rfl | rfl <;> exact ⟨_, rfl, by decide, by decide⟩
  obtain ⟨s, qs, sz⟩ := this
  exact ⟨.int s, h1, opIx_t qs, s, rfl, sz, E, L⟩
theorem numbers_ok {n k : Nat} {ki s : Int} {h : HS} (W : Well n h) (hk : k ≤ 100) (ek : ki = (k : Nat)) (hs : Sz s) : OK (F_law_numbers [.ref n, .int ki, .int s] h) fun v h' => Ext n h h' ∧ ∃ (r : Nat) (ns : List Int), v = .ref r ∧ h.length ≤ r ∧ h'[r]? = some (iL ns) ∧ ns.length = k ∧ BdL 32 ns := by
  subst ek
  have hn := W.lt
  unfold F_law_numbers m_law_numbers
  refine ok_run ?_
  repeat walk_at "d"
  refine ⟨by simp, ?_⟩
  repeat walk_at "d"
  refine ⟨by omega, by omega, k, fun i e h' => Ext n h h' ∧ (∃ v, e = [some (.ref n), some (.int (k : Nat)), some (.int s), some (.ref h.length), v]) ∧ ∃ ns : List Int, h'[h.length]? = some (iL ns) ∧ ns.length = i ∧ BdL 32 ns, by simp [Src.size], ?_, ?_, ?_⟩
  · exact ⟨Ext.app W, ⟨none, rfl⟩, [], getapp (g := h), rfl, bdl_nil⟩
  · rintro i e h1 hi ⟨E1, ⟨v, rfl⟩, ns, q, nl, nb⟩
    refine ⟨.int (0 + i), by simp [Src.get]; omega, ?_⟩
    repeat walk_at "d"
    refine (number_ok E1.well hs).imp ?_
    rintro _ h2 ⟨x, rfl, bx, E2, L2⟩
    have q2 := E2.at q (by omega)
    refine ⟨iL ns, q2, by rw [il_len]; omega, ?_⟩
    show _ ∧ _ ∧ _
    refine ⟨(E1.trans E2).setO (Nat.le_refl _) hn, ⟨_, rfl⟩, ns ++ [x], ?_, by simp [nl], ?_⟩
    · rw [get_set q2, ← il_snoc]
    · exact nb.app (bdl_cons bx bdl_nil)
  · rintro e h1 ⟨E1, ⟨v, rfl⟩, ns, q, nl, nb⟩
    refine ⟨by simp [Src.get], ?_⟩
    repeat walk_at "d"
    exact ⟨E1, h.length, ns, rfl, Nat.le_refl _, q, nl, nb⟩

end LB

set_option maxHeartbeats 4000000
namespace LB
open PySem L2 PySem.Spec PI
local macro_rules | `(tactic| walk_at "b") => `(tactic| first
  | with_reducible assumption
  | (with_reducible refine Bd.mul ?_ ?_) <;> walk_at "b"
  | (with_reducible refine Bd.sub ?_ ?_) <;> walk_at "b"
  | (with_reducible refine Bd.add ?_ ?_) <;> walk_at "b"
  | (with_reducible refine Bd.neg ?_) <;> walk_at "b"
  | exact natAbs_lt (k := 40) (by decide))
local macro_rules | `(tactic| walk_at "m") => `(tactic| (apply Bd.ok <;> first | walk_at "b" | decide))
local macro_rules | `(tactic| walk_at "p") => `(tactic| (first | exact pre_self | assumption | (refine pre_app ?_; walk_at "p")))
local macro_rules | `(tactic| walk_at "e") => `(tactic| first
  | refine ⟨_, _, opMul_i (.inl ⟨by decide, by decide⟩), ?_⟩
  | refine ⟨_, _, opMul_i (.inr (.inl ⟨by decide, by decide⟩)), ?_⟩
  | (refine ⟨_, _, opMul_i ?_, ?_⟩; · walk_at "m")
  | refine ⟨_, _, rfl, ?_⟩
  | refine ⟨_, rfl, ?_⟩
  | refine ⟨rfl, ?_⟩
  | refine ⟨rfl, rfl, ?_⟩)
local macro_rules | `(tactic| walk_at "d") => `(tactic| first
  | with_reducible refine ok_c ?_
  | with_reducible refine ok_var rfl ?_
  | with_reducible refine ok_op ?_
  | with_reducible refine ok_un ?_
  | with_reducible refine ok_nil ?_
  | with_reducible refine ok_cons ?_
  | with_reducible refine ok_tup ?_
  | with_reducible refine ok_lst ?_
  | with_reducible refine ok_cb ?_
  | with_reducible refine ok_call ?_
  | with_reducible refine ok_callK ?_
  | with_reducible refine ok_sl ?_
  | with_reducible refine ok_nopart ?_
  | with_reducible refine ok_part ?_
  | with_reducible refine ok_B ?_
  | with_reducible refine ok_andT ?_
  | with_reducible refine ok_orT ?_
  | with_reducible refine ok_notT ?_
  | with_reducible refine ok_and ?_
  | with_reducible refine ok_or ?_
  | with_reducible refine ok_not ?_
  | with_reducible refine ok_if ?_
  | with_reducible refine ok_app ?_
  | with_reducible refine ok_lc ?_
  | with_reducible refine ok_yes ?_
  | with_reducible refine ok_src ?_
  | with_reducible refine ok_rng1 ?_
  | with_reducible refine ok_rng2 ?_
  | with_reducible refine ok_zip ?_
  | with_reducible refine sk_nil ?_
  | with_reducible refine sk_seq ?_
  | with_reducible refine sk_ret ?_
  | with_reducible refine sk_drop ?_
  | with_reducible refine sk_if ?_
  | with_reducible refine sk_asg ?_
  | with_reducible refine sk_par ?_
  | with_reducible refine sk_par3 ?_
  | with_reducible refine sk_for ?_
  | with_reducible refine ⟨_, _, gNm1, ?_⟩
  | with_reducible refine ⟨_, _, gUn2, ?_⟩
  | with_reducible refine ⟨_, _, gUn3, ?_⟩
  | with_reducible refine ⟨_, _, opSub_i, ?_⟩
  | with_reducible refine ⟨_, _, opAdd_i, ?_⟩
  | with_reducible refine ⟨_, _, opNe_i, ?_⟩
  | with_reducible refine ⟨_, _, opEq_i, ?_⟩
  | with_reducible refine ⟨_, _, opMod_i (by decide), ?_⟩
  | with_reducible refine ⟨_, _, opDiv_i ⟨by decide, by decide⟩, ?_⟩
  | ((with_reducible refine And.intro ?_ ?_); · rfl)
  | ((fail_if_success (with_reducible refine And.intro ?_ ?_)); (fail_if_success (with_reducible refine OK.imp (Q := fun _ _ => True) ?_ ?_)); (fail_if_success (with_reducible refine SOK.imp (Qn := fun _ _ => True) (Qr := fun _ _ => True) ?_ ?_ ?_)); walk_at "e"))

open PK
open LA (opLen_ref gUn_ref tL tl_len tl_get tl_snoc)
/-- a value that holds these numbers in a row: a tuple or a cell -/
structure Ls (d : D) (ns : List Int) (h : HS) : Prop where
  src : ∃ S : Src, (∀ (g : HS) (Q : Src → HS → Prop), Q S (h ++ g) → (∃ l, d = .tup l ∧ Q (.lst l) (h ++ g)) ∨ (∃ l, d = .rol l ∧ Q (.lst l) (h ++ g)) ∨ ∃ n, d = .ref n ∧ n < (h ++ g).length ∧ Q (.cell n) (h ++ g)) ∧ (∀ g i, S.get (h ++ g) i = some ((iL ns)[i]?)) ∧ (∀ g, S.size (h ++ g) = ns.length)
  tp : ∀ g, opTuple [d] (h ++ g) = some (.tup (iL ns), h ++ g)
  ix : ∀ (g : HS) (k : Nat) (x : Int), ns[k]? = some x → opIx d (.int (k : Nat)) (h ++ g) = some (.int x, h ++ g)
  ln : ∀ g, opLen [d] (h ++ g) = some (.int (ns.length : Nat), h ++ g)
  un : ∀ (g : HS) (n : Nat) (gs : DGs) (e : DEnv), ns.length = n → gUn n gs d e (h ++ g) = gs (iL ns) e (h ++ g)
theorem ls_tup {ns : List Int} {h : HS} : Ls (.tup (iL ns)) ns h := by
  refine ⟨⟨.lst (iL ns), fun g Q q => .inl ⟨_, rfl, q⟩, fun g i => rfl, fun g => il_len⟩, fun g => rfl, fun g k x hx => opIx_t (PI.atI_nat (il_get hx)), fun g => ?_, fun g n gs e hl => ?_⟩
  · show some (D.int (((iL ns).length : Nat) : Int), h ++ g) = _
    rw [il_len]
  · show (if (iL ns).length = n then gs (iL ns) e (h ++ g) else none) = _
    rw [if_pos (by rw [il_len]; exact hl)]
theorem ls_ref {ns : List Int} {r : Nat} {h : HS} (q : h[r]? = some (iL ns)) : Ls (.ref r) ns h := by
  have rl := (List.getElem?_eq_some_iff.mp q).1
  have qg : ∀ g : HS, (h ++ g)[r]? = some (iL ns) := fun g => by rw [List.getElem?_append_left rl, q]
  refine ⟨⟨.cell r, fun g Q q => .inr (.inr ⟨r, rfl, by simp; omega, q⟩), fun g i => ?_, fun g => ?_⟩, fun g => opTuple_ref (qg g), fun g k x hx => opIx_r (qg g) (PI.atI_nat (il_get hx)), fun g => opLen_ref (qg g) il_len, fun g n gs e hl => ?_⟩
  · show ((h ++ g)[r]?).map _ = _
    rw [qg]
    rfl
  · simp [Src.size, qg, il_len]
  · show ((h ++ g)[r]?).bind _ = _
    rw [qg]
    show (if (iL ns).length = n then gs (iL ns) e (h ++ g) else none) = _
    rw [if_pos (by rw [il_len]; exact hl)]
theorem Ls.app {d : D} {ns : List Int} {h g0 : HS} (L : Ls d ns h) : Ls d ns (h ++ g0) := by
  obtain ⟨S, s1, s2, s3⟩ := L.src
  refine ⟨⟨S, fun g Q q => ?_, fun g i => ?_, fun g => ?_⟩, fun g => ?_, fun g k x hx => ?_, fun g => ?_, fun g n gs e hl => ?_⟩
  · rw [List.append_assoc] at q ⊢; exact s1 _ Q q
  · rw [List.append_assoc]; exact s2 _ i
  · rw [List.append_assoc]; exact s3 _
  · rw [List.append_assoc]; exact L.tp _
  · rw [List.append_assoc]; exact L.ix _ k x hx
  · rw [List.append_assoc]; exact L.ln _
  · rw [List.append_assoc]; exact L.un _ n gs e hl
theorem ok_srcS {S : Src} {d : D} {h : HS} {e : DEnv} {i : Nat} {Q : Src → HS → Prop} (s1 : ∀ (g : HS) (Q : Src → HS → Prop), Q S (h ++ g) → (∃ l, d = .tup l ∧ Q (.lst l) (h ++ g)) ∨ (∃ l, d = .rol l ∧ Q (.lst l) (h ++ g)) ∨ ∃ n, d = .ref n ∧ n < (h ++ g).length ∧ Q (.cell n) (h ++ g)) (g : HS) (hv : e[i]? = some (some d)) (p : Q S (h ++ g)) : OK (dSrc (dVar i) e (h ++ g)) Q := ok_src (ok_var hv (s1 g Q p))
theorem ok_srcS0 {S : Src} {d : D} {h : HS} {e : DEnv} {i : Nat} {Q : Src → HS → Prop} (s1 : ∀ (g : HS) (Q : Src → HS → Prop), Q S (h ++ g) → (∃ l, d = .tup l ∧ Q (.lst l) (h ++ g)) ∨ (∃ l, d = .rol l ∧ Q (.lst l) (h ++ g)) ∨ ∃ n, d = .ref n ∧ n < (h ++ g).length ∧ Q (.cell n) (h ++ g)) (hv : e[i]? = some (some d)) (p : Q S h) : OK (dSrc (dVar i) e h) Q := by
  have w := ok_srcS (e := e) (Q := Q) s1 [] hv (by rw [List.append_nil]; exact p)
  rw [List.append_nil] at w
  exact w
theorem firstNz {ns : List Int} : (ns.filter fun x => !(x == 0))[0]? = ns.find? fun x => !(x == 0) := by
  rw [← List.head?_eq_getElem?, List.head?_filter]
theorem reduced_ok {ns : List Int} {d : D} {h : HS} {k : Nat} (L : Ls d ns h) (hz : ns.length ≤ 1000) (sm : BdL k ns) (hk : k < 9000) : OK (F_law_reduced [d] h) fun v h' => v = .tup (iL (redF ns)) ∧ ∃ g, h' = h ++ g := by
  obtain ⟨S, s1, s2, s3⟩ := L.src
  have nil : h = h ++ [] := by simp
  unfold F_law_reduced m_law_reduced
  refine ok_run ?_
  refine sk_seq (sk_asg (ok_c ⟨_, _, gNm1, ?_⟩))
  refine sk_seq (sk_for (ok_srcS0 s1 rfl ?_))
  have g0 : ∀ i, S.get h i = some ((iL ns)[i]?) := fun i => by have := s2 [] i; rwa [List.append_nil] at this
  have z0 : S.size h = ns.length := by have := s3 []; rwa [List.append_nil] at this
  refine ⟨ns.length, fun i e h' => h' = h ∧ ∃ v, e = [some d, some (.int (gcdL (ns.take i))), v], by rw [z0]; exact Nat.le_refl _, ⟨rfl, none, rfl⟩, ?_, ?_⟩
  · rintro i e _ hi ⟨rfl, v, rfl⟩
    obtain ⟨x, hx⟩ := get_lt hi
    refine ⟨.int x, by rw [g0, il_get hx], _, _, gNm1, ?_⟩
    refine sk_if (ok_B (ok_op (ok_var rfl (ok_c ⟨_, _, opNe_i, _, rfl, fun c => ?_, fun c => ?_⟩))))
    · refine sk_asg (ok_call (ok_cons (ok_var rfl (ok_cons (ok_var rfl (ok_nil ⟨rfl, ?_⟩))))))
      refine gcd_ok.imp ?_
      rintro _ _ ⟨rfl, rfl⟩
      refine ⟨_, _, gNm1, rfl, some (.int x), ?_⟩
      rw [gcdL_take hx]
      rfl
    · have c : gcdL (ns.take i) = 1 := by simpa using c
      refine sk_nil ⟨rfl, some (.int x), ?_⟩
      rw [gcdL_take hx, c]
      simp
  · rintro e h' ⟨rfl, v, rfl⟩
    rw [List.take_length]
    refine ⟨by rw [g0]; simp [il_len], ?_⟩
    refine sk_seq (sk_if (ok_B (ok_op (ok_var rfl (ok_c ⟨_, _, opEq_i, _, rfl, fun c => ?_, fun c => sk_nil ?_⟩)))))
    · have c' : gcdL ns = 0 := by simpa using c
      have t := L.tp []
      rw [List.append_nil] at t
      refine sk_ret (ok_cb (ok_cons (ok_var rfl (ok_nil ⟨_, _, t, ?_, [], by simp⟩))))
      unfold redF
      rw [if_pos c']
    · have c' : gcdL ns ≠ 0 := by simpa using c
      have nz := nz_of_gcd c'
      -- the last list
      have fin : ∀ (f : Int) (g : HS) (v : Option D), f = facN ns → SOK (sRet (dCB opTuple (dCons (dLc (dSrc (dVar 0)) (gNm 2) dYes (dOp opDiv (dVar 2) (dVar 1)) [2]) dNil)) [some d, some (.int f), v] (h' ++ g)) (fun _ h_1 => D.non = .tup (iL (redF ns)) ∧ ∃ g, h_1 = h' ++ g) (fun v h'' => v = .tup (iL (redF ns)) ∧ ∃ g, h'' = h' ++ g) := by
        rintro f g v rfl
        refine sk_ret (ok_cb (ok_cons (ok_lc (ok_srcS s1 g rfl ?_))))
        have gg : ∀ (G : HS) i, S.get (h' ++ g ++ G) i = some ((iL ns)[i]?) := fun G i => by rw [List.append_assoc]; exact s2 _ i
        refine ⟨ns.length, fun i h'' => h'' = h' ++ g ++ [iL ((ns.take i).map fun x => x.fdiv (facN ns))], by rw [s3]; exact Nat.le_refl _, by simp [iL], ?_, ?_⟩
        · rintro i _ hi rfl
          obtain ⟨x, hx⟩ := get_lt hi
          refine ⟨.int x, by rw [gg, il_get hx], _, _, gNm1, ok_yes ⟨fun _ => ?_, fun c => (by cases c)⟩⟩
          refine ok_op (ok_var rfl (ok_var rfl ⟨_, _, opDiv_f ⟨facN_nz nz, PK.log9 (facN_bd sm) hk⟩, _, getapp (g := []), by simp [il_len]; omega, ?_⟩))
          show _ = _
          rw [setapp, map_take hx, il_app]
          rfl
        · rintro _ rfl
          refine ⟨by rw [gg]; simp [il_len], ok_nil ⟨_, _, opTuple_ref (getapp (g := [])), ?_, g ++ [iL ((ns.take ns.length).map fun x => x.fdiv (facN ns))], by rw [List.append_assoc]⟩⟩
          rw [List.take_length, redF_fdiv nz]
      refine sk_seq (sk_if (ok_B (ok_op (ok_op (ok_lc (ok_srcS0 s1 rfl ?_))))))
      refine ⟨ns.length, fun i h'' => h'' = h' ++ [iL ((ns.take i).filter fun x => !(x == 0))], by rw [z0]; exact Nat.le_refl _, by simp [iL], ?_, ?_⟩
      · rintro i _ hi rfl
        obtain ⟨x, hx⟩ := get_lt hi
        refine ⟨.int x, by rw [s2, il_get hx], _, _, gNm1, ?_⟩
        refine ok_B (ok_op (ok_var rfl (ok_c ⟨_, _, opNe_i, _, rfl, fun c => ?_, fun c => ?_⟩)))
        · refine ok_var rfl ⟨_, getapp (g := []), by rw [il_len]; have := List.length_filter_le (fun x => !(x == 0)) (ns.take i); rw [List.length_take] at this; omega, ?_⟩
          show _ = _
          rw [setapp, List.take_add_one, hx, Option.toList_some, List.filter_append, show [x].filter (fun x => !(x == 0)) = [x] from by simp only [List.filter, c], il_app]
          rfl
        · show _ = _
          rw [List.take_add_one, hx, Option.toList_some, List.filter_append, show [x].filter (fun x => !(x == 0)) = [] from by simp only [List.filter, c], List.append_nil]
      · rintro _ rfl
        refine ⟨by rw [s2]; simp [il_len], ?_⟩
        rw [List.take_length]
        have lm := (lead_mem nz).2
        have e0 : (ns.filter fun x => !(x == 0))[0]? = some (lead ns) := by
          rw [firstNz]
          unfold lead at lm ⊢
          cases q : ns.find? fun x => !(x == 0) with
          | none => rw [q] at lm; exact absurd rfl lm
          | some y => rfl
        refine ok_c ⟨_, _, opIx_r (getapp (g := [])) (PI.atI_nat (a := 0) (il_get e0)), ok_c ⟨_, _, rfl, _, rfl, fun c => ?_, fun c => ?_⟩⟩
        · have : lead ns < 0 := of_decide_eq_true c
          refine sk_asg (ok_op (ok_c (ok_var rfl ⟨_, _, opSub_i, _, _, gNm1, fin _ _ _ ?_⟩)))
          unfold facN sgn
          rw [if_pos this]
          omega
        · have : ¬ lead ns < 0 := of_decide_eq_false c
          refine sk_nil (fin _ _ _ ?_)
          unfold facN sgn
          rw [if_neg this]
          omega

end LB

set_option maxHeartbeats 4000000
namespace LB
open PySem L2 PySem.Spec PI
local macro_rules | `(tactic| walk_at "b") => `(tactic| first
  | with_reducible assumption
  | (with_reducible refine Bd.mul ?_ ?_) <;> walk_at "b"
  | (with_reducible refine Bd.sub ?_ ?_) <;> walk_at "b"
  | (with_reducible refine Bd.add ?_ ?_) <;> walk_at "b"
  | (with_reducible refine Bd.neg ?_) <;> walk_at "b"
  | exact natAbs_lt (k := 40) (by decide))
local macro_rules | `(tactic| walk_at "m") => `(tactic| (apply Bd.ok <;> first | walk_at "b" | decide | omega))
local macro_rules | `(tactic| walk_at "p") => `(tactic| (first | exact pre_self | assumption | (refine pre_app ?_; walk_at "p")))
local macro_rules | `(tactic| walk_at "e") => `(tactic| first
  | refine ⟨_, _, opMul_i (.inl ⟨by decide, by decide⟩), ?_⟩
  | refine ⟨_, _, opMul_i (.inr (.inl ⟨by decide, by decide⟩)), ?_⟩
  | (refine ⟨_, _, opMul_i ?_, ?_⟩; · walk_at "m")
  | refine ⟨_, _, rfl, ?_⟩
  | refine ⟨_, rfl, ?_⟩
  | refine ⟨rfl, ?_⟩
  | refine ⟨rfl, rfl, ?_⟩)
local macro_rules | `(tactic| walk_at "d") => `(tactic| first
  | with_reducible refine ok_c ?_
  | with_reducible refine ok_var rfl ?_
  | with_reducible refine ok_op ?_
  | with_reducible refine ok_un ?_
  | with_reducible refine ok_nil ?_
  | with_reducible refine ok_cons ?_
  | with_reducible refine ok_tup ?_
  | with_reducible refine ok_lst ?_
  | with_reducible refine ok_cb ?_
  | with_reducible refine ok_call ?_
  | with_reducible refine ok_callK ?_
  | with_reducible refine ok_sl ?_
  | with_reducible refine ok_nopart ?_
  | with_reducible refine ok_part ?_
  | with_reducible refine ok_B ?_
  | with_reducible refine ok_andT ?_
  | with_reducible refine ok_orT ?_
  | with_reducible refine ok_notT ?_
  | with_reducible refine ok_and ?_
  | with_reducible refine ok_or ?_
  | with_reducible refine ok_not ?_
  | with_reducible refine ok_if ?_
  | with_reducible refine ok_app ?_
  | with_reducible refine ok_lc ?_
  | with_reducible refine ok_yes ?_
  | with_reducible refine ok_src ?_
  | with_reducible refine ok_rng1 ?_
  | with_reducible refine ok_rng2 ?_
  | with_reducible refine ok_zip ?_
  | with_reducible refine sk_nil ?_
  | with_reducible refine sk_seq ?_
  | with_reducible refine sk_ret ?_
  | with_reducible refine sk_drop ?_
  | with_reducible refine sk_if ?_
  | with_reducible refine sk_asg ?_
  | with_reducible refine sk_par ?_
  | with_reducible refine sk_par3 ?_
  | with_reducible refine sk_for ?_
  | with_reducible refine ⟨_, _, gNm1, ?_⟩
  | with_reducible refine ⟨_, _, gUn2, ?_⟩
  | with_reducible refine ⟨_, _, gUn3, ?_⟩
  | with_reducible refine ⟨_, _, opSub_i, ?_⟩
  | with_reducible refine ⟨_, _, opAdd_i, ?_⟩
  | with_reducible refine ⟨_, _, opNe_i, ?_⟩
  | with_reducible refine ⟨_, _, opEq_i, ?_⟩
  | with_reducible refine ⟨_, _, opMod_i (by decide), ?_⟩
  | with_reducible refine ⟨_, _, opDiv_i ⟨by decide, by decide⟩, ?_⟩
  | ((with_reducible refine And.intro ?_ ?_); · rfl)
  | ((fail_if_success (with_reducible refine And.intro ?_ ?_)); (fail_if_success (with_reducible refine OK.imp (Q := fun _ _ => True) ?_ ?_)); (fail_if_success (with_reducible refine SOK.imp (Qn := fun _ _ => True) (Qr := fun _ _ => True) ?_ ?_ ?_)); walk_at "e"))

open PK
open LA (opLen_ref gUn_ref tL tl_len tl_get tl_snoc)
theorem Ls.un0 {d : D} {ns : List Int} {h : HS} (L : Ls d ns h) {n : Nat} {gs : DGs} {e : DEnv} (hl : ns.length = n) : gUn n gs d e h = gs (iL ns) e h := by
  have := L.un [] n gs e hl
  rwa [List.append_nil] at this
theorem Ls.ln0 {d : D} {ns : List Int} {h : HS} (L : Ls d ns h) : opLen [d] h = some (.int (ns.length : Nat), h) := by
  have := L.ln []
  rwa [List.append_nil] at this
theorem Ls.ix0 {d : D} {ns : List Int} {h : HS} (L : Ls d ns h) {k : Nat} {x : Int} (hx : ns[k]? = some x) : opIx d (.int (k : Nat)) h = some (.int x, h) := by
  have := L.ix [] k x hx
  rwa [List.append_nil] at this
theorem ldot_ok {d1 d2 : D} {a b : List Int} {h : HS} {j k : Nat} (L1 : Ls d1 a h) (L2 : Ls d2 b h) (hl : b.length = a.length) (hz : a.length ≤ 1000) (ha : BdL j a) (hb : BdL k b) (c : j + k < 1000000) : OK (F_law_dot [d1, d2] h) fun v h' => v = .int (dotL a b) ∧ ∃ g, h' = h ++ g := by
  obtain ⟨N, hN⟩ : ∃ N : Int, N = (a.length : Nat) := ⟨_, rfl⟩
  have ln := L1.ln0
  rw [← hN] at ln
  unfold F_law_dot m_law_dot
  refine ok_run ?_
  refine sk_ret (ok_cb (ok_cons (ok_lc (ok_rng1 (ok_cons (ok_cb (ok_cons (ok_var rfl (ok_nil ⟨_, _, ln, ok_nil ⟨_, rfl, ?_⟩⟩)))))))))
  refine ⟨by omega, by omega, a.length, fun i h' => h' = h ++ [iL ((List.zipWith (· * ·) a b).take i)], by show a.length ≤ N.toNat; omega, by simp [iL], ?_, ?_⟩
  · rintro i _ hi rfl
    obtain ⟨x, hx⟩ := get_lt (l := a) (i := i) (by omega)
    obtain ⟨y, hy⟩ := get_lt (l := b) (i := i) (by omega)
    refine ⟨.int (i : Nat), by simp [Src.get]; omega, _, _, gNm1, ok_yes ⟨fun _ => ?_, fun c => (by cases c)⟩⟩
    refine ok_op (ok_op (ok_var rfl (ok_var rfl ⟨_, _, L1.ix _ i x hx, ok_op (ok_var rfl (ok_var rfl ⟨_, _, L2.ix _ i y hy, _, _, opMul_i ((ha x (List.mem_of_getElem? hx)).ok (hb y (List.mem_of_getElem? hy)) c), ?_⟩))⟩)))
    refine ⟨_, getapp (g := []), by simp [il_len]; omega, ?_⟩
    show _ = _
    rw [setapp, List.take_add_one, zip_get hx hy, il_app]
    rfl
  · rintro _ rfl
    refine ⟨by simp [Src.get]; omega, ok_nil ⟨_, _, sum_eq (getapp (g := [])), ?_, _, rfl⟩⟩
    have e : (List.zipWith (fun x1 x2 : Int => x1 * x2) a b).take a.length = List.zipWith (fun x1 x2 => x1 * x2) a b := List.take_of_length_le (by rw [List.length_zipWith]; omega)
    rw [e]
    rfl
theorem crossed_ok {d1 d2 : D} {a b c p q r : Int} {h : HS} {k : Nat} (L1 : Ls d1 [a, b, c] h) (L2 : Ls d2 [p, q, r] h) (ha : BdL k [a, b, c]) (hb : BdL k [p, q, r]) (hk : k < 400000) : OK (F_law_crossed [d1, d2] h) fun v h' => v = .ref h.length ∧ h' = h ++ [iL [b * r - c * q, c * p - a * r, a * q - b * p]] := by
  have A := ha a (by simp)
  have B := ha b (by simp)
  have C := ha c (by simp)
  have P := hb p (by simp)
  have Q := hb q (by simp)
  have R := hb r (by simp)
  have m : ∀ {i j : Int}, Bd k i → Bd k j → MulOk i j := fun a b => a.ok b (by omega)
  unfold F_law_crossed m_law_crossed
  refine ok_run ?_
  refine sk_seq (sk_asg (ok_var rfl ⟨_, _, (L1.un0 rfl).trans rfl, ?_⟩))
  refine sk_seq (sk_asg (ok_var rfl ⟨_, _, (L2.un0 rfl).trans rfl, ?_⟩))
  refine sk_ret (ok_lst ?_)
  refine ok_cons (ok_op (ok_op (ok_var rfl (ok_var rfl ⟨_, _, opMul_i (m B R), ok_op (ok_var rfl (ok_var rfl ⟨_, _, opMul_i (m C Q), _, _, opSub_i, ?_⟩))⟩))))
  refine ok_cons (ok_op (ok_op (ok_var rfl (ok_var rfl ⟨_, _, opMul_i (m C P), ok_op (ok_var rfl (ok_var rfl ⟨_, _, opMul_i (m A R), _, _, opSub_i, ?_⟩))⟩))))
  refine ok_cons (ok_op (ok_op (ok_var rfl (ok_var rfl ⟨_, _, opMul_i (m A Q), ok_op (ok_var rfl (ok_var rfl ⟨_, _, opMul_i (m B P), _, _, opSub_i, ?_⟩))⟩))))
  exact ok_nil ⟨by simp, rfl, rfl⟩
theorem dot_rp {a b : List Int} (la : a.length = 6) (lb : b.length = 6) : dotL a (b.drop 3 ++ b.take 3) = rp a b := by
  obtain ⟨a, b, c, d, e, f, rfl⟩ := six la
  obtain ⟨p, q, r, s, t, u, rfl⟩ := six lb
  show a * s + (b * t + (c * u + (d * p + (e * q + (f * r + 0))))) = a * s + b * t + c * u + d * p + e * q + f * r
  omega
theorem paired_ok {a b : List Int} {h : HS} {j k : Nat} (la : a.length = 6) (lb : b.length = 6) (ha : BdL j a) (hb : BdL k b) (c : j + k < 1000000) : OK (F_law_paired [.tup (iL a), .tup (iL b)] h) fun v h' => v = .int (rp a b) ∧ ∃ g, h' = h ++ g := by
  unfold F_law_paired m_law_paired
  refine ok_run ?_
  repeat walk_at "d"
  rw [show cutD (iL b) none (some 3) = iL (b.take 3) from cut_lo, show cutD (iL b) (some 3) none = iL (b.drop 3) from cut_hi]
  refine ⟨_, _, opAdd_t (by simp [il_len]; omega), ?_⟩
  rw [← il_app]
  refine ok_nil ⟨rfl, ?_⟩
  rw [← dot_rp la lb]
  exact ldot_ok ls_tup ls_tup (by simp; omega) (by omega) ha (hb.drop.app hb.take) c
theorem bdl_get {k i : Nat} {l : List Int} {x : Int} (h : BdL k l) (hx : l[i]? = some x) : Bd k x := h x (List.mem_of_getElem? hx)
theorem joined_ok {a b : List Int} {h : HS} {k : Nat} (la : a.length = 4) (lb : b.length = 4) (ha : BdL k a) (hb : BdL k b) (hk : k < 1000) : OK (F_law_joined [.tup (iL a), .tup (iL b)] h) fun v h' => v = .tup (iL (redF (lineL a b))) ∧ ∃ g, h' = h ++ g := by
  have bl := line_bd ha hb
  obtain ⟨a0, a1, a2, a3, rfl⟩ := four la
  obtain ⟨b0, b1, b2, b3, rfl⟩ := four lb
  obtain ⟨A0, A1, A2, A3⟩ := bd4 ha
  obtain ⟨B0, B1, B2, B3⟩ := bd4 hb
  have m : ∀ {i j : Int}, Bd k i → Bd k j → MulOk i j := fun a b => a.ok b (by omega)
  unfold F_law_joined m_law_joined
  refine ok_run ?_
  refine sk_seq (sk_asg (ok_lc (ok_rng1 (ok_cons (ok_c (ok_nil ⟨_, rfl, by decide, by decide, 3, fun i h' => h' = h ++ [iL ([a0 * b1 - b0 * a1, a0 * b2 - b0 * a2, a0 * b3 - b0 * a3].take i)], Nat.le_refl _, rfl, ?_, ?_⟩))))))
  · rintro i _ hi rfl
    refine ⟨.int (0 + i), by simp [Src.get, hi], ?_⟩
    have hi' : i = 0 ∨ i = 1 ∨ i = 2 := by omega
    rcases hi' with rfl | rfl | rfl <;> (
      repeat walk_at "d"
      refine ⟨fun _ => ?_, fun c => (by cases c)⟩
      repeat walk_at "d"
      refine ⟨_, getapp (g := []), by simp [iL], ?_⟩
      show _ = _
      rw [setapp]
      rfl)
  · rintro _ rfl
    refine ⟨by simp [Src.get], _, _, gNm1, ?_⟩
    repeat walk_at "d"
    rw [show cutD (iL [a0, a1, a2, a3]) (some 1) none = iL [a1, a2, a3] from cut_hi (k := 1), show cutD (iL [b0, b1, b2, b3]) (some 1) none = iL [b1, b2, b3] from cut_hi (k := 1)]
    refine (crossed_ok ls_tup ls_tup (bdl3 A1 A2 A3) (bdl3 B1 B2 B3) (by omega)).imp ?_
    rintro _ _ ⟨rfl, rfl⟩
    refine ⟨_, _, opAdd_r (l := iL [a0 * b1 - b0 * a1, a0 * b2 - b0 * a2, a0 * b3 - b0 * a3]) (m := iL [a2 * b3 - a3 * b2, a3 * b1 - a1 * b3, a1 * b2 - a2 * b1]) (by simp) (by simp) (by simp [iL]), ok_nil ⟨rfl, ?_⟩⟩
    rw [← il_app]
    have e : [a0 * b1 - b0 * a1, a0 * b2 - b0 * a2, a0 * b3 - b0 * a3] ++ [a2 * b3 - a3 * b2, a3 * b1 - a1 * b3, a1 * b2 - a2 * b1] = lineL [a0, a1, a2, a3] [b0, b1, b2, b3] := by simp [lineL, gI]
    rw [e]
    refine (reduced_ok (ls_ref (getapp (g := []))) (by simp [lineL]) bl (by omega)).imp ?_
    rintro _ _ ⟨rfl, g, rfl⟩
    exact ⟨rfl, _, by simp only [List.append_assoc]; rfl⟩
theorem sheet_ok {s x : List Int} {h : HS} {k : Nat} (ls : s.length = 6) (lx : x.length = 4) (hs : BdL k s) (hx : BdL k x) (hk : k < 1000) : OK (F_law_sheet [.tup (iL s), .tup (iL x)] h) fun v h' => ∃ r g, v = .ref r ∧ h' = h ++ g ∧ h.length ≤ r ∧ h'[r]? = some (iL (planeL s x)) := by
  obtain ⟨s0, s1, s2, s3, s4, s5, rfl⟩ := six ls
  obtain ⟨x0, x1, x2, x3, rfl⟩ := four lx
  obtain ⟨S0, S1, S2, S3, S4, S5⟩ := bd6 hs
  obtain ⟨X0, X1, X2, X3⟩ := bd4 hx
  unfold F_law_sheet m_law_sheet
  refine ok_run ?_
  repeat walk_at "d"
  rw [show cutD (iL [s0, s1, s2, s3, s4, s5]) none (some 3) = iL [s0, s1, s2] from cut_lo (k := 3), show cutD (iL [x0, x1, x2, x3]) (some 1) none = iL [x1, x2, x3] from cut_hi (k := 1)]
  refine (crossed_ok ls_tup ls_tup (bdl3 S0 S1 S2) (bdl3 X1 X2 X3) (by omega)).imp ?_
  rintro _ _ ⟨rfl, rfl⟩
  refine ⟨_, _, gNm1, ?_⟩
  repeat walk_at "d"
  rw [show cutD (iL [s0, s1, s2, s3, s4, s5]) (some 3) none = iL [s3, s4, s5] from cut_hi (k := 3), show cutD (iL [x0, x1, x2, x3]) (some 1) none = iL [x1, x2, x3] from cut_hi (k := 1)]
  refine (ldot_ok (j := k) (k := k) (a := [s3, s4, s5]) (b := [x1, x2, x3]) ls_tup ls_tup rfl (by simp) (bdl3 S3 S4 S5) (bdl3 X1 X2 X3) (by omega)).imp ?_
  rintro _ _ ⟨rfl, g, rfl⟩
  refine ⟨_, _, opSub_i, ok_nil ⟨by simp, ?_⟩⟩
  generalize hv : (0 : Int) - dotL [s3, s4, s5] [x1, x2, x3] = z
  have qb : ∀ G : HS, (h ++ [iL [s1 * x3 - s2 * x2, s2 * x1 - s0 * x3, s0 * x2 - s1 * x1]] ++ g ++ G)[h.length]? = some (iL [s1 * x3 - s2 * x2, s2 * x1 - s0 * x3, s0 * x2 - s1 * x1]) := fun G => by rw [List.append_assoc]; exact getapp2
  generalize hG : h ++ [iL [s1 * x3 - s2 * x2, s2 * x1 - s0 * x3, s0 * x2 - s1 * x1]] ++ g = H at *
  refine ok_lc (ok_rng1 (ok_cons (ok_c (ok_nil ⟨_, rfl, by decide, by decide, 3, fun i h' => h' = H ++ [[.int z]] ++ [iL ([x0 * s3 + (s1 * x3 - s2 * x2), x0 * s4 + (s2 * x1 - s0 * x3), x0 * s5 + (s0 * x2 - s1 * x1)].take i)], Nat.le_refl _, rfl, ?_, ?_⟩))))
  · rintro i _ hi rfl
    refine ⟨.int (0 + i), by simp [Src.get, hi], ?_⟩
    have hi' : i = 0 ∨ i = 1 ∨ i = 2 := by omega
    rcases hi' with rfl | rfl | rfl <;> (
      repeat walk_at "d"
      refine ⟨fun _ => ?_, fun c => (by cases c)⟩
      repeat walk_at "d"
      refine ⟨_, _, opIx_r (by rw [List.append_assoc]; exact qb _) rfl, ?_⟩
      repeat walk_at "d"
      refine ⟨_, getapp (g := []), by simp [iL], ?_⟩
      show _ = _
      rw [setapp]
      rfl)
  · rintro _ rfl
    refine ⟨by simp [Src.get], ?_⟩
    refine ⟨_, _, opAdd_r (l := [.int z]) (m := iL [x0 * s3 + (s1 * x3 - s2 * x2), x0 * s4 + (s2 * x1 - s0 * x3), x0 * s5 + (s0 * x2 - s1 * x1)]) (by simp) (getapp (g := [])) (by simp [iL]), ?_⟩
    refine ⟨_, _, rfl, by rw [← hG]; simp only [List.append_assoc]; rfl, by rw [← hG]; simp <;> omega, ?_⟩
    rw [getapp (g := [])]
    rw [← hv, dot3]
    simp [iL, planeL, gI]

end LB

set_option maxHeartbeats 4000000
namespace LB
open PySem L2 PySem.Spec PI
local macro_rules | `(tactic| walk_at "b") => `(tactic| first
  | with_reducible assumption
  | (with_reducible refine Bd.mul ?_ ?_) <;> walk_at "b"
  | (with_reducible refine Bd.sub ?_ ?_) <;> walk_at "b"
  | (with_reducible refine Bd.add ?_ ?_) <;> walk_at "b"
  | (with_reducible refine Bd.neg ?_) <;> walk_at "b"
  | exact natAbs_lt (k := 40) (by decide))
local macro_rules | `(tactic| walk_at "m") => `(tactic| (apply Bd.ok <;> first | walk_at "b" | decide | omega))
local macro_rules | `(tactic| walk_at "p") => `(tactic| (first | exact pre_self | assumption | (refine pre_app ?_; walk_at "p")))
local macro_rules | `(tactic| walk_at "e") => `(tactic| first
  | refine ⟨_, _, opMul_i (.inl ⟨by decide, by decide⟩), ?_⟩
  | refine ⟨_, _, opMul_i (.inr (.inl ⟨by decide, by decide⟩)), ?_⟩
  | (refine ⟨_, _, opMul_i ?_, ?_⟩; · walk_at "m")
  | refine ⟨_, _, rfl, ?_⟩
  | refine ⟨_, rfl, ?_⟩
  | refine ⟨rfl, ?_⟩
  | refine ⟨rfl, rfl, ?_⟩)
local macro_rules | `(tactic| walk_at "d") => `(tactic| first
  | with_reducible refine ok_c ?_
  | with_reducible refine ok_var rfl ?_
  | with_reducible refine ok_op ?_
  | with_reducible refine ok_un ?_
  | with_reducible refine ok_nil ?_
  | with_reducible refine ok_cons ?_
  | with_reducible refine ok_tup ?_
  | with_reducible refine ok_lst ?_
  | with_reducible refine ok_cb ?_
  | with_reducible refine ok_call ?_
  | with_reducible refine ok_callK ?_
  | with_reducible refine ok_sl ?_
  | with_reducible refine ok_nopart ?_
  | with_reducible refine ok_part ?_
  | with_reducible refine ok_B ?_
  | with_reducible refine ok_andT ?_
  | with_reducible refine ok_orT ?_
  | with_reducible refine ok_notT ?_
  | with_reducible refine ok_and ?_
  | with_reducible refine ok_or ?_
  | with_reducible refine ok_not ?_
  | with_reducible refine ok_if ?_
  | with_reducible refine ok_app ?_
  | with_reducible refine ok_lc ?_
  | with_reducible refine ok_yes ?_
  | with_reducible refine ok_src ?_
  | with_reducible refine ok_rng1 ?_
  | with_reducible refine ok_rng2 ?_
  | with_reducible refine ok_zip ?_
  | with_reducible refine sk_nil ?_
  | with_reducible refine sk_seq ?_
  | with_reducible refine sk_ret ?_
  | with_reducible refine sk_drop ?_
  | with_reducible refine sk_if ?_
  | with_reducible refine sk_asg ?_
  | with_reducible refine sk_par ?_
  | with_reducible refine sk_par3 ?_
  | with_reducible refine sk_for ?_
  | with_reducible refine ⟨_, _, gNm1, ?_⟩
  | with_reducible refine ⟨_, _, gUn2, ?_⟩
  | with_reducible refine ⟨_, _, gUn3, ?_⟩
  | with_reducible refine ⟨_, _, opSub_i, ?_⟩
  | with_reducible refine ⟨_, _, opAdd_i, ?_⟩
  | with_reducible refine ⟨_, _, opNe_i, ?_⟩
  | with_reducible refine ⟨_, _, opEq_i, ?_⟩
  | with_reducible refine ⟨_, _, opMod_i (by decide), ?_⟩
  | with_reducible refine ⟨_, _, opDiv_i ⟨by decide, by decide⟩, ?_⟩
  | ((with_reducible refine And.intro ?_ ?_); · rfl)
  | ((fail_if_success (with_reducible refine And.intro ?_ ?_)); (fail_if_success (with_reducible refine OK.imp (Q := fun _ _ => True) ?_ ?_)); (fail_if_success (with_reducible refine SOK.imp (Qn := fun _ _ => True) (Qr := fun _ _ => True) ?_ ?_ ?_)); walk_at "e"))

open PK
open LA (opLen_ref gUn_ref tL tl_len tl_get tl_snoc nz_ne)
theorem b32 {z : Int} (h : z.natAbs ≤ 10) : Bd 32 z := Nat.lt_of_le_of_lt h (by decide)
theorem spot_ok {n : Nat} {s : Int} {h : HS} (W : Well n h) (hs : Sz s) : OK (F_law_spot [.ref n, .int s] h) fun v h' => Ext n h h' ∧ ∃ p, v = .tup (iL p) ∧ IsPt p ∧ BdL 32 p := by
  have hn := W.lt
  unfold F_law_spot m_law_spot
  refine ok_run ?_
  refine sk_seq (sk_asg (ok_call (ok_cons (ok_var rfl (ok_cons (ok_c (ok_cons (ok_var rfl (ok_nil ⟨rfl, ?_⟩)))))))))
  refine (numbers_ok (k := 4) W (by decide) rfl hs).imp ?_
  rintro _ h1 ⟨E1, r, ns, rfl, rl, q, nl, nb⟩
  refine ⟨_, _, gNm1, ?_⟩
  obtain ⟨a, b, c, d, rfl⟩ := four nl
  have rn : r ≠ n := by omega
  have last : ∀ (h2 : HS) (p : List Int), Ext n h h2 → h2[r]? = some (iL p) → p.length = 4 → BdL 32 p → Nz p → SOK (sRet (dCall 1 F_law_reduced (dCons (dVar 2) dNil)) [some (.ref n), some (.int s), some (.ref r)] h2) (fun _ h_1 => Ext n h h_1 ∧ ∃ p, D.non = .tup (iL p) ∧ IsPt p ∧ BdL 32 p) fun v h' => Ext n h h' ∧ ∃ p, v = .tup (iL p) ∧ IsPt p ∧ BdL 32 p := by
    intro h2 p E q2 pl pb nz
    refine sk_ret (ok_call (ok_cons (ok_var rfl (ok_nil ⟨rfl, ?_⟩))))
    refine (reduced_ok (ls_ref q2) (by omega) pb (by decide)).imp ?_
    rintro _ _ ⟨rfl, g, rfl⟩
    exact ⟨E.trans (Ext.app E.well), _, rfl, ⟨by rw [redF_len, pl], red_redF nz⟩, redF_bd pb⟩
  have one : ∀ (h2 : HS), Ext n h h2 → h2[r]? = some (iL [a, b, c, d]) → SOK (sAsg (dC (.int 1)) (gSubD (dVar 2) (dC (.int 0))) [some (.ref n), some (.int s), some (.ref r)] h2) (fun e' h' => SOK (sRet (dCall 1 F_law_reduced (dCons (dVar 2) dNil)) e' h') (fun _ h_1 => Ext n h h_1 ∧ ∃ p, D.non = .tup (iL p) ∧ IsPt p ∧ BdL 32 p) fun v h' => Ext n h h' ∧ ∃ p, v = .tup (iL p) ∧ IsPt p ∧ BdL 32 p) (fun v h' => Ext n h h' ∧ ∃ p, v = .tup (iL p) ∧ IsPt p ∧ BdL 32 p) := by
    intro h2 E q2
    refine sk_asg (ok_c ⟨_, _, gsub (a := r) (k := 0) rfl rfl (setD_at q2 (j := 0) rfl), ?_⟩)
    refine last _ [1, b, c, d] (E.setO (by omega) hn) (get_set q2) rfl ?_ ⟨1, by simp, by decide⟩
    exact bdl_cons (b32 (by decide)) (fun x hx => nb x (List.mem_cons_of_mem _ hx))
  have E1a : Ext n h (h1 ++ [iL [0, 0, 0, 0]]) := E1.trans (Ext.app E1.well)
  have q1a : (h1 ++ [iL [0, 0, 0, 0]])[r]? = some (iL [a, b, c, d]) := by rw [List.getElem?_append_left (List.getElem?_eq_some_iff.mp q).1, q]
  refine sk_seq (sk_if (ok_orT (ok_B (ok_op (ok_var rfl (ok_lst (ok_cons (ok_c (ok_cons (ok_c (ok_cons (ok_c (ok_cons (ok_c (ok_nil ⟨by simp, _, _, opEq_rl (a := [a, b, c, d]) (b := [0, 0, 0, 0]) q1a (getapp (g := [])), _, rfl, ?_⟩)))))))))))))))
  refine ⟨fun c0 => ?_, fun c0 => ⟨fun _ => one _ E1a q1a, fun c => (by cases c)⟩⟩
  refine ok_B (ok_op (ok_call (ok_cons (ok_var rfl (ok_cons (ok_c (ok_nil ⟨rfl, ?_⟩)))))))
  refine (take_ok E1a.well (by decide) (natAbs_lt (by decide))).imp ?_
  rintro _ h3 ⟨i, rfl, i0, i1, E3, L3⟩
  have q3 := E3.at q1a rn
  refine ok_c ⟨_, _, rfl, _, rfl, fun _ => one _ (E1a.trans E3) q3, fun _ => sk_nil (last _ [a, b, c, d] (E1a.trans E3) q3 rfl nb (nz_ne ?_))⟩
  simpa using c0
theorem unlike_ok {n : Nat} {s : Int} {p : List Int} {h : HS} (W : Well n h) (hs : Sz s) : OK (F_law_unlike [.ref n, .int s, .tup (iL p)] h) fun v h' => Ext n h h' ∧ ∃ q, v = .tup (iL q) ∧ IsPt q ∧ BdL 32 q ∧ q ≠ p := by
  have u1 : IsPt [1, 0, 0, 0] := ⟨rfl, by decide, by decide⟩
  have u2 : IsPt [0, 1, 0, 0] := ⟨rfl, by decide, by decide⟩
  have z0 : Bd 32 0 := b32 (by decide)
  have z1 : Bd 32 1 := b32 (by decide)
  unfold F_law_unlike m_law_unlike
  refine ok_run ?_
  refine sk_seq (sk_asg (ok_call (ok_cons (ok_var rfl (ok_cons (ok_var rfl (ok_nil ⟨rfl, ?_⟩)))))))
  refine (spot_ok W hs).imp ?_
  rintro _ h1 ⟨E1, q, rfl, Q, bq⟩
  refine ⟨_, _, gNm1, ?_⟩
  refine sk_seq (sk_if (ok_B (ok_op (ok_var rfl (ok_var rfl ⟨_, _, opNe_il, _, rfl, fun c => ?_, fun c => sk_nil ?_⟩)))))
  · refine sk_ret (ok_var rfl ⟨E1, q, rfl, Q, bq, by simpa using c⟩)
  · refine sk_ret (ok_if (ok_B (ok_op (ok_var rfl (ok_tup (ok_cons (ok_c (ok_cons (ok_c (ok_cons (ok_c (ok_cons (ok_c (ok_nil ⟨by simp, _, _, opNe_il (a := p) (b := [1, 0, 0, 0]), _, rfl, fun c => ?_, fun c => ?_⟩))))))))))))))
    · refine ok_tup (ok_cons (ok_c (ok_cons (ok_c (ok_cons (ok_c (ok_cons (ok_c (ok_nil ⟨by simp, E1, [1, 0, 0, 0], rfl, u1, bdl4 z1 z0 z0 z0, ?_⟩)))))))))
      intro z
      rw [← z] at c
      simp at c
    · refine ok_tup (ok_cons (ok_c (ok_cons (ok_c (ok_cons (ok_c (ok_cons (ok_c (ok_nil ⟨by simp, E1, [0, 1, 0, 0], rfl, u2, bdl4 z0 z1 z0 z0, ?_⟩)))))))))
      have c : p = [1, 0, 0, 0] := by simpa using c
      rw [c]
      decide
theorem bar_ok {n : Nat} {s : Int} {h : HS} (W : Well n h) (hs : Sz s) : OK (F_law_bar [.ref n, .int s] h) fun v h' => Ext n h h' ∧ ∃ r, v = .tup (iL r) ∧ IsRod r ∧ BdL 70 r := by
  unfold F_law_bar m_law_bar
  refine ok_run ?_
  refine sk_seq (sk_asg (ok_call (ok_cons (ok_var rfl (ok_cons (ok_var rfl (ok_nil ⟨rfl, ?_⟩)))))))
  refine (spot_ok W hs).imp ?_
  rintro _ h1 ⟨E1, a, rfl, A, ba⟩
  refine ⟨_, _, gNm1, ?_⟩
  refine sk_ret (ok_call (ok_cons (ok_var rfl (ok_cons (ok_call (ok_cons (ok_var rfl (ok_cons (ok_var rfl (ok_cons (ok_var rfl (ok_nil ⟨rfl, ?_⟩))))))))))))
  refine (unlike_ok E1.well hs).imp ?_
  rintro _ h2 ⟨E2, b, rfl, B, bb, ne⟩
  refine ok_nil ⟨rfl, ?_⟩
  refine (joined_ok A.len B.len ba bb (by decide)).imp ?_
  rintro _ _ ⟨rfl, g, rfl⟩
  exact ⟨(E1.trans E2).trans (Ext.app E2.well), _, rfl, line_rod A B (fun z => ne z.symm), redF_bd ((line_bd ba bb).mono (by decide))⟩
structure IsSc (ns : List Int) : Prop where
  len : ns.length = 6
  red : Red ns
theorem six_ok {n : Nat} {s : Int} {h : HS} (W : Well n h) (hs : Sz s) : OK (F_law_six [.ref n, .int s] h) fun v h' => Ext n h h' ∧ ∃ r, v = .tup (iL r) ∧ IsSc r ∧ BdL 70 r := by
  have hn := W.lt
  unfold F_law_six m_law_six
  refine ok_run ?_
  refine sk_seq (sk_if (ok_B (ok_op (ok_call (ok_cons (ok_var rfl (ok_cons (ok_c (ok_nil ⟨rfl, ?_⟩)))))))))
  refine (take_ok W (by decide) (natAbs_lt (by decide))).imp ?_
  rintro _ h1 ⟨i, rfl, i0, i1, E1, L1⟩
  refine ok_c ⟨_, _, opEq_i, _, rfl, fun _ => ?_, fun _ => sk_nil ?_⟩
  · refine sk_ret (ok_call (ok_cons (ok_var rfl (ok_cons (ok_var rfl (ok_nil ⟨rfl, ?_⟩))))))
    refine (bar_ok E1.well hs).imp ?_
    rintro _ h2 ⟨E2, r, rfl, R, br⟩
    exact ⟨E1.trans E2, r, rfl, ⟨R.len, R.red⟩, br⟩
  · refine sk_seq (sk_asg (ok_call (ok_cons (ok_var rfl (ok_cons (ok_c (ok_cons (ok_var rfl (ok_nil ⟨rfl, ?_⟩)))))))))
    refine (numbers_ok (k := 6) E1.well (by decide) rfl hs).imp ?_
    rintro _ h2 ⟨E2, r, ns, rfl, rl, q, nl, nb⟩
    refine ⟨_, _, gNm1, ?_⟩
    have E12 := E1.trans E2
    have E3 : Ext n h (h2 ++ [iL [0, 0, 0, 0, 0, 0]]) := E12.trans (Ext.app E12.well)
    have q3 : (h2 ++ [iL [0, 0, 0, 0, 0, 0]])[r]? = some (iL ns) := by rw [List.getElem?_append_left (List.getElem?_eq_some_iff.mp q).1, q]
    refine sk_seq (sk_if (ok_B (ok_op (ok_var rfl (ok_lst (ok_cons (ok_c (ok_cons (ok_c (ok_cons (ok_c (ok_cons (ok_c (ok_cons (ok_c (ok_cons (ok_c (ok_nil ⟨by simp, _, _, opEq_rl (a := ns) (b := [0, 0, 0, 0, 0, 0]) q3 (getapp (g := [])), _, rfl, fun c => ?_, fun c => sk_nil ?_⟩))))))))))))))))))
    · refine sk_asg (ok_lst (ok_cons (ok_c (ok_cons (ok_c (ok_cons (ok_c (ok_cons (ok_c (ok_cons (ok_c (ok_cons (ok_c (ok_nil ⟨by simp, _, _, gNm1, ?_⟩))))))))))))))
      refine sk_ret (ok_call (ok_cons (ok_var rfl (ok_nil ⟨rfl, ?_⟩))))
      have z0 : Bd 70 0 := (b32 (by decide)).mono (by decide)
      have z1 : Bd 70 1 := (b32 (by decide)).mono (by decide)
      have bz : BdL 70 [0, 0, 1, 0, 0, 1] := bdl_cons z0 (bdl_cons z0 (bdl_cons z1 (bdl3 z0 z0 z1)))
      refine (reduced_ok (ns := [0, 0, 1, 0, 0, 1]) (ls_ref (getapp (g := []))) (by decide) bz (by decide)).imp ?_
      rintro _ _ ⟨rfl, g, rfl⟩
      refine ⟨(E3.trans (Ext.app E3.well)).trans (Ext.app (E3.trans (Ext.app E3.well)).well), _, rfl, ⟨by rw [redF_len]; rfl, red_redF ⟨1, by simp, by decide⟩⟩, redF_bd bz⟩
    · refine sk_ret (ok_call (ok_cons (ok_var rfl (ok_nil ⟨rfl, ?_⟩))))
      refine (reduced_ok (ls_ref q3) (by omega) nb (by decide)).imp ?_
      rintro _ _ ⟨rfl, g, rfl⟩
      exact ⟨E3.trans (Ext.app E3.well), _, rfl, ⟨by rw [redF_len, nl], red_redF (nz_ne (by rw [nl]; simpa using c))⟩, (redF_bd nb).mono (by decide)⟩

end LB

set_option maxHeartbeats 4000000
namespace LB
open PySem L2 PySem.Spec PI
local macro_rules | `(tactic| walk_at "b") => `(tactic| first
  | with_reducible assumption
  | (with_reducible refine Bd.mul ?_ ?_) <;> walk_at "b"
  | (with_reducible refine Bd.sub ?_ ?_) <;> walk_at "b"
  | (with_reducible refine Bd.add ?_ ?_) <;> walk_at "b"
  | (with_reducible refine Bd.neg ?_) <;> walk_at "b"
  | exact natAbs_lt (k := 40) (by decide))
local macro_rules | `(tactic| walk_at "m") => `(tactic| (apply Bd.ok <;> first | walk_at "b" | decide | omega))
local macro_rules | `(tactic| walk_at "p") => `(tactic| (first | exact pre_self | assumption | (refine pre_app ?_; walk_at "p")))
local macro_rules | `(tactic| walk_at "e") => `(tactic| first
  | refine ⟨_, _, opMul_i (.inl ⟨by decide, by decide⟩), ?_⟩
  | refine ⟨_, _, opMul_i (.inr (.inl ⟨by decide, by decide⟩)), ?_⟩
  | (refine ⟨_, _, opMul_i ?_, ?_⟩; · walk_at "m")
  | refine ⟨_, _, rfl, ?_⟩
  | refine ⟨_, rfl, ?_⟩
  | refine ⟨rfl, ?_⟩
  | refine ⟨rfl, rfl, ?_⟩)
local macro_rules | `(tactic| walk_at "d") => `(tactic| first
  | with_reducible refine ok_c ?_
  | with_reducible refine ok_var rfl ?_
  | with_reducible refine ok_op ?_
  | with_reducible refine ok_un ?_
  | with_reducible refine ok_nil ?_
  | with_reducible refine ok_cons ?_
  | with_reducible refine ok_tup ?_
  | with_reducible refine ok_lst ?_
  | with_reducible refine ok_cb ?_
  | with_reducible refine ok_call ?_
  | with_reducible refine ok_callK ?_
  | with_reducible refine ok_sl ?_
  | with_reducible refine ok_nopart ?_
  | with_reducible refine ok_part ?_
  | with_reducible refine ok_B ?_
  | with_reducible refine ok_andT ?_
  | with_reducible refine ok_orT ?_
  | with_reducible refine ok_notT ?_
  | with_reducible refine ok_and ?_
  | with_reducible refine ok_or ?_
  | with_reducible refine ok_not ?_
  | with_reducible refine ok_if ?_
  | with_reducible refine ok_app ?_
  | with_reducible refine ok_lc ?_
  | with_reducible refine ok_yes ?_
  | with_reducible refine ok_src ?_
  | with_reducible refine ok_rng1 ?_
  | with_reducible refine ok_rng2 ?_
  | with_reducible refine ok_zip ?_
  | with_reducible refine sk_nil ?_
  | with_reducible refine sk_seq ?_
  | with_reducible refine sk_ret ?_
  | with_reducible refine sk_drop ?_
  | with_reducible refine sk_if ?_
  | with_reducible refine sk_asg ?_
  | with_reducible refine sk_par ?_
  | with_reducible refine sk_par3 ?_
  | with_reducible refine sk_for ?_
  | with_reducible refine ⟨_, _, gNm1, ?_⟩
  | with_reducible refine ⟨_, _, gUn2, ?_⟩
  | with_reducible refine ⟨_, _, gUn3, ?_⟩
  | with_reducible refine ⟨_, _, opSub_i, ?_⟩
  | with_reducible refine ⟨_, _, opAdd_i, ?_⟩
  | with_reducible refine ⟨_, _, opNe_i, ?_⟩
  | with_reducible refine ⟨_, _, opEq_i, ?_⟩
  | with_reducible refine ⟨_, _, opMod_i (by decide), ?_⟩
  | with_reducible refine ⟨_, _, opDiv_i ⟨by decide, by decide⟩, ?_⟩
  | ((with_reducible refine And.intro ?_ ?_); · rfl)
  | ((fail_if_success (with_reducible refine And.intro ?_ ?_)); (fail_if_success (with_reducible refine OK.imp (Q := fun _ _ => True) ?_ ?_)); (fail_if_success (with_reducible refine SOK.imp (Qn := fun _ _ => True) (Qr := fun _ _ => True) ?_ ?_ ?_)); walk_at "e"))

open PK
open LA (opLen_ref gUn_ref tL tl_len tl_get tl_snoc nz_ne notZ keptL kept_take filter_take red_ne nz_gI mixL mix_nz mix_len mix_bd gI_mix setapp1 rp_comm rp_back rp_back1)
theorem anyD_ne {m : List Int} (h : Nz m) (lm : m.length = 4) : notZ m = true := by
  have : m ≠ [0, 0, 0, 0] := by
    rintro rfl
    obtain ⟨x, hx, x0⟩ := h
    simp at hx
    exact x0 hx
  simpa [notZ] using this
/-- what is kept of rows of four, and the first of it that is another one than p -/
theorem kept_mem {rows : List (List Int)} (hl : ∀ m ∈ rows, m.length = 4) (q : List Int) : q ∈ keptL rows ↔ ∃ m ∈ rows, Nz m ∧ q = redF m := by
  unfold keptL
  constructor
  · intro hp
    obtain ⟨m, hm, rfl⟩ := List.mem_map.mp hp
    obtain ⟨h1, h2⟩ := List.mem_filter.mp hm
    exact ⟨m, h1, nz_ne (by rw [hl m h1]; simpa [notZ] using h2), rfl⟩
  · rintro ⟨m, h1, h2, rfl⟩
    exact List.mem_map.mpr ⟨m, List.mem_filter.mpr ⟨h1, anyD_ne h2 (hl m h1)⟩, rfl⟩
/-- the comprehension that reduces what is not nought: over a cell of tuples, with variable i for the tuple -/
theorem keep_ok {r i : Nat} {rows : List (List Int)} {e : DEnv} {h : HS} {k j : Nat} {Q : D → HS → Prop} (q : h[r]? = some (tL rows)) (hl : ∀ m ∈ rows, m.length = 4) (hb : ∀ m ∈ rows, BdL k m) (hk : k < 9000) (he : e[j]? = some (some (.ref r))) (hi : i < e.length) (hr : rows.length ≤ 1000)
    (z : ∀ g, Q (.ref h.length) (h ++ [tL (keptL rows)] ++ g)) :
    OK (dLc (dSrc (dVar j)) (gNm i) (dB (dOp opNe (dVar i) (dTup (dCons (dC (.int 0)) (dCons (dC (.int 0)) (dCons (dC (.int 0)) (dCons (dC (.int 0)) dNil))))))) (dCall 1 F_law_reduced (dCons (dVar i) dNil)) [i] e h) Q := by
  have rl := (List.getElem?_eq_some_iff.mp q).1
  have qg : ∀ G : HS, (h ++ G)[r]? = some (tL rows) := fun G => by rw [List.getElem?_append_left rl, q]
  have gi : ∀ d : D, ((wipeD e [i]).set i (some d))[i]? = some (some d) := fun d => by
    show ((e.set i none).set i (some d))[i]? = _
    rw [List.getElem?_set_self (by simpa using hi)]
  refine ok_lc (ok_src (ok_var he (.inr (.inr ⟨_, rfl, rl, rows.length, fun i h' => ∃ g, h' = h ++ [tL (keptL (rows.take i))] ++ g, ?_, ⟨[], by simp [keptL, tL]⟩, ?_, ?_⟩))))
  · simp [Src.size, q, tl_len]
  · rintro c h' hc ⟨g, rfl⟩
    obtain ⟨m, hm⟩ := get_lt (l := rows) (i := c) hc
    have mm := List.mem_of_getElem? hm
    refine ⟨.tup (iL m), ?_, _, _, gNm1, ?_⟩
    · show ((h ++ [_] ++ g)[r]?).map _ = _
      rw [List.append_assoc, qg]
      simp [tl_get hm]
    refine ok_B (ok_op (ok_var (gi _) (ok_tup (ok_cons (ok_c (ok_cons (ok_c (ok_cons (ok_c (ok_cons (ok_c (ok_nil ⟨by simp, _, _, opNe_il (a := m) (b := [0, 0, 0, 0]), _, rfl, fun b => ?_, fun b => ?_⟩))))))))))))
    · refine ok_call (ok_cons (ok_var (gi _) (ok_nil ⟨rfl, ?_⟩)))
      refine (reduced_ok ls_tup (by rw [hl m mm]; decide) (hb m mm) hk).imp ?_
      rintro _ _ ⟨rfl, g3, rfl⟩
      refine ⟨_, by rw [List.append_assoc]; exact getapp2, by rw [tl_len]; unfold keptL; rw [List.length_map]; have := List.length_filter_le notZ (rows.take c); rw [List.length_take] at this; omega, g ++ g3, ?_⟩
      rw [kept_take hm, show notZ m = true from b, if_pos rfl, ← tl_snoc, List.append_assoc, setapp1 rfl]
    · refine ⟨g, ?_⟩
      rw [kept_take hm, show notZ m = false from b]
      simp
  · rintro h' ⟨g, rfl⟩
    refine ⟨?_, ?_⟩
    · show ((h ++ [_] ++ g)[r]?).map _ = _
      rw [List.append_assoc, qg]
      simp [tl_len]
    rw [List.take_length]
    exact z g
/-- the comprehension that takes what is unlike p -/
theorem unl_ok {r i : Nat} {F : List (List Int)} {p : List Int} {x : DE} {e : DEnv} {h : HS} {j : Nat} {Q : D → HS → Prop} (q : h[r]? = some (tL F)) (he : e[j]? = some (some (.ref r))) (hi : i < e.length) (hr : F.length ≤ 1000)
    (hx : ∀ (d : D) (G : HS) (Q : D → HS → Prop), Q (.tup (iL p)) (h ++ G) → OK (x ((wipeD e [i]).set i (some d)) (h ++ G)) Q)
    (z : Q (.ref h.length) (h ++ [tL (F.filter fun m => !(m == p))])) :
    OK (dLc (dSrc (dVar j)) (gNm i) (dB (dOp opNe (dVar i) x)) (dVar i) [i] e h) Q := by
  have rl := (List.getElem?_eq_some_iff.mp q).1
  have qg : ∀ G : HS, (h ++ G)[r]? = some (tL F) := fun G => by rw [List.getElem?_append_left rl, q]
  have gi : ∀ d : D, ((wipeD e [i]).set i (some d))[i]? = some (some d) := fun d => by
    show ((e.set i none).set i (some d))[i]? = _
    rw [List.getElem?_set_self (by simpa using hi)]
  refine ok_lc (ok_src (ok_var he (.inr (.inr ⟨_, rfl, rl, F.length, fun i h' => h' = h ++ [tL ((F.take i).filter fun m => !(m == p))], ?_, by simp [tL], ?_, ?_⟩))))
  · simp [Src.size, q, tl_len]
  · rintro c _ hc rfl
    obtain ⟨m, hm⟩ := get_lt (l := F) (i := c) hc
    refine ⟨.tup (iL m), ?_, _, _, gNm1, ?_⟩
    · show ((h ++ [_])[r]?).map _ = _
      rw [qg]
      simp [tl_get hm]
    refine ok_B (ok_op (ok_var (gi _) (hx _ _ _ ⟨_, _, opNe_il, _, rfl, fun b => ?_, fun b => ?_⟩)))
    · refine ok_var (gi _) ⟨_, getapp (g := []), by rw [tl_len]; have := List.length_filter_le (fun m => !(m == p)) (F.take c); rw [List.length_take] at this; omega, ?_⟩
      show _ = _
      rw [setapp, filter_take hm, b, if_pos rfl, tl_snoc]
    · show _ = _
      rw [filter_take hm, b]
      simp
  · rintro _ rfl
    refine ⟨?_, ?_⟩
    · show ((h ++ [_])[r]?).map _ = _
      rw [qg]
      simp [tl_len]
    rw [List.take_length]
    exact z
theorem rest_ex {rows : List (List Int)} (hl : ∀ m ∈ rows, m.length = 4) {m m' : List Int} (hm : m ∈ rows) (hm' : m' ∈ rows) (n1 : Nz m) (n2 : Nz m') (ne : redF m ≠ redF m') (p : List Int) : ∃ q, ((keptL rows).filter fun x => !(x == p))[0]? = some q ∧ q ∈ keptL rows ∧ q ≠ p := by
  have k1 := (kept_mem hl _).mpr ⟨m, hm, n1, rfl⟩
  have k2 := (kept_mem hl _).mpr ⟨m', hm', n2, rfl⟩
  obtain ⟨q, hq⟩ : ∃ q, ((keptL rows).filter fun x => !(x == p))[0]? = some q := by
    refine get_lt (List.length_pos_of_mem (a := if redF m = p then redF m' else redF m) ?_)
    refine List.mem_filter.mpr ?_
    by_cases c : redF m = p
    · rw [if_pos c]
      exact ⟨k2, by rw [← c]; simpa using fun z => ne z.symm⟩
    · rw [if_neg c]
      exact ⟨k1, by simpa using c⟩
  have qm := List.mem_filter.mp (List.mem_of_getElem? hq)
  exact ⟨q, hq, qm.1, by simpa using qm.2⟩
def shRows (a b c d u0 u1 u2 u3 u4 u5 : Int) : List (List Int) :=
  [[u0 * b + u1 * c + u2 * d, u3 * c + u4 * d - u0 * a, u5 * d - u1 * a - u3 * b, 0 - u2 * a - u4 * b - u5 * c], [b, 0 - a, 0, 0], [c, 0, 0 - a, 0], [d, 0, 0, 0 - a], [0, c, 0 - b, 0], [0, d, 0, 0 - b], [0, 0, d, 0 - c]]
theorem sh_two {a b c d u0 u1 u2 u3 u4 u5 : Int} (h : Nz [a, b, c, d]) : ∃ m ∈ shRows a b c d u0 u1 u2 u3 u4 u5, ∃ m' ∈ shRows a b c d u0 u1 u2 u3 u4 u5, Nz m ∧ Nz m' ∧ redF m ≠ redF m' := by
  have two : ∀ {m m' : List Int} {k l : Nat}, m ∈ shRows a b c d u0 u1 u2 u3 u4 u5 → m' ∈ shRows a b c d u0 u1 u2 u3 u4 u5 → gI m k = 0 → gI m' k ≠ 0 → gI m l ≠ 0 → ∃ m ∈ shRows a b c d u0 u1 u2 u3 u4 u5, ∃ m' ∈ shRows a b c d u0 u1 u2 u3 u4 u5, Nz m ∧ Nz m' ∧ redF m ≠ redF m' :=
    fun hm hm' z1 z2 z3 => ⟨_, hm, _, hm', nz_gI z3, nz_gI z2, red_ne (nz_gI z3) (nz_gI z2) z1 z2⟩
  obtain ⟨x, hx, x0⟩ := h
  simp only [List.mem_cons, List.not_mem_nil, or_false] at hx
  rcases hx with rfl | rfl | rfl | rfl
  · exact two (m := [b, 0 - x, 0, 0]) (m' := [c, 0, 0 - x, 0]) (k := 2) (l := 1) (by simp [shRows]) (by simp [shRows]) rfl (by show 0 - x ≠ 0; omega) (by show 0 - x ≠ 0; omega)
  · exact two (m := [x, 0 - a, 0, 0]) (m' := [0, c, 0 - x, 0]) (k := 2) (l := 0) (by simp [shRows]) (by simp [shRows]) rfl (by show 0 - x ≠ 0; omega) x0
  · exact two (m := [x, 0, 0 - a, 0]) (m' := [0, x, 0 - b, 0]) (k := 1) (l := 0) (by simp [shRows]) (by simp [shRows]) rfl x0 x0
  · exact two (m := [x, 0, 0, 0 - a]) (m' := [0, x, 0, 0 - b]) (k := 1) (l := 0) (by simp [shRows]) (by simp [shRows]) rfl x0 x0
theorem gUn4 {i j k l : Nat} {x y z w : D} {e : DEnv} {h : HS} : (gConsD (gNm i) (gConsD (gNm j) (gConsD (gNm k) (gConsD (gNm l) gNilD)))) [x, y, z, w] e h = some ((((e.set i (some x)).set j (some y)).set k (some z)).set l (some w), h) := rfl
theorem in_sheet_ok {n : Nat} {d : D} {S p : List Int} {h : HS} {k : Nat} (W : Well n h) (L : Ls d S h) (lS : S.length = 4) (bS : BdL k S) (nS : Nz S) (hk : k < 1000) (stay : ∀ h', Ext n h h' → Ls d S h') : OK (F_law_in_sheet [.ref n, d, .tup (iL p)] h) fun v h' => Ext n h h' ∧ ∃ q, v = .tup (iL q) ∧ IsPt q ∧ BdL (k + 40) q ∧ q ≠ p := by
  obtain ⟨a, b, c, e, rfl⟩ := four lS
  obtain ⟨A, B, C, E'⟩ := bd4 bS
  unfold F_law_in_sheet m_law_in_sheet
  refine ok_run ?_
  refine sk_seq (sk_asg (ok_var rfl ⟨_, _, (L.un0 rfl).trans gUn4, ?_⟩))
  refine sk_seq (sk_asg (ok_call (ok_cons (ok_var rfl (ok_cons (ok_c (ok_cons (ok_c (ok_nil ⟨rfl, ?_⟩)))))))))
  refine (numbers_ok (k := 6) W (by decide) rfl ⟨by decide, by decide⟩).imp ?_
  rintro _ h1 ⟨E1, r, us, rfl, rl, q, nl, nb⟩
  obtain ⟨u0, u1, u2, u3, u4, u5, rfl⟩ := six nl
  obtain ⟨U0, U1, U2, U3, U4, U5⟩ := bd6 nb
  refine ⟨_, _, gNm1, ?_⟩
  have m : ∀ {i j : Int}, Bd 32 i → Bd k j → MulOk i j := fun a b => a.ok b (by omega)
  have i0 : opIx (.ref r) (.int 0) h1 = some (.int u0, h1) := opIx_r q rfl
  have i1 : opIx (.ref r) (.int 1) h1 = some (.int u1, h1) := opIx_r q rfl
  have i2 : opIx (.ref r) (.int 2) h1 = some (.int u2, h1) := opIx_r q rfl
  have i3 : opIx (.ref r) (.int 3) h1 = some (.int u3, h1) := opIx_r q rfl
  have i4 : opIx (.ref r) (.int 4) h1 = some (.int u4, h1) := opIx_r q rfl
  have i5 : opIx (.ref r) (.int 5) h1 = some (.int u5, h1) := opIx_r q rfl
  have mul : ∀ {ev : DEnv} {w v : Nat} {iw : Int} {x y : Int} {Q : D → HS → Prop}, ev[w]? = some (some (.ref r)) → ev[v]? = some (some (.int y)) → opIx (.ref r) (.int iw) h1 = some (.int x, h1) → Bd 32 x → Bd k y → Q (.int (x * y)) h1 → OK (dOp opMul (dOp opIx (dVar w) (dC (.int iw))) (dVar v) ev h1) Q := fun h1 h2 h3 h4 h5 h6 => ok_op (ok_op (ok_var h1 (ok_c ⟨_, _, h3, ok_var h2 ⟨_, _, opMul_i (m h4 h5), h6⟩⟩)))
  refine sk_seq (sk_par (ok_cons (ok_op (ok_op (mul rfl rfl i0 U0 B (mul rfl rfl i1 U1 C ⟨_, _, opAdd_i, mul rfl rfl i2 U2 E' ⟨_, _, opAdd_i, ?_⟩⟩))))))
  refine ok_cons (ok_op (ok_op (mul rfl rfl i3 U3 C (mul rfl rfl i4 U4 E' ⟨_, _, opAdd_i, mul rfl rfl i0 U0 A ⟨_, _, opSub_i, ok_nil ⟨_, _, rfl, ?_⟩⟩⟩))))
  refine sk_seq (sk_asg (ok_tup (ok_cons (ok_var rfl (ok_cons (ok_var rfl ?_))))))
  refine ok_cons (ok_op (ok_op (mul rfl rfl i5 U5 E' (mul rfl rfl i1 U1 A ⟨_, _, opSub_i, mul rfl rfl i3 U3 B ⟨_, _, opSub_i, ?_⟩⟩))))
  refine ok_cons (ok_op (ok_op (ok_op (ok_c (mul rfl rfl i2 U2 A ⟨_, _, opSub_i, mul rfl rfl i4 U4 B ⟨_, _, opSub_i, mul rfl rfl i5 U5 C ⟨_, _, opSub_i, ok_nil ⟨by simp, _, _, gNm1, ?_⟩⟩⟩⟩)))))
  repeat walk_at "d"
  iterate 8 (refine ⟨by simp, ?_⟩; repeat walk_at "d")
  refine ⟨_, _, opAdd_r (l := tL ((shRows a b c e u0 u1 u2 u3 u4 u5).take 4)) (m := tL ((shRows a b c e u0 u1 u2 u3 u4 u5).drop 4)) (by simp [tL, shRows, iL]) (by simp [tL, shRows, iL]) (by simp [tL, shRows]), ?_⟩
  refine ⟨_, _, gNm1, ?_⟩
  have cat : tL ((shRows a b c e u0 u1 u2 u3 u4 u5).take 4) ++ tL ((shRows a b c e u0 u1 u2 u3 u4 u5).drop 4) = tL (shRows a b c e u0 u1 u2 u3 u4 u5) := by
    unfold tL
    rw [← List.map_append, List.take_append_drop]
  rw [cat]
  have rows4 : ∀ m ∈ shRows a b c e u0 u1 u2 u3 u4 u5, m.length = 4 := by
    intro m hm
    simp only [shRows, List.mem_cons, List.not_mem_nil, or_false] at hm
    rcases hm with rfl | rfl | rfl | rfl | rfl | rfl | rfl <;> rfl
  have z0 : Bd (k + 40) 0 := Bd.zero
  have A' : Bd (k + 40) (0 - a) := (Bd.sub Bd.zero A).mono (k := k + 40) (j := max 0 k + 1) (by omega)
  have B' : Bd (k + 40) (0 - b) := (Bd.sub Bd.zero B).mono (k := k + 40) (j := max 0 k + 1) (by omega)
  have C' : Bd (k + 40) (0 - c) := (Bd.sub Bd.zero C).mono (k := k + 40) (j := max 0 k + 1) (by omega)
  have A1 := A.mono (k := k + 40) (by omega)
  have B1 := B.mono (k := k + 40) (by omega)
  have C1 := C.mono (k := k + 40) (by omega)
  have E2 := E'.mono (k := k + 40) (by omega)
  have mm : ∀ {x y : Int}, Bd 32 x → Bd k y → Bd (k + 32) (x * y) := fun a b => (a.mul b).mono (by omega)
  have rowsb : ∀ m ∈ shRows a b c e u0 u1 u2 u3 u4 u5, BdL (k + 40) m := by
    intro m hm
    simp only [shRows, List.mem_cons, List.not_mem_nil, or_false] at hm
    rcases hm with rfl | rfl | rfl | rfl | rfl | rfl | rfl
    · refine bdl4 ?_ ?_ ?_ ?_
      · exact (((mm U0 B).add (mm U1 C)).add (mm U2 E')).mono (by omega)
      · exact (((mm U3 C).add (mm U4 E')).sub (mm U0 A)).mono (by omega)
      · exact (((mm U5 E').sub (mm U1 A)).sub (mm U3 B)).mono (by omega)
      · exact ((((Bd.zero (k := k)).sub (mm U2 A)).sub (mm U4 B)).sub (mm U5 C)).mono (by omega)
    · exact bdl4 B1 A' z0 z0
    · exact bdl4 C1 z0 A' z0
    · exact bdl4 E2 z0 z0 A'
    · exact bdl4 z0 C1 B' z0
    · exact bdl4 z0 E2 z0 B'
    · exact bdl4 z0 z0 E2 C'
  obtain ⟨m1, hm1, m2, hm2, n1, n2, ne⟩ := sh_two (u0 := u0) (u1 := u1) (u2 := u2) (u3 := u3) (u4 := u4) (u5 := u5) nS
  obtain ⟨w, hw, wm, wp⟩ := rest_ex rows4 hm1 hm2 n1 n2 ne p
  have rlen : (shRows a b c e u0 u1 u2 u3 u4 u5).length = 7 := rfl
  have klen : (keptL (shRows a b c e u0 u1 u2 u3 u4 u5)).length ≤ 7 := by
    unfold keptL
    rw [List.length_map]
    exact Nat.le_trans (List.length_filter_le _ _) (by rw [rlen]; exact Nat.le_refl _)
  have mem := kept_mem rows4
  generalize shRows a b c e u0 u1 u2 u3 u4 u5 = rows at *
  refine sk_seq (sk_asg (keep_ok (j := 5) (getapp (g := [])) rows4 rowsb (by omega) rfl (by simp) (by omega) fun g => ⟨_, _, gNm1, ?_⟩))
  refine sk_ret (ok_op (unl_ok (j := 6) (p := p) getapp2 rfl (by simp) (by omega) ?_ ?_))
  · intro d G Q hQ
    exact ok_var rfl hQ
  · refine ok_c ⟨_, _, opIx_r (getapp (g := [])) (PI.atI_nat (a := 0) (tl_get hw)), ?_, w, rfl, ?_⟩
    · simp only [List.append_assoc]
      exact E1.trans (Ext.app E1.well)
    · obtain ⟨m, hm, nz, rfl⟩ := (mem w).mp wm
      exact ⟨⟨by rw [redF_len, rows4 m hm], red_redF nz⟩, redF_bd (rowsb m hm), wp⟩

end LB

set_option maxHeartbeats 4000000
namespace LB
open PySem L2 PySem.Spec PI
local macro_rules | `(tactic| walk_at "b") => `(tactic| first
  | with_reducible assumption
  | (with_reducible refine Bd.mul ?_ ?_) <;> walk_at "b"
  | (with_reducible refine Bd.sub ?_ ?_) <;> walk_at "b"
  | (with_reducible refine Bd.add ?_ ?_) <;> walk_at "b"
  | (with_reducible refine Bd.neg ?_) <;> walk_at "b"
  | exact natAbs_lt (k := 40) (by decide))
local macro_rules | `(tactic| walk_at "m") => `(tactic| (apply Bd.ok <;> first | walk_at "b" | decide | omega))
local macro_rules | `(tactic| walk_at "p") => `(tactic| (first | exact pre_self | assumption | (refine pre_app ?_; walk_at "p")))
local macro_rules | `(tactic| walk_at "e") => `(tactic| first
  | refine ⟨_, _, opMul_i (.inl ⟨by decide, by decide⟩), ?_⟩
  | refine ⟨_, _, opMul_i (.inr (.inl ⟨by decide, by decide⟩)), ?_⟩
  | (refine ⟨_, _, opMul_i ?_, ?_⟩; · walk_at "m")
  | refine ⟨_, _, rfl, ?_⟩
  | refine ⟨_, rfl, ?_⟩
  | refine ⟨rfl, ?_⟩
  | refine ⟨rfl, rfl, ?_⟩)
local macro_rules | `(tactic| walk_at "d") => `(tactic| first
  | with_reducible refine ok_c ?_
  | with_reducible refine ok_var rfl ?_
  | with_reducible refine ok_op ?_
  | with_reducible refine ok_un ?_
  | with_reducible refine ok_nil ?_
  | with_reducible refine ok_cons ?_
  | with_reducible refine ok_tup ?_
  | with_reducible refine ok_lst ?_
  | with_reducible refine ok_cb ?_
  | with_reducible refine ok_call ?_
  | with_reducible refine ok_callK ?_
  | with_reducible refine ok_sl ?_
  | with_reducible refine ok_nopart ?_
  | with_reducible refine ok_part ?_
  | with_reducible refine ok_B ?_
  | with_reducible refine ok_andT ?_
  | with_reducible refine ok_orT ?_
  | with_reducible refine ok_notT ?_
  | with_reducible refine ok_and ?_
  | with_reducible refine ok_or ?_
  | with_reducible refine ok_not ?_
  | with_reducible refine ok_if ?_
  | with_reducible refine ok_app ?_
  | with_reducible refine ok_lc ?_
  | with_reducible refine ok_yes ?_
  | with_reducible refine ok_src ?_
  | with_reducible refine ok_rng1 ?_
  | with_reducible refine ok_rng2 ?_
  | with_reducible refine ok_zip ?_
  | with_reducible refine sk_nil ?_
  | with_reducible refine sk_seq ?_
  | with_reducible refine sk_ret ?_
  | with_reducible refine sk_drop ?_
  | with_reducible refine sk_if ?_
  | with_reducible refine sk_asg ?_
  | with_reducible refine sk_par ?_
  | with_reducible refine sk_par3 ?_
  | with_reducible refine sk_for ?_
  | with_reducible refine ⟨_, _, gNm1, ?_⟩
  | with_reducible refine ⟨_, _, gUn2, ?_⟩
  | with_reducible refine ⟨_, _, gUn3, ?_⟩
  | with_reducible refine ⟨_, _, opSub_i, ?_⟩
  | with_reducible refine ⟨_, _, opAdd_i, ?_⟩
  | with_reducible refine ⟨_, _, opNe_i, ?_⟩
  | with_reducible refine ⟨_, _, opEq_i, ?_⟩
  | with_reducible refine ⟨_, _, opMod_i (by decide), ?_⟩
  | with_reducible refine ⟨_, _, opDiv_i ⟨by decide, by decide⟩, ?_⟩
  | ((with_reducible refine And.intro ?_ ?_); · rfl)
  | ((fail_if_success (with_reducible refine And.intro ?_ ?_)); (fail_if_success (with_reducible refine OK.imp (Q := fun _ _ => True) ?_ ?_)); (fail_if_success (with_reducible refine SOK.imp (Qn := fun _ _ => True) (Qr := fun _ _ => True) ?_ ?_ ?_)); walk_at "e"))

open PK
open LA (opLen_ref gUn_ref tL tl_len tl_get tl_snoc nz_ne notZ keptL kept_take filter_take red_ne nz_gI mixL mix_nz mix_len mix_bd gI_mix setapp1 rp_comm rp_back rp_back1)
theorem ls_stay {n r : Nat} {ns : List Int} {h h' : HS} (E : Ext n h h') (q : h[r]? = some (iL ns)) (hr : r ≠ n) : Ls (.ref r) ns h' := ls_ref (E.at q hr)
theorem netted_ok {n : Nat} {s : Int} {x : List Int} {h : HS} (W : Well n h) (hs : Sz s) (lx : x.length = 6) (bx : BdL 100 x) : OK (F_law_netted [.ref n, .tup (iL x), .int s] h) fun v h' => Ext n h h' ∧ ∃ r, v = .tup (iL r) ∧ IsRod r ∧ BdL 600 r := by
  have hn := W.lt
  unfold F_law_netted m_law_netted
  refine ok_run ?_
  refine sk_seq (sk_asg (ok_call (ok_cons (ok_var rfl (ok_cons (ok_var rfl (ok_nil ⟨rfl, ?_⟩)))))))
  refine (spot_ok W hs).imp ?_
  rintro _ h1 ⟨E1, p, rfl, P, bp⟩
  refine ⟨_, _, gNm1, ?_⟩
  refine sk_seq (sk_asg (ok_call (ok_cons (ok_var rfl (ok_cons (ok_var rfl (ok_nil ⟨rfl, ?_⟩)))))))
  refine (sheet_ok lx P.len bx (bp.mono (by decide)) (by decide)).imp ?_
  rintro _ _ ⟨r, g, rfl, rfl, hr, q⟩
  refine ⟨_, _, gNm1, ?_⟩
  have l1 := E1.len
  have rn : r ≠ n := by omega
  have E2 : Ext n h (h1 ++ g) := E1.trans (Ext.app E1.well)
  have E3 : Ext n h (h1 ++ g ++ [iL [0, 0, 0, 0]]) := E2.trans (Ext.app E2.well)
  have q3 : (h1 ++ g ++ [iL [0, 0, 0, 0]])[r]? = some (iL (planeL x p)) := by rw [List.getElem?_append_left (List.getElem?_eq_some_iff.mp q).1, q]
  refine sk_seq (sk_if (ok_B (ok_op (ok_var rfl (ok_lst (ok_cons (ok_c (ok_cons (ok_c (ok_cons (ok_c (ok_cons (ok_c (ok_nil ⟨by simp, _, _, opEq_rl (a := planeL x p) (b := [0, 0, 0, 0]) q3 (getapp (g := [])), _, rfl, fun c => ?_, fun c => sk_nil ?_⟩))))))))))))))
  · refine sk_ret (ok_call (ok_cons (ok_var rfl (ok_cons (ok_call (ok_cons (ok_var rfl (ok_cons (ok_var rfl (ok_cons (ok_var rfl (ok_nil ⟨rfl, ?_⟩))))))))))))
    refine (unlike_ok E3.well hs).imp ?_
    rintro _ h2 ⟨E4, b, rfl, B, bb, ne⟩
    refine ok_nil ⟨rfl, ?_⟩
    refine (joined_ok P.len B.len bp bb (by decide)).imp ?_
    rintro _ _ ⟨rfl, g, rfl⟩
    exact ⟨(E3.trans E4).trans (Ext.app E4.well), _, rfl, line_rod P B (fun z => ne z.symm), redF_bd ((line_bd bp bb).mono (by decide))⟩
  · refine sk_ret (ok_call (ok_cons (ok_var rfl (ok_cons (ok_call (ok_cons (ok_var rfl (ok_cons (ok_var rfl (ok_cons (ok_var rfl (ok_nil ⟨rfl, ?_⟩))))))))))))
    have bpl : BdL 250 (planeL x p) := (plane_bd bx (bp.mono (by decide))).mono (by decide)
    refine (in_sheet_ok E3.well (ls_ref q3) rfl bpl (nz_ne (by show planeL x p ≠ [0, 0, 0, 0]; simpa using c)) (by decide) fun h' E => ls_stay E q3 rn).imp ?_
    rintro _ h2 ⟨E4, b, rfl, B, bb, ne⟩
    refine ok_nil ⟨rfl, ?_⟩
    refine (joined_ok P.len B.len (bp.mono (k := 290) (by decide)) bb (by decide)).imp ?_
    rintro _ _ ⟨rfl, g, rfl⟩
    exact ⟨(E3.trans E4).trans (Ext.app E4.well), _, rfl, line_rod P B (fun z => ne z.symm), redF_bd ((line_bd (bp.mono (k := 290) (by decide)) bb).mono (by decide))⟩
def endRows (a b c p q r : Int) : List (List Int) := [[0, a, b, c], [a, 0, 0 - r, q], [b, r, 0, 0 - p], [c, 0 - q, p, 0]]
theorem end_two {a b c p q r : Int} (h : Nz [a, b, c, p, q, r]) : ∃ m ∈ endRows a b c p q r, ∃ m' ∈ endRows a b c p q r, Nz m ∧ Nz m' ∧ redF m ≠ redF m' := by
  have two : ∀ {m m' : List Int} {k l : Nat}, m ∈ endRows a b c p q r → m' ∈ endRows a b c p q r → gI m k = 0 → gI m' k ≠ 0 → gI m l ≠ 0 → ∃ m ∈ endRows a b c p q r, ∃ m' ∈ endRows a b c p q r, Nz m ∧ Nz m' ∧ redF m ≠ redF m' :=
    fun hm hm' z1 z2 z3 => ⟨_, hm, _, hm', nz_gI z3, nz_gI z2, red_ne (nz_gI z3) (nz_gI z2) z1 z2⟩
  have m0 : [0, a, b, c] ∈ endRows a b c p q r := by simp [endRows]
  have m1 : [a, 0, 0 - r, q] ∈ endRows a b c p q r := by simp [endRows]
  have m2 : [b, r, 0, 0 - p] ∈ endRows a b c p q r := by simp [endRows]
  have m3 : [c, 0 - q, p, 0] ∈ endRows a b c p q r := by simp [endRows]
  obtain ⟨x, hx, x0⟩ := h
  simp only [List.mem_cons, List.not_mem_nil, or_false] at hx
  rcases hx with rfl | rfl | rfl | rfl | rfl | rfl
  · exact two (k := 0) (l := 1) m0 m1 rfl x0 x0
  · exact two (k := 0) (l := 2) m0 m2 rfl x0 x0
  · exact two (k := 0) (l := 3) m0 m3 rfl x0 x0
  · exact two (k := 2) (l := 3) m2 m3 rfl x0 (by show 0 - x ≠ 0; omega)
  · exact two (k := 1) (l := 3) m1 m3 rfl (by show 0 - x ≠ 0; omega) x0
  · exact two (k := 1) (l := 2) m1 m2 rfl x0 (by show 0 - x ≠ 0; omega)
theorem gUn6 {i j k l m o : Nat} {x y z w u v : D} {e : DEnv} {h : HS} : gUn 6 (gConsD (gNm i) (gConsD (gNm j) (gConsD (gNm k) (gConsD (gNm l) (gConsD (gNm m) (gConsD (gNm o) gNilD)))))) (.tup [x, y, z, w, u, v]) e h = some ((((((e.set i (some x)).set j (some y)).set k (some z)).set l (some w)).set m (some u)).set o (some v), h) := rfl
theorem planeL_mul2 (f : Int) (r x : List Int) : planeL r (mulL f x) = mulL f (planeL r x) := by
  unfold planeL
  rw [LA.mulL4]
  simp only [gI_mul, List.cons.injEq, and_true]
  refine ⟨?_, ?_, ?_, ?_⟩ <;> grind
theorem end_on {a b c p q r : Int} (h : a * p + b * q + c * r = 0) : ∀ m ∈ endRows a b c p q r, ¬ Nz (planeL [a, b, c, p, q, r] m) := by
  intro m hm
  rintro ⟨y, hy, y0⟩
  apply y0
  simp only [endRows, List.mem_cons, List.not_mem_nil, or_false] at hm
  rcases hm with rfl | rfl | rfl | rfl <;> (simp only [planeL, gI, List.getD_cons_zero, List.getD_cons_succ, List.mem_cons, List.not_mem_nil, or_false] at hy; rcases hy with rfl | rfl | rfl | rfl <;> grind)
theorem on_red {x m : List Int} (n : Nz m) (h : ¬ Nz (planeL x m)) : ¬ Nz (planeL x (redF m)) := by
  rw [← redF_back n, planeL_mul2, LA.nz_mul_iff (facN_nz n)] at h
  exact h
theorem on_mix {x p q : List Int} {u v : Int} (e : p.length = q.length) (h1 : ¬ Nz (planeL x p)) (h2 : ¬ Nz (planeL x q)) : ¬ Nz (planeL x (mixL u p v q)) := by
  have z1 := not_nz h1
  have z2 := not_nz h2
  have a0 := z1 _ (show -(gI x 3 * gI p 1 + gI x 4 * gI p 2 + gI x 5 * gI p 3) ∈ planeL x p by simp [planeL])
  have a1 := z1 _ (show gI p 0 * gI x 3 + (gI x 1 * gI p 3 - gI x 2 * gI p 2) ∈ planeL x p by simp [planeL])
  have a2 := z1 _ (show gI p 0 * gI x 4 + (gI x 2 * gI p 1 - gI x 0 * gI p 3) ∈ planeL x p by simp [planeL])
  have a3 := z1 _ (show gI p 0 * gI x 5 + (gI x 0 * gI p 2 - gI x 1 * gI p 1) ∈ planeL x p by simp [planeL])
  have b0 := z2 _ (show -(gI x 3 * gI q 1 + gI x 4 * gI q 2 + gI x 5 * gI q 3) ∈ planeL x q by simp [planeL])
  have b1 := z2 _ (show gI q 0 * gI x 3 + (gI x 1 * gI q 3 - gI x 2 * gI q 2) ∈ planeL x q by simp [planeL])
  have b2 := z2 _ (show gI q 0 * gI x 4 + (gI x 2 * gI q 1 - gI x 0 * gI q 3) ∈ planeL x q by simp [planeL])
  have b3 := z2 _ (show gI q 0 * gI x 5 + (gI x 0 * gI q 2 - gI x 1 * gI q 1) ∈ planeL x q by simp [planeL])
  clear z1 z2 h1 h2
  rintro ⟨y, hy, y0⟩
  apply y0
  simp only [planeL, gI_mix e, List.mem_cons, List.not_mem_nil, or_false] at hy
  clear y0
  rcases hy with rfl | rfl | rfl | rfl <;> grind
theorem ends_ok {x : List Int} {h : HS} {k : Nat} (lx : x.length = 6) (nx : Nz x) (bx : BdL k x) (hk : k < 1000) : OK (F_law_ends [.tup (iL x)] h) fun v h' => ∃ r g p q, v = .ref r ∧ h' = h ++ g ∧ h.length ≤ r ∧ h'[r]? = some (tL [p, q]) ∧ IsPt p ∧ IsPt q ∧ p ≠ q ∧ BdL (k + 1) p ∧ BdL (k + 1) q ∧ (gI x 0 * gI x 3 + gI x 1 * gI x 4 + gI x 2 * gI x 5 = 0 → ¬ Nz (planeL x p) ∧ ¬ Nz (planeL x q)) := by
  obtain ⟨a, b, c, p, q, r, rfl⟩ := six lx
  obtain ⟨A, B, C, P, Q, R⟩ := bd6 bx
  have rows4 : ∀ m ∈ endRows a b c p q r, m.length = 4 := by
    intro m hm
    simp only [endRows, List.mem_cons, List.not_mem_nil, or_false] at hm
    rcases hm with rfl | rfl | rfl | rfl <;> rfl
  have rowsb : ∀ m ∈ endRows a b c p q r, BdL (k + 1) m := by
    intro m hm
    have u : ∀ {y : Int}, Bd k y → Bd (k + 1) y := fun h => h.mono (by omega)
    have v : ∀ {y : Int}, Bd k y → Bd (k + 1) (0 - y) := fun h => (Bd.sub Bd.zero h).mono (k := k + 1) (j := max 0 k + 1) (by omega)
    have z0 : Bd (k + 1) 0 := Bd.zero
    simp only [endRows, List.mem_cons, List.not_mem_nil, or_false] at hm
    rcases hm with rfl | rfl | rfl | rfl
    · exact bdl4 z0 (u A) (u B) (u C)
    · exact bdl4 (u A) z0 (v R) (u Q)
    · exact bdl4 (u B) (u R) z0 (v P)
    · exact bdl4 (u C) (v Q) (u P) z0
  obtain ⟨m1, hm1, m2, hm2, n1, n2, ne⟩ := end_two nx
  unfold F_law_ends m_law_ends
  refine ok_run ?_
  refine sk_seq (sk_asg (ok_var rfl ⟨_, _, gUn6, ?_⟩))
  repeat walk_at "d"
  iterate 4 (refine ⟨by simp, ?_⟩; repeat walk_at "d")
  refine ⟨by simp, _, _, gNm1, ?_⟩
  have k1 := (kept_mem rows4 _).mpr ⟨m1, hm1, n1, rfl⟩
  obtain ⟨f0, hf0⟩ : ∃ f, (keptL (endRows a b c p q r))[0]? = some f := get_lt (List.length_pos_of_mem k1)
  obtain ⟨w, hw, wm, wp⟩ := rest_ex rows4 hm1 hm2 n1 n2 ne f0
  have rlen : (endRows a b c p q r).length = 4 := rfl
  have klen : (keptL (endRows a b c p q r)).length ≤ 4 := by
    unfold keptL
    rw [List.length_map]
    exact Nat.le_trans (List.length_filter_le _ _) (by rw [rlen]; exact Nat.le_refl _)
  have mem := kept_mem rows4
  have good : ∀ y ∈ keptL (endRows a b c p q r), IsPt y ∧ BdL (k + 1) y ∧ (a * p + b * q + c * r = 0 → ¬ Nz (planeL [a, b, c, p, q, r] y)) := by
    intro y hy
    obtain ⟨m, hm, nz, rfl⟩ := (mem y).mp hy
    exact ⟨⟨by rw [redF_len, rows4 m hm], red_redF nz⟩, redF_bd (rowsb m hm), fun z => on_red nz (end_on z m hm)⟩
  have start : (h ++ [tL (endRows a b c p q r)])[h.length]? = some (tL (endRows a b c p q r)) := getapp (g := [])
  have fm := List.mem_of_getElem? hf0
  have shape : [D.tup [D.int 0, D.int a, D.int b, D.int c], D.tup [D.int a, D.int 0, D.int (0 - r), D.int q], D.tup [D.int b, D.int r, D.int 0, D.int (0 - p)], D.tup [D.int c, D.int (0 - q), D.int p, D.int 0]] = tL (endRows a b c p q r) := rfl
  rw [shape]
  clear shape
  generalize endRows a b c p q r = rows at *
  refine sk_seq (sk_asg (keep_ok (j := 1) start rows4 rowsb (by omega) rfl (by simp) (by omega) fun g => ⟨_, _, gNm1, ?_⟩))
  have qk : ∀ G : HS, (h ++ [tL rows] ++ [tL (keptL rows)] ++ g ++ G)[(h ++ [tL rows]).length]? = some (tL (keptL rows)) := fun G => by rw [List.append_assoc]; exact getapp2
  refine sk_ret (ok_lst (ok_cons (ok_op (ok_var rfl (ok_c ⟨_, _, opIx_r getapp2 (PI.atI_nat (a := 0) (tl_get hf0)), ?_⟩)))))
  refine ok_cons (ok_op (unl_ok (j := 2) (p := f0) getapp2 rfl (by simp) (by omega) ?_ ?_))
  · intro d G Q hQ
    exact ok_op (ok_var rfl (ok_c ⟨_, _, opIx_r (qk _) (PI.atI_nat (a := 0) (tl_get hf0)), hQ⟩))
  · refine ok_c ⟨_, _, opIx_r (getapp (g := [])) (PI.atI_nat (a := 0) (tl_get hw)), ok_nil ⟨by simp, ?_⟩⟩
    have gf := good f0 fm
    have gw := good w wm
    refine ⟨_, [tL rows] ++ [tL (keptL rows)] ++ g ++ [tL ((keptL rows).filter fun m => !(m == f0))] ++ [tL [f0, w]], f0, w, rfl, by simp [tL], by simp <;> omega, by simp [tL], gf.1, gw.1, fun z => wp z.symm, gf.2.1, gw.2.1, fun z => ⟨gf.2.2 z, gw.2.2 z⟩⟩
theorem on_ok {n : Nat} {x : List Int} {h : HS} {k : Nat} (W : Well n h) (lx : x.length = 6) (nx : Nz x) (bx : BdL k x) (hk : k < 900) : OK (F_law_on [.ref n, .tup (iL x)] h) fun v h' => Ext n h h' ∧ ∃ y, v = .tup (iL y) ∧ IsPt y ∧ BdL (k + 40) y ∧ (gI x 0 * gI x 3 + gI x 1 * gI x 4 + gI x 2 * gI x 5 = 0 → ¬ Nz (planeL x y)) := by
  have hn := W.lt
  unfold F_law_on m_law_on
  refine ok_run ?_
  refine sk_seq (sk_asg (ok_tup (ok_cons (ok_call (ok_cons (ok_var rfl (ok_nil ⟨rfl, ?_⟩)))))))
  refine (ends_ok lx nx bx (by omega)).imp ?_
  rintro _ _ ⟨r, g, p, q, rfl, rfl, hr, qr, P, Q, pq, bp, bq, ron⟩
  have E1 : Ext n h (h ++ g) := Ext.app W
  refine ok_cons (ok_call (ok_cons (ok_var rfl (ok_cons (ok_c (ok_nil ⟨rfl, ?_⟩))))))
  refine (number_ok E1.well ⟨by decide, by decide⟩).imp ?_
  rintro _ h2 ⟨i, rfl, bi, E2, L2⟩
  refine ok_cons (ok_call (ok_cons (ok_var rfl (ok_cons (ok_c (ok_nil ⟨rfl, ?_⟩))))))
  refine (number_ok E2.well ⟨by decide, by decide⟩).imp ?_
  rintro _ h3 ⟨j, rfl, bj, E3, L3⟩
  have E13 := (E1.trans E2).trans E3
  have q3 := (E2.trans E3).at qr (by omega)
  refine ok_nil ⟨by simp, _, _, gUn3, ?_⟩
  have last : ∀ (u : Int), Bd 32 u → ¬(u = 0 ∧ j = 0) → SOK (sRet (dCall 1 F_law_reduced (dCons (dLc (dRng1 (dCons (dC (.int 4)) dNil)) (gNm 5) dYes (dOp opAdd (dOp opMul (dVar 3) (dOp opIx (dOp opIx (dVar 2) (dC (.int 0))) (dVar 5))) (dOp opMul (dVar 4) (dOp opIx (dOp opIx (dVar 2) (dC (.int 1))) (dVar 5)))) [5]) dNil)) [some (.ref n), some (.tup (iL x)), some (.ref r), some (.int u), some (.int j), none] h3) (fun _ h_1 => Ext n h h_1 ∧ ∃ y, D.non = .tup (iL y) ∧ IsPt y ∧ BdL (k + 40) y ∧ (gI x 0 * gI x 3 + gI x 1 * gI x 4 + gI x 2 * gI x 5 = 0 → ¬ Nz (planeL x y))) fun v h' => Ext n h h' ∧ ∃ y, v = .tup (iL y) ∧ IsPt y ∧ BdL (k + 40) y ∧ (gI x 0 * gI x 3 + gI x 1 * gI x 4 + gI x 2 * gI x 5 = 0 → ¬ Nz (planeL x y)) := by
    intro u bu nz
    have lm : (mixL u p j q).length = 4 := mix_len P.len Q.len
    refine sk_ret (ok_call (ok_cons (ok_lc (ok_rng1 (ok_cons (ok_c (ok_nil ⟨_, rfl, by decide, by decide, 4, fun i h' => h' = h3 ++ [iL ((mixL u p j q).take i)], Nat.le_refl _, by simp [iL], ?_, ?_⟩)))))))
    · rintro c _ hc rfl
      obtain ⟨y, hy⟩ := get_lt (l := p) (i := c) (by rw [P.len]; exact hc)
      obtain ⟨z, hz⟩ := get_lt (l := q) (i := c) (by rw [Q.len]; exact hc)
      have qg : ∀ G : HS, (h3 ++ G)[r]? = some (tL [p, q]) := fun G => by rw [List.getElem?_append_left (List.getElem?_eq_some_iff.mp q3).1, q3]
      refine ⟨.int (c : Nat), by simp [Src.get, hc], _, _, gNm1, ok_yes ⟨fun _ => ?_, fun c => (by cases c)⟩⟩
      refine ok_op (ok_op (ok_var rfl (ok_op (ok_op (ok_var rfl (ok_c ⟨_, _, opIx_r (qg _) (d := .tup (iL p)) rfl, ok_var rfl ⟨_, _, opIx_t (PI.atI_nat (il_get hy)), ?_⟩⟩))))))
      refine ⟨_, _, opMul_i (bu.ok (bp y (List.mem_of_getElem? hy)) (by omega)), ?_⟩
      refine ok_op (ok_var rfl (ok_op (ok_op (ok_var rfl (ok_c ⟨_, _, opIx_r (qg _) (d := .tup (iL q)) rfl, ok_var rfl ⟨_, _, opIx_t (PI.atI_nat (il_get hz)), ?_⟩⟩)))))
      refine ⟨_, _, opMul_i (bj.ok (bq z (List.mem_of_getElem? hz)) (by omega)), ?_⟩
      refine ⟨_, _, opAdd_i, ?_⟩
      refine ⟨_, getapp (g := []), by rw [il_len]; simp; omega, ?_⟩
      show _ = _
      rw [setapp, List.take_add_one, show (mixL u p j q)[c]? = some (u * y + j * z) from by unfold mixL; rw [List.getElem?_zipWith, hy, hz], il_app]
      rfl
    · rintro _ rfl
      refine ⟨by simp [Src.get], ok_nil ⟨rfl, ?_⟩⟩
      rw [List.take_of_length_le (by omega)]
      have bm : BdL (k + 40) (mixL u p j q) := (mix_bd bu bj bp bq).mono (by omega)
      refine (reduced_ok (ls_ref (getapp (g := []))) (by omega) bm (by omega)).imp ?_
      rintro _ _ ⟨rfl, g, rfl⟩
      refine ⟨?_, _, rfl, ⟨by rw [redF_len, lm], red_redF (mix_nz P Q pq nz)⟩, redF_bd bm, fun z => on_red (mix_nz P Q pq nz) (on_mix (by rw [P.len, Q.len]) (ron z).1 (ron z).2)⟩
      simp only [List.append_assoc]
      exact E13.trans (Ext.app E13.well)
  refine sk_seq (sk_if (ok_andT (ok_B (ok_op (ok_var rfl (ok_c ⟨_, _, opEq_i, _, rfl, fun c1 => ?_, fun c1 => ⟨fun c => (by cases c), fun _ => sk_nil (last i bi ?_)⟩⟩))))))
  · refine ok_B (ok_op (ok_var rfl (ok_c ⟨_, _, opEq_i, _, rfl, fun c2 => ?_, fun c2 => sk_nil (last i bi ?_)⟩)))
    · exact sk_asg (ok_c ⟨_, _, gNm1, last 1 (b32 (by decide)) (by omega)⟩)
    · have : j ≠ 0 := by simpa using c2
      omega
  · have : i ≠ 0 := by simpa using c1
    omega

end LB

set_option maxHeartbeats 4000000
namespace LB
open PySem L2 PySem.Spec PI
local macro_rules | `(tactic| walk_at "b") => `(tactic| first
  | with_reducible assumption
  | (with_reducible refine Bd.mul ?_ ?_) <;> walk_at "b"
  | (with_reducible refine Bd.sub ?_ ?_) <;> walk_at "b"
  | (with_reducible refine Bd.add ?_ ?_) <;> walk_at "b"
  | (with_reducible refine Bd.neg ?_) <;> walk_at "b"
  | exact natAbs_lt (k := 40) (by decide))
local macro_rules | `(tactic| walk_at "m") => `(tactic| (apply Bd.ok <;> first | walk_at "b" | decide | omega))
local macro_rules | `(tactic| walk_at "p") => `(tactic| (first | exact pre_self | assumption | (refine pre_app ?_; walk_at "p")))
local macro_rules | `(tactic| walk_at "e") => `(tactic| first
  | refine ⟨_, _, opMul_i (.inl ⟨by decide, by decide⟩), ?_⟩
  | refine ⟨_, _, opMul_i (.inr (.inl ⟨by decide, by decide⟩)), ?_⟩
  | (refine ⟨_, _, opMul_i ?_, ?_⟩; · walk_at "m")
  | refine ⟨_, _, rfl, ?_⟩
  | refine ⟨_, rfl, ?_⟩
  | refine ⟨rfl, ?_⟩
  | refine ⟨rfl, rfl, ?_⟩)
local macro_rules | `(tactic| walk_at "d") => `(tactic| first
  | with_reducible refine ok_c ?_
  | with_reducible refine ok_var rfl ?_
  | with_reducible refine ok_op ?_
  | with_reducible refine ok_un ?_
  | with_reducible refine ok_nil ?_
  | with_reducible refine ok_cons ?_
  | with_reducible refine ok_tup ?_
  | with_reducible refine ok_lst ?_
  | with_reducible refine ok_cb ?_
  | with_reducible refine ok_call ?_
  | with_reducible refine ok_callK ?_
  | with_reducible refine ok_sl ?_
  | with_reducible refine ok_nopart ?_
  | with_reducible refine ok_part ?_
  | with_reducible refine ok_B ?_
  | with_reducible refine ok_andT ?_
  | with_reducible refine ok_orT ?_
  | with_reducible refine ok_notT ?_
  | with_reducible refine ok_and ?_
  | with_reducible refine ok_or ?_
  | with_reducible refine ok_not ?_
  | with_reducible refine ok_if ?_
  | with_reducible refine ok_app ?_
  | with_reducible refine ok_lc ?_
  | with_reducible refine ok_yes ?_
  | with_reducible refine ok_src ?_
  | with_reducible refine ok_rng1 ?_
  | with_reducible refine ok_rng2 ?_
  | with_reducible refine ok_zip ?_
  | with_reducible refine sk_nil ?_
  | with_reducible refine sk_seq ?_
  | with_reducible refine sk_ret ?_
  | with_reducible refine sk_drop ?_
  | with_reducible refine sk_if ?_
  | with_reducible refine sk_asg ?_
  | with_reducible refine sk_par ?_
  | with_reducible refine sk_par3 ?_
  | with_reducible refine sk_for ?_
  | with_reducible refine ⟨_, _, gNm1, ?_⟩
  | with_reducible refine ⟨_, _, gUn2, ?_⟩
  | with_reducible refine ⟨_, _, gUn3, ?_⟩
  | with_reducible refine ⟨_, _, opSub_i, ?_⟩
  | with_reducible refine ⟨_, _, opAdd_i, ?_⟩
  | with_reducible refine ⟨_, _, opNe_i, ?_⟩
  | with_reducible refine ⟨_, _, opEq_i, ?_⟩
  | with_reducible refine ⟨_, _, opMod_i (by decide), ?_⟩
  | with_reducible refine ⟨_, _, opDiv_i ⟨by decide, by decide⟩, ?_⟩
  | ((with_reducible refine And.intro ?_ ?_); · rfl)
  | ((fail_if_success (with_reducible refine And.intro ?_ ?_)); (fail_if_success (with_reducible refine OK.imp (Q := fun _ _ => True) ?_ ?_)); (fail_if_success (with_reducible refine SOK.imp (Qn := fun _ _ => True) (Qr := fun _ _ => True) ?_ ?_ ?_)); walk_at "e"))

open PK
open LA (mulL4 rp_comm rp_back rp_back1 setapp1 mulL6)
theorem screw_ok {ns : List Int} {h : HS} (R : IsSc ns) : OK (PK.F_is_screw [.tup (iL ns)] h) fun v h' => v = .bl true ∧ ∃ g, h' = h ++ g := by
  have hl := R.len
  unfold PK.F_is_screw PK.m_is_screw
  refine ok_run ?_
  repeat walk_at "d"
  exact isred_ok (n := 6) (by omega) hl R.red
theorem screw_no {r : Nat} {h : HS} : OK (PK.F_is_screw [.ref r] h) fun v h' => v = .bl false ∧ ∃ g, h' = h ++ g := by
  unfold PK.F_is_screw PK.m_is_screw
  refine ok_run ?_
  repeat walk_at "d"
  unfold PK.F_is_reduced_row PK.m_is_reduced_row
  refine ok_run ?_
  refine sk_seq (sk_if (ok_orT (ok_notT (ok_B (ok_cb (ok_cons (ok_var rfl (ok_cons (ok_c (ok_nil ⟨_, _, isi_eq rfl rfl, _, rfl, ?_⟩))))))))))
  refine ⟨fun c => (by cases c), fun _ => ⟨fun _ => sk_ret (ok_c ⟨rfl, [], by simp⟩), fun c => (by cases c)⟩⟩
theorem isrod_gen {ns : List Int} {h : HS} {k : Nat} (R : IsSc ns) (hb : BdL k ns) (hk : k < 400000) : OK (PK.F_is_rod [.tup (iL ns)] h) fun v h' => v = .bl (rp ns ns == 0) ∧ ∃ g, h' = h ++ g := by
  have hl := R.len
  unfold PK.F_is_rod PK.m_is_rod
  refine ok_run ?_
  repeat walk_at "d"
  refine (isred_ok (n := 6) (by omega) hl R.red).imp ?_
  rintro _ _ ⟨rfl, g, rfl⟩
  repeat walk_at "d"
  refine ⟨fun c => ?_, fun c => (by cases c)⟩
  repeat walk_at "d"
  rw [show cutD (iL ns) none (some 3) = iL (ns.take 3) from cut_lo, show cutD (iL ns) (some 3) none = iL (ns.drop 3) from cut_hi]
  refine (dot_ok (j := k) (k := k) (by simp; omega) hb.take hb.drop (by omega)).imp ?_
  rintro _ _ ⟨rfl, g2, rfl⟩
  repeat walk_at "d"
  refine ⟨?_, g ++ g2, by simp⟩
  obtain ⟨a, b, c, d, e, f, rfl⟩ := six hl
  have e2 : dotL (List.take 3 [a, b, c, d, e, f]) (List.drop 3 [a, b, c, d, e, f]) = a * d + b * e + c * f := by
    show a * d + (b * e + (c * f + 0)) = _
    omega
  have e3 : rp [a, b, c, d, e, f] [a, b, c, d, e, f] = 2 * (a * d + b * e + c * f) := by
    show a * d + b * e + c * f + d * a + e * b + f * c = _
    grind
  rw [e2, e3]
  congr 1
  by_cases z : a * d + b * e + c * f = 0
  · rw [z]; rfl
  · have w : 2 * (a * d + b * e + c * f) ≠ 0 := by omega
    have e1 : (a * d + b * e + c * f == 0) = false := by simpa using z
    have e2 : (2 * (a * d + b * e + c * f) == 0) = false := beq_false_of_ne w
    rw [e1, e2]
theorem check_screw_ok {ns : List Int} {h : HS} (R : IsSc ns) : OK (PK.F_check_screw [.tup (iL ns)] h) fun v h' => v = .non ∧ ∃ g, h' = h ++ g := by
  unfold PK.F_check_screw PK.m_check_screw
  refine ok_run ?_
  repeat walk_at "d"
  refine (screw_ok R).imp ?_
  rintro _ _ ⟨rfl, g, rfl⟩
  repeat walk_at "d"
  refine ⟨fun c => (by cases c), fun _ => sk_nil ⟨rfl, g, rfl⟩⟩
theorem check_screws_ok {a b : List Int} {h : HS} (A : IsSc a) (B : IsSc b) : OK (PK.F_check_screws [.tup (iL a), .tup (iL b)] h) fun v h' => v = .non ∧ ∃ g, h' = h ++ g := by
  unfold PK.F_check_screws PK.m_check_screws
  refine ok_run ?_
  repeat walk_at "d"
  refine (check_screw_ok A).imp ?_
  rintro _ _ ⟨rfl, g, rfl⟩
  repeat walk_at "d"
  refine (check_screw_ok B).imp ?_
  rintro _ _ ⟨rfl, g2, rfl⟩
  exact ⟨rfl, g ++ g2, by simp⟩
theorem sprod_ok {a b : List Int} {h : HS} {k : Nat} (A : IsSc a) (B : IsSc b) (ha : BdL k a) (hb : BdL k b) (hk : k < 400000) : OK (PK.F_screw_product [.tup (iL a), .tup (iL b)] h) fun v h' => v = .int (rp a b) ∧ ∃ g, h' = h ++ g := by
  unfold PK.F_screw_product PK.m_screw_product
  refine ok_run ?_
  repeat walk_at "d"
  refine (check_screws_ok A B).imp ?_
  rintro _ _ ⟨rfl, g, rfl⟩
  repeat walk_at "d"
  refine (rowp_ok A.len B.len ha hb (by omega)).imp ?_
  rintro _ _ ⟨rfl, g2, rfl⟩
  exact ⟨rfl, g ++ g2, by simp⟩
theorem flat_ok {a : List Int} {h : HS} {k : Nat} (A : IsSc a) (ha : BdL k a) (hk : k < 400000) : OK (PK.F_is_flat [.tup (iL a)] h) fun v h' => v = .bl (rp a a == 0) ∧ ∃ g, h' = h ++ g := by
  unfold PK.F_is_flat PK.m_is_flat
  refine ok_run ?_
  repeat walk_at "d"
  refine (check_screw_ok A).imp ?_
  rintro _ _ ⟨rfl, g, rfl⟩
  repeat walk_at "d"
  refine (rowp_ok A.len A.len ha ha (by omega)).imp ?_
  rintro _ _ ⟨rfl, g2, rfl⟩
  repeat walk_at "d"
  exact ⟨g ++ g2, by simp⟩
theorem net_ok {a b : List Int} {h : HS} {k : Nat} (A : IsSc a) (B : IsRod b) (ha : BdL k a) (hb : BdL k b) (hk : k < 400000) : OK (PK.F_in_net [.tup (iL a), .tup (iL b)] h) fun v h' => v = .bl (rp a b == 0) ∧ ∃ g, h' = h ++ g := by
  unfold PK.F_in_net PK.m_in_net
  refine ok_run ?_
  repeat walk_at "d"
  refine (check_screw_ok A).imp ?_
  rintro _ _ ⟨rfl, g, rfl⟩
  repeat walk_at "d"
  refine (check_rod_ok B hb hk).imp ?_
  rintro _ _ ⟨rfl, g2, rfl⟩
  repeat walk_at "d"
  refine (rowp_ok A.len B.len ha hb (by omega)).imp ?_
  rintro _ _ ⟨rfl, g3, rfl⟩
  repeat walk_at "d"
  exact ⟨g ++ (g2 ++ g3), by simp⟩
theorem rp_red {l : List Int} (nz : Nz l) (h : rp l l ≠ 0) : rp (redF l) (redF l) ≠ 0 := by
  rw [rp_back nz nz] at h
  intro z
  rw [z] at h
  simp at h
theorem twisted_ok {n : Nat} {s : Int} {h : HS} (W : Well n h) (hs : Sz s) : OK (F_law_twisted [.ref n, .int s] h) fun v h' => Ext n h h' ∧ ∃ r, v = .tup (iL r) ∧ IsSc r ∧ BdL 80 r ∧ rp r r ≠ 0 := by
  unfold F_law_twisted m_law_twisted
  refine ok_run ?_
  refine sk_seq (sk_asg (ok_call (ok_cons (ok_var rfl (ok_cons (ok_var rfl (ok_nil ⟨rfl, ?_⟩)))))))
  refine (six_ok W hs).imp ?_
  rintro _ h1 ⟨E1, x, rfl, X, bx⟩
  refine ⟨_, _, gNm1, ?_⟩
  refine sk_seq (sk_if (ok_B (ok_op (ok_call (ok_cons (ok_var rfl (ok_cons (ok_var rfl (ok_nil ⟨rfl, ?_⟩)))))))))
  refine (paired_ok X.len X.len bx bx (by decide)).imp ?_
  rintro _ _ ⟨rfl, g, rfl⟩
  have E2 : Ext n h (h1 ++ g) := E1.trans (Ext.app E1.well)
  refine ok_c ⟨_, _, opNe_i, _, rfl, fun c => ?_, fun c => sk_nil ?_⟩
  · exact sk_ret (ok_var rfl ⟨E2, x, rfl, X, bx.mono (by decide), by simpa using c⟩)
  · have sq : rp x x = 0 := by simpa using c
    have lx := X.len
    obtain ⟨a, b, c', p, q, r, rfl⟩ := six lx
    obtain ⟨A, B, C, P, Q, R⟩ := bd6 bx
    have nx : Nz [a, b, c', p, q, r] := X.red.nz
    have sq : a * p + b * q + c' * r + p * a + q * b + r * c' = 0 := sq
    have last : ∀ (u v w : Int), Bd 70 u → Bd 70 v → Bd 70 w → Nz [u, v, w, p + u, q + v, r + w] → rp [u, v, w, p + u, q + v, r + w] [u, v, w, p + u, q + v, r + w] ≠ 0 → SOK (sRet (dCall 1 F_law_reduced (dCons (dOp opAdd (dVar 3) (dCB opTuple (dCons (dLc (dRng1 (dCons (dC (.int 3)) dNil)) (gNm 4) dYes (dOp opAdd (dOp opIx (dVar 2) (dOp opAdd (dVar 4) (dC (.int 3)))) (dOp opIx (dVar 3) (dVar 4))) [4]) dNil))) dNil)) [some (.ref n), some (.int s), some (.tup (iL [a, b, c', p, q, r])), some (.tup (iL [u, v, w])), none] (h1 ++ g)) (fun _ h_1 => Ext n h h_1 ∧ ∃ r, D.non = .tup (iL r) ∧ IsSc r ∧ BdL 80 r ∧ rp r r ≠ 0) fun v h' => Ext n h h' ∧ ∃ r, v = .tup (iL r) ∧ IsSc r ∧ BdL 80 r ∧ rp r r ≠ 0 := by
      intro u v w U V Wd nz rz
      refine sk_ret (ok_call (ok_cons (ok_op (ok_var rfl (ok_cb (ok_cons (ok_lc (ok_rng1 (ok_cons (ok_c (ok_nil ⟨_, rfl, by decide, by decide, 3, fun i h' => h' = h1 ++ g ++ [iL ([p + u, q + v, r + w].take i)], Nat.le_refl _, rfl, ?_, ?_⟩)))))))))))
      · rintro i _ hi rfl
        refine ⟨.int (0 + i), by simp [Src.get, hi], ?_⟩
        have hi' : i = 0 ∨ i = 1 ∨ i = 2 := by omega
        rcases hi' with rfl | rfl | rfl <;> (
          repeat walk_at "d"
          refine ⟨fun _ => ?_, fun c => (by cases c)⟩
          repeat walk_at "d"
          refine ⟨_, getapp (g := []), by simp [iL], ?_⟩
          show _ = _
          rw [setapp]
          rfl)
      · rintro _ rfl
        refine ⟨by simp [Src.get], ok_nil ⟨_, _, opTuple_ref (getapp (g := [])), _, _, opAdd_t (by simp [iL]), ok_nil ⟨rfl, ?_⟩⟩⟩
        rw [← il_app]
        have bm : BdL 80 [u, v, w, p + u, q + v, r + w] := by
          refine bdl_cons (U.mono (by decide)) (bdl_cons (V.mono (by decide)) (bdl_cons (Wd.mono (by decide)) (bdl3 ?_ ?_ ?_)))
          · exact (P.add U).mono (by decide)
          · exact (Q.add V).mono (by decide)
          · exact (R.add Wd).mono (by decide)
        refine (reduced_ok (ns := [u, v, w, p + u, q + v, r + w]) ls_tup (by simp) bm (by decide)).imp ?_
        rintro _ _ ⟨rfl, g2, rfl⟩
        refine ⟨?_, _, rfl, ⟨by rw [redF_len]; rfl, red_redF nz⟩, redF_bd bm, rp_red nz rz⟩
        simp only [List.append_assoc]
        exact E1.trans (Ext.app E1.well)
    have sqr : ∀ {u v w : Int}, u * u + v * v + w * w = 0 → u = 0 ∧ v = 0 ∧ w = 0 := by
      intro u v w z
      have a1 : 0 ≤ u * u := by rcases Int.le_total 0 u with h | h; exact Int.mul_nonneg h h; exact Int.mul_nonneg_of_nonpos_of_nonpos h h
      have a2 : 0 ≤ v * v := by rcases Int.le_total 0 v with h | h; exact Int.mul_nonneg h h; exact Int.mul_nonneg_of_nonpos_of_nonpos h h
      have a3 : 0 ≤ w * w := by rcases Int.le_total 0 w with h | h; exact Int.mul_nonneg h h; exact Int.mul_nonneg_of_nonpos_of_nonpos h h
      refine ⟨?_, ?_, ?_⟩
      · exact (Int.mul_eq_zero.mp (show u * u = 0 by omega)).elim id id
      · exact (Int.mul_eq_zero.mp (show v * v = 0 by omega)).elim id id
      · exact (Int.mul_eq_zero.mp (show w * w = 0 by omega)).elim id id
    have c1 : cutD (iL [a, b, c', p, q, r]) none (some 3) = iL [a, b, c'] := cut_lo (k := 3)
    have c2 : cutD (iL [a, b, c', p, q, r]) (some 3) none = iL [p, q, r] := cut_hi (k := 3)
    have sl1 : opSl (.tup (iL [a, b, c', p, q, r])) none (some 3) (h1 ++ g) = some (.tup (iL [a, b, c']), h1 ++ g) := by rw [← c1]; rfl
    have sl2 : opSl (.tup (iL [a, b, c', p, q, r])) (some 3) none (h1 ++ g) = some (.tup (iL [p, q, r]), h1 ++ g) := by rw [← c2]; rfl
    refine sk_seq (sk_asg (ok_if (ok_B (ok_op (ok_sl (ok_var rfl (ok_nopart (ok_part (ok_c ⟨_, rfl, _, _, sl1, ok_tup (ok_cons (ok_c (ok_cons (ok_c (ok_cons (ok_c (ok_nil ⟨by simp, _, _, opNe_il (a := [a, b, c']) (b := [0, 0, 0]), _, rfl, fun z => ?_, fun z => ?_⟩)))))))⟩)))))))))
    · have z : ¬(a = 0 ∧ b = 0 ∧ c' = 0) := by
        have z2 : ¬a = 0 ∨ ¬b = 0 ∨ ¬c' = 0 := by simpa using z
        omega
      refine ok_sl (ok_var rfl (ok_nopart (ok_part (ok_c ⟨_, rfl, _, _, sl1, _, _, gNm1, ?_⟩))))
      refine last a b c' A B C ?_ ?_
      · by_cases a0 : a = 0
        · by_cases b0 : b = 0
          · exact ⟨c', by simp, fun y => z ⟨a0, b0, y⟩⟩
          · exact ⟨b, by simp, b0⟩
        · exact ⟨a, by simp, a0⟩
      · show a * (p + a) + b * (q + b) + c' * (r + c') + (p + a) * a + (q + b) * b + (r + c') * c' ≠ 0
        intro y
        exact z (sqr (show a * a + b * b + c' * c' = 0 by grind))
    · have z : a = 0 ∧ b = 0 ∧ c' = 0 := by simpa using z
      obtain ⟨rfl, rfl, rfl⟩ := z
      refine ok_sl (ok_var rfl (ok_part (ok_c ⟨_, rfl, ok_nopart ⟨_, _, sl2, _, _, gNm1, ?_⟩⟩)))
      have np : ¬(p = 0 ∧ q = 0 ∧ r = 0) := by
        rintro ⟨rfl, rfl, rfl⟩
        obtain ⟨y, hy, y0⟩ := nx
        simp at hy
        exact y0 hy
      refine last p q r P Q R ?_ ?_
      · by_cases a0 : p = 0
        · by_cases b0 : q = 0
          · exact ⟨r, by simp, fun y => np ⟨a0, b0, y⟩⟩
          · exact ⟨q, by simp, b0⟩
        · exact ⟨p, by simp, a0⟩
      · show p * (p + p) + q * (q + q) + r * (r + r) + (p + p) * p + (q + q) * q + (r + r) * r ≠ 0
        intro y
        exact np (sqr (show p * p + q * q + r * r = 0 by grind))

end LB

set_option maxHeartbeats 4000000
namespace LB
open PySem L2 PySem.Spec PI
local macro_rules | `(tactic| walk_at "b") => `(tactic| first
  | with_reducible assumption
  | (with_reducible refine Bd.mul ?_ ?_) <;> walk_at "b"
  | (with_reducible refine Bd.sub ?_ ?_) <;> walk_at "b"
  | (with_reducible refine Bd.add ?_ ?_) <;> walk_at "b"
  | (with_reducible refine Bd.neg ?_) <;> walk_at "b"
  | exact natAbs_lt (k := 40) (by decide))
local macro_rules | `(tactic| walk_at "m") => `(tactic| (apply Bd.ok <;> first | walk_at "b" | decide | omega))
local macro_rules | `(tactic| walk_at "p") => `(tactic| (first | exact pre_self | assumption | (refine pre_app ?_; walk_at "p")))
local macro_rules | `(tactic| walk_at "e") => `(tactic| first
  | refine ⟨_, _, opMul_i (.inl ⟨by decide, by decide⟩), ?_⟩
  | refine ⟨_, _, opMul_i (.inr (.inl ⟨by decide, by decide⟩)), ?_⟩
  | (refine ⟨_, _, opMul_i ?_, ?_⟩; · walk_at "m")
  | refine ⟨_, _, rfl, ?_⟩
  | refine ⟨_, rfl, ?_⟩
  | refine ⟨rfl, ?_⟩
  | refine ⟨rfl, rfl, ?_⟩)
local macro_rules | `(tactic| walk_at "d") => `(tactic| first
  | with_reducible refine ok_c ?_
  | with_reducible refine ok_var rfl ?_
  | with_reducible refine ok_op ?_
  | with_reducible refine ok_un ?_
  | with_reducible refine ok_nil ?_
  | with_reducible refine ok_cons ?_
  | with_reducible refine ok_tup ?_
  | with_reducible refine ok_lst ?_
  | with_reducible refine ok_cb ?_
  | with_reducible refine ok_call ?_
  | with_reducible refine ok_callK ?_
  | with_reducible refine ok_sl ?_
  | with_reducible refine ok_nopart ?_
  | with_reducible refine ok_part ?_
  | with_reducible refine ok_B ?_
  | with_reducible refine ok_andT ?_
  | with_reducible refine ok_orT ?_
  | with_reducible refine ok_notT ?_
  | with_reducible refine ok_and ?_
  | with_reducible refine ok_or ?_
  | with_reducible refine ok_not ?_
  | with_reducible refine ok_if ?_
  | with_reducible refine ok_app ?_
  | with_reducible refine ok_lc ?_
  | with_reducible refine ok_yes ?_
  | with_reducible refine ok_src ?_
  | with_reducible refine ok_rng1 ?_
  | with_reducible refine ok_rng2 ?_
  | with_reducible refine ok_zip ?_
  | with_reducible refine sk_nil ?_
  | with_reducible refine sk_seq ?_
  | with_reducible refine sk_ret ?_
  | with_reducible refine sk_drop ?_
  | with_reducible refine sk_if ?_
  | with_reducible refine sk_asg ?_
  | with_reducible refine sk_par ?_
  | with_reducible refine sk_par3 ?_
  | with_reducible refine sk_for ?_
  | with_reducible refine ⟨_, _, gNm1, ?_⟩
  | with_reducible refine ⟨_, _, gUn2, ?_⟩
  | with_reducible refine ⟨_, _, gUn3, ?_⟩
  | with_reducible refine ⟨_, _, opSub_i, ?_⟩
  | with_reducible refine ⟨_, _, opAdd_i, ?_⟩
  | with_reducible refine ⟨_, _, opNe_i, ?_⟩
  | with_reducible refine ⟨_, _, opEq_i, ?_⟩
  | with_reducible refine ⟨_, _, opMod_i (by decide), ?_⟩
  | with_reducible refine ⟨_, _, opDiv_i ⟨by decide, by decide⟩, ?_⟩
  | ((with_reducible refine And.intro ?_ ?_); · rfl)
  | ((fail_if_success (with_reducible refine And.intro ?_ ?_)); (fail_if_success (with_reducible refine OK.imp (Q := fun _ _ => True) ?_ ?_)); (fail_if_success (with_reducible refine SOK.imp (Qn := fun _ _ => True) (Qr := fun _ _ => True) ?_ ?_ ?_)); walk_at "e"))

open PK
open LA (mulL4 rp_comm rp_back rp_back1 setapp1 mulL6 nz_ne)
def sgG (n m : Int) : Int := if m < 0 then -((Nat.gcd n.natAbs m.natAbs : Nat) : Int) else ((Nat.gcd n.natAbs m.natAbs : Nat) : Int)
def fr (n m : Int) : List Int := [n.fdiv (sgG n m), m.fdiv (sgG n m)]
theorem sgG_nz {n m : Int} (h : m ≠ 0) : sgG n m ≠ 0 := by
  have : Nat.gcd n.natAbs m.natAbs ≠ 0 := by
    intro z
    have := (Nat.gcd_eq_zero_iff.mp z).2
    omega
  unfold sgG
  split <;> omega
theorem gcd_bd {n m : Int} {k : Nat} (h : m ≠ 0) (bm : Bd k m) : Bd k (sgG n m) := by
  have : Nat.gcd n.natAbs m.natAbs ≤ m.natAbs := Nat.gcd_le_right _ (by omega)
  unfold Bd at *
  unfold sgG
  split <;> omega
theorem ratio_ok {n m : Int} {h : HS} {k : Nat} (hm : m ≠ 0) (bm : Bd k m) (hk : k < 9000) : OK (PK.F_ratio [.int n, .int m] h) fun v h' => v = .tup (iL (fr n m)) ∧ h' = h := by
  have s0 := sgG_nz (n := n) hm
  have sb := PK.log9 (gcd_bd (n := n) hm bm) hk
  unfold PK.F_ratio PK.m_ratio
  refine ok_run ?_
  refine sk_seq (sk_asg (ok_cb (ok_cons (ok_var rfl (ok_cons (ok_var rfl (ok_nil ⟨_, _, rfl, _, _, gNm1, ?_⟩)))))))
  have go : ∀ g : Int, g = sgG n m → SOK (sRet (dTup (dCons (dOp opDiv (dVar 0) (dVar 2)) (dCons (dOp opDiv (dVar 1) (dVar 2)) dNil))) [some (.int n), some (.int m), some (.int g)] h) (fun _ h_1 => D.non = .tup (iL (fr n m)) ∧ h_1 = h) (fun v h' => v = .tup (iL (fr n m)) ∧ h' = h) := by
    rintro g rfl
    exact sk_ret (ok_tup (ok_cons (ok_op (ok_var rfl (ok_var rfl ⟨_, _, opDiv_f ⟨s0, sb⟩, ok_cons (ok_op (ok_var rfl (ok_var rfl ⟨_, _, opDiv_f ⟨s0, sb⟩, ok_nil ⟨by simp, rfl, rfl⟩⟩)))⟩)))))
  refine sk_seq (sk_if (ok_B (ok_op (ok_var rfl (ok_c ⟨_, _, rfl, _, rfl, fun c => ?_, fun c => ?_⟩)))))
  · have c : m < 0 := of_decide_eq_true c
    refine sk_asg (ok_un (ok_var rfl ⟨_, _, rfl, _, _, gNm1, go _ ?_⟩))
    unfold sgG
    rw [if_pos c]
  · have c : ¬ m < 0 := of_decide_eq_false c
    refine sk_nil (go _ ?_)
    unfold sgG
    rw [if_neg c]
theorem fraction_ok {n m : Int} {F : DF} (hF : F = run 3 (sSeq (sAsg (dCall 2 F_law_gcd (dCons (dVar 0) (dCons (dVar 1) dNil))) (gNm 2))
    (sSeq (sIf (dB (dOp opLt (dVar 1) (dC (.int 0)))) (sAsg (dOp opSub (dC (.int 0)) (dVar 2)) (gNm 2)) sNil)
    (sRet (dTup (dCons (dOp opDiv (dVar 0) (dVar 2)) (dCons (dOp opDiv (dVar 1) (dVar 2)) dNil))))))) {h : HS} {k : Nat} (hm : m ≠ 0) (bm : Bd k m) (hk : k < 9000) : OK (F [.int n, .int m] h) fun v h' => v = .tup (iL (fr n m)) ∧ h' = h := by
  have s0 := sgG_nz (n := n) hm
  have sb := PK.log9 (gcd_bd (n := n) hm bm) hk
  rw [hF]
  refine ok_run ?_
  refine sk_seq (sk_asg (ok_call (ok_cons (ok_var rfl (ok_cons (ok_var rfl (ok_nil ⟨rfl, ?_⟩)))))))
  refine gcd_ok.imp ?_
  rintro _ _ ⟨rfl, rfl⟩
  rename_i h
  refine ⟨_, _, gNm1, ?_⟩
  have go : ∀ g : Int, g = sgG n m → SOK (sRet (dTup (dCons (dOp opDiv (dVar 0) (dVar 2)) (dCons (dOp opDiv (dVar 1) (dVar 2)) dNil))) [some (.int n), some (.int m), some (.int g)] h) (fun _ h_1 => D.non = .tup (iL (fr n m)) ∧ h_1 = h) (fun v h' => v = .tup (iL (fr n m)) ∧ h' = h) := by
    rintro g rfl
    exact sk_ret (ok_tup (ok_cons (ok_op (ok_var rfl (ok_var rfl ⟨_, _, opDiv_f ⟨s0, sb⟩, ok_cons (ok_op (ok_var rfl (ok_var rfl ⟨_, _, opDiv_f ⟨s0, sb⟩, ok_nil ⟨by simp, rfl, rfl⟩⟩)))⟩)))))
  refine sk_seq (sk_if (ok_B (ok_op (ok_var rfl (ok_c ⟨_, _, rfl, _, rfl, fun c => ?_, fun c => ?_⟩)))))
  · have c : m < 0 := of_decide_eq_true c
    refine sk_asg (ok_op (ok_c (ok_var rfl ⟨_, _, opSub_i, _, _, gNm1, go _ ?_⟩)))
    unfold sgG
    rw [if_pos c]
    omega
  · have c : ¬ m < 0 := of_decide_eq_false c
    refine sk_nil (go _ ?_)
    unfold sgG
    rw [if_neg c]
theorem sgG_mul {k n m : Int} (hk : k ≠ 0) (hm : m ≠ 0) : sgG (k * n) (k * m) = k * sgG n m := by
  unfold sgG
  rw [Int.natAbs_mul, Int.natAbs_mul, Nat.gcd_mul_left]
  push_cast
  generalize ((Nat.gcd n.natAbs m.natAbs : Nat) : Int) = g
  rcases Int.lt_or_gt_of_ne hk with k0 | k0 <;> rcases Int.lt_or_gt_of_ne hm with m0 | m0
  · have : 0 < k * m := Int.mul_pos_of_neg_of_neg k0 m0
    rw [if_neg (by omega), if_pos m0, show ((k.natAbs : Nat) : Int) = -k by omega]
    grind
  · have : k * m < 0 := Int.mul_neg_of_neg_of_pos k0 m0
    rw [if_pos this, if_neg (by omega), show ((k.natAbs : Nat) : Int) = -k by omega]
    grind
  · have : k * m < 0 := Int.mul_neg_of_pos_of_neg k0 m0
    rw [if_pos this, if_pos m0, show ((k.natAbs : Nat) : Int) = k by omega]
    grind
  · have : 0 < k * m := Int.mul_pos k0 m0
    rw [if_neg (by omega), if_neg (by omega), show ((k.natAbs : Nat) : Int) = k by omega]
theorem sgG_dvd (n m : Int) : sgG n m ∣ n ∧ sgG n m ∣ m := by
  have a : ((Nat.gcd n.natAbs m.natAbs : Nat) : Int) ∣ n := nat_dvd (Nat.gcd_dvd_left _ _)
  have b : ((Nat.gcd n.natAbs m.natAbs : Nat) : Int) ∣ m := nat_dvd (Nat.gcd_dvd_right _ _)
  unfold sgG
  split
  · exact ⟨Int.neg_dvd.mpr a, Int.neg_dvd.mpr b⟩
  · exact ⟨a, b⟩
theorem fr_mul {k n m : Int} (hk : k ≠ 0) (hm : m ≠ 0) : fr (k * n) (k * m) = fr n m := by
  have s0 := sgG_nz (n := n) hm
  have ks : k * sgG n m ≠ 0 := fun z => (Int.mul_eq_zero.mp z).elim hk s0
  obtain ⟨a, ha⟩ := (sgG_dvd n m).1
  obtain ⟨b, hb⟩ := (sgG_dvd n m).2
  unfold fr
  rw [sgG_mul hk hm]
  generalize sgG n m = s at *
  have e : ∀ {u v : Int}, u = s * v → (k * u).fdiv (k * s) = u.fdiv s := by
    rintro u v rfl
    rw [← Int.mul_assoc, Int.mul_fdiv_cancel_left _ ks, Int.mul_fdiv_cancel_left _ s0]
  rw [e ha, e hb]
/-- both numbers of a fraction, times its factor -/
theorem fr_back {n m : Int} (hm : m ≠ 0) : n = sgG n m * (n.fdiv (sgG n m)) ∧ m = sgG n m * (m.fdiv (sgG n m)) := by
  have s0 := sgG_nz (n := n) hm
  obtain ⟨a, ha⟩ := (sgG_dvd n m).1
  obtain ⟨b, hb⟩ := (sgG_dvd n m).2
  generalize sgG n m = s at *
  refine ⟨?_, ?_⟩
  · rw [ha, Int.mul_fdiv_cancel_left _ s0]
  · rw [hb, Int.mul_fdiv_cancel_left _ s0]
def dd (x : List Int) : Int := gI x 0 * gI x 0 + gI x 1 * gI x 1 + gI x 2 * gI x 2
def dm (x : List Int) : Int := gI x 0 * gI x 3 + gI x 1 * gI x 4 + gI x 2 * gI x 5
def axL (x : List Int) : List Int := [dd x * gI x 0, dd x * gI x 1, dd x * gI x 2, dd x * gI x 3 - dm x * gI x 0, dd x * gI x 4 - dm x * gI x 1, dd x * gI x 5 - dm x * gI x 2]
def mkL (b : List Int) (u v : Int) : List Int := [v * gI b 0, v * gI b 1, v * gI b 2, v * gI b 3 + u * gI b 0, v * gI b 4 + u * gI b 1, v * gI b 5 + u * gI b 2]
theorem dd_nz {x : List Int} (h : dd x ≠ 0) : Nz (x.take 3) := by
  by_cases c : Nz (x.take 3)
  · exact c
  · exfalso
    apply h
    have z : ∀ i, i < 3 → gI x i = 0 := by
      intro i hi
      unfold gI
      rw [List.getD_eq_getElem?_getD]
      cases q : x[i]? with
      | none => rfl
      | some y => exact not_nz c y (List.mem_of_getElem? (i := i) (by rw [List.getElem?_take_of_lt hi, q]))
    unfold dd
    rw [z 0 (by decide), z 1 (by decide), z 2 (by decide)]
    rfl
theorem withaxis_ok {x : List Int} {h : HS} (X : IsSc x) (d0 : dd x ≠ 0) : OK (PK.F_check_with_axis [.tup (iL x)] h) fun v h' => v = .non ∧ ∃ g, h' = h ++ g := by
  unfold PK.F_check_with_axis PK.m_check_with_axis
  refine ok_run ?_
  refine sk_seq (sk_drop (ok_call (ok_cons (ok_var rfl (ok_nil ⟨rfl, ?_⟩)))))
  refine (check_screw_ok X).imp ?_
  rintro _ _ ⟨rfl, g, rfl⟩
  have sl : opSl (.tup (iL x)) none (some 3) (h ++ g) = some (.tup (iL (x.take 3)), h ++ g) := by rw [← cut_lo (k := 3)]; rfl
  refine sk_if (ok_notT (ok_B (ok_cb (ok_cons (ok_sl (ok_var rfl (ok_nopart (ok_part (ok_c ⟨_, rfl, _, _, sl, ok_nil ⟨_, _, anyT_eq, _, rfl, ?_⟩⟩)))))))))
  rw [anyL_nz.mpr (dd_nz d0)]
  exact ⟨fun c => (by cases c), fun _ => sk_nil ⟨rfl, g, rfl⟩⟩
theorem dot_dd {x : List Int} (lx : x.length = 6) : dotL (x.take 3) (x.take 3) = dd x ∧ dotL (x.take 3) (x.drop 3) = dm x := by
  obtain ⟨a, b, c, d, e, f, rfl⟩ := six lx
  exact ⟨dot3, dot3⟩
theorem dd_bd {x : List Int} {k : Nat} (h : BdL k x) : Bd (2 * k + 5) (dd x) ∧ Bd (2 * k + 5) (dm x) := by
  have m : ∀ i j, Bd (2 * k) (gI x i * gI x j) := fun i j => ((gI_bd h i).mul (gI_bd h j)).mono (by omega)
  exact ⟨(((m _ _).add (m _ _)).add (m _ _)).mono (by omega), (((m _ _).add (m _ _)).add (m _ _)).mono (by omega)⟩
theorem pitch_ok {x : List Int} {h : HS} {k : Nat} (X : IsSc x) (bx : BdL k x) (hk : k < 2000) (d0 : dd x ≠ 0) : OK (PK.F_pitch [.tup (iL x)] h) fun v h' => v = .tup (iL (fr (dm x) (dd x))) ∧ ∃ g, h' = h ++ g := by
  have lx := X.len
  obtain ⟨e1, e2⟩ := dot_dd lx
  unfold PK.F_pitch PK.m_pitch
  refine ok_run ?_
  repeat walk_at "d"
  refine (withaxis_ok X d0).imp ?_
  rintro _ _ ⟨rfl, g1, rfl⟩
  repeat walk_at "d"
  rw [show cutD (iL x) none (some 3) = iL (x.take 3) from cut_lo, show cutD (iL x) (some 3) none = iL (x.drop 3) from cut_hi]
  refine (dot_ok (j := k) (k := k) (by simp; omega) bx.take bx.drop (by omega)).imp ?_
  rintro _ _ ⟨rfl, g2, rfl⟩
  rw [e2]
  repeat walk_at "d"
  rw [show cutD (iL x) none (some 3) = iL (x.take 3) from cut_lo]
  refine (dot_ok (j := k) (k := k) (by simp; omega) bx.take bx.take (by omega)).imp ?_
  rintro _ _ ⟨rfl, g3, rfl⟩
  rw [e1]
  refine ok_nil ⟨rfl, ?_⟩
  refine (ratio_ok d0 (dd_bd bx).1 (by omega)).imp ?_
  rintro _ _ ⟨rfl, rfl⟩
  refine ⟨rfl, ?_⟩
  repeat refine pre_app ?_
  exact pre_self

end LB

set_option maxHeartbeats 4000000
namespace LB
open PySem L2 PySem.Spec PI
local macro_rules | `(tactic| walk_at "b") => `(tactic| first
  | with_reducible assumption
  | (with_reducible refine Bd.mul ?_ ?_) <;> walk_at "b"
  | (with_reducible refine Bd.sub ?_ ?_) <;> walk_at "b"
  | (with_reducible refine Bd.add ?_ ?_) <;> walk_at "b"
  | (with_reducible refine Bd.neg ?_) <;> walk_at "b"
  | exact natAbs_lt (k := 40) (by decide))
local macro_rules | `(tactic| walk_at "m") => `(tactic| (apply Bd.ok <;> first | walk_at "b" | decide | omega))
local macro_rules | `(tactic| walk_at "p") => `(tactic| (first | exact pre_self | assumption | (refine pre_app ?_; walk_at "p")))
local macro_rules | `(tactic| walk_at "e") => `(tactic| first
  | refine ⟨_, _, opMul_i (.inl ⟨by decide, by decide⟩), ?_⟩
  | refine ⟨_, _, opMul_i (.inr (.inl ⟨by decide, by decide⟩)), ?_⟩
  | (refine ⟨_, _, opMul_i ?_, ?_⟩; · walk_at "m")
  | refine ⟨_, _, rfl, ?_⟩
  | refine ⟨_, rfl, ?_⟩
  | refine ⟨rfl, ?_⟩
  | refine ⟨rfl, rfl, ?_⟩)
local macro_rules | `(tactic| walk_at "d") => `(tactic| first
  | with_reducible refine ok_c ?_
  | with_reducible refine ok_var rfl ?_
  | with_reducible refine ok_op ?_
  | with_reducible refine ok_un ?_
  | with_reducible refine ok_nil ?_
  | with_reducible refine ok_cons ?_
  | with_reducible refine ok_tup ?_
  | with_reducible refine ok_lst ?_
  | with_reducible refine ok_cb ?_
  | with_reducible refine ok_call ?_
  | with_reducible refine ok_callK ?_
  | with_reducible refine ok_sl ?_
  | with_reducible refine ok_nopart ?_
  | with_reducible refine ok_part ?_
  | with_reducible refine ok_B ?_
  | with_reducible refine ok_andT ?_
  | with_reducible refine ok_orT ?_
  | with_reducible refine ok_notT ?_
  | with_reducible refine ok_and ?_
  | with_reducible refine ok_or ?_
  | with_reducible refine ok_not ?_
  | with_reducible refine ok_if ?_
  | with_reducible refine ok_app ?_
  | with_reducible refine ok_lc ?_
  | with_reducible refine ok_yes ?_
  | with_reducible refine ok_src ?_
  | with_reducible refine ok_rng1 ?_
  | with_reducible refine ok_rng2 ?_
  | with_reducible refine ok_zip ?_
  | with_reducible refine sk_nil ?_
  | with_reducible refine sk_seq ?_
  | with_reducible refine sk_ret ?_
  | with_reducible refine sk_drop ?_
  | with_reducible refine sk_if ?_
  | with_reducible refine sk_asg ?_
  | with_reducible refine sk_par ?_
  | with_reducible refine sk_par3 ?_
  | with_reducible refine sk_for ?_
  | with_reducible refine ⟨_, _, gNm1, ?_⟩
  | with_reducible refine ⟨_, _, gUn2, ?_⟩
  | with_reducible refine ⟨_, _, gUn3, ?_⟩
  | with_reducible refine ⟨_, _, opSub_i, ?_⟩
  | with_reducible refine ⟨_, _, opAdd_i, ?_⟩
  | with_reducible refine ⟨_, _, opNe_i, ?_⟩
  | with_reducible refine ⟨_, _, opEq_i, ?_⟩
  | with_reducible refine ⟨_, _, opMod_i (by decide), ?_⟩
  | with_reducible refine ⟨_, _, opDiv_i ⟨by decide, by decide⟩, ?_⟩
  | ((with_reducible refine And.intro ?_ ?_); · rfl)
  | ((fail_if_success (with_reducible refine And.intro ?_ ?_)); (fail_if_success (with_reducible refine OK.imp (Q := fun _ _ => True) ?_ ?_)); (fail_if_success (with_reducible refine SOK.imp (Qn := fun _ _ => True) (Qr := fun _ _ => True) ?_ ?_ ?_)); walk_at "e"))

open PK
open LA (mulL4 rp_comm rp_back rp_back1 setapp1 mulL6 nz_ne nz_mul_iff)
theorem ax_nz {x : List Int} (d0 : dd x ≠ 0) : Nz (axL x) := by
  obtain ⟨y, hy, y0⟩ := dd_nz d0
  have : ∃ i, i < 3 ∧ gI x i ≠ 0 := by
    obtain ⟨i, hi⟩ := List.mem_iff_getElem?.mp hy
    have i3 : i < 3 := by
      have := (List.getElem?_eq_some_iff.mp hi).1
      rw [List.length_take] at this
      omega
    rw [List.getElem?_take_of_lt i3] at hi
    refine ⟨i, i3, ?_⟩
    unfold gI
    rw [List.getD_eq_getElem?_getD, hi]
    exact y0
  obtain ⟨i, i3, gi⟩ := this
  refine ⟨dd x * gI x i, ?_, fun z => (Int.mul_eq_zero.mp z).elim d0 gi⟩
  have : i = 0 ∨ i = 1 ∨ i = 2 := by omega
  rcases this with rfl | rfl | rfl <;> simp [axL]
theorem ax_bd {x : List Int} {k : Nat} (h : BdL k x) : BdL (3 * k + 10) (axL x) := by
  obtain ⟨a, b⟩ := dd_bd h
  have m : ∀ i, Bd (3 * k + 5) (dd x * gI x i) := fun i => (a.mul (gI_bd h i)).mono (by omega)
  have n : ∀ i, Bd (3 * k + 5) (dm x * gI x i) := fun i => (b.mul (gI_bd h i)).mono (by omega)
  intro y hy
  simp only [axL, List.mem_cons, List.not_mem_nil, or_false] at hy
  rcases hy with rfl | rfl | rfl | rfl | rfl | rfl
  · exact (m _).mono (by omega)
  · exact (m _).mono (by omega)
  · exact (m _).mono (by omega)
  · exact ((m _).sub (n _)).mono (by omega)
  · exact ((m _).sub (n _)).mono (by omega)
  · exact ((m _).sub (n _)).mono (by omega)
theorem axis_ok {x : List Int} {h : HS} {k : Nat} (X : IsSc x) (bx : BdL k x) (hk : k < 2000) (d0 : dd x ≠ 0) : OK (PK.F_axis [.tup (iL x)] h) fun v h' => v = .tup (iL (redF (axL x))) ∧ ∃ g, h' = h ++ g := by
  have lx := X.len
  obtain ⟨e1, e2⟩ := dot_dd lx
  have na := ax_nz d0
  have ba := ax_bd bx
  obtain ⟨b1, b2⟩ := dd_bd bx
  have eq : iL (mulL (dd x) (x.take 3)) ++ iL (List.zipWith (fun x1 x2 => x1 - x2) (mulL (dd x) (x.drop 3)) (mulL (dm x) (x.take 3))) = iL (axL x) := by
    obtain ⟨a, b, c, d, e, f, rfl⟩ := six lx
    simp [iL, mulL, axL, gI]
  have l3 : (x.take 3).length = 3 := by simp [lx]
  have l3' : (x.drop 3).length = 3 := by simp [lx]
  unfold PK.F_axis PK.m_axis
  refine ok_run ?_
  refine sk_seq (sk_drop (ok_call (ok_cons (ok_var rfl (ok_nil ⟨rfl, ?_⟩)))))
  refine (withaxis_ok X d0).imp ?_
  rintro _ _ ⟨rfl, g1, rfl⟩
  have c1 : ∀ H, opSl (.tup (iL x)) none (some 3) H = some (.tup (iL (x.take 3)), H) := fun H => by rw [← cut_lo (k := 3)]; rfl
  have c2 : ∀ H, opSl (.tup (iL x)) (some 3) none H = some (.tup (iL (x.drop 3)), H) := fun H => by rw [← cut_hi (k := 3)]; rfl
  refine sk_seq (sk_par (ok_cons (ok_sl (ok_var rfl (ok_nopart (ok_part (ok_c ⟨_, rfl, _, _, c1 _, ok_cons (ok_sl (ok_var rfl (ok_part (ok_c ⟨_, rfl, ok_nopart ⟨_, _, c2 _, ok_nil ⟨_, _, rfl, ?_⟩⟩⟩))))⟩)))))))
  refine sk_seq (sk_asg (ok_call (ok_cons (ok_var rfl (ok_cons (ok_var rfl (ok_nil ⟨rfl, ?_⟩)))))))
  refine (dot_ok (j := k) (k := k) (by omega) bx.take bx.take (by omega)).imp ?_
  rintro _ _ ⟨rfl, g2, rfl⟩
  rw [e1]
  refine ⟨_, _, gNm1, ?_⟩
  refine sk_ret (ok_call (ok_cons (ok_op (ok_call (ok_cons (ok_var rfl (ok_cons (ok_var rfl (ok_nil ⟨rfl, ?_⟩)))))))))
  refine (times_ok (by omega) b1 bx.take (by omega)).imp ?_
  rintro _ _ ⟨rfl, g3, rfl⟩
  refine ok_call (ok_cons (ok_call (ok_cons (ok_var rfl (ok_cons (ok_var rfl (ok_nil ⟨rfl, ?_⟩))))))) 
  refine (times_ok (by omega) b1 bx.drop (by omega)).imp ?_
  rintro _ _ ⟨rfl, g4, rfl⟩
  refine ok_cons (ok_call (ok_cons (ok_call (ok_cons (ok_var rfl (ok_cons (ok_var rfl (ok_nil ⟨rfl, ?_⟩)))))))) 
  refine (dot_ok (j := k) (k := k) (by omega) bx.take bx.drop (by omega)).imp ?_
  rintro _ _ ⟨rfl, g5, rfl⟩
  rw [e2]
  refine ok_cons (ok_var rfl (ok_nil ⟨rfl, ?_⟩))
  refine (times_ok (by omega) b2 bx.take (by omega)).imp ?_
  rintro _ _ ⟨rfl, g6, rfl⟩
  refine ok_nil ⟨rfl, ?_⟩
  refine (minus_ok (by rw [mulL_len, l3']; decide) (by rw [mulL_len, mulL_len, l3, l3'])).imp ?_
  rintro _ _ ⟨rfl, g7, rfl⟩
  refine ⟨_, _, opAdd_t (by rw [il_len, il_len, mulL_len, l3, List.length_zipWith, mulL_len, mulL_len, l3, l3']; decide), ?_⟩
  rw [eq]
  refine ok_nil ⟨rfl, ?_⟩
  refine (PK.reduced_ok (by simp [axL]) na ba (by omega)).imp ?_
  rintro _ _ ⟨rfl, g8, rfl⟩
  refine ⟨rfl, ?_⟩
  repeat refine pre_app ?_
  exact pre_self
theorem mk_bd {b : List Int} {u v : Int} {j k : Nat} (h : BdL k b) (bu : Bd j u) (bv : Bd j v) : BdL (j + k + 1) (mkL b u v) := by
  have m : ∀ i, Bd (j + k) (v * gI b i) := fun i => bv.mul (gI_bd h i)
  have n : ∀ i, Bd (j + k) (u * gI b i) := fun i => bu.mul (gI_bd h i)
  intro y hy
  simp only [mkL, List.mem_cons, List.not_mem_nil, or_false] at hy
  rcases hy with rfl | rfl | rfl | rfl | rfl | rfl
  · exact (m _).mono (by omega)
  · exact (m _).mono (by omega)
  · exact (m _).mono (by omega)
  · exact ((m _).add (n _)).mono (by omega)
  · exact ((m _).add (n _)).mono (by omega)
  · exact ((m _).add (n _)).mono (by omega)
theorem dd_mul {f : Int} {x : List Int} : dd (mulL f x) = f * f * dd x ∧ dm (mulL f x) = f * f * dm x := by
  unfold dd dm
  simp only [gI_mul]
  refine ⟨by grind, by grind⟩
theorem ax_mul {f : Int} {x : List Int} : axL (mulL f x) = mulL (f * f * f) (axL x) := by
  unfold axL
  rw [mulL6, dd_mul.1, dd_mul.2]
  simp only [gI_mul, List.cons.injEq, and_true]
  generalize dd x = p
  generalize dm x = q
  refine ⟨?_, ?_, ?_, ?_, ?_, ?_⟩ <;> grind
theorem dd_pos {x : List Int} (h : gI x 0 ≠ 0 ∨ gI x 1 ≠ 0 ∨ gI x 2 ≠ 0) : dd x ≠ 0 := by
  have sq : ∀ u : Int, 0 ≤ u * u ∧ (u ≠ 0 → 0 < u * u) := by
    intro u
    rcases Int.lt_trichotomy u 0 with c | c | c
    · have := Int.mul_pos_of_neg_of_neg c c
      exact ⟨by omega, fun _ => this⟩
    · subst c
      exact ⟨by decide, fun z => absurd rfl z⟩
    · have := Int.mul_pos c c
      exact ⟨by omega, fun _ => this⟩
  have a := sq (gI x 0)
  have b := sq (gI x 1)
  have c := sq (gI x 2)
  unfold dd
  rcases h with h | h | h
  · have := a.2 h; omega
  · have := b.2 h; omega
  · have := c.2 h; omega
theorem ex6 {b : List Int} (lb : b.length = 6) : b = [gI b 0, gI b 1, gI b 2, gI b 3, gI b 4, gI b 5] := by
  obtain ⟨a, b, c, d, e, f, rfl⟩ := six lb
  rfl
theorem ex6m {b : List Int} (lb : b.length = 6) (k : Int) : mulL k b = mulL k [gI b 0, gI b 1, gI b 2, gI b 3, gI b 4, gI b 5] := congrArg (mulL k) (ex6 lb)
theorem ax_mk {b : List Int} {u v : Int} (e1 : dd (mkL b u v) = v * v * dd b) (e2 : dm (mkL b u v) = u * v * dd b) : axL (mkL b u v) = mulL (v * v * v * dd b) [gI b 0, gI b 1, gI b 2, gI b 3, gI b 4, gI b 5] := by
  unfold axL
  rw [e1, e2, mulL6]
  clear e1 e2
  simp only [show gI (mkL b u v) 0 = v * gI b 0 from rfl, show gI (mkL b u v) 1 = v * gI b 1 from rfl, show gI (mkL b u v) 2 = v * gI b 2 from rfl, show gI (mkL b u v) 3 = v * gI b 3 + u * gI b 0 from rfl, show gI (mkL b u v) 4 = v * gI b 4 + u * gI b 1 from rfl, show gI (mkL b u v) 5 = v * gI b 5 + u * gI b 2 from rfl]
  generalize gI b 0 = b0
  generalize gI b 1 = b1
  generalize gI b 2 = b2
  generalize gI b 3 = b3
  generalize gI b 4 = b4
  generalize gI b 5 = b5
  generalize dd b = p
  simp only [List.cons.injEq, and_true]
  refine ⟨?_, ?_, ?_, ?_, ?_, ?_⟩ <;> grind
/-- what is made of a rod and a pitch -/
theorem made_facts {b : List Int} {u v : Int} (lb : b.length = 6) (R : Red b) (d0 : dd b ≠ 0) (m0 : dm b = 0) (v0 : v ≠ 0) :
    Nz (mkL b u v) ∧ dd (redF (mkL b u v)) ≠ 0 ∧ fr (dm (redF (mkL b u v))) (dd (redF (mkL b u v))) = fr u v ∧ redF (axL (redF (mkL b u v))) = b ∧ ((dm (redF (mkL b u v)) == 0) = (u == 0)) := by
  have e1 : dd (mkL b u v) = v * v * dd b := by
    unfold mkL dd
    simp only [gI, List.getD_cons_zero, List.getD_cons_succ]
    grind
  have e2 : dm (mkL b u v) = u * v * dd b := by
    have : dm (mkL b u v) = v * v * dm b + u * v * dd b := by
      unfold mkL dm dd
      simp only [gI, List.getD_cons_zero, List.getD_cons_succ]
      grind
    rw [this, m0]
    simp
  have dn : dd (mkL b u v) ≠ 0 := by
    rw [e1]
    exact fun z => (Int.mul_eq_zero.mp z).elim (fun y => (Int.mul_eq_zero.mp y).elim v0 v0) d0
  have nz : Nz (mkL b u v) := by
    obtain ⟨y, hy, y0⟩ := dd_nz dn
    exact ⟨y, List.mem_of_mem_take hy, y0⟩
  have f0 := facN_nz nz
  obtain ⟨g1, g2⟩ := dd_mul (f := facN (mkL b u v)) (x := redF (mkL b u v))
  rw [redF_back nz, e1] at g1
  rw [redF_back nz, e2] at g2
  have ff : facN (mkL b u v) * facN (mkL b u v) ≠ 0 := fun z => (Int.mul_eq_zero.mp z).elim f0 f0
  have dx : dd (redF (mkL b u v)) ≠ 0 := by
    intro z
    rw [z] at g1
    apply dn
    rw [e1, g1]
    simp
  have vd : v * dd b ≠ 0 := fun z => (Int.mul_eq_zero.mp z).elim v0 d0
  refine ⟨nz, dx, ?_, ?_, ?_⟩
  · rw [← fr_mul ff dx, ← g1, ← g2, show u * v * dd b = v * dd b * u by grind, show v * v * dd b = v * dd b * v by grind, fr_mul vd v0]
  · have a := ax_mul (f := facN (mkL b u v)) (x := redF (mkL b u v))
    rw [redF_back nz] at a
    have a2 : axL (mkL b u v) = mulL (v * v * v * dd b) b := by
      rw [ex6m lb]
      exact ax_mk e1 e2
    have fff : facN (mkL b u v) * facN (mkL b u v) * facN (mkL b u v) ≠ 0 := fun z => (Int.mul_eq_zero.mp z).elim ff f0
    have w : v * v * v * dd b ≠ 0 := by
      rw [show v * v * v * dd b = v * v * (v * dd b) by grind]
      exact fun z => (Int.mul_eq_zero.mp z).elim (fun y => (Int.mul_eq_zero.mp y).elim v0 v0) vd
    rw [← redF_mul fff (ax_nz dx), ← a, a2, redF_mul w R.nz, redF_one R]
  · by_cases z : u = 0
    · have q : dm (redF (mkL b u v)) = 0 := by
        refine zero_of_mul ff ?_
        rw [← g2, z]
        simp
      rw [q, z]
    · have q : dm (redF (mkL b u v)) ≠ 0 := by
        intro y
        rw [y] at g2
        have : u * v * dd b = 0 := by rw [g2]; simp
        exact (Int.mul_eq_zero.mp this).elim (fun y => (Int.mul_eq_zero.mp y).elim z v0) d0
      rw [beq_false_of_ne q, beq_false_of_ne z]
/-- a rod's own axis and pitch -/
theorem rod_facts {b : List Int} (lb : b.length = 6) (R : Red b) (d0 : dd b ≠ 0) (m0 : dm b = 0) : redF (axL b) = b ∧ fr (dm b) (dd b) = [0, 1] := by
  refine ⟨?_, ?_⟩
  · have a2 : axL b = mulL (dd b) b := by
      rw [ex6m lb]
      unfold axL
      rw [m0, mulL6]
      simp
    rw [a2, redF_mul d0 R.nz, redF_one R]
  · rw [m0]
    have := fr_mul (k := dd b) (n := 0) (m := 1) d0 (by decide)
    rw [Int.mul_zero, Int.mul_one] at this
    rw [this]
    decide
/-- a screw is made of its axis and its pitch again -/
theorem again {x : List Int} (lx : x.length = 6) (R : Red x) (d0 : dd x ≠ 0) (p q : Int) (hp : fr (dm x) (dd x) = [p, q]) : redF (mkL (redF (axL x)) p q) = x := by
  have na := ax_nz d0
  have g0 := facN_nz na
  obtain ⟨b1, b2⟩ := fr_back (n := dm x) (m := dd x) d0
  unfold fr at hp
  simp only [List.cons.injEq, and_true] at hp
  rw [hp.1] at b1
  rw [hp.2] at b2
  have s0 := sgG_nz (n := dm x) d0
  generalize sgG (dm x) (dd x) = s at *
  have gb : ∀ i, gI (axL x) i = facN (axL x) * gI (redF (axL x)) i := gI_back na
  have e : mulL (facN (axL x) * s) (mkL (redF (axL x)) p q) = mulL (dd x * dd x) x := by
    rw [ex6m lx]
    have h0 : dd x * gI x 0 = facN (axL x) * gI (redF (axL x)) 0 := gb 0
    have h1 : dd x * gI x 1 = facN (axL x) * gI (redF (axL x)) 1 := gb 1
    have h2 : dd x * gI x 2 = facN (axL x) * gI (redF (axL x)) 2 := gb 2
    have h3 : dd x * gI x 3 - dm x * gI x 0 = facN (axL x) * gI (redF (axL x)) 3 := gb 3
    have h4 : dd x * gI x 4 - dm x * gI x 1 = facN (axL x) * gI (redF (axL x)) 4 := gb 4
    have h5 : dd x * gI x 5 - dm x * gI x 2 = facN (axL x) * gI (redF (axL x)) 5 := gb 5
    clear gb
    unfold mkL
    rw [mulL6, mulL6]
    generalize facN (axL x) = g at *
    generalize gI (redF (axL x)) 0 = y0 at *
    generalize gI (redF (axL x)) 1 = y1 at *
    generalize gI (redF (axL x)) 2 = y2 at *
    generalize gI (redF (axL x)) 3 = y3 at *
    generalize gI (redF (axL x)) 4 = y4 at *
    generalize gI (redF (axL x)) 5 = y5 at *
    generalize dd x = D at *
    generalize dm x = M at *
    generalize gI x 0 = x0 at *
    generalize gI x 1 = x1 at *
    generalize gI x 2 = x2 at *
    generalize gI x 3 = x3 at *
    generalize gI x 4 = x4 at *
    generalize gI x 5 = x5 at *
    clear na g0 hp R lx d0
    simp only [List.cons.injEq, and_true]
    refine ⟨?_, ?_, ?_, ?_, ?_, ?_⟩ <;> grind
  have gs : facN (axL x) * s ≠ 0 := fun z => (Int.mul_eq_zero.mp z).elim g0 s0
  have d2 : dd x * dd x ≠ 0 := fun z => (Int.mul_eq_zero.mp z).elim d0 d0
  have n2 : Nz (mkL (redF (axL x)) p q) := (nz_mul_iff gs).mp (by rw [e]; exact R.nz.mul d2)
  rw [← redF_mul gs n2, e, redF_mul d2 R.nz, redF_one R]

end LB

set_option maxHeartbeats 4000000
namespace LB
open PySem L2 PySem.Spec PI
local macro_rules | `(tactic| walk_at "b") => `(tactic| first
  | with_reducible assumption
  | (with_reducible refine Bd.mul ?_ ?_) <;> walk_at "b"
  | (with_reducible refine Bd.sub ?_ ?_) <;> walk_at "b"
  | (with_reducible refine Bd.add ?_ ?_) <;> walk_at "b"
  | (with_reducible refine Bd.neg ?_) <;> walk_at "b"
  | exact natAbs_lt (k := 40) (by decide))
local macro_rules | `(tactic| walk_at "m") => `(tactic| (apply Bd.ok <;> first | walk_at "b" | decide | omega))
local macro_rules | `(tactic| walk_at "p") => `(tactic| (first | exact pre_self | assumption | (refine pre_app ?_; walk_at "p")))
local macro_rules | `(tactic| walk_at "e") => `(tactic| first
  | refine ⟨_, _, opMul_i (.inl ⟨by decide, by decide⟩), ?_⟩
  | refine ⟨_, _, opMul_i (.inr (.inl ⟨by decide, by decide⟩)), ?_⟩
  | (refine ⟨_, _, opMul_i ?_, ?_⟩; · walk_at "m")
  | refine ⟨_, _, rfl, ?_⟩
  | refine ⟨_, rfl, ?_⟩
  | refine ⟨rfl, ?_⟩
  | refine ⟨rfl, rfl, ?_⟩)
local macro_rules | `(tactic| walk_at "d") => `(tactic| first
  | with_reducible refine ok_c ?_
  | with_reducible refine ok_var rfl ?_
  | with_reducible refine ok_op ?_
  | with_reducible refine ok_un ?_
  | with_reducible refine ok_nil ?_
  | with_reducible refine ok_cons ?_
  | with_reducible refine ok_tup ?_
  | with_reducible refine ok_lst ?_
  | with_reducible refine ok_cb ?_
  | with_reducible refine ok_call ?_
  | with_reducible refine ok_callK ?_
  | with_reducible refine ok_sl ?_
  | with_reducible refine ok_nopart ?_
  | with_reducible refine ok_part ?_
  | with_reducible refine ok_B ?_
  | with_reducible refine ok_andT ?_
  | with_reducible refine ok_orT ?_
  | with_reducible refine ok_notT ?_
  | with_reducible refine ok_and ?_
  | with_reducible refine ok_or ?_
  | with_reducible refine ok_not ?_
  | with_reducible refine ok_if ?_
  | with_reducible refine ok_app ?_
  | with_reducible refine ok_lc ?_
  | with_reducible refine ok_yes ?_
  | with_reducible refine ok_src ?_
  | with_reducible refine ok_rng1 ?_
  | with_reducible refine ok_rng2 ?_
  | with_reducible refine ok_zip ?_
  | with_reducible refine sk_nil ?_
  | with_reducible refine sk_seq ?_
  | with_reducible refine sk_ret ?_
  | with_reducible refine sk_drop ?_
  | with_reducible refine sk_if ?_
  | with_reducible refine sk_asg ?_
  | with_reducible refine sk_par ?_
  | with_reducible refine sk_par3 ?_
  | with_reducible refine sk_for ?_
  | with_reducible refine ⟨_, _, gNm1, ?_⟩
  | with_reducible refine ⟨_, _, gUn2, ?_⟩
  | with_reducible refine ⟨_, _, gUn3, ?_⟩
  | with_reducible refine ⟨_, _, opSub_i, ?_⟩
  | with_reducible refine ⟨_, _, opAdd_i, ?_⟩
  | with_reducible refine ⟨_, _, opNe_i, ?_⟩
  | with_reducible refine ⟨_, _, opEq_i, ?_⟩
  | with_reducible refine ⟨_, _, opMod_i (by decide), ?_⟩
  | with_reducible refine ⟨_, _, opDiv_i ⟨by decide, by decide⟩, ?_⟩
  | ((with_reducible refine And.intro ?_ ?_); · rfl)
  | ((fail_if_success (with_reducible refine And.intro ?_ ?_)); (fail_if_success (with_reducible refine OK.imp (Q := fun _ _ => True) ?_ ?_)); (fail_if_success (with_reducible refine SOK.imp (Qn := fun _ _ => True) (Qr := fun _ _ => True) ?_ ?_ ?_)); walk_at "e"))

open PK
open LA (mulL4 rp_comm rp_back rp_back1 setapp1 mulL6 nz_ne nz_mul_iff)
theorem made_ok {b : List Int} {u v : Int} {h : HS} {k : Nat} (lb : b.length = 6) (bb : BdL k b) (bu : Bd k u) (bv : Bd k v) (hk : k < 3000) : OK (F_law_made [.tup (iL b), .int u, .int v] h) fun w h' => w = .tup (iL (redF (mkL b u v))) ∧ ∃ g, h' = h ++ g := by
  have bm := mk_bd bb bu bv
  have bk : BdL (k + k + 1) (mkL b u v) := bm
  obtain ⟨b0, b1, b2, b3, b4, b5, rfl⟩ := six lb
  obtain ⟨B0, B1, B2, B3, B4, B5⟩ := bd6 bb
  have m : ∀ {i j : Int}, Bd k i → Bd k j → MulOk i j := fun a b => a.ok b (by omega)
  unfold F_law_made m_law_made
  refine ok_run ?_
  refine sk_seq (sk_asg (ok_lc (ok_rng1 (ok_cons (ok_c (ok_nil ⟨_, rfl, by decide, by decide, 3, fun i h' => h' = h ++ [iL ([v * b0, v * b1, v * b2].take i)], Nat.le_refl _, rfl, ?_, ?_⟩))))))
  · rintro i _ hi rfl
    refine ⟨.int (0 + i), by simp [Src.get, hi], ?_⟩
    have hi' : i = 0 ∨ i = 1 ∨ i = 2 := by omega
    rcases hi' with rfl | rfl | rfl <;> (
      repeat walk_at "d"
      refine ⟨fun _ => ?_, fun c => (by cases c)⟩
      repeat walk_at "d"
      refine ⟨_, getapp (g := []), by simp [iL], ?_⟩
      show _ = _
      rw [setapp]
      rfl)
  · rintro _ rfl
    refine ⟨by simp [Src.get], _, _, gNm1, ?_⟩
    refine sk_ret (ok_call (ok_cons (ok_op (ok_var rfl ?_))))
    refine ok_lc (ok_rng1 (ok_cons (ok_c (ok_nil ⟨_, rfl, by decide, by decide, 3, fun i h' => h' = h ++ [iL [v * b0, v * b1, v * b2]] ++ [iL ([v * b3 + u * b0, v * b4 + u * b1, v * b5 + u * b2].take i)], Nat.le_refl _, rfl, ?_, ?_⟩))))
    · rintro i _ hi rfl
      refine ⟨.int (0 + i), by simp [Src.get, hi], ?_⟩
      have hi' : i = 0 ∨ i = 1 ∨ i = 2 := by omega
      rcases hi' with rfl | rfl | rfl <;> (
        repeat walk_at "d"
        refine ⟨fun _ => ?_, fun c => (by cases c)⟩
        repeat walk_at "d"
        refine ⟨_, getapp (g := []), by simp [iL], ?_⟩
        exact (setapp (h := h ++ [iL [v * b0, v * b1, v * b2]])).trans rfl)
    · rintro _ rfl
      refine ⟨by simp [Src.get], ?_⟩
      refine ⟨_, _, opAdd_r (l := iL [v * b0, v * b1, v * b2]) (m := iL [v * b3 + u * b0, v * b4 + u * b1, v * b5 + u * b2]) (by simp) (by simp) (by simp [iL]), ok_nil ⟨rfl, ?_⟩⟩
      rw [← il_app]
      have e : [v * b0, v * b1, v * b2] ++ [v * b3 + u * b0, v * b4 + u * b1, v * b5 + u * b2] = mkL [b0, b1, b2, b3, b4, b5] u v := by simp [mkL, gI]
      rw [e]
      refine (reduced_ok (ls_ref (getapp (g := []))) (by simp [mkL]) bk (by omega)).imp ?_
      rintro _ _ ⟨rfl, g, rfl⟩
      exact ⟨rfl, _, by simp only [List.append_assoc]; rfl⟩
theorem on_dot {x b y : List Int} (lx : x.length = 6) (lb : b.length = 6) (ly : y.length = 4) (on : ¬ Nz (planeL b y)) : dotL (b.take 3) ((planeL x y).drop 1) = gI y 0 * rp x b := by
  have z : ∀ w ∈ planeL b y, w = 0 := fun w hw => Classical.byContradiction fun c => on ⟨w, hw, c⟩
  obtain ⟨x0, x1, x2, x3, x4, x5, rfl⟩ := six lx
  obtain ⟨b0, b1, b2, b3, b4, b5, rfl⟩ := six lb
  obtain ⟨y0, y1, y2, y3, rfl⟩ := four ly
  unfold planeL at z ⊢
  simp only [gI, List.getD_cons_zero, List.getD_cons_succ, List.mem_cons, List.not_mem_nil, or_false, forall_eq_or_imp, forall_eq] at z
  obtain ⟨z0, z1, z2, z3⟩ := z
  simp only [gI, List.getD_cons_zero, List.getD_cons_succ, List.take_succ_cons, List.take_zero, List.drop_succ_cons, List.drop_zero]
  rw [dot3]
  unfold rp
  simp only [gI, List.getD_cons_zero, List.getD_cons_succ]
  clear on
  grind

end LB

set_option maxHeartbeats 4000000
namespace LB
open PySem L2 PySem.Spec PI
local macro_rules | `(tactic| walk_at "b") => `(tactic| first
  | with_reducible assumption
  | (with_reducible refine Bd.mul ?_ ?_) <;> walk_at "b"
  | (with_reducible refine Bd.sub ?_ ?_) <;> walk_at "b"
  | (with_reducible refine Bd.add ?_ ?_) <;> walk_at "b"
  | (with_reducible refine Bd.neg ?_) <;> walk_at "b"
  | exact natAbs_lt (k := 40) (by decide))
local macro_rules | `(tactic| walk_at "m") => `(tactic| (apply Bd.ok <;> first | walk_at "b" | decide | omega))
local macro_rules | `(tactic| walk_at "p") => `(tactic| (first | exact pre_self | assumption | (refine pre_app ?_; walk_at "p")))
local macro_rules | `(tactic| walk_at "e") => `(tactic| first
  | refine ⟨_, _, opMul_i (.inl ⟨by decide, by decide⟩), ?_⟩
  | refine ⟨_, _, opMul_i (.inr (.inl ⟨by decide, by decide⟩)), ?_⟩
  | (refine ⟨_, _, opMul_i ?_, ?_⟩; · walk_at "m")
  | refine ⟨_, _, rfl, ?_⟩
  | refine ⟨_, rfl, ?_⟩
  | refine ⟨rfl, ?_⟩
  | refine ⟨rfl, rfl, ?_⟩)
local macro_rules | `(tactic| walk_at "d") => `(tactic| first
  | with_reducible refine ok_c ?_
  | with_reducible refine ok_var rfl ?_
  | with_reducible refine ok_op ?_
  | with_reducible refine ok_un ?_
  | with_reducible refine ok_nil ?_
  | with_reducible refine ok_cons ?_
  | with_reducible refine ok_tup ?_
  | with_reducible refine ok_lst ?_
  | with_reducible refine ok_cb ?_
  | with_reducible refine ok_call ?_
  | with_reducible refine ok_callK ?_
  | with_reducible refine ok_sl ?_
  | with_reducible refine ok_nopart ?_
  | with_reducible refine ok_part ?_
  | with_reducible refine ok_B ?_
  | with_reducible refine ok_andT ?_
  | with_reducible refine ok_orT ?_
  | with_reducible refine ok_notT ?_
  | with_reducible refine ok_and ?_
  | with_reducible refine ok_or ?_
  | with_reducible refine ok_not ?_
  | with_reducible refine ok_if ?_
  | with_reducible refine ok_app ?_
  | with_reducible refine ok_lc ?_
  | with_reducible refine ok_yes ?_
  | with_reducible refine ok_src ?_
  | with_reducible refine ok_rng1 ?_
  | with_reducible refine ok_rng2 ?_
  | with_reducible refine ok_zip ?_
  | with_reducible refine sk_nil ?_
  | with_reducible refine sk_seq ?_
  | with_reducible refine sk_ret ?_
  | with_reducible refine sk_drop ?_
  | with_reducible refine sk_if ?_
  | with_reducible refine sk_asg ?_
  | with_reducible refine sk_par ?_
  | with_reducible refine sk_par3 ?_
  | with_reducible refine sk_for ?_
  | with_reducible refine ⟨_, _, gNm1, ?_⟩
  | with_reducible refine ⟨_, _, gUn2, ?_⟩
  | with_reducible refine ⟨_, _, gUn3, ?_⟩
  | with_reducible refine ⟨_, _, opSub_i, ?_⟩
  | with_reducible refine ⟨_, _, opAdd_i, ?_⟩
  | with_reducible refine ⟨_, _, opNe_i, ?_⟩
  | with_reducible refine ⟨_, _, opEq_i, ?_⟩
  | with_reducible refine ⟨_, _, opMod_i (by decide), ?_⟩
  | with_reducible refine ⟨_, _, opDiv_i ⟨by decide, by decide⟩, ?_⟩
  | ((with_reducible refine And.intro ?_ ?_); · rfl)
  | ((fail_if_success (with_reducible refine And.intro ?_ ?_)); (fail_if_success (with_reducible refine OK.imp (Q := fun _ _ => True) ?_ ?_)); (fail_if_success (with_reducible refine SOK.imp (Qn := fun _ _ => True) (Qr := fun _ _ => True) ?_ ?_ ?_)); walk_at "e"))

open PK
open LA (opLen_ref nz_ne rp_comm rp_self pre0 gI_mix mulL4 mulL6 mixL mix_bd rp_mix rp_back rp_back1 pointL_mul planeL_mul nz_mul_iff get_gI)
theorem rod_of_flat {x : List Int} (X : IsSc x) (h : rp x x = 0) : IsRod x := by
  refine ⟨X.len, X.red, ?_⟩
  unfold rp at h
  have e : 2 * (gI x 0 * gI x 3 + gI x 1 * gI x 4 + gI x 2 * gI x 5) = 0 := by grind
  omega
theorem rod_sc {b : List Int} (B : IsRod b) : IsSc b := ⟨B.len, B.red⟩
theorem rp_bd {a b : List Int} {k : Nat} (ha : BdL k a) (hb : BdL k b) : Bd (2 * k + 10) (rp a b) := by
  unfold rp
  have m : ∀ i j, Bd (2 * k) (gI a i * gI b j) := fun i j => ((gI_bd ha i).mul (gI_bd hb j)).mono (by omega)
  exact ((((((m _ _).add (m _ _)).add (m _ _)).add (m _ _)).add (m _ _)).add (m _ _)).mono (by omega)
theorem repr_bl {b : Bool} : ∃ T : Str, ∀ h, opRepr [.bl b] h = some (.str T, h) := ⟨_, fun h => repr_eq (p := .bool b) toP_bl rfl (by simp [PyData.depth]) (by simp [PyData.bulk])⟩
theorem shown_row {l : List Int} {k : Nat} (hl : l.length ≤ 6) (hb : BdL k l) (hk : k ≤ 1900) : Shown 11 39 10 [] (.tup (iL l)) := by
  refine (shown_tup (n := 10) (k := 38) (b := 0) fun x hx => ?_).up (fun _ _ z => z) (by decide) (by decide) (by rw [il_len]; omega)
  obtain ⟨y, hy, rfl⟩ := List.mem_map.mp hx
  exact shown_bd (hb y hy) hk
theorem beq_iff {x y : Int} (h : x = 0 ↔ y = 0) : (x == 0) = (y == 0) := by
  by_cases z : x = 0
  · rw [z, h.mp z]
  · rw [beq_false_of_ne z, beq_false_of_ne fun w => z (h.mpr w)]
theorem scale_iff {f g x y : Int} (hf : f ≠ 0) (hg : g ≠ 0) (e : f * x = g * y) : x = 0 ↔ y = 0 := by
  constructor
  · intro z
    rw [z, Int.mul_zero] at e
    exact zero_of_mul hg e.symm
  · intro z
    rw [z, Int.mul_zero] at e
    exact zero_of_mul hf e
def cdet (x : List Int) : Int := gI x 0 * gI x 3 + gI x 1 * gI x 4 + gI x 2 * gI x 5
theorem rp_cdet (x : List Int) : rp x x = 2 * cdet x := by
  unfold rp cdet
  grind
theorem pp_id {x p : List Int} (lp : p.length = 4) : pointL x (planeL x p) = mulL (cdet x) p := by
  obtain ⟨p0, p1, p2, p3, rfl⟩ := four lp
  unfold pointL planeL cdet
  simp only [gI, List.getD_cons_zero, List.getD_cons_succ, mulL4, List.cons.injEq, and_true]
  generalize x.getD 0 0 = x0
  generalize x.getD 1 0 = x1
  generalize x.getD 2 0 = x2
  generalize x.getD 3 0 = x3
  generalize x.getD 4 0 = x4
  generalize x.getD 5 0 = x5
  refine ⟨?_, ?_, ?_, ?_⟩ <;> grind
theorem pointL_mul2 (f : Int) (r x : List Int) : pointL r (mulL f x) = mulL f (pointL r x) := by
  unfold pointL
  rw [mulL4]
  simp only [gI_mul, List.cons.injEq, and_true]
  refine ⟨?_, ?_, ?_, ?_⟩ <;> grind
theorem gI_zero {l : List Int} (h : ¬ Nz l) (i : Nat) : gI l i = 0 := by
  unfold gI
  rw [List.getD_eq_getElem?_getD]
  cases q : l[i]? with
  | none => rfl
  | some x => exact not_nz h x (List.mem_of_getElem? q)
theorem zero_nz {l : List Int} (h : ∀ i, i < l.length → gI l i = 0) : ¬ Nz l := by
  rintro ⟨y, hy, y0⟩
  obtain ⟨i, hi⟩ := List.getElem?_of_mem hy
  have := h i (List.getElem?_eq_some_iff.mp hi).1
  rw [get_gI hi] at this
  exact y0 this
theorem plane_nz {x p : List Int} (P : IsPt p) (c : cdet x ≠ 0) : Nz (planeL x p) := by
  by_cases z : Nz (planeL x p)
  · exact z
  · exfalso
    have n := P.red.nz.mul c
    rw [← pp_id P.len] at n
    obtain ⟨y, hy, y0⟩ := n
    unfold pointL at hy
    simp [gI_zero z] at hy
    exact y0 hy
theorem isPt_red {L : List Int} (l : L.length = 4) (n : Nz L) : IsPt (redF L) := ⟨by rw [redF_len, l], red_redF n⟩
theorem notflat_ok {x : List Int} {h : HS} {k : Nat} (X : IsSc x) (bx : BdL k x) (hk : k < 400000) (c : rp x x ≠ 0) : OK (PK.F_check_not_flat [.tup (iL x)] h) fun v h' => v = .non ∧ ∃ g, h' = h ++ g := by
  unfold PK.F_check_not_flat PK.m_check_not_flat
  refine ok_run ?_
  refine sk_if (ok_B (ok_op (ok_call (ok_cons (ok_var rfl (ok_cons (ok_var rfl (ok_nil ⟨rfl, ?_⟩))))))))
  refine (rowp_ok X.len X.len bx bx (by omega)).imp ?_
  rintro _ _ ⟨rfl, g, rfl⟩
  refine ok_c ⟨_, _, opEq_i, _, rfl, fun z => ?_, fun _ => sk_nil ⟨rfl, g, rfl⟩⟩
  exact absurd (by simpa using z) c
theorem pplane_ok {x p : List Int} {h : HS} {k : Nat} (X : IsSc x) (P : IsPt p) (bx : BdL k x) (bp : BdL k p) (hk : k < 4000) (c : rp x x ≠ 0) : OK (PK.F_pole_plane [.tup (iL x), .tup (iL p)] h) fun v h' => v = .tup (iL (redF (planeL x p))) ∧ ∃ g, h' = h ++ g := by
  have cd : cdet x ≠ 0 := by
    rw [rp_cdet] at c
    omega
  unfold PK.F_pole_plane PK.m_pole_plane
  refine ok_run ?_
  refine sk_seq (sk_drop (ok_call (ok_cons (ok_var rfl (ok_nil ⟨rfl, ?_⟩)))))
  refine (check_screw_ok X).imp ?_
  rintro _ _ ⟨rfl, g1, rfl⟩
  refine sk_seq (sk_drop (ok_call (ok_cons (ok_var rfl (ok_nil ⟨rfl, ?_⟩)))))
  refine (check_point_ok P).imp ?_
  rintro _ _ ⟨rfl, g2, rfl⟩
  refine sk_seq (sk_drop (ok_call (ok_cons (ok_var rfl (ok_nil ⟨rfl, ?_⟩)))))
  refine (notflat_ok X bx (by omega) c).imp ?_
  rintro _ _ ⟨rfl, g3, rfl⟩
  refine sk_ret (ok_call (ok_cons (ok_call (ok_cons (ok_var rfl (ok_cons (ok_var rfl (ok_nil ⟨rfl, ?_⟩))))))))
  refine (plane_row_ok X.len P.len bx bp (by omega)).imp ?_
  rintro _ _ ⟨rfl, g4, rfl⟩
  refine ok_nil ⟨rfl, ?_⟩
  refine (PK.reduced_ok (by simp [planeL]) (plane_nz P cd) (plane_bd bx bp) (by omega)).imp ?_
  rintro _ _ ⟨rfl, g5, rfl⟩
  refine ⟨rfl, ?_⟩
  repeat refine pre_app ?_
  exact pre_self
/-! ### turning -/
def trL (s t : List Int) : List Int := mixL (rp s s) t (-(2 * rp s t)) s
theorem tr_len {s t : List Int} (ls : s.length = 6) (lt : t.length = 6) : (trL s t).length = 6 := by simp [trL, mixL, ls, lt]
theorem tr_gI {s t : List Int} (e : t.length = s.length) (i : Nat) : gI (trL s t) i = rp s s * gI t i - 2 * rp s t * gI s i := by
  unfold trL
  rw [gI_mix e]
  generalize rp s s = a
  generalize rp s t = b
  grind
theorem tr_left {s t w : List Int} (e : t.length = s.length) : rp (trL s t) w = rp s s * rp t w - 2 * rp s t * rp s w := by
  unfold trL
  rw [rp_mix e]
  generalize rp s s = a
  generalize rp s t = b
  generalize rp s w = c
  grind
theorem tr_s {s t : List Int} (e : t.length = s.length) : rp s (trL s t) = -(rp s s * rp s t) := by
  rw [rp_comm (trL s t) s, tr_left e, rp_comm s t]
  generalize rp s s = a
  generalize rp s t = b
  grind
theorem tr_rp {s a b : List Int} (ea : a.length = s.length) (eb : b.length = s.length) : rp (trL s a) (trL s b) = rp s s * rp s s * rp a b := by
  rw [tr_left ea, tr_s eb, rp_comm (trL s b) a, tr_left eb, rp_comm a b]
  generalize rp s s = x
  generalize rp a b = y
  generalize rp s a = z
  generalize rp s b = w
  grind
theorem rp_mulR (k : Int) (s t : List Int) : rp s (mulL k t) = k * rp s t := by
  unfold rp
  simp only [gI_mul]
  grind
theorem tr_tr {s t : List Int} (ls : s.length = 6) (lt : t.length = 6) : trL s (trL s t) = mulL (rp s s * rp s s) t := by
  have e := tr_s (s := s) (t := t) (by rw [ls, lt])
  unfold trL at e ⊢
  rw [e]
  generalize rp s s = x
  generalize rp s t = y
  obtain ⟨a, b, c, d, f, g, rfl⟩ := six ls
  obtain ⟨a', b', c', d', f', g', rfl⟩ := six lt
  simp only [mixL, List.zipWith, mulL6, List.cons.injEq, and_true]
  refine ⟨?_, ?_, ?_, ?_, ?_, ?_⟩ <;> grind
theorem tr_mul {s t : List Int} (k : Int) (ls : s.length = 6) (lt : t.length = 6) : trL s (mulL k t) = mulL k (trL s t) := by
  unfold trL
  rw [rp_mulR]
  generalize rp s s = x
  generalize rp s t = y
  obtain ⟨a, b, c, d, f, g, rfl⟩ := six ls
  obtain ⟨a', b', c', d', f', g', rfl⟩ := six lt
  simp only [mixL, List.zipWith, mulL6, List.cons.injEq, and_true]
  refine ⟨?_, ?_, ?_, ?_, ?_, ?_⟩ <;> grind
theorem tr_nz {s t : List Int} (ls : s.length = 6) (lt : t.length = 6) (n : Nz t) (c : rp s s ≠ 0) : Nz (trL s t) := by
  apply Classical.byContradiction
  intro z
  have g := gI_zero z
  have e := tr_tr ls lt
  have e0 : rp s (trL s t) = 0 := by
    unfold rp
    simp [g]
  obtain ⟨y, hy, y0⟩ := n
  obtain ⟨i, hi⟩ := List.getElem?_of_mem hy
  have q : gI (trL s (trL s t)) i = rp s s * rp s s * y := by rw [e, gI_mul, get_gI hi]
  rw [tr_gI (by rw [tr_len ls lt, ls]), g, e0] at q
  have w : rp s s * rp s s * y ≠ 0 := Int.mul_ne_zero (Int.mul_ne_zero c c) y0
  apply w
  rw [← q]
  simp
theorem tr_bd {s t : List Int} {k : Nat} (bs : BdL k s) (bt : BdL k t) : BdL (3 * k + 20) (trL s t) := by
  have b1 := (rp_bd bs bs).mono (k := 2 * k + 13) (by omega)
  have b2 : Bd (2 * k + 13) (-(2 * rp s t)) := (((natAbs_lt (k := 2) (x := 2) (by decide)).mul (rp_bd bs bt)).neg).mono (by omega)
  exact (mix_bd b1 b2 bt bs).mono (by omega)
def due (s t : List Int) : List Int := redF (trL s t)
section
variable {s t : List Int} (S : IsSc s) (c : rp s s ≠ 0)
include S c
theorem due_sc (T : IsSc t) : IsSc (due s t) := ⟨by rw [due, redF_len, tr_len S.len T.len], red_redF (tr_nz S.len T.len T.red.nz c)⟩
theorem due_rod (T : IsRod t) : IsRod (due s t) := by
  have n := tr_nz S.len T.len T.red.nz c
  refine rod_of_flat (due_sc S c (rod_sc T)) ?_
  have e := tr_rp (s := s) (a := t) (b := t) (by rw [S.len, T.len]) (by rw [S.len, T.len])
  rw [rp_self T, Int.mul_zero, rp_back n n] at e
  exact zero_of_mul (Int.mul_ne_zero (facN_nz n) (facN_nz n)) e
theorem due_due (T : IsSc t) : due s (due s t) = t := by
  have n := tr_nz S.len T.len T.red.nz c
  have D := due_sc S c T
  have e : mulL (facN (trL s t)) (trL s (due s t)) = mulL (rp s s * rp s s) t := by
    rw [← tr_mul _ S.len D.len, due, redF_back n, tr_tr S.len T.len]
  have n2 := tr_nz S.len D.len D.red.nz c
  show redF (trL s (due s t)) = t
  rw [← redF_mul (facN_nz n) n2, e, redF_mul (Int.mul_ne_zero c c) T.red.nz, redF_one T.red]
theorem due_net (T : IsSc t) : (rp s (due s t) == 0) = (rp s t == 0) := by
  have n := tr_nz S.len T.len T.red.nz c
  refine beq_iff (scale_iff (f := facN (trL s t)) (g := -rp s s) (facN_nz n) (by omega) ?_)
  rw [← rp_mulR, due, redF_back n, tr_s (by rw [S.len, T.len])]
  generalize rp s s = x
  generalize rp s t = y
  grind
theorem due_eq (T : IsRod t) : (due s t == t) = (rp s t == 0) := by
  have n := tr_nz S.len T.len T.red.nz c
  by_cases z : rp s t = 0
  · have e : trL s t = mulL (rp s s) t := by
      unfold trL
      rw [z]
      generalize rp s s = x
      obtain ⟨a, b, c, d, f, g, rfl⟩ := six S.len
      obtain ⟨a', b', c', d', f', g', rfl⟩ := six T.len
      simp only [mixL, List.zipWith, mulL6, List.cons.injEq, and_true]
      refine ⟨?_, ?_, ?_, ?_, ?_, ?_⟩ <;> grind
    have q : due s t = t := by
      unfold due
      rw [e, redF_mul c T.red.nz, redF_one T.red]
    rw [q, z]
    simp
  · have q : due s t ≠ t := by
      intro q
      have e1 : rp (trL s t) t = -(2 * (rp s t * rp s t)) := by
        rw [tr_left (by rw [S.len, T.len]), rp_self T]
        generalize rp s s = x
        generalize rp s t = y
        grind
      have e2 : rp (trL s t) t = facN (trL s t) * rp (due s t) t := rp_back1 n
      rw [q, rp_self T, Int.mul_zero, e1] at e2
      have e3 : rp s t * rp s t = 0 := by
        generalize rp s t * rp s t = y at e2
        omega
      exact z ((Int.mul_eq_zero.mp e3).elim id id)
    rw [beq_false_of_ne z]
    exact beq_false_of_ne q
end
theorem pol_id {s t x : List Int} (lx : x.length = 4) (i : Nat) (hi : i < 4) : gI (pointL t (planeL s x)) i + gI (pointL s (planeL t x)) i = rp s t * gI x i := by
  obtain ⟨x0, x1, x2, x3, rfl⟩ := four lx
  have : i = 0 ∨ i = 1 ∨ i = 2 ∨ i = 3 := by omega
  rcases this with rfl | rfl | rfl | rfl <;> (
    unfold pointL planeL rp
    simp only [gI, List.getD_cons_zero, List.getD_cons_succ]
    generalize s.getD 0 0 = s0
    generalize s.getD 1 0 = s1
    generalize s.getD 2 0 = s2
    generalize s.getD 3 0 = s3
    generalize s.getD 4 0 = s4
    generalize s.getD 5 0 = s5
    generalize t.getD 0 0 = t0
    generalize t.getD 1 0 = t1
    generalize t.getD 2 0 = t2
    generalize t.getD 3 0 = t3
    generalize t.getD 4 0 = t4
    generalize t.getD 5 0 = t5
    grind)
theorem pointL_mix {t s p : List Int} {a b : Int} (e : t.length = s.length) (i : Nat) (hi : i < 4) : gI (pointL (mixL a t b s) p) i = a * gI (pointL t p) i + b * gI (pointL s p) i := by
  have : i = 0 ∨ i = 1 ∨ i = 2 ∨ i = 3 := by omega
  rcases this with rfl | rfl | rfl | rfl <;> (
    unfold pointL
    simp only [gI_mix e]
    simp only [gI, List.getD_cons_zero, List.getD_cons_succ]
    grind)
theorem pointL_zero {s p : List Int} (h : ¬ Nz p) (i : Nat) (hi : i < 4) : gI (pointL s p) i = 0 := by
  have : i = 0 ∨ i = 1 ∨ i = 2 ∨ i = 3 := by omega
  have g := gI_zero h
  rcases this with rfl | rfl | rfl | rfl <;> (
    unfold pointL
    simp only [g]
    simp [gI])
theorem due_in {s t x : List Int} (S : IsSc s) (T : IsRod t) (X : IsPt x) (c : rp s s ≠ 0) (on : ¬ Nz (planeL t x)) : ¬ Nz (pointL (due s t) (redF (planeL s x))) := by
  have n := tr_nz S.len T.len T.red.nz c
  have cd : cdet s ≠ 0 := by
    rw [rp_cdet] at c
    omega
  have np := plane_nz X cd
  have z : ¬ Nz (pointL (trL s t) (planeL s x)) := by
    refine zero_nz fun i hi => ?_
    have hi : i < 4 := hi
    have p1 := pol_id (s := s) (t := t) X.len i hi
    rw [pointL_zero on i hi] at p1
    have p2 : gI (pointL s (planeL s x)) i = cdet s * gI x i := by rw [pp_id X.len, gI_mul]
    unfold trL
    rw [pointL_mix (by rw [S.len, T.len]) i hi, p2, rp_cdet]
    have p3 : gI (pointL t (planeL s x)) i = rp s t * gI x i := by omega
    rw [p3]
    generalize rp s t = a
    generalize cdet s = b
    generalize gI x i = d
    grind
  intro w
  apply z
  have w2 : Nz (pointL (trL s t) (redF (planeL s x))) := by
    rw [← redF_back n, pointL_mul]
    exact (nz_mul_iff (facN_nz n)).mpr w
  have w3 := (nz_mul_iff (facN_nz np)).mpr w2
  rw [← pointL_mul2, redF_back np] at w3
  exact w3
/-! ### the functions -/
theorem turned_ok {s t : List Int} {h : HS} {k : Nat} (S : IsSc s) (T : IsSc t) (bs : BdL k s) (bt : BdL k t) (hk : k < 2000) : OK (F_law_turned [.tup (iL s), .tup (iL t)] h) fun v h' => v = .tup (iL (due s t)) ∧ ∃ g, h' = h ++ g := by
  have b1 := rp_bd bs bs
  have b2 := rp_bd bs bt
  have b3 : Bd (2 * k + 12) (2 * rp s t) := ((natAbs_lt (k := 2) (x := 2) (by decide)).mul b2).mono (by omega)
  have bT := tr_bd bs bt
  have lT := tr_len S.len T.len
  have eT : ∀ (c : Nat) (y z : Int), t[c]? = some y → s[c]? = some z → (trL s t)[c]? = some (rp s s * y - 2 * rp s t * z) := by
    intro c y z hy hz
    unfold trL mixL
    rw [List.getElem?_zipWith, hy, hz]
    show some _ = some _
    congr 1
    generalize rp s s = a
    generalize rp s t = b
    grind
  unfold F_law_turned m_law_turned
  refine ok_run ?_
  refine sk_seq (sk_asg (ok_tup (ok_cons (ok_call (ok_cons (ok_var rfl (ok_cons (ok_var rfl (ok_nil ⟨rfl, ?_⟩))))))))) 
  refine (paired_ok S.len S.len bs bs (by omega)).imp ?_
  rintro _ _ ⟨rfl, g1, rfl⟩
  refine ok_cons (ok_call (ok_cons (ok_var rfl (ok_cons (ok_var rfl (ok_nil ⟨rfl, ?_⟩))))))
  refine (paired_ok S.len T.len bs bt (by omega)).imp ?_
  rintro _ _ ⟨rfl, g2, rfl⟩
  refine ok_nil ⟨by simp, _, _, gUn2, ?_⟩
  show SOK (sRet _ [some (.tup (iL s)), some (.tup (iL t)), some (.int (rp s s)), some (.int (rp s t)), none] _) _ _
  have H0 : ∃ g, h ++ g1 ++ g2 = h ++ g := ⟨g1 ++ g2, by simp⟩
  generalize h ++ g1 ++ g2 = H at *
  obtain ⟨g0, hg0⟩ := H0
  have go : ∀ A M : Int, rp s s = A → rp s t = M → SOK (sRet (dCall 1 F_law_reduced (dCons (dLc (dRng1 (dCons (dC (.int 6)) dNil)) (gNm 4) dYes (dOp opSub (dOp opMul (dVar 2) (dOp opIx (dVar 1) (dVar 4))) (dOp opMul (dOp opMul (dC (.int 2)) (dVar 3)) (dOp opIx (dVar 0) (dVar 4)))) [4]) dNil)) [some (.tup (iL s)), some (.tup (iL t)), some (.int A), some (.int M), none] H) (fun _ h' => D.non = .tup (iL (due s t)) ∧ ∃ g, h' = h ++ g) (fun v h' => v = .tup (iL (due s t)) ∧ ∃ g, h' = h ++ g) := by
    intro A M eA eM
    rw [eA] at b1
    rw [eM] at b2 b3
    rw [eA, eM] at eT
    refine sk_ret (ok_call (ok_cons (ok_lc (ok_rng1 (ok_cons (ok_c (ok_nil ⟨_, rfl, by decide, by decide, 6, fun i h' => h' = H ++ [iL ((trL s t).take i)], Nat.le_refl _, by simp [iL], ?_, ?_⟩)))))))
    · rintro c _ hc rfl
      obtain ⟨y, hy⟩ := get_lt (l := t) (i := c) (by rw [T.len]; exact hc)
      obtain ⟨z, hz⟩ := get_lt (l := s) (i := c) (by rw [S.len]; exact hc)
      refine ⟨.int (c : Nat), by simp [Src.get, hc], _, _, gNm1, ok_yes ⟨fun _ => ?_, fun c => (by cases c)⟩⟩
      refine ok_op (ok_op (ok_var rfl (ok_op (ok_var rfl (ok_var rfl ⟨_, _, opIx_t (PI.atI_nat (il_get hy)), ?_⟩)))))
      refine ⟨_, _, opMul_i (b1.ok (bt y (List.mem_of_getElem? hy)) (by omega)), ?_⟩
      refine ok_op (ok_op (ok_c (ok_var rfl ⟨_, _, opMul_i ((natAbs_lt (k := 2) (x := 2) (by decide)).ok b2 (by omega)), ?_⟩)))
      refine ok_op (ok_var rfl (ok_var rfl ⟨_, _, opIx_t (PI.atI_nat (il_get hz)), ?_⟩))
      refine ⟨_, _, opMul_i (b3.ok (bs z (List.mem_of_getElem? hz)) (by omega)), ?_⟩
      refine ⟨_, _, opSub_i, ?_⟩
      refine ⟨_, getapp (g := []), by rw [il_len]; simp; omega, ?_⟩
      show _ = _
      rw [setapp, List.take_add_one, eT c y z hy hz, il_app]
      rfl
    · rintro _ rfl
      refine ⟨by simp [Src.get], ok_nil ⟨rfl, ?_⟩⟩
      rw [List.take_of_length_le (by omega)]
      refine (reduced_ok (ls_ref (getapp (g := []))) (by omega) bT (by omega)).imp ?_
      rintro _ _ ⟨rfl, g, rfl⟩
      refine ⟨rfl, ?_⟩
      rw [hg0]
      repeat refine pre_app ?_
      exact pre_self
  exact go _ _ rfl rfl
theorem min_tr {s t : List Int} (ls : s.length = 6) (lt : t.length = 6) : List.zipWith (· - ·) (mulL (rp s s) t) (mulL (2 * rp s t) s) = trL s t := by
  unfold trL
  generalize rp s s = x
  generalize rp s t = y
  obtain ⟨a, b, c, d, f, g, rfl⟩ := six ls
  obtain ⟨a', b', c', d', f', g', rfl⟩ := six lt
  simp only [mixL, List.zipWith, mulL6, List.cons.injEq, and_true]
  refine ⟨?_, ?_, ?_, ?_, ?_, ?_⟩ <;> grind
theorem trod_ok {s t : List Int} {h : HS} {k : Nat} (S : IsSc s) (T : IsRod t) (bs : BdL k s) (bt : BdL k t) (hk : k < 2000) (c : rp s s ≠ 0) : OK (PK.F_turned_rod [.tup (iL s), .tup (iL t)] h) fun v h' => v = .tup (iL (due s t)) ∧ ∃ g, h' = h ++ g := by
  have b1 := rp_bd bs bs
  have b2 := rp_bd bs bt
  have b3 : Bd (2 * k + 12) (2 * rp s t) := ((natAbs_lt (k := 2) (x := 2) (by decide)).mul b2).mono (by omega)
  have bT := tr_bd bs bt
  have e := min_tr S.len T.len
  unfold PK.F_turned_rod PK.m_turned_rod
  refine ok_run ?_
  refine sk_seq (sk_drop (ok_call (ok_cons (ok_var rfl (ok_nil ⟨rfl, ?_⟩)))))
  refine (check_screw_ok S).imp ?_
  rintro _ _ ⟨rfl, g1, rfl⟩
  refine sk_seq (sk_drop (ok_call (ok_cons (ok_var rfl (ok_nil ⟨rfl, ?_⟩)))))
  refine (check_rod_ok T bt (by omega)).imp ?_
  rintro _ _ ⟨rfl, g2, rfl⟩
  refine sk_seq (sk_drop (ok_call (ok_cons (ok_var rfl (ok_nil ⟨rfl, ?_⟩)))))
  refine (notflat_ok S bs (by omega) c).imp ?_
  rintro _ _ ⟨rfl, g3, rfl⟩
  refine sk_seq (sk_par (ok_cons (ok_call (ok_cons (ok_var rfl (ok_cons (ok_var rfl (ok_nil ⟨rfl, ?_⟩))))))))
  refine (rowp_ok S.len S.len bs bs (by omega)).imp ?_
  rintro _ _ ⟨rfl, g4, rfl⟩
  refine ok_cons (ok_call (ok_cons (ok_var rfl (ok_cons (ok_var rfl (ok_nil ⟨rfl, ?_⟩))))))
  refine (rowp_ok S.len T.len bs bt (by omega)).imp ?_
  rintro _ _ ⟨rfl, g5, rfl⟩
  refine ok_nil ⟨_, _, rfl, ?_⟩
  refine sk_ret (ok_call (ok_cons (ok_call (ok_cons (ok_call (ok_cons (ok_var rfl (ok_cons (ok_var rfl (ok_nil ⟨rfl, ?_⟩))))))))))
  refine (times_ok (by rw [T.len]; decide) b1 bt (by omega)).imp ?_
  rintro _ _ ⟨rfl, g6, rfl⟩
  refine ok_cons (ok_call (ok_cons (ok_op (ok_c (ok_var rfl ⟨_, _, opMul_i ((natAbs_lt (k := 2) (x := 2) (by decide)).ok b2 (by omega)), ok_cons (ok_var rfl (ok_nil ⟨rfl, ?_⟩))⟩)))))
  refine (times_ok (by rw [S.len]; decide) b3 bs (by omega)).imp ?_
  rintro _ _ ⟨rfl, g7, rfl⟩
  refine ok_nil ⟨rfl, ?_⟩
  refine (minus_ok (by rw [mulL_len, T.len]; decide) (by rw [mulL_len, mulL_len, S.len, T.len])).imp ?_
  rintro _ _ ⟨rfl, g8, rfl⟩
  rw [e]
  refine ok_nil ⟨rfl, ?_⟩
  refine (PK.reduced_ok (by rw [tr_len S.len T.len]; decide) (tr_nz S.len T.len T.red.nz c) bT (by omega)).imp ?_
  rintro _ _ ⟨rfl, g9, rfl⟩
  refine ⟨rfl, ?_⟩
  repeat refine pre_app ?_
  exact pre_self

end LB

set_option maxHeartbeats 4000000
namespace LB
open PySem L2 PySem.Spec PI
local macro_rules | `(tactic| walk_at "b") => `(tactic| first
  | with_reducible assumption
  | (with_reducible refine Bd.mul ?_ ?_) <;> walk_at "b"
  | (with_reducible refine Bd.sub ?_ ?_) <;> walk_at "b"
  | (with_reducible refine Bd.add ?_ ?_) <;> walk_at "b"
  | (with_reducible refine Bd.neg ?_) <;> walk_at "b"
  | exact natAbs_lt (k := 40) (by decide))
local macro_rules | `(tactic| walk_at "m") => `(tactic| (apply Bd.ok <;> first | walk_at "b" | decide | omega))
local macro_rules | `(tactic| walk_at "p") => `(tactic| (first | exact pre_self | assumption | (refine pre_app ?_; walk_at "p")))
local macro_rules | `(tactic| walk_at "e") => `(tactic| first
  | refine ⟨_, _, opMul_i (.inl ⟨by decide, by decide⟩), ?_⟩
  | refine ⟨_, _, opMul_i (.inr (.inl ⟨by decide, by decide⟩)), ?_⟩
  | (refine ⟨_, _, opMul_i ?_, ?_⟩; · walk_at "m")
  | refine ⟨_, _, rfl, ?_⟩
  | refine ⟨_, rfl, ?_⟩
  | refine ⟨rfl, ?_⟩
  | refine ⟨rfl, rfl, ?_⟩)
local macro_rules | `(tactic| walk_at "d") => `(tactic| first
  | with_reducible refine ok_c ?_
  | with_reducible refine ok_var rfl ?_
  | with_reducible refine ok_op ?_
  | with_reducible refine ok_un ?_
  | with_reducible refine ok_nil ?_
  | with_reducible refine ok_cons ?_
  | with_reducible refine ok_tup ?_
  | with_reducible refine ok_lst ?_
  | with_reducible refine ok_cb ?_
  | with_reducible refine ok_call ?_
  | with_reducible refine ok_callK ?_
  | with_reducible refine ok_sl ?_
  | with_reducible refine ok_nopart ?_
  | with_reducible refine ok_part ?_
  | with_reducible refine ok_B ?_
  | with_reducible refine ok_andT ?_
  | with_reducible refine ok_orT ?_
  | with_reducible refine ok_notT ?_
  | with_reducible refine ok_and ?_
  | with_reducible refine ok_or ?_
  | with_reducible refine ok_not ?_
  | with_reducible refine ok_if ?_
  | with_reducible refine ok_app ?_
  | with_reducible refine ok_lc ?_
  | with_reducible refine ok_yes ?_
  | with_reducible refine ok_src ?_
  | with_reducible refine ok_rng1 ?_
  | with_reducible refine ok_rng2 ?_
  | with_reducible refine ok_zip ?_
  | with_reducible refine sk_nil ?_
  | with_reducible refine sk_seq ?_
  | with_reducible refine sk_ret ?_
  | with_reducible refine sk_drop ?_
  | with_reducible refine sk_if ?_
  | with_reducible refine sk_asg ?_
  | with_reducible refine sk_par ?_
  | with_reducible refine sk_par3 ?_
  | with_reducible refine sk_for ?_
  | with_reducible refine ⟨_, _, gNm1, ?_⟩
  | with_reducible refine ⟨_, _, gUn2, ?_⟩
  | with_reducible refine ⟨_, _, gUn3, ?_⟩
  | with_reducible refine ⟨_, _, opSub_i, ?_⟩
  | with_reducible refine ⟨_, _, opAdd_i, ?_⟩
  | with_reducible refine ⟨_, _, opNe_i, ?_⟩
  | with_reducible refine ⟨_, _, opEq_i, ?_⟩
  | with_reducible refine ⟨_, _, opMod_i (by decide), ?_⟩
  | with_reducible refine ⟨_, _, opDiv_i ⟨by decide, by decide⟩, ?_⟩
  | ((with_reducible refine And.intro ?_ ?_); · rfl)
  | ((fail_if_success (with_reducible refine And.intro ?_ ?_)); (fail_if_success (with_reducible refine OK.imp (Q := fun _ _ => True) ?_ ?_)); (fail_if_success (with_reducible refine SOK.imp (Qn := fun _ _ => True) (Qr := fun _ _ => True) ?_ ?_ ?_)); walk_at "e"))

open PK
open LA (opLen_ref gUn_ref tL tl_len tl_get tl_snoc nz_ne notZ keptL kept_take filter_take red_ne nz_gI mixL mix_nz mix_len mix_bd gI_mix setapp1 rp_comm rp_back rp_back1)
theorem netg_ok {n : Nat} {s : Int} {x : List Int} {h : HS} {k : Nat} (W : Well n h) (hs : Sz s) (lx : x.length = 6) (bx : BdL k x) (k1 : 32 ≤ k) (k2 : k ≤ 400) : OK (F_law_netted [.ref n, .tup (iL x), .int s] h) fun v h' => Ext n h h' ∧ ∃ r, v = .tup (iL r) ∧ IsRod r ∧ BdL (2 * k + 80) r := by
  have hn := W.lt
  unfold F_law_netted m_law_netted
  refine ok_run ?_
  refine sk_seq (sk_asg (ok_call (ok_cons (ok_var rfl (ok_cons (ok_var rfl (ok_nil ⟨rfl, ?_⟩)))))))
  refine (spot_ok W hs).imp ?_
  rintro _ h1 ⟨E1, p, rfl, P, bp⟩
  refine ⟨_, _, gNm1, ?_⟩
  refine sk_seq (sk_asg (ok_call (ok_cons (ok_var rfl (ok_cons (ok_var rfl (ok_nil ⟨rfl, ?_⟩)))))))
  refine (sheet_ok lx P.len bx (bp.mono k1) (by omega)).imp ?_
  rintro _ _ ⟨r, g, rfl, rfl, hr, q⟩
  refine ⟨_, _, gNm1, ?_⟩
  have l1 := E1.len
  have rn : r ≠ n := by omega
  have E2 : Ext n h (h1 ++ g) := E1.trans (Ext.app E1.well)
  have E3 : Ext n h (h1 ++ g ++ [iL [0, 0, 0, 0]]) := E2.trans (Ext.app E2.well)
  have q3 : (h1 ++ g ++ [iL [0, 0, 0, 0]])[r]? = some (iL (planeL x p)) := by rw [List.getElem?_append_left (List.getElem?_eq_some_iff.mp q).1, q]
  refine sk_seq (sk_if (ok_B (ok_op (ok_var rfl (ok_lst (ok_cons (ok_c (ok_cons (ok_c (ok_cons (ok_c (ok_cons (ok_c (ok_nil ⟨by simp, _, _, opEq_rl (a := planeL x p) (b := [0, 0, 0, 0]) q3 (getapp (g := [])), _, rfl, fun c => ?_, fun c => sk_nil ?_⟩))))))))))))))
  · refine sk_ret (ok_call (ok_cons (ok_var rfl (ok_cons (ok_call (ok_cons (ok_var rfl (ok_cons (ok_var rfl (ok_cons (ok_var rfl (ok_nil ⟨rfl, ?_⟩))))))))))))
    refine (unlike_ok E3.well hs).imp ?_
    rintro _ h2 ⟨E4, b, rfl, B, bb, ne⟩
    refine ok_nil ⟨rfl, ?_⟩
    refine (joined_ok P.len B.len bp bb (by decide)).imp ?_
    rintro _ _ ⟨rfl, g, rfl⟩
    exact ⟨(E3.trans E4).trans (Ext.app E4.well), _, rfl, line_rod P B (fun z => ne z.symm), redF_bd ((line_bd bp bb).mono (by omega))⟩
  · refine sk_ret (ok_call (ok_cons (ok_var rfl (ok_cons (ok_call (ok_cons (ok_var rfl (ok_cons (ok_var rfl (ok_cons (ok_var rfl (ok_nil ⟨rfl, ?_⟩))))))))))))
    have bpl : BdL (2 * k + 5) (planeL x p) := plane_bd bx (bp.mono k1)
    refine (in_sheet_ok E3.well (ls_ref q3) rfl bpl (nz_ne (by show planeL x p ≠ [0, 0, 0, 0]; simpa using c)) (by omega) fun h' E => ls_stay E q3 rn).imp ?_
    rintro _ h2 ⟨E4, b, rfl, B, bb, ne⟩
    refine ok_nil ⟨rfl, ?_⟩
    refine (joined_ok P.len B.len (bp.mono (k := 2 * k + 5 + 40) (by omega)) bb (by omega)).imp ?_
    rintro _ _ ⟨rfl, g, rfl⟩
    exact ⟨(E3.trans E4).trans (Ext.app E4.well), _, rfl, line_rod P B (fun z => ne z.symm), redF_bd ((line_bd bp bb).mono (by omega))⟩
theorem opIn_r {i : Int} {r : Nat} {ns : List Int} {h : HS} (q : h[r]? = some (iL ns)) : opIn (.int i) (.ref r) h = some (.bl (ns.any fun n => n == i), h) := by
  show (h[r]?).bind (fun l => (allInt l).bind fun ns => some (D.bl (ns.any fun n => n == i), h)) = _
  rw [q]
  show (allInt (iL ns)).bind _ = _
  rw [allInt_il]
  rfl
theorem opIn_t {i : Int} {ns : List Int} {h : HS} : opIn (.int i) (.tup (iL ns)) h = some (.bl (ns.any fun n => n == i), h) := by
  show (allInt (iL ns)).bind _ = _
  rw [allInt_il]
  rfl
theorem opNe_b {a b : Bool} {h : HS} : opNe (.bl a) (.bl b) h = some (.bl (!(a == b)), h) := by cases a <;> cases b <;> rfl
theorem check_three_ok {a b c : List Int} {h : HS} {k : Nat} (A : IsRod a) (B : IsRod b) (C : IsRod c) (ba : BdL k a) (bb : BdL k b) (bc : BdL k c) (hk : k < 400000) : OK (PK.F_check_three [.tup (iL a), .tup (iL b), .tup (iL c)] h) fun v h' => v = .non ∧ ∃ g, h' = h ++ g := by
  unfold PK.F_check_three PK.m_check_three
  refine ok_run ?_
  refine sk_seq (sk_drop (ok_call (ok_cons (ok_var rfl (ok_cons (ok_var rfl (ok_nil ⟨rfl, ?_⟩)))))))
  refine (check_rods_ok A B ba bb hk).imp ?_
  rintro _ _ ⟨rfl, g1, rfl⟩
  refine sk_drop (ok_call (ok_cons (ok_var rfl (ok_nil ⟨rfl, ?_⟩))))
  refine (check_rod_ok C bc hk).imp ?_
  rintro _ _ ⟨rfl, g2, rfl⟩
  exact ⟨rfl, g1 ++ g2, by simp⟩
theorem three_ok {a b c : List Int} {h : HS} {k : Nat} (A : IsRod a) (B : IsRod b) (C : IsRod c) (ba : BdL k a) (bb : BdL k b) (bc : BdL k c) (hk : k < 400000) (x0 : rp b c ≠ 0) (y0 : rp a c ≠ 0) (z0 : rp a b ≠ 0) : OK (PK.F_three_products [.tup (iL a), .tup (iL b), .tup (iL c)] h) fun v h' => v = .tup (iL [rp b c, rp a c, rp a b]) ∧ ∃ g, h' = h ++ g := by
  unfold PK.F_three_products PK.m_three_products
  refine ok_run ?_
  refine sk_seq (sk_asg (ok_tup (ok_cons (ok_call (ok_cons (ok_var rfl (ok_cons (ok_var rfl (ok_nil ⟨rfl, ?_⟩)))))))))
  refine (rowp_ok B.len C.len bb bc (by omega)).imp ?_
  rintro _ _ ⟨rfl, g1, rfl⟩
  refine ok_cons (ok_call (ok_cons (ok_var rfl (ok_cons (ok_var rfl (ok_nil ⟨rfl, ?_⟩))))))
  refine (rowp_ok A.len C.len ba bc (by omega)).imp ?_
  rintro _ _ ⟨rfl, g2, rfl⟩
  refine ok_cons (ok_call (ok_cons (ok_var rfl (ok_cons (ok_var rfl (ok_nil ⟨rfl, ?_⟩))))))
  refine (rowp_ok A.len B.len ba bb (by omega)).imp ?_
  rintro _ _ ⟨rfl, g3, rfl⟩
  refine ok_nil ⟨by simp, _, _, gNm1, ?_⟩
  refine sk_seq (sk_if (ok_B (ok_op (ok_c (ok_var rfl ⟨_, _, opIn_t (ns := [rp b c, rp a c, rp a b]), _, rfl, fun w => ?_, fun _ => sk_nil (sk_ret (ok_var rfl ⟨rfl, ?_⟩))⟩)))))
  · exfalso
    simp [x0, y0, z0] at w
  · repeat refine pre_app ?_
    exact pre_self
def sg3 (x : Int) : Int := if 0 < x then 1 else -1
theorem sg_pos {x : Int} (h : 0 < x) : sg3 x = 1 := if_pos h
theorem sg_neg {x : Int} (h : x < 0) : sg3 x = -1 := if_neg (by omega)
theorem hand_ok {a b c : List Int} {h : HS} {k : Nat} (A : IsRod a) (B : IsRod b) (C : IsRod c) (ba : BdL k a) (bb : BdL k b) (bc : BdL k c) (hk : k < 400000) (x0 : rp b c ≠ 0) (y0 : rp a c ≠ 0) (z0 : rp a b ≠ 0) : OK (PK.F_hand [.tup (iL a), .tup (iL b), .tup (iL c)] h) fun v h' => v = .int (sg3 (rp a b * rp a c * rp b c)) ∧ ∃ g, h' = h ++ g := by
  unfold PK.F_hand PK.m_hand
  refine ok_run ?_
  refine sk_seq (sk_drop (ok_call (ok_cons (ok_var rfl (ok_cons (ok_var rfl (ok_cons (ok_var rfl (ok_nil ⟨rfl, ?_⟩)))))))))
  refine (check_three_ok A B C ba bb bc hk).imp ?_
  rintro _ _ ⟨rfl, g1, rfl⟩
  have lc : OK (dLc (dSrc (dCall 3 PK.F_three_products (dCons (dVar 0) (dCons (dVar 1) (dCons (dVar 2) dNil))))) (gNm 4) (dB (dOp opLt (dVar 4) (dC (.int 0)))) (dVar 4) [4] [some (.tup (iL a)), some (.tup (iL b)), some (.tup (iL c)), none, none] (h ++ g1)) fun v h' => ∃ (ns : List Int) (r : Nat), v = .ref r ∧ h'[r]? = some (iL ns) ∧ (∃ g, h' = h ++ g) ∧ sg3 (rp a b * rp a c * rp b c) = (if ns.length = 1 ∨ ns.length = 3 then -1 else 1) := by
    have hx : 0 < rp b c ∨ rp b c < 0 := by omega
    have hy : 0 < rp a c ∨ rp a c < 0 := by omega
    have hz : 0 < rp a b ∨ rp a b < 0 := by omega
    refine ok_lc (ok_src (ok_call (ok_cons (ok_var rfl (ok_cons (ok_var rfl (ok_cons (ok_var rfl (ok_nil ⟨rfl, ?_⟩)))))))))
    refine (three_ok A B C ba bb bc hk x0 y0 z0).imp ?_
    rintro _ _ ⟨rfl, g2, rfl⟩
    have H0 : ∃ g, h ++ g1 ++ g2 = h ++ g := ⟨g1 ++ g2, by simp⟩
    generalize h ++ g1 ++ g2 = H at *
    obtain ⟨g0, hg0⟩ := H0
    clear x0 y0 z0
    generalize rp b c = x at *
    generalize rp a c = y at *
    generalize rp a b = z at *
    refine .inl ⟨_, rfl, 3, fun i h' => h' = H ++ [iL (([x, y, z].take i).filter fun w => decide (w < 0))], Nat.le_refl _, by simp [iL], ?_, ?_⟩
    · rintro i _ hi rfl
      obtain ⟨w, hw⟩ := get_lt (l := [x, y, z]) (i := i) hi
      refine ⟨.int w, congrArg some (il_get hw), _, _, gNm1, ?_⟩
      refine ok_B (ok_op (ok_var rfl (ok_c ⟨_, _, rfl, _, rfl, fun q => ?_, fun q => ?_⟩)))
      · refine ok_var rfl ⟨_, getapp (g := []), ?_, ?_⟩
        · rw [il_len]
          exact Nat.lt_of_le_of_lt (List.length_filter_le _ _) (by simp; omega)
        · show _ = _
          rw [setapp, List.take_add_one, hw, List.filter_append, il_app]
          have q : w < 0 := of_decide_eq_true q
          simp [q, iL]
      · show _ = _
        rw [List.take_add_one, hw, List.filter_append]
        have q : ¬ w < 0 := of_decide_eq_false q
        simp [q]
    · rintro _ rfl
      refine ⟨by simp [Src.get, iL], _, _, rfl, getapp (g := []), ⟨g0 ++ [iL (([x, y, z].take 3).filter fun w => decide (w < 0))], by rw [hg0]; simp⟩, ?_⟩
      rcases hx with hx | hx <;> rcases hy with hy | hy <;> rcases hz with hz | hz
      · rw [sg_pos (Int.mul_pos (Int.mul_pos hz hy) hx)]
        simp [List.filter, show ¬ x < 0 by omega, show ¬ y < 0 by omega, show ¬ z < 0 by omega]
      · rw [sg_neg (Int.mul_neg_of_neg_of_pos (Int.mul_neg_of_neg_of_pos hz hy) hx)]
        simp [List.filter, show ¬ x < 0 by omega, show ¬ y < 0 by omega, hz]
      · rw [sg_neg (Int.mul_neg_of_neg_of_pos (Int.mul_neg_of_pos_of_neg hz hy) hx)]
        simp [List.filter, show ¬ x < 0 by omega, show ¬ z < 0 by omega, hy]
      · rw [sg_pos (Int.mul_pos (Int.mul_pos_of_neg_of_neg hz hy) hx)]
        simp [List.filter, show ¬ x < 0 by omega, hy, hz]
      · rw [sg_neg (Int.mul_neg_of_pos_of_neg (Int.mul_pos hz hy) hx)]
        simp [List.filter, hx, show ¬ y < 0 by omega, show ¬ z < 0 by omega]
      · rw [sg_pos (Int.mul_pos_of_neg_of_neg (Int.mul_neg_of_neg_of_pos hz hy) hx)]
        simp [List.filter, show ¬ y < 0 by omega, hx, hz]
      · rw [sg_pos (Int.mul_pos_of_neg_of_neg (Int.mul_neg_of_pos_of_neg hz hy) hx)]
        simp [List.filter, hx, show ¬ z < 0 by omega, hy]
      · rw [sg_neg (Int.mul_neg_of_pos_of_neg (Int.mul_pos_of_neg_of_neg hz hy) hx)]
        simp [List.filter, hx, hy, hz]
  refine sk_seq (sk_asg (lc.imp ?_))
  rintro _ h2 ⟨ns, r, rfl, q, ⟨g, rfl⟩, e⟩
  refine ⟨_, _, gNm1, ?_⟩
  refine sk_ret (ok_if (ok_B (ok_op (ok_cb (ok_cons (ok_var rfl (ok_nil ⟨_, _, opLen_ref q il_len, ?_⟩)))))))
  refine ok_tup (ok_cons (ok_c (ok_cons (ok_c (ok_nil ⟨by simp, _, _, opIn_t (ns := [1, 3]), _, rfl, fun w => ?_, fun w => ?_⟩)))))
  · have w : ns.length = 1 ∨ ns.length = 3 := by
      simp at w
      omega
    rw [e, if_pos w]
    exact ok_un (ok_c ⟨_, _, rfl, rfl, g, rfl⟩)
  · have w : ¬(ns.length = 1 ∨ ns.length = 3) := by
      simp at w
      omega
    rw [e, if_neg w]
    exact ok_c ⟨rfl, g, rfl⟩

end LB

namespace K07
open PySem L2 PySem.Spec PI
def topS (i : Nat) : Stmt := PySem.Challenge.pw_stringrods_k07_whole_points_and_planes_o.main.body.getD i (.Pass ⟨0, 0, 0, 0⟩)
noncomputable section
variable {P : Program} {w : World} {K : PySem.W.Frag} {mg : Str → Option Value} {base : Heap}
variable {C_InvalidRod C_Apart C_Same : Addr}
def c_CORNERS : D := .tup [(.tup [(.int 1), (.int 0), (.int 0), (.int 0)]), (.tup [(.int 0), (.int 1), (.int 0), (.int 0)]), (.tup [(.int 0), (.int 0), (.int 1), (.int 0)]), (.tup [(.int 0), (.int 0), (.int 0), (.int 1)])]
abbrev s_is_whole : Stmt := topS 7
abbrev N_is_whole : List Str := ["value"]
abbrev P_is_whole : List Str := ["value"]
theorem sc_is_whole : FnScope N_is_whole P_is_whole (defScope s_is_whole) := ⟨rfl, rfl, rfl, by decide +kernel, rfl, by decide +kernel, by decide +kernel⟩
def m_is_whole : DS :=
  (sRet (dAnd (dCB opIsi (dCons (dVar 0) (dCons (dC (.ty "int")) dNil))) (dNot (dCB opIsi (dCons (dVar 0) (dCons (dC (.ty "bool")) dNil))))))
def F_is_whole : DF := run 1 m_is_whole
theorem dv_is_whole (SB : SysB base) (B : Blt mg) {f : Addr} {fd : FuncData} (F : Fun K "is_whole" "is_whole" s_is_whole f fd) : FnG P w K mg base 1 f fd P_is_whole (spD K mg 1 F_is_whole) := by
  have SC := sc_is_whole
  refine fnG_run (k := 0) SB F SC rfl rfl m_is_whole fun cdv A fr s H E W C => ?_
  exact (ds_one (ds_ret (de_and (de_callB cIsi (by rfl) B.b_isinstance (by decide +kernel) (da_cons (de_var (i := 0)) (da_cons (de_c (pe_bltn (by rfl) B.b_int (by decide +kernel) (show RelV (V.ty "int") _ from rfl)) fun _ _ => .ty _) da_nil))) (de_one (de_not (de_callB cIsi (by rfl) B.b_isinstance (by decide +kernel) (da_cons (de_var (i := 0)) (da_cons (de_c (pe_bltn (by rfl) B.b_bool (by decide +kernel) (show RelV (V.ty "bool") _ from rfl)) fun _ _ => .ty _) da_nil))))))))
abbrev s_common_divisor : Stmt := topS 8
abbrev N_common_divisor : List Str := ["numbers", "common", "number"]
abbrev P_common_divisor : List Str := ["numbers"]
theorem sc_common_divisor : FnScope N_common_divisor P_common_divisor (defScope s_common_divisor) := ⟨rfl, rfl, rfl, by decide +kernel, rfl, by decide +kernel, by decide +kernel⟩
def m_common_divisor : DS :=
  (sSeq (sAsg (dC (.int 0)) (gNm 1))
    (sSeq (sFor (dSrc (dVar 0)) (gNm 2) (sAsg (dCB opGcd (dCons (dVar 1) (dCons (dVar 2) dNil))) (gNm 1)))
    (sRet (dVar 1))))
def F_common_divisor : DF := run 3 m_common_divisor
theorem dv_common_divisor (SB : SysB base) (hgcd : mg "gcd" = some (.builtin "math.gcd")) {f : Addr} {fd : FuncData} (F : Fun K "common_divisor" "common_divisor" s_common_divisor f fd) : FnG P w K mg base 1 f fd P_common_divisor (spD K mg 1 F_common_divisor) := by
  have SC := sc_common_divisor
  refine fnG_run (k := 0) SB F SC rfl rfl m_common_divisor fun cdv A fr s H E W C => ?_
  exact (ds_cons (ds_set (i := 1) SC.nd rfl (by first | exact Or.inl rfl | exact Or.inr rfl) de_int) (ds_cons (ds_for C.po C.calm (di_any (de_var (i := 0))) (dg_name (i := 2) SC.nd rfl (by first | exact Or.inl rfl | exact Or.inr rfl)) (ds_one (ds_set (i := 1) SC.nd rfl (by first | exact Or.inl rfl | exact Or.inr rfl) (de_gcd hgcd (da_cons (de_var (i := 1)) (da_cons (de_var (i := 2)) da_nil)))))) (ds_one (ds_ret (de_var (i := 1))))))
abbrev s_first_not_zero : Stmt := topS 9
abbrev N_first_not_zero : List Str := ["numbers", "number"]
abbrev P_first_not_zero : List Str := ["numbers"]
theorem sc_first_not_zero : FnScope N_first_not_zero P_first_not_zero (defScope s_first_not_zero) := ⟨rfl, rfl, rfl, by decide +kernel, rfl, by decide +kernel, by decide +kernel⟩
def m_first_not_zero : DS :=
  (sSeq (sFor (dSrc (dVar 0)) (gNm 1) (sIf (dB (dOp opNe (dVar 1) (dC (.int 0)))) (sRet (dVar 1)) sNil))
    (sRet (dC (.int 0))))
def F_first_not_zero : DF := run 2 m_first_not_zero
theorem dv_first_not_zero (SB : SysB base) {f : Addr} {fd : FuncData} (F : Fun K "first_not_zero" "first_not_zero" s_first_not_zero f fd) : FnG P w K mg base 1 f fd P_first_not_zero (spD K mg 1 F_first_not_zero) := by
  have SC := sc_first_not_zero
  refine fnG_run (k := 0) SB F SC rfl rfl m_first_not_zero fun cdv A fr s H E W C => ?_
  exact (ds_cons (ds_for C.po C.calm (di_any (de_var (i := 0))) (dg_name (i := 1) SC.nd rfl (by first | exact Or.inl rfl | exact Or.inr rfl)) (ds_one (ds_if (dt_cmp (oNe C.sb C.room) (de_var (i := 1)) de_int) (ds_one (ds_ret (de_var (i := 1)))) ds_nil))) (ds_one (ds_ret de_int)))
abbrev s_dot : Stmt := topS 12
abbrev N_dot : List Str := ["row", "other", "left", "right"]
abbrev P_dot : List Str := ["row", "other"]
theorem sc_dot : FnScope N_dot P_dot (defScope s_dot) := ⟨rfl, rfl, rfl, by decide +kernel, rfl, by decide +kernel, by decide +kernel⟩
def m_dot : DS :=
  (sRet (dCB opSum (dCons (dLc (dZip (dCons (dVar 0) (dCons (dVar 1) dNil))) (gUn 2 (gConsD (gNm 2) (gConsD (gNm 3) gNilD))) dYes (dOp opMul (dVar 2) (dVar 3)) [2, 3]) dNil)))
def F_dot : DF := run 4 m_dot
theorem dv_dot (SB : SysB base) (B : Blt mg) {f : Addr} {fd : FuncData} (F : Fun K "dot" "dot" s_dot f fd) : FnG P w K mg base 1 f fd P_dot (spD K mg 2 F_dot) := by
  have SC := sc_dot
  refine fnG_run (k := 0) SB F SC rfl rfl m_dot fun cdv A fr s H E W C => ?_
  exact (ds_one (ds_ret (de_callB (cSum C.calm) (by rfl) B.b_sum (by decide +kernel) (da_cons (de_lc C.calm SC.nd (di_zip (by rfl) B.b_zip (da_cons (de_var (i := 0)) (da_cons (de_var (i := 1)) da_nil))) (blkOk_by (N := N_dot) (sc := defScope s_dot) (own := [("left", 2), ("right", 3)]) (by decide +kernel)) (fun _ _ _ _ _ => (dgw_un (n := 2) C.calm (dgsw_cons (dgw_name (i := 2) SC.nd rfl (by first | exact Or.inl rfl | exact Or.inr rfl) (by decide)) (dgsw_cons (dgw_name (i := 3) SC.nd rfl (by first | exact Or.inl rfl | exact Or.inr rfl) (by decide)) dgsw_nil)))) (fun _ _ _ _ _ => dts_nil) (fun _ _ _ _ _ => (de_op oMul (de_var (i := 2)) (de_var (i := 3))))) da_nil))))
abbrev s_cross : Stmt := topS 13
abbrev N_cross : List Str := ["row", "other"]
abbrev P_cross : List Str := ["row", "other"]
theorem sc_cross : FnScope N_cross P_cross (defScope s_cross) := ⟨rfl, rfl, rfl, by decide +kernel, rfl, by decide +kernel, by decide +kernel⟩
def m_cross : DS :=
  (sRet (dTup (dCons (dOp opSub (dOp opMul (dOp opIx (dVar 0) (dC (.int 1))) (dOp opIx (dVar 1) (dC (.int 2)))) (dOp opMul (dOp opIx (dVar 0) (dC (.int 2))) (dOp opIx (dVar 1) (dC (.int 1))))) (dCons (dOp opSub (dOp opMul (dOp opIx (dVar 0) (dC (.int 2))) (dOp opIx (dVar 1) (dC (.int 0)))) (dOp opMul (dOp opIx (dVar 0) (dC (.int 0))) (dOp opIx (dVar 1) (dC (.int 2))))) (dCons (dOp opSub (dOp opMul (dOp opIx (dVar 0) (dC (.int 0))) (dOp opIx (dVar 1) (dC (.int 1)))) (dOp opMul (dOp opIx (dVar 0) (dC (.int 1))) (dOp opIx (dVar 1) (dC (.int 0))))) dNil)))))
def F_cross : DF := run 2 m_cross
theorem dv_cross (SB : SysB base) {f : Addr} {fd : FuncData} (F : Fun K "cross" "cross" s_cross f fd) : FnG P w K mg base 1 f fd P_cross (spD K mg 2 F_cross) := by
  have SC := sc_cross
  refine fnG_run (k := 0) SB F SC rfl rfl m_cross fun cdv A fr s H E W C => ?_
  exact (ds_one (ds_ret (de_tup (da_cons (de_op oSub (de_op oMul (de_ix oIx (de_var (i := 0)) de_int) (de_ix oIx (de_var (i := 1)) de_int)) (de_op oMul (de_ix oIx (de_var (i := 0)) de_int) (de_ix oIx (de_var (i := 1)) de_int))) (da_cons (de_op oSub (de_op oMul (de_ix oIx (de_var (i := 0)) de_int) (de_ix oIx (de_var (i := 1)) de_int)) (de_op oMul (de_ix oIx (de_var (i := 0)) de_int) (de_ix oIx (de_var (i := 1)) de_int))) (da_cons (de_op oSub (de_op oMul (de_ix oIx (de_var (i := 0)) de_int) (de_ix oIx (de_var (i := 1)) de_int)) (de_op oMul (de_ix oIx (de_var (i := 0)) de_int) (de_ix oIx (de_var (i := 1)) de_int))) da_nil))))))
abbrev s_times : Stmt := topS 14
abbrev N_times : List Str := ["factor", "row", "number"]
abbrev P_times : List Str := ["factor", "row"]
theorem sc_times : FnScope N_times P_times (defScope s_times) := ⟨rfl, rfl, rfl, by decide +kernel, rfl, by decide +kernel, by decide +kernel⟩
def m_times : DS :=
  (sRet (dCB opTuple (dCons (dLc (dSrc (dVar 1)) (gNm 2) dYes (dOp opMul (dVar 0) (dVar 2)) [2]) dNil)))
def F_times : DF := run 3 m_times
theorem dv_times (SB : SysB base) (B : Blt mg) {f : Addr} {fd : FuncData} (F : Fun K "times" "times" s_times f fd) : FnG P w K mg base 1 f fd P_times (spD K mg 2 F_times) := by
  have SC := sc_times
  refine fnG_run (k := 0) SB F SC rfl rfl m_times fun cdv A fr s H E W C => ?_
  exact (ds_one (ds_ret (de_callTy cTuple (by rfl) B.b_tuple (by decide +kernel) (da_cons (de_lc C.calm SC.nd (di_any (de_var (i := 1))) (blkOk_by (N := N_times) (sc := defScope s_times) (own := [("number", 2)]) (by decide +kernel)) (fun _ _ _ _ _ => (dgw_name (i := 2) SC.nd rfl (by first | exact Or.inl rfl | exact Or.inr rfl) (by decide))) (fun _ _ _ _ _ => dts_nil) (fun _ _ _ _ _ => (de_op oMul (de_var (i := 0)) (de_var (i := 2))))) da_nil))))
abbrev s_plus : Stmt := topS 15
abbrev N_plus : List Str := ["row", "other", "left", "right"]
abbrev P_plus : List Str := ["row", "other"]
theorem sc_plus : FnScope N_plus P_plus (defScope s_plus) := ⟨rfl, rfl, rfl, by decide +kernel, rfl, by decide +kernel, by decide +kernel⟩
def m_plus : DS :=
  (sRet (dCB opTuple (dCons (dLc (dZip (dCons (dVar 0) (dCons (dVar 1) dNil))) (gUn 2 (gConsD (gNm 2) (gConsD (gNm 3) gNilD))) dYes (dOp opAdd (dVar 2) (dVar 3)) [2, 3]) dNil)))
def F_plus : DF := run 4 m_plus
theorem dv_plus (SB : SysB base) (B : Blt mg) {f : Addr} {fd : FuncData} (F : Fun K "plus" "plus" s_plus f fd) : FnG P w K mg base 1 f fd P_plus (spD K mg 2 F_plus) := by
  have SC := sc_plus
  refine fnG_run (k := 0) SB F SC rfl rfl m_plus fun cdv A fr s H E W C => ?_
  exact (ds_one (ds_ret (de_callTy cTuple (by rfl) B.b_tuple (by decide +kernel) (da_cons (de_lc C.calm SC.nd (di_zip (by rfl) B.b_zip (da_cons (de_var (i := 0)) (da_cons (de_var (i := 1)) da_nil))) (blkOk_by (N := N_plus) (sc := defScope s_plus) (own := [("left", 2), ("right", 3)]) (by decide +kernel)) (fun _ _ _ _ _ => (dgw_un (n := 2) C.calm (dgsw_cons (dgw_name (i := 2) SC.nd rfl (by first | exact Or.inl rfl | exact Or.inr rfl) (by decide)) (dgsw_cons (dgw_name (i := 3) SC.nd rfl (by first | exact Or.inl rfl | exact Or.inr rfl) (by decide)) dgsw_nil)))) (fun _ _ _ _ _ => dts_nil) (fun _ _ _ _ _ => (de_op oAdd (de_var (i := 2)) (de_var (i := 3))))) da_nil))))
abbrev s_minus : Stmt := topS 16
abbrev N_minus : List Str := ["row", "other", "left", "right"]
abbrev P_minus : List Str := ["row", "other"]
theorem sc_minus : FnScope N_minus P_minus (defScope s_minus) := ⟨rfl, rfl, rfl, by decide +kernel, rfl, by decide +kernel, by decide +kernel⟩
def m_minus : DS :=
  (sRet (dCB opTuple (dCons (dLc (dZip (dCons (dVar 0) (dCons (dVar 1) dNil))) (gUn 2 (gConsD (gNm 2) (gConsD (gNm 3) gNilD))) dYes (dOp opSub (dVar 2) (dVar 3)) [2, 3]) dNil)))
def F_minus : DF := run 4 m_minus
theorem dv_minus (SB : SysB base) (B : Blt mg) {f : Addr} {fd : FuncData} (F : Fun K "minus" "minus" s_minus f fd) : FnG P w K mg base 1 f fd P_minus (spD K mg 2 F_minus) := by
  have SC := sc_minus
  refine fnG_run (k := 0) SB F SC rfl rfl m_minus fun cdv A fr s H E W C => ?_
  exact (ds_one (ds_ret (de_callTy cTuple (by rfl) B.b_tuple (by decide +kernel) (da_cons (de_lc C.calm SC.nd (di_zip (by rfl) B.b_zip (da_cons (de_var (i := 0)) (da_cons (de_var (i := 1)) da_nil))) (blkOk_by (N := N_minus) (sc := defScope s_minus) (own := [("left", 2), ("right", 3)]) (by decide +kernel)) (fun _ _ _ _ _ => (dgw_un (n := 2) C.calm (dgsw_cons (dgw_name (i := 2) SC.nd rfl (by first | exact Or.inl rfl | exact Or.inr rfl) (by decide)) (dgsw_cons (dgw_name (i := 3) SC.nd rfl (by first | exact Or.inl rfl | exact Or.inr rfl) (by decide)) dgsw_nil)))) (fun _ _ _ _ _ => dts_nil) (fun _ _ _ _ _ => (de_op oSub (de_var (i := 2)) (de_var (i := 3))))) da_nil))))
abbrev s_swapped : Stmt := topS 22
abbrev N_swapped : List Str := ["row"]
abbrev P_swapped : List Str := ["row"]
theorem sc_swapped : FnScope N_swapped P_swapped (defScope s_swapped) := ⟨rfl, rfl, rfl, by decide +kernel, rfl, by decide +kernel, by decide +kernel⟩
def m_swapped : DS :=
  (sRet (dOp opAdd (dSl opSl (dVar 0) (dPart (dC (.int 3))) dNoPart) (dSl opSl (dVar 0) dNoPart (dPart (dC (.int 3))))))
def F_swapped : DF := run 1 m_swapped
theorem dv_swapped (SB : SysB base) {f : Addr} {fd : FuncData} (F : Fun K "swapped" "swapped" s_swapped f fd) : FnG P w K mg base 1 f fd P_swapped (spD K mg 1 F_swapped) := by
  have SC := sc_swapped
  refine fnG_run (k := 0) SB F SC rfl rfl m_swapped fun cdv A fr s H E W C => ?_
  exact (ds_one (ds_ret (de_op oAdd (de_slice oSl (de_var (i := 0)) (do_some de_int) do_none) (de_slice oSl (de_var (i := 0)) do_none (do_some de_int)))))
abbrev s_law_well : Stmt := topS 30
abbrev N_law_well : List Str := ["_law_script", "_law_spot", "_law_seed", "_law_cell", "_law_great"]
abbrev P_law_well : List Str := ["_law_script", "_law_spot"]
theorem sc_law_well : FnScope N_law_well P_law_well (defScope s_law_well) := ⟨rfl, rfl, rfl, by decide +kernel, rfl, by decide +kernel, by decide +kernel⟩
def m_law_well : DS :=
  (sSeq (sAsg (dOp opAdd (dC (.int 70001)) (dOp opMul (dC (.int 1009)) (dVar 1))) (gNm 2))
    (sSeq (sFor (dSrc (dSl opSl (dVar 0) dNoPart (dPart (dC (.int 10))))) (gNm 3) (sAsg (dOp opMod (dCB opInt (dCons (dOp opAdd (dOp opAdd (dOp opMul (dVar 2) (dC (.int 48179))) (dOp opMul (dCB opInt (dCons (dVar 3) dNil)) (dC (.int 29)))) (dC (.int 11))) dNil)) (dC (.int 2147483423))) (gNm 2)))
    (sSeq (sAsg (dIf (dB (dOp opLt (dVar 1) (dCB opLen (dCons (dVar 0) dNil)))) (dCB opInt (dCons (dOp opIx (dVar 0) (dVar 1)) dNil)) (dC (.int 0))) (gNm 3))
    (sSeq (sAsg (dIf (dB (dOp opGe (dCB opAbs (dCons (dVar 3) dNil)) (dOp opPow (dC (.int 10)) (dC (.int 18))))) (dCB opAbs (dCons (dVar 3) dNil)) (dC (.int 0))) (gNm 4))
    (sRet (dLst (dCons (dVar 4) (dCons (dOp opMod (dCB opInt (dCons (dOp opAdd (dOp opAdd (dOp opMul (dVar 2) (dC (.int 61))) (dOp opMul (dOp opMod (dCB opInt (dCons (dVar 3) dNil)) (dC (.int 2147483399))) (dC (.int 6971)))) (dC (.int 5))) dNil)) (dC (.int 2147483423))) (dCons (dC (.int 0)) dNil)))))))))
def F_law_well : DF := run 5 m_law_well
theorem dv_law_well (SB : SysB base) (B : Blt mg) {f : Addr} {fd : FuncData} (F : Fun K "_law_well" "_law_well" s_law_well f fd) : FnG P w K mg base 1 f fd P_law_well (spD K mg 2 F_law_well) := by
  have SC := sc_law_well
  refine fnG_run (k := 0) SB F SC rfl rfl m_law_well fun cdv A fr s H E W C => ?_
  exact (ds_cons (ds_set (i := 2) SC.nd rfl (by first | exact Or.inl rfl | exact Or.inr rfl) (de_op oAdd de_int (de_op oMul de_int (de_var (i := 1))))) (ds_cons (ds_for C.po C.calm (di_any (de_slice oSl (de_var (i := 0)) do_none (do_some de_int))) (dg_name (i := 3) SC.nd rfl (by first | exact Or.inl rfl | exact Or.inr rfl)) (ds_one (ds_set (i := 2) SC.nd rfl (by first | exact Or.inl rfl | exact Or.inr rfl) (de_op oMod (de_callTy cInt (by rfl) B.b_int (by decide +kernel) (da_cons (de_op oAdd (de_op oAdd (de_op oMul (de_var (i := 2)) de_int) (de_op oMul (de_callTy cInt (by rfl) B.b_int (by decide +kernel) (da_cons (de_var (i := 3)) da_nil)) de_int)) de_int) da_nil)) de_int)))) (ds_cons (ds_set (i := 3) SC.nd rfl (by first | exact Or.inl rfl | exact Or.inr rfl) (de_ifExp (dt_cmp oLt (de_var (i := 1)) (de_callB cLen (by rfl) B.b_len (by decide +kernel) (da_cons (de_var (i := 0)) da_nil))) (de_callTy cInt (by rfl) B.b_int (by decide +kernel) (da_cons (de_ix oIx (de_var (i := 0)) (de_var (i := 1))) da_nil)) de_int)) (ds_cons (ds_set (i := 4) SC.nd rfl (by first | exact Or.inl rfl | exact Or.inr rfl) (de_ifExp (dt_cmp oGe (de_callB cAbs (by rfl) B.b_abs (by decide +kernel) (da_cons (de_var (i := 3)) da_nil)) (de_op oPow de_int de_int)) (de_callB cAbs (by rfl) B.b_abs (by decide +kernel) (da_cons (de_var (i := 3)) da_nil)) de_int)) (ds_one (ds_ret (de_lst (da_cons (de_var (i := 4)) (da_cons (de_op oMod (de_callTy cInt (by rfl) B.b_int (by decide +kernel) (da_cons (de_op oAdd (de_op oAdd (de_op oMul (de_var (i := 2)) de_int) (de_op oMul (de_op oMod (de_callTy cInt (by rfl) B.b_int (by decide +kernel) (da_cons (de_var (i := 3)) da_nil)) de_int) de_int)) de_int) da_nil)) de_int) (da_cons de_int da_nil))))))))))
abbrev s_law_draw : Stmt := topS 31
abbrev N_law_draw : List Str := ["_law_well_here", "_law_many", "_law_seed", "_law_digit"]
abbrev P_law_draw : List Str := ["_law_well_here", "_law_many"]
theorem sc_law_draw : FnScope N_law_draw P_law_draw (defScope s_law_draw) := ⟨rfl, rfl, rfl, by decide +kernel, rfl, by decide +kernel, by decide +kernel⟩
def m_law_draw : DS :=
  (sSeq (sIf (dB (dOp opGt (dOp opIx (dVar 0) (dC (.int 0))) (dC (.int 0)))) (sSeq (sAsg (dCB opDivmod (dCons (dOp opIx (dVar 0) (dC (.int 0))) (dCons (dVar 1) dNil))) (gUn 2 (gConsD (gSubD (dVar 0) (dC (.int 0))) (gConsD (gNm 3) gNilD))))
    (sRet (dVar 3))) sNil)
    (sSeq (sAsg (dOp opAdd (dOp opIx (dVar 0) (dC (.int 2))) (dC (.int 1))) (gSubD (dVar 0) (dC (.int 2))))
    (sSeq (sAsg (dOp opMod (dCB opInt (dCons (dOp opAdd (dOp opIx (dVar 0) (dC (.int 1))) (dOp opMul (dC (.int 92821)) (dOp opIx (dVar 0) (dC (.int 2))))) dNil)) (dC (.int 2147483423))) (gNm 2))
    (sSeq (sAsg (dOp opMod (dCB opInt (dCons (dOp opAdd (dOp opMul (dVar 2) (dOp opAdd (dOp opMod (dCB opInt (dCons (dVar 2) dNil)) (dC (.int 9973))) (dC (.int 28657)))) (dOp opMul (dC (.int 19)) (dOp opIx (dVar 0) (dC (.int 2))))) dNil)) (dC (.int 2147483423))) (gSubD (dVar 0) (dC (.int 1))))
    (sRet (dOp opMod (dCB opInt (dCons (dOp opDiv (dOp opIx (dVar 0) (dC (.int 1))) (dC (.int 1024))) dNil)) (dVar 1)))))))
def F_law_draw : DF := run 4 m_law_draw
theorem dv_law_draw (SB : SysB base) (B : Blt mg) {f : Addr} {fd : FuncData} (F : Fun K "_law_draw" "_law_draw" s_law_draw f fd) : FnG P w K mg base 1 f fd P_law_draw (spD K mg 2 F_law_draw) := by
  have SC := sc_law_draw
  refine fnG_run (k := 0) SB F SC rfl rfl m_law_draw fun cdv A fr s H E W C => ?_
  exact (ds_cons (ds_if (dt_cmp oGt (de_ix oIx (de_var (i := 0)) de_int) de_int) (ds_cons (ds_asg (de_callB cDivmod (by rfl) B.b_divmod (by decide +kernel) (da_cons (de_ix oIx (de_var (i := 0)) de_int) (da_cons (de_var (i := 1)) da_nil))) (dg_un (n := 2) C.calm (dgs_cons (dg_sub (W := W) (de_var (i := 0)) de_int) (dgs_cons (dg_name (i := 3) SC.nd rfl (by first | exact Or.inl rfl | exact Or.inr rfl)) dgs_nil)))) (ds_one (ds_ret (de_var (i := 3))))) ds_nil) (ds_cons (ds_asg (de_op oAdd (de_ix oIx (de_var (i := 0)) de_int) de_int) (dg_sub (W := W) (de_var (i := 0)) de_int)) (ds_cons (ds_set (i := 2) SC.nd rfl (by first | exact Or.inl rfl | exact Or.inr rfl) (de_op oMod (de_callTy cInt (by rfl) B.b_int (by decide +kernel) (da_cons (de_op oAdd (de_ix oIx (de_var (i := 0)) de_int) (de_op oMul de_int (de_ix oIx (de_var (i := 0)) de_int))) da_nil)) de_int)) (ds_cons (ds_asg (de_op oMod (de_callTy cInt (by rfl) B.b_int (by decide +kernel) (da_cons (de_op oAdd (de_op oMul (de_var (i := 2)) (de_op oAdd (de_op oMod (de_callTy cInt (by rfl) B.b_int (by decide +kernel) (da_cons (de_var (i := 2)) da_nil)) de_int) de_int)) (de_op oMul de_int (de_ix oIx (de_var (i := 0)) de_int))) da_nil)) de_int) (dg_sub (W := W) (de_var (i := 0)) de_int)) (ds_one (ds_ret (de_op oMod (de_callTy cInt (by rfl) B.b_int (by decide +kernel) (da_cons (de_op oDiv (de_ix oIx (de_var (i := 0)) de_int) de_int) da_nil)) (de_var (i := 1)))))))))
abbrev s_law_common : Stmt := topS 33
abbrev N_law_common : List Str := ["_law_one", "_law_two"]
abbrev P_law_common : List Str := ["_law_one", "_law_two"]
theorem sc_law_common : FnScope N_law_common P_law_common (defScope s_law_common) := ⟨rfl, rfl, rfl, by decide +kernel, rfl, by decide +kernel, by decide +kernel⟩
def m_law_common : DS :=
  (sSeq (sPar 0 1 (dCons (dCB opAbs (dCons (dVar 0) dNil)) (dCons (dCB opAbs (dCons (dVar 1) dNil)) dNil)))
    (sSeq (sWhile (dB (dOp opGt (dVar 1) (dC (.int 0)))) (sPar 0 1 (dCons (dVar 1) (dCons (dOp opMod (dCB opInt (dCons (dVar 0) dNil)) (dVar 1)) dNil))))
    (sRet (dVar 0))))
def F_law_common : DF := run 2 m_law_common
theorem dv_law_common (SB : SysB base) (B : Blt mg) {f : Addr} {fd : FuncData} (F : Fun K "_law_common" "_law_common" s_law_common f fd) : FnG P w K mg base 1 f fd P_law_common (spD K mg 2 F_law_common) := by
  have SC := sc_law_common
  refine fnG_run (k := 0) SB F SC rfl rfl m_law_common fun cdv A fr s H E W C => ?_
  exact (ds_cons (ds_par (i := 0) (j := 1) C.calm SC.nd rfl rfl (by decide) rfl rfl (da_cons (de_callB cAbs (by rfl) B.b_abs (by decide +kernel) (da_cons (de_var (i := 0)) da_nil)) (da_cons (de_callB cAbs (by rfl) B.b_abs (by decide +kernel) (da_cons (de_var (i := 1)) da_nil)) da_nil)) (by rfl)) (ds_cons (ds_while C.po (dt_cmp oGt (de_var (i := 1)) de_int) (ds_one (ds_par (i := 0) (j := 1) C.calm SC.nd rfl rfl (by decide) rfl rfl (da_cons (de_var (i := 1)) (da_cons (de_op oMod (de_callTy cInt (by rfl) B.b_int (by decide +kernel) (da_cons (de_var (i := 0)) da_nil)) (de_var (i := 1))) da_nil)) (by rfl)))) (ds_one (ds_ret (de_var (i := 0))))))
abbrev s_law_cross : Stmt := topS 35
abbrev N_law_cross : List Str := ["_law_one", "_law_two"]
abbrev P_law_cross : List Str := ["_law_one", "_law_two"]
theorem sc_law_cross : FnScope N_law_cross P_law_cross (defScope s_law_cross) := ⟨rfl, rfl, rfl, by decide +kernel, rfl, by decide +kernel, by decide +kernel⟩
def m_law_cross : DS :=
  (sRet (dTup (dCons (dOp opSub (dOp opMul (dOp opIx (dVar 0) (dC (.int 1))) (dOp opIx (dVar 1) (dC (.int 2)))) (dOp opMul (dOp opIx (dVar 0) (dC (.int 2))) (dOp opIx (dVar 1) (dC (.int 1))))) (dCons (dOp opSub (dOp opMul (dOp opIx (dVar 0) (dC (.int 2))) (dOp opIx (dVar 1) (dC (.int 0)))) (dOp opMul (dOp opIx (dVar 0) (dC (.int 0))) (dOp opIx (dVar 1) (dC (.int 2))))) (dCons (dOp opSub (dOp opMul (dOp opIx (dVar 0) (dC (.int 0))) (dOp opIx (dVar 1) (dC (.int 1)))) (dOp opMul (dOp opIx (dVar 0) (dC (.int 1))) (dOp opIx (dVar 1) (dC (.int 0))))) dNil)))))
def F_law_cross : DF := run 2 m_law_cross
theorem dv_law_cross (SB : SysB base) {f : Addr} {fd : FuncData} (F : Fun K "_law_cross" "_law_cross" s_law_cross f fd) : FnG P w K mg base 1 f fd P_law_cross (spD K mg 2 F_law_cross) := by
  have SC := sc_law_cross
  refine fnG_run (k := 0) SB F SC rfl rfl m_law_cross fun cdv A fr s H E W C => ?_
  exact (ds_one (ds_ret (de_tup (da_cons (de_op oSub (de_op oMul (de_ix oIx (de_var (i := 0)) de_int) (de_ix oIx (de_var (i := 1)) de_int)) (de_op oMul (de_ix oIx (de_var (i := 0)) de_int) (de_ix oIx (de_var (i := 1)) de_int))) (da_cons (de_op oSub (de_op oMul (de_ix oIx (de_var (i := 0)) de_int) (de_ix oIx (de_var (i := 1)) de_int)) (de_op oMul (de_ix oIx (de_var (i := 0)) de_int) (de_ix oIx (de_var (i := 1)) de_int))) (da_cons (de_op oSub (de_op oMul (de_ix oIx (de_var (i := 0)) de_int) (de_ix oIx (de_var (i := 1)) de_int)) (de_op oMul (de_ix oIx (de_var (i := 0)) de_int) (de_ix oIx (de_var (i := 1)) de_int))) da_nil))))))
abbrev s_law_dot : Stmt := topS 37
abbrev N_law_dot : List Str := ["_law_one", "_law_two", "_law_k"]
abbrev P_law_dot : List Str := ["_law_one", "_law_two"]
theorem sc_law_dot : FnScope N_law_dot P_law_dot (defScope s_law_dot) := ⟨rfl, rfl, rfl, by decide +kernel, rfl, by decide +kernel, by decide +kernel⟩
def m_law_dot : DS :=
  (sRet (dCB opSum (dCons (dLc (dRng1 (dCons (dCB opLen (dCons (dVar 0) dNil)) dNil)) (gNm 2) dYes (dOp opMul (dOp opIx (dVar 0) (dVar 2)) (dOp opIx (dVar 1) (dVar 2))) [2]) dNil)))
def F_law_dot : DF := run 3 m_law_dot
theorem dv_law_dot (SB : SysB base) (B : Blt mg) {f : Addr} {fd : FuncData} (F : Fun K "_law_dot" "_law_dot" s_law_dot f fd) : FnG P w K mg base 1 f fd P_law_dot (spD K mg 2 F_law_dot) := by
  have SC := sc_law_dot
  refine fnG_run (k := 0) SB F SC rfl rfl m_law_dot fun cdv A fr s H E W C => ?_
  exact (ds_one (ds_ret (de_callB (cSum C.calm) (by rfl) B.b_sum (by decide +kernel) (da_cons (de_lc C.calm SC.nd (di_rng1 (by rfl) B.b_range (da_cons (de_callB cLen (by rfl) B.b_len (by decide +kernel) (da_cons (de_var (i := 0)) da_nil)) da_nil)) (blkOk_by (N := N_law_dot) (sc := defScope s_law_dot) (own := [("_law_k", 2)]) (by decide +kernel)) (fun _ _ _ _ _ => (dgw_name (i := 2) SC.nd rfl (by first | exact Or.inl rfl | exact Or.inr rfl) (by decide))) (fun _ _ _ _ _ => dts_nil) (fun _ _ _ _ _ => (de_op oMul (de_ix oIx (de_var (i := 0)) (de_var (i := 2))) (de_ix oIx (de_var (i := 1)) (de_var (i := 2)))))) da_nil))))
abbrev s_law_minors : Stmt := topS 40
abbrev N_law_minors : List Str := ["_law_one", "_law_two", "_law_three", "_law_found", "_law_i", "_law_part", "_law_a", "_law_b", "_law_c", "_law_k"]
abbrev P_law_minors : List Str := ["_law_one", "_law_two", "_law_three"]
theorem sc_law_minors : FnScope N_law_minors P_law_minors (defScope s_law_minors) := ⟨rfl, rfl, rfl, by decide +kernel, rfl, by decide +kernel, by decide +kernel⟩
def m_law_minors : DS :=
  (sSeq (sAsg (dLst dNil) (gNm 3))
    (sSeq (sFor (dRng1 (dCons (dC (.int 4)) dNil)) (gNm 4) (sSeq (sAsg (dLc (dRng1 (dCons (dC (.int 4)) dNil)) (gNm 9) (dB (dOp opNe (dVar 9) (dVar 4))) (dVar 9) [9]) (gUn 3 (gConsD (gNm 6) (gConsD (gNm 7) (gConsD (gNm 8) gNilD)))))
    (sSeq (sAsg (dOp opMul (dOp opIx (dVar 0) (dVar 6)) (dOp opSub (dOp opMul (dOp opIx (dVar 1) (dVar 7)) (dOp opIx (dVar 2) (dVar 8))) (dOp opMul (dOp opIx (dVar 1) (dVar 8)) (dOp opIx (dVar 2) (dVar 7))))) (gNm 5))
    (sSeq (sAsg (dOp opSub (dVar 5) (dOp opMul (dOp opIx (dVar 0) (dVar 7)) (dOp opSub (dOp opMul (dOp opIx (dVar 1) (dVar 6)) (dOp opIx (dVar 2) (dVar 8))) (dOp opMul (dOp opIx (dVar 1) (dVar 8)) (dOp opIx (dVar 2) (dVar 6)))))) (gNm 5))
    (sSeq (sAsg (dOp opAdd (dVar 5) (dOp opMul (dOp opIx (dVar 0) (dVar 8)) (dOp opSub (dOp opMul (dOp opIx (dVar 1) (dVar 6)) (dOp opIx (dVar 2) (dVar 7))) (dOp opMul (dOp opIx (dVar 1) (dVar 7)) (dOp opIx (dVar 2) (dVar 6)))))) (gNm 5))
    (sDrop (dApp (dVar 3) (dIf (dB (dOp opEq (dOp opMod (dCB opInt (dCons (dVar 4) dNil)) (dC (.int 2))) (dC (.int 0)))) (dVar 5) (dUn opNeg (dVar 5))))))))))
    (sRet (dVar 3))))
def F_law_minors : DF := run 10 m_law_minors
theorem dv_law_minors (SB : SysB base) (B : Blt mg) {f : Addr} {fd : FuncData} (F : Fun K "_law_minors" "_law_minors" s_law_minors f fd) : FnG P w K mg base 1 f fd P_law_minors (spD K mg 3 F_law_minors) := by
  have SC := sc_law_minors
  refine fnG_run (k := 0) SB F SC rfl rfl m_law_minors fun cdv A fr s H E W C => ?_
  exact (ds_cons (ds_set (i := 3) SC.nd rfl (by first | exact Or.inl rfl | exact Or.inr rfl) (de_lst da_nil)) (ds_cons (ds_for C.po C.calm (di_rng1 (by rfl) B.b_range (da_cons de_int da_nil)) (dg_name (i := 4) SC.nd rfl (by first | exact Or.inl rfl | exact Or.inr rfl)) (ds_cons (ds_asg (de_lc C.calm SC.nd (di_rng1 (by rfl) B.b_range (da_cons de_int da_nil)) (blkOk_by (N := N_law_minors) (sc := defScope s_law_minors) (own := [("_law_k", 9)]) (by decide +kernel)) (fun _ _ _ _ _ => (dgw_name (i := 9) SC.nd rfl (by first | exact Or.inl rfl | exact Or.inr rfl) (by decide))) (fun _ _ _ _ _ => dts_one (W := W0) (dt_cmp (oNe (C.blk _ _ _ _ _).sb (C.blk _ _ _ _ _).room) (de_var (i := 9)) (de_var (i := 4)))) (fun _ _ _ _ _ => (de_var (i := 9)))) (dg_un (n := 3) C.calm (dgs_cons (dg_name (i := 6) SC.nd rfl (by first | exact Or.inl rfl | exact Or.inr rfl)) (dgs_cons (dg_name (i := 7) SC.nd rfl (by first | exact Or.inl rfl | exact Or.inr rfl)) (dgs_cons (dg_name (i := 8) SC.nd rfl (by first | exact Or.inl rfl | exact Or.inr rfl)) dgs_nil))))) (ds_cons (ds_set (i := 5) SC.nd rfl (by first | exact Or.inl rfl | exact Or.inr rfl) (de_op oMul (de_ix oIx (de_var (i := 0)) (de_var (i := 6))) (de_op oSub (de_op oMul (de_ix oIx (de_var (i := 1)) (de_var (i := 7))) (de_ix oIx (de_var (i := 2)) (de_var (i := 8)))) (de_op oMul (de_ix oIx (de_var (i := 1)) (de_var (i := 8))) (de_ix oIx (de_var (i := 2)) (de_var (i := 7))))))) (ds_cons (ds_set (i := 5) SC.nd rfl (by first | exact Or.inl rfl | exact Or.inr rfl) (de_op oSub (de_var (i := 5)) (de_op oMul (de_ix oIx (de_var (i := 0)) (de_var (i := 7))) (de_op oSub (de_op oMul (de_ix oIx (de_var (i := 1)) (de_var (i := 6))) (de_ix oIx (de_var (i := 2)) (de_var (i := 8)))) (de_op oMul (de_ix oIx (de_var (i := 1)) (de_var (i := 8))) (de_ix oIx (de_var (i := 2)) (de_var (i := 6)))))))) (ds_cons (ds_set (i := 5) SC.nd rfl (by first | exact Or.inl rfl | exact Or.inr rfl) (de_op oAdd (de_var (i := 5)) (de_op oMul (de_ix oIx (de_var (i := 0)) (de_var (i := 8))) (de_op oSub (de_op oMul (de_ix oIx (de_var (i := 1)) (de_var (i := 6))) (de_ix oIx (de_var (i := 2)) (de_var (i := 7)))) (de_op oMul (de_ix oIx (de_var (i := 1)) (de_var (i := 7))) (de_ix oIx (de_var (i := 2)) (de_var (i := 6)))))))) (ds_one (ds_expr (de_append (de_var (i := 3)) (de_ifExp (dt_cmp (oEq C.sb C.room) (de_op oMod (de_callTy cInt (by rfl) B.b_int (by decide +kernel) (da_cons (de_var (i := 4)) da_nil)) de_int) de_int) (de_var (i := 5)) (de_un oNeg (de_var (i := 5)))))))))))) (ds_one (ds_ret (de_var (i := 3))))))
abbrev s_law_units : Stmt := topS 41
abbrev N_law_units : List Str := []
abbrev P_law_units : List Str := []
theorem sc_law_units : FnScope N_law_units P_law_units (defScope s_law_units) := ⟨rfl, rfl, rfl, by decide +kernel, rfl, by decide +kernel, by decide +kernel⟩
def m_law_units : DS :=
  (sRet (dTup (dCons (dTup (dCons (dC (.int 1)) (dCons (dC (.int 0)) (dCons (dC (.int 0)) (dCons (dC (.int 0)) dNil))))) (dCons (dTup (dCons (dC (.int 0)) (dCons (dC (.int 1)) (dCons (dC (.int 0)) (dCons (dC (.int 0)) dNil))))) (dCons (dTup (dCons (dC (.int 0)) (dCons (dC (.int 0)) (dCons (dC (.int 1)) (dCons (dC (.int 0)) dNil))))) (dCons (dTup (dCons (dC (.int 0)) (dCons (dC (.int 0)) (dCons (dC (.int 0)) (dCons (dC (.int 1)) dNil))))) dNil))))))
def F_law_units : DF := run 0 m_law_units
theorem dv_law_units (SB : SysB base) {f : Addr} {fd : FuncData} (F : Fun K "_law_units" "_law_units" s_law_units f fd) : FnG P w K mg base 1 f fd P_law_units (spD K mg 0 F_law_units) := by
  have SC := sc_law_units
  refine fnG_run (k := 0) SB F SC rfl rfl m_law_units fun cdv A fr s H E W C => ?_
  exact (ds_one (ds_ret (de_tup (da_cons (de_tup (da_cons de_int (da_cons de_int (da_cons de_int (da_cons de_int da_nil))))) (da_cons (de_tup (da_cons de_int (da_cons de_int (da_cons de_int (da_cons de_int da_nil))))) (da_cons (de_tup (da_cons de_int (da_cons de_int (da_cons de_int (da_cons de_int da_nil))))) (da_cons (de_tup (da_cons de_int (da_cons de_int (da_cons de_int (da_cons de_int da_nil))))) da_nil)))))))
abbrev s_reduced : Stmt := topS 10
abbrev N_reduced : List Str := ["numbers", "divisor", "number"]
abbrev P_reduced : List Str := ["numbers"]
theorem sc_reduced : FnScope N_reduced P_reduced (defScope s_reduced) := ⟨rfl, rfl, rfl, by decide +kernel, rfl, by decide +kernel, by decide +kernel⟩
def m_reduced : DS :=
  (sSeq (sAsg (dCall 1 F_common_divisor (dCons (dVar 0) dNil)) (gNm 1))
    (sSeq (sIf (dB (dOp opLt (dCall 1 F_first_not_zero (dCons (dVar 0) dNil)) (dC (.int 0)))) (sAsg (dUn opNeg (dVar 1)) (gNm 1)) sNil)
    (sRet (dCB opTuple (dCons (dLc (dSrc (dVar 0)) (gNm 2) dYes (dOp opDiv (dVar 2) (dVar 1)) [2]) dNil)))))
def F_reduced : DF := run 3 m_reduced
theorem dv_reduced (SB : SysB base) (D_common_divisor : Def P w K mg base "common_divisor" s_common_divisor 1 1 P_common_divisor F_common_divisor) (D_first_not_zero : Def P w K mg base "first_not_zero" s_first_not_zero 1 1 P_first_not_zero F_first_not_zero) (B : Blt mg) {f : Addr} {fd : FuncData} (F : Fun K "reduced" "reduced" s_reduced f fd) : FnG P w K mg base 2 f fd P_reduced (spD K mg 1 F_reduced) := by
  have SC := sc_reduced
  refine fnG_run (k := 1) SB F SC rfl rfl m_reduced fun cdv A fr s H E W C => ?_
  exact (ds_cons (ds_set (i := 1) SC.nd rfl (by first | exact Or.inl rfl | exact Or.inr rfl) (de_call C.toCtx (D_common_divisor.go.lift (by decide)) D_common_divisor.g D_common_divisor.kp D_common_divisor.bd (da_cons (de_var (i := 0)) da_nil))) (ds_cons (ds_if (dt_cmp oLt (de_call C.toCtx (D_first_not_zero.go.lift (by decide)) D_first_not_zero.g D_first_not_zero.kp D_first_not_zero.bd (da_cons (de_var (i := 0)) da_nil)) de_int) (ds_one (ds_set (i := 1) SC.nd rfl (by first | exact Or.inl rfl | exact Or.inr rfl) (de_un oNeg (de_var (i := 1))))) ds_nil) (ds_one (ds_ret (de_callTy cTuple (by rfl) B.b_tuple (by decide +kernel) (da_cons (de_lc C.calm SC.nd (di_any (de_var (i := 0))) (blkOk_by (N := N_reduced) (sc := defScope s_reduced) (own := [("number", 2)]) (by decide +kernel)) (fun _ _ _ _ _ => (dgw_name (i := 2) SC.nd rfl (by first | exact Or.inl rfl | exact Or.inr rfl) (by decide))) (fun _ _ _ _ _ => dts_nil) (fun _ _ _ _ _ => (de_op oDiv (de_var (i := 2)) (de_var (i := 1))))) da_nil))))))
abbrev s_is_reduced_row : Stmt := topS 11
abbrev N_is_reduced_row : List Str := ["value", "length", "number"]
abbrev P_is_reduced_row : List Str := ["value", "length"]
theorem sc_is_reduced_row : FnScope N_is_reduced_row P_is_reduced_row (defScope s_is_reduced_row) := ⟨rfl, rfl, rfl, by decide +kernel, rfl, by decide +kernel, by decide +kernel⟩
def m_is_reduced_row : DS :=
  (sSeq (sIf (dOrT (dNotT (dB (dCB opIsi (dCons (dVar 0) (dCons (dC (.ty "tuple")) dNil))))) (dB (dOp opNe (dCB opLen (dCons (dVar 0) dNil)) (dVar 1)))) (sRet (dC (.bl false))) sNil)
    (sSeq (sIf (dNotT (dB (dCB opAll (dCons (dLc (dSrc (dVar 0)) (gNm 2) dYes (dCall 1 F_is_whole (dCons (dVar 2) dNil)) [2]) dNil)))) (sRet (dC (.bl false))) sNil)
    (sRet (dAnd (dOp opEq (dCall 1 F_common_divisor (dCons (dVar 0) dNil)) (dC (.int 1))) (dOp opGt (dCall 1 F_first_not_zero (dCons (dVar 0) dNil)) (dC (.int 0)))))))
def F_is_reduced_row : DF := run 3 m_is_reduced_row
theorem dv_is_reduced_row (SB : SysB base) (D_is_whole : Def P w K mg base "is_whole" s_is_whole 1 1 P_is_whole F_is_whole) (D_common_divisor : Def P w K mg base "common_divisor" s_common_divisor 1 1 P_common_divisor F_common_divisor) (D_first_not_zero : Def P w K mg base "first_not_zero" s_first_not_zero 1 1 P_first_not_zero F_first_not_zero) (B : Blt mg) {f : Addr} {fd : FuncData} (F : Fun K "is_reduced_row" "is_reduced_row" s_is_reduced_row f fd) : FnG P w K mg base 2 f fd P_is_reduced_row (spD K mg 2 F_is_reduced_row) := by
  have SC := sc_is_reduced_row
  refine fnG_run (k := 1) SB F SC rfl rfl m_is_reduced_row fun cdv A fr s H E W C => ?_
  exact (ds_cons (ds_if (dt_w (dw_or (dt_not (dt_val (de_callB cIsi (by rfl) B.b_isinstance (by decide +kernel) (da_cons (de_var (i := 0)) (da_cons (de_c (pe_bltn (by rfl) B.b_tuple (by decide +kernel) (show RelV (V.ty "tuple") _ from rfl)) fun _ _ => .ty _) da_nil))))) (dw_or1 (dt_cmp (oNe C.sb C.room) (de_callB cLen (by rfl) B.b_len (by decide +kernel) (da_cons (de_var (i := 0)) da_nil)) (de_var (i := 1)))))) (ds_one (ds_ret de_bl)) ds_nil) (ds_cons (ds_if (dt_not (dt_val (de_callB (cAll C.calm) (by rfl) B.b_all (by decide +kernel) (da_cons (de_lc C.calm SC.nd (di_any (de_var (i := 0))) (blkOk_by (N := N_is_reduced_row) (sc := defScope s_is_reduced_row) (own := [("number", 2)]) (by decide +kernel)) (fun _ _ _ _ _ => (dgw_name (i := 2) SC.nd rfl (by first | exact Or.inl rfl | exact Or.inr rfl) (by decide))) (fun _ _ _ _ _ => dts_nil) (fun _ _ _ _ _ => (de_call (C.blk _ _ _ _ _).toCtx (D_is_whole.go.lift (by decide)) D_is_whole.g D_is_whole.kp D_is_whole.bd (da_cons (de_var (i := 2)) da_nil)))) da_nil)))) (ds_one (ds_ret de_bl)) ds_nil) (ds_one (ds_ret (de_and (de_cmp (oEq C.sb C.room) (de_call C.toCtx (D_common_divisor.go.lift (by decide)) D_common_divisor.g D_common_divisor.kp D_common_divisor.bd (da_cons (de_var (i := 0)) da_nil)) de_int) (de_one (de_cmp oGt (de_call C.toCtx (D_first_not_zero.go.lift (by decide)) D_first_not_zero.g D_first_not_zero.kp D_first_not_zero.bd (da_cons (de_var (i := 0)) da_nil)) de_int)))))))
abbrev s_row_product : Stmt := topS 23
abbrev N_row_product : List Str := ["row", "other"]
abbrev P_row_product : List Str := ["row", "other"]
theorem sc_row_product : FnScope N_row_product P_row_product (defScope s_row_product) := ⟨rfl, rfl, rfl, by decide +kernel, rfl, by decide +kernel, by decide +kernel⟩
def m_row_product : DS :=
  (sRet (dCall 2 F_dot (dCons (dVar 0) (dCons (dCall 1 F_swapped (dCons (dVar 1) dNil)) dNil))))
def F_row_product : DF := run 2 m_row_product
theorem dv_row_product (SB : SysB base) (D_dot : Def P w K mg base "dot" s_dot 1 2 P_dot F_dot) (D_swapped : Def P w K mg base "swapped" s_swapped 1 1 P_swapped F_swapped) {f : Addr} {fd : FuncData} (F : Fun K "row_product" "row_product" s_row_product f fd) : FnG P w K mg base 2 f fd P_row_product (spD K mg 2 F_row_product) := by
  have SC := sc_row_product
  refine fnG_run (k := 1) SB F SC rfl rfl m_row_product fun cdv A fr s H E W C => ?_
  exact (ds_one (ds_ret (de_call C.toCtx (D_dot.go.lift (by decide)) D_dot.g D_dot.kp D_dot.bd (da_cons (de_var (i := 0)) (da_cons (de_call C.toCtx (D_swapped.go.lift (by decide)) D_swapped.g D_swapped.kp D_swapped.bd (da_cons (de_var (i := 1)) da_nil)) da_nil)))))
abbrev s_plane_row : Stmt := topS 24
abbrev N_plane_row : List Str := ["rod", "point", "slope", "direction", "moment"]
abbrev P_plane_row : List Str := ["rod", "point"]
theorem sc_plane_row : FnScope N_plane_row P_plane_row (defScope s_plane_row) := ⟨rfl, rfl, rfl, by decide +kernel, rfl, by decide +kernel, by decide +kernel⟩
def m_plane_row : DS :=
  (sSeq (sPar 3 4 (dCons (dSl opSl (dVar 0) dNoPart (dPart (dC (.int 3)))) (dCons (dSl opSl (dVar 0) (dPart (dC (.int 3))) dNoPart) dNil)))
    (sSeq (sAsg (dCall 2 F_plus (dCons (dCall 2 F_times (dCons (dOp opIx (dVar 1) (dC (.int 0))) (dCons (dVar 4) dNil))) (dCons (dCall 2 F_cross (dCons (dVar 3) (dCons (dSl opSl (dVar 1) (dPart (dC (.int 1))) dNoPart) dNil))) dNil))) (gNm 2))
    (sRet (dOp opAdd (dTup (dCons (dUn opNeg (dCall 2 F_dot (dCons (dVar 4) (dCons (dSl opSl (dVar 1) (dPart (dC (.int 1))) dNoPart) dNil)))) dNil)) (dVar 2)))))
def F_plane_row : DF := run 5 m_plane_row
theorem dv_plane_row (SB : SysB base) (D_plus : Def P w K mg base "plus" s_plus 1 2 P_plus F_plus) (D_times : Def P w K mg base "times" s_times 1 2 P_times F_times) (D_cross : Def P w K mg base "cross" s_cross 1 2 P_cross F_cross) (D_dot : Def P w K mg base "dot" s_dot 1 2 P_dot F_dot) {f : Addr} {fd : FuncData} (F : Fun K "plane_row" "plane_row" s_plane_row f fd) : FnG P w K mg base 2 f fd P_plane_row (spD K mg 2 F_plane_row) := by
  have SC := sc_plane_row
  refine fnG_run (k := 1) SB F SC rfl rfl m_plane_row fun cdv A fr s H E W C => ?_
  exact (ds_cons (ds_par (i := 3) (j := 4) C.calm SC.nd rfl rfl (by decide) rfl rfl (da_cons (de_slice oSl (de_var (i := 0)) do_none (do_some de_int)) (da_cons (de_slice oSl (de_var (i := 0)) (do_some de_int) do_none) da_nil)) (by rfl)) (ds_cons (ds_set (i := 2) SC.nd rfl (by first | exact Or.inl rfl | exact Or.inr rfl) (de_call C.toCtx (D_plus.go.lift (by decide)) D_plus.g D_plus.kp D_plus.bd (da_cons (de_call C.toCtx (D_times.go.lift (by decide)) D_times.g D_times.kp D_times.bd (da_cons (de_ix oIx (de_var (i := 1)) de_int) (da_cons (de_var (i := 4)) da_nil))) (da_cons (de_call C.toCtx (D_cross.go.lift (by decide)) D_cross.g D_cross.kp D_cross.bd (da_cons (de_var (i := 3)) (da_cons (de_slice oSl (de_var (i := 1)) (do_some de_int) do_none) da_nil))) da_nil)))) (ds_one (ds_ret (de_op oAdd (de_tup (da_cons (de_un oNeg (de_call C.toCtx (D_dot.go.lift (by decide)) D_dot.g D_dot.kp D_dot.bd (da_cons (de_var (i := 4)) (da_cons (de_slice oSl (de_var (i := 1)) (do_some de_int) do_none) da_nil)))) da_nil)) (de_var (i := 2)))))))
abbrev s_point_row : Stmt := topS 25
abbrev N_point_row : List Str := ["rod", "plane", "place", "direction", "moment"]
abbrev P_point_row : List Str := ["rod", "plane"]
theorem sc_point_row : FnScope N_point_row P_point_row (defScope s_point_row) := ⟨rfl, rfl, rfl, by decide +kernel, rfl, by decide +kernel, by decide +kernel⟩
def m_point_row : DS :=
  (sSeq (sPar 3 4 (dCons (dSl opSl (dVar 0) dNoPart (dPart (dC (.int 3)))) (dCons (dSl opSl (dVar 0) (dPart (dC (.int 3))) dNoPart) dNil)))
    (sSeq (sAsg (dCall 2 F_minus (dCons (dCall 2 F_cross (dCons (dSl opSl (dVar 1) (dPart (dC (.int 1))) dNoPart) (dCons (dVar 4) dNil))) (dCons (dCall 2 F_times (dCons (dOp opIx (dVar 1) (dC (.int 0))) (dCons (dVar 3) dNil))) dNil))) (gNm 2))
    (sRet (dOp opAdd (dTup (dCons (dCall 2 F_dot (dCons (dSl opSl (dVar 1) (dPart (dC (.int 1))) dNoPart) (dCons (dVar 3) dNil))) dNil)) (dVar 2)))))
def F_point_row : DF := run 5 m_point_row
theorem dv_point_row (SB : SysB base) (D_minus : Def P w K mg base "minus" s_minus 1 2 P_minus F_minus) (D_cross : Def P w K mg base "cross" s_cross 1 2 P_cross F_cross) (D_times : Def P w K mg base "times" s_times 1 2 P_times F_times) (D_dot : Def P w K mg base "dot" s_dot 1 2 P_dot F_dot) {f : Addr} {fd : FuncData} (F : Fun K "point_row" "point_row" s_point_row f fd) : FnG P w K mg base 2 f fd P_point_row (spD K mg 2 F_point_row) := by
  have SC := sc_point_row
  refine fnG_run (k := 1) SB F SC rfl rfl m_point_row fun cdv A fr s H E W C => ?_
  exact (ds_cons (ds_par (i := 3) (j := 4) C.calm SC.nd rfl rfl (by decide) rfl rfl (da_cons (de_slice oSl (de_var (i := 0)) do_none (do_some de_int)) (da_cons (de_slice oSl (de_var (i := 0)) (do_some de_int) do_none) da_nil)) (by rfl)) (ds_cons (ds_set (i := 2) SC.nd rfl (by first | exact Or.inl rfl | exact Or.inr rfl) (de_call C.toCtx (D_minus.go.lift (by decide)) D_minus.g D_minus.kp D_minus.bd (da_cons (de_call C.toCtx (D_cross.go.lift (by decide)) D_cross.g D_cross.kp D_cross.bd (da_cons (de_slice oSl (de_var (i := 1)) (do_some de_int) do_none) (da_cons (de_var (i := 4)) da_nil))) (da_cons (de_call C.toCtx (D_times.go.lift (by decide)) D_times.g D_times.kp D_times.bd (da_cons (de_ix oIx (de_var (i := 1)) de_int) (da_cons (de_var (i := 3)) da_nil))) da_nil)))) (ds_one (ds_ret (de_op oAdd (de_tup (da_cons (de_call C.toCtx (D_dot.go.lift (by decide)) D_dot.g D_dot.kp D_dot.bd (da_cons (de_slice oSl (de_var (i := 1)) (do_some de_int) do_none) (da_cons (de_var (i := 3)) da_nil))) da_nil)) (de_var (i := 2)))))))
abbrev s_law_row : Stmt := topS 32
abbrev N_law_row : List Str := ["_law_well_here", "_law_many", "_law_most", "_law_found", "_law_k"]
abbrev P_law_row : List Str := ["_law_well_here", "_law_many", "_law_most"]
theorem sc_law_row : FnScope N_law_row P_law_row (defScope s_law_row) := ⟨rfl, rfl, rfl, by decide +kernel, rfl, by decide +kernel, by decide +kernel⟩
def m_law_row : DS :=
  (sSeq (sAsg (dLst dNil) (gNm 3))
    (sSeq (sFor (dRng1 (dCons (dVar 1) dNil)) (gNm 4) (sDrop (dApp (dVar 3) (dOp opSub (dCall 2 F_law_draw (dCons (dVar 0) (dCons (dOp opAdd (dOp opMul (dC (.int 2)) (dVar 2)) (dC (.int 1))) dNil))) (dVar 2)))))
    (sRet (dVar 3))))
def F_law_row : DF := run 5 m_law_row
theorem dv_law_row (SB : SysB base) (D_law_draw : Def P w K mg base "_law_draw" s_law_draw 1 2 P_law_draw F_law_draw) (B : Blt mg) {f : Addr} {fd : FuncData} (F : Fun K "_law_row" "_law_row" s_law_row f fd) : FnG P w K mg base 2 f fd P_law_row (spD K mg 3 F_law_row) := by
  have SC := sc_law_row
  refine fnG_run (k := 1) SB F SC rfl rfl m_law_row fun cdv A fr s H E W C => ?_
  exact (ds_cons (ds_set (i := 3) SC.nd rfl (by first | exact Or.inl rfl | exact Or.inr rfl) (de_lst da_nil)) (ds_cons (ds_for C.po C.calm (di_rng1 (by rfl) B.b_range (da_cons (de_var (i := 1)) da_nil)) (dg_name (i := 4) SC.nd rfl (by first | exact Or.inl rfl | exact Or.inr rfl)) (ds_one (ds_expr (de_append (de_var (i := 3)) (de_op oSub (de_call C.toCtx (D_law_draw.go.lift (by decide)) D_law_draw.g D_law_draw.kp D_law_draw.bd (da_cons (de_var (i := 0)) (da_cons (de_op oAdd (de_op oMul de_int (de_var (i := 2))) de_int) da_nil))) (de_var (i := 2))))))) (ds_one (ds_ret (de_var (i := 3))))))
abbrev s_law_reduced : Stmt := topS 34
abbrev N_law_reduced : List Str := ["_law_row_here", "_law_each", "_law_sign", "_law_common_here", "_law_lead"]
abbrev P_law_reduced : List Str := ["_law_row_here"]
theorem sc_law_reduced : FnScope N_law_reduced P_law_reduced (defScope s_law_reduced) := ⟨rfl, rfl, rfl, by decide +kernel, rfl, by decide +kernel, by decide +kernel⟩
def m_law_reduced : DS :=
  (sSeq (sAsg (dTup (dCons (dC (.int 0)) (dCons (dC (.int 0)) dNil))) (gUn 2 (gConsD (gNm 3) (gConsD (gNm 4) gNilD))))
    (sSeq (sFor (dSrc (dVar 0)) (gNm 1) (sSeq (sAsg (dCall 2 F_law_common (dCons (dVar 3) (dCons (dVar 1) dNil))) (gNm 3))
    (sAsg (dIf (dB (dOp opEq (dVar 4) (dC (.int 0)))) (dVar 1) (dVar 4)) (gNm 4))))
    (sSeq (sIf (dB (dOp opEq (dVar 3) (dC (.int 0)))) (sRet (dCB opTuple (dCons (dVar 0) dNil))) sNil)
    (sSeq (sAsg (dIf (dB (dOp opLt (dVar 4) (dC (.int 0)))) (dUn opNeg (dC (.int 1))) (dC (.int 1))) (gNm 2))
    (sRet (dCB opTuple (dCons (dLc (dSrc (dVar 0)) (gNm 1) dYes (dOp opDiv (dOp opMul (dVar 2) (dVar 1)) (dVar 3)) [1]) dNil)))))))
def F_law_reduced : DF := run 5 m_law_reduced
theorem dv_law_reduced (SB : SysB base) (D_law_common : Def P w K mg base "_law_common" s_law_common 1 2 P_law_common F_law_common) (B : Blt mg) {f : Addr} {fd : FuncData} (F : Fun K "_law_reduced" "_law_reduced" s_law_reduced f fd) : FnG P w K mg base 2 f fd P_law_reduced (spD K mg 1 F_law_reduced) := by
  have SC := sc_law_reduced
  refine fnG_run (k := 1) SB F SC rfl rfl m_law_reduced fun cdv A fr s H E W C => ?_
  exact (ds_cons (ds_asg (de_tup (da_cons de_int (da_cons de_int da_nil))) (dg_un (n := 2) C.calm (dgs_cons (dg_name (i := 3) SC.nd rfl (by first | exact Or.inl rfl | exact Or.inr rfl)) (dgs_cons (dg_name (i := 4) SC.nd rfl (by first | exact Or.inl rfl | exact Or.inr rfl)) dgs_nil)))) (ds_cons (ds_for C.po C.calm (di_any (de_var (i := 0))) (dg_name (i := 1) SC.nd rfl (by first | exact Or.inl rfl | exact Or.inr rfl)) (ds_cons (ds_set (i := 3) SC.nd rfl (by first | exact Or.inl rfl | exact Or.inr rfl) (de_call C.toCtx (D_law_common.go.lift (by decide)) D_law_common.g D_law_common.kp D_law_common.bd (da_cons (de_var (i := 3)) (da_cons (de_var (i := 1)) da_nil)))) (ds_one (ds_set (i := 4) SC.nd rfl (by first | exact Or.inl rfl | exact Or.inr rfl) (de_ifExp (dt_cmp (oEq C.sb C.room) (de_var (i := 4)) de_int) (de_var (i := 1)) (de_var (i := 4))))))) (ds_cons (ds_if (dt_cmp (oEq C.sb C.room) (de_var (i := 3)) de_int) (ds_one (ds_ret (de_callTy cTuple (by rfl) B.b_tuple (by decide +kernel) (da_cons (de_var (i := 0)) da_nil)))) ds_nil) (ds_cons (ds_set (i := 2) SC.nd rfl (by first | exact Or.inl rfl | exact Or.inr rfl) (de_ifExp (dt_cmp oLt (de_var (i := 4)) de_int) (de_un oNeg de_int) de_int)) (ds_one (ds_ret (de_callTy cTuple (by rfl) B.b_tuple (by decide +kernel) (da_cons (de_lc C.calm SC.nd (di_any (de_var (i := 0))) (blkOk_by (N := N_law_reduced) (sc := defScope s_law_reduced) (own := [("_law_each", 1)]) (by decide +kernel)) (fun _ _ _ _ _ => (dgw_name (i := 1) SC.nd rfl (by first | exact Or.inl rfl | exact Or.inr rfl) (by decide))) (fun _ _ _ _ _ => dts_nil) (fun _ _ _ _ _ => (de_op oDiv (de_op oMul (de_var (i := 2)) (de_var (i := 1))) (de_var (i := 3))))) da_nil))))))))
abbrev s_law_line : Stmt := topS 36
abbrev N_law_line : List Str := ["_law_one", "_law_two", "_law_ahead", "_law_k"]
abbrev P_law_line : List Str := ["_law_one", "_law_two"]
theorem sc_law_line : FnScope N_law_line P_law_line (defScope s_law_line) := ⟨rfl, rfl, rfl, by decide +kernel, rfl, by decide +kernel, by decide +kernel⟩
def m_law_line : DS :=
  (sSeq (sAsg (dCB opTuple (dCons (dLc (dRng2 (dCons (dC (.int 1)) (dCons (dC (.int 4)) dNil))) (gNm 3) dYes (dOp opSub (dOp opMul (dOp opIx (dVar 0) (dC (.int 0))) (dOp opIx (dVar 1) (dVar 3))) (dOp opMul (dOp opIx (dVar 1) (dC (.int 0))) (dOp opIx (dVar 0) (dVar 3)))) [3]) dNil)) (gNm 2))
    (sRet (dOp opAdd (dVar 2) (dCall 2 F_law_cross (dCons (dSl opSl (dVar 0) (dPart (dC (.int 1))) dNoPart) (dCons (dSl opSl (dVar 1) (dPart (dC (.int 1))) dNoPart) dNil))))))
def F_law_line : DF := run 4 m_law_line
theorem dv_law_line (SB : SysB base) (D_law_cross : Def P w K mg base "_law_cross" s_law_cross 1 2 P_law_cross F_law_cross) (B : Blt mg) {f : Addr} {fd : FuncData} (F : Fun K "_law_line" "_law_line" s_law_line f fd) : FnG P w K mg base 2 f fd P_law_line (spD K mg 2 F_law_line) := by
  have SC := sc_law_line
  refine fnG_run (k := 1) SB F SC rfl rfl m_law_line fun cdv A fr s H E W C => ?_
  exact (ds_cons (ds_set (i := 2) SC.nd rfl (by first | exact Or.inl rfl | exact Or.inr rfl) (de_callTy cTuple (by rfl) B.b_tuple (by decide +kernel) (da_cons (de_lc C.calm SC.nd (di_rng2 (by rfl) B.b_range (da_cons de_int (da_cons de_int da_nil))) (blkOk_by (N := N_law_line) (sc := defScope s_law_line) (own := [("_law_k", 3)]) (by decide +kernel)) (fun _ _ _ _ _ => (dgw_name (i := 3) SC.nd rfl (by first | exact Or.inl rfl | exact Or.inr rfl) (by decide))) (fun _ _ _ _ _ => dts_nil) (fun _ _ _ _ _ => (de_op oSub (de_op oMul (de_ix oIx (de_var (i := 0)) de_int) (de_ix oIx (de_var (i := 1)) (de_var (i := 3)))) (de_op oMul (de_ix oIx (de_var (i := 1)) de_int) (de_ix oIx (de_var (i := 0)) (de_var (i := 3))))))) da_nil))) (ds_one (ds_ret (de_op oAdd (de_var (i := 2)) (de_call C.toCtx (D_law_cross.go.lift (by decide)) D_law_cross.g D_law_cross.kp D_law_cross.bd (da_cons (de_slice oSl (de_var (i := 0)) (do_some de_int) do_none) (da_cons (de_slice oSl (de_var (i := 1)) (do_some de_int) do_none) da_nil)))))))
abbrev s_law_cut_at : Stmt := topS 48
abbrev N_law_cut_at : List Str := ["_law_one", "_law_two", "_law_sheet", "_law_a", "_law_b", "_law_k"]
abbrev P_law_cut_at : List Str := ["_law_one", "_law_two", "_law_sheet"]
theorem sc_law_cut_at : FnScope N_law_cut_at P_law_cut_at (defScope s_law_cut_at) := ⟨rfl, rfl, rfl, by decide +kernel, rfl, by decide +kernel, by decide +kernel⟩
def m_law_cut_at : DS :=
  (sSeq (sAsg (dTup (dCons (dCall 2 F_law_dot (dCons (dVar 0) (dCons (dVar 2) dNil))) (dCons (dCall 2 F_law_dot (dCons (dVar 1) (dCons (dVar 2) dNil))) dNil))) (gUn 2 (gConsD (gNm 3) (gConsD (gNm 4) gNilD))))
    (sRet (dLc (dRng1 (dCons (dC (.int 4)) dNil)) (gNm 5) dYes (dOp opSub (dOp opMul (dVar 4) (dOp opIx (dVar 0) (dVar 5))) (dOp opMul (dVar 3) (dOp opIx (dVar 1) (dVar 5)))) [5])))
def F_law_cut_at : DF := run 6 m_law_cut_at
theorem dv_law_cut_at (SB : SysB base) (D_law_dot : Def P w K mg base "_law_dot" s_law_dot 1 2 P_law_dot F_law_dot) (B : Blt mg) {f : Addr} {fd : FuncData} (F : Fun K "_law_cut_at" "_law_cut_at" s_law_cut_at f fd) : FnG P w K mg base 2 f fd P_law_cut_at (spD K mg 3 F_law_cut_at) := by
  have SC := sc_law_cut_at
  refine fnG_run (k := 1) SB F SC rfl rfl m_law_cut_at fun cdv A fr s H E W C => ?_
  exact (ds_cons (ds_asg (de_tup (da_cons (de_call C.toCtx (D_law_dot.go.lift (by decide)) D_law_dot.g D_law_dot.kp D_law_dot.bd (da_cons (de_var (i := 0)) (da_cons (de_var (i := 2)) da_nil))) (da_cons (de_call C.toCtx (D_law_dot.go.lift (by decide)) D_law_dot.g D_law_dot.kp D_law_dot.bd (da_cons (de_var (i := 1)) (da_cons (de_var (i := 2)) da_nil))) da_nil))) (dg_un (n := 2) C.calm (dgs_cons (dg_name (i := 3) SC.nd rfl (by first | exact Or.inl rfl | exact Or.inr rfl)) (dgs_cons (dg_name (i := 4) SC.nd rfl (by first | exact Or.inl rfl | exact Or.inr rfl)) dgs_nil)))) (ds_one (ds_ret (de_lc C.calm SC.nd (di_rng1 (by rfl) B.b_range (da_cons de_int da_nil)) (blkOk_by (N := N_law_cut_at) (sc := defScope s_law_cut_at) (own := [("_law_k", 5)]) (by decide +kernel)) (fun _ _ _ _ _ => (dgw_name (i := 5) SC.nd rfl (by first | exact Or.inl rfl | exact Or.inr rfl) (by decide))) (fun _ _ _ _ _ => dts_nil) (fun _ _ _ _ _ => (de_op oSub (de_op oMul (de_var (i := 4)) (de_ix oIx (de_var (i := 0)) (de_var (i := 5)))) (de_op oMul (de_var (i := 3)) (de_ix oIx (de_var (i := 1)) (de_var (i := 5))))))))))
abbrev s_is_rod : Stmt := topS 19
abbrev N_is_rod : List Str := ["value"]
abbrev P_is_rod : List Str := ["value"]
theorem sc_is_rod : FnScope N_is_rod P_is_rod (defScope s_is_rod) := ⟨rfl, rfl, rfl, by decide +kernel, rfl, by decide +kernel, by decide +kernel⟩
def m_is_rod : DS :=
  (sRet (dAnd (dCall 2 F_is_reduced_row (dCons (dVar 0) (dCons (dC (.int 6)) dNil))) (dOp opEq (dCall 2 F_dot (dCons (dSl opSl (dVar 0) dNoPart (dPart (dC (.int 3)))) (dCons (dSl opSl (dVar 0) (dPart (dC (.int 3))) dNoPart) dNil))) (dC (.int 0)))))
def F_is_rod : DF := run 1 m_is_rod
theorem dv_is_rod (SB : SysB base) (D_is_reduced_row : Def P w K mg base "is_reduced_row" s_is_reduced_row 2 2 P_is_reduced_row F_is_reduced_row) (D_dot : Def P w K mg base "dot" s_dot 1 2 P_dot F_dot) {f : Addr} {fd : FuncData} (F : Fun K "is_rod" "is_rod" s_is_rod f fd) : FnG P w K mg base 3 f fd P_is_rod (spD K mg 1 F_is_rod) := by
  have SC := sc_is_rod
  refine fnG_run (k := 2) SB F SC rfl rfl m_is_rod fun cdv A fr s H E W C => ?_
  exact (ds_one (ds_ret (de_and (de_call C.toCtx (D_is_reduced_row.go.lift (by decide)) D_is_reduced_row.g D_is_reduced_row.kp D_is_reduced_row.bd (da_cons (de_var (i := 0)) (da_cons de_int da_nil))) (de_one (de_cmp (oEq C.sb C.room) (de_call C.toCtx (D_dot.go.lift (by decide)) D_dot.g D_dot.kp D_dot.bd (da_cons (de_slice oSl (de_var (i := 0)) do_none (do_some de_int)) (da_cons (de_slice oSl (de_var (i := 0)) (do_some de_int) do_none) da_nil))) de_int)))))
abbrev s_law_place : Stmt := topS 38
abbrev N_law_place : List Str := ["_law_well_here", "_law_way", "_law_row_here"]
abbrev P_law_place : List Str := ["_law_well_here"]
theorem sc_law_place : FnScope N_law_place P_law_place (defScope s_law_place) := ⟨rfl, rfl, rfl, by decide +kernel, rfl, by decide +kernel, by decide +kernel⟩
def m_law_place : DS :=
  (sSeq (sAsg (dCall 2 F_law_draw (dCons (dVar 0) (dCons (dC (.int 8)) dNil))) (gNm 1))
    (sSeq (sAsg (dCall 3 F_law_row (dCons (dVar 0) (dCons (dC (.int 4)) (dCons (dIf (dB (dOp opLt (dVar 1) (dC (.int 3)))) (dC (.int 2)) (dIf (dB (dOp opLt (dVar 1) (dC (.int 6)))) (dC (.int 4)) (dIf (dB (dOp opLt (dVar 1) (dC (.int 7)))) (dC (.int 9)) (dC (.int 1000))))) dNil)))) (gNm 2))
    (sSeq (sIf (dB (dOp opLt (dVar 1) (dC (.int 3)))) (sAsg (dIf (dB (dOp opEq (dVar 1) (dC (.int 0)))) (dC (.int 0)) (dC (.int 1))) (gSubD (dVar 2) (dC (.int 0)))) sNil)
    (sRet (dIf (dB (dOp opNe (dVar 2) (dLst (dCons (dC (.int 0)) (dCons (dC (.int 0)) (dCons (dC (.int 0)) (dCons (dC (.int 0)) dNil))))))) (dCall 1 F_law_reduced (dCons (dVar 2) dNil)) (dTup (dCons (dC (.int 1)) (dCons (dC (.int 0)) (dCons (dC (.int 0)) (dCons (dC (.int 0)) dNil))))))))))
def F_law_place : DF := run 3 m_law_place
theorem dv_law_place (SB : SysB base) (D_law_draw : Def P w K mg base "_law_draw" s_law_draw 1 2 P_law_draw F_law_draw) (D_law_row : Def P w K mg base "_law_row" s_law_row 2 3 P_law_row F_law_row) (D_law_reduced : Def P w K mg base "_law_reduced" s_law_reduced 2 1 P_law_reduced F_law_reduced) {f : Addr} {fd : FuncData} (F : Fun K "_law_place" "_law_place" s_law_place f fd) : FnG P w K mg base 3 f fd P_law_place (spD K mg 1 F_law_place) := by
  have SC := sc_law_place
  refine fnG_run (k := 2) SB F SC rfl rfl m_law_place fun cdv A fr s H E W C => ?_
  exact (ds_cons (ds_set (i := 1) SC.nd rfl (by first | exact Or.inl rfl | exact Or.inr rfl) (de_call C.toCtx (D_law_draw.go.lift (by decide)) D_law_draw.g D_law_draw.kp D_law_draw.bd (da_cons (de_var (i := 0)) (da_cons de_int da_nil)))) (ds_cons (ds_set (i := 2) SC.nd rfl (by first | exact Or.inl rfl | exact Or.inr rfl) (de_call C.toCtx (D_law_row.go.lift (by decide)) D_law_row.g D_law_row.kp D_law_row.bd (da_cons (de_var (i := 0)) (da_cons de_int (da_cons (de_ifExp (dt_cmp oLt (de_var (i := 1)) de_int) de_int (de_ifExp (dt_cmp oLt (de_var (i := 1)) de_int) de_int (de_ifExp (dt_cmp oLt (de_var (i := 1)) de_int) de_int de_int))) da_nil))))) (ds_cons (ds_if (dt_cmp oLt (de_var (i := 1)) de_int) (ds_one (ds_asg (de_ifExp (dt_cmp (oEq C.sb C.room) (de_var (i := 1)) de_int) de_int de_int) (dg_sub (W := W) (de_var (i := 2)) de_int))) ds_nil) (ds_one (ds_ret (de_ifExp (dt_cmp (oNe C.sb C.room) (de_var (i := 2)) (de_lst (da_cons de_int (da_cons de_int (da_cons de_int (da_cons de_int da_nil)))))) (de_call C.toCtx (D_law_reduced.go.lift (by decide)) D_law_reduced.g D_law_reduced.kp D_law_reduced.bd (da_cons (de_var (i := 2)) da_nil)) (de_tup (da_cons de_int (da_cons de_int (da_cons de_int (da_cons de_int da_nil)))))))))))
abbrev s_law_two_with : Stmt := topS 42
abbrev N_law_two_with : List Str := ["_law_one", "_law_two", "_law_found", "_law_rest", "_law_unit", "_law_row_here"]
abbrev P_law_two_with : List Str := ["_law_one", "_law_two"]
theorem sc_law_two_with : FnScope N_law_two_with P_law_two_with (defScope s_law_two_with) := ⟨rfl, rfl, rfl, by decide +kernel, rfl, by decide +kernel, by decide +kernel⟩
def m_law_two_with : DS :=
  (sSeq (sAsg (dLc (dSrc (dCall 0 F_law_units dNil)) (gNm 4) dYes (dCall 3 F_law_minors (dCons (dVar 0) (dCons (dVar 1) (dCons (dVar 4) dNil)))) [4]) (gNm 2))
    (sSeq (sAsg (dLc (dSrc (dVar 2)) (gNm 5) (dB (dOp opNe (dVar 5) (dLst (dCons (dC (.int 0)) (dCons (dC (.int 0)) (dCons (dC (.int 0)) (dCons (dC (.int 0)) dNil))))))) (dCall 1 F_law_reduced (dCons (dVar 5) dNil)) [5]) (gNm 2))
    (sSeq (sAsg (dLc (dSrc (dVar 2)) (gNm 5) (dB (dOp opNe (dVar 5) (dOp opIx (dVar 2) (dC (.int 0))))) (dVar 5) [5]) (gNm 3))
    (sRet (dTup (dCons (dOp opIx (dVar 2) (dC (.int 0))) (dCons (dOp opIx (dVar 3) (dC (.int 0))) dNil)))))))
def F_law_two_with : DF := run 6 m_law_two_with
theorem dv_law_two_with (SB : SysB base) (D_law_units : Def P w K mg base "_law_units" s_law_units 1 0 P_law_units F_law_units) (D_law_minors : Def P w K mg base "_law_minors" s_law_minors 1 3 P_law_minors F_law_minors) (D_law_reduced : Def P w K mg base "_law_reduced" s_law_reduced 2 1 P_law_reduced F_law_reduced) {f : Addr} {fd : FuncData} (F : Fun K "_law_two_with" "_law_two_with" s_law_two_with f fd) : FnG P w K mg base 3 f fd P_law_two_with (spD K mg 2 F_law_two_with) := by
  have SC := sc_law_two_with
  refine fnG_run (k := 2) SB F SC rfl rfl m_law_two_with fun cdv A fr s H E W C => ?_
  exact (ds_cons (ds_set (i := 2) SC.nd rfl (by first | exact Or.inl rfl | exact Or.inr rfl) (de_lc C.calm SC.nd (di_any (de_call0 C.toCtx (D_law_units.go.lift (by decide)) D_law_units.g D_law_units.kp D_law_units.bd)) (blkOk_by (N := N_law_two_with) (sc := defScope s_law_two_with) (own := [("_law_unit", 4)]) (by decide +kernel)) (fun _ _ _ _ _ => (dgw_name (i := 4) SC.nd rfl (by first | exact Or.inl rfl | exact Or.inr rfl) (by decide))) (fun _ _ _ _ _ => dts_nil) (fun _ _ _ _ _ => (de_call (C.blk _ _ _ _ _).toCtx (D_law_minors.go.lift (by decide)) D_law_minors.g D_law_minors.kp D_law_minors.bd (da_cons (de_var (i := 0)) (da_cons (de_var (i := 1)) (da_cons (de_var (i := 4)) da_nil))))))) (ds_cons (ds_set (i := 2) SC.nd rfl (by first | exact Or.inl rfl | exact Or.inr rfl) (de_lc C.calm SC.nd (di_any (de_var (i := 2))) (blkOk_by (N := N_law_two_with) (sc := defScope s_law_two_with) (own := [("_law_row_here", 5)]) (by decide +kernel)) (fun _ _ _ _ _ => (dgw_name (i := 5) SC.nd rfl (by first | exact Or.inl rfl | exact Or.inr rfl) (by decide))) (fun _ _ _ _ _ => dts_one (W := W0) (dt_cmp (oNe (C.blk _ _ _ _ _).sb (C.blk _ _ _ _ _).room) (de_var (i := 5)) (de_lst (da_cons de_int (da_cons de_int (da_cons de_int (da_cons de_int da_nil))))))) (fun _ _ _ _ _ => (de_call (C.blk _ _ _ _ _).toCtx (D_law_reduced.go.lift (by decide)) D_law_reduced.g D_law_reduced.kp D_law_reduced.bd (da_cons (de_var (i := 5)) da_nil))))) (ds_cons (ds_setLc (i := 3) C.calm SC.nd rfl rfl (sw_true rfl rfl rfl (by decide +kernel)) (di_any (de_var (i := 2))) (blkOk_by (N := N_law_two_with) (sc := defScope s_law_two_with) (own := [("_law_row_here", 5)]) (by decide +kernel)) (fun _ _ _ _ _ => (dgw_name (i := 5) SC.nd rfl (by first | exact Or.inl rfl | exact Or.inr rfl) (by decide))) (fun _ _ _ _ _ => dts_one (W := W0) (dt_cmp (oNe (C.blk _ _ _ _ _).sb (C.blk _ _ _ _ _).room) (de_var (i := 5)) (de_ix oIx (de_var (i := 2)) de_int))) (fun _ _ _ _ _ => (de_var (i := 5)))) (ds_one (ds_ret (de_tup (da_cons (de_ix oIx (de_var (i := 2)) de_int) (da_cons (de_ix oIx (de_var (i := 3)) de_int) da_nil))))))))
abbrev s_law_mixed : Stmt := topS 43
abbrev N_law_mixed : List Str := ["_law_well_here", "_law_rows", "_law_factors_now", "_law_found", "_law_k", "_law_i"]
abbrev P_law_mixed : List Str := ["_law_well_here", "_law_rows"]
theorem sc_law_mixed : FnScope N_law_mixed P_law_mixed (defScope s_law_mixed) := ⟨rfl, rfl, rfl, by decide +kernel, rfl, by decide +kernel, by decide +kernel⟩
def m_law_mixed : DS :=
  (sSeq (sAsg (dCall 3 F_law_row (dCons (dVar 0) (dCons (dCB opLen (dCons (dVar 1) dNil)) (dCons (dC (.int 3)) dNil)))) (gNm 2))
    (sSeq (sAsg (dLc (dRng1 (dCons (dC (.int 4)) dNil)) (gNm 4) dYes (dCB opSum (dCons (dLc (dRng1 (dCons (dCB opLen (dCons (dVar 1) dNil)) dNil)) (gNm 5) dYes (dOp opMul (dOp opIx (dVar 2) (dVar 5)) (dOp opIx (dOp opIx (dVar 1) (dVar 5)) (dVar 4))) [5]) dNil)) [4]) (gNm 3))
    (sRet (dIf (dB (dOp opNe (dVar 3) (dLst (dCons (dC (.int 0)) (dCons (dC (.int 0)) (dCons (dC (.int 0)) (dCons (dC (.int 0)) dNil))))))) (dCall 1 F_law_reduced (dCons (dVar 3) dNil)) (dCall 1 F_law_reduced (dCons (dOp opIx (dVar 1) (dC (.int 0))) dNil))))))
def F_law_mixed : DF := run 6 m_law_mixed
theorem dv_law_mixed (SB : SysB base) (D_law_row : Def P w K mg base "_law_row" s_law_row 2 3 P_law_row F_law_row) (D_law_reduced : Def P w K mg base "_law_reduced" s_law_reduced 2 1 P_law_reduced F_law_reduced) (B : Blt mg) {f : Addr} {fd : FuncData} (F : Fun K "_law_mixed" "_law_mixed" s_law_mixed f fd) : FnG P w K mg base 3 f fd P_law_mixed (spD K mg 2 F_law_mixed) := by
  have SC := sc_law_mixed
  refine fnG_run (k := 2) SB F SC rfl rfl m_law_mixed fun cdv A fr s H E W C => ?_
  exact (ds_cons (ds_set (i := 2) SC.nd rfl (by first | exact Or.inl rfl | exact Or.inr rfl) (de_call C.toCtx (D_law_row.go.lift (by decide)) D_law_row.g D_law_row.kp D_law_row.bd (da_cons (de_var (i := 0)) (da_cons (de_callB cLen (by rfl) B.b_len (by decide +kernel) (da_cons (de_var (i := 1)) da_nil)) (da_cons de_int da_nil))))) (ds_cons (ds_setLc (i := 3) C.calm SC.nd rfl rfl (sw_true rfl rfl rfl (by decide +kernel)) (di_rng1 (by rfl) B.b_range (da_cons de_int da_nil)) (blkOk_by (N := N_law_mixed) (sc := defScope s_law_mixed) (own := [("_law_k", 4)]) (by decide +kernel)) (fun _ _ _ _ _ => (dgw_name (i := 4) SC.nd rfl (by first | exact Or.inl rfl | exact Or.inr rfl) (by decide))) (fun _ _ _ _ _ => dts_nil) (fun _ _ _ _ _ => (de_callB (cSum (by exact C.calm)) (by rfl) B.b_sum (by decide +kernel) (da_cons (by refine de_lc (own := [("_law_i", 5)]) (by exact C.calm) (by exact SC.nd) (di_rng1 (by rfl) B.b_range (da_cons (de_callB cLen (by rfl) B.b_len (by decide +kernel) (da_cons (de_var (i := 1)) da_nil)) da_nil)) ?_ ?_ ?_ ?_; exact blkOk_by (by rfl); (intro _ _ _ _ _; exact (dgw_name (i := 5) (by exact SC.nd) rfl (by first | exact Or.inl rfl | exact Or.inr rfl) (by decide))); exact (fun _ _ _ _ _ => dts_nil); (intro _ _ _ _ _; exact (de_op oMul (de_ix oIx (de_var (i := 2)) (de_var (i := 5))) (de_ix oIx (de_ix oIx (de_var (i := 1)) (de_var (i := 5))) (de_var (i := 4)))))) da_nil)))) (ds_one (ds_ret (de_ifExp (dt_cmp (oNe C.sb C.room) (de_var (i := 3)) (de_lst (da_cons de_int (da_cons de_int (da_cons de_int (da_cons de_int da_nil)))))) (de_call C.toCtx (D_law_reduced.go.lift (by decide)) D_law_reduced.g D_law_reduced.kp D_law_reduced.bd (da_cons (de_var (i := 3)) da_nil)) (de_call C.toCtx (D_law_reduced.go.lift (by decide)) D_law_reduced.g D_law_reduced.kp D_law_reduced.bd (da_cons (de_ix oIx (de_var (i := 1)) de_int) da_nil)))))))
abbrev s_check_rod : Stmt := topS 20
abbrev N_check_rod : List Str := ["value"]
abbrev P_check_rod : List Str := ["value"]
theorem sc_check_rod : FnScope N_check_rod P_check_rod (defScope s_check_rod) := ⟨rfl, rfl, rfl, by decide +kernel, rfl, by decide +kernel, by decide +kernel⟩
def m_check_rod : DS :=
  (sIf (dNotT (dB (dCall 1 F_is_rod (dCons (dVar 0) dNil)))) (sRaise "InvalidRod" "given" (dVar 0)) sNil)
def F_check_rod : DF := run 1 m_check_rod
theorem dv_check_rod (SB : SysB base) (D_is_rod : Def P w K mg base "is_rod" s_is_rod 3 1 P_is_rod F_is_rod) (E_InvalidRod : ErC P w K mg base "InvalidRod" "given" C_InvalidRod) {f : Addr} {fd : FuncData} (F : Fun K "check_rod" "check_rod" s_check_rod f fd) : FnG P w K mg base 4 f fd P_check_rod (spD K mg 1 F_check_rod) := by
  have SC := sc_check_rod
  refine fnG_run (k := 3) SB F SC rfl rfl m_check_rod fun cdv A fr s H E W C => ?_
  exact (ds_one (ds_if (dt_not (dt_val (de_call C.toCtx (D_is_rod.go.lift (by decide)) D_is_rod.g D_is_rod.kp D_is_rod.bd (da_cons (de_var (i := 0)) da_nil)))) (ds_one (ds_raise C.calm (C.room.mono (by decide)) C.tk E_InvalidRod (de_var (i := 0)))) ds_nil))
abbrev s_law_unlike : Stmt := topS 39
abbrev N_law_unlike : List Str := ["_law_well_here", "_law_one", "_law_two"]
abbrev P_law_unlike : List Str := ["_law_well_here", "_law_one"]
theorem sc_law_unlike : FnScope N_law_unlike P_law_unlike (defScope s_law_unlike) := ⟨rfl, rfl, rfl, by decide +kernel, rfl, by decide +kernel, by decide +kernel⟩
def m_law_unlike : DS :=
  (sSeq (sAsg (dCall 1 F_law_place (dCons (dVar 0) dNil)) (gNm 2))
    (sSeq (sIf (dB (dOp opEq (dVar 2) (dVar 1))) (sRet (dIf (dB (dOp opNe (dVar 1) (dTup (dCons (dC (.int 0)) (dCons (dC (.int 1)) (dCons (dC (.int 0)) (dCons (dC (.int 0)) dNil))))))) (dTup (dCons (dC (.int 0)) (dCons (dC (.int 1)) (dCons (dC (.int 0)) (dCons (dC (.int 0)) dNil))))) (dTup (dCons (dC (.int 0)) (dCons (dC (.int 0)) (dCons (dC (.int 1)) (dCons (dC (.int 0)) dNil))))))) sNil)
    (sRet (dVar 2))))
def F_law_unlike : DF := run 3 m_law_unlike
theorem dv_law_unlike (SB : SysB base) (D_law_place : Def P w K mg base "_law_place" s_law_place 3 1 P_law_place F_law_place) {f : Addr} {fd : FuncData} (F : Fun K "_law_unlike" "_law_unlike" s_law_unlike f fd) : FnG P w K mg base 4 f fd P_law_unlike (spD K mg 2 F_law_unlike) := by
  have SC := sc_law_unlike
  refine fnG_run (k := 3) SB F SC rfl rfl m_law_unlike fun cdv A fr s H E W C => ?_
  exact (ds_cons (ds_set (i := 2) SC.nd rfl (by first | exact Or.inl rfl | exact Or.inr rfl) (de_call C.toCtx (D_law_place.go.lift (by decide)) D_law_place.g D_law_place.kp D_law_place.bd (da_cons (de_var (i := 0)) da_nil))) (ds_cons (ds_if (dt_cmp (oEq C.sb C.room) (de_var (i := 2)) (de_var (i := 1))) (ds_one (ds_ret (de_ifExp (dt_cmp (oNe C.sb C.room) (de_var (i := 1)) (de_tup (da_cons de_int (da_cons de_int (da_cons de_int (da_cons de_int da_nil)))))) (de_tup (da_cons de_int (da_cons de_int (da_cons de_int (da_cons de_int da_nil))))) (de_tup (da_cons de_int (da_cons de_int (da_cons de_int (da_cons de_int da_nil)))))))) ds_nil) (ds_one (ds_ret (de_var (i := 2))))))
abbrev s_check_rods : Stmt := topS 21
abbrev N_check_rods : List Str := ["rod", "other"]
abbrev P_check_rods : List Str := ["rod", "other"]
theorem sc_check_rods : FnScope N_check_rods P_check_rods (defScope s_check_rods) := ⟨rfl, rfl, rfl, by decide +kernel, rfl, by decide +kernel, by decide +kernel⟩
def m_check_rods : DS :=
  (sSeq (sDrop (dCall 1 F_check_rod (dCons (dVar 0) dNil)))
    (sDrop (dCall 1 F_check_rod (dCons (dVar 1) dNil))))
def F_check_rods : DF := run 2 m_check_rods
theorem dv_check_rods (SB : SysB base) (D_check_rod : Def P w K mg base "check_rod" s_check_rod 4 1 P_check_rod F_check_rod) {f : Addr} {fd : FuncData} (F : Fun K "check_rods" "check_rods" s_check_rods f fd) : FnG P w K mg base 5 f fd P_check_rods (spD K mg 2 F_check_rods) := by
  have SC := sc_check_rods
  refine fnG_run (k := 4) SB F SC rfl rfl m_check_rods fun cdv A fr s H E W C => ?_
  exact (ds_cons (ds_expr (de_call C.toCtx (D_check_rod.go.lift (by decide)) D_check_rod.g D_check_rod.kp D_check_rod.bd (da_cons (de_var (i := 0)) da_nil))) (ds_one (ds_expr (de_call C.toCtx (D_check_rod.go.lift (by decide)) D_check_rod.g D_check_rod.kp D_check_rod.bd (da_cons (de_var (i := 1)) da_nil)))))
abbrev s_check_unlike_meeting : Stmt := topS 26
abbrev N_check_unlike_meeting : List Str := ["rod", "other"]
abbrev P_check_unlike_meeting : List Str := ["rod", "other"]
theorem sc_check_unlike_meeting : FnScope N_check_unlike_meeting P_check_unlike_meeting (defScope s_check_unlike_meeting) := ⟨rfl, rfl, rfl, by decide +kernel, rfl, by decide +kernel, by decide +kernel⟩
def m_check_unlike_meeting : DS :=
  (sSeq (sDrop (dCall 2 F_check_rods (dCons (dVar 0) (dCons (dVar 1) dNil))))
    (sSeq (sIf (dB (dOp opNe (dCall 2 F_row_product (dCons (dVar 0) (dCons (dVar 1) dNil))) (dC (.int 0)))) (sRaise0 "Apart") sNil)
    (sIf (dB (dOp opEq (dVar 0) (dVar 1))) (sRaise0 "Same") sNil)))
def F_check_unlike_meeting : DF := run 2 m_check_unlike_meeting
theorem dv_check_unlike_meeting (SB : SysB base) (D_check_rods : Def P w K mg base "check_rods" s_check_rods 5 2 P_check_rods F_check_rods) (D_row_product : Def P w K mg base "row_product" s_row_product 2 2 P_row_product F_row_product) (E_Apart : ErC0 K mg "Apart" C_Apart) (E_Same : ErC0 K mg "Same" C_Same) {f : Addr} {fd : FuncData} (F : Fun K "check_unlike_meeting" "check_unlike_meeting" s_check_unlike_meeting f fd) : FnG P w K mg base 6 f fd P_check_unlike_meeting (spD K mg 2 F_check_unlike_meeting) := by
  have SC := sc_check_unlike_meeting
  refine fnG_run (k := 5) SB F SC rfl rfl m_check_unlike_meeting fun cdv A fr s H E W C => ?_
  exact (ds_cons (ds_expr (de_call C.toCtx (D_check_rods.go.lift (by decide)) D_check_rods.g D_check_rods.kp D_check_rods.bd (da_cons (de_var (i := 0)) (da_cons (de_var (i := 1)) da_nil)))) (ds_cons (ds_if (dt_cmp (oNe C.sb C.room) (de_call C.toCtx (D_row_product.go.lift (by decide)) D_row_product.g D_row_product.kp D_row_product.bd (da_cons (de_var (i := 0)) (da_cons (de_var (i := 1)) da_nil))) de_int) (ds_one (ds_raise0 C.calm C.tk E_Apart)) ds_nil) (ds_one (ds_if (dt_cmp (oEq C.sb C.room) (de_var (i := 0)) (de_var (i := 1))) (ds_one (ds_raise0 C.calm C.tk E_Same)) ds_nil))))
abbrev s_meeting_point : Stmt := topS 27
abbrev N_meeting_point : List Str := ["rod", "other", "points", "corner", "point"]
abbrev P_meeting_point : List Str := ["rod", "other"]
theorem sc_meeting_point : FnScope N_meeting_point P_meeting_point (defScope s_meeting_point) := ⟨rfl, rfl, rfl, by decide +kernel, rfl, by decide +kernel, by decide +kernel⟩
def m_meeting_point : DS :=
  (sSeq (sDrop (dCall 2 F_check_unlike_meeting (dCons (dVar 0) (dCons (dVar 1) dNil))))
    (sSeq (sAsg (dLc (dSrc (dC c_CORNERS)) (gNm 3) dYes (dCall 2 F_point_row (dCons (dVar 0) (dCons (dCall 2 F_plane_row (dCons (dVar 1) (dCons (dVar 3) dNil))) dNil))) [3]) (gNm 2))
    (sRet (dCall 1 F_reduced (dCons (dOp opIx (dLc (dSrc (dVar 2)) (gNm 4) (dB (dCB opAnyT (dCons (dVar 4) dNil))) (dVar 4) [4]) (dC (.int 0))) dNil)))))
def F_meeting_point : DF := run 5 m_meeting_point
theorem dv_meeting_point (SB : SysB base) (D_check_unlike_meeting : Def P w K mg base "check_unlike_meeting" s_check_unlike_meeting 6 2 P_check_unlike_meeting F_check_unlike_meeting) (D_point_row : Def P w K mg base "point_row" s_point_row 2 2 P_point_row F_point_row) (D_plane_row : Def P w K mg base "plane_row" s_plane_row 2 2 P_plane_row F_plane_row) (D_reduced : Def P w K mg base "reduced" s_reduced 2 1 P_reduced F_reduced) (Z_CORNERS : Glb K mg "CORNERS" c_CORNERS) (B : Blt mg) {f : Addr} {fd : FuncData} (F : Fun K "meeting_point" "meeting_point" s_meeting_point f fd) : FnG P w K mg base 7 f fd P_meeting_point (spD K mg 2 F_meeting_point) := by
  have SC := sc_meeting_point
  refine fnG_run (k := 6) SB F SC rfl rfl m_meeting_point fun cdv A fr s H E W C => ?_
  exact (ds_cons (ds_expr (de_call C.toCtx (D_check_unlike_meeting.go.lift (by decide)) D_check_unlike_meeting.g D_check_unlike_meeting.kp D_check_unlike_meeting.bd (da_cons (de_var (i := 0)) (da_cons (de_var (i := 1)) da_nil)))) (ds_cons (ds_setLc (i := 2) C.calm SC.nd rfl rfl (sw_true rfl rfl rfl (by decide +kernel)) (di_any (de_gc Z_CORNERS (by rfl))) (blkOk_by (N := N_meeting_point) (sc := defScope s_meeting_point) (own := [("corner", 3)]) (by decide +kernel)) (fun _ _ _ _ _ => (dgw_name (i := 3) SC.nd rfl (by first | exact Or.inl rfl | exact Or.inr rfl) (by decide))) (fun _ _ _ _ _ => dts_nil) (fun _ _ _ _ _ => (de_call (C.blk _ _ _ _ _).toCtx (D_point_row.go.lift (by decide)) D_point_row.g D_point_row.kp D_point_row.bd (da_cons (de_var (i := 0)) (da_cons (de_call (C.blk _ _ _ _ _).toCtx (D_plane_row.go.lift (by decide)) D_plane_row.g D_plane_row.kp D_plane_row.bd (da_cons (de_var (i := 1)) (da_cons (de_var (i := 3)) da_nil))) da_nil))))) (ds_one (ds_ret (de_call C.toCtx (D_reduced.go.lift (by decide)) D_reduced.g D_reduced.kp D_reduced.bd (da_cons (de_ix oIx (de_lc C.calm SC.nd (di_any (de_var (i := 2))) (blkOk_by (N := N_meeting_point) (sc := defScope s_meeting_point) (own := [("point", 4)]) (by decide +kernel)) (fun _ _ _ _ _ => (dgw_name (i := 4) SC.nd rfl (by first | exact Or.inl rfl | exact Or.inr rfl) (by decide))) (fun _ _ _ _ _ => dts_one (W := W0) (dt_val (de_callB (cAnyT (by exact C.calm)) (by rfl) B.b_any (by decide +kernel) (da_cons (de_var (i := 4)) da_nil)))) (fun _ _ _ _ _ => (de_var (i := 4)))) de_int) da_nil))))))
abbrev s_meeting_plane : Stmt := topS 28
abbrev N_meeting_plane : List Str := ["rod", "other", "planes", "corner", "plane"]
abbrev P_meeting_plane : List Str := ["rod", "other"]
theorem sc_meeting_plane : FnScope N_meeting_plane P_meeting_plane (defScope s_meeting_plane) := ⟨rfl, rfl, rfl, by decide +kernel, rfl, by decide +kernel, by decide +kernel⟩
def m_meeting_plane : DS :=
  (sSeq (sDrop (dCall 2 F_check_unlike_meeting (dCons (dVar 0) (dCons (dVar 1) dNil))))
    (sSeq (sAsg (dLc (dSrc (dC c_CORNERS)) (gNm 3) dYes (dCall 2 F_plane_row (dCons (dVar 0) (dCons (dCall 2 F_point_row (dCons (dVar 1) (dCons (dVar 3) dNil))) dNil))) [3]) (gNm 2))
    (sRet (dCall 1 F_reduced (dCons (dOp opIx (dLc (dSrc (dVar 2)) (gNm 4) (dB (dCB opAnyT (dCons (dVar 4) dNil))) (dVar 4) [4]) (dC (.int 0))) dNil)))))
def F_meeting_plane : DF := run 5 m_meeting_plane
theorem dv_meeting_plane (SB : SysB base) (D_check_unlike_meeting : Def P w K mg base "check_unlike_meeting" s_check_unlike_meeting 6 2 P_check_unlike_meeting F_check_unlike_meeting) (D_plane_row : Def P w K mg base "plane_row" s_plane_row 2 2 P_plane_row F_plane_row) (D_point_row : Def P w K mg base "point_row" s_point_row 2 2 P_point_row F_point_row) (D_reduced : Def P w K mg base "reduced" s_reduced 2 1 P_reduced F_reduced) (Z_CORNERS : Glb K mg "CORNERS" c_CORNERS) (B : Blt mg) {f : Addr} {fd : FuncData} (F : Fun K "meeting_plane" "meeting_plane" s_meeting_plane f fd) : FnG P w K mg base 7 f fd P_meeting_plane (spD K mg 2 F_meeting_plane) := by
  have SC := sc_meeting_plane
  refine fnG_run (k := 6) SB F SC rfl rfl m_meeting_plane fun cdv A fr s H E W C => ?_
  exact (ds_cons (ds_expr (de_call C.toCtx (D_check_unlike_meeting.go.lift (by decide)) D_check_unlike_meeting.g D_check_unlike_meeting.kp D_check_unlike_meeting.bd (da_cons (de_var (i := 0)) (da_cons (de_var (i := 1)) da_nil)))) (ds_cons (ds_setLc (i := 2) C.calm SC.nd rfl rfl (sw_true rfl rfl rfl (by decide +kernel)) (di_any (de_gc Z_CORNERS (by rfl))) (blkOk_by (N := N_meeting_plane) (sc := defScope s_meeting_plane) (own := [("corner", 3)]) (by decide +kernel)) (fun _ _ _ _ _ => (dgw_name (i := 3) SC.nd rfl (by first | exact Or.inl rfl | exact Or.inr rfl) (by decide))) (fun _ _ _ _ _ => dts_nil) (fun _ _ _ _ _ => (de_call (C.blk _ _ _ _ _).toCtx (D_plane_row.go.lift (by decide)) D_plane_row.g D_plane_row.kp D_plane_row.bd (da_cons (de_var (i := 0)) (da_cons (de_call (C.blk _ _ _ _ _).toCtx (D_point_row.go.lift (by decide)) D_point_row.g D_point_row.kp D_point_row.bd (da_cons (de_var (i := 1)) (da_cons (de_var (i := 3)) da_nil))) da_nil))))) (ds_one (ds_ret (de_call C.toCtx (D_reduced.go.lift (by decide)) D_reduced.g D_reduced.kp D_reduced.bd (da_cons (de_ix oIx (de_lc C.calm SC.nd (di_any (de_var (i := 2))) (blkOk_by (N := N_meeting_plane) (sc := defScope s_meeting_plane) (own := [("plane", 4)]) (by decide +kernel)) (fun _ _ _ _ _ => (dgw_name (i := 4) SC.nd rfl (by first | exact Or.inl rfl | exact Or.inr rfl) (by decide))) (fun _ _ _ _ _ => dts_one (W := W0) (dt_val (de_callB (cAnyT (by exact C.calm)) (by rfl) B.b_any (by decide +kernel) (da_cons (de_var (i := 4)) da_nil)))) (fun _ _ _ _ _ => (de_var (i := 4)))) de_int) da_nil))))))
abbrev s_law_said : Stmt := topS 44
abbrev N_law_said : List Str := ["_law_word", "_law_one", "_law_two"]
abbrev P_law_said : List Str := ["_law_word", "_law_one", "_law_two"]
theorem sc_law_said : FnScope N_law_said P_law_said (defScope s_law_said) := ⟨rfl, rfl, rfl, by decide +kernel, rfl, by decide +kernel, by decide +kernel⟩
def m_law_said : DS :=
  (sTryN (sSeq (sIf (dB (dOp opEq (dVar 0) (dC (.str "point")))) (sRet (dTup (dCons (dC (.str "told")) (dCons (dCall 2 F_meeting_point (dCons (dVar 1) (dCons (dVar 2) dNil))) (dCons (dCallK 2 [0, 1] F_meeting_point (dCons (dVar 1) (dCons (dVar 2) dNil))) dNil))))) sNil)
    (sRet (dTup (dCons (dC (.str "told")) (dCons (dCall 2 F_meeting_plane (dCons (dVar 1) (dCons (dVar 2) dNil))) (dCons (dCallK 2 [1, 0] F_meeting_plane (dCons (dVar 2) (dCons (dVar 1) dNil))) dNil)))))) [(clNo "Apart" (sRet (dTup (dCons (dC (.str "apart")) dNil)))), (clNo "Same" (sRet (dTup (dCons (dC (.str "same")) dNil))))] [])
def F_law_said : DF := run 3 m_law_said
theorem dv_law_said (SB : SysB base) (D_meeting_point : Def P w K mg base "meeting_point" s_meeting_point 7 2 P_meeting_point F_meeting_point) (D_meeting_plane : Def P w K mg base "meeting_plane" s_meeting_plane 7 2 P_meeting_plane F_meeting_plane) (E_Apart : ErC0 K mg "Apart" C_Apart) (E_Same : ErC0 K mg "Same" C_Same) (S_Same_Apart : PySem.W.exmOne K (.ref C_Same) (.ref C_Apart) = some false) {f : Addr} {fd : FuncData} (F : Fun K "_law_said" "_law_said" s_law_said f fd) : FnG P w K mg base 8 f fd P_law_said (spD K mg 3 F_law_said) := by
  have SC := sc_law_said
  refine fnG_run (k := 7) SB F SC rfl rfl m_law_said fun cdv A fr s H E W C => ?_
  exact (ds_one (ds_try_n (ys := []) C SC.nd
      (fun _ _ _ tk po => let C := C.tr tk po; (ds_cons (ds_if (dt_cmp (oEq C.sb C.room) (de_var (i := 0)) de_str) (ds_one (ds_ret (de_tup (da_cons de_str (da_cons (de_call C.toCtx (D_meeting_point.go.lift (by decide)) D_meeting_point.g D_meeting_point.kp D_meeting_point.bd (da_cons (de_var (i := 1)) (da_cons (de_var (i := 2)) da_nil))) (da_cons (de_callK (pi := [0, 1]) (ks := ["rod", "other"]) C.toCtx (D_meeting_point.go.lift (by decide)) D_meeting_point.g D_meeting_point.kp (D_meeting_point.kw fun _ _ _ _ _ _ ws hl => match ws, hl with | [_, _], _ => rfl) (dk_cons (de_var (i := 1)) (dk_cons (de_var (i := 2)) dk_nil))) da_nil)))))) ds_nil) (ds_one (ds_ret (de_tup (da_cons de_str (da_cons (de_call C.toCtx (D_meeting_plane.go.lift (by decide)) D_meeting_plane.g D_meeting_plane.kp D_meeting_plane.bd (da_cons (de_var (i := 1)) (da_cons (de_var (i := 2)) da_nil))) (da_cons (de_callK (pi := [1, 0]) (ks := ["other", "rod"]) C.toCtx (D_meeting_plane.go.lift (by decide)) D_meeting_plane.g D_meeting_plane.kp (D_meeting_plane.kw fun _ _ _ _ _ _ ws hl => match ws, hl with | [_, _], _ => rfl) (dk_cons (de_var (i := 2)) (dk_cons (de_var (i := 1)) dk_nil))) da_nil))))))))
      (.bare ⟨by rfl, by decide, .inl E_Apart.g⟩ E_Apart.g E_Apart.te (tf_cons ⟨_, E_Same.g, S_Same_Apart⟩ tf_nil)
      (fun a oe cls dd pn hz hf => (ds_one (ds_ret (de_tup (da_cons de_str da_nil))))) (.bare ⟨by rfl, by decide, .inl E_Same.g⟩ E_Same.g E_Same.te tf_nil
      (fun a oe cls dd pn hz hf => (ds_one (ds_ret (de_tup (da_cons de_str da_nil))))) .nil))))
abbrev s_law_through_point : Stmt := topS 45
abbrev N_law_through_point : List Str := ["_law_well_here", "_law_here", "_law_one", "_law_two", "_law_sheet", "_law_dues", "_law_said_here", "_law_beam", "_law_mast", "_law_flat"]
abbrev P_law_through_point : List Str := ["_law_well_here"]
theorem sc_law_through_point : FnScope N_law_through_point P_law_through_point (defScope s_law_through_point) := ⟨rfl, rfl, rfl, by decide +kernel, rfl, by decide +kernel, by decide +kernel⟩
def m_law_through_point : DS :=
  (sSeq (sAsg (dCall 1 F_law_place (dCons (dVar 0) dNil)) (gNm 1))
    (sSeq (sAsg (dCall 2 F_law_unlike (dCons (dVar 0) (dCons (dVar 1) dNil))) (gNm 2))
    (sSeq (sAsg (dIf (dB (dOp opEq (dCall 2 F_law_draw (dCons (dVar 0) (dCons (dC (.int 5)) dNil))) (dC (.int 0)))) (dCall 2 F_law_mixed (dCons (dVar 0) (dCons (dLst (dCons (dVar 1) (dCons (dVar 2) dNil))) dNil))) (dCall 1 F_law_place (dCons (dVar 0) dNil))) (gNm 3))
    (sSeq (sAsg (dIf (dB (dOp opNe (dVar 3) (dVar 1))) (dVar 3) (dVar 2)) (gNm 3))
    (sSeq (sPar 7 8 (dCons (dCall 1 F_law_reduced (dCons (dCall 2 F_law_line (dCons (dVar 1) (dCons (dVar 2) dNil))) dNil)) (dCons (dCall 1 F_law_reduced (dCons (dCall 2 F_law_line (dCons (dVar 1) (dCons (dVar 3) dNil))) dNil)) dNil)))
    (sSeq (sAsg (dCall 3 F_law_minors (dCons (dVar 1) (dCons (dVar 2) (dCons (dVar 3) dNil)))) (gNm 4))
    (sSeq (sAsg (dOp opMul (dLst (dCons (dTup (dCons (dC (.str "same")) dNil)) dNil)) (dC (.int 4))) (gNm 5))
    (sSeq (sIf (dB (dOp opNe (dVar 4) (dLst (dCons (dC (.int 0)) (dCons (dC (.int 0)) (dCons (dC (.int 0)) (dCons (dC (.int 0)) dNil))))))) (sSeq (sAsg (dCall 1 F_law_reduced (dCons (dVar 4) dNil)) (gNm 9))
    (sAsg (dLst (dCons (dTup (dCons (dC (.str "told")) (dCons (dVar 1) (dCons (dVar 1) dNil)))) (dCons (dTup (dCons (dC (.str "told")) (dCons (dVar 1) (dCons (dVar 1) dNil)))) (dCons (dTup (dCons (dC (.str "told")) (dCons (dVar 9) (dCons (dVar 9) dNil)))) (dCons (dTup (dCons (dC (.str "told")) (dCons (dVar 9) (dCons (dVar 9) dNil)))) dNil))))) (gNm 5))) sNil)
    (sSeq (sAsg (dLst (dCons (dCall 3 F_law_said (dCons (dC (.str "point")) (dCons (dVar 7) (dCons (dVar 8) dNil)))) (dCons (dCall 3 F_law_said (dCons (dC (.str "point")) (dCons (dVar 8) (dCons (dVar 7) dNil)))) dNil))) (gNm 6))
    (sSeq (sAsg (dOp opAdd (dVar 6) (dLst (dCons (dCall 3 F_law_said (dCons (dC (.str "plane")) (dCons (dVar 7) (dCons (dVar 8) dNil)))) (dCons (dCall 3 F_law_said (dCons (dC (.str "plane")) (dCons (dVar 8) (dCons (dVar 7) dNil)))) dNil)))) (gNm 6))
    (sRet (dAnd (dOp opEq (dCB opRepr (dCons (dVar 6) dNil)) (dCB opRepr (dCons (dVar 5) dNil))) (dOp opEq (dCB opRepr (dCons (dCall 3 F_law_said (dCons (dC (.str "plane")) (dCons (dVar 7) (dCons (dVar 7) dNil)))) dNil)) (dCB opRepr (dCons (dTup (dCons (dC (.str "same")) dNil)) dNil)))))))))))))))
def F_law_through_point : DF := run 10 m_law_through_point
theorem dv_law_through_point (SB : SysB base) (D_law_place : Def P w K mg base "_law_place" s_law_place 3 1 P_law_place F_law_place) (D_law_unlike : Def P w K mg base "_law_unlike" s_law_unlike 4 2 P_law_unlike F_law_unlike) (D_law_draw : Def P w K mg base "_law_draw" s_law_draw 1 2 P_law_draw F_law_draw) (D_law_mixed : Def P w K mg base "_law_mixed" s_law_mixed 3 2 P_law_mixed F_law_mixed) (D_law_reduced : Def P w K mg base "_law_reduced" s_law_reduced 2 1 P_law_reduced F_law_reduced) (D_law_line : Def P w K mg base "_law_line" s_law_line 2 2 P_law_line F_law_line) (D_law_minors : Def P w K mg base "_law_minors" s_law_minors 1 3 P_law_minors F_law_minors) (D_law_said : Def P w K mg base "_law_said" s_law_said 8 3 P_law_said F_law_said) (B : Blt mg) {f : Addr} {fd : FuncData} (F : Fun K "_law_through_point" "_law_through_point" s_law_through_point f fd) : FnG P w K mg base 9 f fd P_law_through_point (spD K mg 1 F_law_through_point) := by
  have SC := sc_law_through_point
  refine fnG_run (k := 8) SB F SC rfl rfl m_law_through_point fun cdv A fr s H E W C => ?_
  exact (ds_cons (ds_set (i := 1) SC.nd rfl (by first | exact Or.inl rfl | exact Or.inr rfl) (de_call C.toCtx (D_law_place.go.lift (by decide)) D_law_place.g D_law_place.kp D_law_place.bd (da_cons (de_var (i := 0)) da_nil))) (ds_cons (ds_set (i := 2) SC.nd rfl (by first | exact Or.inl rfl | exact Or.inr rfl) (de_call C.toCtx (D_law_unlike.go.lift (by decide)) D_law_unlike.g D_law_unlike.kp D_law_unlike.bd (da_cons (de_var (i := 0)) (da_cons (de_var (i := 1)) da_nil)))) (ds_cons (ds_set (i := 3) SC.nd rfl (by first | exact Or.inl rfl | exact Or.inr rfl) (de_ifExp (dt_cmp (oEq C.sb C.room) (de_call C.toCtx (D_law_draw.go.lift (by decide)) D_law_draw.g D_law_draw.kp D_law_draw.bd (da_cons (de_var (i := 0)) (da_cons de_int da_nil))) de_int) (de_call C.toCtx (D_law_mixed.go.lift (by decide)) D_law_mixed.g D_law_mixed.kp D_law_mixed.bd (da_cons (de_var (i := 0)) (da_cons (de_lst (da_cons (de_var (i := 1)) (da_cons (de_var (i := 2)) da_nil))) da_nil))) (de_call C.toCtx (D_law_place.go.lift (by decide)) D_law_place.g D_law_place.kp D_law_place.bd (da_cons (de_var (i := 0)) da_nil)))) (ds_cons (ds_set (i := 3) SC.nd rfl (by first | exact Or.inl rfl | exact Or.inr rfl) (de_ifExp (dt_cmp (oNe C.sb C.room) (de_var (i := 3)) (de_var (i := 1))) (de_var (i := 3)) (de_var (i := 2)))) (ds_cons (ds_par (i := 7) (j := 8) C.calm SC.nd rfl rfl (by decide) rfl rfl (da_cons (de_call C.toCtx (D_law_reduced.go.lift (by decide)) D_law_reduced.g D_law_reduced.kp D_law_reduced.bd (da_cons (de_call C.toCtx (D_law_line.go.lift (by decide)) D_law_line.g D_law_line.kp D_law_line.bd (da_cons (de_var (i := 1)) (da_cons (de_var (i := 2)) da_nil))) da_nil)) (da_cons (de_call C.toCtx (D_law_reduced.go.lift (by decide)) D_law_reduced.g D_law_reduced.kp D_law_reduced.bd (da_cons (de_call C.toCtx (D_law_line.go.lift (by decide)) D_law_line.g D_law_line.kp D_law_line.bd (da_cons (de_var (i := 1)) (da_cons (de_var (i := 3)) da_nil))) da_nil)) da_nil)) (by rfl)) (ds_cons (ds_set (i := 4) SC.nd rfl (by first | exact Or.inl rfl | exact Or.inr rfl) (de_call C.toCtx (D_law_minors.go.lift (by decide)) D_law_minors.g D_law_minors.kp D_law_minors.bd (da_cons (de_var (i := 1)) (da_cons (de_var (i := 2)) (da_cons (de_var (i := 3)) da_nil))))) (ds_cons (ds_set (i := 5) SC.nd rfl (by first | exact Or.inl rfl | exact Or.inr rfl) (de_op oMul (de_lst (da_cons (de_tup (da_cons de_str da_nil)) da_nil)) de_int)) (ds_cons (ds_if (dt_cmp (oNe C.sb C.room) (de_var (i := 4)) (de_lst (da_cons de_int (da_cons de_int (da_cons de_int (da_cons de_int da_nil)))))) (ds_cons (ds_set (i := 9) SC.nd rfl (by first | exact Or.inl rfl | exact Or.inr rfl) (de_call C.toCtx (D_law_reduced.go.lift (by decide)) D_law_reduced.g D_law_reduced.kp D_law_reduced.bd (da_cons (de_var (i := 4)) da_nil))) (ds_one (ds_set (i := 5) SC.nd rfl (by first | exact Or.inl rfl | exact Or.inr rfl) (de_lst (da_cons (de_tup (da_cons de_str (da_cons (de_var (i := 1)) (da_cons (de_var (i := 1)) da_nil)))) (da_cons (de_tup (da_cons de_str (da_cons (de_var (i := 1)) (da_cons (de_var (i := 1)) da_nil)))) (da_cons (de_tup (da_cons de_str (da_cons (de_var (i := 9)) (da_cons (de_var (i := 9)) da_nil)))) (da_cons (de_tup (da_cons de_str (da_cons (de_var (i := 9)) (da_cons (de_var (i := 9)) da_nil)))) da_nil)))))))) ds_nil) (ds_cons (ds_set (i := 6) SC.nd rfl (by first | exact Or.inl rfl | exact Or.inr rfl) (de_lst (da_cons (de_call C.toCtx (D_law_said.go.lift (by decide)) D_law_said.g D_law_said.kp D_law_said.bd (da_cons de_str (da_cons (de_var (i := 7)) (da_cons (de_var (i := 8)) da_nil)))) (da_cons (de_call C.toCtx (D_law_said.go.lift (by decide)) D_law_said.g D_law_said.kp D_law_said.bd (da_cons de_str (da_cons (de_var (i := 8)) (da_cons (de_var (i := 7)) da_nil)))) da_nil)))) (ds_cons (ds_set (i := 6) SC.nd rfl (by first | exact Or.inl rfl | exact Or.inr rfl) (de_op oAdd (de_var (i := 6)) (de_lst (da_cons (de_call C.toCtx (D_law_said.go.lift (by decide)) D_law_said.g D_law_said.kp D_law_said.bd (da_cons de_str (da_cons (de_var (i := 7)) (da_cons (de_var (i := 8)) da_nil)))) (da_cons (de_call C.toCtx (D_law_said.go.lift (by decide)) D_law_said.g D_law_said.kp D_law_said.bd (da_cons de_str (da_cons (de_var (i := 8)) (da_cons (de_var (i := 7)) da_nil)))) da_nil))))) (ds_one (ds_ret (de_and (de_cmp (oEq C.sb C.room) (de_callB (cRepr C.sb C.gd C.room) (by rfl) B.b_repr (by decide +kernel) (da_cons (de_var (i := 6)) da_nil)) (de_callB (cRepr C.sb C.gd C.room) (by rfl) B.b_repr (by decide +kernel) (da_cons (de_var (i := 5)) da_nil))) (de_one (de_cmp (oEq C.sb C.room) (de_callB (cRepr C.sb C.gd C.room) (by rfl) B.b_repr (by decide +kernel) (da_cons (de_call C.toCtx (D_law_said.go.lift (by decide)) D_law_said.g D_law_said.kp D_law_said.bd (da_cons de_str (da_cons (de_var (i := 7)) (da_cons (de_var (i := 7)) da_nil)))) da_nil)) (de_callB (cRepr C.sb C.gd C.room) (by rfl) B.b_repr (by decide +kernel) (da_cons (de_tup (da_cons de_str da_nil)) da_nil)))))))))))))))))
abbrev s_law_in_plane : Stmt := topS 46
abbrev N_law_in_plane : List Str := ["_law_well_here", "_law_sheet", "_law_pairs_now", "_law_where", "_law_one", "_law_two", "_law_beam", "_law_mast", "_law_point_said", "_law_plane_said", "_law_each"]
abbrev P_law_in_plane : List Str := ["_law_well_here"]
theorem sc_law_in_plane : FnScope N_law_in_plane P_law_in_plane (defScope s_law_in_plane) := ⟨rfl, rfl, rfl, by decide +kernel, rfl, by decide +kernel, by decide +kernel⟩
def m_law_in_plane : DS :=
  (sSeq (sAsg (dCall 1 F_law_place (dCons (dVar 0) dNil)) (gNm 1))
    (sSeq (sPar 4 5 (dCons (dCall 2 F_law_unlike (dCons (dVar 0) (dCons (dVar 1) dNil))) (dCons (dCall 2 F_law_unlike (dCons (dVar 0) (dCons (dVar 1) dNil))) dNil)))
    (sSeq (sAsg (dLst (dCons (dCall 2 F_law_two_with (dCons (dVar 1) (dCons (dVar 4) dNil))) (dCons (dCall 2 F_law_two_with (dCons (dVar 1) (dCons (dVar 5) dNil))) dNil))) (gNm 2))
    (sSeq (sAsg (dLc (dSrc (dVar 2)) (gNm 10) dYes (dCall 1 F_law_reduced (dCons (dCall 2 F_law_line (dCons (dOp opIx (dVar 10) (dC (.int 0))) (dCons (dOp opIx (dVar 10) (dC (.int 1))) dNil))) dNil)) [10]) (gUn 2 (gConsD (gNm 6) (gConsD (gNm 7) gNilD))))
    (sSeq (sPar 8 9 (dCons (dCall 3 F_law_said (dCons (dC (.str "point")) (dCons (dVar 6) (dCons (dVar 7) dNil)))) (dCons (dCall 3 F_law_said (dCons (dC (.str "plane")) (dCons (dVar 6) (dCons (dVar 7) dNil)))) dNil)))
    (sSeq (sIf (dB (dOp opEq (dVar 6) (dVar 7))) (sRet (dOp opEq (dCB opRepr (dCons (dLst (dCons (dVar 8) (dCons (dVar 9) dNil))) dNil)) (dCB opRepr (dCons (dLst (dCons (dTup (dCons (dC (.str "same")) dNil)) (dCons (dTup (dCons (dC (.str "same")) dNil)) dNil))) dNil)))) sNil)
    (sSeq (sAsg (dCall 1 F_law_reduced (dCons (dCall 3 F_law_minors (dCons (dVar 1) (dCons (dVar 4) (dCons (dVar 5) dNil)))) dNil)) (gNm 3))
    (sRet (dOp opEq (dCB opRepr (dCons (dLst (dCons (dVar 8) (dCons (dVar 9) dNil))) dNil)) (dCB opRepr (dCons (dLst (dCons (dTup (dCons (dC (.str "told")) (dCons (dVar 3) (dCons (dVar 3) dNil)))) (dCons (dTup (dCons (dC (.str "told")) (dCons (dVar 1) (dCons (dVar 1) dNil)))) dNil))) dNil)))))))))))
def F_law_in_plane : DF := run 11 m_law_in_plane
theorem dv_law_in_plane (SB : SysB base) (D_law_place : Def P w K mg base "_law_place" s_law_place 3 1 P_law_place F_law_place) (D_law_unlike : Def P w K mg base "_law_unlike" s_law_unlike 4 2 P_law_unlike F_law_unlike) (D_law_two_with : Def P w K mg base "_law_two_with" s_law_two_with 3 2 P_law_two_with F_law_two_with) (D_law_reduced : Def P w K mg base "_law_reduced" s_law_reduced 2 1 P_law_reduced F_law_reduced) (D_law_line : Def P w K mg base "_law_line" s_law_line 2 2 P_law_line F_law_line) (D_law_said : Def P w K mg base "_law_said" s_law_said 8 3 P_law_said F_law_said) (D_law_minors : Def P w K mg base "_law_minors" s_law_minors 1 3 P_law_minors F_law_minors) (B : Blt mg) {f : Addr} {fd : FuncData} (F : Fun K "_law_in_plane" "_law_in_plane" s_law_in_plane f fd) : FnG P w K mg base 9 f fd P_law_in_plane (spD K mg 1 F_law_in_plane) := by
  have SC := sc_law_in_plane
  refine fnG_run (k := 8) SB F SC rfl rfl m_law_in_plane fun cdv A fr s H E W C => ?_
  exact (ds_cons (ds_set (i := 1) SC.nd rfl (by first | exact Or.inl rfl | exact Or.inr rfl) (de_call C.toCtx (D_law_place.go.lift (by decide)) D_law_place.g D_law_place.kp D_law_place.bd (da_cons (de_var (i := 0)) da_nil))) (ds_cons (ds_par (i := 4) (j := 5) C.calm SC.nd rfl rfl (by decide) rfl rfl (da_cons (de_call C.toCtx (D_law_unlike.go.lift (by decide)) D_law_unlike.g D_law_unlike.kp D_law_unlike.bd (da_cons (de_var (i := 0)) (da_cons (de_var (i := 1)) da_nil))) (da_cons (de_call C.toCtx (D_law_unlike.go.lift (by decide)) D_law_unlike.g D_law_unlike.kp D_law_unlike.bd (da_cons (de_var (i := 0)) (da_cons (de_var (i := 1)) da_nil))) da_nil)) (by rfl)) (ds_cons (ds_set (i := 2) SC.nd rfl (by first | exact Or.inl rfl | exact Or.inr rfl) (de_lst (da_cons (de_call C.toCtx (D_law_two_with.go.lift (by decide)) D_law_two_with.g D_law_two_with.kp D_law_two_with.bd (da_cons (de_var (i := 1)) (da_cons (de_var (i := 4)) da_nil))) (da_cons (de_call C.toCtx (D_law_two_with.go.lift (by decide)) D_law_two_with.g D_law_two_with.kp D_law_two_with.bd (da_cons (de_var (i := 1)) (da_cons (de_var (i := 5)) da_nil))) da_nil)))) (ds_cons (ds_asg (de_lc C.calm SC.nd (di_any (de_var (i := 2))) (blkOk_by (N := N_law_in_plane) (sc := defScope s_law_in_plane) (own := [("_law_each", 10)]) (by decide +kernel)) (fun _ _ _ _ _ => (dgw_name (i := 10) SC.nd rfl (by first | exact Or.inl rfl | exact Or.inr rfl) (by decide))) (fun _ _ _ _ _ => dts_nil) (fun _ _ _ _ _ => (de_call (C.blk _ _ _ _ _).toCtx (D_law_reduced.go.lift (by decide)) D_law_reduced.g D_law_reduced.kp D_law_reduced.bd (da_cons (de_call (C.blk _ _ _ _ _).toCtx (D_law_line.go.lift (by decide)) D_law_line.g D_law_line.kp D_law_line.bd (da_cons (de_ix oIx (de_var (i := 10)) de_int) (da_cons (de_ix oIx (de_var (i := 10)) de_int) da_nil))) da_nil)))) (dg_un (n := 2) C.calm (dgs_cons (dg_name (i := 6) SC.nd rfl (by first | exact Or.inl rfl | exact Or.inr rfl)) (dgs_cons (dg_name (i := 7) SC.nd rfl (by first | exact Or.inl rfl | exact Or.inr rfl)) dgs_nil)))) (ds_cons (ds_par (i := 8) (j := 9) C.calm SC.nd rfl rfl (by decide) rfl rfl (da_cons (de_call C.toCtx (D_law_said.go.lift (by decide)) D_law_said.g D_law_said.kp D_law_said.bd (da_cons de_str (da_cons (de_var (i := 6)) (da_cons (de_var (i := 7)) da_nil)))) (da_cons (de_call C.toCtx (D_law_said.go.lift (by decide)) D_law_said.g D_law_said.kp D_law_said.bd (da_cons de_str (da_cons (de_var (i := 6)) (da_cons (de_var (i := 7)) da_nil)))) da_nil)) (by rfl)) (ds_cons (ds_if (dt_cmp (oEq C.sb C.room) (de_var (i := 6)) (de_var (i := 7))) (ds_one (ds_ret (de_cmp (oEq C.sb C.room) (de_callB (cRepr C.sb C.gd C.room) (by rfl) B.b_repr (by decide +kernel) (da_cons (de_lst (da_cons (de_var (i := 8)) (da_cons (de_var (i := 9)) da_nil))) da_nil)) (de_callB (cRepr C.sb C.gd C.room) (by rfl) B.b_repr (by decide +kernel) (da_cons (de_lst (da_cons (de_tup (da_cons de_str da_nil)) (da_cons (de_tup (da_cons de_str da_nil)) da_nil))) da_nil))))) ds_nil) (ds_cons (ds_set (i := 3) SC.nd rfl (by first | exact Or.inl rfl | exact Or.inr rfl) (de_call C.toCtx (D_law_reduced.go.lift (by decide)) D_law_reduced.g D_law_reduced.kp D_law_reduced.bd (da_cons (de_call C.toCtx (D_law_minors.go.lift (by decide)) D_law_minors.g D_law_minors.kp D_law_minors.bd (da_cons (de_var (i := 1)) (da_cons (de_var (i := 4)) (da_cons (de_var (i := 5)) da_nil)))) da_nil))) (ds_one (ds_ret (de_cmp (oEq C.sb C.room) (de_callB (cRepr C.sb C.gd C.room) (by rfl) B.b_repr (by decide +kernel) (da_cons (de_lst (da_cons (de_var (i := 8)) (da_cons (de_var (i := 9)) da_nil))) da_nil)) (de_callB (cRepr C.sb C.gd C.room) (by rfl) B.b_repr (by decide +kernel) (da_cons (de_lst (da_cons (de_tup (da_cons de_str (da_cons (de_var (i := 3)) (da_cons (de_var (i := 3)) da_nil)))) (da_cons (de_tup (da_cons de_str (da_cons (de_var (i := 1)) (da_cons (de_var (i := 1)) da_nil)))) da_nil))) da_nil))))))))))))
abbrev s_law_freely : Stmt := topS 47
abbrev N_law_freely : List Str := ["_law_well_here", "_law_sheet", "_law_where", "_law_one", "_law_three", "_law_two", "_law_four", "_law_beam", "_law_mast", "_law_point_said", "_law_plane_said", "_law_flat", "_law_ends", "_law_row_here", "_law_far"]
abbrev P_law_freely : List Str := ["_law_well_here"]
theorem sc_law_freely : FnScope N_law_freely P_law_freely (defScope s_law_freely) := ⟨rfl, rfl, rfl, by decide +kernel, rfl, by decide +kernel, by decide +kernel⟩
def m_law_freely : DS :=
  (sSeq (sAsg (dTup (dCons (dCall 1 F_law_place (dCons (dVar 0) dNil)) (dCons (dCall 1 F_law_place (dCons (dVar 0) dNil)) dNil))) (gUn 2 (gConsD (gNm 3) (gConsD (gNm 4) gNilD))))
    (sSeq (sAsg (dTup (dCons (dCall 2 F_law_unlike (dCons (dVar 0) (dCons (dVar 3) dNil))) (dCons (dCall 2 F_law_unlike (dCons (dVar 0) (dCons (dVar 4) dNil))) dNil))) (gUn 2 (gConsD (gNm 5) (gConsD (gNm 6) gNilD))))
    (sSeq (sPar 7 8 (dCons (dCall 1 F_law_reduced (dCons (dCall 2 F_law_line (dCons (dVar 3) (dCons (dVar 5) dNil))) dNil)) (dCons (dCall 1 F_law_reduced (dCons (dCall 2 F_law_line (dCons (dVar 4) (dCons (dVar 6) dNil))) dNil)) dNil)))
    (sSeq (sPar 9 10 (dCons (dCall 3 F_law_said (dCons (dC (.str "point")) (dCons (dVar 7) (dCons (dVar 8) dNil)))) (dCons (dCall 3 F_law_said (dCons (dC (.str "plane")) (dCons (dVar 8) (dCons (dVar 7) dNil)))) dNil)))
    (sSeq (sIf (dB (dOp opNe (dCall 2 F_law_dot (dCons (dVar 3) (dCons (dCall 3 F_law_minors (dCons (dVar 5) (dCons (dVar 4) (dCons (dVar 6) dNil)))) dNil))) (dC (.int 0)))) (sRet (dOp opEq (dCB opRepr (dCons (dLst (dCons (dVar 9) (dCons (dVar 10) dNil))) dNil)) (dCB opRepr (dCons (dLst (dCons (dTup (dCons (dC (.str "apart")) dNil)) (dCons (dTup (dCons (dC (.str "apart")) dNil)) dNil))) dNil)))) sNil)
    (sSeq (sIf (dB (dOp opEq (dVar 7) (dVar 8))) (sRet (dOp opEq (dCB opRepr (dCons (dLst (dCons (dVar 9) (dCons (dVar 10) dNil))) dNil)) (dCB opRepr (dCons (dLst (dCons (dTup (dCons (dC (.str "same")) dNil)) (dCons (dTup (dCons (dC (.str "same")) dNil)) dNil))) dNil)))) sNil)
    (sSeq (sAsg (dOp opIx (dLc (dSrc (dLst (dCons (dCall 3 F_law_minors (dCons (dVar 3) (dCons (dVar 5) (dCons (dVar 4) dNil)))) (dCons (dCall 3 F_law_minors (dCons (dVar 3) (dCons (dVar 5) (dCons (dVar 6) dNil)))) dNil)))) (gNm 13) (dB (dOp opNe (dVar 13) (dLst (dCons (dC (.int 0)) (dCons (dC (.int 0)) (dCons (dC (.int 0)) (dCons (dC (.int 0)) dNil))))))) (dVar 13) [13]) (dC (.int 0))) (gNm 1))
    (sSeq (sPar 11 12 (dCons (dCall 1 F_law_reduced (dCons (dVar 1) dNil)) (dCons (dLc (dSrc (dCall 2 F_law_two_with (dCons (dVar 4) (dCons (dVar 6) dNil)))) (gNm 14) dYes (dCall 3 F_law_cut_at (dCons (dVar 3) (dCons (dVar 5) (dCons (dVar 14) dNil)))) [14]) dNil)))
    (sSeq (sAsg (dCall 1 F_law_reduced (dCons (dOp opIx (dLc (dSrc (dVar 12)) (gNm 13) (dB (dOp opNe (dVar 13) (dLst (dCons (dC (.int 0)) (dCons (dC (.int 0)) (dCons (dC (.int 0)) (dCons (dC (.int 0)) dNil))))))) (dVar 13) [13]) (dC (.int 0))) dNil)) (gNm 2))
    (sRet (dOp opEq (dCB opRepr (dCons (dLst (dCons (dVar 9) (dCons (dVar 10) dNil))) dNil)) (dCB opRepr (dCons (dLst (dCons (dTup (dCons (dC (.str "told")) (dCons (dVar 2) (dCons (dVar 2) dNil)))) (dCons (dTup (dCons (dC (.str "told")) (dCons (dVar 11) (dCons (dVar 11) dNil)))) dNil))) dNil)))))))))))))
def F_law_freely : DF := run 15 m_law_freely
theorem dv_law_freely (SB : SysB base) (D_law_place : Def P w K mg base "_law_place" s_law_place 3 1 P_law_place F_law_place) (D_law_unlike : Def P w K mg base "_law_unlike" s_law_unlike 4 2 P_law_unlike F_law_unlike) (D_law_reduced : Def P w K mg base "_law_reduced" s_law_reduced 2 1 P_law_reduced F_law_reduced) (D_law_line : Def P w K mg base "_law_line" s_law_line 2 2 P_law_line F_law_line) (D_law_said : Def P w K mg base "_law_said" s_law_said 8 3 P_law_said F_law_said) (D_law_dot : Def P w K mg base "_law_dot" s_law_dot 1 2 P_law_dot F_law_dot) (D_law_minors : Def P w K mg base "_law_minors" s_law_minors 1 3 P_law_minors F_law_minors) (D_law_two_with : Def P w K mg base "_law_two_with" s_law_two_with 3 2 P_law_two_with F_law_two_with) (D_law_cut_at : Def P w K mg base "_law_cut_at" s_law_cut_at 2 3 P_law_cut_at F_law_cut_at) (B : Blt mg) {f : Addr} {fd : FuncData} (F : Fun K "_law_freely" "_law_freely" s_law_freely f fd) : FnG P w K mg base 9 f fd P_law_freely (spD K mg 1 F_law_freely) := by
  have SC := sc_law_freely
  refine fnG_run (k := 8) SB F SC rfl rfl m_law_freely fun cdv A fr s H E W C => ?_
  exact (ds_cons (ds_asg (de_tup (da_cons (de_call C.toCtx (D_law_place.go.lift (by decide)) D_law_place.g D_law_place.kp D_law_place.bd (da_cons (de_var (i := 0)) da_nil)) (da_cons (de_call C.toCtx (D_law_place.go.lift (by decide)) D_law_place.g D_law_place.kp D_law_place.bd (da_cons (de_var (i := 0)) da_nil)) da_nil))) (dg_un (n := 2) C.calm (dgs_cons (dg_name (i := 3) SC.nd rfl (by first | exact Or.inl rfl | exact Or.inr rfl)) (dgs_cons (dg_name (i := 4) SC.nd rfl (by first | exact Or.inl rfl | exact Or.inr rfl)) dgs_nil)))) (ds_cons (ds_asg (de_tup (da_cons (de_call C.toCtx (D_law_unlike.go.lift (by decide)) D_law_unlike.g D_law_unlike.kp D_law_unlike.bd (da_cons (de_var (i := 0)) (da_cons (de_var (i := 3)) da_nil))) (da_cons (de_call C.toCtx (D_law_unlike.go.lift (by decide)) D_law_unlike.g D_law_unlike.kp D_law_unlike.bd (da_cons (de_var (i := 0)) (da_cons (de_var (i := 4)) da_nil))) da_nil))) (dg_un (n := 2) C.calm (dgs_cons (dg_name (i := 5) SC.nd rfl (by first | exact Or.inl rfl | exact Or.inr rfl)) (dgs_cons (dg_name (i := 6) SC.nd rfl (by first | exact Or.inl rfl | exact Or.inr rfl)) dgs_nil)))) (ds_cons (ds_par (i := 7) (j := 8) C.calm SC.nd rfl rfl (by decide) rfl rfl (da_cons (de_call C.toCtx (D_law_reduced.go.lift (by decide)) D_law_reduced.g D_law_reduced.kp D_law_reduced.bd (da_cons (de_call C.toCtx (D_law_line.go.lift (by decide)) D_law_line.g D_law_line.kp D_law_line.bd (da_cons (de_var (i := 3)) (da_cons (de_var (i := 5)) da_nil))) da_nil)) (da_cons (de_call C.toCtx (D_law_reduced.go.lift (by decide)) D_law_reduced.g D_law_reduced.kp D_law_reduced.bd (da_cons (de_call C.toCtx (D_law_line.go.lift (by decide)) D_law_line.g D_law_line.kp D_law_line.bd (da_cons (de_var (i := 4)) (da_cons (de_var (i := 6)) da_nil))) da_nil)) da_nil)) (by rfl)) (ds_cons (ds_par (i := 9) (j := 10) C.calm SC.nd rfl rfl (by decide) rfl rfl (da_cons (de_call C.toCtx (D_law_said.go.lift (by decide)) D_law_said.g D_law_said.kp D_law_said.bd (da_cons de_str (da_cons (de_var (i := 7)) (da_cons (de_var (i := 8)) da_nil)))) (da_cons (de_call C.toCtx (D_law_said.go.lift (by decide)) D_law_said.g D_law_said.kp D_law_said.bd (da_cons de_str (da_cons (de_var (i := 8)) (da_cons (de_var (i := 7)) da_nil)))) da_nil)) (by rfl)) (ds_cons (ds_if (dt_cmp (oNe C.sb C.room) (de_call C.toCtx (D_law_dot.go.lift (by decide)) D_law_dot.g D_law_dot.kp D_law_dot.bd (da_cons (de_var (i := 3)) (da_cons (de_call C.toCtx (D_law_minors.go.lift (by decide)) D_law_minors.g D_law_minors.kp D_law_minors.bd (da_cons (de_var (i := 5)) (da_cons (de_var (i := 4)) (da_cons (de_var (i := 6)) da_nil)))) da_nil))) de_int) (ds_one (ds_ret (de_cmp (oEq C.sb C.room) (de_callB (cRepr C.sb C.gd C.room) (by rfl) B.b_repr (by decide +kernel) (da_cons (de_lst (da_cons (de_var (i := 9)) (da_cons (de_var (i := 10)) da_nil))) da_nil)) (de_callB (cRepr C.sb C.gd C.room) (by rfl) B.b_repr (by decide +kernel) (da_cons (de_lst (da_cons (de_tup (da_cons de_str da_nil)) (da_cons (de_tup (da_cons de_str da_nil)) da_nil))) da_nil))))) ds_nil) (ds_cons (ds_if (dt_cmp (oEq C.sb C.room) (de_var (i := 7)) (de_var (i := 8))) (ds_one (ds_ret (de_cmp (oEq C.sb C.room) (de_callB (cRepr C.sb C.gd C.room) (by rfl) B.b_repr (by decide +kernel) (da_cons (de_lst (da_cons (de_var (i := 9)) (da_cons (de_var (i := 10)) da_nil))) da_nil)) (de_callB (cRepr C.sb C.gd C.room) (by rfl) B.b_repr (by decide +kernel) (da_cons (de_lst (da_cons (de_tup (da_cons de_str da_nil)) (da_cons (de_tup (da_cons de_str da_nil)) da_nil))) da_nil))))) ds_nil) (ds_cons (ds_set (i := 1) SC.nd rfl (by first | exact Or.inl rfl | exact Or.inr rfl) (de_ix oIx (de_lc C.calm SC.nd (di_any (de_lst (da_cons (de_call C.toCtx (D_law_minors.go.lift (by decide)) D_law_minors.g D_law_minors.kp D_law_minors.bd (da_cons (de_var (i := 3)) (da_cons (de_var (i := 5)) (da_cons (de_var (i := 4)) da_nil)))) (da_cons (de_call C.toCtx (D_law_minors.go.lift (by decide)) D_law_minors.g D_law_minors.kp D_law_minors.bd (da_cons (de_var (i := 3)) (da_cons (de_var (i := 5)) (da_cons (de_var (i := 6)) da_nil)))) da_nil)))) (blkOk_by (N := N_law_freely) (sc := defScope s_law_freely) (own := [("_law_row_here", 13)]) (by decide +kernel)) (fun _ _ _ _ _ => (dgw_name (i := 13) SC.nd rfl (by first | exact Or.inl rfl | exact Or.inr rfl) (by decide))) (fun _ _ _ _ _ => dts_one (W := W0) (dt_cmp (oNe (C.blk _ _ _ _ _).sb (C.blk _ _ _ _ _).room) (de_var (i := 13)) (de_lst (da_cons de_int (da_cons de_int (da_cons de_int (da_cons de_int da_nil))))))) (fun _ _ _ _ _ => (de_var (i := 13)))) de_int)) (ds_cons (ds_par (i := 11) (j := 12) C.calm SC.nd rfl rfl (by decide) rfl rfl (da_cons (de_call C.toCtx (D_law_reduced.go.lift (by decide)) D_law_reduced.g D_law_reduced.kp D_law_reduced.bd (da_cons (de_var (i := 1)) da_nil)) (da_cons (de_lc C.calm SC.nd (di_any (de_call C.toCtx (D_law_two_with.go.lift (by decide)) D_law_two_with.g D_law_two_with.kp D_law_two_with.bd (da_cons (de_var (i := 4)) (da_cons (de_var (i := 6)) da_nil)))) (blkOk_by (N := N_law_freely) (sc := defScope s_law_freely) (own := [("_law_far", 14)]) (by decide +kernel)) (fun _ _ _ _ _ => (dgw_name (i := 14) SC.nd rfl (by first | exact Or.inl rfl | exact Or.inr rfl) (by decide))) (fun _ _ _ _ _ => dts_nil) (fun _ _ _ _ _ => (de_call (C.blk _ _ _ _ _).toCtx (D_law_cut_at.go.lift (by decide)) D_law_cut_at.g D_law_cut_at.kp D_law_cut_at.bd (da_cons (de_var (i := 3)) (da_cons (de_var (i := 5)) (da_cons (de_var (i := 14)) da_nil)))))) da_nil)) (by rfl)) (ds_cons (ds_set (i := 2) SC.nd rfl (by first | exact Or.inl rfl | exact Or.inr rfl) (de_call C.toCtx (D_law_reduced.go.lift (by decide)) D_law_reduced.g D_law_reduced.kp D_law_reduced.bd (da_cons (de_ix oIx (de_lc C.calm SC.nd (di_any (de_var (i := 12))) (blkOk_by (N := N_law_freely) (sc := defScope s_law_freely) (own := [("_law_row_here", 13)]) (by decide +kernel)) (fun _ _ _ _ _ => (dgw_name (i := 13) SC.nd rfl (by first | exact Or.inl rfl | exact Or.inr rfl) (by decide))) (fun _ _ _ _ _ => dts_one (W := W0) (dt_cmp (oNe (C.blk _ _ _ _ _).sb (C.blk _ _ _ _ _).room) (de_var (i := 13)) (de_lst (da_cons de_int (da_cons de_int (da_cons de_int (da_cons de_int da_nil))))))) (fun _ _ _ _ _ => (de_var (i := 13)))) de_int) da_nil))) (ds_one (ds_ret (de_cmp (oEq C.sb C.room) (de_callB (cRepr C.sb C.gd C.room) (by rfl) B.b_repr (by decide +kernel) (da_cons (de_lst (da_cons (de_var (i := 9)) (da_cons (de_var (i := 10)) da_nil))) da_nil)) (de_callB (cRepr C.sb C.gd C.room) (by rfl) B.b_repr (by decide +kernel) (da_cons (de_lst (da_cons (de_tup (da_cons de_str (da_cons (de_var (i := 2)) (da_cons (de_var (i := 2)) da_nil)))) (da_cons (de_tup (da_cons de_str (da_cons (de_var (i := 11)) (da_cons (de_var (i := 11)) da_nil)))) da_nil))) da_nil))))))))))))))
abbrev s_law : Stmt := topS 49
abbrev N_law : List Str := ["_law_script", "_law_spot", "_law_well_here"]
abbrev P_law : List Str := ["_law_script"]
theorem sc_law : FnScope N_law P_law (defScope s_law) := ⟨rfl, rfl, rfl, by decide +kernel, rfl, by decide +kernel, by decide +kernel⟩
def m_law : DS :=
  (sSeq (sFor (dRng1 (dCons (dCB opMax (dCons (dC (.int 2)) (dCons (dCB opMin (dCons (dCB opLen (dCons (dVar 0) dNil)) (dCons (dC (.int 6)) dNil))) dNil))) dNil)) (gNm 1) (sSeq (sAsg (dCall 2 F_law_well (dCons (dVar 0) (dCons (dVar 1) dNil))) (gNm 2))
    (sIf (dOrT (dNotT (dB (dCall 1 F_law_through_point (dCons (dVar 2) dNil)))) (dOrT (dNotT (dB (dCall 1 F_law_in_plane (dCons (dVar 2) dNil)))) (dNotT (dB (dCall 1 F_law_freely (dCons (dVar 2) dNil)))))) (sRet (dC (.bl false))) sNil)))
    (sRet (dC (.bl true))))
def F_law : DF := run 3 m_law
theorem dv_law (SB : SysB base) (D_law_well : Def P w K mg base "_law_well" s_law_well 1 2 P_law_well F_law_well) (D_law_through_point : Def P w K mg base "_law_through_point" s_law_through_point 9 1 P_law_through_point F_law_through_point) (D_law_in_plane : Def P w K mg base "_law_in_plane" s_law_in_plane 9 1 P_law_in_plane F_law_in_plane) (D_law_freely : Def P w K mg base "_law_freely" s_law_freely 9 1 P_law_freely F_law_freely) (B : Blt mg) {f : Addr} {fd : FuncData} (F : Fun K "law" "law" s_law f fd) : FnG P w K mg base 10 f fd P_law (spD K mg 1 F_law) := by
  have SC := sc_law
  refine fnG_run (k := 9) SB F SC rfl rfl m_law fun cdv A fr s H E W C => ?_
  exact (ds_cons (ds_for C.po C.calm (di_rng1 (by rfl) B.b_range (da_cons (de_callB (cMax C.calm) (by rfl) B.b_max (by decide +kernel) (da_cons de_int (da_cons (de_callB (cMin C.calm) (by rfl) B.b_min (by decide +kernel) (da_cons (de_callB cLen (by rfl) B.b_len (by decide +kernel) (da_cons (de_var (i := 0)) da_nil)) (da_cons de_int da_nil))) da_nil))) da_nil)) (dg_name (i := 1) SC.nd rfl (by first | exact Or.inl rfl | exact Or.inr rfl)) (ds_cons (ds_set (i := 2) SC.nd rfl (by first | exact Or.inl rfl | exact Or.inr rfl) (de_call C.toCtx (D_law_well.go.lift (by decide)) D_law_well.g D_law_well.kp D_law_well.bd (da_cons (de_var (i := 0)) (da_cons (de_var (i := 1)) da_nil)))) (ds_one (ds_if (dt_w (dw_or (dt_not (dt_val (de_call C.toCtx (D_law_through_point.go.lift (by decide)) D_law_through_point.g D_law_through_point.kp D_law_through_point.bd (da_cons (de_var (i := 2)) da_nil)))) (dw_or (dt_not (dt_val (de_call C.toCtx (D_law_in_plane.go.lift (by decide)) D_law_in_plane.g D_law_in_plane.kp D_law_in_plane.bd (da_cons (de_var (i := 2)) da_nil)))) (dw_or1 (dt_not (dt_val (de_call C.toCtx (D_law_freely.go.lift (by decide)) D_law_freely.g D_law_freely.kp D_law_freely.bd (da_cons (de_var (i := 2)) da_nil)))))))) (ds_one (ds_ret de_bl)) ds_nil)))) (ds_one (ds_ret de_bl)))
end
end K07

set_option maxHeartbeats 4000000
namespace K07
open PySem L2 PySem.Spec PI
local macro_rules | `(tactic| walk_at "b") => `(tactic| first
  | with_reducible assumption
  | (with_reducible refine Bd.mul ?_ ?_) <;> walk_at "b"
  | (with_reducible refine Bd.sub ?_ ?_) <;> walk_at "b"
  | (with_reducible refine Bd.add ?_ ?_) <;> walk_at "b"
  | (with_reducible refine Bd.neg ?_) <;> walk_at "b"
  | exact natAbs_lt (k := 40) (by decide))
local macro_rules | `(tactic| walk_at "m") => `(tactic| (apply Bd.ok <;> first | walk_at "b" | decide | omega))
local macro_rules | `(tactic| walk_at "p") => `(tactic| (first | exact pre_self | assumption | (refine pre_app ?_; walk_at "p")))
local macro_rules | `(tactic| walk_at "e") => `(tactic| first
  | refine ⟨_, _, opMul_i (.inl ⟨by decide, by decide⟩), ?_⟩
  | refine ⟨_, _, opMul_i (.inr (.inl ⟨by decide, by decide⟩)), ?_⟩
  | (refine ⟨_, _, opMul_i ?_, ?_⟩; · walk_at "m")
  | refine ⟨_, _, rfl, ?_⟩
  | refine ⟨_, rfl, ?_⟩
  | refine ⟨rfl, ?_⟩
  | refine ⟨rfl, rfl, ?_⟩)
local macro_rules | `(tactic| walk_at "d") => `(tactic| first
  | with_reducible refine ok_c ?_
  | with_reducible refine ok_var rfl ?_
  | with_reducible refine ok_op ?_
  | with_reducible refine ok_un ?_
  | with_reducible refine ok_nil ?_
  | with_reducible refine ok_cons ?_
  | with_reducible refine ok_tup ?_
  | with_reducible refine ok_lst ?_
  | with_reducible refine ok_cb ?_
  | with_reducible refine ok_call ?_
  | with_reducible refine ok_callK ?_
  | with_reducible refine ok_sl ?_
  | with_reducible refine ok_nopart ?_
  | with_reducible refine ok_part ?_
  | with_reducible refine ok_B ?_
  | with_reducible refine ok_andT ?_
  | with_reducible refine ok_orT ?_
  | with_reducible refine ok_notT ?_
  | with_reducible refine ok_and ?_
  | with_reducible refine ok_or ?_
  | with_reducible refine ok_not ?_
  | with_reducible refine ok_if ?_
  | with_reducible refine ok_app ?_
  | with_reducible refine ok_lc ?_
  | with_reducible refine ok_yes ?_
  | with_reducible refine ok_src ?_
  | with_reducible refine ok_rng1 ?_
  | with_reducible refine ok_rng2 ?_
  | with_reducible refine ok_zip ?_
  | with_reducible refine sk_nil ?_
  | with_reducible refine sk_seq ?_
  | with_reducible refine sk_ret ?_
  | with_reducible refine sk_drop ?_
  | with_reducible refine sk_if ?_
  | with_reducible refine sk_asg ?_
  | with_reducible refine sk_par ?_
  | with_reducible refine sk_par3 ?_
  | with_reducible refine sk_for ?_
  | with_reducible refine ⟨_, _, gNm1, ?_⟩
  | with_reducible refine ⟨_, _, gUn2, ?_⟩
  | with_reducible refine ⟨_, _, gUn3, ?_⟩
  | with_reducible refine ⟨_, _, opSub_i, ?_⟩
  | with_reducible refine ⟨_, _, opAdd_i, ?_⟩
  | with_reducible refine ⟨_, _, opNe_i, ?_⟩
  | with_reducible refine ⟨_, _, opEq_i, ?_⟩
  | with_reducible refine ⟨_, _, opMod_i (by decide), ?_⟩
  | with_reducible refine ⟨_, _, opDiv_i ⟨by decide, by decide⟩, ?_⟩
  | ((with_reducible refine And.intro ?_ ?_); · rfl)
  | ((fail_if_success (with_reducible refine And.intro ?_ ?_)); (fail_if_success (with_reducible refine OK.imp (Q := fun _ _ => True) ?_ ?_)); (fail_if_success (with_reducible refine SOK.imp (Qn := fun _ _ => True) (Qr := fun _ _ => True) ?_ ?_ ?_)); walk_at "e"))

open PK LA
open LB (pp_id pol_id gI_zero zero_nz isPt_red)
theorem e_place : F_law_place = LA.F_law_place := rfl
theorem e_unlike : F_law_unlike = LA.F_law_unlike := rfl
theorem e_draw : F_law_draw = LA.F_law_draw := rfl
theorem e_mixed : F_law_mixed = LA.F_law_mixed := rfl
theorem e_minors : F_law_minors = LA.F_law_minors := rfl
theorem e_line : F_law_line = LA.F_law_line := rfl
theorem e_lreduced : F_law_reduced = LA.F_law_reduced := rfl
theorem e_dot : F_law_dot = LA.F_law_dot := rfl
theorem e_well : F_law_well = LA.F_law_well := rfl
theorem e_two : F_law_two_with = LA.F_law_two_with := rfl
theorem e_rods : F_check_rods = PK.F_check_rods := rfl
theorem e_rowp : F_row_product = PK.F_row_product := rfl
theorem e_plane : F_plane_row = PK.F_plane_row := rfl
theorem e_point : F_point_row = PK.F_point_row := rfl
theorem e_reduced : F_reduced = PK.F_reduced := rfl
theorem red_id {l : List Int} (ll : l.length = 6) (R : Red l) : redF l = l := same_of ll ll R R.nz fun _ _ _ _ => Int.mul_comm _ _
theorem eq_of {a b : List Int} (la : a.length = 6) (lb : b.length = 6) (A : Red a) (B : Red b) (h : ∀ i j, i < 6 → j < 6 → gI a i * gI b j = gI a j * gI b i) : a = b := by
  rw [← same_of la lb A B.nz h, red_id lb B]
theorem sixteen {a0 a1 a2 a3 a4 a5 b0 b1 b2 b3 b4 b5 : Int} (z : ∀ c ∈ uL, ∀ x ∈ pointL [a0, a1, a2, a3, a4, a5] (planeL [b0, b1, b2, b3, b4, b5] c), x = 0) : ∀ i j, i < 6 → j < 6 → gI [a0, a1, a2, a3, a4, a5] i * gI [b0, b1, b2, b3, b4, b5] j = gI [a0, a1, a2, a3, a4, a5] j * gI [b0, b1, b2, b3, b4, b5] i := by
  have z0 := z [1, 0, 0, 0] (by simp [uL])
  have z1 := z [0, 1, 0, 0] (by simp [uL])
  have z2 := z [0, 0, 1, 0] (by simp [uL])
  have z3 := z [0, 0, 0, 1] (by simp [uL])
  simp [pointL, planeL, gI] at z0 z1 z2 z3
  obtain ⟨w0, w1, w2, w3⟩ := z0
  obtain ⟨x0, x1, x2, x3⟩ := z1
  obtain ⟨y0, y1, y2, y3⟩ := z2
  obtain ⟨v0, v1, v2, v3⟩ := z3
  clear z
  have k0 : gI [a0, a1, a2, a3, a4, a5] 0 = a0 := rfl
  have k1 : gI [a0, a1, a2, a3, a4, a5] 1 = a1 := rfl
  have k2 : gI [a0, a1, a2, a3, a4, a5] 2 = a2 := rfl
  have k3 : gI [a0, a1, a2, a3, a4, a5] 3 = a3 := rfl
  have k4 : gI [a0, a1, a2, a3, a4, a5] 4 = a4 := rfl
  have k5 : gI [a0, a1, a2, a3, a4, a5] 5 = a5 := rfl
  have l0 : gI [b0, b1, b2, b3, b4, b5] 0 = b0 := rfl
  have l1 : gI [b0, b1, b2, b3, b4, b5] 1 = b1 := rfl
  have l2 : gI [b0, b1, b2, b3, b4, b5] 2 = b2 := rfl
  have l3 : gI [b0, b1, b2, b3, b4, b5] 3 = b3 := rfl
  have l4 : gI [b0, b1, b2, b3, b4, b5] 4 = b4 := rfl
  have l5 : gI [b0, b1, b2, b3, b4, b5] 5 = b5 := rfl
  have half : ∀ i j, i < j → j < 6 → gI [a0, a1, a2, a3, a4, a5] i * gI [b0, b1, b2, b3, b4, b5] j = gI [a0, a1, a2, a3, a4, a5] j * gI [b0, b1, b2, b3, b4, b5] i := by
    intro i j hi hj
    have hi' : i = 0 ∨ i = 1 ∨ i = 2 ∨ i = 3 ∨ i = 4 := by omega
    have hj' : j = 1 ∨ j = 2 ∨ j = 3 ∨ j = 4 ∨ j = 5 := by omega
    rcases hi' with rfl | rfl | rfl | rfl | rfl <;> rcases hj' with rfl | rfl | rfl | rfl | rfl <;> first
      | (exfalso; revert hi; decide)
      | (simp only [l0, l1, l2, l3, l4, l5, k0, k1, k2, k3, k4, k5]; clear l0 l1 l2 l3 l4 l5 k0 k1 k2 k3 k4 k5 hi hj; grind)
  intro i j hi hj
  by_cases c : i < j
  · exact half i j c hj
  · by_cases c2 : j < i
    · exact (half j i c2 hi).symm
    · have : i = j := by omega
      subst this
      rfl
/-- of two unlike rows some corner's plane with the one is not with the other -/
theorem corner {a b : List Int} (la : a.length = 6) (lb : b.length = 6) (A : Red a) (B : Red b) (ne : a ≠ b) : ∃ c ∈ uL, Nz (pointL a (planeL b c)) := by
  apply Classical.byContradiction
  intro no
  apply ne
  refine eq_of la lb A B ?_
  obtain ⟨a0, a1, a2, a3, a4, a5, rfl⟩ := six la
  obtain ⟨b0, b1, b2, b3, b4, b5, rfl⟩ := six lb
  exact sixteen fun c hc x hx => Classical.byContradiction fun x0 => no ⟨c, hc, x, hx, x0⟩
theorem plane_sw (r s : List Int) : planeL r s = mulL (-1) (pointL (swL r) s) := by
  unfold pointL planeL swL
  simp only [gI, List.getD_cons_zero, List.getD_cons_succ, mulL4, List.cons.injEq, and_true]
  refine ⟨?_, ?_, ?_, ?_⟩ <;> grind
theorem planeL_mul2 (f : Int) (r x : List Int) : planeL r (mulL f x) = mulL f (planeL r x) := by
  unfold planeL
  rw [mulL4]
  simp only [gI_mul, List.cons.injEq, and_true]
  refine ⟨?_, ?_, ?_, ?_⟩ <;> grind
theorem mm1 (l : List Int) : mulL (-1) (mulL (-1) l) = l := by
  unfold mulL
  rw [List.map_map]
  exact (List.map_congr_left fun x _ => by simp).trans (List.map_id l)
theorem dual (a b s : List Int) : planeL a (pointL b s) = pointL (swL a) (planeL (swL b) s) := by
  rw [plane_sw, point_sw b, LB.pointL_mul2, mm1]
theorem rp_sw (a b : List Int) : rp (swL a) (swL b) = rp a b := by
  unfold rp swL
  simp only [gI, List.getD_cons_zero, List.getD_cons_succ]
  grind
theorem pol_dual {s t x : List Int} (lx : x.length = 4) (i : Nat) (hi : i < 4) : gI (planeL t (pointL s x)) i + gI (planeL s (pointL t x)) i = rp s t * gI x i := by
  rw [dual, dual, pol_id lx i hi, rp_sw]
theorem len_pt (r s : List Int) : (pointL r s).length = 4 := rfl
theorem len_pl (r s : List Int) : (planeL r s).length = 4 := rfl
/-- a point of a plane through the other rod, on the one rod, is on the other -/
theorem on_both {a b t : List Int} (lt : t.length = 4) (z : rp a b = 0) (h : ¬ Nz (pointL b t)) : ¬ Nz (planeL b (pointL a t)) := by
  refine zero_nz fun i hi => ?_
  have e := pol_dual (s := a) (t := b) lt i hi
  have e2 : gI (planeL a (pointL b t)) i = 0 := by
    rw [dual]
    have : ¬ Nz (planeL (swL b) t) := by rwa [← point_sw_nz]
    exact LB.pointL_zero this i hi
  rw [z, e2] at e
  omega
theorem in_both {a b x : List Int} (lx : x.length = 4) (z : rp a b = 0) (h : ¬ Nz (planeL b x)) : ¬ Nz (pointL b (planeL a x)) := by
  refine zero_nz fun i hi => ?_
  have e := pol_id (s := a) (t := b) lx i hi
  rw [z, LB.pointL_zero h i hi] at e
  omega
theorem in_own {b x : List Int} (B : rp b b = 0) (lx : x.length = 4) : ¬ Nz (pointL b (planeL b x)) := by
  refine zero_nz fun i hi => ?_
  have e := pol_id (s := b) (t := b) lx i hi
  rw [B] at e
  omega
theorem on_own {b x : List Int} (B : rp b b = 0) (lx : x.length = 4) : ¬ Nz (planeL b (pointL b x)) := by
  refine zero_nz fun i hi => ?_
  have e := pol_dual (s := b) (t := b) lx i hi
  rw [B] at e
  omega
theorem nz_red {r l : List Int} (n : Nz l) (h : ¬ Nz (planeL r l)) : ¬ Nz (planeL r (redF l)) := by
  rw [← redF_back n, planeL_mul2, nz_mul_iff (facN_nz n)] at h
  exact h
theorem nz_redp {r l : List Int} (n : Nz l) (h : ¬ Nz (pointL r l)) : ¬ Nz (pointL r (redF l)) := by
  rw [← redF_back n, LB.pointL_mul2, nz_mul_iff (facN_nz n)] at h
  exact h
/-- what the program tells of two rods that meet is the point that is on both -/
theorem meet_pt {a b X t : List Int} (A : IsRod a) (B : IsRod b) (ne : a ≠ b) (z : rp a b = 0) (P : IsPt X) (oa : ¬ Nz (planeL a X)) (ob : ¬ Nz (planeL b X)) (lt : t.length = 4) (h : ¬ Nz (pointL b t)) (n : Nz (pointL a t)) : redF (pointL a t) = X := by
  apply Classical.byContradiction
  intro no
  have P2 : IsPt (redF (pointL a t)) := isPt_red (len_pt a t) n
  have o1 := nz_red n (on_own (rp_self A) lt)
  have o2 := nz_red n (on_both lt z h)
  exact ne ((on_unique A P2 P no o1 oa).symm.trans (on_unique B P2 P no o2 ob))
theorem meet_pl {a b S x : List Int} (A : IsRod a) (B : IsRod b) (ne : a ≠ b) (z : rp a b = 0) (P : IsPt S) (ia : ¬ Nz (pointL a S)) (ib : ¬ Nz (pointL b S)) (lx : x.length = 4) (h : ¬ Nz (planeL b x)) (n : Nz (planeL a x)) : redF (planeL a x) = S := by
  apply Classical.byContradiction
  intro no
  have P2 : IsPt (redF (planeL a x)) := isPt_red (len_pl a x) n
  have o1 := nz_redp n (in_own (rp_self A) lx)
  have o2 := nz_redp n (in_both lx z h)
  exact ne ((in_unique A P2 P no o1 ia).symm.trans (in_unique B P2 P no o2 ib))
theorem sw_nz {l : List Int} (n : Nz l) (ll : l.length = 6) : Nz (swL l) := by
  obtain ⟨a, b, c, d, e, f, rfl⟩ := six ll
  obtain ⟨y, hy, y0⟩ := n
  refine ⟨y, ?_, y0⟩
  simp only [swL, gI, List.getD_cons_zero, List.getD_cons_succ, List.mem_cons, List.not_mem_nil, or_false] at hy ⊢
  rcases hy with h | h | h | h | h | h <;> simp [h]
theorem corner_pl {a b : List Int} (A : IsRod a) (B : IsRod b) (ne : a ≠ b) : ∃ c ∈ uL, Nz (planeL a (pointL b c)) := by
  obtain ⟨A', fa, a0, ea⟩ : Red (redF (swL a)) ∧ ∃ f : Int, f ≠ 0 ∧ swL a = mulL f (redF (swL a)) := ⟨red_redF (sw_nz A.red.nz A.len), _, facN_nz (sw_nz A.red.nz A.len), (redF_back (sw_nz A.red.nz A.len)).symm⟩
  obtain ⟨B', fb, b0, eb⟩ : Red (redF (swL b)) ∧ ∃ f : Int, f ≠ 0 ∧ swL b = mulL f (redF (swL b)) := ⟨red_redF (sw_nz B.red.nz B.len), _, facN_nz (sw_nz B.red.nz B.len), (redF_back (sw_nz B.red.nz B.len)).symm⟩
  have ne2 : redF (swL a) ≠ redF (swL b) := by
    intro e
    apply ne
    refine eq_of A.len B.len A.red B.red ?_
    have k : ∀ i j, i < 6 → j < 6 → gI (swL a) i * gI (swL b) j = gI (swL a) j * gI (swL b) i := by
      intro i j _ _
      rw [ea, eb, gI_mul, gI_mul, gI_mul, gI_mul, e]
      grind
    intro i j hi hj
    rw [← sw_gI (l := a) hi, ← sw_gI (l := a) hj, ← sw_gI (l := b) hi, ← sw_gI (l := b) hj]
    exact k _ _ (sg_lt hi) (sg_lt hj)
  obtain ⟨c, hc, n⟩ := corner (by rw [redF_len]; rfl) (by rw [redF_len]; rfl) A' B' ne2
  refine ⟨c, hc, ?_⟩
  rw [dual, ea, eb, pointL_mul, planeL_mul, LB.pointL_mul2, nz_mul_iff a0, nz_mul_iff b0]
  exact n

end K07

set_option maxHeartbeats 4000000
namespace K07
open PySem L2 PySem.Spec PI
local macro_rules | `(tactic| walk_at "b") => `(tactic| first
  | with_reducible assumption
  | (with_reducible refine Bd.mul ?_ ?_) <;> walk_at "b"
  | (with_reducible refine Bd.sub ?_ ?_) <;> walk_at "b"
  | (with_reducible refine Bd.add ?_ ?_) <;> walk_at "b"
  | (with_reducible refine Bd.neg ?_) <;> walk_at "b"
  | exact natAbs_lt (k := 40) (by decide))
local macro_rules | `(tactic| walk_at "m") => `(tactic| (apply Bd.ok <;> first | walk_at "b" | decide | omega))
local macro_rules | `(tactic| walk_at "p") => `(tactic| (first | exact pre_self | assumption | (refine pre_app ?_; walk_at "p")))
local macro_rules | `(tactic| walk_at "e") => `(tactic| first
  | refine ⟨_, _, opMul_i (.inl ⟨by decide, by decide⟩), ?_⟩
  | refine ⟨_, _, opMul_i (.inr (.inl ⟨by decide, by decide⟩)), ?_⟩
  | (refine ⟨_, _, opMul_i ?_, ?_⟩; · walk_at "m")
  | refine ⟨_, _, rfl, ?_⟩
  | refine ⟨_, rfl, ?_⟩
  | refine ⟨rfl, ?_⟩
  | refine ⟨rfl, rfl, ?_⟩)
local macro_rules | `(tactic| walk_at "d") => `(tactic| first
  | with_reducible refine ok_c ?_
  | with_reducible refine ok_var rfl ?_
  | with_reducible refine ok_op ?_
  | with_reducible refine ok_un ?_
  | with_reducible refine ok_nil ?_
  | with_reducible refine ok_cons ?_
  | with_reducible refine ok_tup ?_
  | with_reducible refine ok_lst ?_
  | with_reducible refine ok_cb ?_
  | with_reducible refine ok_call ?_
  | with_reducible refine ok_callK ?_
  | with_reducible refine ok_sl ?_
  | with_reducible refine ok_nopart ?_
  | with_reducible refine ok_part ?_
  | with_reducible refine ok_B ?_
  | with_reducible refine ok_andT ?_
  | with_reducible refine ok_orT ?_
  | with_reducible refine ok_notT ?_
  | with_reducible refine ok_and ?_
  | with_reducible refine ok_or ?_
  | with_reducible refine ok_not ?_
  | with_reducible refine ok_if ?_
  | with_reducible refine ok_app ?_
  | with_reducible refine ok_lc ?_
  | with_reducible refine ok_yes ?_
  | with_reducible refine ok_src ?_
  | with_reducible refine ok_rng1 ?_
  | with_reducible refine ok_rng2 ?_
  | with_reducible refine ok_zip ?_
  | with_reducible refine sk_nil ?_
  | with_reducible refine sk_seq ?_
  | with_reducible refine sk_ret ?_
  | with_reducible refine sk_drop ?_
  | with_reducible refine sk_if ?_
  | with_reducible refine sk_asg ?_
  | with_reducible refine sk_par ?_
  | with_reducible refine sk_par3 ?_
  | with_reducible refine sk_for ?_
  | with_reducible refine ⟨_, _, gNm1, ?_⟩
  | with_reducible refine ⟨_, _, gUn2, ?_⟩
  | with_reducible refine ⟨_, _, gUn3, ?_⟩
  | with_reducible refine ⟨_, _, opSub_i, ?_⟩
  | with_reducible refine ⟨_, _, opAdd_i, ?_⟩
  | with_reducible refine ⟨_, _, opNe_i, ?_⟩
  | with_reducible refine ⟨_, _, opEq_i, ?_⟩
  | with_reducible refine ⟨_, _, opMod_i (by decide), ?_⟩
  | with_reducible refine ⟨_, _, opDiv_i ⟨by decide, by decide⟩, ?_⟩
  | ((with_reducible refine And.intro ?_ ?_); · rfl)
  | ((fail_if_success (with_reducible refine And.intro ?_ ?_)); (fail_if_success (with_reducible refine OK.imp (Q := fun _ _ => True) ?_ ?_)); (fail_if_success (with_reducible refine SOK.imp (Qn := fun _ _ => True) (Qr := fun _ _ => True) ?_ ?_ ?_)); walk_at "e"))

open PK LA
open LB (isPt_red)
theorem e_corners : c_CORNERS = .tup (tL uL) := rfl
def apartE : Er := ⟨"Apart", []⟩
def sameE : Er := ⟨"Same", []⟩
theorem uL_ok {c : List Int} (h : c ∈ uL) : c.length = 4 ∧ BdL 1 c := by
  simp only [uL, List.mem_cons, List.not_mem_nil, or_false] at h
  rcases h with rfl | rfl | rfl | rfl <;> refine ⟨rfl, fun x hx => ?_⟩ <;> (simp only [List.mem_cons, List.not_mem_nil, or_false] at hx; rcases hx with rfl | rfl | rfl | rfl <;> exact natAbs_lt (by decide))
/-- [f(x) for x in xs] over a fixed tuple, f giving rows -/
theorem lc_row {i : Nat} {xs : List D} {rows : List (List Int)} {te : DE} {e : DEnv} {h : HS} {Q : D → HS → Prop} (hl : xs.length = rows.length) (hr : rows.length ≤ 1000)
    (step : ∀ (k : Nat) (d : D) (m : List Int) (g : HS), xs[k]? = some d → rows[k]? = some m → OK (te ((wipeD e [i]).set i (some d)) (h ++ g)) fun v h' => v = .tup (iL m) ∧ ∃ g', h' = h ++ g ++ g')
    (p : ∀ g, Q (.ref h.length) (h ++ [tL rows] ++ g)) : OK (dLc (dSrc (dC (.tup xs))) (gNm i) dYes te [i] e h) Q := by
  refine ok_lc (ok_src (ok_c (.inl ⟨_, rfl, rows.length, fun k h' => ∃ g, h' = h ++ [tL (rows.take k)] ++ g, by simp [Src.size, hl], ⟨[], by simp [tL]⟩, ?_, ?_⟩)))
  · rintro k _ hk ⟨g, rfl⟩
    obtain ⟨d, hd⟩ := get_lt (l := xs) (i := k) (by omega)
    obtain ⟨m, hm⟩ := get_lt (l := rows) (i := k) hk
    refine ⟨d, by simp [Src.get, hd], _, _, gNm1, ok_yes ⟨fun _ => ?_, fun c => (by cases c)⟩⟩
    rw [List.append_assoc]
    refine (step k d m _ hd hm).imp ?_
    rintro _ _ ⟨rfl, g', rfl⟩
    have qc : (h ++ ([tL (rows.take k)] ++ g) ++ g')[h.length]? = some (tL (rows.take k)) := by simp
    refine ⟨_, qc, by rw [tl_len, List.length_take]; omega, g ++ g', ?_⟩
    have e1 : h ++ ([tL (rows.take k)] ++ g) ++ g' = h ++ [tL (rows.take k)] ++ (g ++ g') := by simp
    rw [e1, setapp2, tl_snoc, List.take_add_one, hm]
    rfl
  · rintro _ ⟨g, rfl⟩
    refine ⟨by simp [Src.get, hl], ?_⟩
    rw [List.take_length]
    exact p g
/-- [x for x in rows if c(x)] over a cell -/
theorem lc_keep {r i j : Nat} {rows : List (List Int)} {f : List Int → Bool} {tt : DT} {e : DEnv} {h : HS} {Q : D → HS → Prop} (q : h[r]? = some (tL rows)) (he : e[j]? = some (some (.ref r))) (hi : ∀ d : D, ((wipeD e [i]).set i (some d))[i]? = some (some d)) (hr : rows.length ≤ 1000)
    (step : ∀ (m : List Int) (g : HS), m ∈ rows → OK (tt ((wipeD e [i]).set i (some (.tup (iL m)))) (h ++ g)) fun b h' => b = f m ∧ ∃ g', h' = h ++ g ++ g')
    (p : ∀ g, Q (.ref h.length) (h ++ [tL (rows.filter f)] ++ g)) : OK (dLc (dSrc (dVar j)) (gNm i) tt (dVar i) [i] e h) Q := by
  have rl := (List.getElem?_eq_some_iff.mp q).1
  have ql : ∀ g : HS, (h ++ g)[r]? = some (tL rows) := fun g => by rw [List.getElem?_append_left rl, q]
  refine ok_lc (ok_src (ok_var he (.inr (.inr ⟨r, rfl, rl, rows.length, fun k h' => ∃ g, h' = h ++ [tL ((rows.take k).filter f)] ++ g, by simp [Src.size, q, tl_len], ⟨[], by simp [tL]⟩, ?_, ?_⟩))))
  · rintro k _ hk ⟨g, rfl⟩
    obtain ⟨m, hm⟩ := get_lt (l := rows) (i := k) hk
    refine ⟨.tup (iL m), ?_, _, _, gNm1, ?_⟩
    · show ((h ++ _ ++ g)[r]?).map _ = _
      rw [List.append_assoc, ql]
      exact congrArg some (tl_get hm)
    rw [List.append_assoc]
    refine (step m _ (List.mem_of_getElem? hm)).imp ?_
    rintro _ _ ⟨rfl, g', rfl⟩
    have e1 : h ++ ([tL ((rows.take k).filter f)] ++ g) ++ g' = h ++ [tL ((rows.take k).filter f)] ++ (g ++ g') := by simp
    have ft := filter_take (f := f) hm
    refine ⟨fun c => ok_var (hi _) ?_, fun c => ?_⟩
    · have qc : (h ++ ([tL ((rows.take k).filter f)] ++ g) ++ g')[h.length]? = some (tL ((rows.take k).filter f)) := by simp
      refine ⟨_, qc, ?_, g ++ g', ?_⟩
      · rw [tl_len]
        have := List.length_filter_le f (rows.take k)
        rw [List.length_take] at this
        omega
      · rw [e1, setapp2, tl_snoc, ft, if_pos c]
    · refine ⟨g ++ g', ?_⟩
      rw [e1, ft, c]
      rfl
  · rintro _ ⟨g, rfl⟩
    refine ⟨?_, ?_⟩
    · show ((h ++ _ ++ g)[r]?).map _ = _
      rw [List.append_assoc, ql]
      simp [tl_len]
    · rw [List.take_length]
      exact p g
theorem filter_first {f : List Int → Bool} {rows : List (List Int)} {m : List Int} (hm : m ∈ rows) (c : f m = true) : ∃ x, (rows.filter f)[0]? = some x ∧ x ∈ rows ∧ f x = true := by
  cases q : rows.filter f with
  | nil =>
    have : m ∈ rows.filter f := List.mem_filter.mpr ⟨hm, c⟩
    rw [q] at this
    cases this
  | cons x l =>
    have : x ∈ rows.filter f := by rw [q]; simp
    exact ⟨x, rfl, (List.mem_filter.mp this).1, (List.mem_filter.mp this).2⟩
section
variable {a b : List Int} {h : HS} {k : Nat} (A : IsRod a) (B : IsRod b) (ba : BdL k a) (bb : BdL k b) (hk : k < 1000)
include A B ba bb hk
theorem unlike_ok2 (z : rp a b = 0) (ne : a ≠ b) : OK (F_check_unlike_meeting [.tup (iL a), .tup (iL b)] h) fun v h' => v = .non ∧ ∃ g, h' = h ++ g := by
  unfold F_check_unlike_meeting m_check_unlike_meeting
  simp only [e_rods, e_rowp]
  refine ok_run ?_
  repeat walk_at "d"
  refine (check_rods_ok A B ba bb (by omega)).imp ?_
  rintro _ _ ⟨rfl, g1, rfl⟩
  refine sk_seq (sk_if (ok_B (ok_op (ok_call (ok_cons (ok_var rfl (ok_cons (ok_var rfl (ok_nil ⟨rfl, ?_⟩)))))))))
  refine (rowp_ok A.len B.len ba bb (by omega)).imp ?_
  rintro _ _ ⟨rfl, g2, rfl⟩
  refine ok_c ⟨_, _, opNe_i, _, rfl, fun c => absurd c (by simp [z]), fun _ => sk_nil ?_⟩
  refine sk_if (ok_B (ok_op (ok_var rfl (ok_var rfl ⟨_, _, opEq_il, _, rfl, fun c => absurd c (by simp [ne]), fun _ => sk_nil ⟨rfl, g1 ++ g2, by simp⟩⟩))))
theorem unlike_apart (z : rp a b ≠ 0) : ∃ g, F_check_unlike_meeting [.tup (iL a), .tup (iL b)] h = .exc apartE (h ++ g) := by
  obtain ⟨_, _, e1, rfl, g1, rfl⟩ := (check_rods_ok (h := h) A B ba bb (by omega)).ok
  obtain ⟨_, _, e2, rfl, g2, rfl⟩ := (rowp_ok (h := h ++ g1) A.len B.len ba bb (by omega)).ok
  have e3 := opNe_i (i := rp a b) (j := 0) (h := h ++ g1 ++ g2)
  rw [show (!(rp a b == 0)) = true from by simp [z]] at e3
  refine ⟨g1 ++ g2, ?_⟩
  simp only [List.append_assoc] at e1 e2 e3
  unfold F_check_unlike_meeting m_check_unlike_meeting PI.run sSeq sDrop sIf dB dOp dCall sRaise0
  simp [e_rods, e_rowp, dCons, dVar, dNil, dC, Res.bind, Res.toS, e1, e2, e3, apartE, lift]
theorem meeting_apart (z : rp a b ≠ 0) : (∃ g, F_meeting_point [.tup (iL a), .tup (iL b)] h = .exc apartE (h ++ g)) ∧ ∃ g, F_meeting_plane [.tup (iL a), .tup (iL b)] h = .exc apartE (h ++ g) := by
  obtain ⟨g, e⟩ := unlike_apart (h := h) A B ba bb hk z
  refine ⟨⟨g, ?_⟩, g, ?_⟩
  · unfold F_meeting_point m_meeting_point PI.run sSeq sDrop dCall
    simp [dCons, dVar, dNil, Res.bind, Res.toS, e]
  · unfold F_meeting_plane m_meeting_plane PI.run sSeq sDrop dCall
    simp [dCons, dVar, dNil, Res.bind, Res.toS, e]
theorem meeting_point_ok {X : List Int} (z : rp a b = 0) (ne : a ≠ b) (P : IsPt X) (oa : ¬ Nz (planeL a X)) (ob : ¬ Nz (planeL b X)) (k1 : 1 ≤ k) : OK (F_meeting_point [.tup (iL a), .tup (iL b)] h) fun v h' => v = .tup (iL X) ∧ ∃ g, h' = h ++ g := by
  have bp : ∀ c ∈ uL, BdL (2 * k + 5) (planeL b c) := fun c hc => plane_bd bb ((uL_ok hc).2.mono k1)
  have bq : ∀ c ∈ uL, BdL (4 * k + 20) (pointL a (planeL b c)) := fun c hc => (point_bd (j := 2 * k + 5) (ba.mono (by omega)) (bp c hc)).mono (by omega)
  unfold F_meeting_point m_meeting_point
  simp only [e_plane, e_point, e_reduced, e_corners]
  refine ok_run ?_
  refine sk_seq (sk_drop (ok_call (ok_cons (ok_var rfl (ok_cons (ok_var rfl (ok_nil ⟨rfl, ?_⟩)))))))
  refine (unlike_ok2 A B ba bb hk z ne).imp ?_
  rintro _ _ ⟨rfl, g1, rfl⟩
  refine sk_seq (sk_asg (lc_row (rows := uL.map fun c => pointL a (planeL b c)) rfl (by simp [uL]) ?_ fun g => ⟨_, _, gNm1, ?_⟩))
  · intro j d m g hd hm
    obtain ⟨c, hc⟩ : ∃ c, uL[j]? = some c := get_lt (by have := (List.getElem?_eq_some_iff.mp hm).1; simpa using this)
    rw [List.getElem?_map, hc] at hm
    rw [tl_get hc] at hd
    cases hm
    cases hd
    have mc := List.mem_of_getElem? hc
    refine ok_call (ok_cons (ok_var rfl (ok_cons (ok_call (ok_cons (ok_var rfl (ok_cons (ok_var rfl (ok_nil ⟨rfl, ?_⟩)))))) )))
    refine (plane_row_ok B.len (uL_ok mc).1 bb ((uL_ok mc).2.mono k1) (by omega)).imp ?_
    rintro _ _ ⟨rfl, g2, rfl⟩
    refine ok_nil ⟨rfl, ?_⟩
    refine (point_row_ok A.len rfl (ba.mono (by omega)) (bp c mc) (by omega)).imp ?_
    rintro _ _ ⟨rfl, g3, rfl⟩
    exact ⟨rfl, g2 ++ g3, by simp⟩
  obtain ⟨c, hc, n⟩ := corner A.len B.len A.red B.red ne
  obtain ⟨x, hx, hm, an⟩ := filter_first (f := anyL) (rows := uL.map fun c => pointL a (planeL b c)) (List.mem_map.mpr ⟨c, hc, rfl⟩) (anyL_nz.mpr n)
  obtain ⟨c', hc', rfl⟩ := List.mem_map.mp hm
  refine sk_ret (ok_call (ok_cons (ok_op (lc_keep (f := anyL) (r := (h ++ g1).length) (rows := uL.map fun c => pointL a (planeL b c)) (by simp) rfl (fun _ => rfl) (by simp [uL]) ?_ fun g => ?_)))) 
  · intro m g _
    refine ok_B (ok_cb (ok_cons (ok_var rfl (ok_nil ⟨_, _, anyT_eq, _, rfl, rfl, [], by simp⟩))))
  refine ok_c ⟨_, _, opIx_r getapp2 (PI.atI_nat (tl_get hx)), ok_nil ⟨rfl, ?_⟩⟩
  refine (reduced_ok (by simp [len_pt]) (anyL_nz.mp an) (bq c' hc') (by omega)).imp ?_
  rintro _ _ ⟨rfl, g5, rfl⟩
  rw [meet_pt A B ne z P oa ob (len_pl _ _) (in_own (rp_self B) (uL_ok hc').1) (anyL_nz.mp an)]
  exact ⟨rfl, _, by simp only [List.append_assoc]; rfl⟩
theorem meeting_plane_ok {S : List Int} (z : rp a b = 0) (ne : a ≠ b) (P : IsPt S) (ia : ¬ Nz (pointL a S)) (ib : ¬ Nz (pointL b S)) (k1 : 1 ≤ k) : OK (F_meeting_plane [.tup (iL a), .tup (iL b)] h) fun v h' => v = .tup (iL S) ∧ ∃ g, h' = h ++ g := by
  have bp : ∀ c ∈ uL, BdL (2 * k + 5) (pointL b c) := fun c hc => point_bd bb ((uL_ok hc).2.mono k1)
  have bq : ∀ c ∈ uL, BdL (4 * k + 20) (planeL a (pointL b c)) := fun c hc => (plane_bd (j := 2 * k + 5) (ba.mono (by omega)) (bp c hc)).mono (by omega)
  unfold F_meeting_plane m_meeting_plane
  simp only [e_plane, e_point, e_reduced, e_corners]
  refine ok_run ?_
  refine sk_seq (sk_drop (ok_call (ok_cons (ok_var rfl (ok_cons (ok_var rfl (ok_nil ⟨rfl, ?_⟩)))))))
  refine (unlike_ok2 A B ba bb hk z ne).imp ?_
  rintro _ _ ⟨rfl, g1, rfl⟩
  refine sk_seq (sk_asg (lc_row (rows := uL.map fun c => planeL a (pointL b c)) rfl (by simp [uL]) ?_ fun g => ⟨_, _, gNm1, ?_⟩))
  · intro j d m g hd hm
    obtain ⟨c, hc⟩ : ∃ c, uL[j]? = some c := get_lt (by have := (List.getElem?_eq_some_iff.mp hm).1; simpa using this)
    rw [List.getElem?_map, hc] at hm
    rw [tl_get hc] at hd
    cases hm
    cases hd
    have mc := List.mem_of_getElem? hc
    refine ok_call (ok_cons (ok_var rfl (ok_cons (ok_call (ok_cons (ok_var rfl (ok_cons (ok_var rfl (ok_nil ⟨rfl, ?_⟩)))))) )))
    refine (point_row_ok B.len (uL_ok mc).1 bb ((uL_ok mc).2.mono k1) (by omega)).imp ?_
    rintro _ _ ⟨rfl, g2, rfl⟩
    refine ok_nil ⟨rfl, ?_⟩
    refine (plane_row_ok A.len rfl (ba.mono (by omega)) (bp c mc) (by omega)).imp ?_
    rintro _ _ ⟨rfl, g3, rfl⟩
    exact ⟨rfl, g2 ++ g3, by simp⟩
  obtain ⟨c, hc, n⟩ := corner_pl A B ne
  obtain ⟨x, hx, hm, an⟩ := filter_first (f := anyL) (rows := uL.map fun c => planeL a (pointL b c)) (List.mem_map.mpr ⟨c, hc, rfl⟩) (anyL_nz.mpr n)
  obtain ⟨c', hc', rfl⟩ := List.mem_map.mp hm
  refine sk_ret (ok_call (ok_cons (ok_op (lc_keep (f := anyL) (r := (h ++ g1).length) (rows := uL.map fun c => planeL a (pointL b c)) (by simp) rfl (fun _ => rfl) (by simp [uL]) ?_ fun g => ?_)))) 
  · intro m g _
    refine ok_B (ok_cb (ok_cons (ok_var rfl (ok_nil ⟨_, _, anyT_eq, _, rfl, rfl, [], by simp⟩))))
  refine ok_c ⟨_, _, opIx_r getapp2 (PI.atI_nat (tl_get hx)), ok_nil ⟨rfl, ?_⟩⟩
  refine (reduced_ok (by simp [len_pl]) (anyL_nz.mp an) (bq c' hc') (by omega)).imp ?_
  rintro _ _ ⟨rfl, g5, rfl⟩
  rw [meet_pl A B ne z P ia ib (len_pt _ _) (on_own (rp_self B) (uL_ok hc').1) (anyL_nz.mp an)]
  exact ⟨rfl, _, by simp only [List.append_assoc]; rfl⟩
end
theorem unlike_same {a : List Int} {h : HS} {k : Nat} (A : IsRod a) (ba : BdL k a) (hk : k < 1000) : ∃ g, F_check_unlike_meeting [.tup (iL a), .tup (iL a)] h = .exc sameE (h ++ g) := by
  obtain ⟨_, _, e1, rfl, g1, rfl⟩ := (check_rods_ok (h := h) A A ba ba (by omega)).ok
  obtain ⟨_, _, e2, rfl, g2, rfl⟩ := (rowp_ok (h := h ++ g1) A.len A.len ba ba (by omega)).ok
  have e3 := opNe_i (i := rp a a) (j := 0) (h := h ++ g1 ++ g2)
  rw [show (!(rp a a == 0)) = false from by simp [rp_self A]] at e3
  have e4 := opEq_il (a := a) (b := a) (h := h ++ g1 ++ g2)
  rw [beq_self_eq_true] at e4
  refine ⟨g1 ++ g2, ?_⟩
  simp only [List.append_assoc] at e1 e2 e3 e4
  unfold F_check_unlike_meeting m_check_unlike_meeting PI.run sSeq sDrop sIf dB dOp dCall sRaise0 sNil
  simp [e_rods, e_rowp, dCons, dVar, dNil, dC, Res.bind, Res.toS, e1, e2, e3, e4, sameE, lift]
theorem meeting_same {a : List Int} {h : HS} {k : Nat} (A : IsRod a) (ba : BdL k a) (hk : k < 1000) : (∃ g, F_meeting_point [.tup (iL a), .tup (iL a)] h = .exc sameE (h ++ g)) ∧ ∃ g, F_meeting_plane [.tup (iL a), .tup (iL a)] h = .exc sameE (h ++ g) := by
  obtain ⟨g, e⟩ := unlike_same (h := h) A ba hk
  refine ⟨⟨g, ?_⟩, g, ?_⟩
  · unfold F_meeting_point m_meeting_point PI.run sSeq sDrop dCall
    simp [dCons, dVar, dNil, Res.bind, Res.toS, e]
  · unfold F_meeting_plane m_meeting_plane PI.run sSeq sDrop dCall
    simp [dCons, dVar, dNil, Res.bind, Res.toS, e]

end K07

set_option maxHeartbeats 4000000
namespace K07
open PySem L2 PySem.Spec PI
local macro_rules | `(tactic| walk_at "b") => `(tactic| first
  | with_reducible assumption
  | (with_reducible refine Bd.mul ?_ ?_) <;> walk_at "b"
  | (with_reducible refine Bd.sub ?_ ?_) <;> walk_at "b"
  | (with_reducible refine Bd.add ?_ ?_) <;> walk_at "b"
  | (with_reducible refine Bd.neg ?_) <;> walk_at "b"
  | exact natAbs_lt (k := 40) (by decide))
local macro_rules | `(tactic| walk_at "m") => `(tactic| (apply Bd.ok <;> first | walk_at "b" | decide | omega))
local macro_rules | `(tactic| walk_at "p") => `(tactic| (first | exact pre_self | assumption | (refine pre_app ?_; walk_at "p")))
local macro_rules | `(tactic| walk_at "e") => `(tactic| first
  | refine ⟨_, _, opMul_i (.inl ⟨by decide, by decide⟩), ?_⟩
  | refine ⟨_, _, opMul_i (.inr (.inl ⟨by decide, by decide⟩)), ?_⟩
  | (refine ⟨_, _, opMul_i ?_, ?_⟩; · walk_at "m")
  | refine ⟨_, _, rfl, ?_⟩
  | refine ⟨_, rfl, ?_⟩
  | refine ⟨rfl, ?_⟩
  | refine ⟨rfl, rfl, ?_⟩)
local macro_rules | `(tactic| walk_at "d") => `(tactic| first
  | with_reducible refine ok_c ?_
  | with_reducible refine ok_var rfl ?_
  | with_reducible refine ok_op ?_
  | with_reducible refine ok_un ?_
  | with_reducible refine ok_nil ?_
  | with_reducible refine ok_cons ?_
  | with_reducible refine ok_tup ?_
  | with_reducible refine ok_lst ?_
  | with_reducible refine ok_cb ?_
  | with_reducible refine ok_call ?_
  | with_reducible refine ok_callK ?_
  | with_reducible refine ok_sl ?_
  | with_reducible refine ok_nopart ?_
  | with_reducible refine ok_part ?_
  | with_reducible refine ok_B ?_
  | with_reducible refine ok_andT ?_
  | with_reducible refine ok_orT ?_
  | with_reducible refine ok_notT ?_
  | with_reducible refine ok_and ?_
  | with_reducible refine ok_or ?_
  | with_reducible refine ok_not ?_
  | with_reducible refine ok_if ?_
  | with_reducible refine ok_app ?_
  | with_reducible refine ok_lc ?_
  | with_reducible refine ok_yes ?_
  | with_reducible refine ok_src ?_
  | with_reducible refine ok_rng1 ?_
  | with_reducible refine ok_rng2 ?_
  | with_reducible refine ok_zip ?_
  | with_reducible refine sk_nil ?_
  | with_reducible refine sk_seq ?_
  | with_reducible refine sk_ret ?_
  | with_reducible refine sk_drop ?_
  | with_reducible refine sk_if ?_
  | with_reducible refine sk_asg ?_
  | with_reducible refine sk_par ?_
  | with_reducible refine sk_par3 ?_
  | with_reducible refine sk_for ?_
  | with_reducible refine ⟨_, _, gNm1, ?_⟩
  | with_reducible refine ⟨_, _, gUn2, ?_⟩
  | with_reducible refine ⟨_, _, gUn3, ?_⟩
  | with_reducible refine ⟨_, _, opSub_i, ?_⟩
  | with_reducible refine ⟨_, _, opAdd_i, ?_⟩
  | with_reducible refine ⟨_, _, opNe_i, ?_⟩
  | with_reducible refine ⟨_, _, opEq_i, ?_⟩
  | with_reducible refine ⟨_, _, opMod_i (by decide), ?_⟩
  | with_reducible refine ⟨_, _, opDiv_i ⟨by decide, by decide⟩, ?_⟩
  | ((with_reducible refine And.intro ?_ ?_); · rfl)
  | ((fail_if_success (with_reducible refine And.intro ?_ ?_)); (fail_if_success (with_reducible refine OK.imp (Q := fun _ _ => True) ?_ ?_)); (fail_if_success (with_reducible refine SOK.imp (Qn := fun _ _ => True) (Qr := fun _ _ => True) ?_ ?_ ?_)); walk_at "e"))

open PK LA
open LB (isPt_red)
theorem e_lred : F_law_reduced = LA.F_law_reduced := rfl
noncomputable def t7a : DS :=
  (sSeq (sAsg (dLst (dCons (dCall 3 F_law_said (dCons (dC (.str "point")) (dCons (dVar 7) (dCons (dVar 8) dNil)))) (dCons (dCall 3 F_law_said (dCons (dC (.str "point")) (dCons (dVar 8) (dCons (dVar 7) dNil)))) dNil))) (gNm 6))
    (sSeq (sAsg (dOp opAdd (dVar 6) (dLst (dCons (dCall 3 F_law_said (dCons (dC (.str "plane")) (dCons (dVar 7) (dCons (dVar 8) dNil)))) (dCons (dCall 3 F_law_said (dCons (dC (.str "plane")) (dCons (dVar 8) (dCons (dVar 7) dNil)))) dNil)))) (gNm 6))
    (sRet (dAnd (dOp opEq (dCB opRepr (dCons (dVar 6) dNil)) (dCB opRepr (dCons (dVar 5) dNil))) (dOp opEq (dCB opRepr (dCons (dCall 3 F_law_said (dCons (dC (.str "plane")) (dCons (dVar 7) (dCons (dVar 7) dNil)))) dNil)) (dCB opRepr (dCons (dTup (dCons (dC (.str "same")) dNil)) dNil)))))))
noncomputable def t7b : DS :=
  (sSeq (sIf (dB (dOp opNe (dVar 4) (dLst (dCons (dC (.int 0)) (dCons (dC (.int 0)) (dCons (dC (.int 0)) (dCons (dC (.int 0)) dNil))))))) (sSeq (sAsg (dCall 1 F_law_reduced (dCons (dVar 4) dNil)) (gNm 9))
    (sAsg (dLst (dCons (dTup (dCons (dC (.str "told")) (dCons (dVar 1) (dCons (dVar 1) dNil)))) (dCons (dTup (dCons (dC (.str "told")) (dCons (dVar 1) (dCons (dVar 1) dNil)))) (dCons (dTup (dCons (dC (.str "told")) (dCons (dVar 9) (dCons (dVar 9) dNil)))) (dCons (dTup (dCons (dC (.str "told")) (dCons (dVar 9) (dCons (dVar 9) dNil)))) dNil))))) (gNm 5))) sNil)
    t7a)
theorem sk_tryN {mb : DS} {cs : List DCl} {ys : List Str} {e : DEnv} {h : HS} {Qn : DEnv → HS → Prop} {Qr : D → HS → Prop} (p : SOK (mb e h) Qn Qr) : SOK (sTryN mb cs ys e h) Qn Qr := by
  unfold sTryN
  cases z : mb e h with
  | next e' h' => rw [z] at p; exact p
  | ret d h' => rw [z] at p; exact p
  | _ => rw [z] at p; exact p.elim
def toldD (X : List Int) : D := .tup [.str "told", .tup (iL X), .tup (iL X)]
def wordD (w : Str) : D := .tup [.str w]
def Said (w : Str) (a b : List Int) (d : D) : Prop := ∀ h : HS, OK (F_law_said [.str w, .tup (iL a), .tup (iL b)] h) fun v h' => v = d ∧ ∃ g, h' = h ++ g
theorem shown_lit (s : String) {n k b : Nat} {h : HS} (c : (Str.ofString s).cps.size ≤ b) : Shown n k b h (.str s) := ⟨_, toP_str, okP_text s, by simp [PyData.depth], by simp only [PyData.bulk]; exact c⟩
theorem shown_word (s : String) (c : (Str.ofString s).cps.size ≤ 10) : Shown 11 39 40 [] (wordD s) := by
  refine (shown_tup (n := 10) (k := 38) (b := 10) fun x hx => ?_).up (fun _ _ z => z) (by decide) (by decide) (by simp)
  rw [List.mem_singleton.mp hx]
  exact shown_lit s c
theorem shown_told {X : List Int} {k : Nat} (P : IsPt X) (b : BdL k X) (hk : k ≤ 1900) : Shown 11 39 40 [] (toldD X) := by
  refine (shown_tup (n := 10) (k := 38) (b := 10) fun x hx => ?_).up (fun _ _ z => z) (by decide) (by decide) (by simp)
  have r : Shown 10 38 10 [] (.tup (iL X)) := by
    refine (shown_tup (n := 9) (k := 37) (b := 0) fun x hx => ?_).up (fun _ _ z => z) (by decide) (by decide) (by rw [il_len, P.len]; decide)
    obtain ⟨y, hy, rfl⟩ := List.mem_map.mp hx
    exact shown_bd (b y hy) hk
  simp only [List.mem_cons, List.not_mem_nil, or_false] at hx
  rcases hx with rfl | rfl | rfl
  · exact shown_lit _ (by decide)
  · exact r
  · exact r
section
variable {a b : List Int} {k : Nat} (A : IsRod a) (B : IsRod b) (ba : BdL k a) (bb : BdL k b) (hk : k < 1000)
include A B ba bb hk
theorem said_point {X : List Int} (z : rp a b = 0) (ne : a ≠ b) (P : IsPt X) (oa : ¬ Nz (planeL a X)) (ob : ¬ Nz (planeL b X)) (k1 : 1 ≤ k) : Said "point" a b (toldD X) := by
  intro h
  unfold F_law_said m_law_said
  refine ok_run (sk_tryN (sk_seq (sk_if (ok_B (ok_op (ok_var rfl (ok_c ⟨_, _, opEq_s, _, rfl, fun _ => ?_, fun c => absurd c (by simp)⟩)))))))
  refine sk_ret (ok_tup (ok_cons (ok_c (ok_cons (ok_call (ok_cons (ok_var rfl (ok_cons (ok_var rfl (ok_nil ⟨rfl, ?_⟩)))))))))) 
  refine (meeting_point_ok A B ba bb hk z ne P oa ob k1).imp ?_
  rintro _ _ ⟨rfl, g1, rfl⟩
  refine ok_cons (ok_callK (ok_cons (ok_var rfl (ok_cons (ok_var rfl (ok_nil ⟨rfl, rfl, ?_⟩))))))
  refine (meeting_point_ok (a := a) (b := b) A B ba bb hk z ne P oa ob k1).imp ?_
  rintro _ _ ⟨rfl, g2, rfl⟩
  exact ok_nil ⟨by simp, rfl, g1 ++ g2, by simp⟩
theorem said_plane {S : List Int} (z : rp a b = 0) (ne : a ≠ b) (P : IsPt S) (ia : ¬ Nz (pointL a S)) (ib : ¬ Nz (pointL b S)) (k1 : 1 ≤ k) : Said "plane" a b (toldD S) := by
  intro h
  unfold F_law_said m_law_said
  refine ok_run (sk_tryN (sk_seq (sk_if (ok_B (ok_op (ok_var rfl (ok_c ⟨_, _, opEq_s, _, rfl, fun c => absurd c (by decide), fun _ => sk_nil ?_⟩)))))))
  refine sk_ret (ok_tup (ok_cons (ok_c (ok_cons (ok_call (ok_cons (ok_var rfl (ok_cons (ok_var rfl (ok_nil ⟨rfl, ?_⟩)))))))))) 
  refine (meeting_plane_ok A B ba bb hk z ne P ia ib k1).imp ?_
  rintro _ _ ⟨rfl, g1, rfl⟩
  refine ok_cons (ok_callK (ok_cons (ok_var rfl (ok_cons (ok_var rfl (ok_nil ⟨rfl, rfl, ?_⟩))))))
  refine (meeting_plane_ok (a := a) (b := b) A B ba bb hk z ne P ia ib k1).imp ?_
  rintro _ _ ⟨rfl, g2, rfl⟩
  exact ok_nil ⟨by simp, rfl, g1 ++ g2, by simp⟩
theorem said_apart (z : rp a b ≠ 0) : Said "point" a b (wordD "apart") ∧ Said "plane" a b (wordD "apart") := by
  have mk : ∀ H : HS, mkTup [D.str "apart"] H = .ok (wordD "apart") H := fun H => if_pos (by simp)
  refine ⟨fun h => ?_, fun h => ?_⟩
  · obtain ⟨g, e⟩ := (meeting_apart (h := h) A B ba bb hk z).1
    have e2 : F_law_said [.str "point", .tup (iL a), .tup (iL b)] h = .ok (wordD "apart") (h ++ g) := by
      unfold F_law_said m_law_said PI.run sTryN sSeq sIf sRet dTup dB dOp dCall dCallK
      simp [dCons, dVar, dNil, dC, Res.bind, Res.toS, e, opEq_s, pick, pickCl, clNo, calmS, apartE, sRet, lift, mk]
    exact OK.of e2 ⟨rfl, g, rfl⟩
  · obtain ⟨g, e⟩ := (meeting_apart (h := h) A B ba bb hk z).2
    have pl : (("plane" : Str) == "point") = false := by decide
    have e2 : F_law_said [.str "plane", .tup (iL a), .tup (iL b)] h = .ok (wordD "apart") (h ++ g) := by
      unfold F_law_said m_law_said PI.run sTryN sSeq sIf sRet dTup dB dOp dCall dCallK sNil
      simp [dCons, dVar, dNil, dC, Res.bind, Res.toS, e, opEq_s, pl, pick, pickCl, clNo, calmS, apartE, sRet, lift, mk]
    exact OK.of e2 ⟨rfl, g, rfl⟩
end
theorem said_same {a : List Int} {k : Nat} (A : IsRod a) (ba : BdL k a) (hk : k < 1000) : Said "point" a a (wordD "same") ∧ Said "plane" a a (wordD "same") := by
  have mk : ∀ H : HS, mkTup [D.str "same"] H = .ok (wordD "same") H := fun H => if_pos (by simp)
  have ne : ¬ (("Same" : Str) = "Apart") := by decide
  refine ⟨fun h => ?_, fun h => ?_⟩
  · obtain ⟨g, e⟩ := (meeting_same (h := h) A ba hk).1
    have e2 : F_law_said [.str "point", .tup (iL a), .tup (iL a)] h = .ok (wordD "same") (h ++ g) := by
      unfold F_law_said m_law_said PI.run sTryN sSeq sIf sRet dTup dB dOp dCall dCallK
      simp [dCons, dVar, dNil, dC, Res.bind, Res.toS, e, opEq_s, pick, pickCl, clNo, calmS, sameE, sRet, lift, mk, ne]
    exact OK.of e2 ⟨rfl, g, rfl⟩
  · obtain ⟨g, e⟩ := (meeting_same (h := h) A ba hk).2
    have pl : (("plane" : Str) == "point") = false := by decide
    have e2 : F_law_said [.str "plane", .tup (iL a), .tup (iL a)] h = .ok (wordD "same") (h ++ g) := by
      unfold F_law_said m_law_said PI.run sTryN sSeq sIf sRet dTup dB dOp dCall dCallK sNil
      simp [dCons, dVar, dNil, dC, Res.bind, Res.toS, e, opEq_s, pl, pick, pickCl, clNo, calmS, sameE, sRet, lift, mk, ne]
    exact OK.of e2 ⟨rfl, g, rfl⟩
/-- the last rows of the first part, whatever is due -/
theorem t7a_ok {n r : Nat} {a b : List Int} {v1 v2 v3 v4 v6 v9 : Option D} {w1 w2 : D} {H : HS} (W : Well n H) (q : H[r]? = some [w1, w1, w2, w2]) (s1 : Said "point" a b w1) (s2 : Said "point" b a w1) (s3 : Said "plane" a b w2) (s4 : Said "plane" b a w2) (s5 : Said "plane" a a (wordD "same")) (h1 : Shown 11 39 40 [] w1) (h2 : Shown 11 39 40 [] w2) :
    SOK (t7a [some (.ref n), v1, v2, v3, v4, some (.ref r), v6, some (.tup (iL a)), some (.tup (iL b)), v9] H) (fun _ _ => False) fun v h' => v = .bl true ∧ Ext n H h' := by
  obtain ⟨Y, hY⟩ := repr_cells (h := []) (l := [w1, w1, w2, w2]) (b := 40) (fun x hx => by
    simp only [List.mem_cons, List.not_mem_nil, or_false] at hx
    rcases hx with e | e | e | e <;> rw [e] <;> assumption) (by simp)
  obtain ⟨Z, hZ⟩ := repr_tup (h := []) (l := [.str "same"]) (b := 10) (fun x hx => by
    rw [List.mem_singleton.mp hx]
    exact shown_lit _ (by decide)) (by simp)
  have rl := (List.getElem?_eq_some_iff.mp q).1
  unfold t7a
  refine sk_seq (sk_asg (ok_lst (ok_cons (ok_call (ok_cons (ok_c (ok_cons (ok_var rfl (ok_cons (ok_var rfl (ok_nil ⟨rfl, ?_⟩)))))))))) )
  refine (s1 _).imp ?_
  rintro x1 _ ⟨e1, g1, rfl⟩
  replace e1 := e1.symm
  subst e1
  refine ok_cons (ok_call (ok_cons (ok_c (ok_cons (ok_var rfl (ok_cons (ok_var rfl (ok_nil ⟨rfl, ?_⟩))))))))
  refine (s2 _).imp ?_
  rintro x2 _ ⟨e2, g2, rfl⟩
  replace e2 := e2.symm
  subst e2
  refine ok_nil ⟨by simp, _, _, gNm1, ?_⟩
  refine sk_seq (sk_asg (ok_op (ok_var rfl (ok_lst (ok_cons (ok_call (ok_cons (ok_c (ok_cons (ok_var rfl (ok_cons (ok_var rfl (ok_nil ⟨rfl, ?_⟩)))))))))) )))
  refine (s3 _).imp ?_
  rintro x3 _ ⟨e3, g3, rfl⟩
  replace e3 := e3.symm
  subst e3
  refine ok_cons (ok_call (ok_cons (ok_c (ok_cons (ok_var rfl (ok_cons (ok_var rfl (ok_nil ⟨rfl, ?_⟩))))))))
  refine (s4 _).imp ?_
  rintro x4 _ ⟨e4, g4, rfl⟩
  replace e4 := e4.symm
  subst e4
  refine ok_nil ⟨by simp, _, _, opAdd_r (l := [w1, w1]) (m := [w2, w2]) (by have := getapp2 (h := H ++ g1 ++ g2) (x := [w1, w1]) (g := g3 ++ (g4 ++ [[w2, w2]])); simpa only [List.append_assoc] using this) (getapp (g := [])) (by simp), ?_⟩
  refine ⟨_, _, gNm1, ?_⟩
  refine sk_ret (ok_and (ok_B (ok_op (ok_cb (ok_cons (ok_var rfl (ok_nil ⟨_, _, hY _ _ pre0 (getapp (g := [])), ?_⟩)))))))
  refine ok_cb (ok_cons (ok_var rfl (ok_nil ⟨_, _, hY _ _ pre0 (by simp only [List.append_assoc]; rw [List.getElem?_append_left rl, q]), ?_⟩)))
  refine ⟨_, _, opEq_s, _, rfl, fun _ => ?_, fun c => absurd c (by simp)⟩
  refine ok_op (ok_cb (ok_cons (ok_call (ok_cons (ok_c (ok_cons (ok_var rfl (ok_cons (ok_var rfl (ok_nil ⟨rfl, ?_⟩)))))))))) 
  refine (s5 _).imp ?_
  rintro x5 _ ⟨e5, g5, rfl⟩
  replace e5 := e5.symm
  subst e5
  refine ok_nil ⟨_, _, hZ _ pre0, ?_⟩
  refine ok_cb (ok_cons (ok_tup (ok_cons (ok_c (ok_nil ⟨by simp, ok_nil ⟨_, _, hZ _ pre0, ?_⟩⟩)))))
  refine ⟨_, _, opEq_s, by simp, ?_⟩
  simp only [List.append_assoc]
  exact Ext.app W

end K07

set_option maxHeartbeats 4000000
namespace K07
open PySem L2 PySem.Spec PI
local macro_rules | `(tactic| walk_at "b") => `(tactic| first
  | with_reducible assumption
  | (with_reducible refine Bd.mul ?_ ?_) <;> walk_at "b"
  | (with_reducible refine Bd.sub ?_ ?_) <;> walk_at "b"
  | (with_reducible refine Bd.add ?_ ?_) <;> walk_at "b"
  | (with_reducible refine Bd.neg ?_) <;> walk_at "b"
  | exact natAbs_lt (k := 40) (by decide))
local macro_rules | `(tactic| walk_at "m") => `(tactic| (apply Bd.ok <;> first | walk_at "b" | decide | omega))
local macro_rules | `(tactic| walk_at "p") => `(tactic| (first | exact pre_self | assumption | (refine pre_app ?_; walk_at "p")))
local macro_rules | `(tactic| walk_at "e") => `(tactic| first
  | refine ⟨_, _, opMul_i (.inl ⟨by decide, by decide⟩), ?_⟩
  | refine ⟨_, _, opMul_i (.inr (.inl ⟨by decide, by decide⟩)), ?_⟩
  | (refine ⟨_, _, opMul_i ?_, ?_⟩; · walk_at "m")
  | refine ⟨_, _, rfl, ?_⟩
  | refine ⟨_, rfl, ?_⟩
  | refine ⟨rfl, ?_⟩
  | refine ⟨rfl, rfl, ?_⟩)
local macro_rules | `(tactic| walk_at "d") => `(tactic| first
  | with_reducible refine ok_c ?_
  | with_reducible refine ok_var rfl ?_
  | with_reducible refine ok_op ?_
  | with_reducible refine ok_un ?_
  | with_reducible refine ok_nil ?_
  | with_reducible refine ok_cons ?_
  | with_reducible refine ok_tup ?_
  | with_reducible refine ok_lst ?_
  | with_reducible refine ok_cb ?_
  | with_reducible refine ok_call ?_
  | with_reducible refine ok_callK ?_
  | with_reducible refine ok_sl ?_
  | with_reducible refine ok_nopart ?_
  | with_reducible refine ok_part ?_
  | with_reducible refine ok_B ?_
  | with_reducible refine ok_andT ?_
  | with_reducible refine ok_orT ?_
  | with_reducible refine ok_notT ?_
  | with_reducible refine ok_and ?_
  | with_reducible refine ok_or ?_
  | with_reducible refine ok_not ?_
  | with_reducible refine ok_if ?_
  | with_reducible refine ok_app ?_
  | with_reducible refine ok_lc ?_
  | with_reducible refine ok_yes ?_
  | with_reducible refine ok_src ?_
  | with_reducible refine ok_rng1 ?_
  | with_reducible refine ok_rng2 ?_
  | with_reducible refine ok_zip ?_
  | with_reducible refine sk_nil ?_
  | with_reducible refine sk_seq ?_
  | with_reducible refine sk_ret ?_
  | with_reducible refine sk_drop ?_
  | with_reducible refine sk_if ?_
  | with_reducible refine sk_asg ?_
  | with_reducible refine sk_par ?_
  | with_reducible refine sk_par3 ?_
  | with_reducible refine sk_for ?_
  | with_reducible refine ⟨_, _, gNm1, ?_⟩
  | with_reducible refine ⟨_, _, gUn2, ?_⟩
  | with_reducible refine ⟨_, _, gUn3, ?_⟩
  | with_reducible refine ⟨_, _, opSub_i, ?_⟩
  | with_reducible refine ⟨_, _, opAdd_i, ?_⟩
  | with_reducible refine ⟨_, _, opNe_i, ?_⟩
  | with_reducible refine ⟨_, _, opEq_i, ?_⟩
  | with_reducible refine ⟨_, _, opMod_i (by decide), ?_⟩
  | with_reducible refine ⟨_, _, opDiv_i ⟨by decide, by decide⟩, ?_⟩
  | ((with_reducible refine And.intro ?_ ?_); · rfl)
  | ((fail_if_success (with_reducible refine And.intro ?_ ?_)); (fail_if_success (with_reducible refine OK.imp (Q := fun _ _ => True) ?_ ?_)); (fail_if_success (with_reducible refine SOK.imp (Qn := fun _ _ => True) (Qr := fun _ _ => True) ?_ ?_ ?_)); walk_at "e"))

open PK LA
open LB (isPt_red gI_zero zero_nz)
theorem dot_min {P Q c : List Int} (p : P.length = 4) (q : Q.length = 4) (l : c.length = 4) : dotL P (minL P Q c) = 0 ∧ dotL Q (minL P Q c) = 0 ∧ dotL c (minL P Q c) = 0 := by
  refine ⟨?_, ?_, ?_⟩
  · rw [dotg p rfl]
    simp only [minL, gI, List.getD_cons_zero, List.getD_cons_succ]
    grind
  · rw [dotg q rfl]
    simp only [minL, gI, List.getD_cons_zero, List.getD_cons_succ]
    grind
  · rw [dotg l rfl]
    simp only [minL, gI, List.getD_cons_zero, List.getD_cons_succ]
    grind
theorem line_on0 (x y : List Int) : ¬ Nz (planeL (lineL x y) x) := by
  rintro ⟨p, hp, p0⟩
  simp only [planeL, List.mem_cons, List.not_mem_nil, or_false] at hp
  apply p0
  simp only [lineL, gI, List.getD_cons_zero, List.getD_cons_succ] at hp
  rcases hp with rfl | rfl | rfl | rfl <;> grind
theorem red_on {l x : List Int} (n : Nz l) (h : ¬ Nz (planeL l x)) : ¬ Nz (planeL (redF l) x) := by
  rw [← redF_back n, planeL_mul, nz_mul_iff (facN_nz n)] at h
  exact h
theorem red_in {l x : List Int} (n : Nz l) (h : ¬ Nz (pointL l x)) : ¬ Nz (pointL (redF l) x) := by
  rw [← redF_back n, pointL_mul, nz_mul_iff (facN_nz n)] at h
  exact h
theorem in_line {a b s : List Int} (la : a.length = 4) (lb : b.length = 4) (ls : s.length = 4) (nz : Nz (lineL a b)) (z1 : dotL a s = 0) (z2 : dotL b s = 0) : ¬ Nz (pointL (redF (lineL a b)) s) := by
  refine red_in nz ?_
  rw [point_line la lb ls, z1, z2]
  obtain ⟨a0, a1, a2, a3, rfl⟩ := four la
  obtain ⟨b0, b1, b2, b3, rfl⟩ := four lb
  rintro ⟨y, hy, y0⟩
  simp [difL] at hy
  exact y0 hy
theorem min_plane {P Q c : List Int} (n : Nz (lineL P Q)) : ¬ Nz (minL P Q c) ↔ ¬ Nz (planeL (redF (lineL P Q)) c) := not_congr (plane_beam n).1.symm
/-- two rods through one point, not in one line -/
theorem fork {P Q c : List Int} (p : IsPt P) (q : IsPt Q) (l : IsPt c) (ne1 : P ≠ Q) (ne2 : P ≠ c) (nz : Nz (minL P Q c)) :
    rp (redF (lineL P Q)) (redF (lineL P c)) = 0 ∧ redF (lineL P Q) ≠ redF (lineL P c) ∧ ¬ Nz (planeL (redF (lineL P Q)) P) ∧ ¬ Nz (planeL (redF (lineL P c)) P) ∧ ¬ Nz (pointL (redF (lineL P Q)) (redF (minL P Q c))) ∧ ¬ Nz (pointL (redF (lineL P c)) (redF (minL P Q c))) := by
  have n1 := line_nz p q ne1
  have n2 := line_nz p l ne2
  obtain ⟨d1, d2, d3⟩ := dot_min p.len q.len l.len
  refine ⟨?_, fun e => ?_, red_on n1 (line_on0 _ _), red_on n2 (line_on0 _ _), nz_redp nz (in_line p.len q.len rfl n1 d1 d2), nz_redp nz (in_line p.len l.len rfl n2 d1 d3)⟩
  · have e := rp_back n1 n2
    rw [line_meet] at e
    exact zero_of_mul (Int.mul_ne_zero (facN_nz n1) (facN_nz n2)) e.symm
  · have := red_on n2 (line_on P c)
    rw [← e] at this
    exact (min_plane n1).mpr this nz
theorem fork_not {P Q c : List Int} (p : IsPt P) (q : IsPt Q) (l : IsPt c) (ne1 : P ≠ Q) (ne2 : P ≠ c) (nz : ¬ Nz (minL P Q c)) : redF (lineL P c) = redF (lineL P Q) :=
  on_unique (line_rod p q ne1) p l ne2 (red_on (line_nz p q ne1) (line_on0 _ _)) ((min_plane (line_nz p q ne1)).mp nz)
theorem four_z {m : List Int} (l : m.length = 4) : (!(m == [0, 0, 0, 0])) = true ↔ Nz m := by
  obtain ⟨a, b, c, d, rfl⟩ := four l
  unfold Nz
  simp
theorem through_ok {n : Nat} {h : HS} (W : Well n h) : OK (F_law_through_point [.ref n] h) fun v h' => v = .bl true ∧ Ext n h h' := by
  have e0 : m_law_through_point = (sSeq (sAsg (dCall 1 F_law_place (dCons (dVar 0) dNil)) (gNm 1))
    (sSeq (sAsg (dCall 2 F_law_unlike (dCons (dVar 0) (dCons (dVar 1) dNil))) (gNm 2))
    (sSeq (sAsg (dIf (dB (dOp opEq (dCall 2 F_law_draw (dCons (dVar 0) (dCons (dC (.int 5)) dNil))) (dC (.int 0)))) (dCall 2 F_law_mixed (dCons (dVar 0) (dCons (dLst (dCons (dVar 1) (dCons (dVar 2) dNil))) dNil))) (dCall 1 F_law_place (dCons (dVar 0) dNil))) (gNm 3))
    (sSeq (sAsg (dIf (dB (dOp opNe (dVar 3) (dVar 1))) (dVar 3) (dVar 2)) (gNm 3))
    (sSeq (sPar 7 8 (dCons (dCall 1 F_law_reduced (dCons (dCall 2 F_law_line (dCons (dVar 1) (dCons (dVar 2) dNil))) dNil)) (dCons (dCall 1 F_law_reduced (dCons (dCall 2 F_law_line (dCons (dVar 1) (dCons (dVar 3) dNil))) dNil)) dNil)))
    (sSeq (sAsg (dCall 3 F_law_minors (dCons (dVar 1) (dCons (dVar 2) (dCons (dVar 3) dNil)))) (gNm 4))
    (sSeq (sAsg (dOp opMul (dLst (dCons (dTup (dCons (dC (.str "same")) dNil)) dNil)) (dC (.int 4))) (gNm 5)) t7b))))))) := rfl
  unfold F_law_through_point
  rw [e0]
  simp only [e_place, e_unlike, e_draw, e_mixed, e_lred, e_line, e_minors]
  refine ok_run ?_
  refine sk_seq (sk_asg (ok_call (ok_cons (ok_var rfl (ok_nil ⟨rfl, ?_⟩)))))
  refine (place_ok W).imp ?_
  rintro _ h1 ⟨E1, P, rfl, p, bP⟩
  refine ⟨_, _, gNm1, ?_⟩
  refine sk_seq (sk_asg (ok_call (ok_cons (ok_var rfl (ok_cons (ok_var rfl (ok_nil ⟨rfl, ?_⟩)))))))
  refine (unlike_ok E1.well).imp ?_
  rintro _ h2 ⟨E2, Q, rfl, q, bQ, ne⟩
  have ne : P ≠ Q := fun z => ne z.symm
  refine ⟨_, _, gNm1, ?_⟩
  have key : OK ((dIf (dB (dOp opEq (dCall 2 LA.F_law_draw (dCons (dVar 0) (dCons (dC (.int 5)) dNil))) (dC (.int 0)))) (dCall 2 LA.F_law_mixed (dCons (dVar 0) (dCons (dLst (dCons (dVar 1) (dCons (dVar 2) dNil))) dNil))) (dCall 1 LA.F_law_place (dCons (dVar 0) dNil))) [some (.ref n), some (.tup (iL P)), some (.tup (iL Q)), none, none, none, none, none, none, none] h2) fun v h' => Ext n h2 h' ∧ ∃ c, v = .tup (iL c) ∧ IsPt c ∧ BdL 20 c := by
    refine ok_if (ok_B (ok_op (ok_call (ok_cons (ok_var rfl (ok_cons (ok_c (ok_nil ⟨rfl, ?_⟩))))))))
    refine (drawE E2.well (by decide) (by decide)).imp ?_
    rintro _ h3 ⟨i, rfl, i0, i1, E3, L3⟩
    refine ok_c ⟨_, _, opEq_i, _, rfl, fun _ => ?_, fun _ => ?_⟩
    · refine ok_call (ok_cons (ok_var rfl (ok_cons (ok_lst (ok_cons (ok_var rfl (ok_cons (ok_var rfl (ok_nil ⟨by simp, ok_nil ⟨rfl, ?_⟩⟩)))))))))
      have W4 := E3.well.lt
      refine (mixed_ok (k := 10) (rows := [P, Q]) (Ext.app E3.well).well (by omega) (getapp (g := [])) (by simp) (by simp) ?_ (by decide)).imp ?_
      · intro y hp
        simp only [List.mem_cons, List.not_mem_nil, or_false] at hp
        rcases hp with e | e <;> rw [e]
        · exact ⟨p, bP⟩
        · exact ⟨q, bQ⟩
      rintro _ h5 ⟨E5, c, rfl, C, bc⟩
      exact ⟨E3.trans ((Ext.app E3.well).trans E5), c, rfl, C, bc.mono (by decide)⟩
    · refine ok_call (ok_cons (ok_var rfl (ok_nil ⟨rfl, ?_⟩)))
      refine (place_ok E3.well).imp ?_
      rintro _ h5 ⟨E5, c, rfl, C, bc⟩
      exact ⟨E3.trans E5, c, rfl, C, bc.mono (by decide)⟩
  refine sk_seq (sk_asg (key.imp ?_))
  rintro _ h3 ⟨E3, c0, rfl, C0, bc0⟩
  refine ⟨_, _, gNm1, ?_⟩
  have key2 : OK (dIf (dB (dOp opNe (dVar 3) (dVar 1))) (dVar 3) (dVar 2) [some (.ref n), some (.tup (iL P)), some (.tup (iL Q)), some (.tup (iL c0)), none, none, none, none, none, none] h3) fun v h' => h' = h3 ∧ ∃ c, v = .tup (iL c) ∧ IsPt c ∧ BdL 20 c ∧ P ≠ c := by
    refine ok_if (ok_B (ok_op (ok_var rfl (ok_var rfl ⟨_, _, opNe_il, _, rfl, fun c => ?_, fun c => ?_⟩))))
    · exact ok_var rfl ⟨rfl, c0, rfl, C0, bc0, fun z => by rw [z] at c; simp at c⟩
    · exact ok_var rfl ⟨rfl, Q, rfl, q, bQ.mono (by decide), ne⟩
  refine sk_seq (sk_asg (key2.imp ?_))
  rintro _ _ ⟨rfl, c, rfl, C, bc, nc⟩
  rename_i h3
  refine ⟨_, _, gNm1, ?_⟩
  refine sk_seq (sk_par (ok_cons (ok_call (ok_cons (ok_call (ok_cons (ok_var rfl (ok_cons (ok_var rfl (ok_nil ⟨rfl, ?_⟩)))))))))) 
  refine (line_ok p.len q.len bP bQ (by decide)).imp ?_
  rintro _ _ ⟨rfl, g1, rfl⟩
  refine ok_nil ⟨rfl, ?_⟩
  refine (LA.reduced_ok (k := 40) (by simp [lineL]) ((line_bd bP bQ).mono (by decide)) (by decide)).imp ?_
  rintro _ _ ⟨rfl, g2, rfl⟩
  refine ok_cons (ok_call (ok_cons (ok_call (ok_cons (ok_var rfl (ok_cons (ok_var rfl (ok_nil ⟨rfl, ?_⟩)))))))) 
  refine (line_ok p.len C.len bP bc (by decide)).imp ?_
  rintro _ _ ⟨rfl, g3, rfl⟩
  refine ok_nil ⟨rfl, ?_⟩
  refine (LA.reduced_ok (k := 40) (by simp [lineL]) ((line_bd bP bc).mono (by decide)) (by decide)).imp ?_
  rintro _ _ ⟨rfl, g4, rfl⟩
  refine ok_nil ⟨_, _, rfl, ?_⟩
  refine sk_seq (sk_asg (ok_call (ok_cons (ok_var rfl (ok_cons (ok_var rfl (ok_cons (ok_var rfl (ok_nil ⟨rfl, ?_⟩)))))))))
  refine (minors_ok p.len q.len C.len (bP.mono (by decide)) (bQ.mono (by decide)) bc (by decide)).imp ?_
  rintro _ _ ⟨r, g5, rfl, rfl, hlr, qr⟩
  refine ⟨_, _, gNm1, ?_⟩
  have A := line_rod p q ne
  have B := line_rod p C nc
  have ba : BdL 40 (redF (lineL P Q)) := redF_bd ((line_bd bP bQ).mono (by decide))
  have bb : BdL 40 (redF (lineL P c)) := redF_bd ((line_bd bP bc).mono (by decide))
  have bm : BdL 70 (minL P Q c) := (min_bd (bP.mono (by decide)) (bQ.mono (by decide)) bc).mono (by decide)
  have E4 : Ext n h (h3 ++ g1 ++ g2 ++ g3 ++ g4 ++ g5) := ((E1.trans E2).trans E3).trans (by simp only [List.append_assoc]; exact Ext.app E3.well)
  generalize h3 ++ g1 ++ g2 ++ g3 ++ g4 ++ g5 = H at *
  have rlt := (List.getElem?_eq_some_iff.mp qr).1
  refine sk_seq (sk_asg (ok_op (ok_lst (ok_cons (ok_tup (ok_cons (ok_c (ok_nil ⟨by simp, ok_nil ⟨by simp, ?_⟩⟩)))))))) 
  refine ok_c ⟨_, _, opMul_rep (getapp (g := [])) ⟨by decide, by decide, by simp⟩, ?_⟩
  refine ⟨_, _, gNm1, ?_⟩
  have qr2 : ∀ g : HS, (H ++ g)[r]? = some (iL (minL P Q c)) := fun g => by rw [List.getElem?_append_left rlt, qr]
  unfold t7b
  simp only [e_lred]
  refine sk_seq (sk_if (ok_B (ok_op (ok_var rfl (ok_lst ?_)))))
  refine ok_cons (ok_c (ok_cons (ok_c (ok_cons (ok_c (ok_cons (ok_c (ok_nil ⟨by simp, ?_⟩))))))))
  refine ⟨_, _, opNe_rl (a := minL P Q c) (b := [0, 0, 0, 0]) (by simp only [List.append_assoc]; exact qr2 _) (getapp (g := [])), _, rfl, fun nz => ?_, fun nz => ?_⟩
  · have nz := (four_z rfl).mp nz
    obtain ⟨z, ne2, o1, o2, i1, i2⟩ := fork p q C ne nc nz
    have S := isPt_red (L := minL P Q c) rfl nz
    have bS := redF_bd bm
    refine sk_seq (sk_asg (ok_call (ok_cons (ok_var rfl (ok_nil ⟨rfl, ?_⟩)))))
    refine (reduced_ref (ns := minL P Q c) (by simp only [List.append_assoc]; exact qr2 _) (by simp [minL]) bm (by decide)).imp ?_
    rintro _ _ ⟨rfl, g6, rfl⟩
    refine ⟨_, _, gNm1, ?_⟩
    refine sk_asg (ok_lst ?_)
    refine ok_cons (ok_tup (ok_cons (ok_c (ok_cons (ok_var rfl (ok_cons (ok_var rfl (ok_nil ⟨by simp, ?_⟩))))))))
    refine ok_cons (ok_tup (ok_cons (ok_c (ok_cons (ok_var rfl (ok_cons (ok_var rfl (ok_nil ⟨by simp, ?_⟩))))))))
    refine ok_cons (ok_tup (ok_cons (ok_c (ok_cons (ok_var rfl (ok_cons (ok_var rfl (ok_nil ⟨by simp, ?_⟩))))))))
    refine ok_cons (ok_tup (ok_cons (ok_c (ok_cons (ok_var rfl (ok_cons (ok_var rfl (ok_nil ⟨by simp, ?_⟩))))))))
    refine ok_nil ⟨by simp, _, _, gNm1, ?_⟩
    have E5 : ∀ g : HS, Ext n h (H ++ g) := fun g => E4.trans (Ext.app E4.well)
    refine (t7a_ok (w1 := toldD P) (w2 := toldD (redF (minL P Q c))) (by simp only [List.append_assoc]; exact (E5 _).well) (getapp (g := [])) ?_ ?_ ?_ ?_ (said_same A ba (by decide)).2 (shown_told p bP (by decide)) (shown_told S bS (by decide))).imp (fun _ _ z => z.elim) ?_
    · exact said_point A B ba bb (by decide) z ne2 p o1 o2 (by decide)
    · exact said_point B A bb ba (by decide) (by rw [rp_comm]; exact z) ne2.symm p o2 o1 (by decide)
    · exact said_plane A B ba bb (by decide) z ne2 S i1 i2 (by decide)
    · exact said_plane B A bb ba (by decide) (by rw [rp_comm]; exact z) ne2.symm S i2 i1 (by decide)
    · rintro v h' ⟨rfl, E⟩
      refine ⟨rfl, E4.trans (Ext.trans (by simp only [List.append_assoc]; exact Ext.app E4.well) E)⟩
  · have nz : ¬ Nz (minL P Q c) := fun z => by rw [(four_z rfl).mpr z] at nz; cases nz
    have e := fork_not p q C ne nc nz
    rw [e]
    refine sk_nil ?_
    have s := said_same A ba (by decide)
    have E5 : ∀ g : HS, Ext n h (H ++ g) := fun g => E4.trans (Ext.app E4.well)
    refine (t7a_ok (r := (H ++ [[wordD "same"]]).length) (w1 := wordD "same") (w2 := wordD "same") (by simp only [List.append_assoc]; exact (E5 _).well) (by have := getapp2 (h := H ++ [[wordD "same"]]) (x := List.replicate 4 (wordD "same")) (g := [iL [0, 0, 0, 0]]); exact this) s.1 s.1 s.2 s.2 s.2 (shown_word _ (by decide)) (shown_word _ (by decide))).imp (fun _ _ z => z.elim) ?_
    rintro v h' ⟨rfl, E⟩
    refine ⟨rfl, E4.trans (Ext.trans (by simp only [List.append_assoc]; exact Ext.app E4.well) E)⟩

end K07

set_option maxHeartbeats 4000000
namespace K07
open PySem L2 PySem.Spec PI
local macro_rules | `(tactic| walk_at "b") => `(tactic| first
  | with_reducible assumption
  | (with_reducible refine Bd.mul ?_ ?_) <;> walk_at "b"
  | (with_reducible refine Bd.sub ?_ ?_) <;> walk_at "b"
  | (with_reducible refine Bd.add ?_ ?_) <;> walk_at "b"
  | (with_reducible refine Bd.neg ?_) <;> walk_at "b"
  | exact natAbs_lt (k := 40) (by decide))
local macro_rules | `(tactic| walk_at "m") => `(tactic| (apply Bd.ok <;> first | walk_at "b" | decide | omega))
local macro_rules | `(tactic| walk_at "p") => `(tactic| (first | exact pre_self | assumption | (refine pre_app ?_; walk_at "p")))
local macro_rules | `(tactic| walk_at "e") => `(tactic| first
  | refine ⟨_, _, opMul_i (.inl ⟨by decide, by decide⟩), ?_⟩
  | refine ⟨_, _, opMul_i (.inr (.inl ⟨by decide, by decide⟩)), ?_⟩
  | (refine ⟨_, _, opMul_i ?_, ?_⟩; · walk_at "m")
  | refine ⟨_, _, rfl, ?_⟩
  | refine ⟨_, rfl, ?_⟩
  | refine ⟨rfl, ?_⟩
  | refine ⟨rfl, rfl, ?_⟩)
local macro_rules | `(tactic| walk_at "d") => `(tactic| first
  | with_reducible refine ok_c ?_
  | with_reducible refine ok_var rfl ?_
  | with_reducible refine ok_op ?_
  | with_reducible refine ok_un ?_
  | with_reducible refine ok_nil ?_
  | with_reducible refine ok_cons ?_
  | with_reducible refine ok_tup ?_
  | with_reducible refine ok_lst ?_
  | with_reducible refine ok_cb ?_
  | with_reducible refine ok_call ?_
  | with_reducible refine ok_callK ?_
  | with_reducible refine ok_sl ?_
  | with_reducible refine ok_nopart ?_
  | with_reducible refine ok_part ?_
  | with_reducible refine ok_B ?_
  | with_reducible refine ok_andT ?_
  | with_reducible refine ok_orT ?_
  | with_reducible refine ok_notT ?_
  | with_reducible refine ok_and ?_
  | with_reducible refine ok_or ?_
  | with_reducible refine ok_not ?_
  | with_reducible refine ok_if ?_
  | with_reducible refine ok_app ?_
  | with_reducible refine ok_lc ?_
  | with_reducible refine ok_yes ?_
  | with_reducible refine ok_src ?_
  | with_reducible refine ok_rng1 ?_
  | with_reducible refine ok_rng2 ?_
  | with_reducible refine ok_zip ?_
  | with_reducible refine sk_nil ?_
  | with_reducible refine sk_seq ?_
  | with_reducible refine sk_ret ?_
  | with_reducible refine sk_drop ?_
  | with_reducible refine sk_if ?_
  | with_reducible refine sk_asg ?_
  | with_reducible refine sk_par ?_
  | with_reducible refine sk_par3 ?_
  | with_reducible refine sk_for ?_
  | with_reducible refine ⟨_, _, gNm1, ?_⟩
  | with_reducible refine ⟨_, _, gUn2, ?_⟩
  | with_reducible refine ⟨_, _, gUn3, ?_⟩
  | with_reducible refine ⟨_, _, opSub_i, ?_⟩
  | with_reducible refine ⟨_, _, opAdd_i, ?_⟩
  | with_reducible refine ⟨_, _, opNe_i, ?_⟩
  | with_reducible refine ⟨_, _, opEq_i, ?_⟩
  | with_reducible refine ⟨_, _, opMod_i (by decide), ?_⟩
  | with_reducible refine ⟨_, _, opDiv_i ⟨by decide, by decide⟩, ?_⟩
  | ((with_reducible refine And.intro ?_ ?_); · rfl)
  | ((fail_if_success (with_reducible refine And.intro ?_ ?_)); (fail_if_success (with_reducible refine OK.imp (Q := fun _ _ => True) ?_ ?_)); (fail_if_success (with_reducible refine SOK.imp (Qn := fun _ _ => True) (Qr := fun _ _ => True) ?_ ?_ ?_)); walk_at "e"))

open PK LA
open LB (isPt_red gI_zero zero_nz)
/-- [f(x) for x in xs] over a cell, f giving rows -/
theorem lc_map {r i j : Nat} {xs : List D} {rows : List (List Int)} {te : DE} {e : DEnv} {h : HS} {Q : D → HS → Prop} (q : h[r]? = some xs) (he : e[j]? = some (some (.ref r))) (hl : xs.length = rows.length) (hr : rows.length ≤ 1000)
    (step : ∀ (k : Nat) (d : D) (m : List Int) (g : HS), xs[k]? = some d → rows[k]? = some m → OK (te ((wipeD e [i]).set i (some d)) (h ++ g)) fun v h' => v = .tup (iL m) ∧ ∃ g', h' = h ++ g ++ g')
    (p : ∀ g, Q (.ref h.length) (h ++ [tL rows] ++ g)) : OK (dLc (dSrc (dVar j)) (gNm i) dYes te [i] e h) Q := by
  have rl := (List.getElem?_eq_some_iff.mp q).1
  have ql : ∀ g : HS, (h ++ g)[r]? = some xs := fun g => by rw [List.getElem?_append_left rl, q]
  refine ok_lc (ok_src (ok_var he (.inr (.inr ⟨r, rfl, rl, rows.length, fun k h' => ∃ g, h' = h ++ [tL (rows.take k)] ++ g, by simp [Src.size, q, hl], ⟨[], by simp [tL]⟩, ?_, ?_⟩))))
  · rintro k _ hk ⟨g, rfl⟩
    obtain ⟨d, hd⟩ := get_lt (l := xs) (i := k) (by omega)
    obtain ⟨m, hm⟩ := get_lt (l := rows) (i := k) hk
    refine ⟨d, ?_, _, _, gNm1, ok_yes ⟨fun _ => ?_, fun c => (by cases c)⟩⟩
    · show ((h ++ _ ++ g)[r]?).map _ = _
      rw [List.append_assoc, ql]
      exact congrArg some hd
    rw [List.append_assoc]
    refine (step k d m _ hd hm).imp ?_
    rintro _ _ ⟨rfl, g', rfl⟩
    have qc : (h ++ ([tL (rows.take k)] ++ g) ++ g')[h.length]? = some (tL (rows.take k)) := by simp
    refine ⟨_, qc, by rw [tl_len, List.length_take]; omega, g ++ g', ?_⟩
    have e1 : h ++ ([tL (rows.take k)] ++ g) ++ g' = h ++ [tL (rows.take k)] ++ (g ++ g') := by simp
    rw [e1, setapp2, tl_snoc, List.take_add_one, hm]
    rfl
  · rintro _ ⟨g, rfl⟩
    refine ⟨?_, ?_⟩
    · show ((h ++ _ ++ g)[r]?).map _ = _
      rw [List.append_assoc, ql]
      simp [hl]
    · rw [List.take_length]
      exact p g
theorem sw_cut (s t : List Int) : swL (cutL s t) = lineL s t := rfl
theorem nz_neg {l : List Int} : Nz (mulL (-1) l) ↔ Nz l := nz_mul_iff (by decide)
theorem dif_zero {a b : List Int} (la : a.length = 4) (lb : b.length = 4) : ¬ Nz (difL 0 a 0 b) := by
  obtain ⟨a0, a1, a2, a3, rfl⟩ := four la
  obtain ⟨b0, b1, b2, b3, rfl⟩ := four lb
  rintro ⟨y, hy, y0⟩
  simp [difL] at hy
  exact y0 hy
theorem on_cut {s t x : List Int} (ls : s.length = 4) (lt : t.length = 4) (lx : x.length = 4) (n : Nz (cutL s t)) (z1 : dotL s x = 0) (z2 : dotL t x = 0) : ¬ Nz (planeL (redF (cutL s t)) x) := by
  refine red_on n ?_
  rw [plane_sw, sw_cut, nz_neg, point_line ls lt lx, z1, z2]
  exact dif_zero ls lt
/-- two rods in one plane -/
theorem fan {s t u a b : List Int} (S : IsPt s) (T : IsPt t) (U : IsPt u) (st : s ≠ t) (su : s ≠ u) (A : IsRod a) (B : IsRod b) (ea : redF (cutL s t) = a) (eb : redF (cutL s u) = b) (ne : a ≠ b) :
    Nz (minL s t u) ∧ rp a b = 0 ∧ ¬ Nz (pointL a s) ∧ ¬ Nz (pointL b s) ∧ ¬ Nz (planeL a (redF (minL s t u))) ∧ ¬ Nz (planeL b (redF (minL s t u))) := by
  have n1 := cut_nz S T st
  have n2 := cut_nz S U su
  obtain ⟨d1, d2, d3⟩ := dot_min S.len T.len U.len
  have is1 : ¬ Nz (pointL (cutL s t) s) := by
    rw [point_sw, sw_cut, nz_neg]
    exact line_on0 _ _
  have is2 : ¬ Nz (pointL (cutL s u) s) := by
    rw [point_sw, sw_cut, nz_neg]
    exact line_on0 _ _
  have ia : ¬ Nz (pointL a s) := by rw [← ea]; exact red_in n1 is1
  have ib : ¬ Nz (pointL b s) := by rw [← eb]; exact red_in n2 is2
  have nz : Nz (minL s t u) := by
    apply Classical.byContradiction
    intro z
    have : ¬ Nz (pointL (cutL s t) u) := by
      rw [point_sw, sw_cut, nz_neg, plane_line, nz_neg]
      exact z
    have := red_in n1 this
    rw [ea] at this
    exact ne ((in_unique A S U su ia this).symm.trans eb)
  refine ⟨nz, ?_, ia, ib, ?_, ?_⟩
  · have e := rp_back n1 n2
    rw [ea, eb, ← rp_sw, sw_cut, sw_cut, line_meet] at e
    exact zero_of_mul (Int.mul_ne_zero (facN_nz n1) (facN_nz n2)) e.symm
  · rw [← ea]
    exact nz_red nz (on_cut S.len T.len rfl n1 d1 d2)
  · rw [← eb]
    exact nz_red nz (on_cut S.len U.len rfl n2 d1 d3)

end K07

set_option maxHeartbeats 4000000
namespace K07
open PySem L2 PySem.Spec PI
local macro_rules | `(tactic| walk_at "b") => `(tactic| first
  | with_reducible assumption
  | (with_reducible refine Bd.mul ?_ ?_) <;> walk_at "b"
  | (with_reducible refine Bd.sub ?_ ?_) <;> walk_at "b"
  | (with_reducible refine Bd.add ?_ ?_) <;> walk_at "b"
  | (with_reducible refine Bd.neg ?_) <;> walk_at "b"
  | exact natAbs_lt (k := 40) (by decide))
local macro_rules | `(tactic| walk_at "m") => `(tactic| (apply Bd.ok <;> first | walk_at "b" | decide | omega))
local macro_rules | `(tactic| walk_at "p") => `(tactic| (first | exact pre_self | assumption | (refine pre_app ?_; walk_at "p")))
local macro_rules | `(tactic| walk_at "e") => `(tactic| first
  | refine ⟨_, _, opMul_i (.inl ⟨by decide, by decide⟩), ?_⟩
  | refine ⟨_, _, opMul_i (.inr (.inl ⟨by decide, by decide⟩)), ?_⟩
  | (refine ⟨_, _, opMul_i ?_, ?_⟩; · walk_at "m")
  | refine ⟨_, _, rfl, ?_⟩
  | refine ⟨_, rfl, ?_⟩
  | refine ⟨rfl, ?_⟩
  | refine ⟨rfl, rfl, ?_⟩)
local macro_rules | `(tactic| walk_at "d") => `(tactic| first
  | with_reducible refine ok_c ?_
  | with_reducible refine ok_var rfl ?_
  | with_reducible refine ok_op ?_
  | with_reducible refine ok_un ?_
  | with_reducible refine ok_nil ?_
  | with_reducible refine ok_cons ?_
  | with_reducible refine ok_tup ?_
  | with_reducible refine ok_lst ?_
  | with_reducible refine ok_cb ?_
  | with_reducible refine ok_call ?_
  | with_reducible refine ok_callK ?_
  | with_reducible refine ok_sl ?_
  | with_reducible refine ok_nopart ?_
  | with_reducible refine ok_part ?_
  | with_reducible refine ok_B ?_
  | with_reducible refine ok_andT ?_
  | with_reducible refine ok_orT ?_
  | with_reducible refine ok_notT ?_
  | with_reducible refine ok_and ?_
  | with_reducible refine ok_or ?_
  | with_reducible refine ok_not ?_
  | with_reducible refine ok_if ?_
  | with_reducible refine ok_app ?_
  | with_reducible refine ok_lc ?_
  | with_reducible refine ok_yes ?_
  | with_reducible refine ok_src ?_
  | with_reducible refine ok_rng1 ?_
  | with_reducible refine ok_rng2 ?_
  | with_reducible refine ok_zip ?_
  | with_reducible refine sk_nil ?_
  | with_reducible refine sk_seq ?_
  | with_reducible refine sk_ret ?_
  | with_reducible refine sk_drop ?_
  | with_reducible refine sk_if ?_
  | with_reducible refine sk_asg ?_
  | with_reducible refine sk_par ?_
  | with_reducible refine sk_par3 ?_
  | with_reducible refine sk_for ?_
  | with_reducible refine ⟨_, _, gNm1, ?_⟩
  | with_reducible refine ⟨_, _, gUn2, ?_⟩
  | with_reducible refine ⟨_, _, gUn3, ?_⟩
  | with_reducible refine ⟨_, _, opSub_i, ?_⟩
  | with_reducible refine ⟨_, _, opAdd_i, ?_⟩
  | with_reducible refine ⟨_, _, opNe_i, ?_⟩
  | with_reducible refine ⟨_, _, opEq_i, ?_⟩
  | with_reducible refine ⟨_, _, opMod_i (by decide), ?_⟩
  | with_reducible refine ⟨_, _, opDiv_i ⟨by decide, by decide⟩, ?_⟩
  | ((with_reducible refine And.intro ?_ ?_); · rfl)
  | ((fail_if_success (with_reducible refine And.intro ?_ ?_)); (fail_if_success (with_reducible refine OK.imp (Q := fun _ _ => True) ?_ ?_)); (fail_if_success (with_reducible refine SOK.imp (Qn := fun _ _ => True) (Qr := fun _ _ => True) ?_ ?_ ?_)); walk_at "e"))

open PK LA
open LB (isPt_red gI_zero zero_nz)
theorem dot_bd {a b : List Int} {j : Nat} (la : a.length = 4) (lb : b.length = 4) (ha : BdL j a) (hb : BdL j b) : Bd (2 * j + 5) (dotL a b) := by
  rw [dotg la lb]
  exact (((((gI_bd ha 0).mul (gI_bd hb 0)).add ((gI_bd ha 1).mul (gI_bd hb 1))).add ((gI_bd ha 2).mul (gI_bd hb 2))).add ((gI_bd ha 3).mul (gI_bd hb 3))).mono (by omega)
theorem two_repr {w1 w2 : D} (h1 : Shown 11 39 40 [] w1) (h2 : Shown 11 39 40 [] w2) : ∃ T : Str, ∀ (r : Nat) (h' : HS), h'[r]? = some [w1, w2] → opRepr [.ref r] h' = some (.str T, h') := by
  obtain ⟨T, hT⟩ := repr_cells (h := []) (l := [w1, w2]) (b := 40) (fun x hx => by
    simp only [List.mem_cons, List.not_mem_nil, or_false] at hx
    rcases hx with e | e <;> rw [e] <;> assumption) (by simp)
  exact ⟨T, fun r h' q => hT r h' pre0 q⟩
noncomputable def t7c : DS :=
  (sSeq (sPar 8 9 (dCons (dCall 3 F_law_said (dCons (dC (.str "point")) (dCons (dVar 6) (dCons (dVar 7) dNil)))) (dCons (dCall 3 F_law_said (dCons (dC (.str "plane")) (dCons (dVar 6) (dCons (dVar 7) dNil)))) dNil)))
    (sSeq (sIf (dB (dOp opEq (dVar 6) (dVar 7))) (sRet (dOp opEq (dCB opRepr (dCons (dLst (dCons (dVar 8) (dCons (dVar 9) dNil))) dNil)) (dCB opRepr (dCons (dLst (dCons (dTup (dCons (dC (.str "same")) dNil)) (dCons (dTup (dCons (dC (.str "same")) dNil)) dNil))) dNil)))) sNil)
    (sSeq (sAsg (dCall 1 F_law_reduced (dCons (dCall 3 F_law_minors (dCons (dVar 1) (dCons (dVar 4) (dCons (dVar 5) dNil)))) dNil)) (gNm 3))
    (sRet (dOp opEq (dCB opRepr (dCons (dLst (dCons (dVar 8) (dCons (dVar 9) dNil))) dNil)) (dCB opRepr (dCons (dLst (dCons (dTup (dCons (dC (.str "told")) (dCons (dVar 3) (dCons (dVar 3) dNil)))) (dCons (dTup (dCons (dC (.str "told")) (dCons (dVar 1) (dCons (dVar 1) dNil)))) dNil))) dNil)))))))
theorem t7c_ok {n : Nat} {s t u a b : List Int} {v2 v3 v8 v9 v10 : Option D} {H : HS} (W : Well n H) (S : IsPt s) (T : IsPt t) (U : IsPt u) (st : s ≠ t) (su : s ≠ u) (A : IsRod a) (B : IsRod b) (ea : redF (cutL s t) = a) (eb : redF (cutL s u) = b) (bs : BdL 10 s) (bt : BdL 10 t) (bu : BdL 10 u) (ba : BdL 200 a) (bb : BdL 200 b) :
    SOK (t7c [some (.ref n), some (.tup (iL s)), v2, v3, some (.tup (iL t)), some (.tup (iL u)), some (.tup (iL a)), some (.tup (iL b)), v8, v9, v10] H) (fun _ _ => False) fun v h' => v = .bl true ∧ Ext n H h' := by
  have ext : ∀ g : HS, Ext n H (H ++ g) := fun g => Ext.app W
  unfold t7c
  simp only [e_lred, e_minors]
  by_cases c : a = b
  · subst c
    obtain ⟨s1, s2⟩ := said_same A ba (by decide)
    obtain ⟨Y, hY⟩ := two_repr (shown_word "same" (by decide)) (shown_word "same" (by decide))
    refine sk_seq (sk_par (ok_cons (ok_call (ok_cons (ok_c (ok_cons (ok_var rfl (ok_cons (ok_var rfl (ok_nil ⟨rfl, ?_⟩)))))))))) 
    refine (s1 _).imp ?_
    rintro _ _ ⟨rfl, g1, rfl⟩
    refine ok_cons (ok_call (ok_cons (ok_c (ok_cons (ok_var rfl (ok_cons (ok_var rfl (ok_nil ⟨rfl, ?_⟩))))))))
    refine (s2 _).imp ?_
    rintro _ _ ⟨rfl, g2, rfl⟩
    refine ok_nil ⟨_, _, rfl, ?_⟩
    refine sk_seq (sk_if (ok_B (ok_op (ok_var rfl (ok_var rfl ⟨_, _, opEq_il, _, rfl, fun _ => ?_, fun c => absurd c (by simp)⟩)))))
    refine sk_ret (ok_op (ok_cb (ok_cons (ok_lst (ok_cons (ok_var rfl (ok_cons (ok_var rfl (ok_nil ⟨by simp, ok_nil ⟨_, _, hY _ _ (getapp (g := [])), ?_⟩⟩)))))))))
    refine ok_cb (ok_cons (ok_lst (ok_cons (ok_tup (ok_cons (ok_c (ok_nil ⟨by simp, ?_⟩))))))) 
    refine ok_cons (ok_tup (ok_cons (ok_c (ok_nil ⟨by simp, ?_⟩))))
    refine ok_nil ⟨by simp, ok_nil ⟨_, _, hY _ _ (getapp (g := [])), ?_⟩⟩
    refine ⟨_, _, opEq_s, by simp, ?_⟩
    simp only [List.append_assoc]
    exact ext _
  · obtain ⟨nz, z, ia, ib, oa, ob⟩ := fan S T U st su A B ea eb c
    have bm : BdL 70 (minL s t u) := (min_bd bs bt bu).mono (by decide)
    have X := isPt_red (L := minL s t u) rfl nz
    have s1 := said_point A B ba bb (by decide) z c X oa ob (by decide)
    have s2 := said_plane A B ba bb (by decide) z c S ia ib (by decide)
    obtain ⟨Y, hY⟩ := two_repr (shown_told X (redF_bd bm) (by decide)) (shown_told S bs (by decide))
    refine sk_seq (sk_par (ok_cons (ok_call (ok_cons (ok_c (ok_cons (ok_var rfl (ok_cons (ok_var rfl (ok_nil ⟨rfl, ?_⟩)))))))))) 
    refine (s1 _).imp ?_
    rintro _ _ ⟨rfl, g1, rfl⟩
    refine ok_cons (ok_call (ok_cons (ok_c (ok_cons (ok_var rfl (ok_cons (ok_var rfl (ok_nil ⟨rfl, ?_⟩))))))))
    refine (s2 _).imp ?_
    rintro _ _ ⟨rfl, g2, rfl⟩
    refine ok_nil ⟨_, _, rfl, ?_⟩
    refine sk_seq (sk_if (ok_B (ok_op (ok_var rfl (ok_var rfl ⟨_, _, opEq_il, _, rfl, fun q => absurd q (by simp [c]), fun _ => sk_nil ?_⟩)))))
    refine sk_seq (sk_asg (ok_call (ok_cons (ok_call (ok_cons (ok_var rfl (ok_cons (ok_var rfl (ok_cons (ok_var rfl (ok_nil ⟨rfl, ?_⟩)))))))))))
    refine (minors_ok S.len T.len U.len bs bt bu (by decide)).imp ?_
    rintro _ _ ⟨r, g3, rfl, rfl, hlr, qr⟩
    refine ok_nil ⟨rfl, ?_⟩
    refine (reduced_ref (ns := minL s t u) qr (by simp [minL]) bm (by decide)).imp ?_
    rintro _ _ ⟨rfl, g4, rfl⟩
    refine ⟨_, _, gNm1, ?_⟩
    refine sk_ret (ok_op (ok_cb (ok_cons (ok_lst (ok_cons (ok_var rfl (ok_cons (ok_var rfl (ok_nil ⟨by simp, ok_nil ⟨_, _, hY _ _ (getapp (g := [])), ?_⟩⟩)))))))))
    refine ok_cb (ok_cons (ok_lst ?_))
    refine ok_cons (ok_tup (ok_cons (ok_c (ok_cons (ok_var rfl (ok_cons (ok_var rfl (ok_nil ⟨by simp, ?_⟩))))))))
    refine ok_cons (ok_tup (ok_cons (ok_c (ok_cons (ok_var rfl (ok_cons (ok_var rfl (ok_nil ⟨by simp, ?_⟩))))))))
    refine ok_nil ⟨by simp, ok_nil ⟨_, _, hY _ _ (getapp (g := [])), ?_⟩⟩
    refine ⟨_, _, opEq_s, by simp, ?_⟩
    simp only [List.append_assoc]
    exact ext _
theorem in_plane_ok {n : Nat} {h : HS} (W : Well n h) : OK (F_law_in_plane [.ref n] h) fun v h' => v = .bl true ∧ Ext n h h' := by
  have e0 : m_law_in_plane = (sSeq (sAsg (dCall 1 F_law_place (dCons (dVar 0) dNil)) (gNm 1))
    (sSeq (sPar 4 5 (dCons (dCall 2 F_law_unlike (dCons (dVar 0) (dCons (dVar 1) dNil))) (dCons (dCall 2 F_law_unlike (dCons (dVar 0) (dCons (dVar 1) dNil))) dNil)))
    (sSeq (sAsg (dLst (dCons (dCall 2 F_law_two_with (dCons (dVar 1) (dCons (dVar 4) dNil))) (dCons (dCall 2 F_law_two_with (dCons (dVar 1) (dCons (dVar 5) dNil))) dNil))) (gNm 2))
    (sSeq (sAsg (dLc (dSrc (dVar 2)) (gNm 10) dYes (dCall 1 F_law_reduced (dCons (dCall 2 F_law_line (dCons (dOp opIx (dVar 10) (dC (.int 0))) (dCons (dOp opIx (dVar 10) (dC (.int 1))) dNil))) dNil)) [10]) (gUn 2 (gConsD (gNm 6) (gConsD (gNm 7) gNilD)))) t7c)))) := rfl
  unfold F_law_in_plane
  rw [e0]
  simp only [e_place, e_unlike, e_two, e_lred, e_line]
  refine ok_run ?_
  refine sk_seq (sk_asg (ok_call (ok_cons (ok_var rfl (ok_nil ⟨rfl, ?_⟩)))))
  refine (place_ok W).imp ?_
  rintro _ h1 ⟨E1, s, rfl, S, bs⟩
  refine ⟨_, _, gNm1, ?_⟩
  refine sk_seq (sk_par (ok_cons (ok_call (ok_cons (ok_var rfl (ok_cons (ok_var rfl (ok_nil ⟨rfl, ?_⟩))))))))
  refine (unlike_ok E1.well).imp ?_
  rintro _ h2 ⟨E2, t, rfl, T, bt, ts⟩
  refine ok_cons (ok_call (ok_cons (ok_var rfl (ok_cons (ok_var rfl (ok_nil ⟨rfl, ?_⟩))))))
  refine (unlike_ok E2.well).imp ?_
  rintro _ h3 ⟨E3, u, rfl, U, bu, us⟩
  refine ok_nil ⟨_, _, rfl, ?_⟩
  refine sk_seq (sk_asg (ok_lst (ok_cons (ok_call (ok_cons (ok_var rfl (ok_cons (ok_var rfl (ok_nil ⟨rfl, ?_⟩)))))))))
  refine (two_with_ok S T ts.symm bs bt (by decide) (by decide)).imp ?_
  rintro _ _ ⟨⟨g1, rfl⟩, p, q, rfl, P, Q, bp, bq, pq, sp, tp, sq, tq⟩
  refine ok_cons (ok_call (ok_cons (ok_var rfl (ok_cons (ok_var rfl (ok_nil ⟨rfl, ?_⟩))))))
  refine (two_with_ok S U us.symm bs bu (by decide) (by decide)).imp ?_
  rintro _ _ ⟨⟨g2, rfl⟩, c, d, rfl, C, D, bc, bd, cd, sc, uc, sd, ud⟩
  refine ok_nil ⟨by simp, _, _, gNm1, ?_⟩
  have A := line_rod P Q pq
  have B := line_rod C D cd
  have n1 := line_nz P Q pq
  have n2 := line_nz C D cd
  have ba : BdL 200 (redF (lineL p q)) := redF_bd ((line_bd bp bq).mono (by decide))
  have bb : BdL 200 (redF (lineL c d)) := redF_bd ((line_bd bc bd).mono (by decide))
  have ea := in_unique A S T ts.symm (in_line P.len Q.len S.len n1 (by rw [dotL_comm]; exact sp) (by rw [dotL_comm]; exact sq)) (in_line P.len Q.len T.len n1 (by rw [dotL_comm]; exact tp) (by rw [dotL_comm]; exact tq))
  have eb := in_unique B S U us.symm (in_line C.len D.len S.len n2 (by rw [dotL_comm]; exact sc) (by rw [dotL_comm]; exact sd)) (in_line C.len D.len U.len n2 (by rw [dotL_comm]; exact uc) (by rw [dotL_comm]; exact ud))
  have pair : ∀ (x y : List Int) (j : Nat) (e : DEnv) (h : HS), IsPt x → IsPt y → BdL 40 x → BdL 40 y → e[10]? = some (some (.tup [.tup (iL x), .tup (iL y)])) → OK (dCall 1 LA.F_law_reduced (dCons (dCall 2 LA.F_law_line (dCons (dOp opIx (dVar 10) (dC (.int 0))) (dCons (dOp opIx (dVar 10) (dC (.int 1))) dNil))) dNil) e h) fun v h' => v = .tup (iL (redF (lineL x y))) ∧ ∃ g', h' = h ++ g' := by
    intro x y j e h X Y bx b_y he
    refine ok_call (ok_cons (ok_call (ok_cons (ok_op (ok_var he (ok_c ⟨_, _, opIx_t rfl, ok_cons (ok_op (ok_var he (ok_c ⟨_, _, opIx_t rfl, ok_nil ⟨rfl, ?_⟩⟩)))⟩))))))
    refine (line_ok X.len Y.len bx b_y (by decide)).imp ?_
    rintro _ _ ⟨rfl, g1, rfl⟩
    refine ok_nil ⟨rfl, ?_⟩
    refine (LA.reduced_ok (k := 100) (by simp [lineL]) ((line_bd bx b_y).mono (by decide)) (by decide)).imp ?_
    rintro _ _ ⟨rfl, g2, rfl⟩
    exact ⟨rfl, g1 ++ g2, by simp⟩
  refine sk_seq (sk_asg (lc_map (xs := [.tup [.tup (iL p), .tup (iL q)], .tup [.tup (iL c), .tup (iL d)]]) (rows := [redF (lineL p q), redF (lineL c d)]) (getapp (g := [])) rfl rfl (by simp) ?_ fun g => ?_))
  · intro k dd m g h1 h2
    match k, h1, h2 with
    | 0, h1, h2 =>
      cases h1
      cases h2
      exact pair p q 0 _ _ P Q bp bq rfl
    | 1, h1, h2 =>
      cases h1
      cases h2
      exact pair c d 0 _ _ C D bc bd rfl
    | k + 2, h1, h2 => cases h1
  refine ⟨_, _, gUn_ref getapp2 rfl rfl, ?_⟩
  refine (t7c_ok (by simp only [List.append_assoc]; exact (Ext.app E3.well).well) S T U ts.symm us.symm A B ea eb bs bt bu ba bb).imp (fun _ _ z => z.elim) ?_
  rintro v h' ⟨rfl, E⟩
  refine ⟨rfl, (E1.trans (E2.trans E3)).trans (Ext.trans (by simp only [List.append_assoc]; exact Ext.app E3.well) E)⟩

end K07

set_option maxHeartbeats 4000000
namespace K07
open PySem L2 PySem.Spec PI
local macro_rules | `(tactic| walk_at "b") => `(tactic| first
  | with_reducible assumption
  | (with_reducible refine Bd.mul ?_ ?_) <;> walk_at "b"
  | (with_reducible refine Bd.sub ?_ ?_) <;> walk_at "b"
  | (with_reducible refine Bd.add ?_ ?_) <;> walk_at "b"
  | (with_reducible refine Bd.neg ?_) <;> walk_at "b"
  | exact natAbs_lt (k := 40) (by decide))
local macro_rules | `(tactic| walk_at "m") => `(tactic| (apply Bd.ok <;> first | walk_at "b" | decide | omega))
local macro_rules | `(tactic| walk_at "p") => `(tactic| (first | exact pre_self | assumption | (refine pre_app ?_; walk_at "p")))
local macro_rules | `(tactic| walk_at "e") => `(tactic| first
  | refine ⟨_, _, opMul_i (.inl ⟨by decide, by decide⟩), ?_⟩
  | refine ⟨_, _, opMul_i (.inr (.inl ⟨by decide, by decide⟩)), ?_⟩
  | (refine ⟨_, _, opMul_i ?_, ?_⟩; · walk_at "m")
  | refine ⟨_, _, rfl, ?_⟩
  | refine ⟨_, rfl, ?_⟩
  | refine ⟨rfl, ?_⟩
  | refine ⟨rfl, rfl, ?_⟩)
local macro_rules | `(tactic| walk_at "d") => `(tactic| first
  | with_reducible refine ok_c ?_
  | with_reducible refine ok_var rfl ?_
  | with_reducible refine ok_op ?_
  | with_reducible refine ok_un ?_
  | with_reducible refine ok_nil ?_
  | with_reducible refine ok_cons ?_
  | with_reducible refine ok_tup ?_
  | with_reducible refine ok_lst ?_
  | with_reducible refine ok_cb ?_
  | with_reducible refine ok_call ?_
  | with_reducible refine ok_callK ?_
  | with_reducible refine ok_sl ?_
  | with_reducible refine ok_nopart ?_
  | with_reducible refine ok_part ?_
  | with_reducible refine ok_B ?_
  | with_reducible refine ok_andT ?_
  | with_reducible refine ok_orT ?_
  | with_reducible refine ok_notT ?_
  | with_reducible refine ok_and ?_
  | with_reducible refine ok_or ?_
  | with_reducible refine ok_not ?_
  | with_reducible refine ok_if ?_
  | with_reducible refine ok_app ?_
  | with_reducible refine ok_lc ?_
  | with_reducible refine ok_yes ?_
  | with_reducible refine ok_src ?_
  | with_reducible refine ok_rng1 ?_
  | with_reducible refine ok_rng2 ?_
  | with_reducible refine ok_zip ?_
  | with_reducible refine sk_nil ?_
  | with_reducible refine sk_seq ?_
  | with_reducible refine sk_ret ?_
  | with_reducible refine sk_drop ?_
  | with_reducible refine sk_if ?_
  | with_reducible refine sk_asg ?_
  | with_reducible refine sk_par ?_
  | with_reducible refine sk_par3 ?_
  | with_reducible refine sk_for ?_
  | with_reducible refine ⟨_, _, gNm1, ?_⟩
  | with_reducible refine ⟨_, _, gUn2, ?_⟩
  | with_reducible refine ⟨_, _, gUn3, ?_⟩
  | with_reducible refine ⟨_, _, opSub_i, ?_⟩
  | with_reducible refine ⟨_, _, opAdd_i, ?_⟩
  | with_reducible refine ⟨_, _, opNe_i, ?_⟩
  | with_reducible refine ⟨_, _, opEq_i, ?_⟩
  | with_reducible refine ⟨_, _, opMod_i (by decide), ?_⟩
  | with_reducible refine ⟨_, _, opDiv_i ⟨by decide, by decide⟩, ?_⟩
  | ((with_reducible refine And.intro ?_ ?_); · rfl)
  | ((fail_if_success (with_reducible refine And.intro ?_ ?_)); (fail_if_success (with_reducible refine OK.imp (Q := fun _ _ => True) ?_ ?_)); (fail_if_success (with_reducible refine SOK.imp (Qn := fun _ _ => True) (Qr := fun _ _ => True) ?_ ?_ ?_)); walk_at "e"))

open PK LA
open LB (isPt_red gI_zero zero_nz)
theorem cut_at_ok {a b t : List Int} {h : HS} {j : Nat} (la : a.length = 4) (lb : b.length = 4) (lt : t.length = 4) (ba : BdL j a) (bb : BdL j b) (bt : BdL j t) (hj : j < 1000) : OK (F_law_cut_at [.tup (iL a), .tup (iL b), .tup (iL t)] h) fun v h' => ∃ r g, v = .ref r ∧ h' = h ++ g ∧ h.length ≤ r ∧ h'[r]? = some (iL (difL (dotL b t) a (dotL a t) b)) := by
  have bda := dot_bd la lt ba bt
  have bdb := dot_bd lb lt bb bt
  unfold F_law_cut_at m_law_cut_at
  simp only [e_dot]
  refine ok_run ?_
  refine sk_seq (sk_asg (ok_tup (ok_cons (ok_call (ok_cons (ok_var rfl (ok_cons (ok_var rfl (ok_nil ⟨rfl, ?_⟩)))))))))
  refine (ldot2_ok la lt ba bt (by omega)).imp ?_
  rintro _ _ ⟨rfl, g1, rfl⟩
  refine ok_cons (ok_call (ok_cons (ok_var rfl (ok_cons (ok_var rfl (ok_nil ⟨rfl, ?_⟩))))))
  refine (ldot2_ok lb lt bb bt (by omega)).imp ?_
  rintro _ _ ⟨rfl, g2, rfl⟩
  refine ok_nil ⟨by simp, _, _, gUn2, ?_⟩
  refine sk_ret (ok_lc (ok_rng1 (ok_cons (ok_c (ok_nil ⟨_, rfl, by decide, by decide, 4, fun i h' => h' = h ++ g1 ++ g2 ++ [iL ((difL (dotL b t) a (dotL a t) b).take i)], Nat.le_refl _, by simp [iL], ?_, ?_⟩)))))
  · rintro k _ hk rfl
    obtain ⟨u, hu⟩ := get_lt (l := a) (i := k) (by rw [la]; exact hk)
    obtain ⟨v, hv⟩ := get_lt (l := b) (i := k) (by rw [lb]; exact hk)
    refine ⟨.int (k : Nat), by simp [Src.get, hk], _, _, gNm1, ok_yes ⟨fun _ => ?_, fun c => (by cases c)⟩⟩
    refine ok_op (ok_op (ok_var rfl (ok_op (ok_var rfl (ok_var rfl ?_)))))
    refine ⟨_, _, opIx_t (PI.atI_nat (il_get hu)), ?_⟩
    refine ⟨_, _, opMul_i (bdb.ok (ba u (List.mem_of_getElem? hu)) (by omega)), ?_⟩
    refine ok_op (ok_var rfl (ok_op (ok_var rfl (ok_var rfl ?_))))
    refine ⟨_, _, opIx_t (PI.atI_nat (il_get hv)), ?_⟩
    refine ⟨_, _, opMul_i (bda.ok (bb v (List.mem_of_getElem? hv)) (by omega)), ?_⟩
    refine ⟨_, _, opSub_i, ?_⟩
    refine ⟨_, getapp (g := []), by rw [il_len]; simp [difL, la, lb]; omega, ?_⟩
    show _ = _
    rw [setapp, List.take_add_one, show (difL (dotL b t) a (dotL a t) b)[k]? = some (dotL b t * u - dotL a t * v) from by unfold difL; rw [List.getElem?_zipWith, hu, hv], il_app]
    rfl
  · rintro _ rfl
    have ldif : (difL (dotL b t) a (dotL a t) b).length = 4 := by simp [difL, la, lb]
    refine ⟨by simp [Src.get], ?_⟩
    rw [List.take_of_length_le (by rw [ldif]; decide)]
    exact ⟨_, g1 ++ (g2 ++ [iL (difL (dotL b t) a (dotL a t) b)]), rfl, by simp only [List.append_assoc], by simp, getapp (g := [])⟩
/-- [x for x in cells if x != [0, 0, 0, 0]] -/
theorem lc_pick {i : Nat} {m : DE} {e : DEnv} {h : HS} {Q : D → HS → Prop} (hi : ∀ d : D, ((wipeD e [i]).set i (some d))[i]? = some (some d))
    (p : OK (m e h) fun d h1 => ∃ (R : Nat) (rs : List Nat) (f : Nat → List Int), d = .ref R ∧ h1[R]? = some (rs.map D.ref) ∧ rs.length ≤ 100 ∧ (∀ r ∈ rs, h1[r]? = some (iL (f r)) ∧ (f r).length = 4) ∧ ∀ g, Q (.ref h1.length) (h1 ++ [(rs.filter fun r => notZ (f r)).map D.ref] ++ g)) :
    OK (dLc (dSrc m) (gNm i) (dB (dOp opNe (dVar i) (dLst (dCons (dC (.int 0)) (dCons (dC (.int 0)) (dCons (dC (.int 0)) (dCons (dC (.int 0)) dNil))))))) (dVar i) [i] e h) Q := by
  refine ok_lc (ok_src (p.imp ?_))
  rintro _ h1 ⟨R, rs, f, rfl, qR, hl, cells, post⟩
  have Rl := (List.getElem?_eq_some_iff.mp qR).1
  have ql : ∀ g : HS, (h1 ++ g)[R]? = some (rs.map D.ref) := fun g => by rw [List.getElem?_append_left Rl, qR]
  refine .inr (.inr ⟨R, rfl, Rl, rs.length, fun k h' => ∃ g, h' = h1 ++ [((rs.take k).filter fun r => notZ (f r)).map D.ref] ++ g, by simp [Src.size, qR], ⟨[], by simp⟩, ?_, ?_⟩)
  · rintro k _ hk ⟨g, rfl⟩
    obtain ⟨r, hr⟩ := get_lt (l := rs) (i := k) hk
    obtain ⟨qr, lr⟩ := cells r (List.mem_of_getElem? hr)
    have rl := (List.getElem?_eq_some_iff.mp qr).1
    refine ⟨.ref r, ?_, _, _, gNm1, ?_⟩
    · show ((h1 ++ _ ++ g)[R]?).map _ = _
      rw [List.append_assoc, ql]
      simp [hr]
    have tk : (rs.take (k + 1)).filter (fun r => notZ (f r)) = if notZ (f r) then (rs.take k).filter (fun r => notZ (f r)) ++ [r] else (rs.take k).filter (fun r => notZ (f r)) := by
      rw [List.take_add_one, hr, Option.toList_some, List.filter_append]
      cases c : notZ (f r) <;> simp [List.filter, c]
    refine ok_B (ok_op (ok_var (hi _) (ok_lst ?_)))
    refine ok_cons (ok_c (ok_cons (ok_c (ok_cons (ok_c (ok_cons (ok_c (ok_nil ⟨by simp, ?_⟩))))))))
    refine ⟨_, _, opNe_rl (a := f r) (b := [0, 0, 0, 0]) (by rw [List.append_assoc, List.append_assoc, List.getElem?_append_left rl, qr]) (getapp (g := [])), _, rfl, fun c => ok_var (hi _) ?_, fun c => ?_⟩
    · refine ⟨((rs.take k).filter fun r => notZ (f r)).map D.ref, by rw [List.append_assoc]; exact getapp2, ?_, g ++ [iL [0, 0, 0, 0]], ?_⟩
      · rw [List.length_map]
        have := List.length_filter_le (fun r => notZ (f r)) (rs.take k)
        rw [List.length_take] at this
        omega
      · rw [tk, show notZ (f r) = true from c, if_pos rfl, List.append_assoc, setapp2]
        simp
        rfl
    · refine ⟨g ++ [iL [0, 0, 0, 0]], ?_⟩
      rw [tk, show notZ (f r) = false from c]
      simp
      rfl
  · rintro _ ⟨g, rfl⟩
    refine ⟨?_, ?_⟩
    · show ((h1 ++ _ ++ g)[R]?).map _ = _
      rw [List.append_assoc, ql]
      simp
    · rw [List.take_length]
      exact post g
theorem notz_iff {m : List Int} (l : m.length = 4) : notZ m = true ↔ Nz m := four_z l
theorem pick_first {rs : List Nat} {f : Nat → Bool} {r : Nat} (hr : r ∈ rs) (c : f r = true) : ∃ x, ((rs.filter f).map D.ref)[0]? = some (.ref x) ∧ x ∈ rs ∧ f x = true := by
  cases q : rs.filter f with
  | nil =>
    have : r ∈ rs.filter f := List.mem_filter.mpr ⟨hr, c⟩
    rw [q] at this
    cases this
  | cons x l =>
    have : x ∈ rs.filter f := by rw [q]; simp
    exact ⟨x, rfl, (List.mem_filter.mp this).1, (List.mem_filter.mp this).2⟩
theorem det_turn {P P' Q Q' : List Int} (p : P.length = 4) (q : Q.length = 4) (q' : Q'.length = 4) : dotL Q' (minL P P' Q) = -dotL P (minL P' Q Q') ∧ dotL Q (minL P P' Q') = dotL P (minL P' Q Q') := by
  rw [dotg p rfl, dotg q rfl, dotg q' rfl]
  simp only [minL, gI, List.getD_cons_zero, List.getD_cons_succ]
  constructor <;> grind
section
variable {P P' Q Q' : List Int} (hP : IsPt P) (hP' : IsPt P') (hQ : IsPt Q) (hQ' : IsPt Q') (np : P ≠ P') (nq : Q ≠ Q') (det : dotL P (minL P' Q Q') = 0) (ne : redF (lineL P P') ≠ redF (lineL Q Q'))
include hP hP' hQ hQ' np nq det
theorem rp_free : rp (redF (lineL P P')) (redF (lineL Q Q')) = 0 := by
  have n1 := line_nz hP hP' np
  have n2 := line_nz hQ hQ' nq
  have e := rp_back n1 n2
  rw [← det_eq hP.len, det] at e
  exact zero_of_mul (Int.mul_ne_zero (facN_nz n1) (facN_nz n2)) e.symm
theorem plane_free {m : List Int} (hm : m = minL P P' Q ∨ m = minL P P' Q') (n : Nz m) : IsPt (redF m) ∧ ¬ Nz (pointL (redF (lineL P P')) (redF m)) ∧ ¬ Nz (pointL (redF (lineL Q Q')) (redF m)) := by
  have n1 := line_nz hP hP' np
  have n2 := line_nz hQ hQ' nq
  obtain ⟨t1, t2⟩ := det_turn (P := P) (P' := P') (Q := Q) (Q' := Q') hP.len hQ.len hQ'.len
  rw [det] at t1 t2
  rcases hm with e | e
  · obtain ⟨d1, d2, d3⟩ := dot_min hP.len hP'.len hQ.len
    subst e
    exact ⟨isPt_red rfl n, nz_redp n (in_line hP.len hP'.len rfl n1 d1 d2), nz_redp n (in_line hQ.len hQ'.len rfl n2 d3 (by rw [t1]; rfl))⟩
  · obtain ⟨d1, d2, d3⟩ := dot_min hP.len hP'.len hQ'.len
    subst e
    exact ⟨isPt_red rfl n, nz_redp n (in_line hP.len hP'.len rfl n1 d1 d2), nz_redp n (in_line hQ.len hQ'.len rfl n2 t2 d3)⟩
theorem point_free {t : List Int} (T : IsPt t) (d1 : dotL Q t = 0) (d2 : dotL Q' t = 0) (n : Nz (difL (dotL P' t) P (dotL P t) P')) : IsPt (redF (difL (dotL P' t) P (dotL P t) P')) ∧ ¬ Nz (planeL (redF (lineL P P')) (redF (difL (dotL P' t) P (dotL P t) P'))) ∧ ¬ Nz (planeL (redF (lineL Q Q')) (redF (difL (dotL P' t) P (dotL P t) P'))) := by
  have n1 := line_nz hP hP' np
  have n2 := line_nz hQ hQ' nq
  have z := rp_free hP hP' hQ hQ' np nq det
  obtain ⟨k1, k2⟩ := point_beam (s := t) hP.len hP'.len T.len n1
  rw [← k2 n]
  have n3 := k1.mpr n
  have A := line_rod hP hP' np
  exact ⟨isPt_red (len_pt _ _) n3, nz_red n3 (on_own (rp_self A) T.len), nz_red n3 (on_both T.len z (in_line hQ.len hQ'.len T.len n2 d1 d2))⟩
include ne
theorem plane_some : Nz (minL P P' Q) ∨ Nz (minL P P' Q') := by
  have n1 := line_nz hP hP' np
  apply Classical.byContradiction
  intro z
  have z1 : ¬ Nz (minL P P' Q) := fun q => z (.inl q)
  have z2 : ¬ Nz (minL P P' Q') := fun q => z (.inr q)
  exact ne (on_unique (line_rod hP hP' np) hQ hQ' nq ((min_plane n1).mp z1) ((min_plane n1).mp z2)).symm
theorem point_some {t u : List Int} (T : IsPt t) (U : IsPt u) (tu : t ≠ u) (d1 : dotL Q t = 0) (d2 : dotL Q' t = 0) (d3 : dotL Q u = 0) (d4 : dotL Q' u = 0) : Nz (difL (dotL P' t) P (dotL P t) P') ∨ Nz (difL (dotL P' u) P (dotL P u) P') := by
  have n1 := line_nz hP hP' np
  have n2 := line_nz hQ hQ' nq
  apply Classical.byContradiction
  intro z
  have z1 := mt (point_beam (s := t) hP.len hP'.len T.len n1).1.mp fun q => z (.inl q)
  have z2 := mt (point_beam (s := u) hP.len hP'.len U.len n1).1.mp fun q => z (.inr q)
  have e1 := in_unique (line_rod hP hP' np) T U tu z1 z2
  have e2 := in_unique (line_rod hQ hQ' nq) T U tu (in_line hQ.len hQ'.len T.len n2 d1 d2) (in_line hQ.len hQ'.len U.len n2 d3 d4)
  exact ne (e1.symm.trans e2)
end
theorem bd_dif {a b s : List Int} {j : Nat} (la : a.length = 4) (lb : b.length = 4) (ls : s.length = 4) (ba : BdL j a) (bb : BdL j b) (bs : BdL j s) : BdL (4 * j + 10) (difL (dotL b s) a (dotL a s) b) := by
  rw [← point_line la lb ls]
  exact (point_bd (j := 2 * j + 1) ((line_bd ba bb).mono (by omega)) (bs.mono (by omega))).mono (by omega)

end K07

set_option maxHeartbeats 4000000
namespace K07
open PySem L2 PySem.Spec PI
local macro_rules | `(tactic| walk_at "b") => `(tactic| first
  | with_reducible assumption
  | (with_reducible refine Bd.mul ?_ ?_) <;> walk_at "b"
  | (with_reducible refine Bd.sub ?_ ?_) <;> walk_at "b"
  | (with_reducible refine Bd.add ?_ ?_) <;> walk_at "b"
  | (with_reducible refine Bd.neg ?_) <;> walk_at "b"
  | exact natAbs_lt (k := 40) (by decide))
local macro_rules | `(tactic| walk_at "m") => `(tactic| (apply Bd.ok <;> first | walk_at "b" | decide | omega))
local macro_rules | `(tactic| walk_at "p") => `(tactic| (first | exact pre_self | assumption | (refine pre_app ?_; walk_at "p")))
local macro_rules | `(tactic| walk_at "e") => `(tactic| first
  | refine ⟨_, _, opMul_i (.inl ⟨by decide, by decide⟩), ?_⟩
  | refine ⟨_, _, opMul_i (.inr (.inl ⟨by decide, by decide⟩)), ?_⟩
  | (refine ⟨_, _, opMul_i ?_, ?_⟩; · walk_at "m")
  | refine ⟨_, _, rfl, ?_⟩
  | refine ⟨_, rfl, ?_⟩
  | refine ⟨rfl, ?_⟩
  | refine ⟨rfl, rfl, ?_⟩)
local macro_rules | `(tactic| walk_at "d") => `(tactic| first
  | with_reducible refine ok_c ?_
  | with_reducible refine ok_var rfl ?_
  | with_reducible refine ok_op ?_
  | with_reducible refine ok_un ?_
  | with_reducible refine ok_nil ?_
  | with_reducible refine ok_cons ?_
  | with_reducible refine ok_tup ?_
  | with_reducible refine ok_lst ?_
  | with_reducible refine ok_cb ?_
  | with_reducible refine ok_call ?_
  | with_reducible refine ok_callK ?_
  | with_reducible refine ok_sl ?_
  | with_reducible refine ok_nopart ?_
  | with_reducible refine ok_part ?_
  | with_reducible refine ok_B ?_
  | with_reducible refine ok_andT ?_
  | with_reducible refine ok_orT ?_
  | with_reducible refine ok_notT ?_
  | with_reducible refine ok_and ?_
  | with_reducible refine ok_or ?_
  | with_reducible refine ok_not ?_
  | with_reducible refine ok_if ?_
  | with_reducible refine ok_app ?_
  | with_reducible refine ok_lc ?_
  | with_reducible refine ok_yes ?_
  | with_reducible refine ok_src ?_
  | with_reducible refine ok_rng1 ?_
  | with_reducible refine ok_rng2 ?_
  | with_reducible refine ok_zip ?_
  | with_reducible refine sk_nil ?_
  | with_reducible refine sk_seq ?_
  | with_reducible refine sk_ret ?_
  | with_reducible refine sk_drop ?_
  | with_reducible refine sk_if ?_
  | with_reducible refine sk_asg ?_
  | with_reducible refine sk_par ?_
  | with_reducible refine sk_par3 ?_
  | with_reducible refine sk_for ?_
  | with_reducible refine ⟨_, _, gNm1, ?_⟩
  | with_reducible refine ⟨_, _, gUn2, ?_⟩
  | with_reducible refine ⟨_, _, gUn3, ?_⟩
  | with_reducible refine ⟨_, _, opSub_i, ?_⟩
  | with_reducible refine ⟨_, _, opAdd_i, ?_⟩
  | with_reducible refine ⟨_, _, opNe_i, ?_⟩
  | with_reducible refine ⟨_, _, opEq_i, ?_⟩
  | with_reducible refine ⟨_, _, opMod_i (by decide), ?_⟩
  | with_reducible refine ⟨_, _, opDiv_i ⟨by decide, by decide⟩, ?_⟩
  | ((with_reducible refine And.intro ?_ ?_); · rfl)
  | ((fail_if_success (with_reducible refine And.intro ?_ ?_)); (fail_if_success (with_reducible refine OK.imp (Q := fun _ _ => True) ?_ ?_)); (fail_if_success (with_reducible refine SOK.imp (Qn := fun _ _ => True) (Qr := fun _ _ => True) ?_ ?_ ?_)); walk_at "e"))

open PK LA
open LB (isPt_red gI_zero zero_nz)
def unI : D → Int
  | .int i => i
  | _ => 0
def rowAt (h : HS) (r : Nat) : List Int := ((h[r]?).getD []).map unI
theorem rowAt_eq {h : HS} {r : Nat} {m : List Int} (q : h[r]? = some (iL m)) : rowAt h r = m := by
  unfold rowAt
  rw [q]
  show (iL m).map unI = m
  unfold iL
  rw [List.map_map]
  exact (List.map_congr_left fun x _ => rfl).trans (List.map_id m)
/-- [f(x) for x in xs] over a tuple, f giving new cells of rows -/
theorem lc_refs {i : Nat} {m te : DE} {e : DEnv} {h : HS} {Q : D → HS → Prop}
    (p : OK (m e h) fun d h1 => ∃ (xs : List D) (rows : List (List Int)), d = .tup xs ∧ xs.length = rows.length ∧ rows.length ≤ 100 ∧ (∀ (k : Nat) (d : D) (m : List Int) (g : HS), xs[k]? = some d → rows[k]? = some m → OK (te ((wipeD e [i]).set i (some d)) (h1 ++ g)) fun v h' => ∃ r g', v = .ref r ∧ h' = h1 ++ g ++ g' ∧ (h1 ++ g).length ≤ r ∧ h'[r]? = some (iL m)) ∧
      ∀ (rs : List Nat) (g : HS), rs.length = rows.length → (∀ (j r : Nat), rs[j]? = some r → ∃ m, rows[j]? = some m ∧ (h1 ++ [rs.map D.ref] ++ g)[r]? = some (iL m)) → Q (.ref h1.length) (h1 ++ [rs.map D.ref] ++ g)) :
    OK (dLc (dSrc m) (gNm i) dYes te [i] e h) Q := by
  refine ok_lc (ok_src (p.imp ?_))
  rintro _ h ⟨xs, rows, rfl, hl, hr, step, post⟩
  refine .inl ⟨_, rfl, rows.length, fun i h' => ∃ (rs : List Nat) (g : HS), h' = h ++ [rs.map D.ref] ++ g ∧ rs.length = i ∧ ∀ (j : Nat) (r : Nat), rs[j]? = some r → h.length < r ∧ ∃ m, rows[j]? = some m ∧ h'[r]? = some (iL m), by simp [Src.size, hl], ⟨[], [], by simp, rfl, by simp⟩, ?_, ?_⟩
  · rintro k _ hk ⟨rs, g, rfl, rl, hrs⟩
    obtain ⟨d, hd⟩ := get_lt (l := xs) (i := k) (by omega)
    obtain ⟨m, hm⟩ := get_lt (l := rows) (i := k) hk
    refine ⟨d, by simp [Src.get, hd], _, _, gNm1, ok_yes ⟨fun _ => ?_, fun c => (by cases c)⟩⟩
    rw [List.append_assoc]
    refine (step k d m _ hd hm).imp ?_
    rintro _ _ ⟨r, g', rfl, rfl, hlr, qr⟩
    have e1 : h ++ ([rs.map D.ref] ++ g) ++ g' = h ++ [rs.map D.ref] ++ (g ++ g') := by simp
    rw [e1] at qr ⊢
    refine ⟨rs.map D.ref, getapp2, by simp; omega, rs ++ [r], g ++ g', ?_, by simp [rl], ?_⟩
    · rw [setapp2]; simp
    · intro j r' hj
      have key : ∀ (r' : Nat) (m : List Int), h.length < r' → (h ++ [rs.map D.ref] ++ (g ++ g'))[r']? = some (iL m) → ((h ++ [rs.map D.ref] ++ (g ++ g')).set h.length (rs.map D.ref ++ [.ref r]))[r']? = some (iL m) := fun r' m c q => by
        rw [List.getElem?_set_ne (by omega), q]
      by_cases c : j < rs.length
      · rw [List.getElem?_append_left c] at hj
        obtain ⟨c1, m, c2, c3⟩ := hrs j r' hj
        refine ⟨c1, m, c2, key r' m c1 ?_⟩
        rw [← List.append_assoc, List.getElem?_append_left (List.getElem?_eq_some_iff.mp c3).1, c3]
      · have cj : j = rs.length := by
          have := (List.getElem?_eq_some_iff.mp hj).1
          simp at this
          omega
        subst cj
        simp at hj
        subst hj
        have lr : h.length < r := by simp at hlr; omega
        exact ⟨lr, m, by rw [rl]; exact hm, key r _ lr qr⟩
  · rintro _ ⟨rs, g, rfl, rl, hrs⟩
    refine ⟨by simp [Src.get, hl], ?_⟩
    exact post rs g rl fun j r hj => (hrs j r hj).2
noncomputable def t7e : DS :=
  (sSeq (sAsg (dOp opIx (dLc (dSrc (dLst (dCons (dCall 3 F_law_minors (dCons (dVar 3) (dCons (dVar 5) (dCons (dVar 4) dNil)))) (dCons (dCall 3 F_law_minors (dCons (dVar 3) (dCons (dVar 5) (dCons (dVar 6) dNil)))) dNil)))) (gNm 13) (dB (dOp opNe (dVar 13) (dLst (dCons (dC (.int 0)) (dCons (dC (.int 0)) (dCons (dC (.int 0)) (dCons (dC (.int 0)) dNil))))))) (dVar 13) [13]) (dC (.int 0))) (gNm 1))
    (sSeq (sPar 11 12 (dCons (dCall 1 F_law_reduced (dCons (dVar 1) dNil)) (dCons (dLc (dSrc (dCall 2 F_law_two_with (dCons (dVar 4) (dCons (dVar 6) dNil)))) (gNm 14) dYes (dCall 3 F_law_cut_at (dCons (dVar 3) (dCons (dVar 5) (dCons (dVar 14) dNil)))) [14]) dNil)))
    (sSeq (sAsg (dCall 1 F_law_reduced (dCons (dOp opIx (dLc (dSrc (dVar 12)) (gNm 13) (dB (dOp opNe (dVar 13) (dLst (dCons (dC (.int 0)) (dCons (dC (.int 0)) (dCons (dC (.int 0)) (dCons (dC (.int 0)) dNil))))))) (dVar 13) [13]) (dC (.int 0))) dNil)) (gNm 2))
    (sRet (dOp opEq (dCB opRepr (dCons (dLst (dCons (dVar 9) (dCons (dVar 10) dNil))) dNil)) (dCB opRepr (dCons (dLst (dCons (dTup (dCons (dC (.str "told")) (dCons (dVar 2) (dCons (dVar 2) dNil)))) (dCons (dTup (dCons (dC (.str "told")) (dCons (dVar 11) (dCons (dVar 11) dNil)))) dNil))) dNil)))))))
theorem t7e_ok {n : Nat} {P P' Q Q' a b X S : List Int} {v1 v2 v11 v12 v13 v14 : Option D} {H : HS} (W : Well n H) (hP : IsPt P) (hP' : IsPt P') (hQ : IsPt Q) (hQ' : IsPt Q') (np : P ≠ P') (nq : Q ≠ Q') (det : dotL P (minL P' Q Q') = 0) (ea : a = redF (lineL P P')) (eb : b = redF (lineL Q Q')) (ne : a ≠ b)
    (bP : BdL 10 P) (bP' : BdL 10 P') (bQ : BdL 10 Q) (bQ' : BdL 10 Q') (hX : IsPt X) (hS : IsPt S) (bX : BdL 1500 X) (bS : BdL 1500 S) (oa : ¬ Nz (planeL a X)) (ob : ¬ Nz (planeL b X)) (ia : ¬ Nz (pointL a S)) (ib : ¬ Nz (pointL b S)) :
    SOK (t7e [some (.ref n), v1, v2, some (.tup (iL P)), some (.tup (iL Q)), some (.tup (iL P')), some (.tup (iL Q')), some (.tup (iL a)), some (.tup (iL b)), some (toldD X), some (toldD S), v11, v12, v13, v14] H) (fun _ _ => False) fun v h' => v = .bl true ∧ Ext n H h' := by
  have A : IsRod a := ea ▸ line_rod hP hP' np
  have B : IsRod b := eb ▸ line_rod hQ hQ' nq
  have ne' : redF (lineL P P') ≠ redF (lineL Q Q') := ea ▸ eb ▸ ne
  have b1 : BdL 70 (minL P P' Q) := (min_bd bP bP' bQ).mono (by decide)
  have b2 : BdL 70 (minL P P' Q') := (min_bd bP bP' bQ').mono (by decide)
  unfold t7e
  simp only [e_minors, e_lred, e_two]
  refine sk_seq (sk_asg (ok_op (lc_pick (fun _ => rfl) (ok_lst (ok_cons (ok_call (ok_cons (ok_var rfl (ok_cons (ok_var rfl (ok_cons (ok_var rfl (ok_nil ⟨rfl, ?_⟩)))))))))))))
  refine (minors_ok hP.len hP'.len hQ.len bP bP' bQ (by decide)).imp ?_
  rintro _ _ ⟨r1, g1, rfl, rfl, hl1, q1⟩
  refine ok_cons (ok_call (ok_cons (ok_var rfl (ok_cons (ok_var rfl (ok_cons (ok_var rfl (ok_nil ⟨rfl, ?_⟩))))))))
  refine (minors_ok hP.len hP'.len hQ'.len bP bP' bQ' (by decide)).imp ?_
  rintro _ _ ⟨r2, g2, rfl, rfl, hl2, q2⟩
  refine ok_nil ⟨by simp, ?_⟩
  have l1 := (List.getElem?_eq_some_iff.mp q1).1
  have l2 := (List.getElem?_eq_some_iff.mp q2).1
  obtain ⟨G, hG⟩ : ∃ G, H ++ g1 ++ g2 ++ [[D.ref r1, D.ref r2]] = H ++ G := ⟨g1 ++ (g2 ++ [[D.ref r1, D.ref r2]]), by simp only [List.append_assoc]⟩
  have c1 : (H ++ g1 ++ g2 ++ [[D.ref r1, D.ref r2]])[r1]? = some (iL (minL P P' Q)) := by
    rw [List.append_assoc, List.getElem?_append_left l1, q1]
  have c2 : (H ++ g1 ++ g2 ++ [[D.ref r1, D.ref r2]])[r2]? = some (iL (minL P P' Q')) := by
    rw [List.getElem?_append_left l2, q2]
  have cR : (H ++ g1 ++ g2 ++ [[D.ref r1, D.ref r2]])[(H ++ g1 ++ g2).length]? = some ([r1, r2].map D.ref) := getapp (g := [])
  generalize H ++ g1 ++ g2 ++ [[D.ref r1, D.ref r2]] = K at *
  have cell : ∀ r ∈ [r1, r2], ∃ m, K[r]? = some (iL m) ∧ (m = minL P P' Q ∨ m = minL P P' Q') := by
    intro r hr
    simp only [List.mem_cons, List.not_mem_nil, or_false] at hr
    rcases hr with rfl | rfl
    · exact ⟨_, c1, .inl rfl⟩
    · exact ⟨_, c2, .inr rfl⟩
  refine ⟨_, [r1, r2], rowAt K, rfl, cR, by simp, ?_, fun g => ?_⟩
  · intro r hr
    obtain ⟨m, qm, hm⟩ := cell r hr
    rw [rowAt_eq qm]
    exact ⟨qm, by rcases hm with e | e <;> rw [e] <;> rfl⟩
  obtain ⟨x, hx, xm, nx⟩ : ∃ x, (([r1, r2].filter fun r => notZ (rowAt K r)).map D.ref)[0]? = some (.ref x) ∧ x ∈ [r1, r2] ∧ notZ (rowAt K x) = true := by
    rcases plane_some hP hP' hQ hQ' np nq det ne' with z | z
    · exact pick_first (f := fun r => notZ (rowAt K r)) (r := r1) (by simp) (by show notZ (rowAt K r1) = true; rw [rowAt_eq c1]; exact (notz_iff rfl).mpr z)
    · exact pick_first (f := fun r => notZ (rowAt K r)) (r := r2) (by simp) (by show notZ (rowAt K r2) = true; rw [rowAt_eq c2]; exact (notz_iff rfl).mpr z)
  obtain ⟨m, qm, hm⟩ := cell x xm
  rw [rowAt_eq qm] at nx
  have lm : m.length = 4 := by rcases hm with e | e <;> rw [e] <;> rfl
  have bm : BdL 70 m := by rcases hm with e | e <;> rw [e] <;> assumption
  have nm := (notz_iff lm).mp nx
  obtain ⟨S', i1, i2⟩ := plane_free hP hP' hQ hQ' np nq det hm nm
  rw [← ea] at i1
  rw [← eb] at i2
  have eS : redF m = S := by
    apply Classical.byContradiction
    intro no
    exact ne ((in_unique A S' hS no i1 ia).symm.trans (in_unique B S' hS no i2 ib))
  have lx := (List.getElem?_eq_some_iff.mp qm).1
  refine ok_c ⟨_, _, opIx_r getapp2 (PI.atI_nat hx), ?_⟩
  refine ⟨_, _, gNm1, ?_⟩
  refine sk_seq (sk_par (ok_cons (ok_call (ok_cons (ok_var rfl (ok_nil ⟨rfl, ?_⟩))))))
  refine (reduced_ref (ns := m) (by rw [List.append_assoc, List.getElem?_append_left lx, qm]) (by omega) bm (by decide)).imp ?_
  rintro _ _ ⟨rfl, g3, rfl⟩
  rw [eS]
  refine ok_cons (lc_refs (ok_call (ok_cons (ok_var rfl (ok_cons (ok_var rfl (ok_nil ⟨rfl, ?_⟩))))))) 
  refine (two_with_ok hQ hQ' nq bQ bQ' (by decide) (by decide)).imp ?_
  rintro _ _ ⟨⟨g4, rfl⟩, t, u, rfl, T, U, bt, bu, tu, d1, d2, d3, d4⟩
  refine ⟨_, [difL (dotL P' t) P (dotL P t) P', difL (dotL P' u) P (dotL P u) P'], rfl, rfl, by simp, ?_, fun rs g5 rl hrs => ?_⟩
  · intro k d m g h1 h2
    match k, h1, h2 with
    | 0, h1, h2 =>
      cases h1
      cases h2
      refine ok_call (ok_cons (ok_var rfl (ok_cons (ok_var rfl (ok_cons (ok_var rfl (ok_nil ⟨rfl, ?_⟩)))))))
      exact cut_at_ok hP.len hP'.len T.len (bP.mono (by decide)) (bP'.mono (by decide)) bt (by decide)
    | 1, h1, h2 =>
      cases h1
      cases h2
      refine ok_call (ok_cons (ok_var rfl (ok_cons (ok_var rfl (ok_cons (ok_var rfl (ok_nil ⟨rfl, ?_⟩)))))))
      exact cut_at_ok hP.len hP'.len U.len (bP.mono (by decide)) (bP'.mono (by decide)) bu (by decide)
    | k + 2, h1, h2 => cases h1
  refine ok_nil ⟨_, _, rfl, ?_⟩
  have bt' := bd_dif hP.len hP'.len T.len (bP.mono (by decide)) (bP'.mono (by decide)) bt
  have bu' := bd_dif hP.len hP'.len U.len (bP.mono (by decide)) (bP'.mono (by decide)) bu
  match rs, rl with
  | [s1, s2], _ =>
    obtain ⟨_, e1, k1⟩ := hrs 0 s1 rfl
    obtain ⟨_, e2, k2⟩ := hrs 1 s2 rfl
    cases e1
    cases e2
    have kR : (K ++ [([r1, r2].filter fun r => notZ (rowAt K r)).map D.ref] ++ g ++ g3 ++ g4 ++ [[s1, s2].map D.ref] ++ g5)[(K ++ [([r1, r2].filter fun r => notZ (rowAt K r)).map D.ref] ++ g ++ g3 ++ g4).length]? = some ([s1, s2].map D.ref) := getapp2
    obtain ⟨G2, hG2⟩ : ∃ G2, K ++ [([r1, r2].filter fun r => notZ (rowAt K r)).map D.ref] ++ g ++ g3 ++ g4 ++ [[s1, s2].map D.ref] ++ g5 = H ++ G2 := by
      rw [hG]
      exact ⟨_, by simp only [List.append_assoc]; rfl⟩
    generalize (K ++ [([r1, r2].filter fun r => notZ (rowAt K r)).map D.ref] ++ g ++ g3 ++ g4).length = R2 at *
    generalize K ++ [([r1, r2].filter fun r => notZ (rowAt K r)).map D.ref] ++ g ++ g3 ++ g4 ++ [[s1, s2].map D.ref] ++ g5 = J at *
    have cell2 : ∀ r ∈ [s1, s2], ∃ w m, J[r]? = some (iL m) ∧ m = difL (dotL P' w) P (dotL P w) P' ∧ IsPt w ∧ dotL Q w = 0 ∧ dotL Q' w = 0 ∧ BdL 300 m := by
      intro r hr
      simp only [List.mem_cons, List.not_mem_nil, or_false] at hr
      rcases hr with rfl | rfl
      · exact ⟨t, _, k1, rfl, T, d1, d2, bt'.mono (by decide)⟩
      · exact ⟨u, _, k2, rfl, U, d3, d4, bu'.mono (by decide)⟩
    have ld : ∀ w : List Int, (difL (dotL P' w) P (dotL P w) P').length = 4 := fun w => by simp [difL, hP.len, hP'.len]
    refine sk_seq (sk_asg (ok_call (ok_cons (ok_op (lc_pick (fun _ => rfl) (ok_var rfl ⟨R2, [s1, s2], rowAt J, rfl, kR, by simp, ?_, fun g6 => ?_⟩))))))
    · intro r hr
      obtain ⟨w, m, qm, em, _⟩ := cell2 r hr
      rw [rowAt_eq qm]
      exact ⟨qm, by rw [em]; exact ld w⟩
    obtain ⟨y, hy, ym, ny⟩ : ∃ x, (([s1, s2].filter fun r => notZ (rowAt J r)).map D.ref)[0]? = some (.ref x) ∧ x ∈ [s1, s2] ∧ notZ (rowAt J x) = true := by
      rcases point_some hP hP' hQ hQ' np nq det ne' T U tu d1 d2 d3 d4 with z | z
      · exact pick_first (f := fun r => notZ (rowAt J r)) (r := s1) (by simp) (by show notZ (rowAt J s1) = true; rw [rowAt_eq k1]; exact (notz_iff (ld _)).mpr z)
      · exact pick_first (f := fun r => notZ (rowAt J r)) (r := s2) (by simp) (by show notZ (rowAt J s2) = true; rw [rowAt_eq k2]; exact (notz_iff (ld _)).mpr z)
    obtain ⟨w, m2, qm2, em2, hw, w1, w2, bm2⟩ := cell2 y ym
    rw [rowAt_eq qm2, em2] at ny
    have nm2 := (notz_iff (ld w)).mp ny
    obtain ⟨X', o1, o2⟩ := point_free hP hP' hQ hQ' np nq det hw w1 w2 nm2
    rw [← ea] at o1
    rw [← eb] at o2
    have eX : redF m2 = X := by
      rw [em2]
      apply Classical.byContradiction
      intro no
      exact ne ((on_unique A X' hX no o1 oa).symm.trans (on_unique B X' hX no o2 ob))
    have ly := (List.getElem?_eq_some_iff.mp qm2).1
    refine ok_c ⟨_, _, opIx_r getapp2 (PI.atI_nat hy), ok_nil ⟨rfl, ?_⟩⟩
    refine (reduced_ref (ns := m2) (by rw [List.append_assoc, List.getElem?_append_left ly, qm2]) (by rw [em2, ld]; decide) bm2 (by decide)).imp ?_
    rintro _ _ ⟨rfl, g7, rfl⟩
    rw [eX]
    refine ⟨_, _, gNm1, ?_⟩
    obtain ⟨Y, hY⟩ := two_repr (shown_told hX bX (by decide)) (shown_told hS bS (by decide))
    refine sk_ret (ok_op (ok_cb (ok_cons (ok_lst (ok_cons (ok_var rfl (ok_cons (ok_var rfl (ok_nil ⟨by simp, ok_nil ⟨_, _, hY _ _ (getapp (g := [])), ?_⟩⟩)))))))))
    refine ok_cb (ok_cons (ok_lst ?_))
    refine ok_cons (ok_tup (ok_cons (ok_c (ok_cons (ok_var rfl (ok_cons (ok_var rfl (ok_nil ⟨by simp, ?_⟩))))))))
    refine ok_cons (ok_tup (ok_cons (ok_c (ok_cons (ok_var rfl (ok_cons (ok_var rfl (ok_nil ⟨by simp, ?_⟩))))))))
    refine ok_nil ⟨by simp, ok_nil ⟨_, _, hY _ _ (getapp (g := [])), ?_⟩⟩
    refine ⟨_, _, opEq_s, by simp, ?_⟩
    rw [hG2]
    simp only [List.append_assoc]
    exact Ext.app W

end K07

set_option maxHeartbeats 4000000
namespace K07
open PySem L2 PySem.Spec PI
local macro_rules | `(tactic| walk_at "b") => `(tactic| first
  | with_reducible assumption
  | (with_reducible refine Bd.mul ?_ ?_) <;> walk_at "b"
  | (with_reducible refine Bd.sub ?_ ?_) <;> walk_at "b"
  | (with_reducible refine Bd.add ?_ ?_) <;> walk_at "b"
  | (with_reducible refine Bd.neg ?_) <;> walk_at "b"
  | exact natAbs_lt (k := 40) (by decide))
local macro_rules | `(tactic| walk_at "m") => `(tactic| (apply Bd.ok <;> first | walk_at "b" | decide | omega))
local macro_rules | `(tactic| walk_at "p") => `(tactic| (first | exact pre_self | assumption | (refine pre_app ?_; walk_at "p")))
local macro_rules | `(tactic| walk_at "e") => `(tactic| first
  | refine ⟨_, _, opMul_i (.inl ⟨by decide, by decide⟩), ?_⟩
  | refine ⟨_, _, opMul_i (.inr (.inl ⟨by decide, by decide⟩)), ?_⟩
  | (refine ⟨_, _, opMul_i ?_, ?_⟩; · walk_at "m")
  | refine ⟨_, _, rfl, ?_⟩
  | refine ⟨_, rfl, ?_⟩
  | refine ⟨rfl, ?_⟩
  | refine ⟨rfl, rfl, ?_⟩)
local macro_rules | `(tactic| walk_at "d") => `(tactic| first
  | with_reducible refine ok_c ?_
  | with_reducible refine ok_var rfl ?_
  | with_reducible refine ok_op ?_
  | with_reducible refine ok_un ?_
  | with_reducible refine ok_nil ?_
  | with_reducible refine ok_cons ?_
  | with_reducible refine ok_tup ?_
  | with_reducible refine ok_lst ?_
  | with_reducible refine ok_cb ?_
  | with_reducible refine ok_call ?_
  | with_reducible refine ok_callK ?_
  | with_reducible refine ok_sl ?_
  | with_reducible refine ok_nopart ?_
  | with_reducible refine ok_part ?_
  | with_reducible refine ok_B ?_
  | with_reducible refine ok_andT ?_
  | with_reducible refine ok_orT ?_
  | with_reducible refine ok_notT ?_
  | with_reducible refine ok_and ?_
  | with_reducible refine ok_or ?_
  | with_reducible refine ok_not ?_
  | with_reducible refine ok_if ?_
  | with_reducible refine ok_app ?_
  | with_reducible refine ok_lc ?_
  | with_reducible refine ok_yes ?_
  | with_reducible refine ok_src ?_
  | with_reducible refine ok_rng1 ?_
  | with_reducible refine ok_rng2 ?_
  | with_reducible refine ok_zip ?_
  | with_reducible refine sk_nil ?_
  | with_reducible refine sk_seq ?_
  | with_reducible refine sk_ret ?_
  | with_reducible refine sk_drop ?_
  | with_reducible refine sk_if ?_
  | with_reducible refine sk_asg ?_
  | with_reducible refine sk_par ?_
  | with_reducible refine sk_par3 ?_
  | with_reducible refine sk_for ?_
  | with_reducible refine ⟨_, _, gNm1, ?_⟩
  | with_reducible refine ⟨_, _, gUn2, ?_⟩
  | with_reducible refine ⟨_, _, gUn3, ?_⟩
  | with_reducible refine ⟨_, _, opSub_i, ?_⟩
  | with_reducible refine ⟨_, _, opAdd_i, ?_⟩
  | with_reducible refine ⟨_, _, opNe_i, ?_⟩
  | with_reducible refine ⟨_, _, opEq_i, ?_⟩
  | with_reducible refine ⟨_, _, opMod_i (by decide), ?_⟩
  | with_reducible refine ⟨_, _, opDiv_i ⟨by decide, by decide⟩, ?_⟩
  | ((with_reducible refine And.intro ?_ ?_); · rfl)
  | ((fail_if_success (with_reducible refine And.intro ?_ ?_)); (fail_if_success (with_reducible refine OK.imp (Q := fun _ _ => True) ?_ ?_)); (fail_if_success (with_reducible refine SOK.imp (Qn := fun _ _ => True) (Qr := fun _ _ => True) ?_ ?_ ?_)); walk_at "e"))

open PK LA
open LB (isPt_red gI_zero zero_nz)
noncomputable def t7d : DS :=
  (sSeq (sIf (dB (dOp opNe (dCall 2 F_law_dot (dCons (dVar 3) (dCons (dCall 3 F_law_minors (dCons (dVar 5) (dCons (dVar 4) (dCons (dVar 6) dNil)))) dNil))) (dC (.int 0)))) (sRet (dOp opEq (dCB opRepr (dCons (dLst (dCons (dVar 9) (dCons (dVar 10) dNil))) dNil)) (dCB opRepr (dCons (dLst (dCons (dTup (dCons (dC (.str "apart")) dNil)) (dCons (dTup (dCons (dC (.str "apart")) dNil)) dNil))) dNil)))) sNil)
    (sSeq (sIf (dB (dOp opEq (dVar 7) (dVar 8))) (sRet (dOp opEq (dCB opRepr (dCons (dLst (dCons (dVar 9) (dCons (dVar 10) dNil))) dNil)) (dCB opRepr (dCons (dLst (dCons (dTup (dCons (dC (.str "same")) dNil)) (dCons (dTup (dCons (dC (.str "same")) dNil)) dNil))) dNil)))) sNil) t7e))
theorem t7d_ok {n : Nat} {P P' Q Q' a b : List Int} {w1 w2 : D} {v1 v2 v11 v12 v13 v14 : Option D} {H : HS} (W : Well n H) (hP : IsPt P) (hP' : IsPt P') (hQ : IsPt Q) (hQ' : IsPt Q') (np : P ≠ P') (nq : Q ≠ Q') (ea : a = redF (lineL P P')) (eb : b = redF (lineL Q Q'))
    (bP : BdL 10 P) (bP' : BdL 10 P') (bQ : BdL 10 Q) (bQ' : BdL 10 Q')
    (apart : dotL P (minL P' Q Q') ≠ 0 → w1 = wordD "apart" ∧ w2 = wordD "apart")
    (same : dotL P (minL P' Q Q') = 0 → a = b → w1 = wordD "same" ∧ w2 = wordD "same")
    (told : dotL P (minL P' Q Q') = 0 → a ≠ b → ∃ X S, w1 = toldD X ∧ w2 = toldD S ∧ IsPt X ∧ IsPt S ∧ BdL 1500 X ∧ BdL 1500 S ∧ ¬ Nz (planeL a X) ∧ ¬ Nz (planeL b X) ∧ ¬ Nz (pointL a S) ∧ ¬ Nz (pointL b S)) :
    SOK (t7d [some (.ref n), v1, v2, some (.tup (iL P)), some (.tup (iL Q)), some (.tup (iL P')), some (.tup (iL Q')), some (.tup (iL a)), some (.tup (iL b)), some w1, some w2, v11, v12, v13, v14] H) (fun _ _ => False) fun v h' => v = .bl true ∧ Ext n H h' := by
  unfold t7d
  simp only [e_minors, e_dot]
  refine sk_seq (sk_if (ok_B (ok_op (ok_call (ok_cons (ok_var rfl (ok_cons (ok_call (ok_cons (ok_var rfl (ok_cons (ok_var rfl (ok_cons (ok_var rfl (ok_nil ⟨rfl, ?_⟩)))))))))))))) )
  refine (minors_ok hP'.len hQ.len hQ'.len bP' bQ bQ' (by decide)).imp ?_
  rintro _ _ ⟨r, g1, rfl, rfl, hl, q⟩
  have bm : BdL 70 (minL P' Q Q') := (min_bd bP' bQ bQ').mono (by decide)
  refine ok_nil ⟨rfl, ?_⟩
  refine (ldot_ok hP.len rfl q bP bm (by decide)).imp ?_
  rintro _ _ ⟨rfl, g2, rfl⟩
  refine ok_c ⟨_, _, opNe_i, _, rfl, fun c => ?_, fun c => sk_nil ?_⟩
  · have c : dotL P (minL P' Q Q') ≠ 0 := by simpa using c
    obtain ⟨rfl, rfl⟩ := apart c
    obtain ⟨Y, hY⟩ := two_repr (shown_word "apart" (by decide)) (shown_word "apart" (by decide))
    refine sk_ret (ok_op (ok_cb (ok_cons (ok_lst (ok_cons (ok_var rfl (ok_cons (ok_var rfl (ok_nil ⟨by simp, ok_nil ⟨_, _, hY _ _ (getapp (g := [])), ?_⟩⟩)))))))))
    refine ok_cb (ok_cons (ok_lst (ok_cons (ok_tup (ok_cons (ok_c (ok_nil ⟨by simp, ?_⟩)))))))
    refine ok_cons (ok_tup (ok_cons (ok_c (ok_nil ⟨by simp, ?_⟩))))
    refine ok_nil ⟨by simp, ok_nil ⟨_, _, hY _ _ (getapp (g := [])), ?_⟩⟩
    refine ⟨_, _, opEq_s, by simp, ?_⟩
    simp only [List.append_assoc]
    exact Ext.app W
  · have c : dotL P (minL P' Q Q') = 0 := by simpa using c
    refine sk_seq (sk_if (ok_B (ok_op (ok_var rfl (ok_var rfl ⟨_, _, opEq_il, _, rfl, fun k => ?_, fun k => sk_nil ?_⟩)))))
    · have k : a = b := by simpa using k
      obtain ⟨rfl, rfl⟩ := same c k
      obtain ⟨Y, hY⟩ := two_repr (shown_word "same" (by decide)) (shown_word "same" (by decide))
      refine sk_ret (ok_op (ok_cb (ok_cons (ok_lst (ok_cons (ok_var rfl (ok_cons (ok_var rfl (ok_nil ⟨by simp, ok_nil ⟨_, _, hY _ _ (getapp (g := [])), ?_⟩⟩)))))))))
      refine ok_cb (ok_cons (ok_lst (ok_cons (ok_tup (ok_cons (ok_c (ok_nil ⟨by simp, ?_⟩)))))))
      refine ok_cons (ok_tup (ok_cons (ok_c (ok_nil ⟨by simp, ?_⟩))))
      refine ok_nil ⟨by simp, ok_nil ⟨_, _, hY _ _ (getapp (g := [])), ?_⟩⟩
      refine ⟨_, _, opEq_s, by simp, ?_⟩
      simp only [List.append_assoc]
      exact Ext.app W
    · have k : a ≠ b := by simpa using k
      obtain ⟨X, S, rfl, rfl, hX, hS, bX, bS, oa, ob, ia, ib⟩ := told c k
      have E : Ext n H (H ++ g1 ++ g2) := by simp only [List.append_assoc]; exact Ext.app W
      refine (t7e_ok E.well hP hP' hQ hQ' np nq c ea eb k bP bP' bQ bQ' hX hS bX bS oa ob ia ib).imp (fun _ _ z => z) ?_
      rintro v h' ⟨rfl, E'⟩
      exact ⟨rfl, E.trans E'⟩
theorem freely_ok {n : Nat} {h : HS} (W : Well n h) : OK (F_law_freely [.ref n] h) fun v h' => v = .bl true ∧ Ext n h h' := by
  have e0 : m_law_freely = (sSeq (sAsg (dTup (dCons (dCall 1 F_law_place (dCons (dVar 0) dNil)) (dCons (dCall 1 F_law_place (dCons (dVar 0) dNil)) dNil))) (gUn 2 (gConsD (gNm 3) (gConsD (gNm 4) gNilD))))
    (sSeq (sAsg (dTup (dCons (dCall 2 F_law_unlike (dCons (dVar 0) (dCons (dVar 3) dNil))) (dCons (dCall 2 F_law_unlike (dCons (dVar 0) (dCons (dVar 4) dNil))) dNil))) (gUn 2 (gConsD (gNm 5) (gConsD (gNm 6) gNilD))))
    (sSeq (sPar 7 8 (dCons (dCall 1 F_law_reduced (dCons (dCall 2 F_law_line (dCons (dVar 3) (dCons (dVar 5) dNil))) dNil)) (dCons (dCall 1 F_law_reduced (dCons (dCall 2 F_law_line (dCons (dVar 4) (dCons (dVar 6) dNil))) dNil)) dNil)))
    (sSeq (sPar 9 10 (dCons (dCall 3 F_law_said (dCons (dC (.str "point")) (dCons (dVar 7) (dCons (dVar 8) dNil)))) (dCons (dCall 3 F_law_said (dCons (dC (.str "plane")) (dCons (dVar 8) (dCons (dVar 7) dNil)))) dNil))) t7d)))) := rfl
  unfold F_law_freely
  rw [e0]
  simp only [e_place, e_unlike, e_lred, e_line]
  refine ok_run ?_
  refine sk_seq (sk_asg (ok_tup (ok_cons (ok_call (ok_cons (ok_var rfl (ok_nil ⟨rfl, ?_⟩)))))))
  refine (place_ok W).imp ?_
  rintro _ h1 ⟨E1, P, rfl, hP, bP⟩
  refine ok_cons (ok_call (ok_cons (ok_var rfl (ok_nil ⟨rfl, ?_⟩))))
  refine (place_ok E1.well).imp ?_
  rintro _ h2 ⟨E2, Q, rfl, hQ, bQ⟩
  refine ok_nil ⟨by simp, _, _, gUn2, ?_⟩
  refine sk_seq (sk_asg (ok_tup (ok_cons (ok_call (ok_cons (ok_var rfl (ok_cons (ok_var rfl (ok_nil ⟨rfl, ?_⟩)))))))))
  refine (unlike_ok E2.well).imp ?_
  rintro _ h3 ⟨E3, P', rfl, hP', bP', np⟩
  refine ok_cons (ok_call (ok_cons (ok_var rfl (ok_cons (ok_var rfl (ok_nil ⟨rfl, ?_⟩))))))
  refine (unlike_ok E3.well).imp ?_
  rintro _ h4 ⟨E4, Q', rfl, hQ', bQ', nq⟩
  have np := np.symm
  have nq := nq.symm
  refine ok_nil ⟨by simp, _, _, gUn2, ?_⟩
  refine sk_seq (sk_par (ok_cons (ok_call (ok_cons (ok_call (ok_cons (ok_var rfl (ok_cons (ok_var rfl (ok_nil ⟨rfl, ?_⟩)))))))))) 
  refine (line_ok hP.len hP'.len bP bP' (by decide)).imp ?_
  rintro _ _ ⟨rfl, g1, rfl⟩
  refine ok_nil ⟨rfl, ?_⟩
  refine (LA.reduced_ok (k := 40) (by simp [lineL]) ((line_bd bP bP').mono (by decide)) (by decide)).imp ?_
  rintro _ _ ⟨rfl, g2, rfl⟩
  refine ok_cons (ok_call (ok_cons (ok_call (ok_cons (ok_var rfl (ok_cons (ok_var rfl (ok_nil ⟨rfl, ?_⟩))))))))
  refine (line_ok hQ.len hQ'.len bQ bQ' (by decide)).imp ?_
  rintro _ _ ⟨rfl, g3, rfl⟩
  refine ok_nil ⟨rfl, ?_⟩
  refine (LA.reduced_ok (k := 40) (by simp [lineL]) ((line_bd bQ bQ').mono (by decide)) (by decide)).imp ?_
  rintro _ _ ⟨rfl, g4, rfl⟩
  refine ok_nil ⟨_, _, rfl, ?_⟩
  have E5 : Ext n h (h4 ++ g1 ++ g2 ++ g3 ++ g4) := (E1.trans (E2.trans (E3.trans E4))).trans (by simp only [List.append_assoc]; exact Ext.app E4.well)
  generalize h4 ++ g1 ++ g2 ++ g3 ++ g4 = H at *
  have A := line_rod hP hP' np
  have B := line_rod hQ hQ' nq
  have ba : BdL 40 (redF (lineL P P')) := redF_bd ((line_bd bP bP').mono (by decide))
  have bb : BdL 40 (redF (lineL Q Q')) := redF_bd ((line_bd bQ bQ').mono (by decide))
  have n1 := line_nz hP hP' np
  have n2 := line_nz hQ hQ' nq
  obtain ⟨a, ea⟩ : ∃ a, a = redF (lineL P P') := ⟨_, rfl⟩
  obtain ⟨b, eb⟩ : ∃ b, b = redF (lineL Q Q') := ⟨_, rfl⟩
  rw [← ea] at A ba ⊢
  rw [← eb] at B bb ⊢
  have rpe : dotL P (minL P' Q Q') = facN (lineL P P') * facN (lineL Q Q') * rp a b := by rw [det_eq hP.len, rp_back n1 n2, ea, eb]
  obtain ⟨w1, w2, s1, s2, k1, k2, k3⟩ : ∃ w1 w2, Said "point" a b w1 ∧ Said "plane" b a w2 ∧ (dotL P (minL P' Q Q') ≠ 0 → w1 = wordD "apart" ∧ w2 = wordD "apart") ∧
    (dotL P (minL P' Q Q') = 0 → a = b → w1 = wordD "same" ∧ w2 = wordD "same") ∧
    (dotL P (minL P' Q Q') = 0 → a ≠ b → ∃ X S, w1 = toldD X ∧ w2 = toldD S ∧ IsPt X ∧ IsPt S ∧ BdL 1500 X ∧ BdL 1500 S ∧ ¬ Nz (planeL a X) ∧ ¬ Nz (planeL b X) ∧ ¬ Nz (pointL a S) ∧ ¬ Nz (pointL b S)) := by
    by_cases z : dotL P (minL P' Q Q') = 0
    · by_cases c : a = b
      · refine ⟨_, _, ?_, ?_, fun q => absurd z q, fun _ _ => ⟨rfl, rfl⟩, fun _ q => absurd c q⟩
        · rw [← c]; exact (said_same A ba (by decide)).1
        · rw [← c]; exact (said_same A ba (by decide)).2
      · have zr : rp a b = 0 := by rw [ea, eb]; exact rp_free hP hP' hQ hQ' np nq z
        obtain ⟨c1, _, m1⟩ := corner A.len B.len A.red B.red c
        obtain ⟨c2, hc2, m2⟩ := corner_pl A B c
        have X := isPt_red (len_pt _ _) m1
        have S := isPt_red (len_pl _ _) m2
        have l1 := (uL_ok ‹c1 ∈ uL›)
        have l2 := (uL_ok hc2)
        have i1 := in_own (x := c1) (rp_self B) l1.1
        have o2 := on_own (x := c2) (rp_self B) l2.1
        have oa := nz_red m1 (on_own (rp_self A) (len_pl b c1))
        have ob := nz_red m1 (on_both (len_pl b c1) zr i1)
        have ia := nz_redp m2 (in_own (rp_self A) (len_pt b c2))
        have ib := nz_redp m2 (in_both (len_pt b c2) zr o2)
        have bX : BdL 1500 (redF (pointL a (planeL b c1))) := redF_bd ((point_bd (j := 85) (ba.mono (by decide)) (plane_bd (j := 40) bb (l1.2.mono (by decide)))).mono (by decide))
        have bS : BdL 1500 (redF (planeL a (pointL b c2))) := redF_bd ((plane_bd (j := 85) (ba.mono (by decide)) (point_bd (j := 40) bb (l2.2.mono (by decide)))).mono (by decide))
        refine ⟨_, _, said_point A B ba bb (by decide) zr c X oa ob (by decide), said_plane B A bb ba (by decide) (by rw [rp_comm]; exact zr) (Ne.symm c) S ib ia (by decide), fun q => absurd z q, fun _ q => absurd q c, fun _ _ => ⟨_, _, rfl, rfl, X, S, bX, bS, oa, ob, ia, ib⟩⟩
    · have zr : rp a b ≠ 0 := fun q => z (by rw [rpe, q, Int.mul_zero])
      exact ⟨_, _, (said_apart A B ba bb (by decide) zr).1, (said_apart B A bb ba (by decide) (by rw [rp_comm]; exact zr)).2, fun _ => ⟨rfl, rfl⟩, fun q => absurd q z, fun q => absurd q z⟩
  refine sk_seq (sk_par (ok_cons (ok_call (ok_cons (ok_c (ok_cons (ok_var rfl (ok_cons (ok_var rfl (ok_nil ⟨rfl, ?_⟩)))))))))) 
  refine (s1 _).imp ?_
  rintro x1 _ ⟨f1, g5, rfl⟩
  replace f1 := f1.symm
  subst f1
  refine ok_cons (ok_call (ok_cons (ok_c (ok_cons (ok_var rfl (ok_cons (ok_var rfl (ok_nil ⟨rfl, ?_⟩))))))))
  refine (s2 _).imp ?_
  rintro x2 _ ⟨f2, g6, rfl⟩
  replace f2 := f2.symm
  subst f2
  refine ok_nil ⟨_, _, rfl, ?_⟩
  have E6 : Ext n h (H ++ g5 ++ g6) := E5.trans (by simp only [List.append_assoc]; exact Ext.app E5.well)
  refine (t7d_ok E6.well hP hP' hQ hQ' np nq ea eb bP bP' bQ bQ' k1 k2 k3).imp (fun _ _ z => z.elim) ?_
  rintro v h' ⟨rfl, E⟩
  exact ⟨rfl, E6.trans E⟩
theorem law_ok {ns : List Int} (hz : ns.length ≤ 63) {h : HS} : OK (F_law [.rol (iL ns)] h) fun v _ => v = .bl true := by
  unfold F_law m_law
  simp only [e_well]
  refine ok_run ?_
  refine sk_seq (sk_for (ok_rng1 ?_))
  repeat walk_at "d"
  have ml : ∃ k : Nat, (if (if (6 : Int) < ((iL ns).length : Int) then 6 else ((iL ns).length : Int)) > 2 then (if (6 : Int) < ((iL ns).length : Int) then 6 else ((iL ns).length : Int)) else 2) = (k : Int) ∧ k ≤ 6 := by
    rw [il_len]
    split <;> split <;> first | exact ⟨6, rfl, by omega⟩ | exact ⟨2, rfl, by omega⟩ | exact ⟨ns.length, rfl, by omega⟩
  obtain ⟨k, hk, k10⟩ := ml
  rw [hk]
  refine ⟨by omega, by omega, k, fun i e h' => ∃ v w, e = [some (.rol (iL ns)), v, w], Nat.le_refl _, ⟨none, none, rfl⟩, ?_, ?_⟩
  · rintro i e h' hi ⟨v, w, rfl⟩
    refine ⟨.int (0 + i), by simp [Src.get]; omega, ?_⟩
    repeat walk_at "d"
    rw [Int.zero_add]
    refine well_ok.imp ?_
    rintro _ h2 ⟨n, rfl, W⟩
    refine ⟨_, _, gNm1, ?_⟩
    refine sk_if (ok_orT (ok_notT (ok_B (ok_call (ok_cons (ok_var rfl (ok_nil ⟨rfl, ?_⟩)))))))
    refine (through_ok W).imp ?_
    rintro _ h3 ⟨rfl, E3⟩
    refine ⟨_, rfl, fun _ => ?_, fun c => (by cases c)⟩
    refine ok_orT (ok_notT (ok_B (ok_call (ok_cons (ok_var rfl (ok_nil ⟨rfl, ?_⟩))))))
    refine (in_plane_ok E3.well).imp ?_
    rintro _ h4 ⟨rfl, E4⟩
    refine ⟨_, rfl, fun _ => ?_, fun c => (by cases c)⟩
    refine ok_notT (ok_B (ok_call (ok_cons (ok_var rfl (ok_nil ⟨rfl, ?_⟩)))))
    refine (freely_ok E4.well).imp ?_
    rintro _ h5 ⟨rfl, E5⟩
    exact ⟨_, rfl, fun c => (by cases c), fun _ => sk_nil ⟨_, _, rfl⟩⟩
  · rintro e h' ⟨v, w, rfl⟩
    refine ⟨by simp [Src.get], ?_⟩
    repeat walk_at "d"
    rfl
theorem law_true : ∀ ns : List Int, ns.length ≤ 63 → ∀ h0 : HS, ∃ h1, F_law [.rol (ns.map D.int)] h0 = .ok (.bl true) h1 := by
  intro ns hz h0
  obtain ⟨v, h1, e, rfl⟩ := (law_ok (h := h0) hz).ok
  exact ⟨h1, e⟩

end K07

namespace K07
open PySem L2 PySem.Spec PI
noncomputable section
abbrev s_InvalidRod : Stmt := inClass (topS 3) 0
theorem sc_InvalidRod : FnScope (["self", "given"] : List Str) (["self", "given"] : List Str) (defScope s_InvalidRod) := ⟨rfl, rfl, rfl, by decide +kernel, rfl, by decide +kernel, by decide +kernel⟩
theorem bd_InvalidRod (X : Cx) (hN : X.N = (["self", "given"] : List Str)) (hs : X.env.scope = defScope s_InvalidRod) : PSs X (defBody s_InvalidRod) (tOst X.K "given" (tVar 0) (tVar 1)) :=
  pss_one (ps_ost (pe_var (i := 0) (x := "self") (by rw [hN]; rfl) (by rw [hs]; exact Or.inl rfl)) (pe_var (i := 1) (x := "given") (by rw [hN]; rfl) (by rw [hs]; exact Or.inl rfl)))
set_option maxHeartbeats 4000000 in
theorem all_mk {P : Program} {w : World} {K : PySem.W.Frag} {h : Heap} {mg : Str → Option Value} {fa : Addr} (X : K.In h) (G : h.Ns mainGlobals mg) (hfa : mg "law" = some (.ref fa))
    {f_is_whole : Addr} {od_is_whole an_is_whole : Option Addr} {sl_is_whole : Array (Option Value)} {oc_is_whole kV_is_whole dc_is_whole pm_is_whole cd_is_whole ct_is_whole : Value}
    {f_common_divisor : Addr} {od_common_divisor an_common_divisor : Option Addr} {sl_common_divisor : Array (Option Value)} {oc_common_divisor kV_common_divisor dc_common_divisor pm_common_divisor cd_common_divisor ct_common_divisor : Value}
    {f_first_not_zero : Addr} {od_first_not_zero an_first_not_zero : Option Addr} {sl_first_not_zero : Array (Option Value)} {oc_first_not_zero kV_first_not_zero dc_first_not_zero pm_first_not_zero cd_first_not_zero ct_first_not_zero : Value}
    {f_dot : Addr} {od_dot an_dot : Option Addr} {sl_dot : Array (Option Value)} {oc_dot kV_dot dc_dot pm_dot cd_dot ct_dot : Value}
    {f_cross : Addr} {od_cross an_cross : Option Addr} {sl_cross : Array (Option Value)} {oc_cross kV_cross dc_cross pm_cross cd_cross ct_cross : Value}
    {f_times : Addr} {od_times an_times : Option Addr} {sl_times : Array (Option Value)} {oc_times kV_times dc_times pm_times cd_times ct_times : Value}
    {f_plus : Addr} {od_plus an_plus : Option Addr} {sl_plus : Array (Option Value)} {oc_plus kV_plus dc_plus pm_plus cd_plus ct_plus : Value}
    {f_minus : Addr} {od_minus an_minus : Option Addr} {sl_minus : Array (Option Value)} {oc_minus kV_minus dc_minus pm_minus cd_minus ct_minus : Value}
    {f_swapped : Addr} {od_swapped an_swapped : Option Addr} {sl_swapped : Array (Option Value)} {oc_swapped kV_swapped dc_swapped pm_swapped cd_swapped ct_swapped : Value}
    {f_law_well : Addr} {od_law_well an_law_well : Option Addr} {sl_law_well : Array (Option Value)} {oc_law_well kV_law_well dc_law_well pm_law_well cd_law_well ct_law_well : Value}
    {f_law_draw : Addr} {od_law_draw an_law_draw : Option Addr} {sl_law_draw : Array (Option Value)} {oc_law_draw kV_law_draw dc_law_draw pm_law_draw cd_law_draw ct_law_draw : Value}
    {f_law_common : Addr} {od_law_common an_law_common : Option Addr} {sl_law_common : Array (Option Value)} {oc_law_common kV_law_common dc_law_common pm_law_common cd_law_common ct_law_common : Value}
    {f_law_cross : Addr} {od_law_cross an_law_cross : Option Addr} {sl_law_cross : Array (Option Value)} {oc_law_cross kV_law_cross dc_law_cross pm_law_cross cd_law_cross ct_law_cross : Value}
    {f_law_dot : Addr} {od_law_dot an_law_dot : Option Addr} {sl_law_dot : Array (Option Value)} {oc_law_dot kV_law_dot dc_law_dot pm_law_dot cd_law_dot ct_law_dot : Value}
    {f_law_minors : Addr} {od_law_minors an_law_minors : Option Addr} {sl_law_minors : Array (Option Value)} {oc_law_minors kV_law_minors dc_law_minors pm_law_minors cd_law_minors ct_law_minors : Value}
    {f_law_units : Addr} {od_law_units an_law_units : Option Addr} {sl_law_units : Array (Option Value)} {oc_law_units kV_law_units dc_law_units pm_law_units cd_law_units ct_law_units : Value}
    {f_reduced : Addr} {od_reduced an_reduced : Option Addr} {sl_reduced : Array (Option Value)} {oc_reduced kV_reduced dc_reduced pm_reduced cd_reduced ct_reduced : Value}
    {f_is_reduced_row : Addr} {od_is_reduced_row an_is_reduced_row : Option Addr} {sl_is_reduced_row : Array (Option Value)} {oc_is_reduced_row kV_is_reduced_row dc_is_reduced_row pm_is_reduced_row cd_is_reduced_row ct_is_reduced_row : Value}
    {f_row_product : Addr} {od_row_product an_row_product : Option Addr} {sl_row_product : Array (Option Value)} {oc_row_product kV_row_product dc_row_product pm_row_product cd_row_product ct_row_product : Value}
    {f_plane_row : Addr} {od_plane_row an_plane_row : Option Addr} {sl_plane_row : Array (Option Value)} {oc_plane_row kV_plane_row dc_plane_row pm_plane_row cd_plane_row ct_plane_row : Value}
    {f_point_row : Addr} {od_point_row an_point_row : Option Addr} {sl_point_row : Array (Option Value)} {oc_point_row kV_point_row dc_point_row pm_point_row cd_point_row ct_point_row : Value}
    {f_law_row : Addr} {od_law_row an_law_row : Option Addr} {sl_law_row : Array (Option Value)} {oc_law_row kV_law_row dc_law_row pm_law_row cd_law_row ct_law_row : Value}
    {f_law_reduced : Addr} {od_law_reduced an_law_reduced : Option Addr} {sl_law_reduced : Array (Option Value)} {oc_law_reduced kV_law_reduced dc_law_reduced pm_law_reduced cd_law_reduced ct_law_reduced : Value}
    {f_law_line : Addr} {od_law_line an_law_line : Option Addr} {sl_law_line : Array (Option Value)} {oc_law_line kV_law_line dc_law_line pm_law_line cd_law_line ct_law_line : Value}
    {f_law_cut_at : Addr} {od_law_cut_at an_law_cut_at : Option Addr} {sl_law_cut_at : Array (Option Value)} {oc_law_cut_at kV_law_cut_at dc_law_cut_at pm_law_cut_at cd_law_cut_at ct_law_cut_at : Value}
    {f_is_rod : Addr} {od_is_rod an_is_rod : Option Addr} {sl_is_rod : Array (Option Value)} {oc_is_rod kV_is_rod dc_is_rod pm_is_rod cd_is_rod ct_is_rod : Value}
    {f_law_place : Addr} {od_law_place an_law_place : Option Addr} {sl_law_place : Array (Option Value)} {oc_law_place kV_law_place dc_law_place pm_law_place cd_law_place ct_law_place : Value}
    {f_law_two_with : Addr} {od_law_two_with an_law_two_with : Option Addr} {sl_law_two_with : Array (Option Value)} {oc_law_two_with kV_law_two_with dc_law_two_with pm_law_two_with cd_law_two_with ct_law_two_with : Value}
    {f_law_mixed : Addr} {od_law_mixed an_law_mixed : Option Addr} {sl_law_mixed : Array (Option Value)} {oc_law_mixed kV_law_mixed dc_law_mixed pm_law_mixed cd_law_mixed ct_law_mixed : Value}
    {f_check_rod : Addr} {od_check_rod an_check_rod : Option Addr} {sl_check_rod : Array (Option Value)} {oc_check_rod kV_check_rod dc_check_rod pm_check_rod cd_check_rod ct_check_rod : Value}
    {f_law_unlike : Addr} {od_law_unlike an_law_unlike : Option Addr} {sl_law_unlike : Array (Option Value)} {oc_law_unlike kV_law_unlike dc_law_unlike pm_law_unlike cd_law_unlike ct_law_unlike : Value}
    {f_check_rods : Addr} {od_check_rods an_check_rods : Option Addr} {sl_check_rods : Array (Option Value)} {oc_check_rods kV_check_rods dc_check_rods pm_check_rods cd_check_rods ct_check_rods : Value}
    {f_check_unlike_meeting : Addr} {od_check_unlike_meeting an_check_unlike_meeting : Option Addr} {sl_check_unlike_meeting : Array (Option Value)} {oc_check_unlike_meeting kV_check_unlike_meeting dc_check_unlike_meeting pm_check_unlike_meeting cd_check_unlike_meeting ct_check_unlike_meeting : Value}
    {f_meeting_point : Addr} {od_meeting_point an_meeting_point : Option Addr} {sl_meeting_point : Array (Option Value)} {oc_meeting_point kV_meeting_point dc_meeting_point pm_meeting_point cd_meeting_point ct_meeting_point : Value}
    {f_meeting_plane : Addr} {od_meeting_plane an_meeting_plane : Option Addr} {sl_meeting_plane : Array (Option Value)} {oc_meeting_plane kV_meeting_plane dc_meeting_plane pm_meeting_plane cd_meeting_plane ct_meeting_plane : Value}
    {f_law_said : Addr} {od_law_said an_law_said : Option Addr} {sl_law_said : Array (Option Value)} {oc_law_said kV_law_said dc_law_said pm_law_said cd_law_said ct_law_said : Value}
    {f_law_through_point : Addr} {od_law_through_point an_law_through_point : Option Addr} {sl_law_through_point : Array (Option Value)} {oc_law_through_point kV_law_through_point dc_law_through_point pm_law_through_point cd_law_through_point ct_law_through_point : Value}
    {f_law_in_plane : Addr} {od_law_in_plane an_law_in_plane : Option Addr} {sl_law_in_plane : Array (Option Value)} {oc_law_in_plane kV_law_in_plane dc_law_in_plane pm_law_in_plane cd_law_in_plane ct_law_in_plane : Value}
    {f_law_freely : Addr} {od_law_freely an_law_freely : Option Addr} {sl_law_freely : Array (Option Value)} {oc_law_freely kV_law_freely dc_law_freely pm_law_freely cd_law_freely ct_law_freely : Value}
    {f_law : Addr} {od_law an_law : Option Addr} {sl_law : Array (Option Value)} {oc_law kV_law dc_law pm_law cd_law ct_law : Value}
    {C_InvalidRod f_InvalidRod : Addr} {nm_InvalidRod q_InvalidRod : Str} {N_InvalidRod : Addr} {bs_InvalidRod bm_InvalidRod : List Value} {sn_InvalidRod : List Str} {sb_InvalidRod : List Value} {ab_InvalidRod : Bool} {cl_InvalidRod : Option Bool} {dd_InvalidRod : Option Addr} {x0_InvalidRod x1_InvalidRod x2_InvalidRod x3_InvalidRod x5_InvalidRod : Option Value} {od_InvalidRod an_InvalidRod : Option Addr} {sl_InvalidRod : Array (Option Value)} {oc_InvalidRod kV_InvalidRod dc_InvalidRod pm_InvalidRod cd_InvalidRod ct_InvalidRod : Value}
    {C_Apart : Addr}
    {C_Same : Addr}
    {ta_CORNERS_0 : Addr} {td_CORNERS_0 : Option Addr} {tn_CORNERS_0 : Nat} {ts_CORNERS_0 : Array (Option Value)}
    {ta_CORNERS_1 : Addr} {td_CORNERS_1 : Option Addr} {tn_CORNERS_1 : Nat} {ts_CORNERS_1 : Array (Option Value)}
    {tk_CORNERS_2 : Tok}
    {tk_CORNERS_3 : Tok}
    {tk_CORNERS_4 : Tok}
    {tk_CORNERS_5 : Tok}
    {ta_CORNERS_6 : Addr} {td_CORNERS_6 : Option Addr} {tn_CORNERS_6 : Nat} {ts_CORNERS_6 : Array (Option Value)}
    {tk_CORNERS_7 : Tok}
    {tk_CORNERS_8 : Tok}
    {tk_CORNERS_9 : Tok}
    {tk_CORNERS_10 : Tok}
    {ta_CORNERS_11 : Addr} {td_CORNERS_11 : Option Addr} {tn_CORNERS_11 : Nat} {ts_CORNERS_11 : Array (Option Value)}
    {tk_CORNERS_12 : Tok}
    {tk_CORNERS_13 : Tok}
    {tk_CORNERS_14 : Tok}
    {tk_CORNERS_15 : Tok}
    {ta_CORNERS_16 : Addr} {td_CORNERS_16 : Option Addr} {tn_CORNERS_16 : Nat} {ts_CORNERS_16 : Array (Option Value)}
    {tk_CORNERS_17 : Tok}
    {tk_CORNERS_18 : Tok}
    {tk_CORNERS_19 : Tok}
    {tk_CORNERS_20 : Tok}
    (a_is_whole : PySem.W.nsIn K mainGlobals "is_whole" = some (some (.ref f_is_whole)))
    (l_is_whole : K.lookup f_is_whole = some ⟨oc_is_whole, od_is_whole, .func (PySem.W.fnOf "is_whole" "is_whole" (defArgs s_is_whole) (defBody s_is_whole) (defScope s_is_whole) .none kV_is_whole dc_is_whole pm_is_whole an_is_whole cd_is_whole ct_is_whole), sl_is_whole⟩)
    (c_is_whole : PySem.W.codeIn K cd_is_whole "is_whole" = true)
    (k_is_whole : PySem.W.keepIn K (.ref f_is_whole) = true)
    (a_common_divisor : PySem.W.nsIn K mainGlobals "common_divisor" = some (some (.ref f_common_divisor)))
    (l_common_divisor : K.lookup f_common_divisor = some ⟨oc_common_divisor, od_common_divisor, .func (PySem.W.fnOf "common_divisor" "common_divisor" (defArgs s_common_divisor) (defBody s_common_divisor) (defScope s_common_divisor) .none kV_common_divisor dc_common_divisor pm_common_divisor an_common_divisor cd_common_divisor ct_common_divisor), sl_common_divisor⟩)
    (c_common_divisor : PySem.W.codeIn K cd_common_divisor "common_divisor" = true)
    (k_common_divisor : PySem.W.keepIn K (.ref f_common_divisor) = true)
    (a_first_not_zero : PySem.W.nsIn K mainGlobals "first_not_zero" = some (some (.ref f_first_not_zero)))
    (l_first_not_zero : K.lookup f_first_not_zero = some ⟨oc_first_not_zero, od_first_not_zero, .func (PySem.W.fnOf "first_not_zero" "first_not_zero" (defArgs s_first_not_zero) (defBody s_first_not_zero) (defScope s_first_not_zero) .none kV_first_not_zero dc_first_not_zero pm_first_not_zero an_first_not_zero cd_first_not_zero ct_first_not_zero), sl_first_not_zero⟩)
    (c_first_not_zero : PySem.W.codeIn K cd_first_not_zero "first_not_zero" = true)
    (k_first_not_zero : PySem.W.keepIn K (.ref f_first_not_zero) = true)
    (a_dot : PySem.W.nsIn K mainGlobals "dot" = some (some (.ref f_dot)))
    (l_dot : K.lookup f_dot = some ⟨oc_dot, od_dot, .func (PySem.W.fnOf "dot" "dot" (defArgs s_dot) (defBody s_dot) (defScope s_dot) .none kV_dot dc_dot pm_dot an_dot cd_dot ct_dot), sl_dot⟩)
    (c_dot : PySem.W.codeIn K cd_dot "dot" = true)
    (k_dot : PySem.W.keepIn K (.ref f_dot) = true)
    (a_cross : PySem.W.nsIn K mainGlobals "cross" = some (some (.ref f_cross)))
    (l_cross : K.lookup f_cross = some ⟨oc_cross, od_cross, .func (PySem.W.fnOf "cross" "cross" (defArgs s_cross) (defBody s_cross) (defScope s_cross) .none kV_cross dc_cross pm_cross an_cross cd_cross ct_cross), sl_cross⟩)
    (c_cross : PySem.W.codeIn K cd_cross "cross" = true)
    (k_cross : PySem.W.keepIn K (.ref f_cross) = true)
    (a_times : PySem.W.nsIn K mainGlobals "times" = some (some (.ref f_times)))
    (l_times : K.lookup f_times = some ⟨oc_times, od_times, .func (PySem.W.fnOf "times" "times" (defArgs s_times) (defBody s_times) (defScope s_times) .none kV_times dc_times pm_times an_times cd_times ct_times), sl_times⟩)
    (c_times : PySem.W.codeIn K cd_times "times" = true)
    (k_times : PySem.W.keepIn K (.ref f_times) = true)
    (a_plus : PySem.W.nsIn K mainGlobals "plus" = some (some (.ref f_plus)))
    (l_plus : K.lookup f_plus = some ⟨oc_plus, od_plus, .func (PySem.W.fnOf "plus" "plus" (defArgs s_plus) (defBody s_plus) (defScope s_plus) .none kV_plus dc_plus pm_plus an_plus cd_plus ct_plus), sl_plus⟩)
    (c_plus : PySem.W.codeIn K cd_plus "plus" = true)
    (k_plus : PySem.W.keepIn K (.ref f_plus) = true)
    (a_minus : PySem.W.nsIn K mainGlobals "minus" = some (some (.ref f_minus)))
    (l_minus : K.lookup f_minus = some ⟨oc_minus, od_minus, .func (PySem.W.fnOf "minus" "minus" (defArgs s_minus) (defBody s_minus) (defScope s_minus) .none kV_minus dc_minus pm_minus an_minus cd_minus ct_minus), sl_minus⟩)
    (c_minus : PySem.W.codeIn K cd_minus "minus" = true)
    (k_minus : PySem.W.keepIn K (.ref f_minus) = true)
    (a_swapped : PySem.W.nsIn K mainGlobals "swapped" = some (some (.ref f_swapped)))
    (l_swapped : K.lookup f_swapped = some ⟨oc_swapped, od_swapped, .func (PySem.W.fnOf "swapped" "swapped" (defArgs s_swapped) (defBody s_swapped) (defScope s_swapped) .none kV_swapped dc_swapped pm_swapped an_swapped cd_swapped ct_swapped), sl_swapped⟩)
    (c_swapped : PySem.W.codeIn K cd_swapped "swapped" = true)
    (k_swapped : PySem.W.keepIn K (.ref f_swapped) = true)
    (a_law_well : PySem.W.nsIn K mainGlobals "_law_well" = some (some (.ref f_law_well)))
    (l_law_well : K.lookup f_law_well = some ⟨oc_law_well, od_law_well, .func (PySem.W.fnOf "_law_well" "_law_well" (defArgs s_law_well) (defBody s_law_well) (defScope s_law_well) .none kV_law_well dc_law_well pm_law_well an_law_well cd_law_well ct_law_well), sl_law_well⟩)
    (c_law_well : PySem.W.codeIn K cd_law_well "_law_well" = true)
    (k_law_well : PySem.W.keepIn K (.ref f_law_well) = true)
    (a_law_draw : PySem.W.nsIn K mainGlobals "_law_draw" = some (some (.ref f_law_draw)))
    (l_law_draw : K.lookup f_law_draw = some ⟨oc_law_draw, od_law_draw, .func (PySem.W.fnOf "_law_draw" "_law_draw" (defArgs s_law_draw) (defBody s_law_draw) (defScope s_law_draw) .none kV_law_draw dc_law_draw pm_law_draw an_law_draw cd_law_draw ct_law_draw), sl_law_draw⟩)
    (c_law_draw : PySem.W.codeIn K cd_law_draw "_law_draw" = true)
    (k_law_draw : PySem.W.keepIn K (.ref f_law_draw) = true)
    (a_law_common : PySem.W.nsIn K mainGlobals "_law_common" = some (some (.ref f_law_common)))
    (l_law_common : K.lookup f_law_common = some ⟨oc_law_common, od_law_common, .func (PySem.W.fnOf "_law_common" "_law_common" (defArgs s_law_common) (defBody s_law_common) (defScope s_law_common) .none kV_law_common dc_law_common pm_law_common an_law_common cd_law_common ct_law_common), sl_law_common⟩)
    (c_law_common : PySem.W.codeIn K cd_law_common "_law_common" = true)
    (k_law_common : PySem.W.keepIn K (.ref f_law_common) = true)
    (a_law_cross : PySem.W.nsIn K mainGlobals "_law_cross" = some (some (.ref f_law_cross)))
    (l_law_cross : K.lookup f_law_cross = some ⟨oc_law_cross, od_law_cross, .func (PySem.W.fnOf "_law_cross" "_law_cross" (defArgs s_law_cross) (defBody s_law_cross) (defScope s_law_cross) .none kV_law_cross dc_law_cross pm_law_cross an_law_cross cd_law_cross ct_law_cross), sl_law_cross⟩)
    (c_law_cross : PySem.W.codeIn K cd_law_cross "_law_cross" = true)
    (k_law_cross : PySem.W.keepIn K (.ref f_law_cross) = true)
    (a_law_dot : PySem.W.nsIn K mainGlobals "_law_dot" = some (some (.ref f_law_dot)))
    (l_law_dot : K.lookup f_law_dot = some ⟨oc_law_dot, od_law_dot, .func (PySem.W.fnOf "_law_dot" "_law_dot" (defArgs s_law_dot) (defBody s_law_dot) (defScope s_law_dot) .none kV_law_dot dc_law_dot pm_law_dot an_law_dot cd_law_dot ct_law_dot), sl_law_dot⟩)
    (c_law_dot : PySem.W.codeIn K cd_law_dot "_law_dot" = true)
    (k_law_dot : PySem.W.keepIn K (.ref f_law_dot) = true)
    (a_law_minors : PySem.W.nsIn K mainGlobals "_law_minors" = some (some (.ref f_law_minors)))
    (l_law_minors : K.lookup f_law_minors = some ⟨oc_law_minors, od_law_minors, .func (PySem.W.fnOf "_law_minors" "_law_minors" (defArgs s_law_minors) (defBody s_law_minors) (defScope s_law_minors) .none kV_law_minors dc_law_minors pm_law_minors an_law_minors cd_law_minors ct_law_minors), sl_law_minors⟩)
    (c_law_minors : PySem.W.codeIn K cd_law_minors "_law_minors" = true)
    (k_law_minors : PySem.W.keepIn K (.ref f_law_minors) = true)
    (a_law_units : PySem.W.nsIn K mainGlobals "_law_units" = some (some (.ref f_law_units)))
    (l_law_units : K.lookup f_law_units = some ⟨oc_law_units, od_law_units, .func (PySem.W.fnOf "_law_units" "_law_units" (defArgs s_law_units) (defBody s_law_units) (defScope s_law_units) .none kV_law_units dc_law_units pm_law_units an_law_units cd_law_units ct_law_units), sl_law_units⟩)
    (c_law_units : PySem.W.codeIn K cd_law_units "_law_units" = true)
    (k_law_units : PySem.W.keepIn K (.ref f_law_units) = true)
    (a_reduced : PySem.W.nsIn K mainGlobals "reduced" = some (some (.ref f_reduced)))
    (l_reduced : K.lookup f_reduced = some ⟨oc_reduced, od_reduced, .func (PySem.W.fnOf "reduced" "reduced" (defArgs s_reduced) (defBody s_reduced) (defScope s_reduced) .none kV_reduced dc_reduced pm_reduced an_reduced cd_reduced ct_reduced), sl_reduced⟩)
    (c_reduced : PySem.W.codeIn K cd_reduced "reduced" = true)
    (k_reduced : PySem.W.keepIn K (.ref f_reduced) = true)
    (a_is_reduced_row : PySem.W.nsIn K mainGlobals "is_reduced_row" = some (some (.ref f_is_reduced_row)))
    (l_is_reduced_row : K.lookup f_is_reduced_row = some ⟨oc_is_reduced_row, od_is_reduced_row, .func (PySem.W.fnOf "is_reduced_row" "is_reduced_row" (defArgs s_is_reduced_row) (defBody s_is_reduced_row) (defScope s_is_reduced_row) .none kV_is_reduced_row dc_is_reduced_row pm_is_reduced_row an_is_reduced_row cd_is_reduced_row ct_is_reduced_row), sl_is_reduced_row⟩)
    (c_is_reduced_row : PySem.W.codeIn K cd_is_reduced_row "is_reduced_row" = true)
    (k_is_reduced_row : PySem.W.keepIn K (.ref f_is_reduced_row) = true)
    (a_row_product : PySem.W.nsIn K mainGlobals "row_product" = some (some (.ref f_row_product)))
    (l_row_product : K.lookup f_row_product = some ⟨oc_row_product, od_row_product, .func (PySem.W.fnOf "row_product" "row_product" (defArgs s_row_product) (defBody s_row_product) (defScope s_row_product) .none kV_row_product dc_row_product pm_row_product an_row_product cd_row_product ct_row_product), sl_row_product⟩)
    (c_row_product : PySem.W.codeIn K cd_row_product "row_product" = true)
    (k_row_product : PySem.W.keepIn K (.ref f_row_product) = true)
    (a_plane_row : PySem.W.nsIn K mainGlobals "plane_row" = some (some (.ref f_plane_row)))
    (l_plane_row : K.lookup f_plane_row = some ⟨oc_plane_row, od_plane_row, .func (PySem.W.fnOf "plane_row" "plane_row" (defArgs s_plane_row) (defBody s_plane_row) (defScope s_plane_row) .none kV_plane_row dc_plane_row pm_plane_row an_plane_row cd_plane_row ct_plane_row), sl_plane_row⟩)
    (c_plane_row : PySem.W.codeIn K cd_plane_row "plane_row" = true)
    (k_plane_row : PySem.W.keepIn K (.ref f_plane_row) = true)
    (a_point_row : PySem.W.nsIn K mainGlobals "point_row" = some (some (.ref f_point_row)))
    (l_point_row : K.lookup f_point_row = some ⟨oc_point_row, od_point_row, .func (PySem.W.fnOf "point_row" "point_row" (defArgs s_point_row) (defBody s_point_row) (defScope s_point_row) .none kV_point_row dc_point_row pm_point_row an_point_row cd_point_row ct_point_row), sl_point_row⟩)
    (c_point_row : PySem.W.codeIn K cd_point_row "point_row" = true)
    (k_point_row : PySem.W.keepIn K (.ref f_point_row) = true)
    (a_law_row : PySem.W.nsIn K mainGlobals "_law_row" = some (some (.ref f_law_row)))
    (l_law_row : K.lookup f_law_row = some ⟨oc_law_row, od_law_row, .func (PySem.W.fnOf "_law_row" "_law_row" (defArgs s_law_row) (defBody s_law_row) (defScope s_law_row) .none kV_law_row dc_law_row pm_law_row an_law_row cd_law_row ct_law_row), sl_law_row⟩)
    (c_law_row : PySem.W.codeIn K cd_law_row "_law_row" = true)
    (k_law_row : PySem.W.keepIn K (.ref f_law_row) = true)
    (a_law_reduced : PySem.W.nsIn K mainGlobals "_law_reduced" = some (some (.ref f_law_reduced)))
    (l_law_reduced : K.lookup f_law_reduced = some ⟨oc_law_reduced, od_law_reduced, .func (PySem.W.fnOf "_law_reduced" "_law_reduced" (defArgs s_law_reduced) (defBody s_law_reduced) (defScope s_law_reduced) .none kV_law_reduced dc_law_reduced pm_law_reduced an_law_reduced cd_law_reduced ct_law_reduced), sl_law_reduced⟩)
    (c_law_reduced : PySem.W.codeIn K cd_law_reduced "_law_reduced" = true)
    (k_law_reduced : PySem.W.keepIn K (.ref f_law_reduced) = true)
    (a_law_line : PySem.W.nsIn K mainGlobals "_law_line" = some (some (.ref f_law_line)))
    (l_law_line : K.lookup f_law_line = some ⟨oc_law_line, od_law_line, .func (PySem.W.fnOf "_law_line" "_law_line" (defArgs s_law_line) (defBody s_law_line) (defScope s_law_line) .none kV_law_line dc_law_line pm_law_line an_law_line cd_law_line ct_law_line), sl_law_line⟩)
    (c_law_line : PySem.W.codeIn K cd_law_line "_law_line" = true)
    (k_law_line : PySem.W.keepIn K (.ref f_law_line) = true)
    (a_law_cut_at : PySem.W.nsIn K mainGlobals "_law_cut_at" = some (some (.ref f_law_cut_at)))
    (l_law_cut_at : K.lookup f_law_cut_at = some ⟨oc_law_cut_at, od_law_cut_at, .func (PySem.W.fnOf "_law_cut_at" "_law_cut_at" (defArgs s_law_cut_at) (defBody s_law_cut_at) (defScope s_law_cut_at) .none kV_law_cut_at dc_law_cut_at pm_law_cut_at an_law_cut_at cd_law_cut_at ct_law_cut_at), sl_law_cut_at⟩)
    (c_law_cut_at : PySem.W.codeIn K cd_law_cut_at "_law_cut_at" = true)
    (k_law_cut_at : PySem.W.keepIn K (.ref f_law_cut_at) = true)
    (a_is_rod : PySem.W.nsIn K mainGlobals "is_rod" = some (some (.ref f_is_rod)))
    (l_is_rod : K.lookup f_is_rod = some ⟨oc_is_rod, od_is_rod, .func (PySem.W.fnOf "is_rod" "is_rod" (defArgs s_is_rod) (defBody s_is_rod) (defScope s_is_rod) .none kV_is_rod dc_is_rod pm_is_rod an_is_rod cd_is_rod ct_is_rod), sl_is_rod⟩)
    (c_is_rod : PySem.W.codeIn K cd_is_rod "is_rod" = true)
    (k_is_rod : PySem.W.keepIn K (.ref f_is_rod) = true)
    (a_law_place : PySem.W.nsIn K mainGlobals "_law_place" = some (some (.ref f_law_place)))
    (l_law_place : K.lookup f_law_place = some ⟨oc_law_place, od_law_place, .func (PySem.W.fnOf "_law_place" "_law_place" (defArgs s_law_place) (defBody s_law_place) (defScope s_law_place) .none kV_law_place dc_law_place pm_law_place an_law_place cd_law_place ct_law_place), sl_law_place⟩)
    (c_law_place : PySem.W.codeIn K cd_law_place "_law_place" = true)
    (k_law_place : PySem.W.keepIn K (.ref f_law_place) = true)
    (a_law_two_with : PySem.W.nsIn K mainGlobals "_law_two_with" = some (some (.ref f_law_two_with)))
    (l_law_two_with : K.lookup f_law_two_with = some ⟨oc_law_two_with, od_law_two_with, .func (PySem.W.fnOf "_law_two_with" "_law_two_with" (defArgs s_law_two_with) (defBody s_law_two_with) (defScope s_law_two_with) .none kV_law_two_with dc_law_two_with pm_law_two_with an_law_two_with cd_law_two_with ct_law_two_with), sl_law_two_with⟩)
    (c_law_two_with : PySem.W.codeIn K cd_law_two_with "_law_two_with" = true)
    (k_law_two_with : PySem.W.keepIn K (.ref f_law_two_with) = true)
    (a_law_mixed : PySem.W.nsIn K mainGlobals "_law_mixed" = some (some (.ref f_law_mixed)))
    (l_law_mixed : K.lookup f_law_mixed = some ⟨oc_law_mixed, od_law_mixed, .func (PySem.W.fnOf "_law_mixed" "_law_mixed" (defArgs s_law_mixed) (defBody s_law_mixed) (defScope s_law_mixed) .none kV_law_mixed dc_law_mixed pm_law_mixed an_law_mixed cd_law_mixed ct_law_mixed), sl_law_mixed⟩)
    (c_law_mixed : PySem.W.codeIn K cd_law_mixed "_law_mixed" = true)
    (k_law_mixed : PySem.W.keepIn K (.ref f_law_mixed) = true)
    (a_check_rod : PySem.W.nsIn K mainGlobals "check_rod" = some (some (.ref f_check_rod)))
    (l_check_rod : K.lookup f_check_rod = some ⟨oc_check_rod, od_check_rod, .func (PySem.W.fnOf "check_rod" "check_rod" (defArgs s_check_rod) (defBody s_check_rod) (defScope s_check_rod) .none kV_check_rod dc_check_rod pm_check_rod an_check_rod cd_check_rod ct_check_rod), sl_check_rod⟩)
    (c_check_rod : PySem.W.codeIn K cd_check_rod "check_rod" = true)
    (k_check_rod : PySem.W.keepIn K (.ref f_check_rod) = true)
    (a_law_unlike : PySem.W.nsIn K mainGlobals "_law_unlike" = some (some (.ref f_law_unlike)))
    (l_law_unlike : K.lookup f_law_unlike = some ⟨oc_law_unlike, od_law_unlike, .func (PySem.W.fnOf "_law_unlike" "_law_unlike" (defArgs s_law_unlike) (defBody s_law_unlike) (defScope s_law_unlike) .none kV_law_unlike dc_law_unlike pm_law_unlike an_law_unlike cd_law_unlike ct_law_unlike), sl_law_unlike⟩)
    (c_law_unlike : PySem.W.codeIn K cd_law_unlike "_law_unlike" = true)
    (k_law_unlike : PySem.W.keepIn K (.ref f_law_unlike) = true)
    (a_check_rods : PySem.W.nsIn K mainGlobals "check_rods" = some (some (.ref f_check_rods)))
    (l_check_rods : K.lookup f_check_rods = some ⟨oc_check_rods, od_check_rods, .func (PySem.W.fnOf "check_rods" "check_rods" (defArgs s_check_rods) (defBody s_check_rods) (defScope s_check_rods) .none kV_check_rods dc_check_rods pm_check_rods an_check_rods cd_check_rods ct_check_rods), sl_check_rods⟩)
    (c_check_rods : PySem.W.codeIn K cd_check_rods "check_rods" = true)
    (k_check_rods : PySem.W.keepIn K (.ref f_check_rods) = true)
    (a_check_unlike_meeting : PySem.W.nsIn K mainGlobals "check_unlike_meeting" = some (some (.ref f_check_unlike_meeting)))
    (l_check_unlike_meeting : K.lookup f_check_unlike_meeting = some ⟨oc_check_unlike_meeting, od_check_unlike_meeting, .func (PySem.W.fnOf "check_unlike_meeting" "check_unlike_meeting" (defArgs s_check_unlike_meeting) (defBody s_check_unlike_meeting) (defScope s_check_unlike_meeting) .none kV_check_unlike_meeting dc_check_unlike_meeting pm_check_unlike_meeting an_check_unlike_meeting cd_check_unlike_meeting ct_check_unlike_meeting), sl_check_unlike_meeting⟩)
    (c_check_unlike_meeting : PySem.W.codeIn K cd_check_unlike_meeting "check_unlike_meeting" = true)
    (k_check_unlike_meeting : PySem.W.keepIn K (.ref f_check_unlike_meeting) = true)
    (a_meeting_point : PySem.W.nsIn K mainGlobals "meeting_point" = some (some (.ref f_meeting_point)))
    (l_meeting_point : K.lookup f_meeting_point = some ⟨oc_meeting_point, od_meeting_point, .func (PySem.W.fnOf "meeting_point" "meeting_point" (defArgs s_meeting_point) (defBody s_meeting_point) (defScope s_meeting_point) .none kV_meeting_point dc_meeting_point pm_meeting_point an_meeting_point cd_meeting_point ct_meeting_point), sl_meeting_point⟩)
    (c_meeting_point : PySem.W.codeIn K cd_meeting_point "meeting_point" = true)
    (k_meeting_point : PySem.W.keepIn K (.ref f_meeting_point) = true)
    (a_meeting_plane : PySem.W.nsIn K mainGlobals "meeting_plane" = some (some (.ref f_meeting_plane)))
    (l_meeting_plane : K.lookup f_meeting_plane = some ⟨oc_meeting_plane, od_meeting_plane, .func (PySem.W.fnOf "meeting_plane" "meeting_plane" (defArgs s_meeting_plane) (defBody s_meeting_plane) (defScope s_meeting_plane) .none kV_meeting_plane dc_meeting_plane pm_meeting_plane an_meeting_plane cd_meeting_plane ct_meeting_plane), sl_meeting_plane⟩)
    (c_meeting_plane : PySem.W.codeIn K cd_meeting_plane "meeting_plane" = true)
    (k_meeting_plane : PySem.W.keepIn K (.ref f_meeting_plane) = true)
    (a_law_said : PySem.W.nsIn K mainGlobals "_law_said" = some (some (.ref f_law_said)))
    (l_law_said : K.lookup f_law_said = some ⟨oc_law_said, od_law_said, .func (PySem.W.fnOf "_law_said" "_law_said" (defArgs s_law_said) (defBody s_law_said) (defScope s_law_said) .none kV_law_said dc_law_said pm_law_said an_law_said cd_law_said ct_law_said), sl_law_said⟩)
    (c_law_said : PySem.W.codeIn K cd_law_said "_law_said" = true)
    (k_law_said : PySem.W.keepIn K (.ref f_law_said) = true)
    (a_law_through_point : PySem.W.nsIn K mainGlobals "_law_through_point" = some (some (.ref f_law_through_point)))
    (l_law_through_point : K.lookup f_law_through_point = some ⟨oc_law_through_point, od_law_through_point, .func (PySem.W.fnOf "_law_through_point" "_law_through_point" (defArgs s_law_through_point) (defBody s_law_through_point) (defScope s_law_through_point) .none kV_law_through_point dc_law_through_point pm_law_through_point an_law_through_point cd_law_through_point ct_law_through_point), sl_law_through_point⟩)
    (c_law_through_point : PySem.W.codeIn K cd_law_through_point "_law_through_point" = true)
    (k_law_through_point : PySem.W.keepIn K (.ref f_law_through_point) = true)
    (a_law_in_plane : PySem.W.nsIn K mainGlobals "_law_in_plane" = some (some (.ref f_law_in_plane)))
    (l_law_in_plane : K.lookup f_law_in_plane = some ⟨oc_law_in_plane, od_law_in_plane, .func (PySem.W.fnOf "_law_in_plane" "_law_in_plane" (defArgs s_law_in_plane) (defBody s_law_in_plane) (defScope s_law_in_plane) .none kV_law_in_plane dc_law_in_plane pm_law_in_plane an_law_in_plane cd_law_in_plane ct_law_in_plane), sl_law_in_plane⟩)
    (c_law_in_plane : PySem.W.codeIn K cd_law_in_plane "_law_in_plane" = true)
    (k_law_in_plane : PySem.W.keepIn K (.ref f_law_in_plane) = true)
    (a_law_freely : PySem.W.nsIn K mainGlobals "_law_freely" = some (some (.ref f_law_freely)))
    (l_law_freely : K.lookup f_law_freely = some ⟨oc_law_freely, od_law_freely, .func (PySem.W.fnOf "_law_freely" "_law_freely" (defArgs s_law_freely) (defBody s_law_freely) (defScope s_law_freely) .none kV_law_freely dc_law_freely pm_law_freely an_law_freely cd_law_freely ct_law_freely), sl_law_freely⟩)
    (c_law_freely : PySem.W.codeIn K cd_law_freely "_law_freely" = true)
    (k_law_freely : PySem.W.keepIn K (.ref f_law_freely) = true)
    (a_law : PySem.W.nsIn K mainGlobals "law" = some (some (.ref f_law)))
    (l_law : K.lookup f_law = some ⟨oc_law, od_law, .func (PySem.W.fnOf "law" "law" (defArgs s_law) (defBody s_law) (defScope s_law) .none kV_law dc_law pm_law an_law cd_law ct_law), sl_law⟩)
    (c_law : PySem.W.codeIn K cd_law "law" = true)
    (k_law : PySem.W.keepIn K (.ref f_law) = true)
    (z_len : PySem.W.nsIn K mainGlobals "len" = some none)
    (z_abs : PySem.W.nsIn K mainGlobals "abs" = some none)
    (z_int : PySem.W.nsIn K mainGlobals "int" = some none)
    (z_bool : PySem.W.nsIn K mainGlobals "bool" = some none)
    (z_str : PySem.W.nsIn K mainGlobals "str" = some none)
    (z_tuple : PySem.W.nsIn K mainGlobals "tuple" = some none)
    (z_list : PySem.W.nsIn K mainGlobals "list" = some none)
    (z_isinstance : PySem.W.nsIn K mainGlobals "isinstance" = some none)
    (z_repr : PySem.W.nsIn K mainGlobals "repr" = some none)
    (z_sum : PySem.W.nsIn K mainGlobals "sum" = some none)
    (z_all : PySem.W.nsIn K mainGlobals "all" = some none)
    (z_any : PySem.W.nsIn K mainGlobals "any" = some none)
    (z_max : PySem.W.nsIn K mainGlobals "max" = some none)
    (z_min : PySem.W.nsIn K mainGlobals "min" = some none)
    (z_divmod : PySem.W.nsIn K mainGlobals "divmod" = some none)
    (z_range : PySem.W.nsIn K mainGlobals "range" = some none)
    (z_zip : PySem.W.nsIn K mainGlobals "zip" = some none)
    (z_gcd : PySem.W.nsIn K mainGlobals "gcd" = some (some (.builtin "math.gcd")))
    (g_InvalidRod : PySem.W.nsIn K mainGlobals "InvalidRod" = some (some (.ref C_InvalidRod)))
    (x_InvalidRod : K.lookup C_InvalidRod = some (excClassObj nm_InvalidRod q_InvalidRod C_InvalidRod N_InvalidRod bs_InvalidRod bm_InvalidRod true sn_InvalidRod sb_InvalidRod ab_InvalidRod cl_InvalidRod dd_InvalidRod x0_InvalidRod x1_InvalidRod x2_InvalidRod x3_InvalidRod x5_InvalidRod "ValueError.__new__"))
    (rb_InvalidRod : PySem.HandSPX.refsVE bm_InvalidRod = true)
    (sa_InvalidRod : PySem.W.findIn K (.ref C_InvalidRod) "__setattr__" = some (some (.builtin "object.__setattr__")))
    (ga_InvalidRod : PySem.W.findIn K (.ref C_InvalidRod) "__getattribute__" = some (some (.builtin "BaseException.__getattribute__")))
    (gg_InvalidRod : PySem.W.findIn K (.ref C_InvalidRod) "__getattr__" = some none)
    (nf_InvalidRod : PySem.W.findIn K (.ref C_InvalidRod) "given" = some none)
    (ii_InvalidRod : PySem.W.findIn K (.ref C_InvalidRod) "__init__" = some (some (.ref f_InvalidRod)))
    (ti_InvalidRod : PySem.W.typeIn K (.ref f_InvalidRod) = some (.type "function"))
    (li_InvalidRod : K.lookup f_InvalidRod = some ⟨oc_InvalidRod, od_InvalidRod, .func (PySem.W.fnOf "__init__" "InvalidRod.__init__" (defArgs s_InvalidRod) (defBody s_InvalidRod) (defScope s_InvalidRod) .none kV_InvalidRod dc_InvalidRod pm_InvalidRod an_InvalidRod cd_InvalidRod ct_InvalidRod), sl_InvalidRod⟩)
    (ci_InvalidRod : PySem.W.codeIn K cd_InvalidRod "InvalidRod.__init__" = true)
    (ki_InvalidRod : PySem.W.keepIn K (.ref f_InvalidRod) = true)
    (kc_InvalidRod : PySem.W.keepIn K (.ref C_InvalidRod) = true)
    (ec_InvalidRod : PySem.W.subIn K (.ref C_InvalidRod) (.type "BaseException") = some true)
    (tc_InvalidRod : PySem.W.typeIn K (.ref C_InvalidRod) = some (.type "type"))
    (hc_InvalidRod : PySem.W.hasDictIn K C_InvalidRod = true)
    (ic_InvalidRod : PySem.W.isClsIn K C_InvalidRod = true)
    (ss_InvalidRod : PySem.W.subIn K (.ref C_InvalidRod) (.ref C_InvalidRod) = some true)
    (g_Apart : PySem.W.nsIn K mainGlobals "Apart" = some (some (.ref C_Apart)))
    (xq_Apart : PySem.W.excIn K C_Apart veBase "ValueError.__new__" = true)
    (kc_Apart : PySem.W.keepIn K (.ref C_Apart) = true)
    (ec_Apart : PySem.W.subIn K (.ref C_Apart) (.type "BaseException") = some true)
    (tc_Apart : PySem.W.typeIn K (.ref C_Apart) = some (.type "type"))
    (ic_Apart : PySem.W.isClsIn K C_Apart = true)
    (ss_Apart : PySem.W.subIn K (.ref C_Apart) (.ref C_Apart) = some true)
    (g_Same : PySem.W.nsIn K mainGlobals "Same" = some (some (.ref C_Same)))
    (xq_Same : PySem.W.excIn K C_Same veBase "ValueError.__new__" = true)
    (kc_Same : PySem.W.keepIn K (.ref C_Same) = true)
    (ec_Same : PySem.W.subIn K (.ref C_Same) (.type "BaseException") = some true)
    (tc_Same : PySem.W.typeIn K (.ref C_Same) = some (.type "type"))
    (ic_Same : PySem.W.isClsIn K C_Same = true)
    (ss_Same : PySem.W.subIn K (.ref C_Same) (.ref C_Same) = some true)
    (gc_CORNERS : PySem.W.nsIn K mainGlobals "CORNERS" = some (some (Value.ref ta_CORNERS_0)))
    (t_CORNERS_0 : K.lookup ta_CORNERS_0 = some ⟨.type "tuple", td_CORNERS_0, .seq [Value.ref ta_CORNERS_1, Value.ref ta_CORNERS_6, Value.ref ta_CORNERS_11, Value.ref ta_CORNERS_16].toArray tn_CORNERS_0, ts_CORNERS_0⟩)
    (t_CORNERS_1 : K.lookup ta_CORNERS_1 = some ⟨.type "tuple", td_CORNERS_1, .seq [Value.int 1 tk_CORNERS_2, Value.int 0 tk_CORNERS_3, Value.int 0 tk_CORNERS_4, Value.int 0 tk_CORNERS_5].toArray tn_CORNERS_1, ts_CORNERS_1⟩)
    (t_CORNERS_6 : K.lookup ta_CORNERS_6 = some ⟨.type "tuple", td_CORNERS_6, .seq [Value.int 0 tk_CORNERS_7, Value.int 1 tk_CORNERS_8, Value.int 0 tk_CORNERS_9, Value.int 0 tk_CORNERS_10].toArray tn_CORNERS_6, ts_CORNERS_6⟩)
    (t_CORNERS_11 : K.lookup ta_CORNERS_11 = some ⟨.type "tuple", td_CORNERS_11, .seq [Value.int 0 tk_CORNERS_12, Value.int 0 tk_CORNERS_13, Value.int 1 tk_CORNERS_14, Value.int 0 tk_CORNERS_15].toArray tn_CORNERS_11, ts_CORNERS_11⟩)
    (t_CORNERS_16 : K.lookup ta_CORNERS_16 = some ⟨.type "tuple", td_CORNERS_16, .seq [Value.int 0 tk_CORNERS_17, Value.int 0 tk_CORNERS_18, Value.int 0 tk_CORNERS_19, Value.int 1 tk_CORNERS_20].toArray tn_CORNERS_16, ts_CORNERS_16⟩)
    (se_Same_Apart : PySem.W.subIn K (.ref C_Same) (.ref C_Apart) = some false)
    : ∃ fd : FuncData, (∀ (s : Shared) (u : Value), BindsTo s fd ⟨[u], []⟩ [("_law_script", u)]) ∧ ∀ base : Heap, K.In base → base.Ns mainGlobals mg → SysB base → FnG P w K mg base 10 fa fd ["_law_script"] (spD K mg 1 F_law) := by
  have e := hfa.symm.trans (PySem.W.mg_of X G a_law)
  cases e
  have F_is_whole := fun_mk (st := s_is_whole) l_is_whole c_is_whole k_is_whole
  have F_common_divisor := fun_mk (st := s_common_divisor) l_common_divisor c_common_divisor k_common_divisor
  have F_first_not_zero := fun_mk (st := s_first_not_zero) l_first_not_zero c_first_not_zero k_first_not_zero
  have F_dot := fun_mk (st := s_dot) l_dot c_dot k_dot
  have F_cross := fun_mk (st := s_cross) l_cross c_cross k_cross
  have F_times := fun_mk (st := s_times) l_times c_times k_times
  have F_plus := fun_mk (st := s_plus) l_plus c_plus k_plus
  have F_minus := fun_mk (st := s_minus) l_minus c_minus k_minus
  have F_swapped := fun_mk (st := s_swapped) l_swapped c_swapped k_swapped
  have F_law_well := fun_mk (st := s_law_well) l_law_well c_law_well k_law_well
  have F_law_draw := fun_mk (st := s_law_draw) l_law_draw c_law_draw k_law_draw
  have F_law_common := fun_mk (st := s_law_common) l_law_common c_law_common k_law_common
  have F_law_cross := fun_mk (st := s_law_cross) l_law_cross c_law_cross k_law_cross
  have F_law_dot := fun_mk (st := s_law_dot) l_law_dot c_law_dot k_law_dot
  have F_law_minors := fun_mk (st := s_law_minors) l_law_minors c_law_minors k_law_minors
  have F_law_units := fun_mk (st := s_law_units) l_law_units c_law_units k_law_units
  have F_reduced := fun_mk (st := s_reduced) l_reduced c_reduced k_reduced
  have F_is_reduced_row := fun_mk (st := s_is_reduced_row) l_is_reduced_row c_is_reduced_row k_is_reduced_row
  have F_row_product := fun_mk (st := s_row_product) l_row_product c_row_product k_row_product
  have F_plane_row := fun_mk (st := s_plane_row) l_plane_row c_plane_row k_plane_row
  have F_point_row := fun_mk (st := s_point_row) l_point_row c_point_row k_point_row
  have F_law_row := fun_mk (st := s_law_row) l_law_row c_law_row k_law_row
  have F_law_reduced := fun_mk (st := s_law_reduced) l_law_reduced c_law_reduced k_law_reduced
  have F_law_line := fun_mk (st := s_law_line) l_law_line c_law_line k_law_line
  have F_law_cut_at := fun_mk (st := s_law_cut_at) l_law_cut_at c_law_cut_at k_law_cut_at
  have F_is_rod := fun_mk (st := s_is_rod) l_is_rod c_is_rod k_is_rod
  have F_law_place := fun_mk (st := s_law_place) l_law_place c_law_place k_law_place
  have F_law_two_with := fun_mk (st := s_law_two_with) l_law_two_with c_law_two_with k_law_two_with
  have F_law_mixed := fun_mk (st := s_law_mixed) l_law_mixed c_law_mixed k_law_mixed
  have F_check_rod := fun_mk (st := s_check_rod) l_check_rod c_check_rod k_check_rod
  have F_law_unlike := fun_mk (st := s_law_unlike) l_law_unlike c_law_unlike k_law_unlike
  have F_check_rods := fun_mk (st := s_check_rods) l_check_rods c_check_rods k_check_rods
  have F_check_unlike_meeting := fun_mk (st := s_check_unlike_meeting) l_check_unlike_meeting c_check_unlike_meeting k_check_unlike_meeting
  have F_meeting_point := fun_mk (st := s_meeting_point) l_meeting_point c_meeting_point k_meeting_point
  have F_meeting_plane := fun_mk (st := s_meeting_plane) l_meeting_plane c_meeting_plane k_meeting_plane
  have F_law_said := fun_mk (st := s_law_said) l_law_said c_law_said k_law_said
  have F_law_through_point := fun_mk (st := s_law_through_point) l_law_through_point c_law_through_point k_law_through_point
  have F_law_in_plane := fun_mk (st := s_law_in_plane) l_law_in_plane c_law_in_plane k_law_in_plane
  have F_law_freely := fun_mk (st := s_law_freely) l_law_freely c_law_freely k_law_freely
  have F_law := fun_mk (st := s_law) l_law c_law k_law
  have Fi_InvalidRod := fun_mk (st := s_InvalidRod) li_InvalidRod ci_InvalidRod ki_InvalidRod
  refine ⟨PySem.W.fnOf "law" "law" (defArgs s_law) (defBody s_law) (defScope s_law) .none kV_law dc_law pm_law an_law cd_law ct_law, fun s v => .of_eq rfl, fun base _ _ SB => ?_⟩
  · have B : Blt mg := ⟨PySem.W.mg_none_of X G z_len, PySem.W.mg_none_of X G z_abs, PySem.W.mg_none_of X G z_int, PySem.W.mg_none_of X G z_bool, PySem.W.mg_none_of X G z_str, PySem.W.mg_none_of X G z_tuple, PySem.W.mg_none_of X G z_list, PySem.W.mg_none_of X G z_isinstance, PySem.W.mg_none_of X G z_repr, PySem.W.mg_none_of X G z_sum, PySem.W.mg_none_of X G z_all, PySem.W.mg_none_of X G z_any, PySem.W.mg_none_of X G z_max, PySem.W.mg_none_of X G z_min, PySem.W.mg_none_of X G z_divmod, PySem.W.mg_none_of X G z_range, PySem.W.mg_none_of X G z_zip⟩
    have hgcd := PySem.W.mg_of X G z_gcd
    have E_InvalidRod : ErC P w K mg base "InvalidRod" "given" C_InvalidRod := ⟨PySem.W.mg_of X G g_InvalidRod, ⟨⟨_, _, _, _, _, _, _, _, _, _, _, _, _, _, _, x_InvalidRod, rb_InvalidRod⟩, sa_InvalidRod, ec_InvalidRod, tc_InvalidRod, kc_InvalidRod⟩, ⟨ga_InvalidRod, gg_InvalidRod, ec_InvalidRod, hc_InvalidRod⟩, nf_InvalidRod, exm_by ec_InvalidRod ic_InvalidRod tc_InvalidRod ss_InvalidRod,
      ⟨_, _, (["self", "given"] : List Str), ii_InvalidRod, ti_InvalidRod, Fi_InvalidRod.binds (ps := (["self", "given"] : List Str)) (fun _ _ _ _ _ _ us hl => match us, hl with | [_, _], _ => rfl), ini_ok Fi_InvalidRod sc_InvalidRod rfl bd_InvalidRod⟩⟩
    have E_Apart : ErC0 K mg "Apart" C_Apart := ⟨PySem.W.mg_of X G g_Apart, xq_Apart, kc_Apart, ec_Apart, tc_Apart, exm_by ec_Apart ic_Apart tc_Apart ss_Apart⟩
    have E_Same : ErC0 K mg "Same" C_Same := ⟨PySem.W.mg_of X G g_Same, xq_Same, kc_Same, ec_Same, tc_Same, exm_by ec_Same ic_Same tc_Same ss_Same⟩
    have Z_CORNERS : Glb K mg "CORNERS" c_CORNERS := ⟨_, _, PySem.W.mg_of X G gc_CORNERS, (kv_tup t_CORNERS_0 (by show (4 : Nat) ≤ sizeLine; decide) (kvs_cons (kv_tup t_CORNERS_1 (by show (4 : Nat) ≤ sizeLine; decide) (kvs_cons kv_int (kvs_cons kv_int (kvs_cons kv_int (kvs_cons kv_int kvs_nil))))) (kvs_cons (kv_tup t_CORNERS_6 (by show (4 : Nat) ≤ sizeLine; decide) (kvs_cons kv_int (kvs_cons kv_int (kvs_cons kv_int (kvs_cons kv_int kvs_nil))))) (kvs_cons (kv_tup t_CORNERS_11 (by show (4 : Nat) ≤ sizeLine; decide) (kvs_cons kv_int (kvs_cons kv_int (kvs_cons kv_int (kvs_cons kv_int kvs_nil))))) (kvs_cons (kv_tup t_CORNERS_16 (by show (4 : Nat) ≤ sizeLine; decide) (kvs_cons kv_int (kvs_cons kv_int (kvs_cons kv_int (kvs_cons kv_int kvs_nil))))) kvs_nil)))))⟩
    have S_Same_Apart := exm_by ec_Apart ic_Apart tc_Apart se_Same_Apart
    let D_is_whole : Def P w K mg base "is_whole" s_is_whole 1 1 P_is_whole K07.F_is_whole := ⟨_, _, PySem.W.mg_of X G a_is_whole, F_is_whole, F_is_whole.binds (ps := P_is_whole) (fun _ _ _ _ _ _ us hl => match us, hl with | [_], _ => rfl), dv_is_whole SB B F_is_whole⟩
    let D_common_divisor : Def P w K mg base "common_divisor" s_common_divisor 1 1 P_common_divisor K07.F_common_divisor := ⟨_, _, PySem.W.mg_of X G a_common_divisor, F_common_divisor, F_common_divisor.binds (ps := P_common_divisor) (fun _ _ _ _ _ _ us hl => match us, hl with | [_], _ => rfl), dv_common_divisor SB hgcd F_common_divisor⟩
    let D_first_not_zero : Def P w K mg base "first_not_zero" s_first_not_zero 1 1 P_first_not_zero K07.F_first_not_zero := ⟨_, _, PySem.W.mg_of X G a_first_not_zero, F_first_not_zero, F_first_not_zero.binds (ps := P_first_not_zero) (fun _ _ _ _ _ _ us hl => match us, hl with | [_], _ => rfl), dv_first_not_zero SB F_first_not_zero⟩
    let D_dot : Def P w K mg base "dot" s_dot 1 2 P_dot K07.F_dot := ⟨_, _, PySem.W.mg_of X G a_dot, F_dot, F_dot.binds (ps := P_dot) (fun _ _ _ _ _ _ us hl => match us, hl with | [_, _], _ => rfl), dv_dot SB B F_dot⟩
    let D_cross : Def P w K mg base "cross" s_cross 1 2 P_cross K07.F_cross := ⟨_, _, PySem.W.mg_of X G a_cross, F_cross, F_cross.binds (ps := P_cross) (fun _ _ _ _ _ _ us hl => match us, hl with | [_, _], _ => rfl), dv_cross SB F_cross⟩
    let D_times : Def P w K mg base "times" s_times 1 2 P_times K07.F_times := ⟨_, _, PySem.W.mg_of X G a_times, F_times, F_times.binds (ps := P_times) (fun _ _ _ _ _ _ us hl => match us, hl with | [_, _], _ => rfl), dv_times SB B F_times⟩
    let D_plus : Def P w K mg base "plus" s_plus 1 2 P_plus K07.F_plus := ⟨_, _, PySem.W.mg_of X G a_plus, F_plus, F_plus.binds (ps := P_plus) (fun _ _ _ _ _ _ us hl => match us, hl with | [_, _], _ => rfl), dv_plus SB B F_plus⟩
    let D_minus : Def P w K mg base "minus" s_minus 1 2 P_minus K07.F_minus := ⟨_, _, PySem.W.mg_of X G a_minus, F_minus, F_minus.binds (ps := P_minus) (fun _ _ _ _ _ _ us hl => match us, hl with | [_, _], _ => rfl), dv_minus SB B F_minus⟩
    let D_swapped : Def P w K mg base "swapped" s_swapped 1 1 P_swapped K07.F_swapped := ⟨_, _, PySem.W.mg_of X G a_swapped, F_swapped, F_swapped.binds (ps := P_swapped) (fun _ _ _ _ _ _ us hl => match us, hl with | [_], _ => rfl), dv_swapped SB F_swapped⟩
    let D_law_well : Def P w K mg base "_law_well" s_law_well 1 2 P_law_well K07.F_law_well := ⟨_, _, PySem.W.mg_of X G a_law_well, F_law_well, F_law_well.binds (ps := P_law_well) (fun _ _ _ _ _ _ us hl => match us, hl with | [_, _], _ => rfl), dv_law_well SB B F_law_well⟩
    let D_law_draw : Def P w K mg base "_law_draw" s_law_draw 1 2 P_law_draw K07.F_law_draw := ⟨_, _, PySem.W.mg_of X G a_law_draw, F_law_draw, F_law_draw.binds (ps := P_law_draw) (fun _ _ _ _ _ _ us hl => match us, hl with | [_, _], _ => rfl), dv_law_draw SB B F_law_draw⟩
    let D_law_common : Def P w K mg base "_law_common" s_law_common 1 2 P_law_common K07.F_law_common := ⟨_, _, PySem.W.mg_of X G a_law_common, F_law_common, F_law_common.binds (ps := P_law_common) (fun _ _ _ _ _ _ us hl => match us, hl with | [_, _], _ => rfl), dv_law_common SB B F_law_common⟩
    let D_law_cross : Def P w K mg base "_law_cross" s_law_cross 1 2 P_law_cross K07.F_law_cross := ⟨_, _, PySem.W.mg_of X G a_law_cross, F_law_cross, F_law_cross.binds (ps := P_law_cross) (fun _ _ _ _ _ _ us hl => match us, hl with | [_, _], _ => rfl), dv_law_cross SB F_law_cross⟩
    let D_law_dot : Def P w K mg base "_law_dot" s_law_dot 1 2 P_law_dot K07.F_law_dot := ⟨_, _, PySem.W.mg_of X G a_law_dot, F_law_dot, F_law_dot.binds (ps := P_law_dot) (fun _ _ _ _ _ _ us hl => match us, hl with | [_, _], _ => rfl), dv_law_dot SB B F_law_dot⟩
    let D_law_minors : Def P w K mg base "_law_minors" s_law_minors 1 3 P_law_minors K07.F_law_minors := ⟨_, _, PySem.W.mg_of X G a_law_minors, F_law_minors, F_law_minors.binds (ps := P_law_minors) (fun _ _ _ _ _ _ us hl => match us, hl with | [_, _, _], _ => rfl), dv_law_minors SB B F_law_minors⟩
    let D_law_units : Def P w K mg base "_law_units" s_law_units 1 0 P_law_units K07.F_law_units := ⟨_, _, PySem.W.mg_of X G a_law_units, F_law_units, F_law_units.binds (ps := P_law_units) (fun _ _ _ _ _ _ us hl => match us, hl with | [], _ => rfl), dv_law_units SB F_law_units⟩
    let D_reduced : Def P w K mg base "reduced" s_reduced 2 1 P_reduced K07.F_reduced := ⟨_, _, PySem.W.mg_of X G a_reduced, F_reduced, F_reduced.binds (ps := P_reduced) (fun _ _ _ _ _ _ us hl => match us, hl with | [_], _ => rfl), dv_reduced SB D_common_divisor D_first_not_zero B F_reduced⟩
    let D_is_reduced_row : Def P w K mg base "is_reduced_row" s_is_reduced_row 2 2 P_is_reduced_row K07.F_is_reduced_row := ⟨_, _, PySem.W.mg_of X G a_is_reduced_row, F_is_reduced_row, F_is_reduced_row.binds (ps := P_is_reduced_row) (fun _ _ _ _ _ _ us hl => match us, hl with | [_, _], _ => rfl), dv_is_reduced_row SB D_is_whole D_common_divisor D_first_not_zero B F_is_reduced_row⟩
    let D_row_product : Def P w K mg base "row_product" s_row_product 2 2 P_row_product K07.F_row_product := ⟨_, _, PySem.W.mg_of X G a_row_product, F_row_product, F_row_product.binds (ps := P_row_product) (fun _ _ _ _ _ _ us hl => match us, hl with | [_, _], _ => rfl), dv_row_product SB D_dot D_swapped F_row_product⟩
    let D_plane_row : Def P w K mg base "plane_row" s_plane_row 2 2 P_plane_row K07.F_plane_row := ⟨_, _, PySem.W.mg_of X G a_plane_row, F_plane_row, F_plane_row.binds (ps := P_plane_row) (fun _ _ _ _ _ _ us hl => match us, hl with | [_, _], _ => rfl), dv_plane_row SB D_plus D_times D_cross D_dot F_plane_row⟩
    let D_point_row : Def P w K mg base "point_row" s_point_row 2 2 P_point_row K07.F_point_row := ⟨_, _, PySem.W.mg_of X G a_point_row, F_point_row, F_point_row.binds (ps := P_point_row) (fun _ _ _ _ _ _ us hl => match us, hl with | [_, _], _ => rfl), dv_point_row SB D_minus D_cross D_times D_dot F_point_row⟩
    let D_law_row : Def P w K mg base "_law_row" s_law_row 2 3 P_law_row K07.F_law_row := ⟨_, _, PySem.W.mg_of X G a_law_row, F_law_row, F_law_row.binds (ps := P_law_row) (fun _ _ _ _ _ _ us hl => match us, hl with | [_, _, _], _ => rfl), dv_law_row SB D_law_draw B F_law_row⟩
    let D_law_reduced : Def P w K mg base "_law_reduced" s_law_reduced 2 1 P_law_reduced K07.F_law_reduced := ⟨_, _, PySem.W.mg_of X G a_law_reduced, F_law_reduced, F_law_reduced.binds (ps := P_law_reduced) (fun _ _ _ _ _ _ us hl => match us, hl with | [_], _ => rfl), dv_law_reduced SB D_law_common B F_law_reduced⟩
    let D_law_line : Def P w K mg base "_law_line" s_law_line 2 2 P_law_line K07.F_law_line := ⟨_, _, PySem.W.mg_of X G a_law_line, F_law_line, F_law_line.binds (ps := P_law_line) (fun _ _ _ _ _ _ us hl => match us, hl with | [_, _], _ => rfl), dv_law_line SB D_law_cross B F_law_line⟩
    let D_law_cut_at : Def P w K mg base "_law_cut_at" s_law_cut_at 2 3 P_law_cut_at K07.F_law_cut_at := ⟨_, _, PySem.W.mg_of X G a_law_cut_at, F_law_cut_at, F_law_cut_at.binds (ps := P_law_cut_at) (fun _ _ _ _ _ _ us hl => match us, hl with | [_, _, _], _ => rfl), dv_law_cut_at SB D_law_dot B F_law_cut_at⟩
    let D_is_rod : Def P w K mg base "is_rod" s_is_rod 3 1 P_is_rod K07.F_is_rod := ⟨_, _, PySem.W.mg_of X G a_is_rod, F_is_rod, F_is_rod.binds (ps := P_is_rod) (fun _ _ _ _ _ _ us hl => match us, hl with | [_], _ => rfl), dv_is_rod SB D_is_reduced_row D_dot F_is_rod⟩
    let D_law_place : Def P w K mg base "_law_place" s_law_place 3 1 P_law_place K07.F_law_place := ⟨_, _, PySem.W.mg_of X G a_law_place, F_law_place, F_law_place.binds (ps := P_law_place) (fun _ _ _ _ _ _ us hl => match us, hl with | [_], _ => rfl), dv_law_place SB D_law_draw D_law_row D_law_reduced F_law_place⟩
    let D_law_two_with : Def P w K mg base "_law_two_with" s_law_two_with 3 2 P_law_two_with K07.F_law_two_with := ⟨_, _, PySem.W.mg_of X G a_law_two_with, F_law_two_with, F_law_two_with.binds (ps := P_law_two_with) (fun _ _ _ _ _ _ us hl => match us, hl with | [_, _], _ => rfl), dv_law_two_with SB D_law_units D_law_minors D_law_reduced F_law_two_with⟩
    let D_law_mixed : Def P w K mg base "_law_mixed" s_law_mixed 3 2 P_law_mixed K07.F_law_mixed := ⟨_, _, PySem.W.mg_of X G a_law_mixed, F_law_mixed, F_law_mixed.binds (ps := P_law_mixed) (fun _ _ _ _ _ _ us hl => match us, hl with | [_, _], _ => rfl), dv_law_mixed SB D_law_row D_law_reduced B F_law_mixed⟩
    let D_check_rod : Def P w K mg base "check_rod" s_check_rod 4 1 P_check_rod K07.F_check_rod := ⟨_, _, PySem.W.mg_of X G a_check_rod, F_check_rod, F_check_rod.binds (ps := P_check_rod) (fun _ _ _ _ _ _ us hl => match us, hl with | [_], _ => rfl), dv_check_rod SB D_is_rod E_InvalidRod F_check_rod⟩
    let D_law_unlike : Def P w K mg base "_law_unlike" s_law_unlike 4 2 P_law_unlike K07.F_law_unlike := ⟨_, _, PySem.W.mg_of X G a_law_unlike, F_law_unlike, F_law_unlike.binds (ps := P_law_unlike) (fun _ _ _ _ _ _ us hl => match us, hl with | [_, _], _ => rfl), dv_law_unlike SB D_law_place F_law_unlike⟩
    let D_check_rods : Def P w K mg base "check_rods" s_check_rods 5 2 P_check_rods K07.F_check_rods := ⟨_, _, PySem.W.mg_of X G a_check_rods, F_check_rods, F_check_rods.binds (ps := P_check_rods) (fun _ _ _ _ _ _ us hl => match us, hl with | [_, _], _ => rfl), dv_check_rods SB D_check_rod F_check_rods⟩
    let D_check_unlike_meeting : Def P w K mg base "check_unlike_meeting" s_check_unlike_meeting 6 2 P_check_unlike_meeting K07.F_check_unlike_meeting := ⟨_, _, PySem.W.mg_of X G a_check_unlike_meeting, F_check_unlike_meeting, F_check_unlike_meeting.binds (ps := P_check_unlike_meeting) (fun _ _ _ _ _ _ us hl => match us, hl with | [_, _], _ => rfl), dv_check_unlike_meeting SB D_check_rods D_row_product E_Apart E_Same F_check_unlike_meeting⟩
    let D_meeting_point : Def P w K mg base "meeting_point" s_meeting_point 7 2 P_meeting_point K07.F_meeting_point := ⟨_, _, PySem.W.mg_of X G a_meeting_point, F_meeting_point, F_meeting_point.binds (ps := P_meeting_point) (fun _ _ _ _ _ _ us hl => match us, hl with | [_, _], _ => rfl), dv_meeting_point SB D_check_unlike_meeting D_point_row D_plane_row D_reduced Z_CORNERS B F_meeting_point⟩
    let D_meeting_plane : Def P w K mg base "meeting_plane" s_meeting_plane 7 2 P_meeting_plane K07.F_meeting_plane := ⟨_, _, PySem.W.mg_of X G a_meeting_plane, F_meeting_plane, F_meeting_plane.binds (ps := P_meeting_plane) (fun _ _ _ _ _ _ us hl => match us, hl with | [_, _], _ => rfl), dv_meeting_plane SB D_check_unlike_meeting D_plane_row D_point_row D_reduced Z_CORNERS B F_meeting_plane⟩
    let D_law_said : Def P w K mg base "_law_said" s_law_said 8 3 P_law_said K07.F_law_said := ⟨_, _, PySem.W.mg_of X G a_law_said, F_law_said, F_law_said.binds (ps := P_law_said) (fun _ _ _ _ _ _ us hl => match us, hl with | [_, _, _], _ => rfl), dv_law_said SB D_meeting_point D_meeting_plane E_Apart E_Same S_Same_Apart F_law_said⟩
    let D_law_through_point : Def P w K mg base "_law_through_point" s_law_through_point 9 1 P_law_through_point K07.F_law_through_point := ⟨_, _, PySem.W.mg_of X G a_law_through_point, F_law_through_point, F_law_through_point.binds (ps := P_law_through_point) (fun _ _ _ _ _ _ us hl => match us, hl with | [_], _ => rfl), dv_law_through_point SB D_law_place D_law_unlike D_law_draw D_law_mixed D_law_reduced D_law_line D_law_minors D_law_said B F_law_through_point⟩
    let D_law_in_plane : Def P w K mg base "_law_in_plane" s_law_in_plane 9 1 P_law_in_plane K07.F_law_in_plane := ⟨_, _, PySem.W.mg_of X G a_law_in_plane, F_law_in_plane, F_law_in_plane.binds (ps := P_law_in_plane) (fun _ _ _ _ _ _ us hl => match us, hl with | [_], _ => rfl), dv_law_in_plane SB D_law_place D_law_unlike D_law_two_with D_law_reduced D_law_line D_law_said D_law_minors B F_law_in_plane⟩
    let D_law_freely : Def P w K mg base "_law_freely" s_law_freely 9 1 P_law_freely K07.F_law_freely := ⟨_, _, PySem.W.mg_of X G a_law_freely, F_law_freely, F_law_freely.binds (ps := P_law_freely) (fun _ _ _ _ _ _ us hl => match us, hl with | [_], _ => rfl), dv_law_freely SB D_law_place D_law_unlike D_law_reduced D_law_line D_law_said D_law_dot D_law_minors D_law_two_with D_law_cut_at B F_law_freely⟩
    exact dv_law SB D_law_well D_law_through_point D_law_in_plane D_law_freely B F_law
end
end K07
open PySem PySem.W PyProof.Rows
set_option maxRecDepth 100000 in
set_option maxHeartbeats 0 in
theorem PySem.Challenge.cw_stringrods_k07_whole_points_and_planes_o_holds : PySem.Challenge.rw_stringrods_k07_whole_points_and_planes_o.Holds := by
  w_on; o_law; k_head; (case hw => w_witness2)
  k_fill
  refine PI.walk_data (l := PySem.Challenge.rw_stringrods_k07_whole_points_and_planes_o) (n := 63) (k := 10) (x := "_law_script") (F := K07.F_law) rfl (by decide) rfl ⟨rfl, by decide, by decide⟩ (fun w h Y => PySem.W.kIn_of Y) ?F (by decide +kernel) K07.law_true
  case F =>
    intro w mg fa h KX G hmg
    refine' K07.all_mk KX G hmg ?a_is_whole ?l_is_whole ?c_is_whole ?k_is_whole ?a_common_divisor ?l_common_divisor ?c_common_divisor ?k_common_divisor ?a_first_not_zero ?l_first_not_zero ?c_first_not_zero ?k_first_not_zero ?a_dot ?l_dot ?c_dot ?k_dot ?a_cross ?l_cross ?c_cross ?k_cross ?a_times ?l_times ?c_times ?k_times ?a_plus ?l_plus ?c_plus ?k_plus ?a_minus ?l_minus ?c_minus ?k_minus ?a_swapped ?l_swapped ?c_swapped ?k_swapped ?a_law_well ?l_law_well ?c_law_well ?k_law_well ?a_law_draw ?l_law_draw ?c_law_draw ?k_law_draw ?a_law_common ?l_law_common ?c_law_common ?k_law_common ?a_law_cross ?l_law_cross ?c_law_cross ?k_law_cross ?a_law_dot ?l_law_dot ?c_law_dot ?k_law_dot ?a_law_minors ?l_law_minors ?c_law_minors ?k_law_minors ?a_law_units ?l_law_units ?c_law_units ?k_law_units ?a_reduced ?l_reduced ?c_reduced ?k_reduced ?a_is_reduced_row ?l_is_reduced_row ?c_is_reduced_row ?k_is_reduced_row ?a_row_product ?l_row_product ?c_row_product ?k_row_product ?a_plane_row ?l_plane_row ?c_plane_row ?k_plane_row ?a_point_row ?l_point_row ?c_point_row ?k_point_row ?a_law_row ?l_law_row ?c_law_row ?k_law_row ?a_law_reduced ?l_law_reduced ?c_law_reduced ?k_law_reduced ?a_law_line ?l_law_line ?c_law_line ?k_law_line ?a_law_cut_at ?l_law_cut_at ?c_law_cut_at ?k_law_cut_at ?a_is_rod ?l_is_rod ?c_is_rod ?k_is_rod ?a_law_place ?l_law_place ?c_law_place ?k_law_place ?a_law_two_with ?l_law_two_with ?c_law_two_with ?k_law_two_with ?a_law_mixed ?l_law_mixed ?c_law_mixed ?k_law_mixed ?a_check_rod ?l_check_rod ?c_check_rod ?k_check_rod ?a_law_unlike ?l_law_unlike ?c_law_unlike ?k_law_unlike ?a_check_rods ?l_check_rods ?c_check_rods ?k_check_rods ?a_check_unlike_meeting ?l_check_unlike_meeting ?c_check_unlike_meeting ?k_check_unlike_meeting ?a_meeting_point ?l_meeting_point ?c_meeting_point ?k_meeting_point ?a_meeting_plane ?l_meeting_plane ?c_meeting_plane ?k_meeting_plane ?a_law_said ?l_law_said ?c_law_said ?k_law_said ?a_law_through_point ?l_law_through_point ?c_law_through_point ?k_law_through_point ?a_law_in_plane ?l_law_in_plane ?c_law_in_plane ?k_law_in_plane ?a_law_freely ?l_law_freely ?c_law_freely ?k_law_freely ?a_law ?l_law ?c_law ?k_law ?z_len ?z_abs ?z_int ?z_bool ?z_str ?z_tuple ?z_list ?z_isinstance ?z_repr ?z_sum ?z_all ?z_any ?z_max ?z_min ?z_divmod ?z_range ?z_zip ?z_gcd ?g_InvalidRod ?x_InvalidRod ?rb_InvalidRod ?sa_InvalidRod ?ga_InvalidRod ?gg_InvalidRod ?nf_InvalidRod ?ii_InvalidRod ?ti_InvalidRod ?li_InvalidRod ?ci_InvalidRod ?ki_InvalidRod ?kc_InvalidRod ?ec_InvalidRod ?tc_InvalidRod ?hc_InvalidRod ?ic_InvalidRod ?ss_InvalidRod ?g_Apart ?xq_Apart ?kc_Apart ?ec_Apart ?tc_Apart ?ic_Apart ?ss_Apart ?g_Same ?xq_Same ?kc_Same ?ec_Same ?tc_Same ?ic_Same ?ss_Same ?gc_CORNERS ?t_CORNERS_0 ?t_CORNERS_1 ?t_CORNERS_6 ?t_CORNERS_11 ?t_CORNERS_16 ?se_Same_Apart
    (case a_is_whole => k_is)
    (case l_is_whole => k_is)
    (case c_is_whole => k_is)
    (case k_is_whole => k_is)
    (case a_common_divisor => k_is)
    (case l_common_divisor => k_is)
    (case c_common_divisor => k_is)
    (case k_common_divisor => k_is)
    (case a_first_not_zero => k_is)
    (case l_first_not_zero => k_is)
    (case c_first_not_zero => k_is)
    (case k_first_not_zero => k_is)
    (case a_dot => k_is)
    (case l_dot => k_is)
    (case c_dot => k_is)
    (case k_dot => k_is)
    (case a_cross => k_is)
    (case l_cross => k_is)
    (case c_cross => k_is)
    (case k_cross => k_is)
    (case a_times => k_is)
    (case l_times => k_is)
    (case c_times => k_is)
    (case k_times => k_is)
    (case a_plus => k_is)
    (case l_plus => k_is)
    (case c_plus => k_is)
    (case k_plus => k_is)
    (case a_minus => k_is)
    (case l_minus => k_is)
    (case c_minus => k_is)
    (case k_minus => k_is)
    (case a_swapped => k_is)
    (case l_swapped => k_is)
    (case c_swapped => k_is)
    (case k_swapped => k_is)
    (case a_law_well => k_is)
    (case l_law_well => k_is)
    (case c_law_well => k_is)
    (case k_law_well => k_is)
    (case a_law_draw => k_is)
    (case l_law_draw => k_is)
    (case c_law_draw => k_is)
    (case k_law_draw => k_is)
    (case a_law_common => k_is)
    (case l_law_common => k_is)
    (case c_law_common => k_is)
    (case k_law_common => k_is)
    (case a_law_cross => k_is)
    (case l_law_cross => k_is)
    (case c_law_cross => k_is)
    (case k_law_cross => k_is)
    (case a_law_dot => k_is)
    (case l_law_dot => k_is)
    (case c_law_dot => k_is)
    (case k_law_dot => k_is)
    (case a_law_minors => k_is)
    (case l_law_minors => k_is)
    (case c_law_minors => k_is)
    (case k_law_minors => k_is)
    (case a_law_units => k_is)
    (case l_law_units => k_is)
    (case c_law_units => k_is)
    (case k_law_units => k_is)
    (case a_reduced => k_is)
    (case l_reduced => k_is)
    (case c_reduced => k_is)
    (case k_reduced => k_is)
    (case a_is_reduced_row => k_is)
    (case l_is_reduced_row => k_is)
    (case c_is_reduced_row => k_is)
    (case k_is_reduced_row => k_is)
    (case a_row_product => k_is)
    (case l_row_product => k_is)
    (case c_row_product => k_is)
    (case k_row_product => k_is)
    (case a_plane_row => k_is)
    (case l_plane_row => k_is)
    (case c_plane_row => k_is)
    (case k_plane_row => k_is)
    (case a_point_row => k_is)
    (case l_point_row => k_is)
    (case c_point_row => k_is)
    (case k_point_row => k_is)
    (case a_law_row => k_is)
    (case l_law_row => k_is)
    (case c_law_row => k_is)
    (case k_law_row => k_is)
    (case a_law_reduced => k_is)
    (case l_law_reduced => k_is)
    (case c_law_reduced => k_is)
    (case k_law_reduced => k_is)
    (case a_law_line => k_is)
    (case l_law_line => k_is)
    (case c_law_line => k_is)
    (case k_law_line => k_is)
    (case a_law_cut_at => k_is)
    (case l_law_cut_at => k_is)
    (case c_law_cut_at => k_is)
    (case k_law_cut_at => k_is)
    (case a_is_rod => k_is)
    (case l_is_rod => k_is)
    (case c_is_rod => k_is)
    (case k_is_rod => k_is)
    (case a_law_place => k_is)
    (case l_law_place => k_is)
    (case c_law_place => k_is)
    (case k_law_place => k_is)
    (case a_law_two_with => k_is)
    (case l_law_two_with => k_is)
    (case c_law_two_with => k_is)
    (case k_law_two_with => k_is)
    (case a_law_mixed => k_is)
    (case l_law_mixed => k_is)
    (case c_law_mixed => k_is)
    (case k_law_mixed => k_is)
    (case a_check_rod => k_is)
    (case l_check_rod => k_is)
    (case c_check_rod => k_is)
    (case k_check_rod => k_is)
    (case a_law_unlike => k_is)
    (case l_law_unlike => k_is)
    (case c_law_unlike => k_is)
    (case k_law_unlike => k_is)
    (case a_check_rods => k_is)
    (case l_check_rods => k_is)
    (case c_check_rods => k_is)
    (case k_check_rods => k_is)
    (case a_check_unlike_meeting => k_is)
    (case l_check_unlike_meeting => k_is)
    (case c_check_unlike_meeting => k_is)
    (case k_check_unlike_meeting => k_is)
    (case a_meeting_point => k_is)
    (case l_meeting_point => k_is)
    (case c_meeting_point => k_is)
    (case k_meeting_point => k_is)
    (case a_meeting_plane => k_is)
    (case l_meeting_plane => k_is)
    (case c_meeting_plane => k_is)
    (case k_meeting_plane => k_is)
    (case a_law_said => k_is)
    (case l_law_said => k_is)
    (case c_law_said => k_is)
    (case k_law_said => k_is)
    (case a_law_through_point => k_is)
    (case l_law_through_point => k_is)
    (case c_law_through_point => k_is)
    (case k_law_through_point => k_is)
    (case a_law_in_plane => k_is)
    (case l_law_in_plane => k_is)
    (case c_law_in_plane => k_is)
    (case k_law_in_plane => k_is)
    (case a_law_freely => k_is)
    (case l_law_freely => k_is)
    (case c_law_freely => k_is)
    (case k_law_freely => k_is)
    (case a_law => k_is)
    (case l_law => k_is)
    (case c_law => k_is)
    (case k_law => k_is)
    (case z_len => k_is)
    (case z_abs => k_is)
    (case z_int => k_is)
    (case z_bool => k_is)
    (case z_str => k_is)
    (case z_tuple => k_is)
    (case z_list => k_is)
    (case z_isinstance => k_is)
    (case z_repr => k_is)
    (case z_sum => k_is)
    (case z_all => k_is)
    (case z_any => k_is)
    (case z_max => k_is)
    (case z_min => k_is)
    (case z_divmod => k_is)
    (case z_range => k_is)
    (case z_zip => k_is)
    (case z_gcd => k_is)
    (case g_InvalidRod => k_is)
    (case x_InvalidRod => k_is)
    (case rb_InvalidRod => decide +kernel)
    (case sa_InvalidRod => k_is)
    (case ga_InvalidRod => k_is)
    (case gg_InvalidRod => k_is)
    (case nf_InvalidRod => k_is)
    (case ii_InvalidRod => k_is)
    (case ti_InvalidRod => k_is)
    (case li_InvalidRod => k_is)
    (case ci_InvalidRod => k_is)
    (case ki_InvalidRod => k_is)
    (case kc_InvalidRod => k_is)
    (case ec_InvalidRod => k_is)
    (case tc_InvalidRod => k_is)
    (case hc_InvalidRod => k_is)
    (case ic_InvalidRod => k_is)
    (case ss_InvalidRod => first | rfl | k_is)
    (case g_Apart => k_is)
    (case xq_Apart => first | k_exc | k_is)
    (case kc_Apart => k_is)
    (case ec_Apart => k_is)
    (case tc_Apart => k_is)
    (case ic_Apart => k_is)
    (case ss_Apart => first | rfl | k_is)
    (case g_Same => k_is)
    (case xq_Same => first | k_exc | k_is)
    (case kc_Same => k_is)
    (case ec_Same => k_is)
    (case tc_Same => k_is)
    (case ic_Same => k_is)
    (case ss_Same => first | rfl | k_is)
    (case gc_CORNERS => k_is)
    (case t_CORNERS_0 => k_is)
    (case t_CORNERS_1 => k_is)
    (case t_CORNERS_6 => k_is)
    (case t_CORNERS_11 => k_is)
    (case t_CORNERS_16 => k_is)
    (case se_Same_Apart => first | rfl | k_is)

