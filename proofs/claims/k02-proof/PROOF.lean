import PyProof.Rows.All
import Wide.All
import OpenK.AllK
import Wide.FinOn
import HandS.ForMost
import HandS.ForExc
import HandS.TryMany
import HandS.ExcInit
import HandS.ExcField
import HandS.IsInst
import HandS.DictComp
import HandS.Style
import HandS.Flow
import HandS.Deep
import HandS.FStr
import HandS.TupAny
import HandS.TupLe
import HandS.SortInts
import HandS.Steps
import KE.SortKeyHeap
import HandS.Walk
import OpenK.KMore
import PySem.Challenge.RW_clausehold_k02_clauses_and_rows
set_option Elab.async false
set_option linter.all false
set_option maxRecDepth 100000
set_option maxHeartbeats 4000000
namespace CL
open PySem L2

/-! ### what code comes to, each piece's weakest reading -/
@[irreducible] def WE (X : Cx) (e : Expr) : TE := fun σ H Q => ∀ (pins : List (Addr × Obj)) (s : Shared), Inv X pins σ H s → wpAny (model X.prog X.w) X.A (eval e X.env) (EP X pins σ Q) X.xe s
@[irreducible] def WT (X : Cx) (e : Expr) : TT := fun σ H Q => ∀ (pins : List (Addr × Obj)) (s : Shared), Inv X pins σ H s → wpAny (model X.prog X.w) X.A (isTrue e X.env (eval e X.env)) (L2.TP X pins σ Q) X.xe s
@[irreducible] def WW (X : Cx) (e : Expr) : TT := fun σ H Q => ∀ (whole : Sem Value) (pins : List (Addr × Obj)) (s : Shared), Inv X pins σ H s → wpAny (model X.prog X.w) X.A (isTrue e X.env whole) (L2.TP X pins σ Q) X.xe s
@[irreducible] def WA (X : Cx) (es : List Expr) : TA := fun σ H Q => ∀ (pos : Pos) (pins : List (Addr × Obj)) (s : Shared), Inv X pins σ H s → wpAny (model X.prog X.w) X.A (spliced (backTo pos (starEach es X.env))) (AP X pins σ Q) X.xe s
@[irreducible] def WS (X : Cx) (st : Stmt) : TS := fun D σ H => ∀ (pins : List (Addr × Obj)) (s : Shared), Inv X pins σ H s → wpAny (model X.prog X.w) X.A (exec st X.env) (SP X pins D) X.xe s
@[irreducible] def WB (X : Cx) (sts : List Stmt) : TS := fun D σ H => ∀ (pins : List (Addr × Obj)) (s : Shared), Inv X pins σ H s → wpAny (model X.prog X.w) X.A (execs sts X.env) (SP X pins D) X.xe s
@[irreducible] def WG (X : Cx) (tg : Expr) : TG := fun v σ H Q => ∀ (pins : List (Addr × Obj)) (s : Shared) (u : Value), Inv X pins σ H s → RelV v u → wpAny (model X.prog X.w) X.A (assign tg X.env u) (fun _ s' => ∃ σ' H', Inv X pins σ' H' s' ∧ Q σ' H') X.xe s
section
variable {X : Cx} {e : Expr} {es : List Expr} {st : Stmt} {sts : List Stmt}
theorem we : PE X e (WE X e) := ⟨fun pins s _ _ _ I h => by unfold WE at h; exact h pins s I⟩
theorem wt : PT X e (WT X e) := ⟨fun pins s _ _ _ I h => by unfold WT at h; exact h pins s I⟩
theorem ww : PW X e (WW X e) := ⟨fun q pins s _ _ _ I h => by unfold WW at h; exact h q pins s I⟩
theorem wa : PA X es (WA X es) := ⟨fun pos pins s _ _ _ I h => by unfold WA at h; exact h pos pins s I⟩
theorem ws : PS X st (WS X st) := ⟨fun pins s _ _ _ I h => by unfold WS at h; exact h pins s I⟩
theorem wb : PSs X sts (WB X sts) := ⟨fun pins s _ _ _ I h => by unfold WB at h; exact h pins s I⟩
theorem wg : PG X e (WG X e) := ⟨fun pins s _ _ _ u _ I r h => by unfold WG at h; exact h pins s u I r⟩
theorem eWE {t : TE} (p : PE X e t) {σ : L2.St} {H : Hp} {Q : VK} (h : t σ H Q) : WE X e σ H Q := by unfold WE; exact fun pins s I => p.run pins s σ H Q I h
theorem eWT {t : TT} (p : PT X e t) {σ : L2.St} {H : Hp} {Q : Bool → Hp → Prop} (h : t σ H Q) : WT X e σ H Q := by unfold WT; exact fun pins s I => p.run pins s σ H Q I h
theorem eWW {t : TT} (p : PW X e t) {σ : L2.St} {H : Hp} {Q : Bool → Hp → Prop} (h : t σ H Q) : WW X e σ H Q := by unfold WW; exact fun q pins s I => p.run q pins s σ H Q I h
theorem eWA {t : TA} (p : PA X es t) {σ : L2.St} {H : Hp} {Q : List V → Hp → Prop} (h : t σ H Q) : WA X es σ H Q := by unfold WA; exact fun pos pins s I => p.run pos pins s σ H Q I h
theorem eWS {t : TS} (p : PS X st t) {σ : L2.St} {H : Hp} {D : Ends} (h : t D σ H) : WS X st D σ H := by unfold WS; exact fun pins s I => p.run pins s σ H D I h
theorem eWB {t : TS} (p : PSs X sts t) {σ : L2.St} {H : Hp} {D : Ends} (h : t D σ H) : WB X sts D σ H := by unfold WB; exact fun pins s I => p.run pins s σ H D I h
theorem eWG {t : TG} (p : PG X e t) {v : V} {σ : L2.St} {H : Hp} {Q : L2.St → Hp → Prop} (h : t v σ H Q) : WG X e v σ H Q := by unfold WG; exact fun pins s u I r => p.run pins s σ H v u Q I r h
theorem WE.at {σ : L2.St} {H : Hp} {Q : VK} (h : WE X e σ H Q) (pins : List (Addr × Obj)) (s : Shared) (I : Inv X pins σ H s) : wpAny (model X.prog X.w) X.A (eval e X.env) (EP X pins σ Q) X.xe s := by unfold WE at h; exact h pins s I
theorem WT.at {σ : L2.St} {H : Hp} {Q : Bool → Hp → Prop} (h : WT X e σ H Q) (pins : List (Addr × Obj)) (s : Shared) (I : Inv X pins σ H s) : wpAny (model X.prog X.w) X.A (isTrue e X.env (eval e X.env)) (L2.TP X pins σ Q) X.xe s := by unfold WT at h; exact h pins s I
theorem WB.at {D : Ends} {σ : L2.St} {H : Hp} (h : WB X sts D σ H) (pins : List (Addr × Obj)) (s : Shared) (I : Inv X pins σ H s) : wpAny (model X.prog X.w) X.A (execs sts X.env) (SP X pins D) X.xe s := by unfold WB at h; exact h pins s I
theorem WE.mono {σ : L2.St} {H : Hp} {Q Q' : VK} (h : WE X e σ H Q) (q : ∀ v H', Q v H' → Q' v H') : WE X e σ H Q' := by unfold WE at h ⊢; exact fun pins s I => thn (h pins s I) fun _ _ ⟨v, H', I', r, z⟩ => ⟨v, H', I', r, q v H' z⟩
theorem WT.mono {σ : L2.St} {H : Hp} {Q Q' : Bool → Hp → Prop} (h : WT X e σ H Q) (q : ∀ v H', Q v H' → Q' v H') : WT X e σ H Q' := by unfold WT at h ⊢; exact fun pins s I => thn (h pins s I) fun v _ ⟨H', I', z⟩ => ⟨H', I', q v H' z⟩
end

/-! ### data -/
inductive D where
  | non | bl (b : Bool) | int (i : Int) | str (x : Str) | tup (xs : List D) | lst (xs : List D) | frm (n : Int) (cs : List D) | scr (ns : List Int)
def Ex (H H' : Hp) : Prop := ∀ a o, H a = some o → H' a = some o
theorem Ex.rfl {H : Hp} : Ex H H := fun _ _ h => h
theorem Ex.trans {H H1 H2 : Hp} (a : Ex H H1) (b : Ex H1 H2) : Ex H H2 := fun x o h => b x o (a x o h)
theorem Ex.new {H : Hp} {p : Addr} {o : HO} (h : H p = none) : Ex H (upd H p o) := fun a u e => by
  rw [upd_ne (ne_of_none e h)]; exact e
theorem Ex.free {H H' : Hp} (e : Ex H H') {p : Addr} (h : H' p = none) : H p = none := by
  cases q : H p with
  | none => exact Eq.refl _
  | some o => rw [e p o q] at h; cases h
abbrev noH : Hp := fun _ => none
/-- a sequence: k true a list, false a tuple; what may change (O) is not among them -/
def Seq (K : PySem.W.Frag) (O : Addr → Prop) (H : Hp) (k : Bool) (a : Addr) (xs : List V) : Prop :=
  match k with
  | true => H a = some (.lst xs) ∧ ¬ O a
  | false => (Rd H a (.tup xs) ∧ ¬ O a) ∨ SqT K noH a xs
def frmF (n : Int) (ca : Addr) : List (Str × V) := [(("n" : Str), V.int n), (("clauses" : Str), V.ref ca)]
mutual
def Rep (K : PySem.W.Frag) (CF : Addr) (O : Addr → Prop) (H : Hp) : D → V → Prop
  | .non, v => v = .non
  | .bl b, v => v = .bl b
  | .int i, v => v = .int i
  | .str x, v => v = .str x
  | .tup ds, v => ∃ a xs, v = .ref a ∧ Seq K O H false a xs ∧ Reps K CF O H ds xs
  | .lst ds, v => ∃ a xs, v = .ref a ∧ Seq K O H true a xs ∧ Reps K CF O H ds xs
  | .frm n cs, v => ∃ a dx ca xs, v = .ref a ∧ H a = some (.ins CF dx (frmF n ca)) ∧ ¬ O a ∧ Seq K O H false ca xs ∧ Reps K CF O H cs xs
  | .scr ns, v => ∃ a, v = .ref a ∧ ((Rd H a (.lst (ns.map V.int)) ∧ ¬ O a) ∨ SqL K noH a (ns.map V.int))
def Reps (K : PySem.W.Frag) (CF : Addr) (O : Addr → Prop) (H : Hp) : List D → List V → Prop
  | [], xs => xs = []
  | d :: ds, xs => ∃ y ys, xs = y :: ys ∧ Rep K CF O H d y ∧ Reps K CF O H ds ys
end
/-- all that stands and may not change stands, and may still not change -/
def Le (O : Addr → Prop) (H : Hp) (O' : Addr → Prop) (H' : Hp) : Prop := ∀ a o, H a = some o → ¬ O a → H' a = some o ∧ ¬ O' a
theorem Le.trans {O O1 O2 : Addr → Prop} {H H1 H2 : Hp} (a : Le O H O1 H1) (b : Le O1 H1 O2 H2) : Le O H O2 H2 := fun x o h n => b x o (a x o h n).1 (a x o h n).2
theorem Le.ex {O : Addr → Prop} {H H' : Hp} (e : Ex H H') : Le O H O H' := fun a o h n => ⟨e a o h, n⟩
theorem Le.sub {O O' : Addr → Prop} {H : Hp} (h : ∀ a, O' a → O a) : Le O H O' H := fun _ _ e n => ⟨e, fun z => n (h _ z)⟩
section
variable {K : PySem.W.Frag} {CF : Addr} {O O' : Addr → Prop} {H H' : Hp}
theorem Seq.mono {k : Bool} {a : Addr} {xs : List V} (l : Le O H O' H') (h : Seq K O H k a xs) : Seq K O' H' k a xs := by
  cases k with
  | true =>
    exact l _ _ h.1 h.2
  | false =>
    rcases h with ⟨h | ⟨o, h⟩, n⟩ | h
    · exact .inl ⟨.inl (l _ _ h n).1, (l _ _ h n).2⟩
    · exact .inl ⟨.inr ⟨o, (l _ _ h n).1⟩, (l _ _ h n).2⟩
    · exact .inr h
theorem sqL_noH {a : Addr} {xs : List V} (h : SqL K noH a xs) : SqL K H a xs := by
  rcases h with (h | ⟨o, h⟩) | h
  · cases h
  · cases h
  · exact .inr h
theorem sqT_noH {a : Addr} {xs : List V} (h : SqT K noH a xs) : SqT K H a xs := by
  rcases h with (h | ⟨o, h⟩) | h
  · cases h
  · cases h
  · exact .inr h
theorem Seq.l {a : Addr} {xs : List V} (h : Seq K O H true a xs) : SqL K H a xs := SqL.of h.1
theorem Seq.t {a : Addr} {xs : List V} (h : Seq K O H false a xs) : SqT K H a xs := by
  rcases h with ⟨h, _⟩ | h
  · exact .inl h
  · exact sqT_noH h
theorem Seq.ofT {a : Addr} {xs : List V} (h : H a = some (.tup xs)) (n : ¬ O a) : Seq K O H false a xs := .inl ⟨.inl h, n⟩
theorem Seq.ofL {a : Addr} {xs : List V} (h : H a = some (.lst xs)) (n : ¬ O a) : Seq K O H true a xs := ⟨h, n⟩
mutual
theorem Rep.mono (l : Le O H O' H') : ∀ (d : D) (v : V), Rep K CF O H d v → Rep K CF O' H' d v
  | .non, _, h => by unfold Rep at h ⊢; exact h
  | .bl _, _, h => by unfold Rep at h ⊢; exact h
  | .int _, _, h => by unfold Rep at h ⊢; exact h
  | .str _, _, h => by unfold Rep at h ⊢; exact h
  | .tup ds, v, h => by
    unfold Rep at h ⊢
    obtain ⟨a, xs, e, s, r⟩ := h
    exact ⟨a, xs, e, s.mono l, Reps.mono l ds xs r⟩
  | .lst ds, v, h => by
    unfold Rep at h ⊢
    obtain ⟨a, xs, e, s, r⟩ := h
    exact ⟨a, xs, e, s.mono l, Reps.mono l ds xs r⟩
  | .frm n cs, v, h => by
    unfold Rep at h ⊢
    obtain ⟨a, dx, ca, xs, e, ha, na, s, r⟩ := h
    exact ⟨a, dx, ca, xs, e, (l _ _ ha na).1, (l _ _ ha na).2, s.mono l, Reps.mono l cs xs r⟩
  | .scr ns, v, h => by
    unfold Rep at h ⊢
    obtain ⟨a, e, h⟩ := h
    refine ⟨a, e, ?_⟩
    rcases h with ⟨h | ⟨o, h⟩, n⟩ | h
    · exact .inl ⟨.inl (l _ _ h n).1, (l _ _ h n).2⟩
    · exact .inl ⟨.inr ⟨o, (l _ _ h n).1⟩, (l _ _ h n).2⟩
    · exact .inr h
theorem Reps.mono (l : Le O H O' H') : ∀ (ds : List D) (xs : List V), Reps K CF O H ds xs → Reps K CF O' H' ds xs
  | [], _, h => by unfold Reps at h ⊢; exact h
  | d :: ds, _, h => by
    unfold Reps at h ⊢
    obtain ⟨y, ys, e, r, t⟩ := h
    exact ⟨y, ys, e, Rep.mono l d y r, Reps.mono l ds ys t⟩
end
theorem Reps.length : ∀ {ds : List D} {xs : List V}, Reps K CF O H ds xs → xs.length = ds.length
  | [], _, h => by unfold Reps at h; subst h; rfl
  | d :: ds, _, h => by
    unfold Reps at h
    obtain ⟨y, ys, rfl, _, t⟩ := h
    simp [Reps.length t]
theorem Reps.nil : Reps K CF O H [] [] := by unfold Reps; rfl
theorem Reps.cons {d : D} {ds : List D} {x : V} {xs : List V} (h : Rep K CF O H d x) (t : Reps K CF O H ds xs) : Reps K CF O H (d :: ds) (x :: xs) := by unfold Reps; exact ⟨x, xs, rfl, h, t⟩
theorem Reps.append : ∀ {ds es : List D} {xs ys : List V}, Reps K CF O H ds xs → Reps K CF O H es ys → Reps K CF O H (ds ++ es) (xs ++ ys)
  | [], _, _, _, h, g => by unfold Reps at h; subst h; exact g
  | d :: ds, _, _, _, h, g => by
    unfold Reps at h
    obtain ⟨y, ys, rfl, r, t⟩ := h
    exact Reps.cons r (Reps.append t g)
theorem Reps.get : ∀ {ds : List D} {xs : List V} {i : Nat} {d : D}, Reps K CF O H ds xs → ds[i]? = some d → ∃ x, xs[i]? = some x ∧ Rep K CF O H d x
  | [], _, i, _, _, e => by simp at e
  | d :: ds, _, 0, _, h, e => by
    unfold Reps at h
    obtain ⟨y, ys, rfl, r, t⟩ := h
    simp at e; subst e
    exact ⟨y, by simp, r⟩
  | d :: ds, _, i + 1, _, h, e => by
    unfold Reps at h
    obtain ⟨y, ys, rfl, r, t⟩ := h
    obtain ⟨x, e1, r1⟩ := Reps.get (i := i) t (by simpa using e)
    exact ⟨x, by simpa using e1, r1⟩
theorem Reps.get' : ∀ {ds : List D} {xs : List V} {i : Nat} {x : V}, Reps K CF O H ds xs → xs[i]? = some x → ∃ d, ds[i]? = some d ∧ Rep K CF O H d x := fun {ds xs i x} h e => by
  have hl := h.length
  have hi : i < xs.length := (List.getElem?_eq_some_iff.mp e).1
  have hi' : i < ds.length := by omega
  obtain ⟨y, e1, r⟩ := Reps.get h (List.getElem?_eq_getElem hi')
  rw [e] at e1; cases e1
  exact ⟨_, List.getElem?_eq_getElem hi', r⟩
theorem Reps.take : ∀ {ds : List D} {xs : List V} (n : Nat), Reps K CF O H ds xs → Reps K CF O H (ds.take n) (xs.take n)
  | _, _, 0, _ => by simpa using Reps.nil
  | [], _, n + 1, h => by unfold Reps at h; subst h; simpa using Reps.nil
  | d :: ds, _, n + 1, h => by
    unfold Reps at h
    obtain ⟨y, ys, rfl, r, t⟩ := h
    exact Reps.cons r (Reps.take n t)
theorem Reps.drop : ∀ {ds : List D} {xs : List V} (n : Nat), Reps K CF O H ds xs → Reps K CF O H (ds.drop n) (xs.drop n)
  | _, _, 0, h => h
  | [], _, n + 1, h => by unfold Reps at h; subst h; simpa using Reps.nil
  | d :: ds, _, n + 1, h => by
    unfold Reps at h
    obtain ⟨y, ys, rfl, r, t⟩ := h
    exact Reps.drop n t
theorem Reps.reverse : ∀ {ds : List D} {xs : List V}, Reps K CF O H ds xs → Reps K CF O H ds.reverse xs.reverse
  | [], _, h => by unfold Reps at h; subst h; simpa using Reps.nil
  | d :: ds, _, h => by
    unfold Reps at h
    obtain ⟨y, ys, rfl, r, t⟩ := h
    rw [List.reverse_cons, List.reverse_cons]
    exact (Reps.reverse t).append (Reps.cons r Reps.nil)
theorem reps_int : ∀ {ns : List Int} {xs : List V}, Reps K CF O H (ns.map D.int) xs → xs = ns.map V.int
  | [], _, h => by unfold Reps at h; subst h; rfl
  | n :: ns, _, h => by
    unfold Reps at h
    obtain ⟨y, ys, rfl, r, t⟩ := h
    unfold Rep at r
    rw [r, reps_int t]; rfl
theorem reps_of_int : ∀ (ns : List Int), Reps K CF O H (ns.map D.int) (ns.map V.int)
  | [] => Reps.nil
  | n :: ns => Reps.cons (by unfold Rep; rfl) (reps_of_int ns)
theorem reps_bl : ∀ {ns : List Bool} {xs : List V}, Reps K CF O H (ns.map D.bl) xs → xs = ns.map V.bl
  | [], _, h => by unfold Reps at h; subst h; rfl
  | n :: ns, _, h => by
    unfold Reps at h
    obtain ⟨y, ys, rfl, r, t⟩ := h
    unfold Rep at r
    rw [r, reps_bl t]; rfl
theorem reps_str : ∀ {ns : List Str} {xs : List V}, Reps K CF O H (ns.map D.str) xs → xs = ns.map V.str
  | [], _, h => by unfold Reps at h; subst h; rfl
  | n :: ns, _, h => by
    unfold Reps at h
    obtain ⟨y, ys, rfl, r, t⟩ := h
    unfold Rep at r
    rw [r, reps_str t]; rfl
theorem rep_non : Rep K CF O H .non .non := by unfold Rep; rfl
theorem rep_bl (b : Bool) : Rep K CF O H (.bl b) (.bl b) := by unfold Rep; rfl
theorem rep_int (i : Int) : Rep K CF O H (.int i) (.int i) := by unfold Rep; rfl
theorem rep_str (x : Str) : Rep K CF O H (.str x) (.str x) := by unfold Rep; rfl
theorem rep_tup {a : Addr} {xs : List V} {ds : List D} (s : Seq K O H false a xs) (r : Reps K CF O H ds xs) : Rep K CF O H (.tup ds) (.ref a) := by unfold Rep; exact ⟨a, xs, rfl, s, r⟩
theorem rep_lst {a : Addr} {xs : List V} {ds : List D} (s : Seq K O H true a xs) (r : Reps K CF O H ds xs) : Rep K CF O H (.lst ds) (.ref a) := by unfold Rep; exact ⟨a, xs, rfl, s, r⟩
theorem Rep.int {i : Int} {v : V} (h : Rep K CF O H (.int i) v) : v = .int i := by unfold Rep at h; exact h
theorem Rep.bl {i : Bool} {v : V} (h : Rep K CF O H (.bl i) v) : v = .bl i := by unfold Rep at h; exact h
theorem Rep.str {i : Str} {v : V} (h : Rep K CF O H (.str i) v) : v = .str i := by unfold Rep at h; exact h
theorem Rep.non {v : V} (h : Rep K CF O H .non v) : v = .non := by unfold Rep at h; exact h
theorem Rep.tup {ds : List D} {v : V} (h : Rep K CF O H (.tup ds) v) : ∃ a xs, v = .ref a ∧ Seq K O H false a xs ∧ Reps K CF O H ds xs := by unfold Rep at h; exact h
theorem Rep.scr {ns : List Int} {v : V} (h : Rep K CF O H (.scr ns) v) : ∃ a, v = .ref a ∧ SqL K H a (ns.map V.int) := by
  unfold Rep at h
  obtain ⟨a, e, h⟩ := h
  refine ⟨a, e, ?_⟩
  rcases h with ⟨h, _⟩ | h
  · exact .inl h
  · exact sqL_noH h
theorem Rep.frm {n : Int} {cs : List D} {v : V} (h : Rep K CF O H (.frm n cs) v) : ∃ a dx ca xs, v = .ref a ∧ H a = some (.ins CF dx (frmF n ca)) ∧ ¬ O a ∧ Seq K O H false ca xs ∧ Reps K CF O H cs xs := by unfold Rep at h; exact h
theorem Rep.lst {ds : List D} {v : V} (h : Rep K CF O H (.lst ds) v) : ∃ a xs, v = .ref a ∧ Seq K O H true a xs ∧ Reps K CF O H ds xs := by unfold Rep at h; exact h
end

/-! ### what the slots hold -/
inductive Sd where
  | non | dat (d : D) | own (xs : List D) | dct (kvs : List (Key × D)) | ins (a : Addr) (fs : List (Str × D)) | exc (a dd : Addr) (fs : List (Str × D))
def Sd.mine : Sd → Bool
  | .own _ => true
  | .dct _ => true
  | .ins _ _ => true
  | _ => false
def OwnAt (S : List Sd) (σ : L2.St) (i : Nat) (a : Addr) : Prop := (∃ s, S[i]? = some s ∧ s.mine = true) ∧ σ[i]? = some (some (.ref a))
def Ow (Oc : Addr → Prop) (S : List Sd) (σ : L2.St) (a : Addr) : Prop := Oc a ∨ ∃ i, OwnAt S σ i a
def SlotOk (K : PySem.W.Frag) (CF : Addr) (O : Addr → Prop) (H : Hp) : Sd → Option V → Prop
  | .non, _ => True
  | .dat d, s => ∃ v, s = some v ∧ Rep K CF O H d v
  | .own ds, s => ∃ a xs, s = some (.ref a) ∧ H a = some (.lst xs) ∧ Reps K CF O H ds xs
  | .dct kvs, s => ∃ a ps, s = some (.ref a) ∧ H a = some (.dK ps) ∧ ps.map (·.1) = kvs.map (·.1) ∧ Reps K CF O H (kvs.map (·.2)) (ps.map (·.2))
  | .ins a fs, s => ∃ dx ps, s = some (.ref a) ∧ H a = some (.ins CF dx ps) ∧ ps.map (·.1) = fs.map (·.1) ∧ Reps K CF O H (fs.map (·.2)) (ps.map (·.2))
  | .exc a dd fs, s => s = some (.ref a) ∧ ∃ ps, H dd = some (.xd ps) ∧ ¬ O dd ∧ ps.map (·.1) = fs.map (·.1) ∧ Reps K CF O H (fs.map (·.2)) (ps.map (·.2))
/-- what is fixed while a def (a block) runs -/
structure Gx where
  X : Cx
  CF : Addr
  Oc : Addr → Prop
  H0 : Hp
  Gh : List ((Addr → Prop) → Hp → Prop)
  W : WX
  ex : List Sd → Addr → List (Str × D) → Prop
structure Sat (K : PySem.W.Frag) (CF : Addr) (Oc : Addr → Prop) (H0 : Hp) (Gh : List ((Addr → Prop) → Hp → Prop)) (S : List Sd) (σ : L2.St) (H : Hp) : Prop where
  len : σ.length = S.length
  base : Ex H0 H
  oc : ∀ a, Oc a → H a ≠ none
  own : ∀ i a, OwnAt S σ i a → H0 a = none ∧ H a ≠ none ∧ ¬ Oc a
  inj : ∀ i j a, OwnAt S σ i a → OwnAt S σ j a → i = j
  slot : ∀ (i : Nat) s, S[i]? = some s → ∃ v, σ[i]? = some v ∧ SlotOk K CF (Ow Oc S σ) H s v
  gh : ∀ p ∈ Gh, p (Ow Oc S σ) H
  gs : ∀ p ∈ Gh, ∀ (O : Addr → Prop) (H : Hp) (O' : Addr → Prop) (H' : Hp), Le O H O' H' → p O H → p O' H'
abbrev Gx.sat (G : Gx) (S : List Sd) (σ : L2.St) (H : Hp) : Prop := Sat G.X.K G.CF G.Oc G.H0 G.Gh S σ H
abbrev Gx.rep (G : Gx) (S : List Sd) (σ : L2.St) (H : Hp) (d : D) (v : V) : Prop := Rep G.X.K G.CF (Ow G.Oc S σ) H d v
abbrev Gx.reps (G : Gx) (S : List Sd) (σ : L2.St) (H : Hp) (d : List D) (v : List V) : Prop := Reps G.X.K G.CF (Ow G.Oc S σ) H d v
section
variable {K : PySem.W.Frag} {CF : Addr} {O Oc : Addr → Prop} {H H' H0 : Hp} {Gh : List ((Addr → Prop) → Hp → Prop)} {S : List Sd} {σ : L2.St}
theorem ne_none {H H' : Hp} (e : Ex H H') {a : Addr} (h : H a ≠ none) : H' a ≠ none := by
  cases q : H a with
  | none => exact absurd q h
  | some o => rw [e a o q]; intro z; cases z
theorem Sat.known (h : Sat K CF Oc H0 Gh S σ H) {a : Addr} (o : Ow Oc S σ a) : H a ≠ none := by
  rcases o with o | ⟨i, o⟩
  · exact h.oc a o
  · exact (h.own i a o).2.1
theorem Sat.fresh (h : Sat K CF Oc H0 Gh S σ H) {a : Addr} (o : H a = none) : ¬ Ow Oc S σ a := fun z => h.known z o
theorem SlotOk.mono {O' : Addr → Prop} (l : Le O H O' H') : ∀ {s : Sd} {v : Option V}, s.mine = false → SlotOk K CF O H s v → SlotOk K CF O' H' s v
  | .non, _, _, _ => trivial
  | .dat d, _, _, h => by
    obtain ⟨v, e, r⟩ := h
    exact ⟨v, e, Rep.mono l d v r⟩
  | .own _, _, e, _ => by cases e
  | .dct _, _, e, _ => by cases e
  | .ins _ _, _, e, _ => by cases e
  | .exc a dd fs, _, _, h => by
    obtain ⟨q, ps, hd, no, z, r⟩ := h
    exact ⟨q, ps, (l _ _ hd no).1, (l _ _ hd no).2, z, Reps.mono l _ _ r⟩
theorem SlotOk.ex (e : Ex H H') : ∀ {s : Sd} {v : Option V}, SlotOk K CF O H s v → SlotOk K CF O H' s v
  | .non, _, _ => trivial
  | .dat d, _, h => by
    obtain ⟨v, q, r⟩ := h
    exact ⟨v, q, Rep.mono (Le.ex e) d v r⟩
  | .own ds, _, h => by
    obtain ⟨a, xs, q, ha, r⟩ := h
    exact ⟨a, xs, q, e _ _ ha, Reps.mono (Le.ex e) ds xs r⟩
  | .dct kvs, _, h => by
    obtain ⟨a, ps, q, ha, z, r⟩ := h
    exact ⟨a, ps, q, e _ _ ha, z, Reps.mono (Le.ex e) _ _ r⟩
  | .ins a kvs, _, h => by
    obtain ⟨dx, ps, q, ha, z, r⟩ := h
    exact ⟨dx, ps, q, e _ _ ha, z, Reps.mono (Le.ex e) _ _ r⟩
  | .exc a dd fs, _, h => by
    obtain ⟨q, ps, hd, no, z, r⟩ := h
    exact ⟨q, ps, e _ _ hd, no, z, Reps.mono (Le.ex e) _ _ r⟩
theorem Sat.ex (h : Sat K CF Oc H0 Gh S σ H) (e : Ex H H') : Sat K CF Oc H0 Gh S σ H' where
  len := h.len
  base := h.base.trans e
  oc := fun a o => ne_none e (h.oc a o)
  own := fun i a o => ⟨(h.own i a o).1, ne_none e (h.own i a o).2.1, (h.own i a o).2.2⟩
  inj := h.inj
  slot := fun i s hs => by
    obtain ⟨v, e1, r⟩ := h.slot i s hs
    exact ⟨v, e1, r.ex e⟩
  gh := fun p hp => h.gs p hp _ _ _ _ (Le.ex e) (h.gh p hp)
  gs := h.gs
theorem ownAt_set {i j : Nat} {a : Addr} {s : Sd} {v : Option V} (o : OwnAt (S.set i s) (σ.set i v) j a) : (j = i ∧ s.mine = true ∧ v = some (.ref a)) ∨ (j ≠ i ∧ OwnAt S σ j a) := by
  obtain ⟨⟨s', hs, m⟩, e⟩ := o
  by_cases q : j = i
  · subst q
    rw [List.getElem?_set] at hs e
    rw [if_pos rfl] at hs e
    split at hs
    · cases hs
      split at e
      · cases e
        exact .inl ⟨rfl, m, rfl⟩
      · cases e
    · cases hs
  · rw [List.getElem?_set_ne (Ne.symm q)] at hs e
    exact .inr ⟨q, ⟨s', hs, m⟩, e⟩
/-- a slot takes data -/
theorem Sat.setDat {i : Nat} {d : D} {v : V} (h : Sat K CF Oc H0 Gh S σ H) (r : Rep K CF (Ow Oc S σ) H d v) : Sat K CF Oc H0 Gh (S.set i (.dat d)) (σ.set i (some v)) H := by
  have sub : ∀ a, Ow Oc (S.set i (.dat d)) (σ.set i (some v)) a → Ow Oc S σ a := fun a o => by
    rcases o with o | ⟨j, o⟩
    · exact .inl o
    · rcases ownAt_set o with ⟨_, m, _⟩ | ⟨_, o⟩
      · cases m
      · exact .inr ⟨j, o⟩
  have ow : ∀ j a, OwnAt (S.set i (.dat d)) (σ.set i (some v)) j a → OwnAt S σ j a := fun j a o => by
    rcases ownAt_set o with ⟨_, m, _⟩ | ⟨_, o⟩
    · cases m
    · exact o
  refine ⟨by simp [h.len], h.base, h.oc, fun j a o => h.own j a (ow j a o), fun j k a o1 o2 => h.inj j k a (ow j a o1) (ow k a o2), fun j s hs => ?_, fun p hp => h.gs p hp _ _ _ _ (Le.sub sub) (h.gh p hp), h.gs⟩
  by_cases q : j = i
  · subst q
    rw [List.getElem?_set, if_pos rfl] at hs
    split at hs
    · rename_i hl
      cases hs
      refine ⟨some v, by rw [List.getElem?_set_self (by rw [h.len]; exact hl)], v, rfl, Rep.mono (Le.sub sub) _ _ r⟩
    · cases hs
  · rw [List.getElem?_set_ne (Ne.symm q)] at hs
    obtain ⟨w, e, t⟩ := h.slot j s hs
    refine ⟨w, by rw [List.getElem?_set_ne (Ne.symm q)]; exact e, ?_⟩
    by_cases m : s.mine = true
    · cases s with
      | non => cases m
      | dat _ => cases m
      | own ds =>
        obtain ⟨a, xs, e1, e2, r2⟩ := t
        exact ⟨a, xs, e1, e2, Reps.mono (Le.sub sub) _ _ r2⟩
      | dct ds =>
        obtain ⟨a, xs, e1, e2, z, r2⟩ := t
        exact ⟨a, xs, e1, e2, z, Reps.mono (Le.sub sub) _ _ r2⟩
      | ins a ds =>
        obtain ⟨dx, xs, e1, e2, z, r2⟩ := t
        exact ⟨dx, xs, e1, e2, z, Reps.mono (Le.sub sub) _ _ r2⟩
      | exc _ _ _ => cases m
    · exact t.mono (Le.sub sub) (by simpa using m)
/-- a slot is forgotten -/
theorem Sat.setNon {i : Nat} {v : Option V} (h : Sat K CF Oc H0 Gh S σ H) : Sat K CF Oc H0 Gh (S.set i .non) (σ.set i v) H := by
  have sub : ∀ a, Ow Oc (S.set i .non) (σ.set i v) a → Ow Oc S σ a := fun a o => by
    rcases o with o | ⟨j, o⟩
    · exact .inl o
    · rcases ownAt_set o with ⟨_, m, _⟩ | ⟨_, o⟩
      · cases m
      · exact .inr ⟨j, o⟩
  have ow : ∀ j a, OwnAt (S.set i .non) (σ.set i v) j a → OwnAt S σ j a := fun j a o => by
    rcases ownAt_set o with ⟨_, m, _⟩ | ⟨_, o⟩
    · cases m
    · exact o
  refine ⟨by simp [h.len], h.base, h.oc, fun j a o => h.own j a (ow j a o), fun j k a o1 o2 => h.inj j k a (ow j a o1) (ow k a o2), fun j s hs => ?_, fun p hp => h.gs p hp _ _ _ _ (Le.sub sub) (h.gh p hp), h.gs⟩
  by_cases q : j = i
  · subst q
    rw [List.getElem?_set, if_pos rfl] at hs
    split at hs
    · rename_i hl
      cases hs
      exact ⟨v, by rw [List.getElem?_set_self (by rw [h.len]; exact hl)], trivial⟩
    · cases hs
  · rw [List.getElem?_set_ne (Ne.symm q)] at hs
    obtain ⟨w, e, t⟩ := h.slot j s hs
    refine ⟨w, by rw [List.getElem?_set_ne (Ne.symm q)]; exact e, ?_⟩
    by_cases m : s.mine = true
    · cases s with
      | non => cases m
      | dat _ => cases m
      | own ds =>
        obtain ⟨a, xs, e1, e2, r2⟩ := t
        exact ⟨a, xs, e1, e2, Reps.mono (Le.sub sub) _ _ r2⟩
      | dct ds =>
        obtain ⟨a, xs, e1, e2, z, r2⟩ := t
        exact ⟨a, xs, e1, e2, z, Reps.mono (Le.sub sub) _ _ r2⟩
      | ins a ds =>
        obtain ⟨dx, xs, e1, e2, z, r2⟩ := t
        exact ⟨dx, xs, e1, e2, z, Reps.mono (Le.sub sub) _ _ r2⟩
      | exc _ _ _ => cases m
    · exact t.mono (Le.sub sub) (by simpa using m)
/-- a slot takes a thing of its own at p (new since the heap H, at H' it stands) -/
theorem Sat.setMine {i : Nat} {p : Addr} {s : Sd} (h : Sat K CF Oc H0 Gh S σ H) (e : Ex H H') (hp : H p = none) (hp' : H' p ≠ none) (m : s.mine = true) (r : SlotOk K CF (fun a => Ow Oc S σ a ∨ a = p) H' s (some (.ref p))) : Sat K CF Oc H0 Gh (S.set i s) (σ.set i (some (.ref p))) H' := by
  have h' := h.ex e
  have hp0 : H0 p = none := h.base.free hp
  have sub : ∀ a, Ow Oc (S.set i s) (σ.set i (some (.ref p))) a → Ow Oc S σ a ∨ a = p := fun a o => by
    rcases o with o | ⟨j, o⟩
    · exact .inl (.inl o)
    · rcases ownAt_set o with ⟨_, m, e⟩ | ⟨_, o⟩
      · cases e; exact .inr rfl
      · exact .inl (.inr ⟨j, o⟩)
  have le : Le (Ow Oc S σ) H (Ow Oc (S.set i s) (σ.set i (some (.ref p)))) H' := fun a o q n => ⟨e a o q, fun z => by
    rcases sub a z with z | z
    · exact n z
    · subst z; rw [hp] at q; cases q⟩
  have le2 : Le (fun a => Ow Oc S σ a ∨ a = p) H' (Ow Oc (S.set i s) (σ.set i (some (.ref p)))) H' := Le.sub sub
  refine ⟨by simp [h.len], h'.base, h'.oc, fun j a o => ?_, fun j k a o1 o2 => ?_, fun j t hs => ?_, fun q hq => h.gs q hq _ _ _ _ le (h.gh q hq), h.gs⟩
  · rcases ownAt_set o with ⟨_, _, e⟩ | ⟨_, o⟩
    · cases e
      exact ⟨hp0, hp', fun z => h.oc p z hp⟩
    · exact h'.own j a o
  · rcases ownAt_set o1 with ⟨z1, _, e1⟩ | ⟨z1, o1⟩
    · rcases ownAt_set o2 with ⟨z2, _, e2⟩ | ⟨z2, o2⟩
      · rw [z1, z2]
      · cases e1
        exact absurd hp (h.own k p o2).2.1
    · rcases ownAt_set o2 with ⟨z2, _, e2⟩ | ⟨z2, o2⟩
      · cases e2
        exact absurd hp (h.own j p o1).2.1
      · exact h.inj j k a o1 o2
  · by_cases q : j = i
    · subst q
      rw [List.getElem?_set, if_pos rfl] at hs
      split at hs
      · rename_i hl
        cases hs
        refine ⟨some (.ref p), by rw [List.getElem?_set_self (by rw [h.len]; exact hl)], ?_⟩
        cases s with
        | non => cases m
        | dat _ => cases m
        | own ds =>
          obtain ⟨a, xs, e1, e2, r2⟩ := r
          exact ⟨a, xs, e1, e2, Reps.mono le2 _ _ r2⟩
        | dct ds =>
          obtain ⟨a, xs, e1, e2, z, r2⟩ := r
          exact ⟨a, xs, e1, e2, z, Reps.mono le2 _ _ r2⟩
        | ins a ds =>
          obtain ⟨dx, xs, e1, e2, z, r2⟩ := r
          exact ⟨dx, xs, e1, e2, z, Reps.mono le2 _ _ r2⟩
        | exc _ _ _ => cases m
      · cases hs
    · rw [List.getElem?_set_ne (Ne.symm q)] at hs
      obtain ⟨w, e0, t0⟩ := h.slot j t hs
      refine ⟨w, by rw [List.getElem?_set_ne (Ne.symm q)]; exact e0, ?_⟩
      cases t with
      | non => trivial
      | dat d =>
        obtain ⟨v, e1, r1⟩ := t0
        exact ⟨v, e1, Rep.mono le _ _ r1⟩
      | own ds =>
        obtain ⟨a, xs, e1, e2, r2⟩ := t0
        exact ⟨a, xs, e1, e _ _ e2, Reps.mono le _ _ r2⟩
      | dct ds =>
        obtain ⟨a, xs, e1, e2, z, r2⟩ := t0
        exact ⟨a, xs, e1, e _ _ e2, z, Reps.mono le _ _ r2⟩
      | ins a ds =>
        obtain ⟨dx, xs, e1, e2, z, r2⟩ := t0
        exact ⟨dx, xs, e1, e _ _ e2, z, Reps.mono le _ _ r2⟩
      | exc a dd fs =>
        obtain ⟨q, ps, hd, no, z, r⟩ := t0
        exact ⟨q, ps, (le _ _ hd no).1, (le _ _ hd no).2, z, Reps.mono le _ _ r⟩
/-- the thing of one's own in slot i changes -/
theorem Sat.change {i : Nat} {p : Addr} {s s' : Sd} {o : HO} (h : Sat K CF Oc H0 Gh S σ H) (hs : S[i]? = some s) (hv : σ[i]? = some (some (.ref p))) (m : s.mine = true) (m' : s'.mine = true)
    (r : SlotOk K CF (Ow Oc S σ) (upd H p o) s' (some (.ref p))) : Sat K CF Oc H0 Gh (S.set i s') σ (upd H p o) := by
  have own : OwnAt S σ i p := ⟨⟨s, hs, m⟩, hv⟩
  have hl : i < S.length := (List.getElem?_eq_some_iff.mp hs).1
  have oe : ∀ j a, OwnAt (S.set i s') σ j a → OwnAt S σ j a := fun j a ⟨⟨t, ht, mt⟩, e⟩ => by
    by_cases q : j = i
    · subst q
      exact ⟨⟨s, hs, m⟩, e⟩
    · rw [List.getElem?_set_ne (Ne.symm q)] at ht
      exact ⟨⟨t, ht, mt⟩, e⟩
  have sub : ∀ a, Ow Oc (S.set i s') σ a → Ow Oc S σ a := fun a z => by
    rcases z with z | ⟨j, z⟩
    · exact .inl z
    · exact .inr ⟨j, oe j a z⟩
  have le : Le (Ow Oc S σ) H (Ow Oc (S.set i s') σ) (upd H p o) := fun a u e n => by
    have ne : a ≠ p := fun z => n (by rw [z]; exact .inr ⟨i, own⟩)
    exact ⟨by rw [upd_ne ne]; exact e, fun z => n (sub a z)⟩
  have le2 : Le (Ow Oc S σ) (upd H p o) (Ow Oc (S.set i s') σ) (upd H p o) := Le.sub sub
  have kn : ∀ a, H a ≠ none → upd H p o a ≠ none := fun a z => by
    by_cases q : a = p
    · subst q; rw [upd_same]; intro z; cases z
    · rw [upd_ne q]; exact z
  refine ⟨by rw [h.len]; simp, fun a u e => ?_, fun a z => kn a (h.oc a z), fun j a z => ?_, fun j k a z1 z2 => h.inj j k a (oe j a z1) (oe k a z2), fun j t ht => ?_, fun q hq => h.gs q hq _ _ _ _ le (h.gh q hq), h.gs⟩
  · have ne : a ≠ p := fun z => by
      have := (h.own i p own).1
      rw [z, this] at e; cases e
    rw [upd_ne ne]; exact h.base a u e
  · obtain ⟨a1, a2, a3⟩ := h.own j a (oe j a z)
    exact ⟨a1, kn a a2, a3⟩
  · by_cases q : j = i
    · subst q
      rw [List.getElem?_set_self hl] at ht
      cases ht
      refine ⟨_, hv, ?_⟩
      cases s' with
      | non => cases m'
      | dat _ => cases m'
      | own ds =>
        obtain ⟨a, xs, e1, e2, r2⟩ := r
        exact ⟨a, xs, e1, e2, Reps.mono le2 _ _ r2⟩
      | dct ds =>
        obtain ⟨a, xs, e1, e2, z, r2⟩ := r
        exact ⟨a, xs, e1, e2, z, Reps.mono le2 _ _ r2⟩
      | ins a ds =>
        obtain ⟨dx, xs, e1, e2, z, r2⟩ := r
        exact ⟨dx, xs, e1, e2, z, Reps.mono le2 _ _ r2⟩
      | exc _ _ _ => cases m'
    · rw [List.getElem?_set_ne (Ne.symm q)] at ht
      obtain ⟨w, e0, t0⟩ := h.slot j t ht
      refine ⟨w, e0, ?_⟩
      have ap : ∀ a, t.mine = true → w = some (.ref a) → a ≠ p := fun a mt e z => by
        subst z; subst e
        exact q (h.inj j i a ⟨⟨t, ht, mt⟩, e0⟩ own)
      cases t with
      | non => trivial
      | dat d =>
        obtain ⟨v, e1, r1⟩ := t0
        exact ⟨v, e1, Rep.mono le _ _ r1⟩
      | own ds =>
        obtain ⟨a, xs, e1, e2, r2⟩ := t0
        exact ⟨a, xs, e1, by rw [upd_ne (ap a rfl e1)]; exact e2, Reps.mono le _ _ r2⟩
      | dct ds =>
        obtain ⟨a, xs, e1, e2, z, r2⟩ := t0
        exact ⟨a, xs, e1, by rw [upd_ne (ap a rfl e1)]; exact e2, z, Reps.mono le _ _ r2⟩
      | ins a ds =>
        obtain ⟨dx, xs, e1, e2, z, r2⟩ := t0
        exact ⟨dx, xs, e1, by rw [upd_ne (ap a rfl e1)]; exact e2, z, Reps.mono le _ _ r2⟩
      | exc a dd fs =>
        obtain ⟨q, ps, hd, no, z, r⟩ := t0
        exact ⟨q, ps, (le _ _ hd no).1, (le _ _ hd no).2, z, Reps.mono le _ _ r⟩
/-- a list of one's own becomes data -/
theorem Sat.freeze {i : Nat} {ds : List D} (h : Sat K CF Oc H0 Gh S σ H) (hs : S[i]? = some (.own ds)) : Sat K CF Oc H0 Gh (S.set i (.dat (.lst ds))) σ H := by
  have hl : i < S.length := (List.getElem?_eq_some_iff.mp hs).1
  have oe : ∀ j a, OwnAt (S.set i (.dat (.lst ds))) σ j a → OwnAt S σ j a ∧ j ≠ i := fun j a ⟨⟨t, ht, mt⟩, e⟩ => by
    by_cases q : j = i
    · subst q
      rw [List.getElem?_set_self hl] at ht
      cases ht; cases mt
    · rw [List.getElem?_set_ne (Ne.symm q)] at ht
      exact ⟨⟨⟨t, ht, mt⟩, e⟩, q⟩
  have sub : ∀ a, Ow Oc (S.set i (.dat (.lst ds))) σ a → Ow Oc S σ a := fun a z => by
    rcases z with z | ⟨j, z⟩
    · exact .inl z
    · exact .inr ⟨j, (oe j a z).1⟩
  have le : Le (Ow Oc S σ) H (Ow Oc (S.set i (.dat (.lst ds))) σ) H := Le.sub sub
  refine ⟨by rw [h.len]; simp, h.base, h.oc, fun j a z => h.own j a (oe j a z).1, fun j k a z1 z2 => h.inj j k a (oe j a z1).1 (oe k a z2).1, fun j t ht => ?_, fun q hq => h.gs q hq _ _ _ _ le (h.gh q hq), h.gs⟩
  by_cases q : j = i
  · subst q
    rw [List.getElem?_set_self hl] at ht
    cases ht
    obtain ⟨w, e0, a, xs, e1, e2, r2⟩ := h.slot j _ hs
    subst e1
    have oa : OwnAt S σ j a := ⟨⟨_, hs, rfl⟩, e0⟩
    refine ⟨_, e0, _, rfl, rep_lst (Seq.ofL e2 fun z => ?_) (Reps.mono le _ _ r2)⟩
    rcases z with z | ⟨k, z⟩
    · exact (h.own j a oa).2.2 z
    · exact (oe k a z).2 (h.inj k j a (oe k a z).1 oa)
  · rw [List.getElem?_set_ne (Ne.symm q)] at ht
    obtain ⟨w, e0, t0⟩ := h.slot j t ht
    refine ⟨w, e0, ?_⟩
    cases t with
    | non => trivial
    | dat d =>
      obtain ⟨v, e1, r1⟩ := t0
      exact ⟨v, e1, Rep.mono le _ _ r1⟩
    | own ds =>
      obtain ⟨a, xs, e1, e2, r2⟩ := t0
      exact ⟨a, xs, e1, e2, Reps.mono le _ _ r2⟩
    | dct ds =>
      obtain ⟨a, xs, e1, e2, z, r2⟩ := t0
      exact ⟨a, xs, e1, e2, z, Reps.mono le _ _ r2⟩
    | ins a ds =>
      obtain ⟨dx, xs, e1, e2, z, r2⟩ := t0
      exact ⟨dx, xs, e1, e2, z, Reps.mono le _ _ r2⟩
    | exc a dd fs =>
      obtain ⟨q, ps, hd, no, z, r⟩ := t0
      exact ⟨q, ps, (le _ _ hd no).1, (le _ _ hd no).2, z, Reps.mono le _ _ r⟩
end
end CL

set_option Elab.async false
set_option linter.all false
set_option maxRecDepth 100000
set_option maxHeartbeats 4000000
namespace CL
open PySem L2

/-! ### what an expression comes to -/
def Ev (G : Gx) (S : List Sd) (e : Expr) (d : D) : Prop := ∀ σ H, G.sat S σ H → ∀ Q : VK, (∀ v H', Ex H H' → G.rep S σ H' d v → Q v H') → WE G.X e σ H Q
/-- a list (k true) or a tuple, also one that may change -/
def EvQ (G : Gx) (S : List Sd) (e : Expr) (k : Bool) (ds : List D) : Prop := ∀ σ H, G.sat S σ H → ∀ Q : VK, (∀ a xs H', Ex H H' → (if k = true then H' a = some (.lst xs) else SqT G.X.K H' a xs) → G.reps S σ H' ds xs → Q (.ref a) H') → WE G.X e σ H Q
/-- a new list -/
def EvL (G : Gx) (S : List Sd) (e : Expr) (ds : List D) : Prop := ∀ σ H, G.sat S σ H → ∀ Q : VK, (∀ p xs H', H p = none → Ex H H' → H' p = some (.lst xs) → Reps G.X.K G.CF (fun a => Ow G.Oc S σ a ∨ a = p) H' ds xs → Q (.ref p) H') → WE G.X e σ H Q
def EvT (G : Gx) (S : List Sd) (e : Expr) (b : Bool) : Prop := ∀ σ H, G.sat S σ H → ∀ Q : Bool → Hp → Prop, (∀ H', Ex H H' → Q b H') → WT G.X e σ H Q
def EvW (G : Gx) (S : List Sd) (e : Expr) (b : Bool) : Prop := ∀ σ H, G.sat S σ H → ∀ Q : Bool → Hp → Prop, (∀ H', Ex H H' → Q b H') → WW G.X e σ H Q
/-- arguments; those of a call that may look at what is one's own -/
def EvA (G : Gx) (S : List Sd) (es : List Expr) (ds : List D) : Prop := ∀ σ H, G.sat S σ H → ∀ Q : List V → Hp → Prop, (∀ vs H', Ex H H' → G.reps S σ H' ds vs → Q vs H') → WA G.X es σ H Q
section
variable {G : Gx} {S : List Sd} {a b c e : Expr} {es : List Expr} {x y z d : D} {xs ys ds : List D} {pos : Pos}

theorem EvL.q (h : EvL G S e ds) : EvQ G S e true ds := fun σ H s Q q => h σ H s Q fun p xs H' hp ex hl r => q p xs H' ex hl (Reps.mono (Le.sub fun _ => .inl) _ _ r)
theorem EvL.ev (h : EvL G S e ds) : Ev G S e (.lst ds) := fun σ H s Q q => h σ H s Q fun p xs H' hp ex hl r =>
  q _ H' ex (rep_lst (Seq.ofL hl (s.fresh hp)) (Reps.mono (Le.sub fun _ => .inl) _ _ r))
theorem Ev.qt (h : Ev G S e (.tup ds)) : EvQ G S e false ds := fun σ H s Q q => h σ H s Q fun v H' ex r => by
  obtain ⟨a, xs, rfl, sq, r⟩ := r.tup
  exact q a xs H' ex sq.t r
theorem Ev.ql (h : Ev G S e (.lst ds)) : EvQ G S e true ds := fun σ H s Q q => h σ H s Q fun v H' ex r => by
  obtain ⟨a, xs, rfl, sq, r⟩ := r.lst
  exact q a xs H' ex sq.1 r
theorem Ev.is (h : Ev G S e x) (q : x = y) : Ev G S e y := q ▸ h
theorem EvT.is {b c : Bool} (h : EvT G S e b) (q : b = c) : EvT G S e c := q ▸ h
theorem EvL.is (h : EvL G S e xs) (q : xs = ys) : EvL G S e ys := q ▸ h
theorem EvQ.is {k : Bool} (h : EvQ G S e k xs) (q : xs = ys) : EvQ G S e k ys := q ▸ h

/-! ### names, constants -/
structure Nm (X : Cx) (i : Nat) (x : Str) : Prop where
  n : X.N[i]? = some x
  v : Vis X.env.scope x
  d : (x == ("__debug__" : Str)) = false
  c : (x == ("__classdict__" : Str)) = false
theorem ev_name {i : Nat} {x : Str} (n : Nm G.X i x) (hS : S[i]? = some (.dat d)) : Ev G S (.Name x pos) d := fun σ H s Q q => by
  obtain ⟨v, e, w, ew, r⟩ := s.slot i _ hS
  subst ew
  exact eWE (pe_var n.n n.v n.d n.c) ⟨w, e, q w H Ex.rfl r⟩
theorem evQ_own {i : Nat} {x : Str} (n : Nm G.X i x) (hS : S[i]? = some (.own ds)) : EvQ G S (.Name x pos) true ds := fun σ H s Q q => by
  obtain ⟨v, e, a, xs, ew, ha, r⟩ := s.slot i _ hS
  subst ew
  exact eWE (pe_var n.n n.v n.d n.c) ⟨_, e, q a xs H Ex.rfl ha r⟩
theorem ev_int {i : Int} {j} : Ev G S (.Constant (.int i) j pos) (.int i) := fun σ H s Q q => eWE pe_int (q _ H Ex.rfl (rep_int i))
theorem ev_bl {i : Bool} {j} : Ev G S (.Constant (.bool i) j pos) (.bl i) := fun σ H s Q q => eWE pe_bl (q _ H Ex.rfl (rep_bl i))
theorem ev_non {j} : Ev G S (.Constant .none j pos) .non := fun σ H s Q q => eWE pe_non (q _ H Ex.rfl rep_non)
theorem ev_str {i : Str} {j} : Ev G S (.Constant (.str i) j pos) (.str i) := fun σ H s Q q => eWE pe_str (q _ H Ex.rfl (rep_str i))

/-! ### two operands -/
theorem Ev.bin (ha : Ev G S a x) (hb : Ev G S b y) {σ : L2.St} {H : Hp} (s : G.sat S σ H) {R : V → V → Hp → Prop} (k : ∀ u w H', Ex H H' → G.rep S σ H' x u → G.rep S σ H' y w → R u w H') :
    WE G.X a σ H fun u H1 => WE G.X b σ H1 fun w H2 => R u w H2 :=
  ha σ H s _ fun u H1 e1 r1 => hb σ H1 (s.ex e1) _ fun w H2 e2 r2 => k u w H2 (e1.trans e2) (Rep.mono (Le.ex e2) _ _ r1) r2
inductive BinR : Operator → D → D → D → Prop where
  | add (i j : Int) : BinR .Add (.int i) (.int j) (.int (i + j))
  | sub (i j : Int) : BinR .Sub (.int i) (.int j) (.int (i - j))
  | mul (i j : Int) (h : CMul i j) : BinR .Mult (.int i) (.int j) (.int (i * j))
  | fdiv (i j : Int) (h : CDiv i j) : BinR .FloorDiv (.int i) (.int j) (.int (i / j))
  | mod (i j : Int) (h : 0 < j) : BinR .Mod (.int i) (.int j) (.int (i % j))
  | pow (i j : Int) (h : CPow i j) : BinR .Pow (.int i) (.int j) (.int (i ^ j.toNat))
  | adt (xs ys : List D) (h : xs.length + ys.length ≤ sizeLine) : BinR .Add (.tup xs) (.tup ys) (.tup (xs ++ ys))
  | ads (i j : Str) (h : i.length + j.length ≤ sizeLine) : BinR .Add (.str i) (.str j) (.str (i ++ j))
theorem ev_bin {op : Operator} (ha : Ev G S a x) (hb : Ev G S b y) (r : BinR op x y z) : Ev G S (.BinOp a op b pos) z := fun σ H s Q q => by
  cases r with
  | add i j => exact eWE (pe_op op_add we we) (ha.bin hb s fun u w H' e ru rw' => by cases ru.int; cases rw'.int; exact ⟨i, j, rfl, rfl, q _ H' e (rep_int _)⟩)
  | sub i j => exact eWE (pe_op op_sub we we) (ha.bin hb s fun u w H' e ru rw' => by cases ru.int; cases rw'.int; exact ⟨i, j, rfl, rfl, q _ H' e (rep_int _)⟩)
  | mul i j h => exact eWE (pe_op op_mul we we) (ha.bin hb s fun u w H' e ru rw' => by cases ru.int; cases rw'.int; exact ⟨i, j, rfl, rfl, h, q _ H' e (rep_int _)⟩)
  | fdiv i j h => exact eWE (pe_op op_fdiv we we) (ha.bin hb s fun u w H' e ru rw' => by cases ru.int; cases rw'.int; exact ⟨i, j, rfl, rfl, h, q _ H' e (rep_int _)⟩)
  | mod i j h => exact eWE (pe_op op_mod we we) (ha.bin hb s fun u w H' e ru rw' => by cases ru.int; cases rw'.int; exact ⟨i, j, rfl, rfl, h, q _ H' e (rep_int _)⟩)
  | pow i j h => exact eWE (pe_op op_pow we we) (ha.bin hb s fun u w H' e ru rw' => by cases ru.int; cases rw'.int; exact ⟨i, j, rfl, rfl, h, q _ H' e (rep_int _)⟩)
  | ads i j h => exact eWE (pe_op op_add_str we we) (ha.bin hb s fun u w H' e ru rw' => by cases ru.str; cases rw'.str; exact ⟨i, j, rfl, rfl, h, q _ H' e (rep_str _)⟩)
  | adt xs ys h =>
    refine eWE (pe_op op_catA we we) (ha.bin hb s fun u w H' e ru rw' => ?_)
    obtain ⟨p, us, rfl, sp, rp⟩ := ru.tup
    obtain ⟨p', ws, rfl, sp', rp'⟩ := rw'.tup
    have l1 := rp.length
    have l2 := rp'.length
    refine ⟨p, p', us, ws, rfl, rfl, sp.t, sp'.t, by omega, fun z => ?_, fun _ z => ?_, fun _ _ t ht => ?_⟩
    · subst z
      have : xs = [] := List.length_eq_zero_iff.mp (by simpa using l1.symm)
      subst this
      exact q _ H' e (rep_tup sp' rp')
    · subst z
      have : ys = [] := List.length_eq_zero_iff.mp (by simpa using l2.symm)
      subst this
      rw [List.append_nil] at q
      exact q _ H' e (rep_tup sp rp)
    · refine q _ _ (e.trans (Ex.new ht)) (rep_tup (Seq.ofT upd_same ((s.ex e).fresh ht)) ?_)
      exact (Reps.mono (Le.ex (Ex.new ht)) _ _ rp).append (Reps.mono (Le.ex (Ex.new ht)) _ _ rp')
theorem ev_addib {i : Int} {k : Bool} (ha : Ev G S a (.int i)) (hb : Ev G S b (.bl k)) : Ev G S (.BinOp a .Add b pos) (.int (i + PyProof.Rows.b2i k)) := fun σ H s Q q =>
  eWE (pe_op op_add_ib we we) (ha.bin hb s fun u w H' e ru rw' => by cases ru.int; cases rw'.bl; exact ⟨i, k, rfl, rfl, q _ H' e (rep_int _)⟩)
theorem ev_neg {i : Int} (ha : Ev G S a (.int i)) : Ev G S (.UnaryOp .USub a pos) (.int (-i)) := fun σ H s Q q =>
  eWE (pe_un un_neg we) (ha σ H s _ fun u H' e ru => by cases ru.int; exact ⟨i, rfl, q _ H' e (rep_int _)⟩)

/-! ### data as the library's data -/
mutual
def D.py : D → PyData
  | .non => .none
  | .bl b => .bool b
  | .int i => .int i
  | .str x => .str x
  | .tup ds => .tuple (D.pys ds)
  | .lst ds => .list (D.pys ds)
  | .frm _ _ => .none
  | .scr ns => .list (ns.map .int)
def D.pys : List D → List PyData
  | [] => []
  | d :: ds => d.py :: D.pys ds
end
mutual
/-- no formula in it -/
def D.pure : D → Bool
  | .tup ds => D.pures ds
  | .lst ds => D.pures ds
  | .frm _ _ => false
  | _ => true
def D.pures : List D → Bool
  | [] => true
  | d :: ds => d.pure && D.pures ds
end
section
variable {K : PySem.W.Frag} {CF : Addr} {O : Addr → Prop} {H : Hp}
theorem dpAll_int : ∀ (ns : List Int), DpAll K H (ns.map V.int) (ns.map .int)
  | [] => .nil
  | n :: ns => .cons (.int n) (dpAll_int ns)
mutual
theorem Rep.dp : ∀ (d : D) (v : V), d.pure = true → Rep K CF O H d v → Dp K H v d.py
  | .non, _, _, h => by cases h.non; unfold D.py; exact .non
  | .bl b, _, _, h => by cases h.bl; unfold D.py; exact .bl b
  | .int b, _, _, h => by cases h.int; unfold D.py; exact .int b
  | .str b, _, _, h => by cases h.str; unfold D.py; exact .str b
  | .tup ds, _, p, h => by
    obtain ⟨a, xs, rfl, s, r⟩ := h.tup
    unfold D.py
    unfold D.pure at p
    exact .tup s.t (Reps.dp ds xs p r)
  | .lst ds, _, p, h => by
    obtain ⟨a, xs, rfl, s, r⟩ := h.lst
    unfold D.py
    unfold D.pure at p
    exact .lst s.l (Reps.dp ds xs p r)
  | .frm _ _, _, p, _ => by unfold D.pure at p; cases p
  | .scr ns, _, _, h => by
    obtain ⟨a, rfl, s⟩ := h.scr
    unfold D.py
    exact .lst s (dpAll_int ns)
theorem Reps.dp : ∀ (ds : List D) (xs : List V), D.pures ds = true → Reps K CF O H ds xs → DpAll K H xs (D.pys ds)
  | [], _, _, h => by unfold Reps at h; subst h; unfold D.pys; exact .nil
  | d :: ds, _, p, h => by
    unfold Reps at h
    obtain ⟨y, ys, rfl, r, t⟩ := h
    unfold D.pures at p
    rw [Bool.and_eq_true] at p
    unfold D.pys
    exact .cons (Rep.dp d y p.1 r) (Reps.dp ds ys p.2 t)
end
end
/-- what may be compared -/
def D.ok (d : D) : Bool := d.pure && SeqAt.shaped d.py
def D.eqv (x y : D) : Bool := PyData.eqv x.py y.py
theorem D.ok1 {d : D} (h : d.ok = true) : d.pure = true := (Bool.and_eq_true_iff.mp h).1
theorem D.ok2 {d : D} (h : d.ok = true) : SeqAt.shaped d.py = true := (Bool.and_eq_true_iff.mp h).2

/-! ### comparisons -/
inductive CmpR : CmpOp → D → D → Bool → Prop where
  | lt (i j : Int) : CmpR .Lt (.int i) (.int j) (decide (i < j))
  | le (i j : Int) : CmpR .LtE (.int i) (.int j) (decide (i ≤ j))
  | gt (i j : Int) : CmpR .Gt (.int i) (.int j) (decide (j < i))
  | ge (i j : Int) : CmpR .GtE (.int i) (.int j) (decide (j ≤ i))
  | eqi (i j : Int) : CmpR .Eq (.int i) (.int j) (decide (i = j))
  | nei (i j : Int) : CmpR .NotEq (.int i) (.int j) (!decide (i = j))
  | eqs (i j : Str) : CmpR .Eq (.str i) (.str j) (decide (i = j))
  | nes (i j : Str) : CmpR .NotEq (.str i) (.str j) (!decide (i = j))
  | eqb (i j : Bool) : CmpR .Eq (.bl i) (.bl j) (decide (i = j))
  | neb (i j : Bool) : CmpR .NotEq (.bl i) (.bl j) (!decide (i = j))
  | eq (x y : D) (hx : x.ok = true) (hy : y.ok = true) : CmpR .Eq x y (x.eqv y)
  | ne (x y : D) (hx : x.ok = true) (hy : y.ok = true) : CmpR .NotEq x y (!x.eqv y)
  | isb (i j : Bool) : CmpR .Is (.bl i) (.bl j) (decide (i = j))
  | nib (i j : Bool) : CmpR .IsNot (.bl i) (.bl j) (!decide (i = j))
def D.isNon : D → Bool
  | .non => true
  | _ => false
theorem rep_isNon {K : PySem.W.Frag} {CF : Addr} {O : Addr → Prop} {H : Hp} {v : V} : ∀ {d : D}, Rep K CF O H d v → decide (v = .non) = d.isNon
  | .non, h => by cases h.non; rfl
  | .bl _, h => by cases h.bl; rfl
  | .int _, h => by cases h.int; rfl
  | .str _, h => by cases h.str; rfl
  | .tup _, h => by obtain ⟨a, xs, rfl, _⟩ := h.tup; rfl
  | .lst _, h => by obtain ⟨a, xs, rfl, _⟩ := h.lst; rfl
  | .frm _ _, h => by obtain ⟨a, dx, ca, xs, rfl, _⟩ := h.frm; rfl
  | .scr _, h => by obtain ⟨a, rfl, _⟩ := h.scr; rfl
/-- the operator on values -/
theorem cmpR_op (hu : G.X.A.units + 64 < cLine) {op : CmpOp} {r : Bool} (h : CmpR op x y r) : ∃ R : R2, OpR G.X (compareOp op) R ∧ ∀ {O : Addr → Prop} {H : Hp} {u w : V}, Rep G.X.K G.CF O H x u → Rep G.X.K G.CF O H y w → ∀ Q : VK, Q (.bl r) H → R u w H Q := by
  cases h with
  | lt i j => exact ⟨_, op_lt, fun ru rw' Q q => by cases ru.int; cases rw'.int; exact ⟨i, j, rfl, rfl, q⟩⟩
  | le i j => exact ⟨_, op_le, fun ru rw' Q q => by cases ru.int; cases rw'.int; exact ⟨i, j, rfl, rfl, q⟩⟩
  | gt i j => exact ⟨_, op_gt, fun ru rw' Q q => by cases ru.int; cases rw'.int; exact ⟨i, j, rfl, rfl, q⟩⟩
  | ge i j => exact ⟨_, op_ge, fun ru rw' Q q => by cases ru.int; cases rw'.int; exact ⟨i, j, rfl, rfl, q⟩⟩
  | eqi i j => exact ⟨_, op_eq, fun ru rw' Q q => by cases ru.int; cases rw'.int; refine ⟨rfl, ?_⟩; simpa using q⟩
  | nei i j => exact ⟨_, op_ne, fun ru rw' Q q => by cases ru.int; cases rw'.int; refine ⟨rfl, ?_⟩; simpa using q⟩
  | eqs i j => exact ⟨_, op_eq, fun ru rw' Q q => by cases ru.str; cases rw'.str; refine ⟨rfl, ?_⟩; simpa using q⟩
  | nes i j => exact ⟨_, op_ne, fun ru rw' Q q => by cases ru.str; cases rw'.str; refine ⟨rfl, ?_⟩; simpa using q⟩
  | eqb i j => exact ⟨_, op_eq, fun ru rw' Q q => by cases ru.bl; cases rw'.bl; refine ⟨rfl, ?_⟩; simpa using q⟩
  | neb i j => exact ⟨_, op_ne, fun ru rw' Q q => by cases ru.bl; cases rw'.bl; refine ⟨rfl, ?_⟩; simpa using q⟩
  | eq _ _ hx hy => exact ⟨_, op_eqD hu, fun ru rw' Q q => ⟨_, _, Rep.dp _ _ (D.ok1 hx) ru, Rep.dp _ _ (D.ok1 hy) rw', D.ok2 hx, D.ok2 hy, q⟩⟩
  | ne _ _ hx hy => exact ⟨_, op_neD hu, fun ru rw' Q q => ⟨_, _, Rep.dp _ _ (D.ok1 hx) ru, Rep.dp _ _ (D.ok1 hy) rw', D.ok2 hx, D.ok2 hy, q⟩⟩
  | isb i j => exact ⟨_, op_is_bl, fun ru rw' Q q => by cases ru.bl; cases rw'.bl; exact ⟨i, j, rfl, rfl, q⟩⟩
  | nib i j => exact ⟨_, op_isnot_bl, fun ru rw' Q q => by cases ru.bl; cases rw'.bl; exact ⟨i, j, rfl, rfl, q⟩⟩
theorem CmpR.plain {op : CmpOp} {r : Bool} (h : CmpR op x y r) : op ≠ .In ∧ op ≠ .NotIn := by cases h <;> exact ⟨by decide, by decide⟩
theorem ev_cmp (hu : G.X.A.units + 64 < cLine) {op : CmpOp} {r : Bool} (ha : Ev G S a x) (hb : Ev G S b y) (h : CmpR op x y r) : Ev G S (.Compare a [op] [b] pos) (.bl r) := fun σ H s Q q => by
  obtain ⟨R, o, k⟩ := cmpR_op hu h
  exact eWE (pe_cmpR o we we (nomark b h.plain.1 h.plain.2)) (ha.bin hb s fun u w H' e ru rw' => k ru rw' _ (q _ H' e (rep_bl _)))
theorem evT_cmp (hu : G.X.A.units + 64 < cLine) {op : CmpOp} {r : Bool} (ha : Ev G S a x) (hb : Ev G S b y) (h : CmpR op x y r) : EvT G S (.Compare a [op] [b] pos) r := fun σ H s Q q => by
  obtain ⟨R, o, k⟩ := cmpR_op hu h
  exact eWT (pt_cmpR o we we (nomark b h.plain.1 h.plain.2)) (ha.bin hb s fun u w H' e ru rw' => k ru rw' _ ⟨_, rfl, q H' e⟩)
theorem ev_isN {j pos'} (ha : Ev G S a x) : Ev G S (.Compare a [.Is] [.Constant .none j pos'] pos) (.bl x.isNon) := fun σ H s Q q =>
  eWE (pe_cmpR op_isN we we (nomark _)) (ha.bin ev_non s fun u w H' e ru rw' => by cases rw'.non; exact ⟨rfl, by rw [rep_isNon ru]; exact q _ H' e (rep_bl _)⟩)
theorem evT_isN {j pos'} (ha : Ev G S a x) : EvT G S (.Compare a [.Is] [.Constant .none j pos'] pos) x.isNon := fun σ H s Q q =>
  eWT (pt_cmpR op_isN we we (nomark _)) (ha.bin ev_non s fun u w H' e ru rw' => by cases rw'.non; exact ⟨rfl, by rw [rep_isNon ru]; exact ⟨_, rfl, q H' e⟩⟩)
theorem ev_notN {j pos'} (ha : Ev G S a x) : Ev G S (.Compare a [.IsNot] [.Constant .none j pos'] pos) (.bl (!x.isNon)) := fun σ H s Q q =>
  eWE (pe_cmpR op_notN we we (nomark _)) (ha.bin ev_non s fun u w H' e ru rw' => by cases rw'.non; exact ⟨rfl, by rw [rep_isNon ru]; exact q _ H' e (rep_bl _)⟩)
theorem evT_notN {j pos'} (ha : Ev G S a x) : EvT G S (.Compare a [.IsNot] [.Constant .none j pos'] pos) (!x.isNon) := fun σ H s Q q =>
  eWT (pt_cmpR op_notN we we (nomark _)) (ha.bin ev_non s fun u w H' e ru rw' => by cases rw'.non; exact ⟨rfl, by rw [rep_isNon ru]; exact ⟨_, rfl, q H' e⟩⟩)
/-- a < b < c of ints -/
theorem chain_w {op op' : CmpOp} {r r' : Bool} {R R' : R2} (ha : Ev G S a x) (hb : Ev G S b y) (hc : r = true → Ev G S c z)
    (k : ∀ {O : Addr → Prop} {H : Hp} {u w : V}, Rep G.X.K G.CF O H x u → Rep G.X.K G.CF O H y w → ∀ Q : VK, Q (.bl r) H → R u w H Q)
    (k' : r = true → ∀ {O : Addr → Prop} {H : Hp} {u w : V}, Rep G.X.K G.CF O H y u → Rep G.X.K G.CF O H z w → ∀ Q : VK, Q (.bl r') H → R' u w H Q)
    {σ : L2.St} {H : Hp} (s : G.sat S σ H) {Q : VK} (q : ∀ H', Ex H H' → Q (.bl (r && r')) H') : tChain R R' (WE G.X a) (WE G.X b) (WE G.X c) σ H Q := by
  refine ha.bin hb s fun u w H' e ru rw' => k ru rw' _ ⟨r, rfl, ?_⟩
  cases r with
  | true =>
    rw [if_pos rfl]
    refine hc rfl σ H' (s.ex e) _ fun t H2 e2 rt => k' rfl (Rep.mono (Le.ex e2) _ _ rw') rt _ ?_
    exact q H2 (e.trans e2)
  | false =>
    rw [if_neg Bool.false_ne_true]
    exact q H' e
theorem ev_chain (hu : G.X.A.units + 64 < cLine) {op op' : CmpOp} {r r' : Bool} (ha : Ev G S a x) (hb : Ev G S b y) (h : CmpR op x y r) (hc : r = true → Ev G S c z) (h' : CmpR op' y z r')
    (hm : lastMarks [op, op'] [b, c] = false := by with_unfolding_all rfl) : Ev G S (.Compare a [op, op'] [b, c] pos) (.bl (r && r')) := fun σ H s Q q => by
  obtain ⟨R, o, k⟩ := cmpR_op hu h
  obtain ⟨R', o', k'⟩ := cmpR_op hu h'
  exact eWE (pe_chain o o' we we we hm) (chain_w (op := op) (op' := op') ha hb hc k (fun _ => k') s fun H' e => q _ H' e (rep_bl _))
theorem evT_chain (hu : G.X.A.units + 64 < cLine) {op op' : CmpOp} {r r' : Bool} (ha : Ev G S a x) (hb : Ev G S b y) (h : CmpR op x y r) (hc : r = true → Ev G S c z) (h' : CmpR op' y z r')
    (hm : lastMarks [op, op'] [b, c] = false := by with_unfolding_all rfl) : EvT G S (.Compare a [op, op'] [b, c] pos) (r && r') := fun σ H s Q q => by
  obtain ⟨R, o, k⟩ := cmpR_op hu h
  obtain ⟨R', o', k'⟩ := cmpR_op hu h'
  exact eWT (pt_chain o o' we we we hm) (chain_w (op := op) (op' := op') ha hb hc k (fun _ => k') s fun H' e => ⟨_, rfl, q H' e⟩)

/-! ### tests -/
theorem evT_not {r : Bool} (h : EvT G S a r) : EvT G S (.UnaryOp .Not a pos) (!r) := fun σ H s Q q => eWT (pt_not wt) (h σ H s _ fun H' e => q H' e)
theorem ev_not {r : Bool} (h : Ev G S a (.bl r)) : Ev G S (.UnaryOp .Not a pos) (.bl (!r)) := fun σ H s Q q => eWE (pe_not we) (h σ H s _ fun u H' e ru => by cases ru.bl; exact ⟨r, rfl, q _ H' e (rep_bl _)⟩)
theorem evW_and1 {r : Bool} (h : EvT G S a r) : EvW G S (.BoolOp .And [a] pos) r := fun σ H s Q q => eWW (pw_and1 wt) (h σ H s _ q)
theorem evW_or1 {r : Bool} (h : EvT G S a r) : EvW G S (.BoolOp .Or [a] pos) r := fun σ H s Q q => eWW (pw_or1 wt) (h σ H s _ q)
theorem evW_and {r t : Bool} {rest : List Expr} (h : EvT G S a r) (g : r = true → EvW G S (.BoolOp .And (b :: rest) pos) t) : EvW G S (.BoolOp .And (a :: b :: rest) pos) (r && t) := fun σ H s Q q =>
  eWW (pw_and wt ww) (h σ H s _ fun H' e => by
    cases r with
    | true => rw [if_pos rfl]; exact g rfl σ H' (s.ex e) _ fun H2 e2 => q H2 (e.trans e2)
    | false => rw [if_neg Bool.false_ne_true]; exact q H' e)
theorem evW_or {r t : Bool} {rest : List Expr} (h : EvT G S a r) (g : r = false → EvW G S (.BoolOp .Or (b :: rest) pos) t) : EvW G S (.BoolOp .Or (a :: b :: rest) pos) (r || t) := fun σ H s Q q =>
  eWW (pw_or wt ww) (h σ H s _ fun H' e => by
    cases r with
    | true => rw [if_pos rfl]; exact q H' e
    | false => rw [if_neg Bool.false_ne_true]; exact g rfl σ H' (s.ex e) _ fun H2 e2 => q H2 (e.trans e2))
theorem EvW.t {r : Bool} (h : EvW G S a r) : EvT G S a r := fun σ H s Q q => eWT ww.pt (h σ H s Q q)
theorem ev_one {op} {r : D} (h : Ev G S a r) : Ev G S (.BoolOp op [a] pos) r := fun σ H s Q q => eWE (pe_one we) (h σ H s _ q)
theorem ev_and {r t : Bool} {rest : List Expr} (h : Ev G S a (.bl r)) (g : r = true → Ev G S (.BoolOp .And (b :: rest) pos) (.bl t)) : Ev G S (.BoolOp .And (a :: b :: rest) pos) (.bl (r && t)) := fun σ H s Q q =>
  eWE (pe_and we we) (h σ H s _ fun u H' e ru => by
    cases ru.bl
    refine ⟨r, rfl, ?_⟩
    cases r with
    | true => rw [if_pos rfl]; exact g rfl σ H' (s.ex e) _ fun v H2 e2 => q v H2 (e.trans e2)
    | false => rw [if_neg Bool.false_ne_true]; exact q _ H' e (rep_bl _))
theorem ev_or {r t : Bool} {rest : List Expr} (h : Ev G S a (.bl r)) (g : r = false → Ev G S (.BoolOp .Or (b :: rest) pos) (.bl t)) : Ev G S (.BoolOp .Or (a :: b :: rest) pos) (.bl (r || t)) := fun σ H s Q q =>
  eWE (pe_or we we) (h σ H s _ fun u H' e ru => by
    cases ru.bl
    refine ⟨r, rfl, ?_⟩
    cases r with
    | true => rw [if_pos rfl]; exact q _ H' e (rep_bl _)
    | false => rw [if_neg Bool.false_ne_true]; exact g rfl σ H' (s.ex e) _ fun v H2 e2 => q v H2 (e.trans e2))
theorem ev_if {r : Bool} (h : EvT G S c r) (g1 : r = true → Ev G S a d) (g2 : r = false → Ev G S b d) : Ev G S (.IfExp c a b pos) d := fun σ H s Q q =>
  eWE (pe_ifExp wt we we) (h σ H s _ fun H' e => by
    cases r with
    | true => rw [if_pos rfl]; exact g1 rfl σ H' (s.ex e) _ fun v H2 e2 => q v H2 (e.trans e2)
    | false => rw [if_neg Bool.false_ne_true]; exact g2 rfl σ H' (s.ex e) _ fun v H2 e2 => q v H2 (e.trans e2))
/-- a value's truth -/
def D.tru : D → Bool
  | .non => false
  | .bl b => b
  | .int i => i != 0
  | .str x => (x.length : Int) != 0
  | .tup ds => !ds.isEmpty
  | .lst ds => !ds.isEmpty
  | .frm _ _ => true
  | .scr ns => !ns.isEmpty
def D.truOk : D → Prop
  | .str x => x.length ≤ sizeLine
  | .frm _ _ => False
  | _ => True
theorem isEmpty_len {α β : Type} {xs : List α} {ys : List β} (h : xs.length = ys.length) : xs.isEmpty = ys.isEmpty := by
  cases xs <;> cases ys <;> simp at h ⊢
theorem rep_tru {K : PySem.W.Frag} {CF : Addr} {O : Addr → Prop} {H : Hp} {v : V} : ∀ {d : D}, d.truOk → Rep K CF O H d v → TruV K v H d.tru
  | .non, _, h => by cases h.non; rfl
  | .bl _, _, h => by cases h.bl; rfl
  | .int _, _, h => by cases h.int; rfl
  | .str _, o, h => by cases h.str; exact ⟨o, rfl⟩
  | .tup _, _, h => by obtain ⟨a, xs, rfl, s, r⟩ := h.tup; exact .inr (.inl ⟨xs, s.t, by unfold D.tru; rw [isEmpty_len r.length]⟩)
  | .lst _, _, h => by obtain ⟨a, xs, rfl, s, r⟩ := h.lst; exact .inl ⟨xs, s.l, by unfold D.tru; rw [isEmpty_len r.length]⟩
  | .frm _ _, o, h => by cases o
  | .scr ns, _, h => by obtain ⟨a, rfl, s⟩ := h.scr; exact .inl ⟨_, s, by unfold D.tru; simp⟩
theorem evT_val (ha : Ev G S a x) (ho : x.truOk) (he : ∀ whole, isTrue a G.X.env whole = (do let v ← whole; standAt a.pos; holding [v] (truthy v))) : EvT G S a x.tru := fun σ H s Q q =>
  eWT (pt_truth we he) (ha σ H s _ fun u H' e ru => ⟨_, rep_tru ho ru, q H' e⟩)
theorem evT_bl {r : Bool} (ha : Ev G S a (.bl r)) (he : ∀ whole, isTrue a G.X.env whole = (do let v ← whole; standAt a.pos; holding [v] (truthy v))) : EvT G S a r := evT_val ha trivial he
theorem evT_seq {k : Bool} (ha : EvQ G S a k ds) (he : ∀ whole, isTrue a G.X.env whole = (do let v ← whole; standAt a.pos; holding [v] (truthy v))) : EvT G S a (!ds.isEmpty) := fun σ H s Q q =>
  eWT (pt_truth we he) (ha σ H s _ fun p xs H' e sq r => ⟨!xs.isEmpty, by
    cases k with
    | true => exact .inl ⟨xs, SqL.of sq, rfl⟩
    | false => exact .inr (.inl ⟨xs, sq, rfl⟩), by rw [isEmpty_len r.length]; exact q H' e⟩)
end
end CL

set_option Elab.async false
set_option linter.all false
set_option maxRecDepth 100000
set_option maxHeartbeats 4000000
namespace CL
open PySem L2
section
variable {G : Gx} {S : List Sd} {a b c e : Expr} {es : List Expr} {x y z d : D} {xs ys ds : List D} {pos : Pos} {k : Bool}

/-! ### arguments, displays -/
theorem evA_nil : EvA G S [] [] := fun σ H s Q q => eWA pa_nil (q [] H Ex.rfl Reps.nil)
theorem evA_cons (h : Ev G S e d) (t : EvA G S es ds) (hs : starEach (e :: es) G.X.env = (false, eval e G.X.env) :: starEach es G.X.env := by rfl) : EvA G S (e :: es) (d :: ds) := fun σ H s Q q =>
  eWA (pa_cons we wa hs) (h σ H s _ fun v H1 e1 r1 => t σ H1 (s.ex e1) _ fun vs H2 e2 r2 => q _ H2 (e1.trans e2) (Reps.cons (Rep.mono (Le.ex e2) _ _ r1) r2))
theorem ev_tup {k} (h : EvA G S es ds) (hl : ds.length ≤ sizeLine := by decide) : Ev G S (.Tuple es k pos) (.tup ds) := fun σ H s Q q =>
  eWE (pe_tup wa) (h σ H s _ fun vs H1 e1 r => ⟨by rw [r.length]; exact hl, fun p hp => q _ _ (e1.trans (Ex.new hp)) (rep_tup (Seq.ofT upd_same ((s.ex e1).fresh hp)) (Reps.mono (Le.ex (Ex.new hp)) _ _ r))⟩)
theorem reps_new {K : PySem.W.Frag} {CF : Addr} {O : Addr → Prop} {H : Hp} {p : Addr} {o : HO} {vs : List V} (hp : H p = none) (r : Reps K CF O H ds vs) : Reps K CF (fun a => O a ∨ a = p) (upd H p o) ds vs :=
  Reps.mono (fun a u e n => ⟨Ex.new hp a u e, fun z => by
    rcases z with z | z
    · exact n z
    · subst z; rw [hp] at e; cases e⟩) _ _ r
theorem evL_lst (h : EvA G S es ds) (hl : ds.length ≤ sizeLine := by decide) : EvL G S (.List es pos) ds := fun σ H s Q q =>
  eWE (pe_lst wa) (h σ H s _ fun vs H1 e1 r => ⟨by rw [r.length]; exact hl, fun p hp => q p vs _ (e1.free hp) (e1.trans (Ex.new hp)) upd_same (reps_new hp r)⟩)

/-! ### places -/
def cutL {α : Type} (xs : List α) (lo hi : Option Int) : List α := (xs.drop (HT.sIx xs.length 0 lo)).take (HT.sIx xs.length xs.length hi - HT.sIx xs.length 0 lo)
theorem Reps.at {K : PySem.W.Frag} {CF : Addr} {O : Addr → Prop} {H : Hp} {vs : List V} {i : Int} (r : Reps K CF O H ds vs) (h : atI ds i = some d) : ∃ v, atI vs i = some v ∧ Rep K CF O H d v := by
  unfold atI at h ⊢
  rw [r.length]
  cases q : ixN ds.length i with
  | none => rw [q] at h; cases h
  | some j =>
    rw [q] at h
    exact r.get (i := j) h
theorem ev_ix {i : Int} (ha : EvQ G S a k ds) (hb : Ev G S b (.int i)) (h : atI ds i = some d) (hs : PlainIx b := by exact fun _ _ => rfl) : Ev G S (.Subscript a b pos) d := fun σ H s Q q => by
  refine eWE (pe_ix ix_seq we we hs) (ha σ H s _ fun p vs H1 e1 sq r => hb σ H1 (s.ex e1) _ fun w H2 e2 rw' => ?_)
  cases rw'.int
  obtain ⟨v, e, rv⟩ := Reps.at (Reps.mono (Le.ex e2) _ _ r) h
  cases k with
  | true => exact .inl ⟨p, vs, i, v, rfl, rfl, SqL.of (e2 _ _ sq), e, q v H2 (e1.trans e2) rv⟩
  | false =>
    refine .inr (.inl ⟨p, vs, i, v, rfl, rfl, ?_, e, q v H2 (e1.trans e2) rv⟩)
    rcases (sq : SqT G.X.K H1 p vs) with (h | ⟨o, h⟩) | h
    · exact .inl (.inl (e2 _ _ h))
    · exact .inl (.inr ⟨o, e2 _ _ h⟩)
    · exact .inr h
theorem ex_sqT {K : PySem.W.Frag} {H H' : Hp} {p : Addr} {vs : List V} (e2 : Ex H H') (sq : SqT K H p vs) : SqT K H' p vs := by
  rcases sq with (h | ⟨o, h⟩) | h
  · exact .inl (.inl (e2 _ _ h))
  · exact .inl (.inr ⟨o, e2 _ _ h⟩)
  · exact .inr h
theorem ex_sqL {K : PySem.W.Frag} {H H' : Hp} {p : Addr} {vs : List V} (e2 : Ex H H') (sq : SqL K H p vs) : SqL K H' p vs := by
  rcases sq with (h | ⟨o, h⟩) | h
  · exact .inl (.inl (e2 _ _ h))
  · exact .inl (.inr ⟨o, e2 _ _ h⟩)
  · exact .inr h
theorem atI_map {α β : Type} (f : α → β) (xs : List α) (i : Int) : atI (xs.map f) i = (atI xs i).map f := by
  unfold atI
  rw [List.length_map]
  cases ixN xs.length i with
  | none => rfl
  | some j => simp
theorem atI_lastQ {α : Type} (xs : List α) : atI xs (-1) = xs.getLast? := by
  unfold atI ixN
  rw [if_neg (by decide)]
  cases xs with
  | nil => rfl
  | cons x xs =>
    rw [if_pos (by simp only [List.length_cons]; omega)]
    rw [List.getLast?_eq_getElem?]
    show (x :: xs)[_]? = _
    congr 1
    simp only [List.length_cons]; omega
theorem ev_ixS {i n : Int} {ns : List Int} (ha : Ev G S a (.scr ns)) (hb : Ev G S b (.int i)) (h : atI ns i = some n) (hs : PlainIx b := by exact fun _ _ => rfl) : Ev G S (.Subscript a b pos) (.int n) := fun σ H s Q q =>
  eWE (pe_ix ix_seq we we hs) (ha.bin hb s fun u w H' e ru rw' => by
    cases rw'.int
    obtain ⟨p, rfl, sq⟩ := ru.scr
    exact .inl ⟨p, _, i, _, rfl, rfl, sq, by rw [atI_map, h]; rfl, q _ H' e (rep_int n)⟩)
/-- a part of a slice -/
def EvP (G : Gx) (S : List Sd) : Option Expr → Option Int → Prop
  | none, none => True
  | some e, some i => Ev G S e (.int i)
  | _, _ => False
def WP (G : Gx) : Option Expr → TO
  | none => tNoPart
  | some e => tPart (WE G.X e)
theorem wp : ∀ (o : Option Expr), PO G.X o (WP G o)
  | none => po_none
  | some e => po_some we
theorem EvP.run {o : Option Expr} {i : Option Int} (h : EvP G S o i) {σ : L2.St} {H : Hp} (s : G.sat S σ H) {Q : Option Int → Hp → Prop} (q : ∀ H', Ex H H' → Q i H') : WP G o σ H Q := by
  cases o with
  | none =>
    cases i with
    | none => exact q H Ex.rfl
    | some i => cases h
  | some e =>
    cases i with
    | none => cases h
    | some i =>
      have h : Ev G S e (.int i) := h
      exact h σ H s _ fun v H' e r => by cases r.int; exact ⟨i, rfl, q H' e⟩
theorem cut_reps {K : PySem.W.Frag} {CF : Addr} {O : Addr → Prop} {H : Hp} {vs : List V} {lo hi : Option Int} (r : Reps K CF O H ds vs) : Reps K CF O H (cutL ds lo hi) (cutV vs lo hi) := by
  unfold cutL cutV
  rw [r.length]
  exact (r.drop _).take _
theorem ev_slT {lo hi : Option Expr} {i j : Option Int} {p2 : Pos} (ha : Ev G S a (.tup ds)) (hl : EvP G S lo i) (hu : EvP G S hi j) : Ev G S (.Subscript a (.Slice lo hi none p2) pos) (.tup (cutL ds i j)) := fun σ H s Q q => by
  refine eWE (pe_slice sl_tupA we (wp lo) (wp hi)) (ha σ H s _ fun v H1 e1 r => hl.run (s.ex e1) fun H2 e2 => hu.run ((s.ex e1).ex e2) fun H3 e3 => ?_)
  obtain ⟨p, vs, rfl, sq, r⟩ := (Rep.mono (Le.ex (e2.trans e3)) _ _ r).tup
  have ee := (e1.trans e2).trans e3
  refine ⟨p, vs, rfl, sq.t, fun z => ?_, fun _ t ht => ?_⟩
  · have cc : cutL ds i j = ds := by
      unfold cutL
      rw [← r.length, z.1, z.2]
      simp [r.length]
    rw [cc] at q
    exact q _ H3 ee (rep_tup sq r)
  · exact q _ _ (ee.trans (Ex.new ht)) (rep_tup (Seq.ofT upd_same ((s.ex ee).fresh ht)) (Reps.mono (Le.ex (Ex.new ht)) _ _ (cut_reps r)))
theorem evL_sl {lo hi : Option Expr} {i j : Option Int} {p2 : Pos} (ha : EvQ G S a true ds) (hl : EvP G S lo i) (hu : EvP G S hi j) : EvL G S (.Subscript a (.Slice lo hi none p2) pos) (cutL ds i j) := fun σ H s Q q => by
  refine eWE (pe_slice sl_list we (wp lo) (wp hi)) (ha σ H s _ fun p vs H1 e1 sq r => hl.run (s.ex e1) fun H2 e2 => hu.run ((s.ex e1).ex e2) fun H3 e3 => ?_)
  have ee := e2.trans e3
  refine ⟨p, vs, rfl, SqL.of (ee _ _ sq), fun t ht => ?_⟩
  exact q t _ _ ((e1.trans ee).free ht) ((e1.trans ee).trans (Ex.new ht)) upd_same (reps_new ht (cut_reps (Reps.mono (Le.ex ee) _ _ r)))
theorem evL_rev {k0 : Nat} {p1 p2 p3 : Pos} (ha : EvQ G S a true ds) : EvL G S (.Subscript a (.Slice none none (some (.UnaryOp .USub (.Constant (.int 1) k0 p1) p2)) p3) pos) ds.reverse := fun σ H s Q q =>
  eWE (pe_revL we) (ha σ H s _ fun p vs H1 e1 sq r => ⟨p, vs, rfl, SqL.of sq, fun t ht => q t _ _ (e1.free ht) (e1.trans (Ex.new ht)) upd_same (reps_new ht r.reverse)⟩)
theorem EvQ.bin {k k' : Bool} (ha : EvQ G S a k xs) (hb : EvQ G S b k' ys) {σ : L2.St} {H : Hp} (s : G.sat S σ H) {R : V → V → Hp → Prop}
    (q : ∀ p p' vs vs' H', Ex H H' → (if k = true then H' p = some (.lst vs) else SqT G.X.K H' p vs) → (if k' = true then H' p' = some (.lst vs') else SqT G.X.K H' p' vs') → G.reps S σ H' xs vs → G.reps S σ H' ys vs' → R (.ref p) (.ref p') H') :
    WE G.X a σ H fun u H1 => WE G.X b σ H1 fun w H2 => R u w H2 :=
  ha σ H s _ fun p vs H1 e1 sq r => hb σ H1 (s.ex e1) _ fun p' vs' H2 e2 sq' r' => q p p' vs vs' H2 (e1.trans e2) (by
    cases k with
    | true => exact e2 _ _ sq
    | false => exact ex_sqT e2 sq) sq' (Reps.mono (Le.ex e2) _ _ r) r'
theorem evL_cat (ha : EvQ G S a true xs) (hb : EvQ G S b true ys) (h : xs.length + ys.length ≤ sizeLine) : EvL G S (.BinOp a .Add b pos) (xs ++ ys) := fun σ H s Q q =>
  eWE (pe_op op_cat we we) (ha.bin hb s fun p p' vs vs' H' e sq sq' r r' => ⟨p, p', vs, vs', rfl, rfl, sq, sq', by rw [r.length, r'.length]; exact h, fun t ht =>
    q t _ _ (e.free ht) (e.trans (Ex.new ht)) upd_same (reps_new ht (r.append r'))⟩)
theorem reps_rep {K : PySem.W.Frag} {CF : Addr} {O : Addr → Prop} {H : Hp} {vs : List V} (r : Reps K CF O H ds vs) : ∀ n : Nat, Reps K CF O H (List.replicate n ds).flatten (List.replicate n vs).flatten
  | 0 => by simpa using Reps.nil
  | n + 1 => by
    rw [List.replicate_succ, List.replicate_succ, List.flatten_cons, List.flatten_cons]
    exact r.append (reps_rep r n)
theorem evL_rep {i : Int} (ha : EvQ G S a true xs) (hb : Ev G S b (.int i)) (h1 : -(2 ^ 63) ≤ i) (h2 : i < 2 ^ 63) (h : xs.length * i.toNat ≤ sizeLine) : EvL G S (.BinOp a .Mult b pos) (List.replicate i.toNat xs).flatten := fun σ H s Q q =>
  eWE (pe_op op_rep we we) (ha σ H s _ fun p vs H1 e1 sq r => hb σ H1 (s.ex e1) _ fun w H2 e2 rw' => by
    cases rw'.int
    exact ⟨p, i, vs, rfl, rfl, e2 _ _ sq, h1, h2, by rw [r.length]; exact h, fun t ht => q t _ _ ((e1.trans e2).free ht) ((e1.trans e2).trans (Ex.new ht)) upd_same (reps_new ht (reps_rep (Reps.mono (Le.ex e2) _ _ r) _))⟩)

/-! ### in -/
def D.flat : D → Bool
  | .non => true
  | .bl _ => true
  | .int _ => true
  | .str _ => true
  | _ => false
def D.fv : D → V
  | .bl b => .bl b
  | .int i => .int i
  | .str x => .str x
  | _ => .non
theorem rep_fv {K : PySem.W.Frag} {CF : Addr} {O : Addr → Prop} {H : Hp} : ∀ {d : D} {v : V}, d.flat = true → Rep K CF O H d v → v = d.fv ∧ flatV v = true
  | .non, _, _, h => by cases h.non; exact ⟨rfl, rfl⟩
  | .bl _, _, _, h => by cases h.bl; exact ⟨rfl, rfl⟩
  | .int _, _, _, h => by cases h.int; exact ⟨rfl, rfl⟩
  | .str _, _, _, h => by cases h.str; exact ⟨rfl, rfl⟩
  | .tup _, _, f, _ => by cases f
  | .lst _, _, f, _ => by cases f
  | .frm _ _, _, f, _ => by cases f
  | .scr _, _, f, _ => by cases f
theorem reps_fv {K : PySem.W.Frag} {CF : Addr} {O : Addr → Prop} {H : Hp} : ∀ {ds : List D} {vs : List V}, ds.all D.flat = true → Reps K CF O H ds vs → vs = ds.map D.fv ∧ vs.all flatV = true
  | [], _, _, h => by unfold Reps at h; subst h; exact ⟨rfl, rfl⟩
  | d :: ds, _, f, h => by
    unfold Reps at h
    obtain ⟨y, ys, rfl, r, t⟩ := h
    rw [List.all_cons, Bool.and_eq_true] at f
    obtain ⟨e1, e2⟩ := rep_fv f.1 r
    obtain ⟨e3, e4⟩ := reps_fv f.2 t
    exact ⟨by rw [e1, e3]; rfl, by rw [List.all_cons, e2, e4]; rfl⟩
/-- is x among ds -/
inductive InR : D → List D → Bool → Prop where
  | flat (x : D) (ds : List D) (hx : x.flat = true) (hd : ds.all D.flat = true) : InR x ds (ds.any fun y => L2.eqV y.fv x.fv)
  | deep (x : D) (ds : List D) (hx : x.ok = true) (hd : (D.tup ds).ok = true) : InR x ds (ds.any fun y => y.eqv x)
theorem inV_fv (x : D) (ds : List D) : inV x.fv (ds.map D.fv) = ds.any fun y => L2.eqV y.fv x.fv := by
  unfold inV
  rw [List.any_map]; rfl
theorem pys_eq : ∀ (ds : List D), D.pys ds = ds.map D.py
  | [] => by unfold D.pys; rfl
  | d :: ds => by unfold D.pys; rw [pys_eq ds]; rfl
theorem any_pys (x : D) (ds : List D) : ((D.pys ds).any fun z => PyData.eqv z x.py) = ds.any fun y => y.eqv x := by
  rw [pys_eq, List.any_map]; rfl
theorem shaped_lt {l : List PyData} : SeqAt.shaped (.list l) = SeqAt.shaped (.tuple l) := by
  simp only [SeqAt.shaped, PyData.canLay0, PyData.depth]
  try rfl
def rInT (K : PySem.W.Frag) (neg : Bool) : R2 := fun x y H Q => ∃ d ds, Dp K H x d ∧ Dp K H y (.tuple ds) ∧ SeqAt.shaped d = true ∧ SeqAt.shaped (.tuple ds) = true ∧ Q (.bl (if neg = true then !ds.any (fun z => PyData.eqv z d) else ds.any fun z => PyData.eqv z d)) H
theorem op_inT {X : Cx} (hu : X.A.units + 65 < cLine) : OpR X (compareOp .In) (rInT X.K false) := by
  intro pins s σ H x y v u Q I rx ry h
  obtain ⟨d, ds, hd, he, sd, se, q⟩ := h
  obtain ⟨as, r1⟩ := Dp.reads I d x v hd rx
  obtain ⟨bs, r2⟩ := Dp.reads I (.tuple ds) y u he ry
  refine SeqAt.in_tuple_reads r2 r1 (SeqAt.canLay_of_shaped se) (SeqAt.canLay_of_shaped sd) (PyProof.Rows.room_in_shaped sd hu) ⟨.bl _, H, I, rfl, q⟩
theorem op_notInT {X : Cx} (hu : X.A.units + 65 < cLine) : OpR X (compareOp .NotIn) (rInT X.K true) := by
  intro pins s σ H x y v u Q I rx ry h
  obtain ⟨d, ds, hd, he, sd, se, q⟩ := h
  obtain ⟨as, r1⟩ := Dp.reads I d x v hd rx
  obtain ⟨bs, r2⟩ := Dp.reads I (.tuple ds) y u he ry
  refine SeqAt.notIn_tuple_reads r2 r1 (SeqAt.canLay_of_shaped se) (SeqAt.canLay_of_shaped sd) (PyProof.Rows.room_in_shaped sd hu) ⟨.bl _, H, I, rfl, q⟩
/-- the operators in and not in -/
theorem inR_op (hu : G.X.A.units + 65 < cLine) {r : Bool} (h : InR x ds r) (hb : EvQ G S b k ds) (ha : Ev G S a x) (neg : Bool) {σ : L2.St} {H : Hp} (s : G.sat S σ H) {Q : V → Hp → Prop} (q : ∀ H', Ex H H' → Q (.bl (if neg = true then !r else r)) H') :
    ∃ R : R2, OpR G.X (compareOp (if neg = true then .NotIn else .In)) R ∧ (WE G.X a σ H fun u H1 => WE G.X b σ H1 fun w H2 => R u w H2 Q) := by
  have go : ∀ {R : R2}, (∀ v p vs H', Ex H H' → G.rep S σ H' x v → (if k = true then H' p = some (.lst vs) else SqT G.X.K H' p vs) → G.reps S σ H' ds vs → R v (.ref p) H' Q) → (WE G.X a σ H fun u H1 => WE G.X b σ H1 fun w H2 => R u w H2 Q) := fun f =>
    ha σ H s _ fun v H1 e1 rv => hb σ H1 (s.ex e1) _ fun p vs H2 e2 sq rr => f v p vs H2 (e1.trans e2) (Rep.mono (Le.ex e2) _ _ rv) sq rr
  cases h with
  | flat hx hd =>
    refine ⟨rIn G.X.K neg, ?_, go fun v p vs H' e rv sq rr => ?_⟩
    · cases neg with
      | true => exact op_notIn_seq
      | false => exact op_in_seq
    · obtain ⟨e1, e2⟩ := rep_fv hx rv
      obtain ⟨e3, e4⟩ := reps_fv hd rr
      subst e1 e3
      refine ⟨p, _, rfl, ?_, e2, e4, by rw [inV_fv]; exact q H' e⟩
      cases k with
      | true => exact .inl (SqL.of sq)
      | false => exact .inr sq
  | deep hx hd =>
    have pd : D.pures ds = true := by have := D.ok1 hd; unfold D.pure at this; exact this
    have sd : SeqAt.shaped (.tuple (D.pys ds)) = true := by have := D.ok2 hd; unfold D.py at this; exact this
    cases k with
    | true =>
      cases neg with
      | true => exact ⟨rNotInD G.X.K, op_notInD hu, go fun v p vs H' e rv sq rr => ⟨_, _, Rep.dp _ _ (D.ok1 hx) rv, .lst (SqL.of sq) (Reps.dp _ _ pd rr), D.ok2 hx, by rw [shaped_lt]; exact sd, by rw [any_pys]; exact q H' e⟩⟩
      | false => exact ⟨rInD G.X.K, op_inD hu, go fun v p vs H' e rv sq rr => ⟨_, _, Rep.dp _ _ (D.ok1 hx) rv, .lst (SqL.of sq) (Reps.dp _ _ pd rr), D.ok2 hx, by rw [shaped_lt]; exact sd, by rw [any_pys]; exact q H' e⟩⟩
    | false =>
      cases neg with
      | true => exact ⟨rInT G.X.K true, op_notInT hu, go fun v p vs H' e rv sq rr => ⟨_, _, Rep.dp _ _ (D.ok1 hx) rv, .tup sq (Reps.dp _ _ pd rr), D.ok2 hx, sd, by rw [any_pys]; exact q H' e⟩⟩
      | false => exact ⟨rInT G.X.K false, op_inT hu, go fun v p vs H' e rv sq rr => ⟨_, _, Rep.dp _ _ (D.ok1 hx) rv, .tup sq (Reps.dp _ _ pd rr), D.ok2 hx, sd, by rw [any_pys]; exact q H' e⟩⟩
theorem ev_in (hu : G.X.A.units + 65 < cLine) {r : Bool} (ha : Ev G S a x) (hb : EvQ G S b k ds) (h : InR x ds r) (hm : behindInMarks .In b = false := by with_unfolding_all rfl) : Ev G S (.Compare a [.In] [b] pos) (.bl r) := fun σ H s Q q => by
  obtain ⟨R, o, w⟩ := inR_op hu h hb ha false s (Q := Q) fun H' e => q _ H' e (rep_bl _)
  exact eWE (pe_cmpR o we we hm) w
theorem evT_in (hu : G.X.A.units + 65 < cLine) {r : Bool} (ha : Ev G S a x) (hb : EvQ G S b k ds) (h : InR x ds r) (hm : behindInMarks .In b = false := by with_unfolding_all rfl) : EvT G S (.Compare a [.In] [b] pos) r := fun σ H s Q q => by
  obtain ⟨R, o, w⟩ := inR_op hu h hb ha false s (Q := fun x H' => ∃ k, x = .bl k ∧ Q k H') fun H' e => ⟨_, rfl, q H' e⟩
  exact eWT (pt_cmpR o we we hm) w
theorem ev_notIn (hu : G.X.A.units + 65 < cLine) {r : Bool} (ha : Ev G S a x) (hb : EvQ G S b k ds) (h : InR x ds r) (hm : behindInMarks .NotIn b = false := by with_unfolding_all rfl) : Ev G S (.Compare a [.NotIn] [b] pos) (.bl (!r)) := fun σ H s Q q => by
  obtain ⟨R, o, w⟩ := inR_op hu h hb ha true s (Q := Q) fun H' e => q _ H' e (rep_bl _)
  exact eWE (pe_cmpR o we we hm) w
theorem evT_notIn (hu : G.X.A.units + 65 < cLine) {r : Bool} (ha : Ev G S a x) (hb : EvQ G S b k ds) (h : InR x ds r) (hm : behindInMarks .NotIn b = false := by with_unfolding_all rfl) : EvT G S (.Compare a [.NotIn] [b] pos) (!r) := fun σ H s Q q => by
  obtain ⟨R, o, w⟩ := inR_op hu h hb ha true s (Q := fun x H' => ∃ k, x = .bl k ∧ Q k H') fun H' e => ⟨_, rfl, q H' e⟩
  exact eWT (pt_cmpR o we we hm) w

/-! ### built-in functions -/
/-- x is that built-in -/
structure Bi (X : Cx) (x : Str) (u : Value) : Prop where
  g : Gl X x
  m : X.mg x = none
  v : bootBuiltins x = some u
  n : x ≠ "__name__"
  d : (x == ("__debug__" : Str)) = false
theorem ev_b1 {f : Str} {id : String} {p : Pos} {r : List V → Hp → VK → Prop} (B : Bi G.X f (.builtin id)) (hc : CallR G.X (.builtin id) r) (ha : Ev G S a x) (k : ∀ {O : Addr → Prop} {H : Hp} {u : V}, Rep G.X.K G.CF O H x u → ∀ Q : VK, (∀ v, Rep G.X.K G.CF O H y v → Q v H) → r [u] H Q)
    (he : starEach [a] G.X.env = (false, eval a G.X.env) :: starEach [] G.X.env := by rfl) (hpl : (backTo pos (starEach [] G.X.env)).any (·.1) = false := by rfl) : Ev G S (.Call (.Name f p) [a] [] pos) y := fun σ H s Q q =>
  eWE (pe_callB hc B.g B.m B.v (pa_cons we pa_nil he) B.n B.d he hpl) (ha σ H s _ fun u H1 e1 r1 => k r1 Q fun v rv => q v H1 e1 rv)
theorem ev_t1 {f : Str} {id : String} {p : Pos} {r : List V → Hp → VK → Prop} (B : Bi G.X f (.type id)) (hc : CallR G.X (.type id) r) (ha : Ev G S a x) (k : ∀ {O : Addr → Prop} {H : Hp} {u : V}, Rep G.X.K G.CF O H x u → ∀ Q : VK, (∀ v, Rep G.X.K G.CF O H y v → Q v H) → r [u] H Q)
    (he : starEach [a] G.X.env = (false, eval a G.X.env) :: starEach [] G.X.env := by rfl) (hpl : (backTo pos (starEach [] G.X.env)).any (·.1) = false := by rfl) : Ev G S (.Call (.Name f p) [a] [] pos) y := fun σ H s Q q =>
  eWE (pe_callTy hc B.g B.m B.v (pa_cons we pa_nil he) B.n B.d he hpl) (ha σ H s _ fun u H1 e1 r1 => k r1 Q fun v rv => q v H1 e1 rv)
theorem ev_lenQ {p : Pos} (B : Bi G.X "len" (.builtin "len")) (ha : EvQ G S a k ds)
    (he : starEach [a] G.X.env = (false, eval a G.X.env) :: starEach [] G.X.env := by rfl) (hpl : (backTo pos (starEach [] G.X.env)).any (·.1) = false := by rfl) : Ev G S (.Call (.Name "len" p) [a] [] pos) (.int (ds.length : Nat)) := fun σ H s Q q =>
  eWE (pe_callB call_len_seq B.g B.m B.v (pa_cons we pa_nil he) B.n B.d he hpl) (ha σ H s _ fun t vs H1 e1 sq r => ⟨t, vs, rfl, by
    cases k with
    | true => exact .inl (SqL.of sq)
    | false => exact .inr sq, by rw [r.length]; exact q _ H1 e1 (rep_int _)⟩)
theorem ev_lenS {p : Pos} {ns : List Int} (B : Bi G.X "len" (.builtin "len")) (ha : Ev G S a (.scr ns))
    (he : starEach [a] G.X.env = (false, eval a G.X.env) :: starEach [] G.X.env := by rfl) (hpl : (backTo pos (starEach [] G.X.env)).any (·.1) = false := by rfl) : Ev G S (.Call (.Name "len" p) [a] [] pos) (.int (ns.length : Nat)) :=
  ev_b1 B call_len_seq ha (fun ru Q q => by
    obtain ⟨t, rfl, sq⟩ := ru.scr
    exact ⟨t, _, rfl, .inl sq, q _ (by rw [List.length_map]; exact rep_int _)⟩) he hpl
theorem ev_lenX {p : Pos} {z : Str} (B : Bi G.X "len" (.builtin "len")) (ha : Ev G S a (.str z)) (hz : z.length ≤ sizeLine)
    (he : starEach [a] G.X.env = (false, eval a G.X.env) :: starEach [] G.X.env := by rfl) (hpl : (backTo pos (starEach [] G.X.env)).any (·.1) = false := by rfl) : Ev G S (.Call (.Name "len" p) [a] [] pos) (.int (z.length : Nat)) :=
  ev_b1 B call_len_str ha (fun ru Q q => by cases ru.str; exact ⟨z, rfl, hz, q _ (rep_int _)⟩) he hpl
theorem ev_intI {p : Pos} {i : Int} (B : Bi G.X "int" (.type "int")) (ha : Ev G S a (.int i))
    (he : starEach [a] G.X.env = (false, eval a G.X.env) :: starEach [] G.X.env := by rfl) (hpl : (backTo pos (starEach [] G.X.env)).any (·.1) = false := by rfl) : Ev G S (.Call (.Name "int" p) [a] [] pos) (.int i) :=
  ev_t1 B call_int1 ha (fun ru Q q => by cases ru.int; exact .inl ⟨i, rfl, q _ (rep_int _)⟩) he hpl
theorem ev_intB {p : Pos} {i : Bool} (B : Bi G.X "int" (.type "int")) (ha : Ev G S a (.bl i))
    (he : starEach [a] G.X.env = (false, eval a G.X.env) :: starEach [] G.X.env := by rfl) (hpl : (backTo pos (starEach [] G.X.env)).any (·.1) = false := by rfl) : Ev G S (.Call (.Name "int" p) [a] [] pos) (.int (if i then 1 else 0)) :=
  ev_t1 B call_int1 ha (fun ru Q q => by cases ru.bl; exact .inr ⟨i, rfl, q _ (rep_int _)⟩) he hpl
theorem ev_abs {p : Pos} {i : Int} (B : Bi G.X "abs" (.builtin "abs")) (ha : Ev G S a (.int i))
    (he : starEach [a] G.X.env = (false, eval a G.X.env) :: starEach [] G.X.env := by rfl) (hpl : (backTo pos (starEach [] G.X.env)).any (·.1) = false := by rfl) : Ev G S (.Call (.Name "abs" p) [a] [] pos) (.int (if i < 0 then -i else i)) :=
  ev_b1 B call_abs ha (fun ru Q q => by cases ru.int; exact ⟨i, rfl, q _ (rep_int _)⟩) he hpl
theorem ev_max2 {p : Pos} {i j : Int} (hc : G.X.calm = true) (B : Bi G.X "max" (.builtin "max")) (ha : Ev G S a (.int i)) (hb : Ev G S b (.int j))
    (he : starEach [a, b] G.X.env = (false, eval a G.X.env) :: starEach [b] G.X.env := by rfl) (he2 : starEach [b] G.X.env = (false, eval b G.X.env) :: starEach [] G.X.env := by rfl) (hpl : (backTo pos (starEach [b] G.X.env)).any (·.1) = false := by rfl) : Ev G S (.Call (.Name "max" p) [a, b] [] pos) (.int (if j > i then j else i)) := fun σ H s Q q =>
  eWE (pe_callB (call_max2 hc) B.g B.m B.v (pa_cons we (pa_cons we pa_nil he2) he) B.n B.d he hpl) (ha.bin hb s fun u w H' e ru rw' => by cases ru.int; cases rw'.int; exact ⟨i, j, rfl, q _ H' e (rep_int _)⟩)
theorem ev_tupL {p : Pos} (B : Bi G.X "tuple" (.type "tuple")) (ha : EvQ G S a true ds)
    (he : starEach [a] G.X.env = (false, eval a G.X.env) :: starEach [] G.X.env := by rfl) (hpl : (backTo pos (starEach [] G.X.env)).any (·.1) = false := by rfl) : Ev G S (.Call (.Name "tuple" p) [a] [] pos) (.tup ds) := fun σ H s Q q =>
  eWE (pe_callTy call_tuple_of B.g B.m B.v (pa_cons we pa_nil he) B.n B.d he hpl) (ha σ H s _ fun t vs H1 e1 sq r => ⟨t, vs, rfl, .inl ⟨SqL.of sq, fun l hl =>
    q _ _ (e1.trans (Ex.new hl)) (rep_tup (Seq.ofT upd_same ((s.ex e1).fresh hl)) (Reps.mono (Le.ex (Ex.new hl)) _ _ r))⟩⟩)
theorem ev_tupT {p : Pos} (B : Bi G.X "tuple" (.type "tuple")) (ha : Ev G S a (.tup ds))
    (he : starEach [a] G.X.env = (false, eval a G.X.env) :: starEach [] G.X.env := by rfl) (hpl : (backTo pos (starEach [] G.X.env)).any (·.1) = false := by rfl) : Ev G S (.Call (.Name "tuple" p) [a] [] pos) (.tup ds) :=
  ev_t1 B call_tuple_of ha (fun ru Q q => by
    obtain ⟨t, vs, rfl, sq, r⟩ := ru.tup
    exact ⟨t, vs, rfl, .inr ⟨sq.t, q _ (rep_tup sq r)⟩⟩) he hpl
theorem evL_listQ {p : Pos} (B : Bi G.X "list" (.type "list")) (ha : EvQ G S a k ds)
    (he : starEach [a] G.X.env = (false, eval a G.X.env) :: starEach [] G.X.env := by rfl) (hpl : (backTo pos (starEach [] G.X.env)).any (·.1) = false := by rfl) : EvL G S (.Call (.Name "list" p) [a] [] pos) ds := fun σ H s Q q =>
  eWE (pe_callTy call_list_of B.g B.m B.v (pa_cons we pa_nil he) B.n B.d he hpl) (ha σ H s _ fun t vs H1 e1 sq r => ⟨t, vs, rfl, by
    cases k with
    | true => exact .inl (SqL.of sq)
    | false => exact .inr sq, fun l hl => q l vs _ (e1.free hl) (e1.trans (Ex.new hl)) upd_same (reps_new hl r)⟩)

/-! ### isinstance -/
/-- what the written part says of the class of formulas -/
structure FCls (K : PySem.W.Frag) (C : Addr) : Prop where
  cl : Cls K C
  ha : PySem.W.findIn K (.ref C) "__class__" = some (some (.builtin "object.__class__"))
  hn : PySem.W.specialIn K (.builtin "object.__class__") "__get__" = some (some (.builtin "getset_descriptor.__get__"))
  htk : PySem.W.takesIn K (.builtin "object.__class__") = some true
  hm : PySem.W.mroIn K C (.type "object") = some true
def D.tyv (CF : Addr) : D → Value
  | .non => .type "NoneType"
  | .bl _ => .type "bool"
  | .int _ => .type "int"
  | .str _ => .type "str"
  | .tup _ => .type "tuple"
  | .lst _ => .type "list"
  | .frm _ _ => .ref CF
  | .scr _ => .type "list"
def D.notFrm : D → Bool
  | .frm _ _ => false
  | _ => true
theorem rep_ty {K : PySem.W.Frag} {CF : Addr} {O : Addr → Prop} {H : Hp} {v : V} : ∀ {d : D}, (d.notFrm = false → FCls K CF) → Rep K CF O H d v → TyX K H v (d.tyv CF)
  | .non, _, h => by cases h.non; exact .base .non
  | .bl _, _, h => by cases h.bl; exact .base (.bl _)
  | .int _, _, h => by cases h.int; exact .base (.int _)
  | .str _, _, h => by cases h.str; exact .base (.str _)
  | .tup _, _, h => by
    obtain ⟨a, xs, rfl, s, r⟩ := h.tup
    rcases s.t with (e | ⟨o, e⟩) | ⟨o, its, n, hk, hc, _⟩
    · exact .base (.tup e)
    · exact .fTuple e
    · exact .kTuple hk hc
  | .lst _, _, h => by obtain ⟨a, xs, rfl, s, r⟩ := h.lst; exact .base (.lst s.1)
  | .frm _ _, f, h => by
    obtain ⟨a, dx, ca, xs, rfl, e, _⟩ := h.frm
    have F := f rfl
    exact .base (.ins e F.cl F.ha F.hn F.htk F.hm)
  | .scr ns, _, h => by
    obtain ⟨a, rfl, s⟩ := h.scr
    rcases s with (e | ⟨o, e⟩) | ⟨o, its, n, hk, hc, _⟩
    · exact .base (.lst e)
    · exact .base (.frz e)
    · exact .kList hk hc
theorem ev_isi {p : Pos} {cv : V} {u : Value} {r : Bool} (B : Bi G.X "isinstance" (.builtin "isinstance")) (ha : Ev G S a x) (hc : PE G.X c (tC cv)) (hcv : ClsV cv u) (f : x.notFrm = false → FCls G.X.K G.CF) (hr : PySem.W.kitOne G.X.K (x.tyv G.CF) u = some r)
    (he : starEach [a, c] G.X.env = (false, eval a G.X.env) :: starEach [c] G.X.env := by rfl) (he2 : starEach [c] G.X.env = (false, eval c G.X.env) :: starEach [] G.X.env := by rfl) (hpl : (backTo pos (starEach [c] G.X.env)).any (·.1) = false := by rfl) :
    Ev G S (.Call (.Name "isinstance" p) [a, c] [] pos) (.bl r) := fun σ H s Q q =>
  eWE (pe_callB call_isi B.g B.m B.v (pa_cons we (pa_cons hc pa_nil he2) he) B.n B.d he hpl) (ha σ H s _ fun v H1 e1 rv => ⟨v, cv, _, u, r, rfl, hcv, rep_ty f rv, hr, q _ H1 e1 (rep_bl _)⟩)
theorem pe_ty {x : Str} {n : String} {p : Pos} (B : Bi G.X x (.type n)) : PE G.X (.Name x p) (tC (.ty n)) := pe_bltn B.g B.m B.v rfl B.n B.d
/-- isinstance(a, (list, tuple)) -/
theorem ev_isLT {p p1 p2 p3 : Pos} {kk} {r : Bool} (B : Bi G.X "isinstance" (.builtin "isinstance")) (BL : Bi G.X "list" (.type "list")) (BT : Bi G.X "tuple" (.type "tuple")) (ha : Ev G S a x) (f : x.notFrm = false → FCls G.X.K G.CF)
    (hr : PySem.W.kitAny G.X.K (x.tyv G.CF) [.type "list", .type "tuple"] = some r)
    (he : starEach [a, .Tuple [.Name "list" p1, .Name "tuple" p2] kk p3] G.X.env = (false, eval a G.X.env) :: starEach [.Tuple [.Name "list" p1, .Name "tuple" p2] kk p3] G.X.env := by rfl) : Ev G S (.Call (.Name "isinstance" p) [a, .Tuple [.Name "list" p1, .Name "tuple" p2] kk p3] [] pos) (.bl r) := fun σ H s Q q =>
  eWE (pe_callB call_isiT B.g B.m B.v (pa_cons we (pa_cons (pe_tup (pa_cons (pe_ty BL) (pa_cons (pe_ty BT) pa_nil))) pa_nil) he) B.n B.d he) (ha σ H s _ fun v H1 e1 rv => ⟨by decide, fun t ht =>
    ⟨v, t, _, _, _, r, rfl, upd_same, .cons (.ty _) (.cons (.ty _) .nil), rep_ty f (Rep.mono (Le.ex (Ex.new ht)) _ _ rv), hr, q _ _ (e1.trans (Ex.new ht)) (rep_bl _)⟩⟩)
end
end CL

set_option Elab.async false
set_option linter.all false
set_option maxRecDepth 100000
set_option maxHeartbeats 4000000
namespace CL
open PySem L2

/-! ### what statements come to -/
inductive Ro where
  | ret (d : D) | new (ds : List D) | exc (C : Addr) (fs : List (Str × D))
structure Po where
  nx : List Sd → Prop
  rt : Ro → Prop
  bk : List Sd → Prop := fun _ => False
  ct : List Sd → Prop := fun _ => False
def RetOk (G : Gx) (v : V) (H : Hp) : Ro → Prop
  | .ret d => Rep G.X.K G.CF G.Oc H d v
  | .new ds => ∃ p xs, v = .ref p ∧ G.H0 p = none ∧ H p = some (.lst xs) ∧ Reps G.X.K G.CF (fun a => G.Oc a ∨ a = p) H ds xs
  | .exc _ _ => False
def Gx.ends (G : Gx) (P : Po) : Ends where
  nx := fun σ H => ∃ S, G.sat S σ H ∧ P.nx S
  rt := fun v H => Ex G.H0 H ∧ ∃ r, RetOk G v H r ∧ P.rt r
  bk := fun σ H => ∃ S, G.sat S σ H ∧ P.bk S
  ct := fun σ H => ∃ S, G.sat S σ H ∧ P.ct S
def Run (G : Gx) (S : List Sd) (sts : List Stmt) (P : Po) : Prop := ∀ σ H, G.sat S σ H → WB G.X sts (G.ends P) σ H
def RunS (G : Gx) (S : List Sd) (st : Stmt) (P : Po) : Prop := ∀ σ H, G.sat S σ H → WS G.X st (G.ends P) σ H
def FR (K : PySem.W.Frag) (CF : Addr) (O : Addr → Prop) (H : Hp) (fs : List (Str × D)) (fv : List (Str × V)) : Prop := fv.map (·.1) = fs.map (·.1) ∧ Reps K CF O H (fs.map (·.2)) (fv.map (·.2))
theorem FR.mono {K : PySem.W.Frag} {CF : Addr} {O O' : Addr → Prop} {H H' : Hp} {fs : List (Str × D)} {fv : List (Str × V)} (l : Le O H O' H') (h : FR K CF O H fs fv) : FR K CF O' H' fs fv := ⟨h.1, Reps.mono l _ _ h.2⟩
/-- what may be raised is what is wished for -/
def Gx.wishes (G : Gx) : Prop := ∀ S σ H C fs dd fv H', G.sat S σ H → G.ex S C fs → Ex H H' → H dd = none → H' dd = some (.xd fv) → FR G.X.K G.CF (Ow G.Oc S σ) H' fs fv → G.W (.ref C) (some dd) σ H'
/-- what is fixed of the context of a def's body -/
structure Cb (G : Gx) (N : List Str) (sc : Scope) (k : Nat) : Prop where
  hN : G.X.N = N
  nd : N.Nodup
  hsc : G.X.env.scope = sc
  calm : G.X.calm = true
  room : Room k G.X.A
structure Ctx (G : Gx) (N : List Str) (sc : Scope) (k : Nat) : Prop extends Cb G N sc k where
  fn : G.X.fn = fun _ => true
  pas : PassesOwn (model G.X.prog G.X.w) G.X.A G.X.env G.X.xe
  tk : Takes G.X G.W
  wish : G.wishes
  hs : G.X.stack = G.X.env :: G.X.outer
  hf : G.X.env.frame = some G.X.env.locals
theorem Cb.hu {G : Gx} {N : List Str} {sc : Scope} {k : Nat} (c : Cb G N sc k) : G.X.A.units + 65 < cLine := by have := c.room.un; omega
theorem Cb.hu4 {G : Gx} {N : List Str} {sc : Scope} {k : Nat} (c : Cb G N sc k) : G.X.A.units + 64 < cLine := by have := c.room.un; omega
/-- a name that is stored -/
structure Ns (X : Cx) (i : Nat) (x : Str) : Prop where
  n : X.N[i]? = some x
  l : Loc X.env.scope x
  f : X.fn x = true ∨ X.env.scope.names.lookup x = some .local
/-! ### a def's names, all at once -/
def visB (N : List Str) (sc : Scope) : Bool := N.all fun x => (decide (sc.names.lookup x = some .local) || decide (sc.names.lookup x = some .cell) || decide (sc.names.lookup x = some .free)) && !(x == ("__debug__" : Str)) && !(x == ("__classdict__" : Str))
def locB (N : List Str) (sc : Scope) : Bool := N.all fun x => decide (sc.names.lookup x = some .local) || decide (sc.names.lookup x = some .cell)
def glB (N : List Str) (sc : Scope) : Bool := N.all fun x => decide (sc.names.lookup x = some .globalImplicit) && !(x == ("__debug__" : Str)) && !(x == ("__name__" : Str))
section
variable {G : Gx} {N N' : List Str} {sc : Scope} {k : Nat}
theorem Cb.nm (c : Cb G N sc k) {i : Nat} {x : Str} (h : N[i]? = some x) (v : visB N sc = true) : Nm G.X i x := by
  have z := List.all_eq_true.mp v x (List.mem_of_getElem? h)
  simp only [Bool.and_eq_true, Bool.or_eq_true, decide_eq_true_eq, Bool.not_eq_true'] at z
  obtain ⟨⟨z1, z2⟩, z3⟩ := z
  refine ⟨by rw [c.hN]; exact h, ?_, z2, z3⟩
  rw [c.hsc]
  rcases z1 with (z1 | z1) | z1
  · exact .inl z1
  · exact .inr (.inl z1)
  · exact .inr (.inr z1)
theorem Cb.nmP (c : Cb G N sc k) {i : Nat} {x : Str} (h : N[i]? = some x) (hm : x ∈ N') (v : visB N' sc = true) : Nm G.X i x := by
  have z := List.all_eq_true.mp v x hm
  simp only [Bool.and_eq_true, Bool.or_eq_true, decide_eq_true_eq, Bool.not_eq_true'] at z
  obtain ⟨⟨z1, z2⟩, z3⟩ := z
  refine ⟨by rw [c.hN]; exact h, ?_, z2, z3⟩
  rw [c.hsc]
  rcases z1 with (z1 | z1) | z1
  · exact .inl z1
  · exact .inr (.inl z1)
  · exact .inr (.inr z1)
/-- a block's own name -/
theorem Cb.nsl (c : Cb G N sc k) {i : Nat} {x : Str} (h : N[i]? = some x) (v : decide (sc.names.lookup x = some .local) = true) : Ns G.X i x := by
  have z := of_decide_eq_true v
  refine ⟨by rw [c.hN]; exact h, ?_, ?_⟩
  · rw [c.hsc]; exact .inl z
  · rw [c.hsc]; exact .inr z
theorem Ctx.ns (c : Ctx G N sc k) {i : Nat} {x : Str} (h : N[i]? = some x) (v : locB N' sc = true) (hm : x ∈ N' := by simp) : Ns G.X i x := by
  have z := List.all_eq_true.mp v x hm
  simp only [Bool.or_eq_true, decide_eq_true_eq] at z
  refine ⟨by rw [c.hN]; exact h, ?_, .inl (by rw [c.fn])⟩
  rw [c.hsc]
  exact z
theorem Cb.gl (c : Cb G N sc k) {x : Str} (v : glB N' sc = true) (hm : x ∈ N' := by simp) : Gl G.X x := by
  have z := List.all_eq_true.mp v x hm
  simp only [Bool.and_eq_true, decide_eq_true_eq, Bool.not_eq_true'] at z
  show G.X.env.scope.names.lookup x = _
  rw [c.hsc]
  exact z.1.1
theorem Cb.bi (c : Cb G N sc k) {x : Str} {u : Value} (v : glB N' sc = true) (e : G.X.mg x = none) (hm : x ∈ N' := by simp) (hv : bootBuiltins x = some u := by decide +kernel) : Bi G.X x u := by
  have z := List.all_eq_true.mp v x hm
  simp only [Bool.and_eq_true, decide_eq_true_eq, Bool.not_eq_true'] at z
  exact ⟨c.gl v hm, e, hv, by simpa using z.2, z.1.2⟩
theorem Cb.ndX (c : Cb G N sc k) : G.X.N.Nodup := by rw [c.hN]; exact c.nd
end
def Po.le (P P' : Po) : Prop := (∀ S, P.nx S → P'.nx S) ∧ (∀ r, P.rt r → P'.rt r) ∧ (∀ S, P.bk S → P'.bk S) ∧ (∀ S, P.ct S → P'.ct S)
section
variable {G : Gx} {S : List Sd} {a b c e : Expr} {es : List Expr} {x y z d : D} {xs ys ds : List D} {pos : Pos} {k : Bool} {P P' : Po} {st : Stmt} {sts rest : List Stmt}
theorem sp_mono {X : Cx} {pins : List (Addr × Obj)} {D1 D2 : Ends} {f : Flow} {s' : Shared} (h1 : ∀ σ H, D1.nx σ H → D2.nx σ H) (h2 : ∀ v H, D1.rt v H → D2.rt v H) (h3 : ∀ σ H, D1.bk σ H → D2.bk σ H) (h4 : ∀ σ H, D1.ct σ H → D2.ct σ H) (h : SP X pins D1 f s') : SP X pins D2 f s' := by
  cases f with
  | next => obtain ⟨σ', H', I, q⟩ := h; exact ⟨σ', H', I, h1 _ _ q⟩
  | brk => obtain ⟨σ', H', I, q⟩ := h; exact ⟨σ', H', I, h3 _ _ q⟩
  | cont => obtain ⟨σ', H', I, q⟩ := h; exact ⟨σ', H', I, h4 _ _ q⟩
  | ret u => obtain ⟨v, σ', H', I, r, q⟩ := h; exact ⟨v, σ', H', I, r, h2 _ _ q⟩
theorem WS.mono {X : Cx} {D1 D2 : Ends} {σ : L2.St} {H : Hp} (h1 : ∀ σ H, D1.nx σ H → D2.nx σ H) (h2 : ∀ v H, D1.rt v H → D2.rt v H) (h3 : ∀ σ H, D1.bk σ H → D2.bk σ H) (h4 : ∀ σ H, D1.ct σ H → D2.ct σ H) (h : WS X st D1 σ H) : WS X st D2 σ H := by unfold WS at h ⊢; exact fun pins s I => thn (h pins s I) fun _ _ => sp_mono h1 h2 h3 h4
theorem WB.mono {X : Cx} {D1 D2 : Ends} {σ : L2.St} {H : Hp} (h1 : ∀ σ H, D1.nx σ H → D2.nx σ H) (h2 : ∀ v H, D1.rt v H → D2.rt v H) (h3 : ∀ σ H, D1.bk σ H → D2.bk σ H) (h4 : ∀ σ H, D1.ct σ H → D2.ct σ H) (h : WB X sts D1 σ H) : WB X sts D2 σ H := by unfold WB at h ⊢; exact fun pins s I => thn (h pins s I) fun _ _ => sp_mono h1 h2 h3 h4
theorem ends_le (l : P.le P') : (∀ σ H, (G.ends P).nx σ H → (G.ends P').nx σ H) ∧ (∀ v H, (G.ends P).rt v H → (G.ends P').rt v H) ∧ (∀ σ H, (G.ends P).bk σ H → (G.ends P').bk σ H) ∧ (∀ σ H, (G.ends P).ct σ H → (G.ends P').ct σ H) :=
  ⟨fun _ _ ⟨S, s, q⟩ => ⟨S, s, l.1 S q⟩, fun _ _ ⟨e, r, s, q⟩ => ⟨e, r, s, l.2.1 r q⟩, fun _ _ ⟨S, s, q⟩ => ⟨S, s, l.2.2.1 S q⟩, fun _ _ ⟨S, s, q⟩ => ⟨S, s, l.2.2.2 S q⟩⟩
theorem Run.mono (h : Run G S sts P) (l : P.le P') : Run G S sts P' := fun σ H s =>
  let ⟨h1, h2, h3, h4⟩ := ends_le (G := G) l
  (h σ H s).mono h1 h2 h3 h4
theorem RunS.mono (h : RunS G S st P) (l : P.le P') : RunS G S st P' := fun σ H s =>
  let ⟨h1, h2, h3, h4⟩ := ends_le (G := G) l
  (h σ H s).mono h1 h2 h3 h4
theorem run_nil (h : P.nx S) : Run G S [] P := fun σ H s => eWB pss_nil ⟨S, s, h⟩
theorem run_cons (h : RunS G S st { P with nx := fun S' => Run G S' rest P }) : Run G S (st :: rest) P := fun σ H s =>
  eWB (pss_cons ws wb) (WS.mono (D1 := G.ends { P with nx := fun S' => Run G S' rest P }) (D2 := { G.ends P with nx := WB G.X rest (G.ends P) }) (fun σ' H' q => by obtain ⟨S', s', q⟩ := q; exact q σ' H' s') (fun _ _ q => q) (fun _ _ q => q) (fun _ _ q => q) (h σ H s))
/-- what holds behind the statement, in any of its ways -/
theorem run_cut (J : List Sd → Prop) (h : RunS G S st { P with nx := J }) (k : ∀ S', J S' → Run G S' rest P) : Run G S (st :: rest) P := run_cons (h.mono ⟨k, fun _ z => z, fun _ z => z, fun _ z => z⟩)
/-! ### small statements -/
theorem runS_set {i : Nat} {v : Str} {p' : Pos} (n : Ns G.X i v) (nd : G.X.N.Nodup) (h : Ev G S e d) (q : P.nx (S.set i (.dat d))) (hs : swapsWith e (some (.Name v p')) pos.line G.X.env = pure false := by rfl) : RunS G S (.Assign [.Name v p'] e pos) P := fun σ H s =>
  eWS (ps_set nd n.n n.l we hs n.f) (h σ H s _ fun w H' ex r => ⟨_, (s.ex ex).setDat r, q⟩)
theorem runS_setL {i : Nat} {v : Str} {p' : Pos} (n : Ns G.X i v) (nd : G.X.N.Nodup) (h : EvL G S e ds) (q : P.nx (S.set i (.own ds))) (hs : swapsWith e (some (.Name v p')) pos.line G.X.env = pure false := by rfl) : RunS G S (.Assign [.Name v p'] e pos) P := fun σ H s =>
  eWS (ps_set nd n.n n.l we hs n.f) (h σ H s _ fun p xs H' hp ex hl r => ⟨_, s.setMine (s := .own ds) ex hp (by rw [hl]; intro z; cases z) rfl ⟨p, xs, rfl, hl, r⟩, q⟩)
theorem sub_oc {σ : L2.St} {K : PySem.W.Frag} {CF : Addr} {H : Hp} {v : V} (r : Rep K CF (Ow G.Oc S σ) H d v) : Rep K CF G.Oc H d v := Rep.mono (Le.sub fun _ => .inl) _ _ r
theorem runS_ret (h : Ev G S e d) (q : P.rt (.ret d)) : RunS G S (.Return (some e) pos) P := fun σ H s =>
  eWS (ps_ret we) (h σ H s _ fun w H' ex r => ⟨s.base.trans ex, .ret d, sub_oc r, q⟩)
theorem runS_retL (h : EvL G S e ds) (q : P.rt (.new ds)) : RunS G S (.Return (some e) pos) P := fun σ H s =>
  eWS (ps_ret we) (h σ H s _ fun p xs H' hp ex hl r => ⟨s.base.trans ex, .new ds, ⟨p, xs, rfl, s.base.free hp, hl, Reps.mono (Le.sub fun a z => by
    rcases z with z | z
    · exact .inl (.inl z)
    · exact .inr z) _ _ r⟩, q⟩)
/-- a list of one's own is handed back -/
theorem runS_retO {i : Nat} {v : Str} {p' : Pos} (n : Nm G.X i v) (hS : S[i]? = some (.own ds)) (q : P.rt (.new ds)) : RunS G S (.Return (some (.Name v p')) pos) P := fun σ H s => by
  obtain ⟨w, e, a, xs, ew, ha, r⟩ := s.slot i _ hS
  subst ew
  refine eWS (ps_ret we) (eWE (pe_var n.n n.v n.d n.c) ⟨_, e, s.base, .new ds, ⟨a, xs, rfl, (s.own i a ⟨⟨_, hS, rfl⟩, e⟩).1, ha, Reps.mono (Le.sub fun b z => ?_) _ _ r⟩, q⟩)
  rcases z with z | z
  · exact .inl z
  · subst z; exact .inr ⟨i, ⟨_, hS, rfl⟩, e⟩
theorem runS_retN (q : P.rt (.ret .non)) : RunS G S (.Return none pos) P := fun σ H s => eWS ps_retN ⟨s.base, .ret .non, rep_non (K := G.X.K) (CF := G.CF) (O := G.Oc) (H := H), q⟩
theorem runS_if {A B : List Stmt} {r : Bool} (h : EvT G S c r) (h1 : r = true → Run G S A P) (h2 : r = false → Run G S B P) : RunS G S (.If c A B pos) P := fun σ H s =>
  eWS (ps_if wt wb wb) (h σ H s _ fun H' ex => by
    cases r with
    | true => rw [if_pos rfl]; exact h1 rfl σ H' (s.ex ex)
    | false => rw [if_neg Bool.false_ne_true]; exact h2 rfl σ H' (s.ex ex))
theorem runS_pass (h : P.nx S) : RunS G S (.Pass pos) P := fun σ H s => eWS ps_pass ⟨S, s, h⟩
theorem runS_break (h : P.bk S) : RunS G S (.Break pos) P := fun σ H s => eWS ps_break ⟨S, s, h⟩
theorem runS_continue (h : P.ct S) : RunS G S (.Continue pos) P := fun σ H s => eWS ps_continue ⟨S, s, h⟩
theorem runS_expr (h : Ev G S e d) (q : P.nx S) (hs : swapsWith e none pos.line G.X.env = pure false := by rfl) : RunS G S (.Expr e pos) P := fun σ H s =>
  eWS (ps_expr we hs) (h σ H s _ fun w H' ex r => ⟨_, s.ex ex, q⟩)
/-- v.append(e), v a list of one's own -/
theorem runS_append {i : Nat} {v : Str} {p' apos cpos : Pos} (n : Nm G.X i v) (hS : S[i]? = some (.own ds)) (h : Ev G S e d) (hl : ds.length < sizeLine) (q : P.nx (S.set i (.own (ds ++ [d]))))
    (hs : swapsWith (.Call (.Attribute (.Name v p') "append" apos) [e] [] cpos) none pos.line G.X.env = pure false := by rfl)
    (hbase : attributeBase (.Name v p') "append" G.X.env (eval (.Name v p') G.X.env) = eval (.Name v p') G.X.env := by rfl)
    (hfew : ((backTo cpos (starEach (e :: []) G.X.env)).all (fun x => !x.1) && (backToKw cpos (keywordEach [] G.X.env)).all (fun x => x.1.isSome)
      && decide ((e :: []).length + ([] : List Keyword).length + (if ([] : List Keyword).isEmpty then 0 else 1) < 30)) = true := by rfl)
    (hline : (apos.endLine == cpos.line) = true := by rfl) (he : starEach (e :: []) G.X.env = (false, eval e G.X.env) :: starEach [] G.X.env := by rfl) (hplain : (backTo cpos (starEach [] G.X.env)).any (·.1) = false := by rfl) :
    RunS G S (.Expr (.Call (.Attribute (.Name v p') "append" apos) [e] [] cpos) pos) P := fun σ H s => by
  obtain ⟨w, e0, a, vs, ew, ha, r⟩ := s.slot i _ hS
  subst ew
  refine eWS (ps_expr (pe_bm PySem.F.plainAttrs_list PySem.F.slot_list_append PySem.F.type_list_append mt_append (pe_var n.n n.v n.d n.c) (pa_cons we pa_nil he) hbase hfew hline he hplain) hs) ?_
  refine ⟨_, e0, .inl ⟨rfl, _, SqL.of ha⟩, h σ H s _ fun u H1 e1 r1 => ?_⟩
  refine ⟨a, vs, u, rfl, rfl, e1 _ _ ha, by rw [r.length]; exact hl, ?_⟩
  have s1 := s.ex e1
  have ow : ¬ (Ow G.Oc S σ a = False) := by
    intro z
    exact z ▸ (show Ow G.Oc S σ a from .inr ⟨i, ⟨_, hS, rfl⟩, e0⟩)
  have le : Le (Ow G.Oc S σ) H1 (Ow G.Oc S σ) (upd H1 a (.lst (vs ++ [u]))) := fun b o eb nb => by
    have ne : b ≠ a := fun z => nb (by rw [z]; exact .inr ⟨i, ⟨_, hS, rfl⟩, e0⟩)
    exact ⟨by rw [upd_ne ne]; exact eb, nb⟩
  exact ⟨_, s1.change (s' := .own (ds ++ [d])) hS e0 rfl rfl ⟨a, _, rfl, upd_same, (Reps.mono (Le.trans (Le.ex e1) le) _ _ r).append (Reps.cons (Rep.mono le _ _ r1) Reps.nil)⟩, q⟩
/-- the list of one's own becomes data -/
theorem run_freeze {i : Nat} (hS : S[i]? = some (.own ds)) (h : Run G (S.set i (.dat (.lst ds))) sts P) : Run G S sts P := fun σ H s => h σ H (s.freeze hS)
theorem runS_freeze {i : Nat} (hS : S[i]? = some (.own ds)) (h : RunS G (S.set i (.dat (.lst ds))) st P) : RunS G S st P := fun σ H s => h σ H (s.freeze hS)

/-! ### calls -/
structure Spec where
  n : Nat
  pre : List D → Prop
  post : List D → Ro → Prop
def spOf (K : PySem.W.Frag) (CF : Addr) (Z : Spec) : Sp := fun vs H Q E => ∃ (O : Addr → Prop) (ds : List D), ds.length = Z.n ∧ (∀ a, O a → H a ≠ none) ∧ Reps K CF O H ds vs ∧ Z.pre ds ∧
  (∀ d, Z.post ds (.ret d) → ∀ v H', Ex H H' → Rep K CF O H' d v → Q v H') ∧
  (∀ xs, Z.post ds (.new xs) → ∀ p ys H', H p = none → Ex H H' → H' p = some (.lst ys) → Reps K CF (fun a => O a ∨ a = p) H' xs ys → Q (.ref p) H') ∧
  (∀ C fs, Z.post ds (.exc C fs) → ∀ dd fv H', Ex H H' → H dd = none → H' dd = some (.xd fv) → FR K CF O H' fs fv → E (.ref C) (some dd) H')
theorem spOf_len {K : PySem.W.Frag} {CF : Addr} {Z : Spec} {vs : List V} {H : Hp} {Q : VK} {E : XK} (h : spOf K CF Z vs H Q E) : vs.length = Z.n := by
  obtain ⟨O, ds, hl, _, r, _⟩ := h
  rw [r.length, hl]
/-- the def f keeps Z, and may be called from X -/
structure Cal (X : Cx) (CF : Addr) (k : Nat) (f : Str) (Z : Spec) : Prop where
  ex : ∃ (fa : Addr) (fd : FuncData) (ps : List Str), FnOk X.prog X.w X.K X.mg X.base (L2.CX X.prog X.w) k fa fd ps (spOf X.K CF Z) ∧ X.mg f = some (.ref fa) ∧ PySem.W.keepIn X.K (.ref fa) = true ∧ Binds X.K fd ps []
/-- how a call ends -/
def EvC (G : Gx) (S : List Sd) (e : Expr) (R : Ro → Prop) : Prop := ∀ σ H, G.sat S σ H → ∀ Q : VK, (∀ d v H', R (.ret d) → Ex H H' → G.rep S σ H' d v → Q v H') →
  (∀ ds p xs H', R (.new ds) → H p = none → Ex H H' → H' p = some (.lst xs) → Reps G.X.K G.CF (fun a => Ow G.Oc S σ a ∨ a = p) H' ds xs → Q (.ref p) H') →
  (∀ C fs dd fv H', R (.exc C fs) → Ex H H' → H dd = none → H' dd = some (.xd fv) → FR G.X.K G.CF (Ow G.Oc S σ) H' fs fv → G.W (.ref C) (some dd) σ H') → WE G.X e σ H Q
theorem evC_call {f : Str} {p : Pos} {Z : Spec} {n : Nat} (F : Cal G.X G.CF n f Z) (hr : Room n G.X.A) (hg : Gl G.X f) (hdb : (f == ("__debug__" : Str)) = false) (tk : Takes G.X G.W) (ha : EvA G S (e :: es) ds) (hn : ds.length = Z.n) (pre : Z.pre ds)
    (he : starEach (e :: es) G.X.env = (false, eval e G.X.env) :: starEach es G.X.env := by rfl) (hpl : (backTo pos (starEach es G.X.env)).any (·.1) = false := by rfl) :
    EvC G S (.Call (.Name f p) (e :: es) [] pos) (Z.post ds) := fun σ H s Q q1 q2 q3 => by
  obtain ⟨fa, fd, ps, F, hm, hk, hb⟩ := F.ex
  refine eWE (pe_callS (E := fun σ cls d H => G.W cls d σ H) F hr hg hm hk hb (fun σ => passAt tk σ) wa hdb he hpl) (ha σ H s _ fun vs H1 e1 r1 => ?_)
  have s1 := s.ex e1
  refine ⟨Ow G.Oc S σ, ds, hn, fun a z => s1.known z, r1, pre, fun d z v H' e2 r => q1 d v H' z (e1.trans e2) r, fun xs z p ys H' hp e2 hl r => q2 xs p ys H' z (e1.free hp) (e1.trans e2) hl r, fun C fs z dd fv H' e2 h0 h1 r => q3 C fs dd fv H' z (e1.trans e2) (e1.free h0) h1 r⟩
/-- a call that ends with d -/
theorem EvC.ev {R : Ro → Prop} (h : EvC G S e R) (hR : ∀ r, R r → r = .ret d) : Ev G S e d := fun σ H s Q q =>
  h σ H s Q (fun d' v H' z ex r => by cases hR _ z; exact q v H' ex r) (fun _ _ _ _ z => by cases hR _ z) (fun _ _ _ _ _ z => by cases hR _ z)
theorem EvC.evL {R : Ro → Prop} (h : EvC G S e R) (hR : ∀ r, R r → r = .new ds) : EvL G S e ds := fun σ H s Q q =>
  h σ H s Q (fun d' v H' z => by cases hR _ z) (fun ds' p xs H' z hp ex hl r => by cases hR _ z; exact q p xs H' hp ex hl r) (fun _ _ _ _ _ z => by cases hR _ z)
/-- a statement with a call whose end is told by a relation -/
theorem runS_setC {R : Ro → Prop} {i : Nat} {v : Str} {p' : Pos} (n : Ns G.X i v) (nd : G.X.N.Nodup) (h : EvC G S e R) (q1 : ∀ d, R (.ret d) → P.nx (S.set i (.dat d))) (q2 : ∀ xs, R (.new xs) → P.nx (S.set i (.own xs)))
    (q3 : ∀ C fs, R (.exc C fs) → G.ex S C fs) (hW : G.wishes)
    (hs : swapsWith e (some (.Name v p')) pos.line G.X.env = pure false := by rfl) : RunS G S (.Assign [.Name v p'] e pos) P := fun σ H s =>
  eWS (ps_set nd n.n n.l we hs n.f) (h σ H s _ (fun d w H' z ex r => ⟨_, (s.ex ex).setDat r, q1 d z⟩) (fun xs p ys H' z hp ex hl r => ⟨_, s.setMine (s := .own xs) ex hp (by rw [hl]; intro z; cases z) rfl ⟨p, ys, rfl, hl, r⟩, q2 xs z⟩)
    fun C fs dd fv H' z ex h0 h1 r => hW S σ H C fs dd fv H' s (q3 C fs z) ex h0 h1 r)
end
/-- a def's body gives its promise -/
theorem fn_ok {P : Program} {w : World} {K : PySem.W.Frag} {mg : Str → Option Value} {base : Heap} {x qual : Str} {st : Stmt} {f : Addr} {fd : FuncData} {N ps : List Str} {k : Nat} {CF : Addr} {Z : Spec} (F : Fun K x qual st f fd) (Sc : FnScope N ps (defScope st)) (hn : Z.n = ps.length)
    (body : ∀ (G : Gx) (ds : List D), G.X.prog = P → G.X.w = w → G.X.K = K → G.X.mg = mg → G.X.base = base → G.CF = CF → Ctx G N (defScope st) k → ds.length = Z.n → Z.pre ds → (∀ S C fs, Z.post ds (.exc C fs) → G.ex S C fs) →
      Run G (ds.map Sd.dat ++ List.replicate (N.length - Z.n) Sd.non) (defBody st) { nx := fun _ => Z.post ds (.ret .non), rt := Z.post ds }) :
    FnOk P w K mg base (L2.CX P w) (k + 1) f fd ps (spOf K CF Z) := by
  refine F.okX Sc (fun vs H Q E h => by rw [spOf_len h, hn]) (fun cdv A outer s H vs Q E hr h => ?_)
  obtain ⟨O, ds, hl, hO, r, pre, q1, q2, q3⟩ := h
  refine ⟨_, wb, ?_⟩
  have hpl : ps.length ≤ N.length := by have := congrArg List.length Sc.pre; rw [List.length_take] at this; omega
  have own0 : ∀ i a, ¬ OwnAt (ds.map Sd.dat ++ List.replicate (N.length - Z.n) Sd.non) (L2.start N vs) i a := fun i a ⟨⟨t, ht, m⟩, _⟩ => by
    have hm := List.mem_of_getElem? ht
    rcases List.mem_append.mp hm with hm | hm
    · obtain ⟨d, _, rfl⟩ := List.mem_map.mp hm
      cases m
    · have := (List.mem_replicate.mp hm).2
      subst this
      cases m
  have rl := r.length
  have sat : Sat K CF O H [] (ds.map Sd.dat ++ List.replicate (N.length - Z.n) Sd.non) (L2.start N vs) H := by
    refine ⟨?_, Ex.rfl, hO, fun i a z => absurd z (own0 i a), fun i j a z => absurd z (own0 i a), fun i t ht => ?_, fun p hp => absurd hp (by simp), fun p hp => absurd hp (by simp)⟩
    · unfold L2.start
      simp only [List.length_append, List.length_map, List.length_replicate]
      omega
    · have le : Le O H (Ow O (ds.map Sd.dat ++ List.replicate (N.length - Z.n) Sd.non) (L2.start N vs)) H := Le.sub fun a z => by
        rcases z with z | ⟨i, z⟩
        · exact z
        · exact absurd z (own0 i a)
      by_cases hi : i < ds.length
      · rw [List.getElem?_append_left (by simpa using hi), List.getElem?_map] at ht
        cases e : ds[i]? with
        | none => rw [e] at ht; cases ht
        | some d =>
          rw [e] at ht
          cases ht
          obtain ⟨v, e1, rv⟩ := r.get e
          refine ⟨some v, ?_, v, rfl, Rep.mono le _ _ rv⟩
          unfold L2.start
          rw [List.getElem?_append_left (by rw [List.length_map, rl]; exact hi), List.getElem?_map, e1]; rfl
      · rw [List.getElem?_append_right (by simpa using hi), List.getElem?_replicate] at ht
        split at ht
        · cases ht
          rename_i hlt
          refine ⟨none, ?_, trivial⟩
          unfold L2.start
          rw [List.length_map] at hlt
          rw [List.getElem?_append_right (by rw [List.length_map, rl]; omega), List.getElem?_replicate, if_pos (by rw [List.length_map]; omega)]
        · cases ht
  let G : Gx := ⟨cxOf (L2.CX P w) P w K mg base N qual (defScope st) f cdv A outer s H E, CF, O, H, [], fun cls d _ H' => E cls d H', fun _ C fs => Z.post ds (.exc C fs)⟩
  have ctx : Ctx G N (defScope st) k := ⟨⟨rfl, Sc.nd, rfl, rfl, hr⟩, rfl, passes_of rfl, takes_of rfl rfl rfl rfl, fun S σ H1 C fs dd fv H' s1 ex e2 h0 h1 rr => q3 C fs ex dd fv H' (s1.base.trans e2) (s1.base.free h0) h1 (rr.mono (Le.sub fun _ => .inl)), rfl, rfl⟩
  have run := body G ds rfl rfl rfl rfl rfl rfl ctx hl pre (fun _ _ _ z => z)
  refine WB.mono (D1 := G.ends _) (fun σ' H' q => ?_) (fun v H' q => ?_) (fun _ _ z => ?_) (fun _ _ z => ?_) (run (L2.start N vs) H sat)
  · obtain ⟨S', s', q⟩ := q
    exact q1 .non q _ _ s'.base rep_non
  · obtain ⟨ex, ro, rok, q⟩ := q
    cases ro with
    | ret d => exact q1 d q v H' ex rok
    | new xs =>
      obtain ⟨p, ys, rfl, hp, hl', rr⟩ := rok
      exact q2 xs q p ys H' hp ex hl' rr
    | exc C fs => exact rok.elim
  · obtain ⟨_, _, z⟩ := z
    exact z.elim
  · obtain ⟨_, _, z⟩ := z
    exact z.elim
end CL

set_option Elab.async false
set_option linter.all false
set_option maxRecDepth 100000
set_option maxHeartbeats 4000000
namespace CL
open PySem L2
def sq (k : Bool) (ds : List D) : D := if k = true then .lst ds else .tup ds
section
variable {G : Gx} {S : List Sd} {a b c e iter : Expr} {es : List Expr} {x y z d : D} {xs ys ds : List D} {pos : Pos} {k : Bool} {P P' : Po} {st : Stmt} {sts rest body : List Stmt}
theorem rep_sq {K : PySem.W.Frag} {CF : Addr} {O : Addr → Prop} {H : Hp} {v : V} (h : Rep K CF O H (sq k ds) v) : ∃ a xs, v = .ref a ∧ Seq K O H k a xs ∧ Reps K CF O H ds xs := by
  cases k with
  | true => exact h.lst
  | false => exact h.tup
/-- a ghost: the sequence at a stands -/
def ghSeq (K : PySem.W.Frag) (CF : Addr) (k : Bool) (ds : List D) (a : Addr) (vs : List V) : (Addr → Prop) → Hp → Prop := fun O H => Seq K O H k a vs ∧ Reps K CF O H ds vs
theorem Sat.addGh {K : PySem.W.Frag} {CF : Addr} {Oc : Addr → Prop} {H H0 : Hp} {Gh : List ((Addr → Prop) → Hp → Prop)} {σ : L2.St} {g : (Addr → Prop) → Hp → Prop} (h : Sat K CF Oc H0 Gh S σ H) (hg : g (Ow Oc S σ) H)
    (st : ∀ (O : Addr → Prop) (H : Hp) (O' : Addr → Prop) (H' : Hp), Le O H O' H' → g O H → g O' H') : Sat K CF Oc H0 (g :: Gh) S σ H :=
  ⟨h.len, h.base, h.oc, h.own, h.inj, h.slot, fun p hp => by
    rcases List.mem_cons.mp hp with e | hp
    · rw [e]; exact hg
    · exact h.gh p hp, fun p hp => by
    rcases List.mem_cons.mp hp with e | hp
    · rw [e]; exact st
    · exact h.gs p hp⟩
theorem Sat.dropGh {K : PySem.W.Frag} {CF : Addr} {Oc : Addr → Prop} {H H0 : Hp} {Gh : List ((Addr → Prop) → Hp → Prop)} {σ : L2.St} {g : (Addr → Prop) → Hp → Prop} (h : Sat K CF Oc H0 (g :: Gh) S σ H) : Sat K CF Oc H0 Gh S σ H :=
  ⟨h.len, h.base, h.oc, h.own, h.inj, h.slot, fun p hp => h.gh p (List.mem_cons_of_mem _ hp), fun p hp => h.gs p (List.mem_cons_of_mem _ hp)⟩
theorem ghSeq_st {K : PySem.W.Frag} {CF : Addr} {p : Addr} {vs : List V} (O : Addr → Prop) (H : Hp) (O' : Addr → Prop) (H' : Hp) (l : Le O H O' H') (h : ghSeq K CF k ds p vs O H) : ghSeq K CF k ds p vs O' H' := ⟨h.1.mono l, Reps.mono l _ _ h.2⟩
/-- with something more that stands -/
abbrev Gx.with (G : Gx) (g : (Addr → Prop) → Hp → Prop) : Gx := { G with Gh := g :: G.Gh }
theorem ends_with {g : (Addr → Prop) → Hp → Prop} {σ : L2.St} {H : Hp} (h : ((G.with g).ends P).nx σ H) : (G.ends P).nx σ H := by
  obtain ⟨S, s, q⟩ := h
  exact ⟨S, s.dropGh, q⟩
/-- a loop over data; a turn's context has the sequence as one thing more that stands -/
theorem runS_for (k : Bool) {j : Nat} {v : Str} {p' : Pos} (I : Nat → List Sd → Prop) (pas : PassesOwn (model G.X.prog G.X.w) G.X.A G.X.env G.X.xe) (calm : G.X.calm = true) (n : Ns G.X j v) (nd : G.X.N.Nodup)
    (h : Ev G S iter (sq k ds)) (h0 : I 0 S)
    (turn : ∀ (g : (Addr → Prop) → Hp → Prop) i d S', ds[i]? = some d → I i S' → Run (G.with g) (S'.set j (.dat d)) body { nx := I (i + 1), ct := I (i + 1), bk := P.nx, rt := P.rt })
    (done : ∀ S', I ds.length S' → P.nx S') (hs : ∀ x, foldedSetIterable iter G.X.env x = pure x := by intro _; rfl) : RunS G S (.For (.Name v p') iter body [] pos) P := fun σ H s => by
  have key : ∀ (p : Addr) (vs : List V) (H1 : Hp), Ex H H1 → Seq G.X.K (Ow G.Oc S σ) H1 k p vs → G.reps S σ H1 ds vs →
      (∀ (i : Nat) (w : V) (σ' : L2.St) (H' : Hp), vs[i]? = some w → (∃ S', (G.with (ghSeq G.X.K G.CF k ds p vs)).sat S' σ' H' ∧ I i S') →
        gName j w σ' H' fun σ2 H2 => WB G.X body { G.ends P with nx := fun σ' H' => ∃ S', (G.with (ghSeq G.X.K G.CF k ds p vs)).sat S' σ' H' ∧ I (i + 1) S', ct := fun σ' H' => ∃ S', (G.with (ghSeq G.X.K G.CF k ds p vs)).sat S' σ' H' ∧ I (i + 1) S', bk := (G.ends P).nx } σ2 H2) := by
    intro p vs H1 e1 sq' r i w σ' H' hw ⟨S', s', q⟩
    have gh := s'.gh _ List.mem_cons_self
    obtain ⟨d, hd, rd⟩ := Reps.get' gh.2 hw
    refine WB.mono (D1 := (G.with (ghSeq G.X.K G.CF k ds p vs)).ends _) (fun σ3 H3 z => ?_) (fun v H3 z => ?_) (fun σ3 H3 z => ?_) (fun σ3 H3 z => ?_) (turn (ghSeq G.X.K G.CF k ds p vs) i d S' hd q (σ'.set j (some w)) H' (s'.setDat rd))
    · exact z
    · exact z
    · exact ends_with (P := P) z
    · exact z
  have fin : ∀ (p : Addr) (vs : List V) (σ' : L2.St) (H' : Hp), vs.length = ds.length → (∃ S', (G.with (ghSeq G.X.K G.CF k ds p vs)).sat S' σ' H' ∧ I vs.length S') → (G.ends P).nx σ' H' := fun p vs σ' H' hl ⟨S', s', q⟩ => ⟨S', s'.dropGh, done S' (hl ▸ q)⟩
  have sg : ∀ (p : Addr) (vs : List V) (H1 : Hp), Ex H H1 → Seq G.X.K (Ow G.Oc S σ) H1 k p vs → G.reps S σ H1 ds vs → ∃ S', (G.with (ghSeq G.X.K G.CF k ds p vs)).sat S' σ H1 ∧ I 0 S' := fun p vs H1 e1 sq' r => ⟨S, (s.ex e1).addGh ⟨sq', r⟩ ghSeq_st, h0⟩
  cases k with
  | true =>
    refine eWS (ps_for pas calm (pi_list we) (pg_name nd n.n n.l n.f) wb hs) (h σ H s _ fun u H1 e1 r1 => ?_)
    obtain ⟨p, vs, rfl, sq', r⟩ := rep_sq r1
    refine ⟨p, rfl, ⟨vs, sq'.l⟩, for_list (K := G.X.K) (a := p) (xs := vs) (fun i σ' H' => ∃ S', (G.with (ghSeq G.X.K G.CF true ds p vs)).sat S' σ' H' ∧ I i S') (sg p vs H1 e1 sq' r) (fun i σ' H' _ ⟨S', s', _⟩ => (s'.gh _ List.mem_cons_self).1.l) (key p vs H1 e1 sq' r) (fun σ' H' z => fin p vs σ' H' r.length z)⟩
  | false =>
    refine eWS (ps_for pas calm (pi_tup we) (pg_name nd n.n n.l n.f) wb hs) (h σ H s _ fun u H1 e1 r1 => ?_)
    obtain ⟨p, vs, rfl, sq', r⟩ := rep_sq r1
    refine ⟨p, rfl, ⟨vs, sq'.t⟩, for_tup (K := G.X.K) (a := p) (xs := vs) (fun i σ' H' => ∃ S', (G.with (ghSeq G.X.K G.CF false ds p vs)).sat S' σ' H' ∧ I i S') (sg p vs H1 e1 sq' r) (fun i σ' H' _ ⟨S', s', _⟩ => (s'.gh _ List.mem_cons_self).1.t) (key p vs H1 e1 sq' r) (fun σ' H' z => fin p vs σ' H' r.length z)⟩
/-- for v in range(e) -/
theorem runS_range1 {j : Nat} {v : Str} {p' pr : Pos} {m : Int} (I : Nat → List Sd → Prop) (pas : PassesOwn (model G.X.prog G.X.w) G.X.A G.X.env G.X.xe) (calm : G.X.calm = true) (n : Ns G.X j v) (nd : G.X.N.Nodup) (hg : Gl G.X "range") (hm : G.X.mg "range" = none)
    (h : Ev G S e (.int m)) (hm1 : -(2 ^ 62) ≤ m) (hm2 : m < 2 ^ 62) (h0 : I 0 S)
    (turn : ∀ (i : Nat) S', (i : Int) < m → I i S' → Run G (S'.set j (.dat (.int i))) body { nx := I (i + 1), ct := I (i + 1), bk := P.nx, rt := P.rt })
    (done : ∀ S', I m.toNat S' → P.nx S') (hs : starEach [e] G.X.env = [(false, eval e G.X.env)] := by rfl) (he : starEach [e] G.X.env = (false, eval e G.X.env) :: starEach [] G.X.env := by rfl)
    (hf : ∀ x, foldedSetIterable (.Call (.Name "range" pr) [e] [] p') G.X.env x = pure x := by intro _; rfl) {pv : Pos} : RunS G S (.For (.Name v pv) (.Call (.Name "range" pr) [e] [] p') body [] pos) P := fun σ H s => by
  refine eWS (ps_for pas calm (pi_range1 hg hm (pa_cons we pa_nil he) hs) (pg_name nd n.n n.l n.f) wb hf) (h σ H s _ fun u H1 e1 r1 => ?_)
  cases r1.int
  refine ⟨m, rfl, hm1, hm2, for_range (lo := 0) (n := m.toNat) (fun i σ' H' => ∃ S', G.sat S' σ' H' ∧ I i S') ⟨S, s.ex e1, h0⟩ (fun i σ' H' hi z => ?_) (fun σ' H' z => ?_)⟩
  · obtain ⟨S', s', q⟩ := z
    have e0 : (0 : Int) + (i : Int) = (i : Int) := by omega
    rw [e0]
    refine WB.mono (D1 := G.ends { nx := I (i + 1), ct := I (i + 1), bk := P.nx, rt := P.rt }) (fun _ _ z => z) (fun _ _ z => z) (fun _ _ z => z) (fun _ _ z => z) (turn i S' (by omega) q (σ'.set j (some (.int i))) H' (s'.setDat (rep_int _)))
  · obtain ⟨S', s', q⟩ := z
    exact ⟨S', s', done S' q⟩
/-- for v in range(a, b) -/
theorem runS_range2 {j : Nat} {v : Str} {p' pr : Pos} {l m : Int} (I : Nat → List Sd → Prop) (pas : PassesOwn (model G.X.prog G.X.w) G.X.A G.X.env G.X.xe) (calm : G.X.calm = true) (n : Ns G.X j v) (nd : G.X.N.Nodup) (hg : Gl G.X "range") (hm : G.X.mg "range" = none)
    (ha : Ev G S a (.int l)) (hb : Ev G S b (.int m)) (hl1 : -(2 ^ 62) ≤ l) (hl2 : l < 2 ^ 62) (hm1 : -(2 ^ 62) ≤ m) (hm2 : m < 2 ^ 62) (h0 : I 0 S)
    (turn : ∀ (i : Nat) S', l + (i : Int) < m → I i S' → Run G (S'.set j (.dat (.int (l + i)))) body { nx := I (i + 1), ct := I (i + 1), bk := P.nx, rt := P.rt })
    (done : ∀ S', I (m - l).toNat S' → P.nx S') (hs : starEach [a, b] G.X.env = [(false, eval a G.X.env), (false, eval b G.X.env)] := by rfl) (hs2 : starEach [b] G.X.env = [(false, eval b G.X.env)] := by rfl)
    (he : starEach [a, b] G.X.env = (false, eval a G.X.env) :: starEach [b] G.X.env := by rfl) (he2 : starEach [b] G.X.env = (false, eval b G.X.env) :: starEach [] G.X.env := by rfl)
    (hf : ∀ x, foldedSetIterable (.Call (.Name "range" pr) [a, b] [] p') G.X.env x = pure x := by intro _; rfl) {pv : Pos} : RunS G S (.For (.Name v pv) (.Call (.Name "range" pr) [a, b] [] p') body [] pos) P := fun σ H s => by
  refine eWS (ps_for pas calm (pi_range2 hg hm (pa_cons we (pa_cons we pa_nil he2) he) hs hs2) (pg_name nd n.n n.l n.f) wb hf) (ha.bin hb s fun u w H1 e1 r1 r2 => ?_)
  cases r1.int
  cases r2.int
  refine ⟨l, m, rfl, ⟨hl1, hl2, hm1, hm2⟩, for_range (lo := l) (n := (m - l).toNat) (fun i σ' H' => ∃ S', G.sat S' σ' H' ∧ I i S') ⟨S, s.ex e1, h0⟩ (fun i σ' H' hi z => ?_) (fun σ' H' z => ?_)⟩
  · obtain ⟨S', s', q⟩ := z
    refine WB.mono (D1 := G.ends { nx := I (i + 1), ct := I (i + 1), bk := P.nx, rt := P.rt }) (fun _ _ z => z) (fun _ _ z => z) (fun _ _ z => z) (fun _ _ z => z) (turn i S' (by omega) q (σ'.set j (some (.int (l + i)))) H' (s'.setDat (rep_int _)))
  · obtain ⟨S', s', q⟩ := z
    exact ⟨S', s', done S' q⟩
/-- while c: body -/
theorem runS_while (I : List Sd → Prop) (μ : List Sd → Nat) (pas : PassesOwn (model G.X.prog G.X.w) G.X.A G.X.env G.X.xe) (h0 : I S)
    (turn : ∀ S', I S' → ∃ r, EvT G S' c r ∧ (r = true → Run G S' body { nx := fun S'' => I S'' ∧ μ S'' < μ S', ct := fun S'' => I S'' ∧ μ S'' < μ S', bk := P.nx, rt := P.rt }) ∧ (r = false → P.nx S')) : RunS G S (.While c body [] pos) P := fun σ H s => by
  refine eWS (ps_while pas wt wb) ⟨fun m σ' H' => ∃ S', G.sat S' σ' H' ∧ I S' ∧ m = μ S', ⟨μ S, S, s, h0, rfl⟩, ?_⟩
  rintro m σ' H' ⟨S', s', i', rfl⟩
  obtain ⟨r, t, h1, h2⟩ := turn S' i'
  refine t σ' H' s' _ fun H2 e2 => ?_
  cases r with
  | true =>
    rw [if_pos rfl]
    refine ⟨fun σ3 H3 => ∃ S3, G.sat S3 σ3 H3 ∧ I S3 ∧ μ S3 < μ S', fun σ3 H3 ⟨S3, s3, i3, l3⟩ => ⟨μ S3, l3, S3, s3, i3, rfl⟩, ?_⟩
    exact WB.mono (D1 := G.ends { nx := fun S'' => I S'' ∧ μ S'' < μ S', ct := fun S'' => I S'' ∧ μ S'' < μ S', bk := P.nx, rt := P.rt }) (fun _ _ z => z) (fun _ _ z => z) (fun _ _ z => z) (fun _ _ z => z) (h1 rfl σ' H2 (s'.ex e2))
  | false =>
    rw [if_neg Bool.false_ne_true]
    exact ⟨S', s'.ex e2, h2 rfl⟩

/-! ### comprehensions -/
/-- the context of a block -/
abbrev blkG (G : Gx) (s : Shared) (H : Hp) (scope : Scope) (C : Addr) (cl : List (Str × Addr)) (fp : List Addr) (Oc : Addr → Prop) : Gx := { G with X := G.X.blk s H scope (compEnvC scope cl C G.X.env) fp, Oc := Oc }
/-- in a block's every context -/
def Blk (G : Gx) (scope : Scope) (F : Gx → Prop) : Prop := ∀ (s : Shared) (H : Hp) (C : Addr) (cl : List (Str × Addr)) (fp : List Addr) (Oc : Addr → Prop), F (blkG G s H scope C cl fp Oc)
def tBlk (X : Cx) (scope : Scope) (e : Expr) : TE := fun σ H Q => ∀ (s : Shared) (H0 : Hp) (C : Addr) (cl : List (Str × Addr)) (fp : List Addr), WE (X.blk s H0 scope (compEnvC scope cl C X.env) fp) e σ H Q
def tBlkT (X : Cx) (scope : Scope) (e : Expr) : TT := fun σ H Q => ∀ (s : Shared) (H0 : Hp) (C : Addr) (cl : List (Str × Addr)) (fp : List Addr), WT (X.blk s H0 scope (compEnvC scope cl C X.env) fp) e σ H Q
/-- within a comprehension: what is made so far, at Dd -/
def CompAt (G : Gx) (S : List Sd) (σ : L2.St) (H1 : Hp) (Dd : Addr) (out : List D) (H : Hp) : Prop := Ex H1 H ∧ ∃ acc, H Dd = some (.lst acc) ∧ Reps G.X.K G.CF (fun a => Ow G.Oc S σ a ∨ a = Dd) H out acc
/-- one turn of a comprehension -/
theorem comp_turn {σ : L2.St} {H H1 : Hp} {Dd : Addr} {out : List D} {elt : Expr} {tt : TT} {scope : Scope} {j : Nat} {w : V} {r : Bool} (s : G.sat S σ H1) (hD : H1 Dd = none) (hc : CompAt G S σ H1 Dd out H) (hj : ∀ t, S[j]? = some t → t.mine = false)
    (rd : Rep G.X.K G.CF (fun a => Ow G.Oc S σ a ∨ a = Dd) H x w) (hl : out.length < sizeLine)
    (ht : ∀ Oc', (∀ G', G' = { G with Oc := Oc' } → ∀ H2, G'.sat (S.set j (.dat x)) (σ.set j (some w)) H2 → ∀ Q : Bool → Hp → Prop, (∀ H', Ex H2 H' → Q r H') → tt (σ.set j (some w)) H2 Q))
    (he : r = true → Blk G scope fun B => Ev B (S.set j (.dat x)) elt y) (Pn : Hp → Prop) (hn : ∀ H', CompAt G S σ H1 Dd (if r = true then out ++ [y] else out) H' → Pn H') :
    gName j w (wipe σ [j]) H fun σ2 H2 => wipe σ2 [j] = wipe σ [j] ∧ tt σ2 H2 fun b H3 => if b = true then tBlk G.X scope elt σ2 H3 fun u H4 => ∃ acc, H4 Dd = some (.lst acc) ∧ acc.length < sizeLine ∧ Pn (upd H4 Dd (.lst (acc ++ [u]))) else Pn H3 := by
  obtain ⟨e1, acc, ha, ra⟩ := hc
  have ew : (wipe σ [j]).set j (some w) = σ.set j (some w) := by simp [wipe]
  have ew2 : wipe (σ.set j (some w)) [j] = wipe σ [j] := by simp [wipe]
  show wipe ((wipe σ [j]).set j (some w)) [j] = wipe σ [j] ∧ _
  rw [ew]
  refine ⟨ew2, ?_⟩
  -- the state within the block, Dd not to be changed by it
  have s0 : Sat G.X.K G.CF (fun a => G.Oc a ∨ a = Dd) G.H0 G.Gh S σ H := by
    have s2 := s.ex e1
    have nD : ∀ i a, OwnAt S σ i a → a ≠ Dd := fun i a o z => by
      have := (s.own i a o).2.1
      rw [z] at this; exact this hD
    have le : Le (Ow G.Oc S σ) H1 (Ow (fun a => G.Oc a ∨ a = Dd) S σ) H := fun a o q n => ⟨e1 a o q, fun z => by
      rcases z with (z | z) | z
      · exact n (.inl z)
      · subst z; rw [hD] at q; cases q
      · exact n (.inr z)⟩
    refine ⟨s2.len, s2.base, fun a z => ?_, fun i a o => ⟨(s2.own i a o).1, (s2.own i a o).2.1, fun z => ?_⟩, s2.inj, fun i t hi => ?_, fun p hp => s.gs p hp _ _ _ _ le (s.gh p hp), s.gs⟩
    · rcases z with z | z
      · exact s2.oc a z
      · subst z; rw [ha]; intro z; cases z
    · rcases z with z | z
      · exact (s2.own i a o).2.2 z
      · exact nD i a o z
    · obtain ⟨v, ev, q⟩ := s.slot i t hi
      refine ⟨v, ev, ?_⟩
      cases t with
      | non => trivial
      | dat d => obtain ⟨v', e2, r2⟩ := q; exact ⟨v', e2, Rep.mono le _ _ r2⟩
      | own zs => obtain ⟨a, vs, e2, ha2, r2⟩ := q; exact ⟨a, vs, e2, e1 _ _ ha2, Reps.mono le _ _ r2⟩
      | dct zs => obtain ⟨a, vs, e2, ha2, z, r2⟩ := q; exact ⟨a, vs, e2, e1 _ _ ha2, z, Reps.mono le _ _ r2⟩
      | ins a zs => obtain ⟨dx, vs, e2, ha2, z, r2⟩ := q; exact ⟨dx, vs, e2, e1 _ _ ha2, z, Reps.mono le _ _ r2⟩
      | exc a dd fs =>
        obtain ⟨q, ps, hd, no, z, r⟩ := q
        exact ⟨q, ps, (le _ _ hd no).1, (le _ _ hd no).2, z, Reps.mono le _ _ r⟩
  have so : ∀ {a}, Ow (fun a => G.Oc a ∨ a = Dd) S σ a → (Ow G.Oc S σ a ∨ a = Dd) := fun z => by
    rcases z with (z | z) | z
    · exact .inl (.inl z)
    · exact .inr z
    · exact .inl (.inr z)
  have s3 := s0.setDat (i := j) (Rep.mono (Le.sub fun a z => so z) _ _ rd)
  refine ht (fun a => G.Oc a ∨ a = Dd) _ rfl H s3 _ fun H3 e3 => ?_
  have e13 := e1.trans e3
  cases r with
  | false =>
    rw [if_neg Bool.false_ne_true]
    exact hn H3 ⟨e13, acc, e3 _ _ ha, Reps.mono (Le.ex e3) _ _ ra⟩
  | true =>
    rw [if_pos rfl]
    intro sh Hb C cl fp
    refine he rfl sh Hb C cl fp (fun a => G.Oc a ∨ a = Dd) (σ.set j (some w)) H3 (s3.ex e3) _ fun u H4 e4 ru => ?_
    have e34 := e3.trans e4
    refine ⟨acc, e34 _ _ ha, by rw [ra.length]; exact hl, hn _ ⟨fun a o q => ?_, _, upd_same, ?_⟩⟩
    · have ne : a ≠ Dd := fun z => by subst z; rw [hD] at q; cases q
      rw [upd_ne ne]; exact e4 _ _ (e13 _ _ q)
    · have le : Le (fun a => Ow G.Oc S σ a ∨ a = Dd) H4 (fun a => Ow G.Oc S σ a ∨ a = Dd) (upd H4 Dd (.lst (acc ++ [u]))) := fun a o q n => by
        have ne : a ≠ Dd := fun z => n (.inr z)
        exact ⟨by rw [upd_ne ne]; exact q, n⟩
      refine (Reps.mono ((Le.ex e34).trans le) _ _ ra).append (Reps.cons ?_ Reps.nil)
      refine Rep.mono (Le.trans (fun a o q n => ⟨q, ?_⟩) le) _ _ ru
      intro z
      rcases z with z | z
      · -- an own place of S is one of the block's state, or it is the slot's own that was taken
        rcases z with z | ⟨i, z⟩
        · exact n (.inl (.inl z))
        · obtain ⟨⟨t, ht1, ht2⟩, ho⟩ := z
          by_cases hi : i = j
          · subst hi
            rw [hj t ht1] at ht2
            cases ht2
          · exact n (.inr ⟨i, ⟨t, by rw [List.getElem?_set_ne (Ne.symm hi)]; exact ht1, ht2⟩, by rw [List.getElem?_set_ne (Ne.symm hi)]; exact ho⟩)
      · exact n (.inl (.inr z))
end
end CL

set_option Elab.async false
set_option linter.all false
set_option maxRecDepth 100000
set_option maxHeartbeats 4000000
namespace CL
open PySem L2
section
variable {G : Gx} {S : List Sd} {a b c e iter elt t : Expr} {es : List Expr} {x y z d : D} {ys ds : List D} {pos : Pos} {k : Bool} {P P' : Po} {st : Stmt} {sts rest body : List Stmt} {scope : Scope} {j : Nat} {v : Str} {pv : Pos}
def outs {α : Type} (xs : List α) (p : α → Bool) (f : α → D) (i : Nat) : List D := ((xs.take i).filter p).map f
theorem outs_succ {α : Type} {xs : List α} {p : α → Bool} {f : α → D} {i : Nat} {x : α} (h : xs[i]? = some x) : outs xs p f (i + 1) = if p x = true then outs xs p f i ++ [f x] else outs xs p f i := by
  unfold outs
  rw [List.take_add_one, h, List.filter_append, List.map_append]
  cases e : p x <;> simp [e]
theorem outs_len {α : Type} (xs : List α) (p : α → Bool) (f : α → D) (i : Nat) : (outs xs p f i).length ≤ i := by
  unfold outs
  rw [List.length_map]
  have h1 := List.length_filter_le p (xs.take i)
  rw [List.length_take] at h1
  omega
theorem outs_all {α : Type} (xs : List α) (p : α → Bool) (f : α → D) {n : Nat} (h : xs.length ≤ n) : outs xs p f n = (xs.filter p).map f := by
  unfold outs
  rw [List.take_of_length_le h]
/-- what a block's element and test are asked -/
structure CompOk {α : Type} (G : Gx) (S : List Sd) (scope : Scope) (j : Nat) (elt : Expr) (tt : TT) (xs : List α) (inj f : α → D) (p : α → Bool) : Prop where
  hj : ∀ t, S[j]? = some t → t.mine = false
  sz : xs.length ≤ sizeLine
  ht : ∀ x ∈ xs, ∀ Oc', ∀ σ H, (Gx.sat { G with Oc := Oc' } (S.set j (.dat (inj x))) σ H) → ∀ Q : Bool → Hp → Prop, (∀ H', Ex H H' → Q (p x) H') → tt σ H Q
  he : ∀ x ∈ xs, p x = true → Blk G scope fun B => Ev B (S.set j (.dat (inj x))) elt (f x)
theorem CompOk.step {α : Type} {tt : TT} {xs : List α} {inj f : α → D} {p : α → Bool} (K : CompOk G S scope j elt tt xs inj f p) {σ : L2.St} {H H1 : Hp} {Dd : Addr} {i : Nat} {w : V} {u : α} (s : G.sat S σ H1) (hD : H1 Dd = none) (hx : xs[i]? = some u)
    (hc : CompAt G S σ H1 Dd (outs xs p f i) H) (rd : Rep G.X.K G.CF (fun a => Ow G.Oc S σ a ∨ a = Dd) H (inj u) w) :
    gName j w (wipe σ [j]) H fun σ2 H2 => wipe σ2 [j] = wipe σ [j] ∧ tt σ2 H2 fun b H3 => if b = true then tBlk G.X scope elt σ2 H3 fun y H4 => ∃ acc, H4 Dd = some (.lst acc) ∧ acc.length < sizeLine ∧ CompAt G S σ H1 Dd (outs xs p f (i + 1)) (upd H4 Dd (.lst (acc ++ [y]))) else CompAt G S σ H1 Dd (outs xs p f (i + 1)) H3 := by
  have hm := List.mem_of_getElem? hx
  have hi : i < xs.length := (List.getElem?_eq_some_iff.mp hx).1
  refine comp_turn (y := f u) (r := p u) s hD hc K.hj rd (by have := outs_len xs p f i; have := K.sz; omega) (fun Oc' G' eG H2 s2 Q q => ?_) (fun hp => K.he u hm hp) _ fun H' z => ?_
  · subst eG
    exact K.ht u hm Oc' _ H2 s2 Q q
  · rw [outs_succ hx]; exact z
theorem CompOk.zero {α : Type} {tt : TT} {xs : List α} {inj f : α → D} {p : α → Bool} (K : CompOk G S scope j elt tt xs inj f p) {σ : L2.St} {H1 : Hp} {Dd : Addr} (hD : H1 Dd = none) : CompAt G S σ H1 Dd (outs xs p f 0) (upd H1 Dd (.lst [])) :=
  ⟨Ex.new hD, [], upd_same, by unfold outs; simpa using Reps.nil⟩
theorem tBlk_pe (s : Shared) (H : Hp) (C : Addr) (cl : List (Str × Addr)) (fp : List Addr) : PE (G.X.blk s H scope (compEnvC scope cl C G.X.env) fp) elt (tBlk G.X scope elt) := ⟨fun pins s' σ H' Q I h => (h s H C cl fp).at pins s' I⟩
theorem tBlkT_pt (s : Shared) (H : Hp) (C : Addr) (cl : List (Str × Addr)) (fp : List Addr) : PT (G.X.blk s H scope (compEnvC scope cl C G.X.env) fp) elt (tBlkT G.X scope elt) := ⟨fun pins s' σ H' Q I h => (h s H C cl fp).at pins s' I⟩
/-- [elt for v in iter (if ..)] -/
theorem evL_lc {α : Type} {tt : TT} {xs : List α} {inj f : α → D} {p : α → Bool} {ifs : List Expr} (K : CompOk G S scope j elt tt xs inj f p) (hi : EvQ G S iter k (xs.map inj)) (calm : G.X.calm = true) (nd : G.X.N.Nodup) (ok : BlkOk G.X.N G.X.env.scope scope [(v, j)])
    (nb : Blk G scope fun B => Ns B.X j v) (ht : ∀ (s : Shared) (H : Hp) (C : Addr) (cl : List (Str × Addr)) (fp : List Addr), PTs (G.X.blk s H scope (compEnvC scope cl C G.X.env) fp) ifs tt)
    (hs : ∀ x, foldedSetIterable iter G.X.env x = pure x := by intro _; rfl) : EvL G S (.ListComp elt [⟨.Name v pv, iter, ifs, 0⟩] scope pos) ((xs.filter p).map f) := fun σ H s Q q => by
  have hg : ∀ (s : Shared) (H : Hp) (C : Addr) (cl : List (Str × Addr)) (fp : List Addr), PG (G.X.blk s H scope (compEnvC scope cl C G.X.env) fp) (.Name v pv) (gName j) := fun s H C cl fp => pg_name nd (nb s H C cl fp (fun _ => False)).n (nb s H C cl fp (fun _ => False)).l (nb s H C cl fp (fun _ => False)).f
  have go : ∀ (a : Addr) (vs : List V) (H1 : Hp) (Dd : Addr), Ex H H1 → G.reps S σ H1 (xs.map inj) vs → H1 Dd = none → ∀ (i : Nat) (w : V) (H2 : Hp), vs[i]? = some w → CompAt G S σ H1 Dd (outs xs p f i) H2 → ∃ u, xs[i]? = some u ∧ Rep G.X.K G.CF (fun a => Ow G.Oc S σ a ∨ a = Dd) H2 (inj u) w := by
    intro a vs H1 Dd e1 r hD i w H2 hw hc
    obtain ⟨d, hd, rd⟩ := r.get' hw
    rw [List.getElem?_map] at hd
    cases eu : xs[i]? with
    | none => rw [eu] at hd; cases hd
    | some u =>
      rw [eu] at hd
      cases hd
      refine ⟨u, rfl, Rep.mono (fun a o q n => ⟨hc.1 a o q, fun z => ?_⟩) _ _ rd⟩
      rcases z with z | z
      · exact n z
      · subst z; rw [hD] at q; cases q
  have fin : ∀ (vs : List V) (H1 : Hp) (Dd : Addr), Ex H H1 → H1 Dd = none → vs.length = xs.length → ∀ H2, CompAt G S σ H1 Dd (outs xs p f vs.length) H2 → Q (.ref Dd) H2 := by
    intro vs H1 Dd e1 hD hl H2 hc
    rw [outs_all _ _ _ (by omega)] at hc
    obtain ⟨e2, acc, ha, r⟩ := hc
    exact q Dd acc H2 (e1.free hD) (e1.trans e2) ha r
  cases k with
  | true =>
    refine eWE (pe_lc (own := [(v, j)]) calm nd (pi_list we) ok hg ht tBlk_pe hs) (hi σ H s _ fun a vs H1 e1 sq' r => ⟨a, rfl, ⟨vs, SqL.of sq'⟩, fun Dd hD => ?_⟩)
    have hl : vs.length = xs.length := by rw [r.length, List.length_map]
    exact lc_list (K := G.X.K) (a := a) (xs := vs) (fun i H2 => CompAt G S σ H1 Dd (outs xs p f i) H2) (K.zero hD) (fun i H2 _ hc => SqL.of (hc.1 _ _ sq')) (fun i w H2 hw hc => by
      obtain ⟨u, hu, ru⟩ := go a vs H1 Dd e1 r hD i w H2 hw hc
      exact K.step (s.ex e1) hD hu hc ru) (fun H2 hc => fin vs H1 Dd e1 hD hl H2 hc)
  | false =>
    refine eWE (pe_lc (own := [(v, j)]) calm nd (pi_tup we) ok hg ht tBlk_pe hs) (hi σ H s _ fun a vs H1 e1 sq' r => ⟨a, rfl, ⟨vs, sq'⟩, fun Dd hD => ?_⟩)
    have hl : vs.length = xs.length := by rw [r.length, List.length_map]
    exact lc_tup (K := G.X.K) (a := a) (xs := vs) (fun i H2 => CompAt G S σ H1 Dd (outs xs p f i) H2) (K.zero hD) (fun i H2 _ hc => ex_sqT hc.1 sq') (fun i w H2 hw hc => by
      obtain ⟨u, hu, ru⟩ := go a vs H1 Dd e1 r hD i w H2 hw hc
      exact K.step (s.ex e1) hD hu hc ru) (fun H2 hc => fin vs H1 Dd e1 hD hl H2 hc)
/-- [elt for v in range(n)] -/
theorem evL_lcR1 {tt : TT} {n : Int} {f : Nat → D} {p : Nat → Bool} {ifs : List Expr} {pr p1 : Pos} (K : CompOk G S scope j elt tt (List.range n.toNat) (fun i => .int (0 + (i : Int))) f p) (hi : Ev G S e (.int n)) (h1 : -(2 ^ 62) ≤ n) (h2 : n < 2 ^ 62) (calm : G.X.calm = true) (nd : G.X.N.Nodup)
    (hgr : Gl G.X "range") (hmr : G.X.mg "range" = none) (ok : BlkOk G.X.N G.X.env.scope scope [(v, j)])
    (nb : Blk G scope fun B => Ns B.X j v) (ht : ∀ (s : Shared) (H : Hp) (C : Addr) (cl : List (Str × Addr)) (fp : List Addr), PTs (G.X.blk s H scope (compEnvC scope cl C G.X.env) fp) ifs tt)
    (hss : starEach [e] G.X.env = [(false, eval e G.X.env)] := by rfl) (he : starEach [e] G.X.env = (false, eval e G.X.env) :: starEach [] G.X.env := by rfl)
    (hs : ∀ x, foldedSetIterable (.Call (.Name "range" p1) [e] [] pr) G.X.env x = pure x := by intro _; rfl) : EvL G S (.ListComp elt [⟨.Name v pv, .Call (.Name "range" p1) [e] [] pr, ifs, 0⟩] scope pos) (((List.range n.toNat).filter p).map f) := fun σ H s Q q => by
  have hg : ∀ (s : Shared) (H : Hp) (C : Addr) (cl : List (Str × Addr)) (fp : List Addr), PG (G.X.blk s H scope (compEnvC scope cl C G.X.env) fp) (.Name v pv) (gName j) := fun s H C cl fp => pg_name nd (nb s H C cl fp (fun _ => False)).n (nb s H C cl fp (fun _ => False)).l (nb s H C cl fp (fun _ => False)).f
  refine eWE (pe_lc (own := [(v, j)]) calm nd (pi_range1 hgr hmr (pa_cons we pa_nil he) hss) ok hg ht tBlk_pe hs) (hi σ H s _ fun u H1 e1 ru => ?_)
  cases ru.int
  refine ⟨n, rfl, h1, h2, fun Dd hD => lc_range (lo := 0) (n := n.toNat) (fun i H2 => CompAt G S σ H1 Dd (outs (List.range n.toNat) p f i) H2) (K.zero hD) (fun i H2 hi hc => K.step (s.ex e1) hD (by simp [hi]) hc (rep_int _)) (fun H2 hc => ?_)⟩
  rw [outs_all _ _ _ (by simp)] at hc
  obtain ⟨e2, acc, ha, r⟩ := hc
  exact q Dd acc H2 (e1.free hD) (e1.trans e2) ha r
/-- the same with both ends -/
theorem evL_lcR2 {tt : TT} {l n : Int} {f : Nat → D} {p : Nat → Bool} {ifs : List Expr} {pr p1 : Pos} (K : CompOk G S scope j elt tt (List.range (n - l).toNat) (fun i => .int (l + (i : Int))) f p) (ha : Ev G S a (.int l)) (hb : Ev G S b (.int n)) (hl1 : -(2 ^ 62) ≤ l) (hl2 : l < 2 ^ 62) (h1 : -(2 ^ 62) ≤ n) (h2 : n < 2 ^ 62) (calm : G.X.calm = true) (nd : G.X.N.Nodup)
    (hgr : Gl G.X "range") (hmr : G.X.mg "range" = none) (ok : BlkOk G.X.N G.X.env.scope scope [(v, j)])
    (nb : Blk G scope fun B => Ns B.X j v) (ht : ∀ (s : Shared) (H : Hp) (C : Addr) (cl : List (Str × Addr)) (fp : List Addr), PTs (G.X.blk s H scope (compEnvC scope cl C G.X.env) fp) ifs tt)
    (hss : starEach [a, b] G.X.env = [(false, eval a G.X.env), (false, eval b G.X.env)] := by rfl) (hss2 : starEach [b] G.X.env = [(false, eval b G.X.env)] := by rfl)
    (he : starEach [a, b] G.X.env = (false, eval a G.X.env) :: starEach [b] G.X.env := by rfl) (he2 : starEach [b] G.X.env = (false, eval b G.X.env) :: starEach [] G.X.env := by rfl)
    (hs : ∀ x, foldedSetIterable (.Call (.Name "range" p1) [a, b] [] pr) G.X.env x = pure x := by intro _; rfl) : EvL G S (.ListComp elt [⟨.Name v pv, .Call (.Name "range" p1) [a, b] [] pr, ifs, 0⟩] scope pos) (((List.range (n - l).toNat).filter p).map f) := fun σ H s Q q => by
  have hg : ∀ (s : Shared) (H : Hp) (C : Addr) (cl : List (Str × Addr)) (fp : List Addr), PG (G.X.blk s H scope (compEnvC scope cl C G.X.env) fp) (.Name v pv) (gName j) := fun s H C cl fp => pg_name nd (nb s H C cl fp (fun _ => False)).n (nb s H C cl fp (fun _ => False)).l (nb s H C cl fp (fun _ => False)).f
  refine eWE (pe_lc (own := [(v, j)]) calm nd (pi_range2 hgr hmr (pa_cons we (pa_cons we pa_nil he2) he) hss hss2) ok hg ht tBlk_pe hs) (ha.bin hb s fun u w H1 e1 ru rw' => ?_)
  cases ru.int
  cases rw'.int
  refine ⟨l, n, rfl, ⟨hl1, hl2, h1, h2⟩, fun Dd hD => lc_range (lo := l) (n := (n - l).toNat) (fun i H2 => CompAt G S σ H1 Dd (outs (List.range (n - l).toNat) p f i) H2) (K.zero hD) (fun i H2 hi hc => K.step (s.ex e1) hD (by simp [hi]) hc (rep_int _)) (fun H2 hc => ?_)⟩
  rw [outs_all _ _ _ (by simp)] at hc
  obtain ⟨e2, acc, ha, r⟩ := hc
  exact q Dd acc H2 (e1.free hD) (e1.trans e2) ha r
/-- no test -/
theorem compOk0 {α : Type} {xs : List α} {inj f : α → D} (hj : ∀ t, S[j]? = some t → t.mine = false) (sz : xs.length ≤ sizeLine) (he : ∀ x ∈ xs, Blk G scope fun B => Ev B (S.set j (.dat (inj x))) elt (f x)) : CompOk G S scope j elt tYes xs inj f (fun _ => true) :=
  ⟨hj, sz, fun x _ Oc' σ H s Q q => q H Ex.rfl, fun x hx _ => he x hx⟩
theorem filter_true {α : Type} (xs : List α) : xs.filter (fun _ => true) = xs := by simp
/-- one test -/
theorem compOk1 {α : Type} {xs : List α} {inj f : α → D} {p : α → Bool} (hj : ∀ t, S[j]? = some t → t.mine = false) (sz : xs.length ≤ sizeLine) (ht : ∀ x ∈ xs, Blk G scope fun B => EvT B (S.set j (.dat (inj x))) t (p x))
    (he : ∀ x ∈ xs, p x = true → Blk G scope fun B => Ev B (S.set j (.dat (inj x))) elt (f x)) : CompOk G S scope j elt (tBlkT G.X scope t) xs inj f p :=
  ⟨hj, sz, fun x hx Oc' σ H s Q q sh Hb C cl fp => ht x hx sh Hb C cl fp Oc' σ H s Q q, he⟩
theorem evL_comp0 {α : Type} (xs : List α) (inj f : α → D) (hj : ∀ t, S[j]? = some t → t.mine = false) (sz : xs.length ≤ sizeLine) (hi : EvQ G S iter k (xs.map inj)) (he : ∀ x ∈ xs, Blk G scope fun B => Ev B (S.set j (.dat (inj x))) elt (f x))
    (calm : G.X.calm = true) (nd : G.X.N.Nodup) (ok : BlkOk G.X.N G.X.env.scope scope [(v, j)]) (nb : Blk G scope fun B => Ns B.X j v) (hs : ∀ x, foldedSetIterable iter G.X.env x = pure x := by intro _; rfl) : EvL G S (.ListComp elt [⟨.Name v pv, iter, [], 0⟩] scope pos) (xs.map f) :=
  (evL_lc (compOk0 hj sz he) hi calm nd ok nb (fun _ _ _ _ _ => pts_nil) hs).is (by rw [filter_true])
theorem evL_comp1 {α : Type} (xs : List α) (inj f : α → D) (p : α → Bool) (hj : ∀ t, S[j]? = some t → t.mine = false) (sz : xs.length ≤ sizeLine) (hi : EvQ G S iter k (xs.map inj)) (ht : ∀ x ∈ xs, Blk G scope fun B => EvT B (S.set j (.dat (inj x))) t (p x)) (he : ∀ x ∈ xs, p x = true → Blk G scope fun B => Ev B (S.set j (.dat (inj x))) elt (f x))
    (calm : G.X.calm = true) (nd : G.X.N.Nodup) (ok : BlkOk G.X.N G.X.env.scope scope [(v, j)]) (nb : Blk G scope fun B => Ns B.X j v) (hs : ∀ x, foldedSetIterable iter G.X.env x = pure x := by intro _; rfl) : EvL G S (.ListComp elt [⟨.Name v pv, iter, [t], 0⟩] scope pos) ((xs.filter p).map f) :=
  evL_lc (compOk1 hj sz ht he) hi calm nd ok nb (fun s H C cl fp => pts_one (tBlkT_pt s H C cl fp)) hs
/-- y = [..] -/
theorem runS_setComp {i : Nat} {y : Str} {py : Pos} {spos : Pos} {gs : List Comprehension} (n : Ns G.X i y) (nd : G.X.N.Nodup) (q : P.nx (S.set i (.own ds))) (hyl : G.X.env.scope.names.lookup y = some .local)
    {wi : TI} {g : TG} {tt : TT} {ifs : List Expr} {own : List (Str × Nat)} (hsw : swapsWith (.ListComp elt [⟨.Name v pv, iter, ifs, 0⟩] scope pos) (some (.Name y py)) spos.line G.X.env = pure true) (calm : G.X.calm = true)
    (hi : PI G.X (.Name v pv) iter wi) (ok : BlkOk G.X.N G.X.env.scope scope own)
    (hg : ∀ (s : Shared) (H : Hp) (C : Addr) (cl : List (Str × Addr)) (fp : List Addr), PG (G.X.blk s H scope (compEnvC scope cl C G.X.env) fp) (.Name v pv) g) (ht : ∀ (s : Shared) (H : Hp) (C : Addr) (cl : List (Str × Addr)) (fp : List Addr), PTs (G.X.blk s H scope (compEnvC scope cl C G.X.env) fp) ifs tt)
    (hs : ∀ x, foldedSetIterable iter G.X.env x = pure x)
    (h : ∀ σ H, G.sat S σ H → ∀ Q : VK, (∀ p xs H', H p = none → Ex H H' → H' p = some (.lst xs) → Reps G.X.K G.CF (fun a => Ow G.Oc S σ a ∨ a = p) H' ds xs → Q (.ref p) H') → tLc wi g tt (tBlk G.X scope elt) (own.map (·.2)) σ H Q) : RunS G S (.Assign [.Name y py] (.ListComp elt [⟨.Name v pv, iter, ifs, 0⟩] scope pos) spos) P := fun σ H s =>
  eWS (ps_setLc calm nd n.n hyl hsw hi ok hg ht tBlk_pe hs) (h σ H s _ fun p xs H' hp ex hl r => ⟨_, s.setMine (s := .own ds) ex hp (by rw [hl]; intro z; cases z) rfl ⟨p, xs, rfl, hl, r⟩, q⟩)
end
end CL

set_option Elab.async false
set_option linter.all false
set_option maxRecDepth 100000
set_option maxHeartbeats 4000000
namespace CL
open PySem L2
/-! ### what an expression comes to, found by its syntax: the value and what must be shown for it -/
class EvR (G : Gx) (S : List Sd) (e : Expr) (d : outParam D) (s : outParam Prop) : Prop where out : s → Ev G S e d
class EvRT (G : Gx) (S : List Sd) (e : Expr) (b : outParam Bool) (s : outParam Prop) : Prop where out : s → EvT G S e b
class EvRW (G : Gx) (S : List Sd) (e : Expr) (b : outParam Bool) (s : outParam Prop) : Prop where out : s → EvW G S e b
class EvRA (G : Gx) (S : List Sd) (es : List Expr) (ds : outParam (List D)) (s : outParam Prop) : Prop where out : s → EvA G S es ds
class EvRL (G : Gx) (S : List Sd) (e : Expr) (ds : outParam (List D)) (s : outParam Prop) : Prop where out : s → EvL G S e ds
class EvRQ (G : Gx) (S : List Sd) (e : Expr) (k : outParam Bool) (ds : outParam (List D)) (s : outParam Prop) : Prop where out : s → EvQ G S e k ds
class EvRP (G : Gx) (S : List Sd) (e : Option Expr) (i : outParam (Option Int)) (s : outParam Prop) : Prop where out : s → EvP G S e i
class BinC (op : Operator) (x y : D) (z : outParam D) (s : outParam Prop) : Prop where out : s → BinR op x y z
class CmpC (op : CmpOp) (x y : D) (b : outParam Bool) (s : outParam Prop) : Prop where out : s → CmpR op x y b
class InC (x : D) (ds : List D) (b : outParam Bool) (s : outParam Prop) : Prop where out : s → InR x ds b
/-- an item at a place -/
class IxC (ds : List D) (i : Int) (d : outParam D) (s : outParam Prop) : Prop where out : s → atI ds i = some d
class SeqC (d : D) (k : outParam Bool) (ds : outParam (List D)) : Prop where out : d = sq k ds
class AtC (S : List Sd) (i : Nat) (s : outParam Sd) : Prop where out : S[i]? = some s
class SetC (S : List Sd) (i : Nat) (s : Sd) (S' : outParam (List Sd)) : Prop where out : S.set i s = S'
/-- names and what holds of the context, as found among the facts at hand -/
class NmI (X : Cx) (x : Str) (i : outParam Nat) : Prop where out : Nm X i x
class NsI (X : Cx) (x : Str) (i : outParam Nat) : Prop where out : Ns X i x
class BiI (X : Cx) (x : Str) (u : outParam Value) : Prop where out : Bi X x u
class CtxI (G : Gx) : Prop where
  nd : G.X.N.Nodup
  calm : G.X.calm = true
  hu : G.X.A.units + 65 < cLine
class PasI (G : Gx) : Prop where
  pas : PassesOwn (model G.X.prog G.X.w) G.X.A G.X.env G.X.xe
theorem CtxI.hu4 (G : Gx) [c : CtxI G] : G.X.A.units + 64 < cLine := by have := c.hu; omega
section
variable {G : Gx} {S S' : List Sd} {a b c e iter elt t : Expr} {es : List Expr} {x y z d : D} {xs ys ds : List D} {pos : Pos} {k : Bool} {P : Po} {st : Stmt} {sts rest body : List Stmt} {i j : Nat} {v f : Str} {s s1 s2 s3 : Prop}
instance at0 {s : Sd} : AtC (s :: S) 0 s := ⟨rfl⟩
instance atS {s q : Sd} [h : AtC S i s] : AtC (q :: S) (i + 1) s := ⟨by have := h.out; simpa using this⟩
instance set0 {s q : Sd} : SetC (q :: S) 0 s (s :: S) := ⟨rfl⟩
instance setS {s q : Sd} [h : SetC S i s S'] : SetC (q :: S) (i + 1) s (q :: S') := ⟨by have := h.out; simp [this]⟩
instance seqT : SeqC (.tup ds) false ds := ⟨rfl⟩
instance seqL : SeqC (.lst ds) true ds := ⟨rfl⟩
/-! names, constants -/
instance r_int {i : Int} {j} : EvR G S (.Constant (.int i) j pos) (.int i) True := ⟨fun _ => ev_int⟩
instance r_bl {i : Bool} {j} : EvR G S (.Constant (.bool i) j pos) (.bl i) True := ⟨fun _ => ev_bl⟩
instance r_non {j} : EvR G S (.Constant .none j pos) .non True := ⟨fun _ => ev_non⟩
instance r_str {i : Str} {j} : EvR G S (.Constant (.str i) j pos) (.str i) True := ⟨fun _ => ev_str⟩
/-- what a slot gives as a value -/
class ValC (s : Sd) (d : outParam D) : Prop where out : s = .dat d
instance : ValC (.dat d) d := ⟨rfl⟩
instance r_name {sd : Sd} [n : NmI G.X v i] [h : AtC S i sd] [w : ValC sd d] : EvR G S (.Name v pos) d True := ⟨fun _ => ev_name n.out (by rw [h.out, w.out])⟩
/-- what is not found: nothing can be shown -/
instance (priority := 10) r_stuck : EvR G S e .non False := ⟨fun h => h.elim⟩
instance (priority := 10) t_stuck : EvRT G S e false False := ⟨fun h => h.elim⟩
instance (priority := 10) q_stuck : EvRQ G S e true [] False := ⟨fun h => h.elim⟩
instance (priority := 10) l_stuck : EvRL G S e [] False := ⟨fun h => h.elim⟩
instance (priority := 10) ix_stuck {i : Int} : IxC ds i ((atI ds i).getD .non) ((atI ds i).isSome = true) := ⟨fun h => by
  cases q : atI ds i with
  | none => rw [q] at h; cases h
  | some d => rfl⟩
/-! operators -/
instance bc_add {i j : Int} : BinC .Add (.int i) (.int j) (.int (i + j)) True := ⟨fun _ => .add i j⟩
instance bc_sub {i j : Int} : BinC .Sub (.int i) (.int j) (.int (i - j)) True := ⟨fun _ => .sub i j⟩
instance bc_mul {i j : Int} : BinC .Mult (.int i) (.int j) (.int (i * j)) (CMul i j) := ⟨fun h => .mul i j h⟩
instance bc_mod {i j : Int} : BinC .Mod (.int i) (.int j) (.int (i % j)) (0 < j) := ⟨fun h => .mod i j h⟩
instance bc_fdiv {i j : Int} : BinC .FloorDiv (.int i) (.int j) (.int (i / j)) (0 < j ∧ j < 1073741824) := ⟨fun h => .fdiv i j h⟩
instance bc_pow {i j : Int} : BinC .Pow (.int i) (.int j) (.int (i ^ j.toNat)) (CPow i j) := ⟨fun h => .pow i j h⟩
instance bc_adt : BinC .Add (.tup xs) (.tup ys) (.tup (xs ++ ys)) (xs.length + ys.length ≤ sizeLine) := ⟨fun h => .adt xs ys h⟩
instance bc_ads {i j : Str} : BinC .Add (.str i) (.str j) (.str (i ++ j)) (i.length + j.length ≤ sizeLine) := ⟨fun h => .ads i j h⟩
instance r_bin {op : Operator} [h1 : EvR G S a x s1] [h2 : EvR G S b y s2] [h : BinC op x y z s3] : EvR G S (.BinOp a op b pos) z (s1 ∧ s2 ∧ s3) := ⟨fun w => ev_bin (h1.out w.1) (h2.out w.2.1) (h.out w.2.2)⟩
instance r_neg {i : Int} [h : EvR G S a (.int i) s] : EvR G S (.UnaryOp .USub a pos) (.int (-i)) s := ⟨fun w => ev_neg (h.out w)⟩
instance cc_lt {i j : Int} : CmpC .Lt (.int i) (.int j) (decide (i < j)) True := ⟨fun _ => .lt i j⟩
instance cc_le {i j : Int} : CmpC .LtE (.int i) (.int j) (decide (i ≤ j)) True := ⟨fun _ => .le i j⟩
instance cc_gt {i j : Int} : CmpC .Gt (.int i) (.int j) (decide (j < i)) True := ⟨fun _ => .gt i j⟩
instance cc_ge {i j : Int} : CmpC .GtE (.int i) (.int j) (decide (j ≤ i)) True := ⟨fun _ => .ge i j⟩
instance cc_eqi {i j : Int} : CmpC .Eq (.int i) (.int j) (decide (i = j)) True := ⟨fun _ => .eqi i j⟩
instance cc_nei {i j : Int} : CmpC .NotEq (.int i) (.int j) (!decide (i = j)) True := ⟨fun _ => .nei i j⟩
instance cc_eqs {i j : Str} : CmpC .Eq (.str i) (.str j) (decide (i = j)) True := ⟨fun _ => .eqs i j⟩
instance cc_nes {i j : Str} : CmpC .NotEq (.str i) (.str j) (!decide (i = j)) True := ⟨fun _ => .nes i j⟩
instance cc_eqb {i j : Bool} : CmpC .Eq (.bl i) (.bl j) (decide (i = j)) True := ⟨fun _ => .eqb i j⟩
instance cc_neb {i j : Bool} : CmpC .NotEq (.bl i) (.bl j) (!decide (i = j)) True := ⟨fun _ => .neb i j⟩
instance cc_isb {i j : Bool} : CmpC .Is (.bl i) (.bl j) (decide (i = j)) True := ⟨fun _ => .isb i j⟩
instance cc_nib {i j : Bool} : CmpC .IsNot (.bl i) (.bl j) (!decide (i = j)) True := ⟨fun _ => .nib i j⟩
instance (priority := 20) cc_eq : CmpC .Eq x y (x.eqv y) (x.ok = true ∧ y.ok = true) := ⟨fun h => .eq x y h.1 h.2⟩
instance (priority := 20) cc_ne : CmpC .NotEq x y (!x.eqv y) (x.ok = true ∧ y.ok = true) := ⟨fun h => .ne x y h.1 h.2⟩
instance (priority := 5) cc_stuck {op : CmpOp} : CmpC op x y false False := ⟨fun h => h.elim⟩
instance r_cmp {op : CmpOp} {r : Bool} [q : CtxI G] [h1 : EvR G S a x s1] [h2 : EvR G S b y s2] [h : CmpC op x y r s3] : EvR G S (.Compare a [op] [b] pos) (.bl r) (s1 ∧ s2 ∧ s3) := ⟨fun w => ev_cmp (CtxI.hu4 G) (h1.out w.1) (h2.out w.2.1) (h.out w.2.2)⟩
instance t_cmp {op : CmpOp} {r : Bool} [q : CtxI G] [h1 : EvR G S a x s1] [h2 : EvR G S b y s2] [h : CmpC op x y r s3] : EvRT G S (.Compare a [op] [b] pos) r (s1 ∧ s2 ∧ s3) := ⟨fun w => evT_cmp (CtxI.hu4 G) (h1.out w.1) (h2.out w.2.1) (h.out w.2.2)⟩
instance (priority := 2000) r_isN {j pos'} [h : EvR G S a x s] : EvR G S (.Compare a [.Is] [.Constant .none j pos'] pos) (.bl x.isNon) s := ⟨fun w => ev_isN (h.out w)⟩
instance (priority := 2000) t_isN {j pos'} [h : EvR G S a x s] : EvRT G S (.Compare a [.Is] [.Constant .none j pos'] pos) x.isNon s := ⟨fun w => evT_isN (h.out w)⟩
instance (priority := 2000) r_notN {j pos'} [h : EvR G S a x s] : EvR G S (.Compare a [.IsNot] [.Constant .none j pos'] pos) (.bl (!x.isNon)) s := ⟨fun w => ev_notN (h.out w)⟩
instance (priority := 2000) t_notN {j pos'} [h : EvR G S a x s] : EvRT G S (.Compare a [.IsNot] [.Constant .none j pos'] pos) (!x.isNon) s := ⟨fun w => evT_notN (h.out w)⟩
instance r_chain {op op' : CmpOp} {r r' : Bool} {s4 s5 : Prop} [q : CtxI G] [h1 : EvR G S a x s1] [h2 : EvR G S b y s2] [h : CmpC op x y r s3] [h3 : EvR G S c z s4] [h' : CmpC op' y z r' s5] : EvR G S (.Compare a [op, op'] [b, c] pos) (.bl (r && r')) (s1 ∧ s2 ∧ s3 ∧ (r = true → s4) ∧ s5 ∧ lastMarks [op, op'] [b, c] = false) :=
  ⟨fun w => ev_chain (CtxI.hu4 G) (h1.out w.1) (h2.out w.2.1) (h.out w.2.2.1) (fun q => h3.out (w.2.2.2.1 q)) (h'.out w.2.2.2.2.1) w.2.2.2.2.2⟩
instance t_chain {op op' : CmpOp} {r r' : Bool} {s4 s5 : Prop} [q : CtxI G] [h1 : EvR G S a x s1] [h2 : EvR G S b y s2] [h : CmpC op x y r s3] [h3 : EvR G S c z s4] [h' : CmpC op' y z r' s5] : EvRT G S (.Compare a [op, op'] [b, c] pos) (r && r') (s1 ∧ s2 ∧ s3 ∧ (r = true → s4) ∧ s5 ∧ lastMarks [op, op'] [b, c] = false) :=
  ⟨fun w => evT_chain (CtxI.hu4 G) (h1.out w.1) (h2.out w.2.1) (h.out w.2.2.1) (fun q => h3.out (w.2.2.2.1 q)) (h'.out w.2.2.2.2.1) w.2.2.2.2.2⟩
/-! tests -/
instance t_not {r : Bool} [h : EvRT G S a r s] : EvRT G S (.UnaryOp .Not a pos) (!r) s := ⟨fun w => evT_not (h.out w)⟩
instance r_not {r : Bool} [h : EvR G S a (.bl r) s] : EvR G S (.UnaryOp .Not a pos) (.bl (!r)) s := ⟨fun w => ev_not (h.out w)⟩
instance w_and1 {r : Bool} [h : EvRT G S a r s] : EvRW G S (.BoolOp .And [a] pos) r s := ⟨fun w => evW_and1 (h.out w)⟩
instance w_or1 {r : Bool} [h : EvRT G S a r s] : EvRW G S (.BoolOp .Or [a] pos) r s := ⟨fun w => evW_or1 (h.out w)⟩
instance w_and {r t : Bool} {rest : List Expr} [h : EvRT G S a r s1] [g : EvRW G S (.BoolOp .And (b :: rest) pos) t s2] : EvRW G S (.BoolOp .And (a :: b :: rest) pos) (r && t) (s1 ∧ (r = true → s2)) := ⟨fun w => evW_and (h.out w.1) fun q => g.out (w.2 q)⟩
instance w_or {r t : Bool} {rest : List Expr} [h : EvRT G S a r s1] [g : EvRW G S (.BoolOp .Or (b :: rest) pos) t s2] : EvRW G S (.BoolOp .Or (a :: b :: rest) pos) (r || t) (s1 ∧ (r = false → s2)) := ⟨fun w => evW_or (h.out w.1) fun q => g.out (w.2 q)⟩
instance t_bool {op} {es : List Expr} {r : Bool} [h : EvRW G S (.BoolOp op es pos) r s] : EvRT G S (.BoolOp op es pos) r s := ⟨fun w => (h.out w).t⟩
instance r_one {op} [h : EvR G S a d s] : EvR G S (.BoolOp op [a] pos) d s := ⟨fun w => ev_one (h.out w)⟩
/-- a value that is a bool, or nothing can be shown -/
class BlC (d : D) (r : outParam Bool) (s : outParam Prop) : Prop where out : s → d = .bl r
instance : BlC (.bl r) r True := ⟨fun _ => rfl⟩
instance (priority := 10) : BlC d false False := ⟨fun h => h.elim⟩
instance r_and {r t : Bool} {d1 d2 : D} {s4 : Prop} {rest : List Expr} [h : EvR G S a d1 s1] [q1 : BlC d1 r s2] [g : EvR G S (.BoolOp .And (b :: rest) pos) d2 s3] [q2 : BlC d2 t s4] : EvR G S (.BoolOp .And (a :: b :: rest) pos) (.bl (r && t)) (s1 ∧ s2 ∧ (r = true → s3 ∧ s4)) :=
  ⟨fun w => ev_and ((h.out w.1).is (q1.out w.2.1)) fun q => (g.out (w.2.2 q).1).is (q2.out (w.2.2 q).2)⟩
instance r_or {r t : Bool} {d1 d2 : D} {s4 : Prop} {rest : List Expr} [h : EvR G S a d1 s1] [q1 : BlC d1 r s2] [g : EvR G S (.BoolOp .Or (b :: rest) pos) d2 s3] [q2 : BlC d2 t s4] : EvR G S (.BoolOp .Or (a :: b :: rest) pos) (.bl (r || t)) (s1 ∧ s2 ∧ (r = false → s3 ∧ s4)) :=
  ⟨fun w => ev_or ((h.out w.1).is (q1.out w.2.1)) fun q => (g.out (w.2.2 q).1).is (q2.out (w.2.2 q).2)⟩
/-- a value as a test: of a name, a call, .. -/
instance t_name [h : EvR G S (.Name v pos) x s] : EvRT G S (.Name v pos) x.tru (s ∧ x.truOk) := ⟨fun w => evT_val (h.out w.1) w.2 (fun _ => rfl)⟩
instance (priority := 500) t_nameQ [n : NmI G.X v i] [h : AtC S i (.own ds)] : EvRT G S (.Name v pos) (!ds.isEmpty) True := ⟨fun _ => evT_seq (evQ_own n.out h.out) (fun _ => rfl)⟩
instance t_call {fn : Expr} {kws : List Keyword} [h : EvR G S (.Call fn es kws pos) x s] : EvRT G S (.Call fn es kws pos) x.tru (s ∧ x.truOk) := ⟨fun w => evT_val (h.out w.1) w.2 (fun _ => rfl)⟩
instance t_sub [h : EvR G S (.Subscript a b pos) x s] : EvRT G S (.Subscript a b pos) x.tru (s ∧ x.truOk) := ⟨fun w => evT_val (h.out w.1) w.2 (fun _ => rfl)⟩
instance t_att [h : EvR G S (.Attribute a v pos) x s] : EvRT G S (.Attribute a v pos) x.tru (s ∧ x.truOk) := ⟨fun w => evT_val (h.out w.1) w.2 (fun _ => rfl)⟩
instance r_if {r : Bool} {d1 d2 : D} [h : EvRT G S c r s1] [g1 : EvR G S a d1 s2] [g2 : EvR G S b d2 s3] : EvR G S (.IfExp c a b pos) (if r = true then d1 else d2) (s1 ∧ (r = true → s2) ∧ (r = false → s3)) :=
  ⟨fun w => ev_if (h.out w.1) (fun q => (g1.out (w.2.1 q)).is (by rw [if_pos q])) (fun q => (g2.out (w.2.2 q)).is (by rw [q]; rfl))⟩
/-! arguments, displays -/
instance a_nil : EvRA G S [] [] True := ⟨fun _ => evA_nil⟩
instance a_cons [h : EvR G S e d s1] [g : EvRA G S es ds s2] : EvRA G S (e :: es) (d :: ds) (s1 ∧ s2 ∧ starEach (e :: es) G.X.env = (false, eval e G.X.env) :: starEach es G.X.env) := ⟨fun w => evA_cons (h.out w.1) (g.out w.2.1) w.2.2⟩
instance r_tup {k} [h : EvRA G S es ds s] : EvR G S (.Tuple es k pos) (.tup ds) (s ∧ ds.length ≤ sizeLine) := ⟨fun w => ev_tup (h.out w.1) w.2⟩
instance l_lst [h : EvRA G S es ds s] : EvRL G S (.List es pos) ds (s ∧ ds.length ≤ sizeLine) := ⟨fun w => evL_lst (h.out w.1) w.2⟩
instance r_list [h : EvRL G S (.List es pos) ds s] : EvR G S (.List es pos) (.lst ds) s := ⟨fun w => (h.out w).ev⟩
/-! sequences -/
instance q_name [n : NmI G.X v i] [h : AtC S i (.own ds)] : EvRQ G S (.Name v pos) true ds True := ⟨fun _ => evQ_own n.out h.out⟩
instance (priority := 900) q_nameD [h : EvR G S (.Name v pos) d s] [q : SeqC d k ds] : EvRQ G S (.Name v pos) k ds s := ⟨fun w => by
  have z := h.out w
  rw [q.out] at z
  cases k with
  | true => exact z.ql
  | false => exact z.qt⟩
instance (priority := 100) q_any [h : EvR G S e d s] [q : SeqC d k ds] : EvRQ G S e k ds s := ⟨fun w => by
  have z := h.out w
  rw [q.out] at z
  cases k with
  | true => exact z.ql
  | false => exact z.qt⟩
instance q_lst [h : EvRL G S (.List es pos) ds s] : EvRQ G S (.List es pos) true ds s := ⟨fun w => (h.out w).q⟩
instance q_lc {elt : Expr} {gs} {scope} [h : EvRL G S (.ListComp elt gs scope pos) ds s] : EvRQ G S (.ListComp elt gs scope pos) true ds s := ⟨fun w => (h.out w).q⟩
instance ix_int {ns : List Int} {i : Int} : IxC (ns.map D.int) i (.int ((atI ns i).getD 0)) ((atI ns i).isSome = true) := ⟨fun h => by
  rw [atI_map]
  cases q : atI ns i with
  | none => rw [q] at h; cases h
  | some d => rfl⟩
instance r_ix {i : Int} [h1 : EvRQ G S a k ds s1] [h2 : EvR G S b (.int i) s2] [h : IxC ds i d s3] : EvR G S (.Subscript a b pos) d (s1 ∧ s2 ∧ s3 ∧ PlainIx b) := ⟨fun w => ev_ix (h1.out w.1) (h2.out w.2.1) (h.out w.2.2.1) w.2.2.2⟩
instance (priority := 2000) r_ixS {ns : List Int} {i : Int} [h1 : EvR G S (.Name v pos) (.scr ns) s1] [h2 : EvR G S b (.int i) s2] : EvR G S (.Subscript (.Name v pos) b pos') (.int ((atI ns i).getD 0)) (s1 ∧ s2 ∧ (atI ns i).isSome = true ∧ PlainIx b) := ⟨fun w => ev_ixS (h1.out w.1) (h2.out w.2.1) (by
  cases q : atI ns i with
  | none => rw [q] at w; cases w.2.2.1
  | some d => rfl) w.2.2.2⟩
instance p_none : EvRP G S none none True := ⟨fun _ => trivial⟩
instance p_some {i : Int} [h : EvR G S e (.int i) s] : EvRP G S (some e) (some i) s := ⟨fun w => h.out w⟩
instance (priority := 2000) r_slT {lo hi : Option Expr} {i j : Option Int} {p2 : Pos} [h : EvR G S a (.tup ds) s1] [hl : EvRP G S lo i s2] [hu : EvRP G S hi j s3] : EvR G S (.Subscript a (.Slice lo hi none p2) pos) (.tup (cutL ds i j)) (s1 ∧ s2 ∧ s3) := ⟨fun w => ev_slT (h.out w.1) (hl.out w.2.1) (hu.out w.2.2)⟩
instance l_sl {lo hi : Option Expr} {i j : Option Int} {p2 : Pos} [h : EvRQ G S a true ds s1] [hl : EvRP G S lo i s2] [hu : EvRP G S hi j s3] : EvRL G S (.Subscript a (.Slice lo hi none p2) pos) (cutL ds i j) (s1 ∧ s2 ∧ s3) := ⟨fun w => evL_sl (h.out w.1) (hl.out w.2.1) (hu.out w.2.2)⟩
instance l_rev {k0 : Nat} {p1 p2 p3 : Pos} [h : EvRQ G S a true ds s] : EvRL G S (.Subscript a (.Slice none none (some (.UnaryOp .USub (.Constant (.int 1) k0 p1) p2)) p3) pos) ds.reverse s := ⟨fun w => evL_rev (h.out w)⟩
instance l_cat [h1 : EvRQ G S a true xs s1] [h2 : EvRQ G S b true ys s2] : EvRL G S (.BinOp a .Add b pos) (xs ++ ys) (s1 ∧ s2 ∧ xs.length + ys.length ≤ sizeLine) := ⟨fun w => evL_cat (h1.out w.1) (h2.out w.2.1) w.2.2⟩
instance l_rep {i : Int} [h1 : EvRQ G S a true xs s1] [h2 : EvR G S b (.int i) s2] : EvRL G S (.BinOp a .Mult b pos) (List.replicate i.toNat xs).flatten (s1 ∧ s2 ∧ -(2 ^ 63) ≤ i ∧ i < 2 ^ 63 ∧ xs.length * i.toNat ≤ sizeLine) := ⟨fun w => evL_rep (h1.out w.1) (h2.out w.2.1) w.2.2.1 w.2.2.2.1 w.2.2.2.2⟩
instance (priority := 50) r_ofL [h : EvRL G S (.BinOp a .Add b pos) ds s] : EvR G S (.BinOp a .Add b pos) (.lst ds) s := ⟨fun w => (h.out w).ev⟩
instance (priority := 50) q_ofL [h : EvRL G S (.BinOp a .Add b pos) ds s] : EvRQ G S (.BinOp a .Add b pos) true ds s := ⟨fun w => (h.out w).q⟩
/-! in -/
instance (priority := 100) in_flat : InC x ds (ds.any fun y => L2.eqV y.fv x.fv) (x.flat = true ∧ ds.all D.flat = true) := ⟨fun w => .flat x ds w.1 w.2⟩
instance in_tup {us : List D} : InC (.tup us) ds (ds.any fun y => y.eqv (.tup us)) ((D.tup us).ok = true ∧ (D.tup ds).ok = true) := ⟨fun w => .deep _ ds w.1 w.2⟩
instance r_in {r : Bool} [q : CtxI G] [h1 : EvR G S a x s1] [h2 : EvRQ G S b k ds s2] [h : InC x ds r s3] : EvR G S (.Compare a [.In] [b] pos) (.bl r) (s1 ∧ s2 ∧ s3 ∧ behindInMarks .In b = false) := ⟨fun w => ev_in q.hu (h1.out w.1) (h2.out w.2.1) (h.out w.2.2.1) w.2.2.2⟩
instance t_in {r : Bool} [q : CtxI G] [h1 : EvR G S a x s1] [h2 : EvRQ G S b k ds s2] [h : InC x ds r s3] : EvRT G S (.Compare a [.In] [b] pos) r (s1 ∧ s2 ∧ s3 ∧ behindInMarks .In b = false) := ⟨fun w => evT_in q.hu (h1.out w.1) (h2.out w.2.1) (h.out w.2.2.1) w.2.2.2⟩
instance r_notIn {r : Bool} [q : CtxI G] [h1 : EvR G S a x s1] [h2 : EvRQ G S b k ds s2] [h : InC x ds r s3] : EvR G S (.Compare a [.NotIn] [b] pos) (.bl (!r)) (s1 ∧ s2 ∧ s3 ∧ behindInMarks .NotIn b = false) := ⟨fun w => ev_notIn q.hu (h1.out w.1) (h2.out w.2.1) (h.out w.2.2.1) w.2.2.2⟩
instance t_notIn {r : Bool} [q : CtxI G] [h1 : EvR G S a x s1] [h2 : EvRQ G S b k ds s2] [h : InC x ds r s3] : EvRT G S (.Compare a [.NotIn] [b] pos) (!r) (s1 ∧ s2 ∧ s3 ∧ behindInMarks .NotIn b = false) := ⟨fun w => evT_notIn q.hu (h1.out w.1) (h2.out w.2.1) (h.out w.2.2.1) w.2.2.2⟩
/-! built-in functions -/
class LenC (G : Gx) (S : List Sd) (e : Expr) (n : outParam Nat) (s : outParam Prop) : Prop where out : s → Bi G.X "len" (.builtin "len") → ∀ p pos, starEach [e] G.X.env = (false, eval e G.X.env) :: starEach [] G.X.env → Ev G S (.Call (.Name "len" p) [e] [] pos) (.int (n : Nat))
instance len_q [h : EvRQ G S e k ds s] : LenC G S e ds.length s := ⟨fun w B p pos he => ev_lenQ B (h.out w) he⟩
instance (priority := 2000) len_s {ns : List Int} [h : EvR G S (.Name v pos) (.scr ns) s] : LenC G S (.Name v pos) ns.length s := ⟨fun w B p pos he => ev_lenS B (h.out w) he⟩
instance r_len {p : Pos} {n : Nat} [B : BiI G.X "len" (.builtin "len")] [h : LenC G S a n s] : EvR G S (.Call (.Name "len" p) [a] [] pos) (.int (n : Nat)) (s ∧ starEach [a] G.X.env = (false, eval a G.X.env) :: starEach [] G.X.env) := ⟨fun w => h.out w.1 B.out p pos w.2⟩
/-- an int of an int or a bool -/
class ToIntC (d : D) (i : outParam Int) : Prop where out : (∃ k, d = .int k ∧ i = k) ∨ ∃ k : Bool, d = .bl k ∧ i = if k then 1 else 0
instance {i : Int} : ToIntC (.int i) i := ⟨.inl ⟨i, rfl, rfl⟩⟩
instance {k : Bool} : ToIntC (.bl k) (if k then 1 else 0) := ⟨.inr ⟨k, rfl, rfl⟩⟩
instance r_toInt {p : Pos} {i : Int} [B : BiI G.X "int" (.type "int")] [h : EvR G S a d s] [q : ToIntC d i] : EvR G S (.Call (.Name "int" p) [a] [] pos) (.int i) (s ∧ starEach [a] G.X.env = (false, eval a G.X.env) :: starEach [] G.X.env) := ⟨fun w => by
  rcases q.out with ⟨k, e1, e2⟩ | ⟨k, e1, e2⟩
  · subst e2; exact ev_intI B.out ((h.out w.1).is e1) w.2
  · subst e2; exact ev_intB B.out ((h.out w.1).is e1) w.2⟩
instance r_abs {p : Pos} {i : Int} [B : BiI G.X "abs" (.builtin "abs")] [h : EvR G S a (.int i) s] : EvR G S (.Call (.Name "abs" p) [a] [] pos) (.int (if i < 0 then -i else i)) (s ∧ starEach [a] G.X.env = (false, eval a G.X.env) :: starEach [] G.X.env) := ⟨fun w => ev_abs B.out (h.out w.1) w.2⟩
instance r_max2 {p : Pos} {i j : Int} [q : CtxI G] [B : BiI G.X "max" (.builtin "max")] [h1 : EvR G S a (.int i) s1] [h2 : EvR G S b (.int j) s2] : EvR G S (.Call (.Name "max" p) [a, b] [] pos) (.int (if j > i then j else i))
    (s1 ∧ s2 ∧ starEach [a, b] G.X.env = (false, eval a G.X.env) :: starEach [b] G.X.env ∧ starEach [b] G.X.env = (false, eval b G.X.env) :: starEach [] G.X.env ∧ (backTo pos (starEach [b] G.X.env)).any (·.1) = false) := ⟨fun w => ev_max2 q.calm B.out (h1.out w.1) (h2.out w.2.1) w.2.2.1 w.2.2.2.1 w.2.2.2.2⟩
instance (priority := 2000) r_tupT {p : Pos} [B : BiI G.X "tuple" (.type "tuple")] [h : EvR G S a (.tup ds) s] : EvR G S (.Call (.Name "tuple" p) [a] [] pos) (.tup ds) (s ∧ starEach [a] G.X.env = (false, eval a G.X.env) :: starEach [] G.X.env) := ⟨fun w => ev_tupT B.out (h.out w.1) w.2⟩
instance r_tupL {p : Pos} [B : BiI G.X "tuple" (.type "tuple")] [h : EvRQ G S a true ds s] : EvR G S (.Call (.Name "tuple" p) [a] [] pos) (.tup ds) (s ∧ starEach [a] G.X.env = (false, eval a G.X.env) :: starEach [] G.X.env) := ⟨fun w => ev_tupL B.out (h.out w.1) w.2⟩
instance l_listQ {p : Pos} [B : BiI G.X "list" (.type "list")] [h : EvRQ G S a k ds s] : EvRL G S (.Call (.Name "list" p) [a] [] pos) ds (s ∧ starEach [a] G.X.env = (false, eval a G.X.env) :: starEach [] G.X.env) := ⟨fun w => evL_listQ B.out (h.out w.1) w.2⟩
instance (priority := 900) r_listQ {p : Pos} [h : EvRL G S (.Call (.Name "list" p) [a] [] pos) ds s] : EvR G S (.Call (.Name "list" p) [a] [] pos) (.lst ds) s := ⟨fun w => (h.out w).ev⟩
/-! isinstance -/
inductive Ty where
  | bool | int | str | tuple | list
/-- what isinstance answers of data and a built-in type -/
def D.isA : Ty → D → Bool
  | .bool, .bl _ => true
  | .int, .bl _ => true
  | .int, .int _ => true
  | .str, .str _ => true
  | .tuple, .tup _ => true
  | .list, .lst _ => true
  | .list, .scr _ => true
  | _, _ => false
def Ty.nm : Ty → String
  | .bool => "bool"
  | .int => "int"
  | .str => "str"
  | .tuple => "tuple"
  | .list => "list"
class TyNm (n : String) (t : outParam Ty) : Prop where out : n = t.nm
instance : TyNm "bool" .bool := ⟨rfl⟩
instance : TyNm "int" .int := ⟨rfl⟩
instance : TyNm "str" .str := ⟨rfl⟩
instance : TyNm "tuple" .tuple := ⟨rfl⟩
instance : TyNm "list" .list := ⟨rfl⟩
theorem kit_isA {K : PySem.W.Frag} {CF : Addr} {x : D} (h : x.notFrm = true) (t : Ty) : PySem.W.kitOne K (x.tyv CF) (.type t.nm) = some (x.isA t) := by
  cases x with
  | frm _ _ => cases h
  | _ => cases t <;> first | exact kit_ty (r := true) (by decide +kernel) | exact kit_ty (r := false) (by decide +kernel)
/-- isinstance(a, T), T int, bool, str, tuple, list -/
instance r_isi {p p' : Pos} {T : Str} {n : String} {ty : Ty} [B : BiI G.X "isinstance" (.builtin "isinstance")] [BT : BiI G.X T (.type n)] [tn : TyNm n ty] [h : EvR G S a x s] : EvR G S (.Call (.Name "isinstance" p) [a, .Name T p'] [] pos) (.bl (x.isA ty))
    (s ∧ x.notFrm = true ∧ starEach [a, .Name T p'] G.X.env = (false, eval a G.X.env) :: starEach [.Name T p'] G.X.env) := ⟨fun w => by
  have e := tn.out
  subst e
  exact ev_isi B.out (h.out w.1) (pe_ty BT.out) (.ty _) (fun z => by rw [w.2.1] at z; cases z) (kit_isA w.2.1 ty) w.2.2⟩
instance r_isLT {p p1 p2 p3 : Pos} {kk} [B : BiI G.X "isinstance" (.builtin "isinstance")] [BL : BiI G.X "list" (.type "list")] [BT : BiI G.X "tuple" (.type "tuple")] [h : EvR G S a x s] : EvR G S (.Call (.Name "isinstance" p) [a, .Tuple [.Name "list" p1, .Name "tuple" p2] kk p3] [] pos) (.bl (x.isA .list || x.isA .tuple))
    (s ∧ x.notFrm = true ∧ starEach [a, .Tuple [.Name "list" p1, .Name "tuple" p2] kk p3] G.X.env = (false, eval a G.X.env) :: starEach [.Tuple [.Name "list" p1, .Name "tuple" p2] kk p3] G.X.env) := ⟨fun w => by
  refine ev_isLT B.out BL.out BT.out (h.out w.1) (fun z => by rw [w.2.1] at z; cases z) ?_ w.2.2
  obtain ⟨_, w2, _⟩ := w
  refine kitAny_cons (kit_isA w2 .list) (fun _ => kitAny_cons (r := x.isA .list || x.isA .tuple) (kit_isA w2 .tuple) (fun z => ?_) (fun z => ?_)) (fun z => ?_)
  · rename_i q
    rw [q, z]; rfl
  · rw [z]; simp
  · rw [z]; rfl⟩
/-! ### statements -/
theorem go_set {p' : Pos} [n : NsI G.X v i] [q : CtxI G] [h : EvR G S e d s] [w : SetC S i (.dat d) S'] (hs : s) (k : Run G S' rest P) (hsw : swapsWith e (some (.Name v p')) pos.line G.X.env = pure false := by rfl) : Run G S (.Assign [.Name v p'] e pos :: rest) P :=
  run_cons (runS_set n.out q.nd (h.out hs) (by rw [w.out]; exact k) hsw)
theorem go_setL {p' : Pos} [n : NsI G.X v i] [q : CtxI G] [h : EvRL G S e ds s] [w : SetC S i (.own ds) S'] (hs : s) (k : Run G S' rest P) (hsw : swapsWith e (some (.Name v p')) pos.line G.X.env = pure false := by rfl) : Run G S (.Assign [.Name v p'] e pos :: rest) P :=
  run_cons (runS_setL n.out q.nd (h.out hs) (by rw [w.out]; exact k) hsw)
theorem go_ret [h : EvR G S e d s] (hs : s) (k : P.rt (.ret d)) : Run G S (.Return (some e) pos :: rest) P := run_cons (runS_ret (h.out hs) k)
theorem go_retL [h : EvRL G S e ds s] (hs : s) (k : P.rt (.new ds)) : Run G S (.Return (some e) pos :: rest) P := run_cons (runS_retL (h.out hs) k)
theorem go_retO {p' : Pos} [n : NmI G.X v i] [h : AtC S i (.own ds)] (k : P.rt (.new ds)) : Run G S (.Return (some (.Name v p')) pos :: rest) P := run_cons (runS_retO n.out h.out k)
theorem go_retN (k : P.rt (.ret .non)) : Run G S (.Return none pos :: rest) P := run_cons (runS_retN k)
theorem go_if {A B : List Stmt} {r : Bool} [h : EvRT G S c r s] (hs : s) (h1 : r = true → Run G S A { P with nx := fun S' => Run G S' rest P }) (h2 : r = false → Run G S B { P with nx := fun S' => Run G S' rest P }) : Run G S (.If c A B pos :: rest) P := run_cons (runS_if (h.out hs) h1 h2)
/-- an if whose ways come together again: J -/
theorem go_ifJ {A B : List Stmt} {r : Bool} (J : List Sd → Prop) [h : EvRT G S c r s] (hs : s) (h1 : r = true → Run G S A { P with nx := J }) (h2 : r = false → Run G S B { P with nx := J }) (k : ∀ S', J S' → Run G S' rest P) : Run G S (.If c A B pos :: rest) P := run_cut J (runS_if (h.out hs) h1 h2) k
theorem go_append {p' apos cpos : Pos} [n : NmI G.X v i] [w : AtC S i (.own ds)] [h : EvR G S e d s] [q : SetC S i (.own (ds ++ [d])) S'] (hs : s) (hl : ds.length < sizeLine) (k : Run G S' rest P)
    (hsw : swapsWith (.Call (.Attribute (.Name v p') "append" apos) [e] [] cpos) none pos.line G.X.env = pure false := by rfl)
    (hbase : attributeBase (.Name v p') "append" G.X.env (eval (.Name v p') G.X.env) = eval (.Name v p') G.X.env := by rfl)
    (hfew : ((backTo cpos (starEach (e :: []) G.X.env)).all (fun x => !x.1) && (backToKw cpos (keywordEach [] G.X.env)).all (fun x => x.1.isSome)
      && decide ((e :: []).length + ([] : List Keyword).length + (if ([] : List Keyword).isEmpty then 0 else 1) < 30)) = true := by rfl)
    (hline : (apos.endLine == cpos.line) = true := by rfl) (he : starEach (e :: []) G.X.env = (false, eval e G.X.env) :: starEach [] G.X.env := by rfl) (hplain : (backTo cpos (starEach [] G.X.env)).any (·.1) = false := by rfl) :
    Run G S (.Expr (.Call (.Attribute (.Name v p') "append" apos) [e] [] cpos) pos :: rest) P :=
  run_cons (runS_append n.out w.out (h.out hs) hl (by rw [q.out]; exact k) hsw hbase hfew hline he hplain)
theorem go_nil (h : P.nx S) : Run G S [] P := run_nil h
theorem go_pass (h : Run G S rest P) : Run G S (.Pass pos :: rest) P := run_cons (runS_pass h)
theorem go_break (h : P.bk S) : Run G S (.Break pos :: rest) P := run_cons (runS_break h)
theorem go_continue (h : P.ct S) : Run G S (.Continue pos :: rest) P := run_cons (runS_continue h)
/-- typed data in a loop -/
theorem go_for {α : Type} {pv : Pos} (inj : α → D) (as : List α) (I : Nat → List Sd → Prop) {d0 : D} [n : NsI G.X v j] [q : CtxI G] [pp : PasI G] [h : EvR G S iter d0 s] [w : SeqC d0 k ds] (hs : s) (hd : ds = as.map inj) (h0 : I 0 S)
    (turn : ∀ (g : (Addr → Prop) → Hp → Prop) i a S', as[i]? = some a → I i S' → Run (G.with g) (S'.set j (.dat (inj a))) body { nx := I (i + 1), ct := I (i + 1), bk := fun S' => Run G S' rest P, rt := P.rt })
    (done : ∀ S', I as.length S' → Run G S' rest P) (hf : ∀ x, foldedSetIterable iter G.X.env x = pure x := by intro _; rfl) : Run G S (.For (.Name v pv) iter body [] pos :: rest) P := by
  have z := h.out hs
  rw [w.out, hd] at z
  refine run_cons (runS_for k I pp.pas q.calm n.out q.nd z h0 (fun g i d S' hi hI => ?_) (fun S' hI => done S' (by rw [List.length_map] at hI; exact hI)) hf)
  rw [List.getElem?_map] at hi
  cases e : as[i]? with
  | none => rw [e] at hi; cases hi
  | some a =>
    rw [e] at hi
    cases hi
    exact turn g i a S' e hI
theorem go_range {p' pr pv : Pos} {m : Int} (I : Nat → List Sd → Prop) [n : NsI G.X v j] [q : CtxI G] [pp : PasI G] [B : BiI G.X "range" (.type "range")] [h : EvR G S e (.int m) s] (hs : s) (hm1 : -(2 ^ 62) ≤ m) (hm2 : m < 2 ^ 62) (h0 : I 0 S)
    (turn : ∀ (i : Nat) S', (i : Int) < m → I i S' → Run G (S'.set j (.dat (.int i))) body { nx := I (i + 1), ct := I (i + 1), bk := fun S' => Run G S' rest P, rt := P.rt })
    (done : ∀ S', I m.toNat S' → Run G S' rest P) (hss : starEach [e] G.X.env = [(false, eval e G.X.env)] := by rfl) (he : starEach [e] G.X.env = (false, eval e G.X.env) :: starEach [] G.X.env := by rfl)
    (hf : ∀ x, foldedSetIterable (.Call (.Name "range" pr) [e] [] p') G.X.env x = pure x := by intro _; rfl) : Run G S (.For (.Name v pv) (.Call (.Name "range" pr) [e] [] p') body [] pos :: rest) P :=
  run_cons (runS_range1 I pp.pas q.calm n.out q.nd B.out.g B.out.m (h.out hs) hm1 hm2 h0 turn done hss he hf)
theorem go_range2 {p' pr pv : Pos} {l m : Int} (I : Nat → List Sd → Prop) [n : NsI G.X v j] [q : CtxI G] [pp : PasI G] [B : BiI G.X "range" (.type "range")] [ha : EvR G S a (.int l) s1] [hb : EvR G S b (.int m) s2] (hs1 : s1) (hs2 : s2) (hl1 : -(2 ^ 62) ≤ l) (hl2 : l < 2 ^ 62) (hm1 : -(2 ^ 62) ≤ m) (hm2 : m < 2 ^ 62) (h0 : I 0 S)
    (turn : ∀ (i : Nat) S', l + (i : Int) < m → I i S' → Run G (S'.set j (.dat (.int (l + i)))) body { nx := I (i + 1), ct := I (i + 1), bk := fun S' => Run G S' rest P, rt := P.rt })
    (done : ∀ S', I (m - l).toNat S' → Run G S' rest P) (hss : starEach [a, b] G.X.env = [(false, eval a G.X.env), (false, eval b G.X.env)] := by rfl) (hss2 : starEach [b] G.X.env = [(false, eval b G.X.env)] := by rfl)
    (he : starEach [a, b] G.X.env = (false, eval a G.X.env) :: starEach [b] G.X.env := by rfl) (he2 : starEach [b] G.X.env = (false, eval b G.X.env) :: starEach [] G.X.env := by rfl)
    (hf : ∀ x, foldedSetIterable (.Call (.Name "range" pr) [a, b] [] p') G.X.env x = pure x := by intro _; rfl) : Run G S (.For (.Name v pv) (.Call (.Name "range" pr) [a, b] [] p') body [] pos :: rest) P :=
  run_cons (runS_range2 I pp.pas q.calm n.out q.nd B.out.g B.out.m (ha.out hs1) (hb.out hs2) hl1 hl2 hm1 hm2 h0 turn done hss hss2 he he2 hf)
end
end CL

set_option Elab.async false
set_option linter.all false
set_option maxRecDepth 100000
set_option maxHeartbeats 4000000
namespace CL
open PySem L2
/-- the def f, called from G, keeps Z -/
class CalI (G : Gx) (f : Str) (Z : outParam Spec) : Prop where
  out : ∃ n, Cal G.X G.CF n f Z ∧ Room n G.X.A
  gl : Gl G.X f
  db : (f == ("__debug__" : Str)) = false
class TkI (G : Gx) : Prop where
  tk : Takes G.X G.W
  wish : G.wishes
section
variable {G : Gx} {g : (Addr → Prop) → Hp → Prop} {f : Str} {Z : Spec}
instance w_ctx [c : CtxI G] : CtxI (G.with g) := ⟨c.nd, c.calm, c.hu⟩
instance w_pas [c : PasI G] : PasI (G.with g) := ⟨c.pas⟩
instance w_tk [c : TkI G] : TkI (G.with g) := ⟨c.tk, fun S σ H C fs dd fv H' s => c.wish S σ H C fs dd fv H' s.dropGh⟩
instance w_cal [c : CalI G f Z] : CalI (G.with g) f Z := ⟨by obtain ⟨n, c, r⟩ := c.out; exact ⟨n, ⟨c.ex⟩, r⟩, c.gl, c.db⟩
end
def D.toInt : D → Int
  | .int i => i
  | _ => 0
def D.toBool : D → Bool
  | .bl b => b
  | _ => false
def D.items : D → List D
  | .tup ds => ds
  | .lst ds => ds
  | _ => []
def D.toStr : D → Str
  | .str b => b
  | _ => Str.empty
/-- promises that are functions -/
def Z1 (pre : D → Prop) (ret : D → D) : Spec := ⟨1, fun ds => ∃ x, ds = [x] ∧ pre x, fun ds o => ∃ x, ds = [x] ∧ o = .ret (ret x)⟩
def Z2 (pre : D → D → Prop) (ret : D → D → D) : Spec := ⟨2, fun ds => ∃ x y, ds = [x, y] ∧ pre x y, fun ds o => ∃ x y, ds = [x, y] ∧ o = .ret (ret x y)⟩
def Z3 (pre : D → D → D → Prop) (ret : D → D → D → D) : Spec := ⟨3, fun ds => ∃ x y z, ds = [x, y, z] ∧ pre x y z, fun ds o => ∃ x y z, ds = [x, y, z] ∧ o = .ret (ret x y z)⟩
def Z4 (pre : D → D → D → D → Prop) (ret : D → D → D → D → D) : Spec := ⟨4, fun ds => ∃ x y z u, ds = [x, y, z, u] ∧ pre x y z u, fun ds o => ∃ x y z u, ds = [x, y, z, u] ∧ o = .ret (ret x y z u)⟩
/-- .. that make a list -/
def L1 (pre : D → Prop) (ret : D → List D) : Spec := ⟨1, fun ds => ∃ x, ds = [x] ∧ pre x, fun ds o => ∃ x, ds = [x] ∧ o = .new (ret x)⟩
def L2' (pre : D → D → Prop) (ret : D → D → List D) : Spec := ⟨2, fun ds => ∃ x y, ds = [x, y] ∧ pre x y, fun ds o => ∃ x y, ds = [x, y] ∧ o = .new (ret x y)⟩
section
variable {G : Gx} {S S' : List Sd} {a b c e e4 iter elt t : Expr} {es : List Expr} {x y z u d : D} {xs ys ds : List D} {pos : Pos} {k : Bool} {P : Po} {st : Stmt} {sts rest body : List Stmt} {i j : Nat} {v f : Str} {s s1 s2 s3 s4 : Prop}
theorem evC_I {Z : Spec} {p : Pos} [F : CalI G f Z] [T : TkI G] (h : EvA G S (e :: es) ds) (hn : ds.length = Z.n) (pre : Z.pre ds) (he : starEach (e :: es) G.X.env = (false, eval e G.X.env) :: starEach es G.X.env) (hpl : (backTo pos (starEach es G.X.env)).any (·.1) = false) :
    EvC G S (.Call (.Name f p) (e :: es) [] pos) (Z.post ds) := by
  obtain ⟨n, F1, hr⟩ := F.out
  exact evC_call F1 hr F.gl F.db T.tk h hn pre he hpl
/-- a call in a context that lets nothing out (a block) -/
theorem evC_call0 {p : Pos} {Z : Spec} {n : Nat} (F : Cal G.X G.CF n f Z) (hr : Room n G.X.A) (hg : Gl G.X f) (hdb : (f == ("__debug__" : Str)) = false) (ha : EvA G S (e :: es) ds) (hn : ds.length = Z.n) (pre : Z.pre ds) (nox : ∀ C fs, ¬ Z.post ds (.exc C fs))
    (he : starEach (e :: es) G.X.env = (false, eval e G.X.env) :: starEach es G.X.env := by rfl) (hpl : (backTo pos (starEach es G.X.env)).any (·.1) = false := by rfl) :
    EvC G S (.Call (.Name f p) (e :: es) [] pos) (Z.post ds) := fun σ H s Q q1 q2 q3 => by
  obtain ⟨fa, fd, ps, F, hm, hk, hb⟩ := F.ex
  refine eWE (pe_call (E := E0) F hr hg hm hk hb .nil passL wa hdb he hpl) (ha σ H s _ fun vs H1 e1 r1 => ?_)
  have s1 := s.ex e1
  rw [List.append_nil]
  refine ⟨Ow G.Oc S σ, ds, hn, fun a z => s1.known z, r1, pre, fun d z v H' e2 r => q1 d v H' z (e1.trans e2) r, fun xs z p ys H' hp e2 hl r => q2 xs p ys H' z (e1.free hp) (e1.trans e2) hl r, fun C fs z => absurd z (nox C fs)⟩
class PlC (G : Gx) (es : List Expr) (pos : Pos) : Prop where
theorem evZ {Z : Spec} {p : Pos} [F : CalI G f Z] (h : EvA G S (e :: es) ds) (hn : ds.length = Z.n) (pre : Z.pre ds) (hR : ∀ r, Z.post ds r → r = .ret d) (he : starEach (e :: es) G.X.env = (false, eval e G.X.env) :: starEach es G.X.env) (hpl : (backTo pos (starEach es G.X.env)).any (·.1) = false) :
    Ev G S (.Call (.Name f p) (e :: es) [] pos) d := by
  obtain ⟨n, F1, hr⟩ := F.out
  exact (evC_call0 F1 hr F.gl F.db h hn pre (fun C fs z => by cases hR _ z) he hpl).ev hR
theorem evZL {Z : Spec} {p : Pos} [F : CalI G f Z] (h : EvA G S (e :: es) ds) (hn : ds.length = Z.n) (pre : Z.pre ds) (hR : ∀ r, Z.post ds r → r = .new xs) (he : starEach (e :: es) G.X.env = (false, eval e G.X.env) :: starEach es G.X.env) (hpl : (backTo pos (starEach es G.X.env)).any (·.1) = false) :
    EvL G S (.Call (.Name f p) (e :: es) [] pos) xs := by
  obtain ⟨n, F1, hr⟩ := F.out
  exact (evC_call0 F1 hr F.gl F.db h hn pre (fun C fs z => by cases hR _ z) he hpl).evL hR
instance r_z1 {pre : D → Prop} {ret : D → D} {p : Pos} [F : CalI G f (Z1 pre ret)] [h : EvRA G S [a] [x] s] : EvR G S (.Call (.Name f p) [a] [] pos) (ret x) (s ∧ pre x ∧ starEach [a] G.X.env = (false, eval a G.X.env) :: starEach [] G.X.env) :=
  ⟨fun w => evZ (Z := Z1 pre ret) (h.out w.1) rfl ⟨x, rfl, w.2.1⟩ (fun r z => by obtain ⟨x', e, rfl⟩ := z; cases e; rfl) w.2.2 rfl⟩
instance r_z2 {pre : D → D → Prop} {ret : D → D → D} {p : Pos} [F : CalI G f (Z2 pre ret)] [h : EvRA G S [a, b] [x, y] s] : EvR G S (.Call (.Name f p) [a, b] [] pos) (ret x y) (s ∧ pre x y ∧ starEach [a, b] G.X.env = (false, eval a G.X.env) :: starEach [b] G.X.env ∧ (backTo pos (starEach [b] G.X.env)).any (·.1) = false) :=
  ⟨fun w => evZ (Z := Z2 pre ret) (h.out w.1) rfl ⟨x, y, rfl, w.2.1⟩ (fun r z => by obtain ⟨x', y', e, rfl⟩ := z; cases e; rfl) w.2.2.1 w.2.2.2⟩
instance r_z3 {pre : D → D → D → Prop} {ret : D → D → D → D} {p : Pos} [F : CalI G f (Z3 pre ret)] [h : EvRA G S [a, b, c] [x, y, z] s] : EvR G S (.Call (.Name f p) [a, b, c] [] pos) (ret x y z) (s ∧ pre x y z ∧ starEach [a, b, c] G.X.env = (false, eval a G.X.env) :: starEach [b, c] G.X.env ∧ (backTo pos (starEach [b, c] G.X.env)).any (·.1) = false) :=
  ⟨fun w => evZ (Z := Z3 pre ret) (h.out w.1) rfl ⟨x, y, z, rfl, w.2.1⟩ (fun r q => by obtain ⟨x', y', z', e, rfl⟩ := q; cases e; rfl) w.2.2.1 w.2.2.2⟩
instance r_z4 {pre : D → D → D → D → Prop} {ret : D → D → D → D → D} {p : Pos} [F : CalI G f (Z4 pre ret)] [h : EvRA G S [a, b, c, e4] [x, y, z, u] s] : EvR G S (.Call (.Name f p) [a, b, c, e4] [] pos) (ret x y z u) (s ∧ pre x y z u ∧ starEach [a, b, c, e4] G.X.env = (false, eval a G.X.env) :: starEach [b, c, e4] G.X.env ∧ (backTo pos (starEach [b, c, e4] G.X.env)).any (·.1) = false) :=
  ⟨fun w => evZ (Z := Z4 pre ret) (h.out w.1) rfl ⟨x, y, z, u, rfl, w.2.1⟩ (fun r q => by obtain ⟨x', y', z', u', e, rfl⟩ := q; cases e; rfl) w.2.2.1 w.2.2.2⟩
instance l_l1 {pre : D → Prop} {ret : D → List D} {p : Pos} [F : CalI G f (L1 pre ret)] [h : EvRA G S [a] [x] s] : EvRL G S (.Call (.Name f p) [a] [] pos) (ret x) (s ∧ pre x ∧ starEach [a] G.X.env = (false, eval a G.X.env) :: starEach [] G.X.env) :=
  ⟨fun w => evZL (Z := L1 pre ret) (h.out w.1) rfl ⟨x, rfl, w.2.1⟩ (fun r z => by obtain ⟨x', e, rfl⟩ := z; cases e; rfl) w.2.2 rfl⟩
instance l_l2 {pre : D → D → Prop} {ret : D → D → List D} {p : Pos} [F : CalI G f (L2' pre ret)] [h : EvRA G S [a, b] [x, y] s] : EvRL G S (.Call (.Name f p) [a, b] [] pos) (ret x y) (s ∧ pre x y ∧ starEach [a, b] G.X.env = (false, eval a G.X.env) :: starEach [b] G.X.env ∧ (backTo pos (starEach [b] G.X.env)).any (·.1) = false) :=
  ⟨fun w => evZL (Z := L2' pre ret) (h.out w.1) rfl ⟨x, y, rfl, w.2.1⟩ (fun r z => by obtain ⟨x', y', e, rfl⟩ := z; cases e; rfl) w.2.2.1 w.2.2.2⟩
instance (priority := 100) r_callL {p : Pos} [h : EvRL G S (.Call (.Name f p) es [] pos) ds s] : EvR G S (.Call (.Name f p) es [] pos) (.lst ds) s := ⟨fun w => (h.out w).ev⟩
instance (priority := 200) q_callL {p : Pos} [h : EvRL G S (.Call (.Name f p) es [] pos) ds s] : EvRQ G S (.Call (.Name f p) es [] pos) true ds s := ⟨fun w => (h.out w).q⟩
/-- v = f(..), f's promise a relation; what is raised -/
theorem go_call {p p' : Pos} {Z : Spec} [n : NsI G.X v i] [q : CtxI G] [F : CalI G f Z] [T : TkI G] [h : EvRA G S (e :: es) ds s] (hs : s) (hn : ds.length = Z.n) (pre : Z.pre ds)
    (k1 : ∀ d, Z.post ds (.ret d) → Run G (S.set i (.dat d)) rest P) (k2 : ∀ xs, Z.post ds (.new xs) → Run G (S.set i (.own xs)) rest P) (k3 : ∀ C fs, Z.post ds (.exc C fs) → G.ex S C fs)
    (he : starEach (e :: es) G.X.env = (false, eval e G.X.env) :: starEach es G.X.env := by rfl) (hpl : (backTo pos (starEach es G.X.env)).any (·.1) = false := by rfl) {apos : Pos}
    (hsw : swapsWith (.Call (.Name f p) (e :: es) [] pos) (some (.Name v p')) apos.line G.X.env = pure false := by rfl) : Run G S (.Assign [.Name v p'] (.Call (.Name f p) (e :: es) [] pos) apos :: rest) P :=
  run_cons (runS_setC n.out q.nd (evC_I (h.out hs) hn pre he hpl) k1 k2 k3 T.wish hsw)
/-- v = f(..) that makes a list told by a relation, kept as data -/
theorem go_draw {p p' : Pos} {Z : Spec} {R : List D → Prop} [n : NsI G.X v i] [q : CtxI G] [F : CalI G f Z] [T : TkI G] [h : EvRA G S (e :: es) ds s] (hs : s) (hn : ds.length = Z.n) (pre : Z.pre ds) (hi : i < S.length)
    (hR : ∀ o, Z.post ds o → ∃ xs, o = .new xs ∧ R xs) (k : ∀ xs, R xs → Run G (S.set i (.dat (.lst xs))) rest P)
    (he : starEach (e :: es) G.X.env = (false, eval e G.X.env) :: starEach es G.X.env := by rfl) (hpl : (backTo pos (starEach es G.X.env)).any (·.1) = false := by rfl) {apos : Pos}
    (hsw : swapsWith (.Call (.Name f p) (e :: es) [] pos) (some (.Name v p')) apos.line G.X.env = pure false := by rfl) : Run G S (.Assign [.Name v p'] (.Call (.Name f p) (e :: es) [] pos) apos :: rest) P :=
  go_call hs hn pre (fun d z => by obtain ⟨xs, e, _⟩ := hR _ z; cases e) (fun xs z => by
    obtain ⟨xs', e, r⟩ := hR _ z
    cases e
    refine run_freeze (i := i) (by rw [List.getElem?_set_self hi]) ?_
    rw [List.set_set]
    exact k xs r) (fun C fs z => by obtain ⟨xs, e, _⟩ := hR _ z; cases e) he hpl hsw
end
end CL
namespace CL
open PySem L2
/-- the def x stands in the text's module -/
structure DefAt (K : PySem.W.Frag) (mg : Str → Option Value) (x : Str) (st : Stmt) (ps : List Str) : Prop where
  ex : ∃ (f : Addr) (fd : FuncData), Fun K x x st f fd ∧ mg x = some (.ref f) ∧ Binds K fd ps []
/-- .. and keeps Z -/
structure Av (P : Program) (w : World) (K : PySem.W.Frag) (mg : Str → Option Value) (base : Heap) (CF : Addr) (n : Nat) (x : Str) (Z : Spec) : Prop where
  ex : ∃ (fa : Addr) (fd : FuncData) (ps : List Str), FnOk P w K mg base (L2.CX P w) n fa fd ps (spOf K CF Z) ∧ mg x = some (.ref fa) ∧ PySem.W.keepIn K (.ref fa) = true ∧ Binds K fd ps []
theorem DefAt.av {P : Program} {w : World} {K : PySem.W.Frag} {mg : Str → Option Value} {base : Heap} {CF : Addr} {n : Nat} {x : Str} {Z : Spec} {st : Stmt} {ps : List Str} (A : DefAt K mg x st ps)
    (h : ∀ f fd, Fun K x x st f fd → FnOk P w K mg base (L2.CX P w) n f fd ps (spOf K CF Z)) : Av P w K mg base CF n x Z := by
  obtain ⟨f, fd, F, m, b⟩ := A.ex
  exact ⟨f, fd, ps, h f fd F, m, F.kp, b⟩
section
variable {G : Gx} {N N' : List Str} {sc : Scope} {k : Nat}
theorem Cb.i (c : Cb G N sc k) : CtxI G := ⟨c.ndX, c.calm, c.hu⟩
theorem Ctx.pp (c : Ctx G N sc k) : PasI G := ⟨c.pas⟩
theorem Ctx.tt (c : Ctx G N sc k) : TkI G := ⟨c.tk, c.wish⟩
theorem Cb.cal (c : Cb G N sc k) {x : Str} {n : Nat} {Z : Spec} (v : glB N' sc = true) (A : Av G.X.prog G.X.w G.X.K G.X.mg G.X.base G.CF n x Z) (hn : n ≤ k) (hm : x ∈ N' := by simp) : CalI G x Z := by
  have z := List.all_eq_true.mp v x hm
  simp only [Bool.and_eq_true, decide_eq_true_eq, Bool.not_eq_true'] at z
  exact ⟨⟨n, ⟨A.ex⟩, c.room.mono hn⟩, c.gl v hm, z.1.2⟩
theorem Cb.nmi (c : Cb G N sc k) {i : Nat} {x : Str} (h : N[i]? = some x) (v : visB N' sc = true) (hm : x ∈ N' := by simp) : NmI G.X x i := ⟨c.nmP h hm v⟩
theorem Cb.nsli (c : Cb G N sc k) {i : Nat} {x : Str} (h : N[i]? = some x) (v : decide (sc.names.lookup x = some .local) = true) : NsI G.X x i := ⟨c.nsl h v⟩
theorem Ctx.nsi (c : Ctx G N sc k) {i : Nat} {x : Str} (h : N[i]? = some x) (v : locB N' sc = true) (hm : x ∈ N' := by simp) : NsI G.X x i := ⟨c.ns h v hm⟩
theorem Cb.bii (c : Cb G N sc k) {x : Str} {u : Value} (v : glB N' sc = true) (e : G.X.mg x = none) (hm : x ∈ N' := by simp) (hv : bootBuiltins x = some u := by decide +kernel) : BiI G.X x u := ⟨c.bi v e hm hv⟩
/-- a block's contexts, by what is known of them -/
structure Bc (B G : Gx) (N : List Str) (sc : Scope) (k : Nat) : Prop where
  cb : Cb B N sc k
  mg : ∀ x, B.X.mg x = G.X.mg x
  cal : ∀ x Z, CalI G x Z → Gl B.X x → CalI B x Z
  av : ∀ n x Z, Av G.X.prog G.X.w G.X.K G.X.mg G.X.base G.CF n x Z → Av B.X.prog B.X.w B.X.K B.X.mg B.X.base B.CF n x Z
  hK : B.X.K = G.X.K
  hCF : B.CF = G.CF
theorem blk_of (c : Cb G N sc k) {scope : Scope} {F : Gx → Prop} (h : ∀ B, Bc B G N (relS scope sc) k → F B) : Blk G scope F := fun s H C cl fp Oc =>
  h _ ⟨⟨c.hN, c.nd, by rw [← c.hsc]; rfl, c.calm, c.room⟩, fun _ => rfl, fun x Z A g => ⟨by obtain ⟨n, c, r⟩ := A.out; exact ⟨n, ⟨c.ex⟩, r⟩, g, A.db⟩, fun _ _ _ A => A, rfl, rfl⟩
theorem Bc.nmi {B : Gx} {N' : List Str} (b : Bc B G N sc k) {i : Nat} {x : Str} (h : N[i]? = some x) (v : visB [x] sc = true) : NmI B.X x i := b.cb.nmi h v (by simp)
theorem Bc.bii {B : Gx} (b : Bc B G N sc k) {x : Str} {u : Value} (w : BiI G.X x u) (v : glB [x] sc = true) : BiI B.X x u := ⟨⟨b.cb.gl v (by simp), by rw [b.mg]; exact w.out.m, w.out.v, w.out.n, w.out.d⟩⟩
theorem Bc.cali {B : Gx} (b : Bc B G N sc k) {x : Str} {Z : Spec} (w : CalI G x Z) (v : glB [x] sc = true) : CalI B x Z := b.cal x Z w (b.cb.gl v (by simp))
end
end CL

set_option Elab.async false
set_option linter.all false
set_option maxRecDepth 100000
set_option maxHeartbeats 4000000
namespace CL
open PySem L2 PySem.Spec PyProof.Rows HT
/-! ### t[::-1] -/
theorem fm_congr {α β : Type} {f g : α → Option β} : ∀ {xs : List α}, (∀ x ∈ xs, f x = g x) → xs.filterMap f = xs.filterMap g
  | [], _ => rfl
  | x :: xs, h => by
    rw [List.filterMap_cons, List.filterMap_cons, h x List.mem_cons_self, fm_congr fun y hy => h y (List.mem_cons_of_mem _ hy)]
theorem revPick (xs : Array Value) : ((List.range xs.size).filterMap fun (m : Nat) => xs[((xs.size : Int) - 1 + (m : Int) * -1).toNat]?).toArray = xs.toList.reverse.toArray := by
  have e := pick_gen xs.toList.reverse.toArray 0 xs.size
  rw [List.drop_zero, List.toList_toArray, List.take_of_length_le (by simp)] at e
  rw [← e]
  congr 1
  refine fm_congr fun m hm => ?_
  have := List.mem_range.mp hm
  have h1 : ((xs.size : Int) - 1 + (m : Int) * -1).toNat = xs.size - 1 - m := by omega
  have h2 : (((0 : Nat) : Int) + (m : Int) * 1).toNat = m := by omega
  rw [h1, h2]
  simp [List.getElem?_reverse, this]
theorem adjust_rev (n : Nat) : Builtin.Slice.sliceAdjust none none (-1) (n : Int) = ((n : Int) - 1, -1) := by
  unfold Builtin.Slice.sliceAdjust
  rfl
theorem places_rev (n : Nat) : Builtin.Slice.slicePlaces ((n : Int) - 1) (-1) (-1) = n := by
  unfold Builtin.Slice.slicePlaces
  have h1 : ¬ ((-1 : Int) > 0) := by omega
  simp only [h1, if_false]
  rw [show (- -1 : Int) = 1 by decide, Int.ediv_one]
  split <;> omega
section
variable {prog : Program} {w : World} {A : Around} {E : Value → Shared → Prop} {s : Shared}
theorem sliceApplied_rev {sl : Addr} {vl vu vs : Value} {n : Nat} {Q : Int × Int × Nat → Shared → Prop} (hs : s.heap.IsSliceOf sl vl vu vs) (pl : IsPart vl none) (pu : IsPart vu none) (ps : IsPart vs (some (-1)))
    (h : Q ((n : Int) - 1, -1, n) s) : wpAny (model prog w) A (Builtin.Slice.sliceApplied (.ref sl) (pure (n : Int))) Q E s := by
  obtain ⟨os, hos, hcs, hds⟩ := id hs
  unfold Builtin.Slice.sliceApplied Builtin.Slice.sliceFields
  refine wpAny_bind (wpAny_bind (wpAny_field hos hds (x := vl) rfl (wpAny_bind (wpAny_field hos hds (x := vu) rfl (wpAny_bind (wpAny_field hos hds (x := vs) rfl (wpAny_pure ?_)))))))
  refine wpAny_bind (slicePart_ ps ?_)
  show wpAny _ _ (if ((-1 : Int) == 0) = true then _ else _) _ _ s
  rw [if_neg (by decide)]
  refine wpAny_bind (slicePart_ pl (wpAny_bind (slicePart_ pu (wpAny_bind (wpAny_pure ?_)))))
  show wpAny _ _ (match Builtin.Slice.sliceAdjust none none (-1) (n : Int) with | (lo, hi) => pure (lo, (-1 : Int), Builtin.Slice.slicePlaces lo hi (-1))) _ _ s
  rw [adjust_rev n]
  show wpAny _ _ (pure ((n : Int) - 1, (-1 : Int), Builtin.Slice.slicePlaces ((n : Int) - 1) (-1) (-1))) _ _ s
  rw [places_rev]
  exact wpAny_pure h
theorem getItem_tuple_rev {t sl : Addr} {items : Array Value} {vl vu vs : Value} {Q : Value → Shared → Prop} (ht : IsTup s.heap t items) (hs : s.heap.IsSliceOf sl vl vu vs) (pl : IsPart vl none) (pu : IsPart vu none) (ps : IsPart vs (some (-1)))
    (h : Q (.ref s.heap.objs.size) { s with heap := s.heap.push { cls := .type "tuple", data := .seq items.toList.reverse.toArray } })
    (hsz : items.size ≤ sizeLine) : wpAny (model prog w) A (getItem (.ref t) (.ref sl)) Q E s := by
  have htake : sizeOk (.seq items.toList.reverse.toArray) := by
    show items.toList.reverse.toArray.size ≤ sizeLine
    rw [List.size_toArray, List.length_reverse, Array.length_toList]
    omega
  obtain ⟨os, hos, hcs, hds⟩ := id hs
  have hTs : s.TypeIs (.ref sl) "slice" := ⟨os, hos, hcs⟩
  unfold getItem
  try with_reducible refine wpAny_holding ?_
  first | refine wpAny_bind (wpAny_pure ?_) | skip
  refine wpAny_bind (wpAny_sequenceKey ht.typeIs (by decide) ?_)
  refine wpAny_bind (wpAny_callSpecial?_slot (name := Str.ofString "__getitem__") ht.typeIs PyProof.Rows.slot_tuple_getitem
    (wpAny_call_entry PyProof.Rows.slot_tuple_getitem ht.typeIs entry_tuple_getitem ?_ (args_tuple_getitem _ _)))
  show wpAny _ _ (Builtin.Tuple.tupleItemsOf (.ref t) >>= _) _ _ s
  refine wpAny_bind (tupleItemsOf_ ht ?_)
  refine wpAny_bind (wpAny_typeOf hTs ?_)
  rw [if_pos (by decide)]
  refine wpAny_bind (sliceApplied_rev hs pl pu ps ?_)
  have hno : ¬ ((((items.size : Int) - 1) == 0 && (-1 : Int) == 1 && items.size == items.size) = true) := by
    intro q
    rw [Bool.and_eq_true, Bool.and_eq_true] at q
    exact absurd q.1.2 (by decide)
  show wpAny _ _ (if (((items.size : Int) - 1) == 0 && (-1 : Int) == 1 && items.size == items.size) = true then _ else _) _ _ s
  rw [if_neg hno, revPick]
  first
    | exact wpAny_bind (m := Builtin.Tuple.tupleExact _) (wpAny_newObj_type (wpAny_pure ⟨_, rfl, wpAny_pure h⟩) htake)
    | exact wpAny_bind (m := Builtin.Tuple.tupleExact _) (wpAny_newObj_type (wpAny_bind (wpAny_pure (wpAny_pure ⟨_, rfl, wpAny_pure h⟩))) htake)
    | exact wpAny_bind (wpAny_bind (m := Builtin.Tuple.tupleExact _) (wpAny_newObj_type (wpAny_pure (wpAny_pure ⟨_, rfl, wpAny_pure h⟩)) htake))
    | exact wpAny_bind (wpAny_bind (m := Builtin.Tuple.tupleExact _) (wpAny_newObj_type (wpAny_pure ⟨_, rfl, wpAny_pure h⟩) htake))
end
section
variable {X : Cx}
def tRevT (K : PySem.W.Frag) (te : TE) : TE := fun σ H Q => te σ H fun x H1 => ∃ a xs, x = .ref a ∧ SqT K H1 a xs ∧ ∀ p, H1 p = none → Q (.ref p) (upd H1 p (.tup xs.reverse))
theorem pe_revT {e : Expr} {te : TE} {k : Nat} {p1 p2 p3 pos : Pos} (he : PE X e te) : PE X (.Subscript e (.Slice none none (some (.UnaryOp .USub (.Constant (.int 1) k p1) p2)) p3) pos) (tRevT X.K te) := by
  refine ⟨fun pins s σ H Q I h => ?_⟩
  refine Subscript_ (thn (he.run pins s σ H _ I h) fun v s1 ⟨x, H1, I1, r1, q1⟩ => ?_)
  obtain ⟨a, xs, ex, hx, q⟩ := q1
  subst ex
  cases r1
  have hst : PO X (some (.UnaryOp .USub (.Constant (.int 1) k p1) p2)) (tPart (tUn (rU fun i => .int (-i)) (tC (.int 1)))) := po_some (pe_un un_neg pe_int)
  refine wpAny_Slice (thn (po_none.run pins s1 σ H1 (fun o H2 => o = none ∧ H2 = H1) I1 ⟨rfl, rfl⟩) fun vl s2 ⟨l, H2, I2, pl, el, e2⟩ => ?_)
  subst el e2
  refine thn (po_none.run pins s2 σ H2 (fun o H3 => o = none ∧ H3 = H2) I2 ⟨rfl, rfl⟩) fun vu s3 ⟨u, H3, I3, pu, eu, e3⟩ => ?_
  subst eu e3
  refine thn (hst.run pins s3 σ H3 (fun o H4 => o = some (-1) ∧ H4 = H3) I3 ⟨1, rfl, -1, rfl, rfl, rfl⟩) fun vs s4 ⟨o, H4, I4, ps, eo, e4⟩ => ?_
  subst eo e4
  have I5 : Inv X pins σ H4 { s4 with heap := s4.heap.push { cls := .type "slice", data := .fields #[vl, vu, vs] } } := I4.kept (t' := s4.toks) fun b ob q => Heap.get?_push_of_some _ q
  obtain ⟨its, r, ht, hz⟩ := I5.tuple hx
  have hlen := r.length
  show wpAny (model X.prog X.w) X.A (subscriptTail e (.Slice none none (some (.UnaryOp .USub (.Constant (.int 1) k p1) p2)) p3) (.ref a) (.ref s4.heap.objs.size)) (EP X pins σ Q) X.xe { s4 with heap := s4.heap.push { cls := .type "slice", data := .fields #[vl, vu, vs] } }
  refine tail_any (ops := [.ref a, .ref s4.heap.objs.size]) ht.typeIs (PyProof.Rows.slot_tuple_getitem.lookup) ?_ (by with_unfolding_all rfl)
  refine getItem_tuple_rev ht (Heap.IsSliceOf.new _ vl vu vs) pl pu ps ?_ (by rw [List.size_toArray]; omega)
  refine ⟨.ref _, _, I5.laid (t' := s4.toks) (o := .tup xs.reverse) (fun b ob q => Heap.get?_push_of_some _ q) (Nat.le_refl _) ?_, rfl, q _ (I5.hok.fresh (Nat.le_refl _))⟩
  exact ⟨by rw [List.length_reverse]; exact hz, _, r.reverse, IsTup.new _ _⟩
end
section
variable {G : Gx} {S : List Sd} {a : Expr} {ds : List D} {pos : Pos} {s : Prop}
theorem ev_revT {k0 : Nat} {p1 p2 p3 : Pos} (ha : Ev G S a (.tup ds)) : Ev G S (.Subscript a (.Slice none none (some (.UnaryOp .USub (.Constant (.int 1) k0 p1) p2)) p3) pos) (.tup ds.reverse) := fun σ H s Q q => by
  refine eWE (pe_revT we) (ha σ H s _ fun v H1 e1 r => ?_)
  obtain ⟨p, vs, rfl, sq, r⟩ := r.tup
  refine ⟨p, vs, rfl, sq.t, fun t ht => q _ _ (e1.trans (Ex.new ht)) ?_⟩
  exact rep_tup (Seq.ofT upd_same ((s.ex e1).fresh ht)) (Reps.mono (Le.ex (Ex.new ht)) _ _ r.reverse)
instance (priority := 2000) r_revT {k0 : Nat} {p1 p2 p3 : Pos} [h : EvR G S a (.tup ds) s] : EvR G S (.Subscript a (.Slice none none (some (.UnaryOp .USub (.Constant (.int 1) k0 p1) p2)) p3) pos) (.tup ds.reverse) s := ⟨fun w => ev_revT (h.out w)⟩
variable {b : Expr} {es : List Expr} {p1 : Pos}
instance (priority := 2000) r_lsMul [h : EvRL G S (.BinOp (.List es p1) .Mult b pos) ds s] : EvR G S (.BinOp (.List es p1) .Mult b pos) (.lst ds) s := ⟨fun w => (h.out w).ev⟩
instance (priority := 2000) q_lsMul [h : EvRL G S (.BinOp (.List es p1) .Mult b pos) ds s] : EvRQ G S (.BinOp (.List es p1) .Mult b pos) true ds s := ⟨fun w => (h.out w).q⟩
instance (priority := 2000) r_lsAdd [h : EvRL G S (.BinOp (.List es p1) .Add b pos) ds s] : EvR G S (.BinOp (.List es p1) .Add b pos) (.lst ds) s := ⟨fun w => (h.out w).ev⟩
instance (priority := 2000) q_lsAdd [h : EvRL G S (.BinOp (.List es p1) .Add b pos) ds s] : EvRQ G S (.BinOp (.List es p1) .Add b pos) true ds s := ⟨fun w => (h.out w).q⟩
end
/-! ### sorted(ints) -/
def srt (xs : List Int) : List Int := xs.mergeSort fun a b => decide (a ≤ b)
theorem srt_perm (xs : List Int) : (srt xs).Perm xs := List.mergeSort_perm _ _
theorem srt_ord (xs : List Int) : (srt xs).Pairwise (· ≤ ·) :=
  (List.pairwise_mergeSort (le := fun a b : Int => decide (a ≤ b)) (fun a b c h1 h2 => by simp at *; omega) (fun a b => by simp; omega) xs).imp fun h => of_decide_eq_true h
theorem srt_is {xs ys : List Int} (p : ys.Perm xs) (o : ys.Pairwise (· ≤ ·)) : ys = srt xs :=
  List.Perm.eq_of_pairwise (le := (· ≤ ·)) (fun a b _ _ h1 h2 => Int.le_antisymm h1 h2) o (srt_ord xs) (p.trans (srt_perm xs).symm)
section
variable {G : Gx} {S : List Sd} {a iter : Expr} {xs : List Int} {pos : Pos} {s : Prop} {P : Po} {body rest : List Stmt} {v : Str} {j : Nat} {k : Bool} {ds : List D}
theorem reps_ints {K : PySem.W.Frag} {CF : Addr} {O : Addr → Prop} {H : Hp} : ∀ {xs : List Int} {vs : List V}, Reps K CF O H (xs.map .int) vs → vs = xs.map V.int
  | [], _, h => h
  | x :: xs, _, ⟨y, ys, e, r, rs⟩ => by
    rw [e, r.int, reps_ints rs]; rfl
theorem reps_ofInts {K : PySem.W.Frag} {CF : Addr} {O : Addr → Prop} {H : Hp} : ∀ (xs : List Int), Reps K CF O H (xs.map .int) (xs.map V.int)
  | [] => rfl
  | x :: xs => ⟨_, _, rfl, rep_int _, reps_ofInts xs⟩
theorem evL_sorted {p : Pos} (B : Bi G.X "sorted" (.builtin "sorted")) (ha : EvQ G S a true (xs.map .int))
    (he : starEach [a] G.X.env = (false, eval a G.X.env) :: starEach [] G.X.env := by rfl) (hpl : (backTo pos (starEach [] G.X.env)).any (·.1) = false := by rfl) : EvL G S (.Call (.Name "sorted" p) [a] [] pos) ((srt xs).map .int) := fun σ H s Q q =>
  eWE (pe_callB cr_sortedI B.g B.m B.v (pa_cons we pa_nil he) B.n B.d he hpl) (ha σ H s _ fun t vs H1 e1 sq r => ⟨t, xs, rfl, by
    rw [reps_ints r] at sq
    exact SqL.of sq, fun ns' l hp ho hl => by
    rw [srt_is hp ho]
    exact q l _ _ (e1.free hl) (e1.trans (Ex.new hl)) upd_same (reps_ofInts _)⟩)
/-- a loop over what is told -/
theorem go_forE {α : Type} {pv : Pos} (inj : α → D) (as : List α) (I : Nat → List Sd → Prop) [n : NsI G.X v j] [q : CtxI G] [pp : PasI G] (h : EvL G S iter (as.map inj)) (h0 : I 0 S)
    (turn : ∀ (g : (Addr → Prop) → Hp → Prop) i a S', as[i]? = some a → I i S' → Run (G.with g) (S'.set j (.dat (inj a))) body { nx := I (i + 1), ct := I (i + 1), bk := fun S' => Run G S' rest P, rt := P.rt })
    (done : ∀ S', I as.length S' → Run G S' rest P) (hf : ∀ x, foldedSetIterable iter G.X.env x = pure x := by intro _; rfl) : Run G S (.For (.Name v pv) iter body [] pos :: rest) P := by
  haveI : EvR G S iter (.lst (as.map inj)) True := ⟨fun _ => h.ev⟩
  exact go_for inj as I trivial rfl h0 turn done hf
end
end CL

set_option Elab.async false
set_option linter.all false
set_option maxRecDepth 100000
set_option maxHeartbeats 4000000
namespace CL
open PySem L2 PySem.Spec PyProof.Rows PySem.W PySem.Calls
def IsI (v : Value) (x : Int) : Prop := ∃ t, v = .int x t
theorem isI_each : ∀ {vs : List Value} {ks : List Int}, IntsAre vs ks → EachIs IsI vs ks
  | _, _, .nil => .nil
  | _, _, .cons _ t h => .cons ⟨t, rfl⟩ (isI_each h)
theorem each_isI : ∀ {vs : List Value} {ks : List Int}, EachIs IsI vs ks → IntsAre vs ks
  | _, _, .nil => .nil
  | _, _, .cons ⟨t, e⟩ h => by subst e; exact .cons _ t (each_isI h)
def szI (x : Int) : Int := if x < 0 then -x else x
def srtA (xs : List Int) : List Int := xs.mergeSort fun a b => decide (szI a ≤ szI b)
theorem srtA_perm (xs : List Int) : (srtA xs).Perm xs := List.mergeSort_perm _ _
theorem srtA_ord (xs : List Int) : (srtA xs).Pairwise fun a b => szI a ≤ szI b :=
  (List.pairwise_mergeSort (le := fun a b : Int => decide (szI a ≤ szI b)) (fun a b c h1 h2 => by simp at *; omega) (fun a b => by simp; omega) xs).imp fun h => of_decide_eq_true h
section
variable {X : Cx} {p p2 pos kpos : Pos} {e : Expr} {td : TE}
/-- sorted(d, key=abs), d's keys ints -/
def rSrtA : List V → Hp → VK → Prop := fun vs H1 Q => ∃ (a : Addr) (kvs : List (Key × V)) (ks : List Int), vs = [.ref a] ∧ Rd H1 a (.dK kvs) ∧ kvs.map (·.1) = ks.map Sum.inl ∧
  ∀ (p : Addr), H1 p = none → Q (.ref p) (upd H1 p (.lst ((srtA ks).map V.int)))
def tSrtA (td : TE) : TE := fun σ H Q => td σ H fun x H1 => rSrtA [x] H1 Q
theorem pe_sortedAbs (hcalm : X.calm = true) (hu : X.A.units + 64 < cLine) (hg : Gl X "sorted") (hm : X.mg "sorted" = none) (hga : Gl X "abs") (hma : X.mg "abs" = none) (he : PE X e td)
    (hes : starEach [e] X.env = (false, eval e X.env) :: starEach [] X.env := by rfl) : PE X (.Call (.Name "sorted" p) [e] [⟨some "key", .Name "abs" p2, kpos⟩] pos) (tSrtA td) := by
  refine ⟨fun pins s σ H Q I h => ?_⟩
  have bS : bootBuiltins (Str.ofString "sorted") = some (.builtin "sorted") := by decide +kernel
  have bA : bootBuiltins (Str.ofString "abs") = some (.builtin "abs") := by decide +kernel
  refine wpAny_Call_Name_kw (ld_blt I hg hm bS ?_ (by decide) (by decide))
  refine PyProof.Rows.callWith_kw (thn ((pa_cons he pa_nil hes).run pos pins s σ H (fun vs H1 => rSrtA vs H1 Q) I h) fun us s1 ⟨vs, H1, I1, r1, q1⟩ => ?_) (by rw [hes]; rfl) (by rw [hes]; rfl) rfl rfl
  show wpAny _ _ (evalAll [(do let v ← eval (.Name "abs" p2) X.env; standAt pos; pure v)]) _ _ s1
  refine wpAny_evalAll_cons (wpAny_bind (ld_blt I1 hga hma bA (wpAny_bind (wpAny_standAt (wpAny_pure ?_))) (by decide) (by decide)))
  refine wpAny_evalAll_nil ?_
  obtain ⟨a, kvs, ks, ex, hd, hks, q⟩ := q1
  subst ex
  obtain ⟨u, eu, rx⟩ := vals1 r1
  subst eu
  cases rx
  show wpAny (model X.prog X.w) X.A (call (.builtin "sorted") [.ref a] [(Str.ofString "key", .builtin "abs")]) (EP X pins σ Q) X.xe s1
  obtain ⟨z, lo, vs, rel, dd⟩ := dk_rd I1.hok hd
  obtain ⟨ep, hat⟩ := dd.dictAt
  have hkeys : vs.map (·.1) = ks.map Sum.inl := rel.keys.symm.trans hks
  have hl : vs.length = ks.length := by
    have e := congrArg List.length hkeys
    rw [List.length_map, List.length_map] at e
    exact e
  have h16 : vs.length ≤ sizeLine := by rw [← rel.length]; exact z
  refine call_function_entry_kw PyProof.Rows.kind_sorted PyProof.Rows.plain_sorted PyProof.Rows.entry_sorted (ksk_s1 _ _) ?_
  unfold Builtin.«sorted»
  refine wpAny_bind (m := checkCount "sorted" 1 1 _) (wpAny_pure ?_)
  refine wpAny_bind (PySem.W.kdu_collect (A := X.A.in1) (PySem.W.kdl_dict (knd := mixKind X.prog X.w) (kvs := vs) (ep := ep) lo) (I1.ok.hd hcalm) hat h16 fun h' tk acc hk hacc => ?_)
  have hal : acc.toList.length = ks.length := by rw [Array.length_toList, hacc.1, hl]
  have hS : IntsAre acc.toList ks := ints_each hal fun j v e => by
    obtain ⟨k, x, e1, e2⟩ := hacc.2 j v (by rw [← Array.getElem?_toList]; exact e)
    have e3 : (vs.map (·.1))[j]? = some k := by rw [List.getElem?_map, e1]; rfl
    rw [hkeys, List.getElem?_map] at e3
    cases e4 : ks[j]? with
    | none => rw [e4] at e3; cases e3
    | some y =>
      rw [e4] at e3
      have e5 : Sum.inl y = k := Option.some.inj e3
      subst e5
      rcases keyIs_shape (show keyIs (Sum.inl y) v = true from e2) with ⟨i, t, ek, ev⟩ | ⟨z, t, ek, ev⟩
      · cases ek
        exact ⟨y, t, rfl, ev⟩
      · cases ek
  have hzk : ks.length ≤ sizeLine := by rw [← hl]; exact h16
  have I2 : Inv X pins σ H1 { s1 with heap := h', toks := tk } := I1.kept hk
  refine wpAny_bind (wpAny_newList ?_ (by rw [hal]; exact hzk))
  have hoL : (h'.push (seqObj "list" acc.toList.toArray 0)).get? h'.objs.size = some (seqObj "list" acc.toList.toArray 0) := Heap.get?_push_size _ rfl
  show wpAny _ _ _ _ _ { s1 with heap := h'.push (seqObj "list" acc.toList.toArray 0), toks := tk }
  have e := isI_each hS
  have eD : (fun x : Int => PyData.int (szI x)) = fun x => .int (szI x) := rfl
  refine wpAny_bind (wpAny_holding (wpAny_call_entry_kw PyProof.Rows.slot_list_sort ⟨_, hoL, rfl⟩ PyProof.Rows.entry_list_sort ?body (ksk_l1 _ _)))
  case body =>
    show wpAny _ _ (Builtin.«list.sort» ⟨[.ref h'.objs.size], [(Str.ofString "key", .builtin "abs")]⟩) _ _ _
    rw [ksk_t4]
    refine keyH_tree (kz := ks.map fun x => .int (szI x)) (s := { s1 with heap := h'.push (seqObj "list" acc.toList.toArray 0), toks := tk }) hoL (by rw [List.length_map, hal]) (by rw [hal]; exact hzk)
      (AllAlike.of fun _ _ => by simp [alike, alikeAll]) (Or.inr fun d hd => ?_) (fun d hd => ?_) (keyH_turns e fun v x ⟨t, ev⟩ hx h tk kp => ?_) fun h2 tk2 out c kp hD ko => ⟨_, rfl, ?_⟩
    · obtain ⟨i, _, rfl⟩ := List.mem_map.mp hd
      exact ⟨fun z => (by cases z), fun xs z => (by cases z)⟩
    · obtain ⟨i, _, rfl⟩ := List.mem_map.mp hd
      show X.A.in1.in1.units + (PyData.int _).depth < cLine
      have : (PyData.int (szI i)).depth = 0 := by simp [PyData.depth]
      rw [this]
      show X.A.units + 1 + 1 + 0 < cLine
      omega
    · subst ev
      exact call_abs_int fun u tk' => ⟨h, tk', rfl, fun b o q => q, Reads.int _ _⟩
    · have hout := each_isI (keyedOut_each (fun x : Int => PyData.int (szI x)) ko e)
      rw [dataLe_int szI] at hout
      have hlen : ((srtA ks).map V.int).length ≤ sizeLine := by
        rw [List.length_map, (srtA_perm ks).length_eq]
        exact hzk
      refine wpAny_pure ⟨_, rfl, .ref h'.objs.size, upd H1 h'.objs.size (.lst ((srtA ks).map V.int)), I2.laid (t' := tk2) (fun b u e => ?_) (Nat.le_refl _)
        (show ObjOk X.prog X.w _ _ _ (.lst ((srtA ks).map V.int)) from ⟨hlen, out, c, vals_of_ints hout, hD⟩), rfl, q _ (I2.hok.fresh (Nat.le_refl _))⟩
      exact kp b u (Nat.ne_of_lt (Heap.lt_size e)) (Heap.get?_push_of_some _ e)
end
end CL

set_option Elab.async false
set_option linter.all false
set_option maxRecDepth 100000
set_option maxHeartbeats 4000000
namespace CL
open PySem L2
/-! ### own exceptions of one field -/
/-- what __init__(self, v): self.f = v promises -/
def spX (K : PySem.W.Frag) (C : Addr) (f : Str) : Sp := fun vs H Q _ => ∃ (a : Addr) (v : V), vs = [.ref a, v] ∧ OexC K C ∧ PySem.W.findIn K (.ref C) f = some none ∧ H a = some (exo a C none) ∧
  ∀ dx, H dx = none → dx ≠ a → Q .non (upd (upd H dx (exd dx [(f, v)])) a (exo a C (some dx)))
theorem init_ok {P : Program} {w : World} {K : PySem.W.Frag} {mg : Str → Option Value} {base : Heap} {x qual sf vf f : Str} {st : Stmt} {fa : Addr} {fd : FuncData} {k : Nat} {C : Addr} {p1 p2 p3 p4 : Pos} (F : Fun K x qual st fa fd) (Sc : FnScope [sf, vf] [sf, vf] (defScope st))
    (hb : defBody st = [.Assign [.Attribute (.Name sf p1) f p2] (.Name vf p3) p4]) (vs : visB [sf, vf] (defScope st) = true)
    (hsw : ∀ (X : Cx), swapsWith (.Name vf p3) (some (.Attribute (.Name sf p1) f p2)) p4.line X.env = pure false) : FnOk P w K mg base (L2.CX P w) (k + 1) fa fd [sf, vf] (spX K C f) := by
  refine F.okX Sc (fun vs H Q E h => by obtain ⟨a, v, rfl, _⟩ := h; rfl) (fun cdv A outer s H us Q E hr h => ?_)
  obtain ⟨a, v, rfl, T, hf, ha, q⟩ := h
  rw [hb]
  let X := cxOf (L2.CX P w) P w K mg base [sf, vf] qual (defScope st) fa cdv A outer s H E
  have c : Cb (⟨X, C, fun _ => False, H, [], fun _ _ _ _ => True, fun _ _ _ => True⟩ : Gx) [sf, vf] (defScope st) k := ⟨rfl, Sc.nd, rfl, rfl, hr⟩
  have n0 : Nm X 0 sf := c.nmP rfl (by simp) vs
  have n1 : Nm X 1 vf := c.nmP rfl (by simp) vs
  refine ⟨_, wb, ?_⟩
  refine eWB (pss_cons (ps_ost (pe_var n0.n n0.v n0.d n0.c) (pe_var n1.n n1.v n1.d n1.c) (hsw X)) pss_nil) ?_
  refine ⟨v, rfl, .ref a, rfl, a, C, rfl, T, hf, .inl ⟨ha, fun dx h1 h2 => ?_⟩⟩
  exact q dx h1 h2
/-- a class of exceptions of one field -/
structure Xc (X : Cx) (x : Str) (C : Addr) (f : Str) : Prop where
  g : Gl X x
  d : (x == ("__debug__" : Str)) = false
  m : X.mg x = some (.ref C)
  T : OexC X.K C
  F : PySem.W.findIn X.K (.ref C) f = some none
  i : ∃ (fI : Addr) (fd : FuncData) (ps : List Str) (k : Nat), PySem.W.findIn X.K (.ref C) "__init__" = some (some (.ref fI)) ∧ PySem.W.typeIn X.K (.ref fI) = some (.type "function") ∧ FnOk X.prog X.w X.K X.mg X.base (L2.CX X.prog X.w) k fI fd ps (spX X.K C f) ∧ Room (k + 1) X.A ∧ Binds X.K fd ps []
class XcI (G : Gx) (x : Str) (C : outParam Addr) (f : outParam Str) : Prop where out : Xc G.X x C f
section
variable {G : Gx} {S : List Sd} {e : Expr} {d : D} {pos : Pos} {P : Po} {sts : List Stmt} {f x : Str} {C : Addr} {s : Prop}
theorem runS_raise {p : Pos} (W : Xc G.X x C f) (tk : Takes G.X G.W) (wish : G.wishes) (calm : G.X.calm = true) (h : Ev G S e d) (q : G.ex S C [(f, d)])
    (he : starEach [e] G.X.env = (false, eval e G.X.env) :: starEach [] G.X.env := by rfl) (hpl : (backTo pos (starEach [] G.X.env)).any (·.1) = false := by rfl) {rpos : Pos} : RunS G S (.Raise (some (.Call (.Name x p) [e] [] pos)) none rpos) P := fun σ H s => by
  obtain ⟨fI, fd, ps, k, iC, tI, F1, hr, hb⟩ := W.i
  refine eWS (ps_raise calm tk (pmk_oex W.T iC tI F1 hr hb .nil (fun pins σ H s e s' I c => passes_call tk (E := fun _ _ _ => False) (fun _ _ _ _ h => h.elim) pins σ H s e s' I c) W.g W.m (pa_cons we pa_nil he) W.d he hpl)) ?_
  · refine h σ H s _ fun v H1 e1 r => ⟨by simp, fun a ha => ?_⟩
    refine ⟨a, v, rfl, W.T, W.F, upd_same, fun dx h1 h2 => ⟨rfl, dx, [(f, v)], upd_same, ?_, ?_, ?_⟩⟩
    · rw [upd_ne (Ne.symm (Ne.symm h2)), upd_same]
    · rw [upd_ne h2] at h1
      exact h1
    · have hdx : H1 dx = none := by rw [upd_ne h2] at h1; exact h1
      refine wish S σ H C [(f, d)] dx [(f, v)] _ s q (fun b o eb => ?_) (e1.free hdx) upd_same ⟨rfl, v, [], rfl, ?_, rfl⟩
      · have hb1 : H1 b = some o := e1 b o eb
        have n1 : b ≠ dx := ne_of_none hb1 hdx
        have n2 : b ≠ a := ne_of_none hb1 ha
        rw [upd_ne n1, del_ne n2, upd_ne n2, upd_ne n1, upd_ne n2]
        exact hb1
      · refine Rep.mono (fun b o eb no => ⟨?_, no⟩) _ _ r
        have n1 : b ≠ dx := ne_of_none eb hdx
        have n2 : b ≠ a := ne_of_none eb ha
        rw [upd_ne n1, del_ne n2, upd_ne n2, upd_ne n1, upd_ne n2]
        exact eb
theorem go_raise {rest : List Stmt} {p : Pos} [q : CtxI G] [T : TkI G] [W : XcI G x C f] [h : EvR G S e d s] (hs : s) (k : G.ex S C [(f, d)])
    (he : starEach [e] G.X.env = (false, eval e G.X.env) :: starEach [] G.X.env := by rfl) (hpl : (backTo pos (starEach [] G.X.env)).any (·.1) = false := by rfl) {rpos : Pos} : Run G S (.Raise (some (.Call (.Name x p) [e] [] pos)) none rpos :: rest) P :=
  run_cons (runS_raise W.out T.tk T.wish q.calm (h.out hs) k he hpl)
end
end CL

set_option Elab.async false
set_option linter.all false
set_option maxRecDepth 100000
set_option maxHeartbeats 4000000
namespace CL
open PySem L2
/-- the context of a try's body -/
abbrev Gx.trG (G : Gx) (pn : List (Addr × Obj)) (xe : Value → Shared → Prop) (W : WX) (E : List Sd → Addr → List (Str × D) → Prop) : Gx := { G with X := G.X.tr pn xe, W := W, ex := E }
/-- .. of a handler's suite -/
abbrev Gx.suG (G : Gx) (a : Addr) (oe : Obj) (pn : List (Addr × Obj)) : Gx := { G with X := G.X.suite a ((a, oe) :: pn), W := fun _ _ _ _ => False, ex := fun _ _ _ => False }
class TrI (G : Gx) : Prop where
  hs : G.X.stack = G.X.env :: G.X.outer
  hf : G.X.env.frame = some G.X.env.locals
class ZcI (oe : Obj) (C : outParam Addr) (dd : outParam Addr) : Prop where
  z : Zc (.ref C) (some dd) oe
  f : ∃ vs, oe.data = .fields vs
section
variable {G : Gx} {X : Cx} {S : List Sd} {e : Expr} {d : D} {pos : Pos} {P : Po} {sts body suite : List Stmt} {b₀ : Stmt} {f x n : Str} {C : Addr} {s : Prop} {i : Nat} {u : Value} {pn : List (Addr × Obj)} {xe : Value → Shared → Prop} {W : WX} {E : List Sd → Addr → List (Str × D) → Prop} {a : Addr} {oe : Obj} {Z : Spec}
instance t_nm [c : NmI X x i] : NmI (X.tr pn xe) x i := ⟨⟨c.out.n, c.out.v, c.out.d, c.out.c⟩⟩
instance t_ns [c : NsI X x i] : NsI (X.tr pn xe) x i := ⟨⟨c.out.n, c.out.l, c.out.f⟩⟩
instance t_bi [c : BiI X x u] : BiI (X.tr pn xe) x u := ⟨⟨c.out.g, c.out.m, c.out.v, c.out.n, c.out.d⟩⟩
instance t_ctx [c : CtxI G] : CtxI (G.trG pn xe W E) := ⟨c.nd, c.calm, c.hu⟩
instance t_cal [c : CalI G f Z] : CalI (G.trG pn xe W E) f Z := ⟨by obtain ⟨n, c, r⟩ := c.out; exact ⟨n, ⟨c.ex⟩, r⟩, c.gl, c.db⟩
instance s_nm {pq : List (Addr × Obj)} [c : NmI X x i] : NmI (X.suite a pq) x i := ⟨⟨c.out.n, c.out.v, c.out.d, c.out.c⟩⟩
instance s_ns {pq : List (Addr × Obj)} [c : NsI X x i] : NsI (X.suite a pq) x i := ⟨⟨c.out.n, c.out.l, c.out.f⟩⟩
instance s_bi {pq : List (Addr × Obj)} [c : BiI X x u] : BiI (X.suite a pq) x u := ⟨⟨c.out.g, c.out.m, c.out.v, c.out.n, c.out.d⟩⟩
theorem Sat.setExc {K : PySem.W.Frag} {CF : Addr} {Oc : Addr → Prop} {H H0 : Hp} {Gh : List ((Addr → Prop) → Hp → Prop)} {σ : L2.St} {a dd : Addr} {fs : List (Str × D)} {fv : List (Str × V)} (h : Sat K CF Oc H0 Gh S σ H) (hd : H dd = some (.xd fv)) (no : ¬ Ow Oc S σ dd) (r : FR K CF (Ow Oc S σ) H fs fv) :
    Sat K CF Oc H0 Gh (S.set i (.exc a dd fs)) (σ.set i (some (.ref a))) H := by
  have sub : ∀ b, Ow Oc (S.set i (.exc a dd fs)) (σ.set i (some (.ref a))) b → Ow Oc S σ b := fun b o => by
    rcases o with o | ⟨j, o⟩
    · exact .inl o
    · rcases ownAt_set o with ⟨_, m, _⟩ | ⟨_, o⟩
      · cases m
      · exact .inr ⟨j, o⟩
  have ow : ∀ j b, OwnAt (S.set i (.exc a dd fs)) (σ.set i (some (.ref a))) j b → OwnAt S σ j b := fun j b o => by
    rcases ownAt_set o with ⟨_, m, _⟩ | ⟨_, o⟩
    · cases m
    · exact o
  refine ⟨by simp [h.len], h.base, h.oc, fun j a o => h.own j a (ow j a o), fun j k a o1 o2 => h.inj j k a (ow j a o1) (ow k a o2), fun j s hs => ?_, fun p hp => h.gs p hp _ _ _ _ (Le.sub sub) (h.gh p hp), h.gs⟩
  by_cases q : j = i
  · subst q
    rw [List.getElem?_set, if_pos rfl] at hs
    split at hs
    · rename_i hl
      cases hs
      exact ⟨some (.ref a), by rw [List.getElem?_set_self (by rw [h.len]; exact hl)], rfl, fv, hd, fun z => no (sub _ z), r.1, Reps.mono (Le.sub sub) _ _ r.2⟩
    · cases hs
  · rw [List.getElem?_set_ne (Ne.symm q)] at hs
    obtain ⟨w, e, t⟩ := h.slot j s hs
    refine ⟨w, by rw [List.getElem?_set_ne (Ne.symm q)]; exact e, ?_⟩
    by_cases m : s.mine = true
    · cases s with
      | non => cases m
      | dat _ => cases m
      | own ds =>
        obtain ⟨a, xs, e1, e2, r2⟩ := t
        exact ⟨a, xs, e1, e2, Reps.mono (Le.sub sub) _ _ r2⟩
      | dct ds =>
        obtain ⟨a, xs, e1, e2, z, r2⟩ := t
        exact ⟨a, xs, e1, e2, z, Reps.mono (Le.sub sub) _ _ r2⟩
      | ins a ds =>
        obtain ⟨dx, xs, e1, e2, z, r2⟩ := t
        exact ⟨dx, xs, e1, e2, z, Reps.mono (Le.sub sub) _ _ r2⟩
      | exc _ _ _ => cases m
    · exact t.mono (Le.sub sub) (by simpa using m)
theorem runS_tryAs {np pos pos' : Pos} {c : Value} (T : TrI G) (q : CtxI G) (pp : PasI G) (tk : TkI G) (ni : G.X.N[i]? = some n) (hln : G.X.env.kindOf n = some .local) (hc : Names G.X x c) (E : List Sd → Addr → List (Str × D) → Prop)
    (hb : ∀ pn xe W, TkI (G.trG pn xe W E) → PasI (G.trG pn xe W E) → Run (G.trG pn xe W E) S body P)
    (hh : ∀ S C fs, E S C fs → (PySem.W.exmOne G.X.K (.ref C) c = some true ∧ ∀ a oe dd pn, ZcI oe C dd → Run (G.suG a oe pn) (S.set i (.exc a dd fs)) (b₀ :: suite) { nx := fun S' => P.nx (S'.set i .non), rt := P.rt, bk := fun S' => P.bk (S'.set i .non), ct := fun S' => P.ct (S'.set i .non) }) ∨
      (PySem.W.exmOne G.X.K (.ref C) c = some false ∧ G.ex S C fs)) :
    RunS G S (.Try body [.ExceptHandler (some (.Name x np)) (some n) (b₀ :: suite) pos'] [] [] pos) P := fun σ H s => by
  refine eWS (ps_try_as (Wout := G.W) (i := i) (tb := fun W D σ H => ∀ pn xe, Takes (G.X.tr pn xe) W → PassesOwn (model G.X.prog G.X.w) G.X.A G.X.env xe → WB (G.X.tr pn xe) body D σ H)
    (ts := fun a cls d D σ H => ∀ oe pn, Zc cls d oe → (∃ vs, oe.data = .fields vs) → WB (G.X.suite a ((a, oe) :: pn)) (b₀ :: suite) D σ H) T.hs T.hf q.nd ni hln hc tk.tk
    (fun W pn xe t p => ⟨fun pins s σ H D I h => (h pn xe t p).at pins s I⟩) (fun a oe cls d pn z f => ⟨fun pins s σ H D I h => (h oe pn z f).at pins s I⟩)) ?_
  intro pn xe t p
  refine hb pn xe _ ⟨t, fun S σ H C fs dd fv H' s ex e hd0 hd1 r => ?_⟩ ⟨p⟩ σ H s
  have s1 : G.sat S σ H' := Sat.ex s e
  rcases hh S C fs ex with ⟨h1, h2⟩ | ⟨h1, h2⟩
  · refine ⟨true, h1, fun _ a ha oe pn z f => ?_, fun z => by cases z⟩
    have run := h2 a oe dd pn ⟨z, f⟩ (σ.set i (some (.ref a))) H' (s1.setExc hd1 (fun w => s.known w hd0) r)
    refine WB.mono (D1 := (G.suG a oe pn).ends { nx := fun S' => P.nx (S'.set i .non), rt := P.rt, bk := fun S' => P.bk (S'.set i .non), ct := fun S' => P.ct (S'.set i .non) }) (fun σ' H' z => ?_) (fun v H' z => z) (fun σ' H' z => ?_) (fun σ' H' z => ?_) run
    · obtain ⟨S', s', q⟩ := z; exact ⟨_, Sat.setNon s', q⟩
    · obtain ⟨S', s', q⟩ := z; exact ⟨_, Sat.setNon s', q⟩
    · obtain ⟨S', s', q⟩ := z; exact ⟨_, Sat.setNon s', q⟩
  · exact ⟨false, h1, fun z => (by cases z), fun _ => tk.wish S σ H C fs dd fv H' s h2 e hd0 hd1 r⟩
/-- a field of the exception that is caught -/
theorem ev_field {dd : Addr} {p : Pos} [z : ZcI oe C dd] (T : XfC G.X.K C) (hf : PySem.W.findIn G.X.K (.ref C) f = some none) (nm : Nm G.X i n) (hS : S[i]? = some (.exc a dd [(f, d)]))
    (hb : attributeBase (.Name n p) f G.X.env (eval (.Name n p) G.X.env) = eval (.Name n p) G.X.env) : Ev (G.suG a oe pn) S (.Attribute (.Name n p) f pos) d := fun σ H s Q q => by
  obtain ⟨v, e1, ev, ps, hd, no, hk, r⟩ := s.slot i _ hS
  subst ev
  refine eWE (pe_xf T hf z.z z.f (pe_var nm.n nm.v nm.d nm.c) hb) ⟨.ref a, e1, rfl, rfl, dd, ps, ?_⟩
  match ps, hk, r with
  | [(g, w)], hk, r =>
    obtain ⟨y, ys, e2, ry, _⟩ := r
    simp at hk e2
    obtain ⟨rfl, _⟩ := e2
    subst hk
    exact ⟨w, rfl, hd, by simp [List.lookup], q w H Ex.rfl ry⟩
class ExF (fs : List (Str × D)) (f : Str) (d : outParam D) : Prop where out : fs = [(f, d)]
instance : ExF [(f, d)] f d := ⟨rfl⟩
class XfI (G : Gx) (C : Addr) (f : Str) : Prop where
  T : XfC G.X.K C
  F : PySem.W.findIn G.X.K (.ref C) f = some none
  me : PySem.W.exmOne G.X.K (.ref C) (.ref C) = some true
instance (priority := 3000) r_field {dd : Addr} {p : Pos} {fs : List (Str × D)} [z : ZcI oe C dd] [T : XfI G C f] [nm : NmI G.X n i] [h : AtC S i (.exc a dd fs)] [w : ExF fs f d] : EvR (G.suG a oe pn) S (.Attribute (.Name n p) f pos) d (attributeBase (.Name n p) f G.X.env (eval (.Name n p) G.X.env) = eval (.Name n p) G.X.env) :=
  ⟨fun hb => ev_field T.T T.F nm.out (by rw [h.out, w.out]) hb⟩
theorem go_tryAs {np pos' : Pos} {rest : List Stmt} (T : TrI G) [q : CtxI G] [pp : PasI G] [tk : TkI G] [ni : NmI G.X n i] [W : XcI G x C f] (hln : G.X.env.kindOf n = some .local) (E : List Sd → Addr → List (Str × D) → Prop)
    (hb : ∀ pn xe W, TkI (G.trG pn xe W E) → PasI (G.trG pn xe W E) → Run (G.trG pn xe W E) S body { P with nx := fun S' => Run G S' rest P })
    (hh : ∀ S C' fs, E S C' fs → (PySem.W.exmOne G.X.K (.ref C') (.ref C) = some true ∧ ∀ a oe dd pn, ZcI oe C' dd → Run (G.suG a oe pn) (S.set i (.exc a dd fs)) (b₀ :: suite) { nx := fun S' => Run G (S'.set i .non) rest P, rt := P.rt, bk := fun S' => P.bk (S'.set i .non), ct := fun S' => P.ct (S'.set i .non) }) ∨
      (PySem.W.exmOne G.X.K (.ref C') (.ref C) = some false ∧ G.ex S C' fs)) :
    Run G S (.Try body [.ExceptHandler (some (.Name x np)) (some n) (b₀ :: suite) pos'] [] [] pos :: rest) P :=
  run_cons (runS_tryAs T q pp tk ni.out.n hln ⟨W.out.g, W.out.d, .inl W.out.m⟩ E hb hh)
end
/-! ### classes of exceptions in the text's module -/
def clsA (mg : Str → Option Value) (x : Str) : Addr := match mg x with
  | some (.ref a) => a
  | _ => 0
structure XcAt (K : PySem.W.Frag) (mg : Str → Option Value) (x : Str) (st : Stmt) (sf vf f : Str) : Prop where
  m : mg x = some (.ref (clsA mg x))
  T : OexC K (clsA mg x)
  xf : XfC K (clsA mg x)
  F : PySem.W.findIn K (.ref (clsA mg x)) f = some none
  me : PySem.W.exmOne K (.ref (clsA mg x)) (.ref (clsA mg x)) = some true
  i : ∃ (fI : Addr) (fd : FuncData) (qual : Str), PySem.W.findIn K (.ref (clsA mg x)) "__init__" = some (some (.ref fI)) ∧ PySem.W.typeIn K (.ref fI) = some (.type "function") ∧ Fun K "__init__" qual st fI fd ∧ Binds K fd [sf, vf] []
theorem XcAt.xc {x sf vf f : Str} {st : Stmt} {G : Gx} {N : List Str} {sc : Scope} {k : Nat} {p1 p2 p3 p4 : Pos} (A : XcAt G.X.K G.X.mg x st sf vf f) (c : Cb G N sc k) (v : glB [x] sc = true) (hk : 2 ≤ k) (Sc : FnScope [sf, vf] [sf, vf] (defScope st))
    (hb : defBody st = [.Assign [.Attribute (.Name sf p1) f p2] (.Name vf p3) p4]) (vs : visB [sf, vf] (defScope st) = true)
    (hsw : ∀ (X : Cx), swapsWith (.Name vf p3) (some (.Attribute (.Name sf p1) f p2)) p4.line X.env = pure false) : XcI G x (clsA G.X.mg x) f := by
  have z := List.all_eq_true.mp v x (by simp)
  simp only [Bool.and_eq_true, decide_eq_true_eq, Bool.not_eq_true'] at z
  obtain ⟨fI, fd, qual, i1, i2, i3, i4⟩ := A.i
  exact ⟨⟨c.gl v (by simp), z.1.2, A.m, A.T, A.F, fI, fd, _, 1, i1, i2, init_ok i3 Sc hb vs hsw, c.room.mono hk, i4⟩⟩
end CL

set_option Elab.async false
set_option linter.all false
set_option maxRecDepth 100000
set_option maxHeartbeats 4000000
namespace CL
open PySem L2
/-- a dict comprehension over a walk -/
theorem dc_it {J : It} {n : Nat} {Gd : Hp → Prop} {Y : Nat → Hp → V → Hp → Prop} (w : Walk J n Gd Y) {g : TG} {tt : TT} {tk tv : TE} {vs : List Nat} {σ : L2.St} {H1 : Hp} {D : Addr} {Qd : Hp → Prop} (Pv : Nat → Hp → Prop) (h0 : Pv 0 (upd H1 D (.dK []))) (hG : ∀ i H, i ≤ n → Pv i H → Gd H)
    (hs : ∀ i x H H', i < n → Pv i H → Y i H x H' → g x (wipe σ vs) H' fun σ2 H2 => wipe σ2 vs = wipe σ vs ∧ tt σ2 H2 fun b H3 =>
      if b = true then tk σ2 H3 fun y H4 => tv σ2 H4 fun z H5 => ∃ kvs k, y = kV k ∧ H5 D = some (.dK kvs) ∧ kvs.length < sizeLine ∧ Pv (i + 1) (upd H5 D (.dK (putK kvs k z))) else Pv (i + 1) H3) (hd : ∀ H, Pv n H → Qd H) :
    ∃ W : Nat → Nat → Hp → Prop, (∃ m, W 0 m (upd H1 D (.dK []))) ∧ ∀ i m H, W i m H →
      (J.stop i H ∧ Qd H) ∨ (J.go i H ∧ ∃ Nx : Hp → Prop, (∀ H', Nx H' → ∃ m', m' < m ∧ W (i + 1) m' H') ∧ ∀ x H', J.yld i H x H' → g x (wipe σ vs) H' fun σ2 H2 => wipe σ2 vs = wipe σ vs ∧ tt σ2 H2 fun b H3 =>
        if b = true then tk σ2 H3 fun y H4 => tv σ2 H4 fun z H5 => ∃ kvs k, y = kV k ∧ H5 D = some (.dK kvs) ∧ kvs.length < sizeLine ∧ Nx (upd H5 D (.dK (putK kvs k z))) else Nx H3) := by
  refine ⟨fun i m H => m = n - i ∧ i ≤ n ∧ Pv i H, ⟨n, by simp, Nat.zero_le _, h0⟩, ?_⟩
  rintro i m H ⟨rfl, hi, p⟩
  have q := hG i H hi p
  by_cases hlt : i < n
  · refine .inr ⟨w.goes i H hlt q, Pv (i + 1), fun H' p' => ⟨n - (i + 1), by omega, rfl, hlt, p'⟩, fun x H' y => hs i x H H' hlt p (w.yields i H x H' hlt q y)⟩
  · have e : i = n := by omega
    subst e
    exact .inl ⟨w.stops H q, hd H p⟩
/-- the keys of {x: True for x in xs}, in their order -/
def keysI : List Int → List Int := fun xs => xs.foldl (fun acc x => if x ∈ acc then acc else acc ++ [x]) []
theorem keysI_snoc (xs : List Int) (x : Int) : keysI (xs ++ [x]) = if x ∈ keysI xs then keysI xs else keysI xs ++ [x] := by unfold keysI; rw [List.foldl_append]; rfl
theorem rev_ind {α : Type} {p : List α → Prop} (h0 : p []) (h1 : ∀ xs x, p xs → p (xs ++ [x])) (xs : List α) : p xs := by
  have : ∀ n (xs : List α), xs.length = n → p xs := by
    intro n
    induction n with
    | zero => intro xs h; rw [List.length_eq_zero_iff.mp h]; exact h0
    | succ n ih =>
      intro xs h
      have hne : xs ≠ [] := fun z => by rw [z] at h; cases h
      rw [← List.dropLast_concat_getLast hne]
      exact h1 _ _ (ih _ (by rw [List.length_dropLast]; omega))
  exact this _ xs rfl
theorem keysI_mem (xs : List Int) : ∀ v, v ∈ keysI xs ↔ v ∈ xs := by
  refine rev_ind (p := fun xs => ∀ v, v ∈ keysI xs ↔ v ∈ xs) (fun v => Iff.rfl) (fun xs x ih v => ?_) xs
  rw [keysI_snoc]
  split
  · rename_i h
    rw [List.mem_append, ih v, List.mem_singleton]
    exact ⟨.inl, fun z => z.elim id fun e => by rw [e]; exact (ih x).mp h⟩
  · rw [List.mem_append, List.mem_append, ih v]
theorem keysI_nd (xs : List Int) : (keysI xs).Nodup := by
  refine rev_ind (p := fun xs => (keysI xs).Nodup) List.nodup_nil (fun xs x ih => ?_) xs
  rw [keysI_snoc]
  split
  · exact ih
  · rename_i h
    exact List.nodup_append.mpr ⟨ih, by simp, fun a ha b hb => by rw [List.mem_singleton.mp hb]; exact fun e => h (e ▸ ha)⟩
theorem keysI_len (xs : List Int) : (keysI xs).length ≤ xs.length := by
  refine rev_ind (p := fun xs => (keysI xs).length ≤ xs.length) (Nat.le_refl 0) (fun xs x ih => ?_) xs
  rw [keysI_snoc, List.length_append]
  split
  · simp; omega
  · rw [List.length_append]; simp; exact ih
def dcV (ks : List Int) : List (Key × V) := ks.map fun x => (Sum.inl x, V.bl true)
theorem dcV_put (ks : List Int) (x : Int) : putK (dcV ks) (Sum.inl x) (V.bl true) = dcV (if x ∈ ks then ks else ks ++ [x]) := by
  unfold putK
  have e : ((dcV ks).any fun kv => decide (kv.1 = Sum.inl x)) = decide (x ∈ ks) := by
    unfold dcV
    rw [List.any_map, Bool.eq_iff_iff]
    simp only [List.any_eq_true, Function.comp, decide_eq_true_eq]
    constructor
    · rintro ⟨y, h1, h2⟩; cases h2; exact h1
    · intro h; exact ⟨x, h, rfl⟩
  rw [e]
  by_cases h : x ∈ ks
  · rw [if_pos (decide_eq_true h), if_pos h]
    unfold dcV
    rw [List.map_map]
    refine List.map_congr_left fun y _ => ?_
    show (if (Sum.inl y : Key) = Sum.inl x then ((Sum.inl y : Key), V.bl true) else (Sum.inl y, V.bl true)) = _
    split <;> rfl
  · rw [if_neg (by simpa using h), if_neg h]
    unfold dcV
    rw [List.map_append]; rfl
theorem dcV_val (ks : List Int) (x : Int) : (valV (dcV ks) (Sum.inl x)).isSome = decide (x ∈ ks) := by
  rw [← valV_any]
  unfold dcV
  rw [List.any_map, Bool.eq_iff_iff]
  simp only [List.any_eq_true, Function.comp, decide_eq_true_eq]
  constructor
  · rintro ⟨y, h1, h2⟩; cases h2; exact h1
  · intro h; exact ⟨x, h, rfl⟩
def dcD (ks : List Int) : List (Key × D) := ks.map fun x => (Sum.inl x, D.bl true)
theorem sw_cell {kx vx : Expr} {gs : List Comprehension} {scope : Scope} {pos py : Pos} {y : Str} {l : Nat} {env : Env} (hy : env.scope.names.lookup y = some .cell) : swapsWith (.DictComp kx vx gs scope pos) (some (.Name y py)) l env = pure false := by
  have ky : env.kindOf y = some .cell := hy
  unfold swapsWith
  simp only [ky]
  have : (some NameKind.cell == some NameKind.local) = false := rfl
  simp [this]
section
variable {G : Gx} {S : List Sd} {iter : Expr} {xs : List Int} {pos : Pos} {P : Po} {rest : List Stmt} {scope : Scope} {j i : Nat} {v y : Str} {pv pk : Pos} {k : Bool}
theorem reps_tru {K : PySem.W.Frag} {CF : Addr} {O : Addr → Prop} {H : Hp} : ∀ ks : List Int, Reps K CF O H ((dcD ks).map (·.2)) ((dcV ks).map (·.2))
  | [] => rfl
  | _ :: ks => ⟨_, _, rfl, rep_bl true, reps_tru ks⟩
theorem keys_same (ks : List Int) : (dcV ks).map (·.1) = (dcD ks).map (·.1) := by unfold dcV dcD; rw [List.map_map, List.map_map]; rfl
/-- y = {v: True for v in iter}, ints -/
theorem go_setDc {p' py : Pos} {apos : Pos} {jj : Nat} [ni : NsI G.X y i] (q : CtxI G) (hjS : j < S.length) (sz : xs.length ≤ 100000) (hi : EvQ G S iter k (xs.map .int)) (ok : BlkOk G.X.N G.X.env.scope scope [(v, j)]) (nb : Blk G scope fun B => NsI B.X v j ∧ NmI B.X v j)
    (hcell : G.X.env.scope.names.lookup y = some .cell) (kk : Run G (S.set i (.dct (dcD (keysI xs)))) rest P) (hs : ∀ x, foldedSetIterable iter G.X.env x = pure x := by intro _; rfl) :
    Run G S (.Assign [.Name y py] (.DictComp (.Name v pk) (.Constant (.bool true) jj p') [⟨.Name v pv, iter, [], 0⟩] scope pos) apos :: rest) P := by
  refine run_cons fun σ H s => ?_
  have sL : (100000 : Nat) ≤ sizeLine := by decide
  have hg : ∀ (s : Shared) (H : Hp) (C : Addr) (cl : List (Str × Addr)) (fp : List Addr), PG (G.X.blk s H scope (compEnvC scope cl C G.X.env) fp) (.Name v pv) (gName j) := fun s H C cl fp => by
    have n := (nb s H C cl fp (fun _ => False)).1.out
    exact pg_name q.nd n.n n.l n.f
  have hk : ∀ (s : Shared) (H : Hp) (C : Addr) (cl : List (Str × Addr)) (fp : List Addr), PE (G.X.blk s H scope (compEnvC scope cl C G.X.env) fp) (.Name v pk) (tVar j) := fun s H C cl fp => by
    have n := (nb s H C cl fp (fun _ => False)).2.out
    exact pe_var n.n n.v n.d n.c
  have fin : ∀ (D : Addr) (H1 H2 : Hp), Ex H H1 → H1 D = none → H2 = upd H1 D (.dK (dcV (keysI xs))) → ∃ S', G.sat S' (σ.set i (some (.ref D))) H2 ∧ Run G S' rest P := fun D H1 H2 e1 hD e2 => by
    subst e2
    exact ⟨_, s.setMine (s := .dct (dcD (keysI xs))) (e1.trans (Ex.new hD)) (e1.free hD) (by rw [upd_same]; intro z; cases z) rfl ⟨D, _, rfl, upd_same, keys_same _, reps_tru _⟩, kk⟩
  have turn : ∀ (vs : List V) (H1 : Hp) (D : Addr) (i' : Nat) (x : V) (H2 : Hp), vs = xs.map V.int → H1 D = none → i' < vs.length → H2 = upd H1 D (.dK (dcV (keysI (xs.take i')))) → vs[i']? = some x →
      gName j x (wipe σ [j]) H2 fun σ2 H2 => wipe σ2 [j] = wipe σ [j] ∧ tYes σ2 H2 fun b H3 =>
      if b = true then tVar j σ2 H3 fun y H4 => tC (.bl true) σ2 H4 fun z H5 => ∃ kvs k, y = kV k ∧ H5 D = some (.dK kvs) ∧ kvs.length < sizeLine ∧ (upd H5 D (.dK (putK kvs k z))) = upd H1 D (.dK (dcV (keysI (xs.take (i' + 1))))) else H3 = upd H1 D (.dK (dcV (keysI (xs.take (i' + 1))))) := by
    intro vs H1 D i' x H2 ev hD hi' e2 hx
    subst e2 ev
    rw [List.getElem?_map] at hx
    cases e : xs[i']? with
    | none => rw [e] at hx; cases hx
    | some z =>
      rw [e] at hx
      cases hx
      show wipe ((wipe σ [j]).set j (some (.int z))) [j] = wipe σ [j] ∧ _
      refine ⟨by simp [wipe], ?_⟩
      show ∃ v, ((wipe σ [j]).set j (some (V.int z)))[j]? = some (some v) ∧ _
      have hjl : j < σ.length := by
        rw [s.len]; exact hjS
      refine ⟨.int z, by simp [wipe, hjl], dcV (keysI (xs.take i')), Sum.inl z, rfl, upd_same, ?_, ?_⟩
      · unfold dcV
        rw [List.length_map]
        have := keysI_len (xs.take i')
        rw [List.length_take] at this
        rw [List.length_map] at hi'
        omega
      · rw [upd_upd, dcV_put, ← keysI_snoc]
        congr 2
        rw [List.take_add_one, e]; rfl
  cases k with
  | true =>
    refine eWS (ps_set q.nd ni.out.n ni.out.l (pe_dc (own := [(v, j)]) q.calm q.nd (pi_list we) ok hg (fun _ _ _ _ _ => pts_nil) hk (fun _ _ _ _ _ => pe_bl) hs) (sw_cell hcell) ni.out.f) ?_
    refine hi σ H s _ fun a vs H1 e1 sq' r => ⟨a, rfl, ⟨vs, SqL.of sq'⟩, fun D hD => ?_⟩
    have ev := reps_ints r
    refine dc_it (walk_list (xs := vs)) (fun i' H2 => H2 = upd H1 D (.dK (dcV (keysI (xs.take i'))))) rfl (fun i' H2 _ e2 => ?_) (fun i' x H2 H2' hi' e2 y => ?_) (fun H2 e2 => ?_)
    · subst e2; exact SqL.of (by rw [upd_ne (ne_of_none sq' hD)]; exact sq')
    · obtain ⟨rfl, hx⟩ := y
      exact turn vs H1 D i' x _ ev hD hi' e2 hx
    · rw [ev, List.length_map, List.take_length] at e2
      exact fin D H1 H2 e1 hD e2
  | false =>
    refine eWS (ps_set q.nd ni.out.n ni.out.l (pe_dc (own := [(v, j)]) q.calm q.nd (pi_tup we) ok hg (fun _ _ _ _ _ => pts_nil) hk (fun _ _ _ _ _ => pe_bl) hs) (sw_cell hcell) ni.out.f) ?_
    refine hi σ H s _ fun a vs H1 e1 sq' r => ⟨a, rfl, ⟨vs, sq'⟩, fun D hD => ?_⟩
    have ev := reps_ints r
    refine dc_it (walk_tup (xs := vs)) (fun i' H2 => H2 = upd H1 D (.dK (dcV (keysI (xs.take i'))))) rfl (fun i' H2 _ e2 => ?_) (fun i' x H2 H2' hi' e2 y => ?_) (fun H2 e2 => ?_)
    · subst e2; exact ex_sqT (Ex.new hD) sq'
    · obtain ⟨rfl, hx⟩ := y
      exact turn vs H1 D i' x _ ev hD hi' e2 hx
    · rw [ev, List.length_map, List.take_length] at e2
      exact fin D H1 H2 e1 hD e2
theorem dcV_is {K : PySem.W.Frag} {CF : Addr} {O : Addr → Prop} {H : Hp} : ∀ {ks : List Int} {ps : List (Key × V)}, ps.map (·.1) = (dcD ks).map (·.1) → Reps K CF O H ((dcD ks).map (·.2)) (ps.map (·.2)) → ps = dcV ks
  | [], [], _, _ => rfl
  | [], _ :: _, h, _ => by cases h
  | _ :: _, [], h, _ => by cases h
  | k :: ks, (p1, p2) :: ps, h, r => by
    obtain ⟨y, ys, e, ry, rs⟩ := r
    have h1 : p1 = Sum.inl k := (List.cons.inj h).1
    have h2 := (List.cons.inj h).2
    have e1 : p2 = y := (List.cons.inj e).1
    have e2 := (List.cons.inj e).2
    rw [dcV_is (ks := ks) (ps := ps) h2 (by rw [e2]; exact rs), h1, e1, ry.bl]
    rfl
/-- any([-v in y for v in y]), y that dict -/
theorem ev_anyNeg {ks : List Int} {p1 p2 p3 p4 pa : Pos} (q : CtxI G) (ny : NmI G.X y i) (BA : BiI G.X "any" (.builtin "any")) (hS : S[i]? = some (.dct (dcD ks))) (hjS : j < S.length) (hij : i ≠ j) (sz : ks.length ≤ 100000) (ok : BlkOk G.X.N G.X.env.scope scope [(v, j)]) (nb : Blk G scope fun B => NsI B.X v j ∧ NmI B.X v j ∧ NmI B.X y i ∧ B.X.A.units + 1 < cLine)
    (he : starEach [Expr.ListComp (.Compare (.UnaryOp .USub (.Name v p1) p2) [.In] [.Name y p3] p4) [⟨.Name v pv, .Name y pk, [], 0⟩] scope pos] G.X.env = (false, eval (Expr.ListComp (.Compare (.UnaryOp .USub (.Name v p1) p2) [.In] [.Name y p3] p4) [⟨.Name v pv, .Name y pk, [], 0⟩] scope pos) G.X.env) :: starEach [] G.X.env)
    {cpos : Pos} (hs : ∀ x, foldedSetIterable (.Name y pk) G.X.env x = pure x := by intro _; rfl) :
    Ev G S (.Call (.Name "any" pa) [.ListComp (.Compare (.UnaryOp .USub (.Name v p1) p2) [.In] [.Name y p3] p4) [⟨.Name v pv, .Name y pk, [], 0⟩] scope pos] [] cpos) (.bl (ks.any fun k => decide (-k ∈ ks))) := fun σ H s Q qq => by
  have sL : (100000 : Nat) ≤ sizeLine := by decide
  obtain ⟨sv, e0, a, ps, rfl, ha, hk, hr⟩ := s.slot i _ hS
  have hps : ps = dcV ks := dcV_is hk hr
  subst hps
  have hg : ∀ (s : Shared) (H : Hp) (C : Addr) (cl : List (Str × Addr)) (fp : List Addr), PG (G.X.blk s H scope (compEnvC scope cl C G.X.env) fp) (.Name v pv) (gName j) := fun s H C cl fp => by
    have n := (nb s H C cl fp (fun _ => False)).1.out
    exact pg_name q.nd n.n n.l n.f
  have he2 : ∀ (s : Shared) (H : Hp) (C : Addr) (cl : List (Str × Addr)) (fp : List Addr), PE (G.X.blk s H scope (compEnvC scope cl C G.X.env) fp) (.Compare (.UnaryOp .USub (.Name v p1) p2) [.In] [.Name y p3] p4) (tDIn (tUn (rU fun i => .int (-i)) (tVar j)) (tVar i)) := fun s H C cl fp => by
    obtain ⟨_, n, m, hu⟩ := nb s H C cl fp (fun _ => False)
    exact pe_cmp (pc_din hu (pe_un un_neg (pe_var n.out.n n.out.v n.out.d n.out.c)) (pe_var m.out.n m.out.v m.out.d m.out.c)) (by rfl)
  have hj : j < σ.length := by rw [s.len]; exact hjS
  refine eWE (pe_callB (cr_any q.calm) BA.out.g BA.out.m BA.out.v (pa_cons (pe_lock (pe_lc (own := [(v, j)]) q.calm q.nd (pi_keys (pe_var ny.out.n ny.out.v ny.out.d ny.out.c)) ok hg (fun _ _ _ _ _ => pts_nil) he2 hs)) pa_nil he) BA.out.n BA.out.d he rfl) ?_
  refine ⟨a, .dK (dcV ks), ha, trivial, fun od => ?_⟩
  refine ⟨.ref a, e0, a, od, rfl, .inl ⟨dcV ks, upd_same, fun D hD => ?_⟩⟩
  have nDa : D ≠ a := fun z => by rw [z, upd_same] at hD; cases hD
  have hD0 : H D = none := by rw [upd_ne nDa] at hD; exact hD
  refine lc_it walk_keys (fun i' H2 => H2 = upd (upd H a (.frz od (.dK (dcV ks)))) D (.lst ((ks.take i').map fun k => V.bl (decide (-k ∈ ks))))) rfl (fun i' H2 _ e2 => ?_) (fun i' x H2 H2' hi' e2 yy => ?_) (fun H2 e2 => ?_)
  · rw [e2, upd_ne (Ne.symm nDa), upd_same]
  · obtain ⟨rfl, kk, vv, hx, rfl⟩ := yy
    unfold dcV at hx hi'
    rw [List.getElem?_map] at hx
    rw [List.length_map] at hi'
    cases e : ks[i']? with
    | none => rw [e] at hx; cases hx
    | some z =>
      rw [e] at hx
      cases hx
      show wipe ((wipe σ [j]).set j (some (.int z))) [j] = wipe σ [j] ∧ _
      refine ⟨by simp [wipe], ?_⟩
      refine ⟨.int z, by simp [wipe, hj, kV], z, rfl, .ref a, by simp [wipe, List.getElem?_set_ne (Ne.symm hij), e0], a, valV (dcV ks) (Sum.inl (-z)), rfl, .inl ⟨dcV ks, Sum.inl (-z), .inr ⟨od, ?_⟩, rfl, rfl⟩, (ks.take i').map fun k => V.bl (decide (-k ∈ ks)), ?_, ?_, ?_⟩
      · rw [e2, upd_ne (Ne.symm nDa), upd_same]
      · rw [e2, upd_same]
      · rw [List.length_map, List.length_take]; omega
      · rw [e2, upd_upd, dcV_val, List.take_add_one, e, List.map_append]; rfl
  · have e3 : (dcV ks).length = ks.length := by unfold dcV; rw [List.length_map]
    rw [e3, List.take_length] at e2
    refine ⟨by rw [e2, upd_ne (Ne.symm nDa), upd_same], D, ks.map fun k => decide (-k ∈ ks), rfl, SqL.of ?_, ?_⟩
    · rw [upd_ne nDa, e2, upd_same, List.map_map]; rfl
    · rw [List.any_map]
      refine qq _ _ (fun b o eb => ?_) (rep_bl _)
      have n1 : b ≠ D := ne_of_none eb hD0
      by_cases n2 : b = a
      · subst n2; rw [upd_same]; rw [ha] at eb; exact eb
      · rw [upd_ne n2, e2, upd_ne n1, upd_ne n2]; exact eb
theorem reps_bls {K : PySem.W.Frag} {CF : Addr} {O : Addr → Prop} {H : Hp} : ∀ {bs : List Bool} {vs : List V}, Reps K CF O H (bs.map .bl) vs → vs = bs.map V.bl
  | [], _, h => h
  | x :: xs, _, ⟨y, ys, e, r, rs⟩ => by
    rw [e, r.bl, reps_bls rs]; rfl
theorem ev_all {a : Expr} {bs : List Bool} {p cpos : Pos} (q : CtxI G) (BA : BiI G.X "all" (.builtin "all")) (ha : EvQ G S a true (bs.map .bl))
    (he : starEach [a] G.X.env = (false, eval a G.X.env) :: starEach [] G.X.env := by rfl) : Ev G S (.Call (.Name "all" p) [a] [] cpos) (.bl (bs.all id)) := fun σ H s Q qq =>
  eWE (pe_callB (cr_all q.calm) BA.out.g BA.out.m BA.out.v (pa_cons we pa_nil he) BA.out.n BA.out.d he rfl) (ha σ H s _ fun t vs H1 e1 sq r => ⟨t, bs, rfl, by rw [reps_bls r] at sq; exact SqL.of sq, qq _ H1 e1 (rep_bl _)⟩)
theorem ev_any {a : Expr} {bs : List Bool} {p cpos : Pos} (q : CtxI G) (BA : BiI G.X "any" (.builtin "any")) (ha : EvQ G S a true (bs.map .bl))
    (he : starEach [a] G.X.env = (false, eval a G.X.env) :: starEach [] G.X.env := by rfl) : Ev G S (.Call (.Name "any" p) [a] [] cpos) (.bl (bs.any id)) := fun σ H s Q qq =>
  eWE (pe_callB (cr_any q.calm) BA.out.g BA.out.m BA.out.v (pa_cons we pa_nil he) BA.out.n BA.out.d he rfl) (ha σ H s _ fun t vs H1 e1 sq r => ⟨t, bs, rfl, by rw [reps_bls r] at sq; exact SqL.of sq, qq _ H1 e1 (rep_bl _)⟩)
/-- sorted(y, key=abs), y a dict of ints -/
theorem evL_sortedAbs {ks : List Int} {p p2 p3 kpos : Pos} (q : CtxI G) (ny : NmI G.X y i) (BS : BiI G.X "sorted" (.builtin "sorted")) (BA : BiI G.X "abs" (.builtin "abs")) (hS : S[i]? = some (.dct (dcD ks)))
    (he : starEach [Expr.Name y p3] G.X.env = (false, eval (Expr.Name y p3) G.X.env) :: starEach [] G.X.env := by rfl) : EvL G S (.Call (.Name "sorted" p) [.Name y p3] [⟨some "key", .Name "abs" p2, kpos⟩] pos) ((srtA ks).map .int) := fun σ H s Q qq => by
  obtain ⟨sv, e0, a, ps, rfl, ha, hk, hr⟩ := s.slot i _ hS
  have hu := q.hu
  refine eWE (pe_sortedAbs q.calm (by omega) BS.out.g BS.out.m BA.out.g BA.out.m (pe_var ny.out.n ny.out.v ny.out.d ny.out.c) he) ⟨.ref a, e0, a, ps, ks, rfl, .inl ha, by rw [hk]; unfold dcD; rw [List.map_map]; rfl, fun l hl => ?_⟩
  exact qq l _ _ hl (Ex.new hl) upd_same (reps_ofInts _)
end
end CL

set_option Elab.async false
set_option linter.all false
set_option maxRecDepth 100000
set_option maxHeartbeats 4000000
namespace CL
open PySem L2
section
variable {G : Gx} {S : List Sd} {a b e iter : Expr} {es : List Expr} {x y z d : D} {xs ys ds : List D} {pos : Pos} {k : Bool} {P : Po} {st : Stmt} {sts rest body : List Stmt} {i j : Nat} {v f : Str} {R : Ro → Prop}
/-- (x, f(..)), f's end told by a relation -/
theorem evC_tup2 {kk : Nat} (h0 : Ev G S a x) (h1 : EvC G S b R) (hn : ∀ ds, ¬ R (.new ds)) (he : starEach [a, b] G.X.env = (false, eval a G.X.env) :: starEach [b] G.X.env) (he2 : starEach [b] G.X.env = (false, eval b G.X.env) :: starEach [] G.X.env) :
    EvC G S (.Tuple [a, b] kk pos) (fun o => (∃ d, R (.ret d) ∧ o = .ret (.tup [x, d])) ∨ ∃ C fs, R (.exc C fs) ∧ o = .exc C fs) := fun σ H s Q q1 q2 q3 => by
  refine eWE (pe_tup (pa_cons we (pa_cons we pa_nil he2) he)) (h0 σ H s _ fun u H1 e1 r1 => h1 σ H1 (s.ex e1) _ (fun d w H2 z e2 r2 => ⟨by show 2 ≤ sizeLine; decide, fun p hp => ?_⟩) (fun ds _ _ _ z => absurd z (hn ds)) fun C fs dd fv H2 z e2 h0' h1' r => q3 C fs dd fv H2 (.inr ⟨C, fs, z, rfl⟩) (e1.trans e2) (e1.free h0') h1' r)
  have ex := (e1.trans e2).trans (Ex.new (o := .tup [u, w]) hp)
  refine q1 (.tup [x, d]) _ _ (.inl ⟨d, z, rfl⟩) ex (rep_tup (Seq.ofT upd_same ((s.ex (e1.trans e2)).fresh hp)) ⟨u, [w], rfl, ?_, w, [], rfl, ?_, rfl⟩)
  · exact Rep.mono (Le.ex (e2.trans (Ex.new hp))) _ _ r1
  · exact Rep.mono (Le.ex (Ex.new hp)) _ _ r2
theorem runS_retC (h : EvC G S e R) (q1 : ∀ d, R (.ret d) → P.rt (.ret d)) (q2 : ∀ ds, R (.new ds) → P.rt (.new ds)) (q3 : ∀ C fs, R (.exc C fs) → G.ex S C fs) (hW : G.wishes) : RunS G S (.Return (some e) pos) P := fun σ H s =>
  eWS (ps_ret we) (h σ H s _ (fun d w H' z ex r => ⟨s.base.trans ex, .ret d, sub_oc r, q1 d z⟩) (fun ds p xs H' z hp ex hl r => ⟨s.base.trans ex, .new ds, ⟨p, xs, rfl, s.base.free hp, hl, Reps.mono (Le.sub fun a z => by
    rcases z with z | z
    · exact .inl (.inl z)
    · exact .inr z) _ _ r⟩, q2 ds z⟩) fun C fs dd fv H' z ex h0 h1 r => hW S σ H C fs dd fv H' s (q3 C fs z) ex h0 h1 r)
/-! ### data told by a relation -/
def EvX (G : Gx) (S : List Sd) (e : Expr) (R : D → Prop) : Prop := ∀ σ H, G.sat S σ H → ∀ Q : VK, (∀ d v H', R d → Ex H H' → G.rep S σ H' d v → Q v H') → WE G.X e σ H Q
def EvXA (G : Gx) (S : List Sd) (es : List Expr) (R : List D → Prop) : Prop := ∀ σ H, G.sat S σ H → ∀ Q : List V → Hp → Prop, (∀ ds vs H', R ds → Ex H H' → G.reps S σ H' ds vs → Q vs H') → WA G.X es σ H Q
theorem Ev.toX (h : Ev G S e d) : EvX G S e (· = d) := fun σ H s Q q => h σ H s Q fun v H' ex r => q d v H' rfl ex r
theorem EvC.toX {T : D → Prop} (h : EvC G S e R) (hR : ∀ o, R o → ∃ d, o = .ret d ∧ T d) : EvX G S e T := fun σ H s Q q =>
  h σ H s Q (fun d v H' z ex r => by obtain ⟨d', e, t⟩ := hR _ z; cases e; exact q d v H' t ex r) (fun ds _ _ _ z => by obtain ⟨d', e, t⟩ := hR _ z; cases e) (fun _ _ _ _ _ z => by obtain ⟨d', e, t⟩ := hR _ z; cases e)
theorem evXA_nil : EvXA G S [] (· = []) := fun σ H s Q q => eWA pa_nil (q [] [] H rfl Ex.rfl rfl)
theorem evXA_cons {T : D → Prop} {U : List D → Prop} (h : EvX G S e T) (g : EvXA G S es U) (he : starEach (e :: es) G.X.env = (false, eval e G.X.env) :: starEach es G.X.env) : EvXA G S (e :: es) (fun ds => ∃ d ds', ds = d :: ds' ∧ T d ∧ U ds') := fun σ H s Q q =>
  eWA (pa_cons we wa he) (h σ H s _ fun d v H1 t e1 r1 => g σ H1 (s.ex e1) _ fun ds vs H2 u e2 r2 => q (d :: ds) (v :: vs) H2 ⟨d, ds, rfl, t, u⟩ (e1.trans e2) ⟨v, vs, rfl, Rep.mono (Le.ex e2) _ _ r1, r2⟩)
theorem evX_list {U : List D → Prop} (h : EvXA G S es U) (hl : ∀ ds, U ds → ds.length ≤ sizeLine) : EvX G S (.List es pos) (fun d => ∃ ds, d = .lst ds ∧ U ds) := fun σ H s Q q => by
  refine eWE (pe_lst wa) (h σ H s _ fun ds vs H1 u e1 r => ⟨by rw [r.length]; exact hl ds u, fun p hp => ?_⟩)
  exact q (.lst ds) _ _ ⟨ds, rfl, u⟩ (e1.trans (Ex.new hp)) (rep_lst (Seq.ofL upd_same ((s.ex e1).fresh hp)) (Reps.mono (Le.ex (Ex.new hp)) _ _ r))
/-- a loop over data told by a relation -/
theorem runS_forR {p' : Pos} {T : List D → Prop} (I : List D → Nat → List Sd → Prop) (pas : PassesOwn (model G.X.prog G.X.w) G.X.A G.X.env G.X.xe) (calm : G.X.calm = true) (n : Ns G.X j v) (nd : G.X.N.Nodup)
    (h : EvX G S iter (fun d => ∃ ds, d = .lst ds ∧ T ds)) (h0 : ∀ ds, T ds → I ds 0 S)
    (turn : ∀ ds, T ds → ∀ (g : (Addr → Prop) → Hp → Prop) i d S', ds[i]? = some d → I ds i S' → Run (G.with g) (S'.set j (.dat d)) body { nx := I ds (i + 1), ct := I ds (i + 1), bk := P.nx, rt := P.rt })
    (done : ∀ ds, T ds → ∀ S', I ds ds.length S' → P.nx S') (hs : ∀ x, foldedSetIterable iter G.X.env x = pure x := by intro _; rfl) : RunS G S (.For (.Name v p') iter body [] pos) P := fun σ H s => by
  have key : ∀ (ds : List D), T ds → ∀ (p : Addr) (vs : List V) (H1 : Hp), Ex H H1 → Seq G.X.K (Ow G.Oc S σ) H1 true p vs → G.reps S σ H1 ds vs →
      (∀ (i : Nat) (w : V) (σ' : L2.St) (H' : Hp), vs[i]? = some w → (∃ S', (G.with (ghSeq G.X.K G.CF true ds p vs)).sat S' σ' H' ∧ I ds i S') →
        gName j w σ' H' fun σ2 H2 => WB G.X body { G.ends P with nx := fun σ' H' => ∃ S', (G.with (ghSeq G.X.K G.CF true ds p vs)).sat S' σ' H' ∧ I ds (i + 1) S', ct := fun σ' H' => ∃ S', (G.with (ghSeq G.X.K G.CF true ds p vs)).sat S' σ' H' ∧ I ds (i + 1) S', bk := (G.ends P).nx } σ2 H2) := by
    intro ds t p vs H1 e1 sq' r i w σ' H' hw ⟨S', s', q⟩
    have gh := s'.gh _ List.mem_cons_self
    obtain ⟨d, hd, rd⟩ := Reps.get' gh.2 hw
    refine WB.mono (D1 := (G.with (ghSeq G.X.K G.CF true ds p vs)).ends _) (fun σ3 H3 z => ?_) (fun v H3 z => ?_) (fun σ3 H3 z => ?_) (fun σ3 H3 z => ?_) (turn ds t (ghSeq G.X.K G.CF true ds p vs) i d S' hd q (σ'.set j (some w)) H' (s'.setDat rd))
    · exact z
    · exact z
    · exact ends_with (P := P) z
    · exact z
  refine eWS (ps_for pas calm (pi_list we) (pg_name nd n.n n.l n.f) wb hs) (h σ H s _ fun d u H1 td e1 r1 => ?_)
  obtain ⟨ds, rfl, t⟩ := td
  obtain ⟨p, vs, rfl, sq', r⟩ := rep_sq (k := true) r1
  refine ⟨p, rfl, ⟨vs, sq'.l⟩, for_list (K := G.X.K) (a := p) (xs := vs) (fun i σ' H' => ∃ S', (G.with (ghSeq G.X.K G.CF true ds p vs)).sat S' σ' H' ∧ I ds i S') ⟨S, (s.ex e1).addGh ⟨sq', r⟩ ghSeq_st, h0 ds t⟩ (fun i σ' H' _ ⟨S', s', _⟩ => (s'.gh _ List.mem_cons_self).1.l) (key ds t p vs H1 e1 sq' r) (fun σ' H' z => ?_)⟩
  obtain ⟨S', s', q⟩ := z
  exact ⟨S', s'.dropGh, done ds t S' (r.length ▸ q)⟩
end
/-! ### a def called with keywords alone, in its parameters' order -/
section
variable {X : Cx} {CX : CXT} {k : Nat} {f : Addr} {fd : FuncData} {ps ks : List Str} {sp : Sp} {E : XK} {x : Str} {p pos : Pos} {kws : List Keyword} {tk : TA}
def tCallW (sp : Sp) (E : XK) (tk : TA) : TE := fun σ H Q => tk σ H fun zs H2 => sp zs H2 Q E
theorem pe_callW (F : FnOk X.prog X.w X.K X.mg X.base CX k f fd ps sp) (hr : Room k X.A) (hg : Gl X x) (hm : X.mg x = some (.ref f)) (hk : PySem.W.keepIn X.K (.ref f) = true) (hb : ∀ (s : Shared) (ws : List Value), ws.length = ps.length → BindsTo s fd ⟨[], ps.zip ws⟩ (ps.zip ws)) (hx : Passes CX X E)
    (hkw : PK X kws tk) (hall : (backToKw pos (keywordEach kws X.env)).all (·.1.isSome) = true) (hks : (backToKw pos (keywordEach kws X.env)).filterMap (·.1) = ps) (hdb : (x == ("__debug__" : Str)) = false)
    (hpl : ((backTo pos (starEach [] X.env)).any (·.1) || (backToKw pos (keywordEach kws X.env)).any (·.1.isNone)) = false) :
    PE X (.Call (.Name x p) [] kws pos) (tCallW sp E tk) := by
  refine ⟨fun pins s σ H Q I h => ?_⟩
  refine wpAny_Call_Name_kw (ld_glob I hg hm ?_ hdb)
  refine PySem.W.callWith_KW0 (h₀ := X.base) I.ok.mod.kin hk hall ?_ hpl
  refine thn (hkw.run pos pins s σ H _ I h) fun ws s2 ⟨zs, H2, I2, rz, q2⟩ => ⟨I2.kIn, ?_⟩
  rw [hks]
  have hl : ws.length = ps.length := by rw [← rz.length]; exact F.len _ _ _ _ q2
  refine wpAny_call (codeAny_mono (F.run X.A X.stack s2 H2 ⟨[], ps.zip ws⟩ ws zs Q E hr I2.env0 (hb s2 ws hl) rz q2) fun r s' hq => ?_)
  cases r with
  | error e => exact hx pins σ H2 s2 e s' I2 hq
  | ok fl =>
    cases fl with
    | ret u => exact I2.after hq
    | next => exact False.elim hq
    | brk => exact False.elim hq
    | cont => exact False.elim hq
end
/-- .. keeps Z so called -/
structure Avk (P : Program) (w : World) (K : PySem.W.Frag) (mg : Str → Option Value) (base : Heap) (CF : Addr) (n : Nat) (x : Str) (ps : List Str) (Z : Spec) : Prop where
  ex : ∃ (fa : Addr) (fd : FuncData), FnOk P w K mg base (L2.CX P w) n fa fd ps (spOf K CF Z) ∧ mg x = some (.ref fa) ∧ PySem.W.keepIn K (.ref fa) = true ∧ ∀ (s : Shared) (ws : List Value), ws.length = ps.length → BindsTo s fd ⟨[], ps.zip ws⟩ (ps.zip ws)
theorem DefAt.avk {P : Program} {w : World} {K : PySem.W.Frag} {mg : Str → Option Value} {base : Heap} {CF : Addr} {n : Nat} {x : Str} {Z : Spec} {st : Stmt} {ps : List Str} (A : DefAt K mg x st ps)
    (hb : ∀ (kV doc pm : Value) (an : Option Addr) (cdv ct : Value) (us : List Value), us.length = ps.length → bindArgs (PySem.W.fnOf x x (defArgs st) (defBody st) (defScope st) .none kV doc pm an cdv ct) ⟨[], ps.zip us⟩ = pure (ps.zip us))
    (h : ∀ f fd, Fun K x x st f fd → FnOk P w K mg base (L2.CX P w) n f fd ps (spOf K CF Z)) : Avk P w K mg base CF n x ps Z := by
  obtain ⟨f, fd, F, m, b⟩ := A.ex
  refine ⟨f, fd, h f fd F, m, F.kp, fun s ws hl => ?_⟩
  obtain ⟨oc, od, kV, doc, pm, an, cdv, ct, osl, rfl, lk, hcd⟩ := F.ex
  exact .of_eq (hb kV doc pm an cdv ct ws hl)
class CalW (G : Gx) (f : Str) (ps : outParam (List Str)) (Z : outParam Spec) : Prop where
  out : ∃ n, Avk G.X.prog G.X.w G.X.K G.X.mg G.X.base G.CF n f ps Z ∧ Room n G.X.A
  gl : Gl G.X f
  db : (f == ("__debug__" : Str)) = false
section
variable {G : Gx} {g : (Addr → Prop) → Hp → Prop} {S : List Sd} {a b : Expr} {x y : D} {pos : Pos} {f : Str} {s1 s2 : Prop} {ps : List Str} {Z : Spec}
instance w_calW [c : CalW G f ps Z] : CalW (G.with g) f ps Z := ⟨c.out, c.gl, c.db⟩
theorem ev_callW2 {pre : D → D → Prop} {ret : D → D → D} {p k1 k2 : Pos} {n1 n2 : Str} (F : CalW G f [n1, n2] (Z2 pre ret)) (ha : Ev G S a x) (hb : Ev G S b y) (hp : pre x y) : Ev G S (.Call (.Name f p) [] [⟨some n1, a, k1⟩, ⟨some n2, b, k2⟩] pos) (ret x y) := fun σ H s Q q => by
  obtain ⟨n, A, hr⟩ := F.out
  obtain ⟨fa, fd, F1, hm, hk, hbd⟩ := A.ex
  refine eWE (pe_callW (E := E0) F1 hr F.gl hm hk hbd passL (pk_cons we (pk_cons we pk_nil)) rfl rfl F.db rfl) (ha σ H s _ fun v H1 e1 r1 => hb σ H1 (s.ex e1) _ fun w H2 e2 r2 => ?_)
  have s2 := s.ex (e1.trans e2)
  refine ⟨Ow G.Oc S σ, [x, y], rfl, fun a z => s2.known z, ⟨v, [w], rfl, Rep.mono (Le.ex e2) _ _ r1, w, [], rfl, r2, rfl⟩, ⟨x, y, rfl, hp⟩, fun d z v' H' e3 r => ?_, fun xs z => ?_, fun C fs z => ?_⟩
  · obtain ⟨x', y', e, e'⟩ := z
    cases e; cases e'
    exact q v' H' ((e1.trans e2).trans e3) r
  · obtain ⟨x', y', e, e'⟩ := z
    cases e'
  · obtain ⟨x', y', e, e'⟩ := z
    cases e'
instance r_callW2 {pre : D → D → Prop} {ret : D → D → D} {p k1 k2 : Pos} {n1 n2 : Str} [F : CalW G f [n1, n2] (Z2 pre ret)] [ha : EvR G S a x s1] [hb : EvR G S b y s2] : EvR G S (.Call (.Name f p) [] [⟨some n1, a, k1⟩, ⟨some n2, b, k2⟩] pos) (ret x y) (s1 ∧ s2 ∧ pre x y) :=
  ⟨fun w => ev_callW2 F (ha.out w.1) (hb.out w.2.1) w.2.2⟩
end
theorem Cb.calw {G : Gx} {N N' : List Str} {sc : Scope} {k : Nat} (c : Cb G N sc k) {x : Str} {n : Nat} {ps : List Str} {Z : Spec} (v : glB N' sc = true) (A : Avk G.X.prog G.X.w G.X.K G.X.mg G.X.base G.CF n x ps Z) (hn : n ≤ k) (hm : x ∈ N' := by simp) : CalW G x ps Z := by
  have z := List.all_eq_true.mp v x hm
  simp only [Bool.and_eq_true, decide_eq_true_eq, Bool.not_eq_true'] at z
  exact ⟨⟨n, A, c.room.mono hn⟩, c.gl v hm, z.1.2⟩
section
variable {G : Gx} {S : List Sd} {a : Expr} {ds : List D} {pos : Pos} {s : Prop} {lo hi : Option Expr} {p2 : Pos}
/-- numbers[a:b], numbers a list -/
instance (priority := 1500) q_slL {v : Str} {p : Pos} [h : EvRL G S (.Subscript (.Name v p) (.Slice lo hi none p2) pos) ds s] : EvRQ G S (.Subscript (.Name v p) (.Slice lo hi none p2) pos) true ds s := ⟨fun w => (h.out w).q⟩
end
section
variable {G : Gx} {g g2 g3 : (Addr → Prop) → Hp → Prop} {f : Str} {Z : Spec} {ps : List Str}
instance w2_ctx [c : CtxI G] : CtxI ((G.with g).with g2) := ⟨c.nd, c.calm, c.hu⟩
instance w2_pas [c : PasI G] : PasI ((G.with g).with g2) := ⟨c.pas⟩
instance w2_tk [c : TkI G] : TkI ((G.with g).with g2) := w_tk (G := G.with g)
instance w2_cal [c : CalI G f Z] : CalI ((G.with g).with g2) f Z := ⟨by obtain ⟨n, c, r⟩ := c.out; exact ⟨n, ⟨c.ex⟩, r⟩, c.gl, c.db⟩
instance w2_calW [c : CalW G f ps Z] : CalW ((G.with g).with g2) f ps Z := ⟨c.out, c.gl, c.db⟩
instance w3_ctx [c : CtxI G] : CtxI (((G.with g).with g2).with g3) := ⟨c.nd, c.calm, c.hu⟩
instance w3_pas [c : PasI G] : PasI (((G.with g).with g2).with g3) := ⟨c.pas⟩
instance w3_tk [c : TkI G] : TkI (((G.with g).with g2).with g3) := w_tk (G := (G.with g).with g2)
instance w3_cal [c : CalI G f Z] : CalI (((G.with g).with g2).with g3) f Z := ⟨by obtain ⟨n, c, r⟩ := c.out; exact ⟨n, ⟨c.ex⟩, r⟩, c.gl, c.db⟩
instance w3_calW [c : CalW G f ps Z] : CalW (((G.with g).with g2).with g3) f ps Z := ⟨c.out, c.gl, c.db⟩
end
section
variable {G : Gx} {S : List Sd} {b c : Expr} {ds ds0 : List D} {pos p p1 p2 p3 : Pos} {s : Prop} {lo hi : Option Expr} {v : Str} {i : Nat}
instance (priority := 2000) r_slAddL [NmI G.X v i] [AtC S i (.dat (.lst ds0))] [h : EvRL G S (.BinOp (.Subscript (.Name v p) (.Slice lo hi none p2) p1) .Add b pos) ds s] : EvR G S (.BinOp (.Subscript (.Name v p) (.Slice lo hi none p2) p1) .Add b pos) (.lst ds) s := ⟨fun w => (h.out w).ev⟩
instance (priority := 2000) q_slAddL [NmI G.X v i] [AtC S i (.dat (.lst ds0))] [h : EvRL G S (.BinOp (.Subscript (.Name v p) (.Slice lo hi none p2) p1) .Add b pos) ds s] : EvRQ G S (.BinOp (.Subscript (.Name v p) (.Slice lo hi none p2) p1) .Add b pos) true ds s := ⟨fun w => (h.out w).q⟩
instance (priority := 2000) r_slAdd2 [NmI G.X v i] [AtC S i (.dat (.lst ds0))] [h : EvRL G S (.BinOp (.BinOp (.Subscript (.Name v p) (.Slice lo hi none p2) p1) .Add b p3) .Add c pos) ds s] : EvR G S (.BinOp (.BinOp (.Subscript (.Name v p) (.Slice lo hi none p2) p1) .Add b p3) .Add c pos) (.lst ds) s := ⟨fun w => (h.out w).ev⟩
end
end CL

set_option Elab.async false
set_option synthInstance.maxSize 100000
set_option linter.all false
set_option maxRecDepth 100000
set_option maxHeartbeats 4000000

namespace CL
open PySem L2
/-! ### short words -/
local macro_rules | `(tactic| walk_at "side") => `(tactic| first
  | (with_reducible assumption)
  | omega
  | (refine Or.inr ⟨?_, ?_⟩ <;> omega)
  | (refine Or.inl ⟨?_, ?_⟩ <;> omega)
  | (refine ⟨?_, ?_⟩ <;> omega)
  | decide
  | (exact atI_isSome (by omega) (by simp only [List.length_cons, List.length_nil, List.length_map]; omega))
  | (simp only [List.length_cons, List.length_nil]; decide)
  | (simp only [List.length_append, List.length_cons, List.length_nil, List.length_map] at *; omega)
  | (refine ⟨?_, ?_, ?_⟩ <;> first | omega | decide))
local macro_rules | `(tactic| walk_at "rf") => `(tactic| first
  | ((with_reducible show starEach _ _ = _); rfl)
  | ((with_reducible show List.any _ _ = _); rfl)
  | ((with_reducible show behindInMarks _ _ = _); with_unfolding_all rfl)
  | ((with_reducible show lastMarks _ _ = _); with_unfolding_all rfl)
  | ((with_reducible show attributeBase _ _ _ _ = _); rfl)
  | ((with_reducible show PlainIx _); exact fun _ _ => rfl)
  | ((with_reducible show D.notFrm _ = _); rfl)
  | ((with_reducible show D.truOk _); exact trivial))
/-- what must be shown for an expression -/
local macro_rules | `(tactic| walk_at "sd") => `(tactic| ((repeat' first | exact trivial | (with_reducible apply And.intro) | (walk_at "rf") | (exact fun h => Bool.noConfusion (show true = false from h)) | (exact fun h => Bool.noConfusion (show false = true from h)) | (with_reducible intro _)); (all_goals try (walk_at "side"))))
/-- a statement, then what follows -/
local macro_rules | `(tactic| walk_at "set") => `(tactic| (refine go_set (by walk_at "sd") ?_))
local macro_rules | `(tactic| walk_at "setL") => `(tactic| (refine go_setL (by walk_at "sd") ?_))
local macro_rules | `(tactic| walk_at "ret") => `(tactic| (refine go_ret (by walk_at "sd") ?_))
local macro_rules | `(tactic| walk_at "app") => `(tactic| (refine go_append (by walk_at "sd") ?_ ?_))
local macro_rules | `(tactic| walk_at "if") => `(tactic| (refine go_if (by walk_at "sd") ?_ ?_))

@[simp] theorem tru_bl (b : Bool) : (D.bl b).tru = b := rfl
/-! ### numbers drawn -/
theorem ixN_pos {n : Nat} {i : Int} (h0 : 0 ≤ i) (h1 : i < n) : ixN n i = some i.toNat := by
  unfold ixN
  rw [if_pos h0, if_pos (by omega)]
theorem atI_pos {α : Type} {xs : List α} {i : Int} (h0 : 0 ≤ i) (h1 : i < xs.length) : atI xs i = xs[i.toNat]? := by
  unfold atI
  rw [ixN_pos h0 h1]; rfl
theorem atI_some {α : Type} {xs : List α} {i : Int} (h0 : 0 ≤ i) (h1 : i < xs.length) : ∃ z, atI xs i = some z := by
  rw [atI_pos h0 h1]
  exact ⟨_, List.getElem?_eq_getElem (by omega)⟩
theorem atI_isSome {α : Type} {xs : List α} {i : Int} (h0 : 0 ≤ i) (h1 : i < xs.length) : (atI xs i).isSome = true := by
  obtain ⟨z, e⟩ := atI_some h0 h1
  rw [e]; rfl
theorem atI_nat {α : Type} {xs : List α} {i : Nat} {x : α} (h : xs[i]? = some x) : atI xs (i : Int) = some x := by
  have := (List.getElem?_eq_some_iff.mp h).1
  rw [atI_pos (by omega) (by omega)]
  simpa using h
theorem grow {xs bs : List Int} {i : Nat} {x bd : Int} (hl : xs.length = i) (hx : ∀ (j : Nat) (x b : Int), xs[j]? = some x → bs[j]? = some b → 0 ≤ x ∧ x < b) (hb : bs[i]? = some bd) (h1 : 0 ≤ x) (h2 : x < bd) :
    ∀ (j : Nat) (y b : Int), (xs ++ [x])[j]? = some y → bs[j]? = some b → 0 ≤ y ∧ y < b := fun j y b e1 e2 => by
  by_cases hj : j < i
  · rw [List.getElem?_append_left (by omega)] at e1
    exact hx j y b e1 e2
  · rw [List.getElem?_append_right (by omega)] at e1
    have : j = i := by
      have := (List.getElem?_eq_some_iff.mp e1).1
      simp at this
      omega
    subst this
    rw [hl, Nat.sub_self] at e1
    simp at e1
    rw [hb] at e2
    cases e2
    subst e1
    exact ⟨h1, h2⟩
/-- one for each bound, below it -/
def Drawn (xs bs : List Int) : Prop := xs.length = bs.length ∧ ∀ (i : Nat) (x b : Int), xs[i]? = some x → bs[i]? = some b → 0 ≤ x ∧ x < b
def Z_law_draws : Spec where
  n := 3
  pre := fun ds => ∃ (ns : List Int) (k : Int) (bs : List Int), ds = [.scr ns, .int k, .lst (bs.map .int)] ∧ ns.length ≤ 63 ∧ 0 ≤ k ∧ k < 1000000 ∧ bs.length ≤ 100000 ∧ ∀ b ∈ bs, 0 < b ∧ b < 1073741824
  post := fun ds o => ∃ (ns : List Int) (k : Int) (bs xs : List Int), ds = [.scr ns, .int k, .lst (bs.map .int)] ∧ o = .new (xs.map .int) ∧ Drawn xs bs
/-! ### two data are the same -/
mutual
def D.same : D → D → Bool
  | a, .non => a.isNon
  | a, .bl b => match a with
    | .bl c => c == b
    | _ => false
  | a, .int i => match a with
    | .int j => j == i
    | _ => false
  | a, .str x => match a with
    | .str y => y == x
    | _ => false
  | a, .tup es => match a with
    | .tup ds => D.sames ds es
    | _ => false
  | _, _ => false
def D.sames : List D → List D → Bool
  | [], [] => true
  | d :: ds, e :: es => D.same d e && D.sames ds es
  | _, _ => false
end
/-! ### clauses -/
def isClauseL (n : Int) : Int → List D → Bool
  | _, [] => true
  | a, .int i :: ds => decide (a < if i < 0 then -i else i) && decide ((if i < 0 then -i else i) ≤ n) && isClauseL n (if i < 0 then -i else i) ds
  | _, _ :: _ => false
def isClause (v : D) (n : Int) : Bool := match v with
  | .tup ds => isClauseL n 0 ds
  | _ => false
def isRowL : Int → List D → Bool
  | _, [] => true
  | a, .int i :: ds => decide (a < if i < 0 then -i else i) && isRowL (if i < 0 then -i else i) ds
  | _, _ :: _ => false
def isRow (v : D) : Bool := match v with
  | .tup ds => isRowL 0 ds
  | _ => false
theorem isRowL_ints : ∀ {a : Int} {ds : List D}, isRowL a ds = true → ∃ xs : List Int, ds = xs.map .int
  | _, [], _ => ⟨[], rfl⟩
  | a, d :: ds, h => by
    cases d with
    | int i =>
      have h : (decide (a < if i < 0 then -i else i) && isRowL (if i < 0 then -i else i) ds) = true := h
      rw [Bool.and_eq_true] at h
      obtain ⟨xs, e⟩ := isRowL_ints h.2
      exact ⟨i :: xs, by rw [e]; rfl⟩
    | _ => cases h
theorem isRow_ints {d : D} (h : isRow d = true) : ∃ xs : List Int, d = .tup (xs.map .int) := by
  cases d with
  | tup ds =>
    obtain ⟨xs, e⟩ := isRowL_ints (a := 0) h
    exact ⟨xs, by rw [e]⟩
  | _ => cases h
theorem isClauseL_row {n : Int} : ∀ {a : Int} {ds : List D}, isClauseL n a ds = true → isRowL a ds = true
  | _, [], _ => rfl
  | a, d :: ds, h => by
    cases d with
    | int i =>
      have h : (decide (a < if i < 0 then -i else i) && decide ((if i < 0 then -i else i) ≤ n) && isClauseL n (if i < 0 then -i else i) ds) = true := h
      rw [Bool.and_eq_true, Bool.and_eq_true] at h
      show (decide (a < if i < 0 then -i else i) && isRowL (if i < 0 then -i else i) ds) = true
      rw [Bool.and_eq_true]
      exact ⟨h.1.1, isClauseL_row h.2⟩
    | _ => cases h
theorem isRowL_last : ∀ {a : Int} {xs : List Int} {z : Int}, isRowL a (xs.map .int) = true → xs.getLast? = some z → a < (if z < 0 then -z else z)
  | a, [x], z, h, e => by
    obtain rfl : x = z := by simpa using e
    have h : (decide (a < if x < 0 then -x else x) && true) = true := h
    simpa using h
  | a, x :: y :: xs, z, h, e => by
    have h : (decide (a < if x < 0 then -x else x) && isRowL (if x < 0 then -x else x) ((y :: xs).map .int)) = true := h
    rw [Bool.and_eq_true] at h
    have := isRowL_last h.2 (by rw [List.getLast?_cons_cons] at e; exact e)
    have := of_decide_eq_true h.1
    omega
theorem isRowL_bound {n : Int} : ∀ {a : Int} {xs : List Int} {z : Int}, isRowL a (xs.map .int) = true → xs.getLast? = some z → isClauseL n a (xs.map .int) = decide ((if z < 0 then -z else z) ≤ n)
  | a, [x], z, h, e => by
    obtain rfl : x = z := by simpa using e
    have h : (decide (a < if x < 0 then -x else x) && true) = true := h
    rw [Bool.and_eq_true] at h
    show (decide (a < if x < 0 then -x else x) && decide ((if x < 0 then -x else x) ≤ n) && true) = _
    rw [h.1, Bool.true_and, Bool.and_true]
  | a, x :: y :: xs, z, h, e => by
    have h : (decide (a < if x < 0 then -x else x) && isRowL (if x < 0 then -x else x) ((y :: xs).map .int)) = true := h
    rw [Bool.and_eq_true] at h
    have e : (y :: xs).getLast? = some z := by rw [List.getLast?_cons_cons] at e; exact e
    have ih := isRowL_bound (n := n) h.2 e
    have hl := isRowL_last h.2 e
    show (decide (a < if x < 0 then -x else x) && decide ((if x < 0 then -x else x) ≤ n) && isClauseL n (if x < 0 then -x else x) ((y :: xs).map .int)) = _
    rw [h.1, ih, Bool.true_and]
    generalize (if x < 0 then -x else x) = p at *
    generalize (if z < 0 then -z else z) = q at *
    by_cases hq : q ≤ n
    · rw [decide_eq_true hq, decide_eq_true (by omega)]; rfl
    · rw [decide_eq_false hq, Bool.and_false]
theorem isClause_row {x : D} {n : Int} (h : isRow x = false) : isClause x n = false := by
  cases x with
  | tup ds =>
    cases z : isClause (.tup ds) n
    · rfl
    · exact absurd (isClauseL_row (n := n) (a := 0) z) (by rw [show isRowL 0 ds = false from h]; simp)
  | _ => rfl
theorem notFrm_of : ∀ {d : D}, d.pure = true → d.notFrm = true
  | .frm _ _, h => by unfold D.pure at h; cases h
  | .non, _ => rfl
  | .bl _, _ => rfl
  | .int _, _ => rfl
  | .str _, _ => rfl
  | .tup _, _ => rfl
  | .lst _, _ => rfl
  | .scr _, _ => rfl
theorem pures_all : ∀ {ds : List D}, D.pures ds = true → ∀ d ∈ ds, d.pure = true
  | [], _, _, h => by cases h
  | e :: es, p, d, h => by
    unfold D.pures at p
    rw [Bool.and_eq_true] at p
    rcases List.mem_cons.mp h with h | h
    · rw [h]; exact p.1
    · exact pures_all p.2 d h
theorem pures_mem {ds : List D} {d : D} (h : (D.tup ds).pure = true) (m : d ∈ ds) : d.pure = true := pures_all (by unfold D.pure at h; exact h) d m
theorem drop_of {α : Type} {xs : List α} {i : Nat} {x : α} (h : xs[i]? = some x) : xs.drop i = x :: xs.drop (i + 1) := by
  obtain ⟨hl, e⟩ := List.getElem?_eq_some_iff.mp h
  rw [List.drop_eq_getElem_cons hl, e]
namespace K02
def top (i : Nat) : Stmt := PySem.Challenge.pw_clausehold_k02_clauses_and_rows.main.body.getD i (.Pass ⟨0, 0, 0, 0⟩)

abbrev s_InvalidLiterals_init : Stmt := inClass (top 2) 0
abbrev N_InvalidLiterals_init : List Str := ["self", "value"]
theorem sc_InvalidLiterals_init : FnScope N_InvalidLiterals_init ["self", "value"] (defScope s_InvalidLiterals_init) := ⟨rfl, rfl, rfl, by decide +kernel, rfl, by decide +kernel, by decide +kernel⟩
theorem vs_InvalidLiterals_init : visB ["self", "value"] (defScope s_InvalidLiterals_init) = true := by decide +kernel
abbrev s_is_whole : Stmt := top 4
abbrev N_is_whole : List Str := ["value"]
theorem sc_is_whole : FnScope N_is_whole ["value"] (defScope s_is_whole) := ⟨rfl, rfl, rfl, by decide +kernel, rfl, by decide +kernel, by decide +kernel⟩
theorem vs_is_whole : visB ["value"] (defScope s_is_whole) = true := by decide +kernel
theorem gs_is_whole : glB ["isinstance", "int", "bool"] (defScope s_is_whole) = true := by decide +kernel
abbrev s_is_sequence : Stmt := top 5
abbrev N_is_sequence : List Str := ["value"]
theorem sc_is_sequence : FnScope N_is_sequence ["value"] (defScope s_is_sequence) := ⟨rfl, rfl, rfl, by decide +kernel, rfl, by decide +kernel, by decide +kernel⟩
theorem vs_is_sequence : visB ["value"] (defScope s_is_sequence) = true := by decide +kernel
theorem gs_is_sequence : glB ["isinstance", "list", "tuple"] (defScope s_is_sequence) = true := by decide +kernel
abbrev s_is_row : Stmt := top 7
abbrev N_is_row : List Str := ["value", "ahead", "literal"]
theorem sc_is_row : FnScope N_is_row ["value"] (defScope s_is_row) := ⟨rfl, rfl, rfl, by decide +kernel, rfl, by decide +kernel, by decide +kernel⟩
theorem vs_is_row : visB ["value", "ahead", "literal"] (defScope s_is_row) = true := by decide +kernel
theorem ls_is_row : locB ["ahead", "literal"] (defScope s_is_row) = true := by decide +kernel
theorem gs_is_row : glB ["isinstance", "tuple", "is_whole", "abs"] (defScope s_is_row) = true := by decide +kernel
abbrev s_is_clause : Stmt := top 8
abbrev N_is_clause : List Str := ["value", "n"]
theorem sc_is_clause : FnScope N_is_clause ["value", "n"] (defScope s_is_clause) := ⟨rfl, rfl, rfl, by decide +kernel, rfl, by decide +kernel, by decide +kernel⟩
theorem vs_is_clause : visB ["value", "n"] (defScope s_is_clause) = true := by decide +kernel
theorem gs_is_clause : glB ["is_row", "len", "abs"] (defScope s_is_clause) = true := by decide +kernel
abbrev s_clause_of : Stmt := top 9
abbrev N_clause_of : List Str := ["literals", "there", "literal"]
theorem sc_clause_of : FnScope N_clause_of ["literals"] (defScope s_clause_of) := ⟨rfl, rfl, rfl, by decide +kernel, rfl, by decide +kernel, by decide +kernel⟩
theorem vs_clause_of : visB ["literals", "there"] (defScope s_clause_of) = true := by decide +kernel
theorem ls_clause_of : locB ["there"] (defScope s_clause_of) = true := by decide +kernel
theorem gs_clause_of : glB ["is_sequence", "all", "InvalidLiterals", "any", "tuple", "sorted", "abs"] (defScope s_clause_of) = true := by decide +kernel
abbrev s_agrees : Stmt := top 10
abbrev N_agrees : List Str := ["literals", "model", "literal"]
theorem sc_agrees : FnScope N_agrees ["literals", "model"] (defScope s_agrees) := ⟨rfl, rfl, rfl, by decide +kernel, rfl, by decide +kernel, by decide +kernel⟩
theorem vs_agrees : visB ["literals", "model", "literal"] (defScope s_agrees) = true := by decide +kernel
theorem ls_agrees : locB ["literal"] (defScope s_agrees) = true := by decide +kernel
abbrev s_law_draws : Stmt := top 12
abbrev N_law_draws : List Str := ["script", "k", "bounds", "cell", "rest", "drawn", "j", "mixed"]
theorem sc_law_draws : FnScope N_law_draws ["script", "k", "bounds"] (defScope s_law_draws) := ⟨rfl, rfl, rfl, by decide +kernel, rfl, by decide +kernel, by decide +kernel⟩
theorem vs_law_draws : visB ["script", "k", "bounds", "cell", "rest", "drawn", "j", "mixed"] (defScope s_law_draws) = true := by decide +kernel
theorem ls_law_draws : locB ["cell", "rest", "drawn", "j", "mixed"] (defScope s_law_draws) = true := by decide +kernel
theorem gs_law_draws : glB ["len", "int", "max", "range"] (defScope s_law_draws) = true := by decide +kernel
abbrev s_law_equal : Stmt := top 13
abbrev N_law_equal : List Str := ["actual", "expected", "k"]
theorem sc_law_equal : FnScope N_law_equal ["actual", "expected"] (defScope s_law_equal) := ⟨rfl, rfl, rfl, by decide +kernel, rfl, by decide +kernel, by decide +kernel⟩
theorem vs_law_equal : visB ["actual", "expected", "k"] (defScope s_law_equal) = true := by decide +kernel
theorem ls_law_equal : locB ["k"] (defScope s_law_equal) = true := by decide +kernel
theorem gs_law_equal : glB ["isinstance", "bool", "int", "str", "tuple", "len", "range", "_law_equal"] (defScope s_law_equal) = true := by decide +kernel
abbrev s_law_is_clause : Stmt := top 14
abbrev N_law_is_clause : List Str := ["value", "n", "before", "literal"]
theorem sc_law_is_clause : FnScope N_law_is_clause ["value", "n"] (defScope s_law_is_clause) := ⟨rfl, rfl, rfl, by decide +kernel, rfl, by decide +kernel, by decide +kernel⟩
theorem vs_law_is_clause : visB ["value", "n", "before", "literal"] (defScope s_law_is_clause) = true := by decide +kernel
theorem ls_law_is_clause : locB ["before", "literal"] (defScope s_law_is_clause) = true := by decide +kernel
theorem gs_law_is_clause : glB ["isinstance", "tuple", "int", "bool", "abs"] (defScope s_law_is_clause) = true := by decide +kernel
abbrev s_law_row : Stmt := top 15
abbrev N_law_row : List Str := ["script", "k", "n", "drawn", "number", "row", "v", "digit"]
theorem sc_law_row : FnScope N_law_row ["script", "k", "n"] (defScope s_law_row) := ⟨rfl, rfl, rfl, by decide +kernel, rfl, by decide +kernel, by decide +kernel⟩
theorem vs_law_row : visB ["script", "k", "n", "drawn", "number", "row", "v", "digit"] (defScope s_law_row) = true := by decide +kernel
theorem ls_law_row : locB ["drawn", "number", "row", "v", "digit"] (defScope s_law_row) = true := by decide +kernel
theorem gs_law_row : glB ["_law_draws", "range", "int", "len", "tuple"] (defScope s_law_row) = true := by decide +kernel
abbrev s_law_changed : Stmt := top 16
abbrev N_law_changed : List Str := ["script", "k", "row", "n", "drawn", "at", "new"]
theorem sc_law_changed : FnScope N_law_changed ["script", "k", "row", "n"] (defScope s_law_changed) := ⟨rfl, rfl, rfl, by decide +kernel, rfl, by decide +kernel, by decide +kernel⟩
theorem vs_law_changed : visB ["script", "k", "row", "n", "drawn", "at", "new"] (defScope s_law_changed) = true := by decide +kernel
theorem ls_law_changed : locB ["drawn", "at", "new"] (defScope s_law_changed) = true := by decide +kernel
theorem gs_law_changed : glB ["_law_draws", "int", "len", "list"] (defScope s_law_changed) = true := by decide +kernel
abbrev s_law_numbers : Stmt := top 17
abbrev N_law_numbers : List Str := ["script", "k", "drawn", "numbers", "j", "row", "number", "sign"]
theorem sc_law_numbers : FnScope N_law_numbers ["script", "k"] (defScope s_law_numbers) := ⟨rfl, rfl, rfl, by decide +kernel, rfl, by decide +kernel, by decide +kernel⟩
theorem vs_law_numbers : visB ["script", "k", "drawn", "numbers", "j", "row", "number", "sign"] (defScope s_law_numbers) = true := by decide +kernel
theorem ls_law_numbers : locB ["drawn", "numbers", "j", "row", "number", "sign"] (defScope s_law_numbers) = true := by decide +kernel
theorem gs_law_numbers : glB ["_law_draws", "range", "len", "abs", "int"] (defScope s_law_numbers) = true := by decide +kernel
abbrev s_law_clause_of : Stmt := top 18
abbrev N_law_clause_of : List Str := ["numbers", "clause", "v", "number"]
theorem sc_law_clause_of : FnScope N_law_clause_of ["numbers"] (defScope s_law_clause_of) := ⟨rfl, rfl, rfl, by decide +kernel, rfl, by decide +kernel, by decide +kernel⟩
theorem vs_law_clause_of : visB ["numbers", "clause", "v"] (defScope s_law_clause_of) = true := by decide +kernel
theorem ls_law_clause_of : locB ["clause", "v"] (defScope s_law_clause_of) = true := by decide +kernel
theorem gs_law_clause_of : glB ["sorted", "tuple"] (defScope s_law_clause_of) = true := by decide +kernel
abbrev s_law_told : Stmt := top 19
abbrev N_law_told : List Str := ["numbers", "literals_error"]
theorem sc_law_told : FnScope N_law_told ["numbers"] (defScope s_law_told) := ⟨rfl, rfl, rfl, by decide +kernel, rfl, by decide +kernel, by decide +kernel⟩
theorem vs_law_told : visB ["numbers", "literals_error"] (defScope s_law_told) = true := by decide +kernel
theorem ls_law_told : locB ["literals_error"] (defScope s_law_told) = true := by decide +kernel
theorem gs_law_told : glB ["clause_of", "InvalidLiterals"] (defScope s_law_told) = true := by decide +kernel
abbrev s_law_refused : Stmt := top 20
abbrev N_law_refused : List Str := ["value", "told"]
theorem sc_law_refused : FnScope N_law_refused ["value"] (defScope s_law_refused) := ⟨rfl, rfl, rfl, by decide +kernel, rfl, by decide +kernel, by decide +kernel⟩
theorem vs_law_refused : visB ["value", "told"] (defScope s_law_refused) = true := by decide +kernel
theorem ls_law_refused : locB ["told"] (defScope s_law_refused) = true := by decide +kernel
theorem gs_law_refused : glB ["_law_told", "isinstance", "list", "_law_equal"] (defScope s_law_refused) = true := by decide +kernel
abbrev s_law : Stmt := top 21
abbrev N_law : List Str := ["script", "drawn", "n", "row", "value", "size", "numbers", "handed", "at", "bad", "told", "other", "pair", "due", "literal"]
theorem sc_law : FnScope N_law ["script"] (defScope s_law) := ⟨rfl, rfl, rfl, by decide +kernel, rfl, by decide +kernel, by decide +kernel⟩
theorem vs_law : visB ["script", "drawn", "n", "row", "value", "size", "numbers", "handed", "at", "bad", "told", "other", "pair", "due"] (defScope s_law) = true := by decide +kernel
theorem ls_law : locB ["drawn", "n", "row", "value", "size", "numbers", "handed", "at", "bad", "told", "other", "pair", "due"] (defScope s_law) = true := by decide +kernel
theorem gs_law : glB ["_law_draws", "_law_row", "_law_changed", "_law_equal", "is_clause", "_law_is_clause", "_law_numbers", "list", "tuple", "_law_told", "_law_clause_of", "int", "len", "_law_refused", "agrees"] (defScope s_law) = true := by decide +kernel

/-- what the top has written -/
structure Txt (K : PySem.W.Frag) (mg : Str → Option Value) : Prop where
  b_isinstance : mg "isinstance" = none
  b_int : mg "int" = none
  b_bool : mg "bool" = none
  b_list : mg "list" = none
  b_tuple : mg "tuple" = none
  b_abs : mg "abs" = none
  b_len : mg "len" = none
  b_all : mg "all" = none
  b_any : mg "any" = none
  b_sorted : mg "sorted" = none
  b_max : mg "max" = none
  b_range : mg "range" = none
  b_str : mg "str" = none
  x_InvalidLiterals : XcAt K mg "InvalidLiterals" s_InvalidLiterals_init "self" "value" "value"
  d_is_whole : DefAt K mg "is_whole" s_is_whole ["value"]
  d_is_sequence : DefAt K mg "is_sequence" s_is_sequence ["value"]
  d_is_row : DefAt K mg "is_row" s_is_row ["value"]
  d_is_clause : DefAt K mg "is_clause" s_is_clause ["value", "n"]
  d_clause_of : DefAt K mg "clause_of" s_clause_of ["literals"]
  d_agrees : DefAt K mg "agrees" s_agrees ["literals", "model"]
  d_law_draws : DefAt K mg "_law_draws" s_law_draws ["script", "k", "bounds"]
  d_law_equal : DefAt K mg "_law_equal" s_law_equal ["actual", "expected"]
  d_law_is_clause : DefAt K mg "_law_is_clause" s_law_is_clause ["value", "n"]
  d_law_row : DefAt K mg "_law_row" s_law_row ["script", "k", "n"]
  d_law_changed : DefAt K mg "_law_changed" s_law_changed ["script", "k", "row", "n"]
  d_law_numbers : DefAt K mg "_law_numbers" s_law_numbers ["script", "k"]
  d_law_clause_of : DefAt K mg "_law_clause_of" s_law_clause_of ["numbers"]
  d_law_told : DefAt K mg "_law_told" s_law_told ["numbers"]
  d_law_refused : DefAt K mg "_law_refused" s_law_refused ["value"]
  d_law : DefAt K mg "law" s_law ["script"]

theorem body_law_draws {G : Gx} {ds : List D} (hl : ds.length = Z_law_draws.n) (pre : Z_law_draws.pre ds) [CtxI G] [PasI G] [TkI G] [NmI G.X "script" 0] [NmI G.X "k" 1] [NmI G.X "bounds" 2] [NmI G.X "cell" 3] [NmI G.X "rest" 4] [NmI G.X "drawn" 5] [NmI G.X "j" 6] [NmI G.X "mixed" 7] [NsI G.X "cell" 3] [NsI G.X "rest" 4] [NsI G.X "drawn" 5] [NsI G.X "j" 6] [NsI G.X "mixed" 7] [BiI G.X "len" (.builtin "len")] [BiI G.X "int" (.type "int")] [BiI G.X "max" (.builtin "max")] [BiI G.X "range" (.type "range")] : Run G (ds.map Sd.dat ++ List.replicate (N_law_draws.length - Z_law_draws.n) Sd.non) (defBody s_law_draws) { nx := fun _ => Z_law_draws.post ds (.ret .non), rt := Z_law_draws.post ds } := by
  obtain ⟨ns, k, bs, rfl, h1, h2, h3, h4, h5⟩ := pre
  have fin : ∀ xs : List Int, Drawn xs bs → Z_law_draws.post [.scr ns, .int k, .lst (bs.map .int)] (.new (xs.map .int)) := fun xs h => ⟨ns, k, bs, xs, rfl, rfl, h⟩
  show Run G [.dat (.scr ns), .dat (.int k), .dat (.lst (bs.map .int)), .non, .non, .non, .non, .non] _ _
  walk_at "set"
  walk_at "set"
  refine go_ifJ (fun S' => ∃ cell rest : Int, 0 ≤ rest ∧ S' = [.dat (.scr ns), .dat (.int k), .dat (.lst (bs.map .int)), .dat (.int cell), .dat (.int rest), .non, .non, .non]) (by walk_at "sd") ?_ ?_ ?_
  · intro hk
    have hk : k < (ns.length : Int) := of_decide_eq_true hk
    have hz := atI_isSome h2 hk
    walk_at "set"
    walk_at "set"
    exact go_nil ⟨_, _, by split <;> omega, rfl⟩
  · intro _
    walk_at "if"
    · intro hk
      have hk : 0 < (ns.length : Int) := of_decide_eq_true hk
      have hz := atI_isSome (xs := ns) (Int.emod_nonneg k (by omega)) (Int.emod_lt_of_pos k hk)
      walk_at "set"
      exact go_nil (go_nil ⟨_, 0, Int.le_refl 0, rfl⟩)
    · intro _
      exact go_nil (go_nil ⟨0, 0, Int.le_refl 0, rfl⟩)
  · rintro S' ⟨cell, rest, hr, rfl⟩
    walk_at "setL"
    refine go_range (fun i S' => ∃ (r : Int) (xs : List Int) (a b : Sd), 0 ≤ r ∧ xs.length = i ∧ (∀ (j : Nat) (x b : Int), xs[j]? = some x → bs[j]? = some b → 0 ≤ x ∧ x < b) ∧
        S' = [.dat (.scr ns), .dat (.int k), .dat (.lst (bs.map .int)), .dat (.int cell), .dat (.int r), .own (xs.map .int), a, b]) (by walk_at "sd") ?_ ?_ ?_ ?_ ?_
    · omega
    · rw [List.length_map]; omega
    · exact ⟨rest, [], .non, .non, hr, rfl, fun j x b h => by simp at h, rfl⟩
    · rintro i S' hi ⟨r, xs, a, b, h0, hl, hx, rfl⟩
      rw [List.length_map] at hi
      dsimp only [List.set]
      obtain ⟨bd, hb⟩ : ∃ bd, bs[i]? = some bd := ⟨_, List.getElem?_eq_getElem (by omega)⟩
      have hb5 := h5 bd (List.mem_of_getElem? hb)
      have hbi : atI bs (i : Int) = some bd := atI_nat hb
      have hbs : (atI bs (i : Int)).isSome = true := by rw [hbi]; rfl
      have hbv : (atI bs (i : Int)).getD 0 = bd := by rw [hbi]; rfl
      have hlen : (xs.map D.int).length < sizeLine := by rw [List.length_map, hl]; exact Nat.lt_of_le_of_lt (by omega : i ≤ 100000) (by decide)
      walk_at "if"
      · intro hr'
        have hr0 : 0 < r := of_decide_eq_true hr'
        refine go_append (by rw [hbv]; walk_at "sd") hlen ?_
        rw [hbv]
        refine go_set (by rw [hbv]; walk_at "sd") ?_
        rw [hbv]
        refine go_nil (go_nil ⟨r / bd, xs ++ [r % bd], .dat (.int i), b, Int.ediv_nonneg h0 (by omega), by simp [hl], grow hl hx hb (Int.emod_nonneg _ (by omega)) (Int.emod_lt_of_pos _ hb5.1), ?_⟩)
        rw [List.map_append]; rfl
      · intro hr'
        walk_at "set"
        generalize e1 : (cell * 48271 + k * 69621 + (i : Int) * 40692 + 12345) % 2147483647 = m1
        have b1 : 0 ≤ m1 ∧ m1 < 2147483647 := by omega
        walk_at "set"
        generalize e2 : (m1 * m1 + (i : Int) * 16807 + 271) % 2147483563 = m2
        have b2 : 0 ≤ m2 ∧ m2 < 2147483563 := by omega
        walk_at "set"
        generalize e3 : (m2 * m2 + m2 * 39373 + 7) % 2147483399 = m3
        refine go_append (by rw [hbv]; walk_at "sd") hlen ?_
        rw [hbv]
        refine go_nil (go_nil ⟨r, xs ++ [m3 / 16 % bd], .dat (.int i), .dat (.int m3), h0, by simp [hl], grow hl hx hb (Int.emod_nonneg _ (by omega)) (Int.emod_lt_of_pos _ hb5.1), ?_⟩)
        rw [List.map_append]; rfl
    · rintro S' ⟨r, xs, a, b, h0, hl, hx, rfl⟩
      exact go_retO (fin xs ⟨by simp [hl], hx⟩)
theorem av_law_draws {P : Program} {w : World} {K : PySem.W.Frag} {mg : Str → Option Value} {base : Heap} {CF : Addr} (T : Txt K mg)  : Av P w K mg base CF 1 "_law_draws" Z_law_draws := by
  refine T.d_law_draws.av fun f fd F => fn_ok F sc_law_draws rfl fun G ds hP hw hK hmg hb hCF c hl pre hex => ?_
  subst hmg hP hw hK hb hCF
  haveI := c.i
  haveI := c.pp
  haveI := c.tt
  haveI : NmI G.X "script" 0 := c.nmi rfl vs_law_draws
  haveI : NmI G.X "k" 1 := c.nmi rfl vs_law_draws
  haveI : NmI G.X "bounds" 2 := c.nmi rfl vs_law_draws
  haveI : NmI G.X "cell" 3 := c.nmi rfl vs_law_draws
  haveI : NmI G.X "rest" 4 := c.nmi rfl vs_law_draws
  haveI : NmI G.X "drawn" 5 := c.nmi rfl vs_law_draws
  haveI : NmI G.X "j" 6 := c.nmi rfl vs_law_draws
  haveI : NmI G.X "mixed" 7 := c.nmi rfl vs_law_draws
  haveI : NsI G.X "cell" 3 := c.nsi rfl ls_law_draws
  haveI : NsI G.X "rest" 4 := c.nsi rfl ls_law_draws
  haveI : NsI G.X "drawn" 5 := c.nsi rfl ls_law_draws
  haveI : NsI G.X "j" 6 := c.nsi rfl ls_law_draws
  haveI : NsI G.X "mixed" 7 := c.nsi rfl ls_law_draws
  haveI : BiI G.X "len" (.builtin "len") := c.bii gs_law_draws T.b_len
  haveI : BiI G.X "int" (.type "int") := c.bii gs_law_draws T.b_int
  haveI : BiI G.X "max" (.builtin "max") := c.bii gs_law_draws T.b_max
  haveI : BiI G.X "range" (.type "range") := c.bii gs_law_draws T.b_range
  first | with_reducible exact body_law_draws hl pre | exact body_law_draws hl pre

abbrev Z_is_whole : Spec := Z1 (fun x => x.notFrm = true) (fun x => .bl (x.isA .int && !x.isA .bool))
theorem body_is_whole {G : Gx} {ds : List D} (hl : ds.length = Z_is_whole.n) (pre : Z_is_whole.pre ds) [CtxI G] [PasI G] [TkI G] [NmI G.X "value" 0] [BiI G.X "isinstance" (.builtin "isinstance")] [BiI G.X "int" (.type "int")] [BiI G.X "bool" (.type "bool")] : Run G (ds.map Sd.dat ++ List.replicate (N_is_whole.length - Z_is_whole.n) Sd.non) (defBody s_is_whole) { nx := fun _ => Z_is_whole.post ds (.ret .non), rt := Z_is_whole.post ds } := by
  obtain ⟨x, rfl, hx⟩ := pre
  show Run G [.dat x] _ _
  refine go_ret (by walk_at "sd") ?_
  exact ⟨x, rfl, rfl⟩
theorem av_is_whole {P : Program} {w : World} {K : PySem.W.Frag} {mg : Str → Option Value} {base : Heap} {CF : Addr} (T : Txt K mg)  : Av P w K mg base CF 1 "is_whole" Z_is_whole := by
  refine T.d_is_whole.av fun f fd F => fn_ok F sc_is_whole rfl fun G ds hP hw hK hmg hb hCF c hl pre hex => ?_
  subst hmg hP hw hK hb hCF
  haveI := c.i
  haveI := c.pp
  haveI := c.tt
  haveI : NmI G.X "value" 0 := c.nmi rfl vs_is_whole
  haveI : BiI G.X "isinstance" (.builtin "isinstance") := c.bii gs_is_whole T.b_isinstance
  haveI : BiI G.X "int" (.type "int") := c.bii gs_is_whole T.b_int
  haveI : BiI G.X "bool" (.type "bool") := c.bii gs_is_whole T.b_bool
  first | with_reducible exact body_is_whole hl pre | exact body_is_whole hl pre

abbrev Z_is_sequence : Spec := Z1 (fun x => x.notFrm = true) (fun x => .bl (x.isA .list || x.isA .tuple))
theorem body_is_sequence {G : Gx} {ds : List D} (hl : ds.length = Z_is_sequence.n) (pre : Z_is_sequence.pre ds) [CtxI G] [PasI G] [TkI G] [NmI G.X "value" 0] [BiI G.X "isinstance" (.builtin "isinstance")] [BiI G.X "list" (.type "list")] [BiI G.X "tuple" (.type "tuple")] : Run G (ds.map Sd.dat ++ List.replicate (N_is_sequence.length - Z_is_sequence.n) Sd.non) (defBody s_is_sequence) { nx := fun _ => Z_is_sequence.post ds (.ret .non), rt := Z_is_sequence.post ds } := by
  obtain ⟨x, rfl, hx⟩ := pre
  show Run G [.dat x] _ _
  refine go_ret (by walk_at "sd") ?_
  exact ⟨x, rfl, rfl⟩
theorem av_is_sequence {P : Program} {w : World} {K : PySem.W.Frag} {mg : Str → Option Value} {base : Heap} {CF : Addr} (T : Txt K mg)  : Av P w K mg base CF 1 "is_sequence" Z_is_sequence := by
  refine T.d_is_sequence.av fun f fd F => fn_ok F sc_is_sequence rfl fun G ds hP hw hK hmg hb hCF c hl pre hex => ?_
  subst hmg hP hw hK hb hCF
  haveI := c.i
  haveI := c.pp
  haveI := c.tt
  haveI : NmI G.X "value" 0 := c.nmi rfl vs_is_sequence
  haveI : BiI G.X "isinstance" (.builtin "isinstance") := c.bii gs_is_sequence T.b_isinstance
  haveI : BiI G.X "list" (.type "list") := c.bii gs_is_sequence T.b_list
  haveI : BiI G.X "tuple" (.type "tuple") := c.bii gs_is_sequence T.b_tuple
  first | with_reducible exact body_is_sequence hl pre | exact body_is_sequence hl pre

abbrev Z_is_row : Spec := Z1 (fun x => x.pure = true) (fun x => .bl (isRow x))
theorem body_is_row {G : Gx} {ds : List D} (hl : ds.length = Z_is_row.n) (pre : Z_is_row.pre ds) [CtxI G] [PasI G] [TkI G] [NmI G.X "value" 0] [NmI G.X "ahead" 1] [NmI G.X "literal" 2] [NsI G.X "ahead" 1] [NsI G.X "literal" 2] [BiI G.X "isinstance" (.builtin "isinstance")] [BiI G.X "tuple" (.type "tuple")] [BiI G.X "abs" (.builtin "abs")] [CalI G "is_whole" Z_is_whole] : Run G (ds.map Sd.dat ++ List.replicate (N_is_row.length - Z_is_row.n) Sd.non) (defBody s_is_row) { nx := fun _ => Z_is_row.post ds (.ret .non), rt := Z_is_row.post ds } := by
  obtain ⟨x, rfl, hx⟩ := pre
  show Run G [.dat x, .non, .non] _ _
  have fin : ∀ b, b = isRow x → Z_is_row.post [x] (.ret (.bl b)) := fun b e => ⟨x, rfl, by rw [e]⟩
  have nf : x.notFrm = true := notFrm_of hx
  cases x with
  | tup ds =>
    refine go_if (by walk_at "sd") (fun z => Bool.noConfusion (show false = true from z)) (fun _ => go_nil ?_)
    walk_at "set"
    refine go_for id ds (fun i S' => ∃ (a : Int) (l : Sd), S' = [.dat (.tup ds), .dat (.int a), l] ∧ isRowL 0 ds = isRowL a (ds.drop i)) (by walk_at "sd") (by simp) ⟨0, .non, rfl, rfl⟩ ?_ ?_
    · rintro g i d S' hd ⟨a, l, rfl, e⟩
      dsimp only [List.set, id]
      have hp : d.pure = true := pures_mem hx (List.mem_of_getElem? hd)
      have hf : d.notFrm = true := notFrm_of hp
      rw [drop_of hd] at e
      cases d with
      | int j =>
        refine go_if (by walk_at "sd") (fun z => ?_) (fun z => ?_)
        · refine go_ret (by walk_at "sd") (fin _ ?_)
          have z : decide (a < if j < 0 then -j else j) = false := by
            generalize (if j < 0 then -j else j) = m at *
            simp [D.isA] at z ⊢
            omega
          show _ = isRowL 0 ds
          rw [e]
          simp only [isRowL, z, Bool.false_and]
        · have z : decide (a < if j < 0 then -j else j) = true := by
            generalize (if j < 0 then -j else j) = m at *
            simp [D.isA] at z ⊢
            omega
          refine go_nil ?_
          walk_at "set"
          refine go_nil ⟨_, _, rfl, ?_⟩
          rw [e]
          simp only [isRowL, z, Bool.true_and]
      | _ =>
        refine go_if (by walk_at "sd") (fun z => ?_) (fun z => Bool.noConfusion (show true = false from z))
        refine go_ret (by walk_at "sd") (fin _ ?_)
        exact e.symm
    · rintro S' ⟨a, l, rfl, e⟩
      refine go_ret (by walk_at "sd") (fin _ ?_)
      rw [List.drop_length] at e
      exact e.symm
  | _ =>
    refine go_if (by walk_at "sd") (fun _ => ?_) (fun z => Bool.noConfusion (show true = false from z))
    exact go_ret (by walk_at "sd") (fin _ rfl)
theorem av_is_row {P : Program} {w : World} {K : PySem.W.Frag} {mg : Str → Option Value} {base : Heap} {CF : Addr} (T : Txt K mg) (a_is_whole : Av P w K mg base CF 1 "is_whole" Z_is_whole) : Av P w K mg base CF 2 "is_row" Z_is_row := by
  refine T.d_is_row.av fun f fd F => fn_ok F sc_is_row rfl fun G ds hP hw hK hmg hb hCF c hl pre hex => ?_
  subst hmg hP hw hK hb hCF
  haveI := c.i
  haveI := c.pp
  haveI := c.tt
  haveI : NmI G.X "value" 0 := c.nmi rfl vs_is_row
  haveI : NmI G.X "ahead" 1 := c.nmi rfl vs_is_row
  haveI : NmI G.X "literal" 2 := c.nmi rfl vs_is_row
  haveI : NsI G.X "ahead" 1 := c.nsi rfl ls_is_row
  haveI : NsI G.X "literal" 2 := c.nsi rfl ls_is_row
  haveI : BiI G.X "isinstance" (.builtin "isinstance") := c.bii gs_is_row T.b_isinstance
  haveI : BiI G.X "tuple" (.type "tuple") := c.bii gs_is_row T.b_tuple
  haveI : BiI G.X "abs" (.builtin "abs") := c.bii gs_is_row T.b_abs
  haveI : CalI G "is_whole" Z_is_whole := c.cal gs_is_row a_is_whole (by decide)
  first | with_reducible exact body_is_row hl pre | exact body_is_row hl pre

abbrev Z_is_clause : Spec := Z2 (fun x y => x.pure = true ∧ ∃ n, y = .int n) (fun x y => .bl (isClause x y.toInt))
theorem body_is_clause {G : Gx} {ds : List D} (hl : ds.length = Z_is_clause.n) (pre : Z_is_clause.pre ds) [CtxI G] [PasI G] [TkI G] [NmI G.X "value" 0] [NmI G.X "n" 1] [BiI G.X "len" (.builtin "len")] [BiI G.X "abs" (.builtin "abs")] [CalI G "is_row" Z_is_row] : Run G (ds.map Sd.dat ++ List.replicate (N_is_clause.length - Z_is_clause.n) Sd.non) (defBody s_is_clause) { nx := fun _ => Z_is_clause.post ds (.ret .non), rt := Z_is_clause.post ds } := by
  obtain ⟨x, y, rfl, hx, n, rfl⟩ := pre
  show Run G [.dat x, .dat (.int n)] _ _
  have fin : ∀ b, b = isClause x n → Z_is_clause.post [x, .int n] (.ret (.bl b)) := fun b e => ⟨x, .int n, rfl, by rw [e]; rfl⟩
  have nf : x.notFrm = true := notFrm_of hx
  cases hr : isRow x with
  | false =>
    haveI : ∀ {es : List Expr} {pos : Pos}, EvR G [.dat x, .dat (.int n)] (.BoolOp .Or es pos) (.bl false) False := ⟨fun h => h.elim⟩
    refine go_ret (by walk_at "sd"; rename_i h; exact absurd (h.symm.trans hr) (by decide)) (fin _ ?_)
    rw [hr, isClause_row hr]; rfl
  | true =>
    obtain ⟨xs, rfl⟩ := isRow_ints hr
    cases hz : xs.getLast? with
    | none =>
      obtain rfl : xs = [] := by simpa using hz
      refine go_ret (by walk_at "sd") (fin _ ?_)
      rfl
    | some z =>
      have hz2 : atI xs (-1) = some z := by rw [atI_lastQ]; exact hz
      have hb := isRowL_bound (n := n) (a := 0) hr hz
      have hne : xs ≠ [] := fun q => by rw [q] at hz; cases hz
      refine go_ret (by walk_at "sd"; rw [hz2]; rfl) (fin _ ?_)
      rw [hr, hz2]
      show _ = isClauseL n 0 _
      rw [hb]
      cases xs with
      | nil => exact absurd rfl hne
      | cons x xs => simp; omega
end K02
end CL

set_option Elab.async false
set_option synthInstance.maxSize 100000
set_option linter.all false
set_option maxRecDepth 100000
set_option maxHeartbeats 4000000

namespace CL
open PySem L2
/-! ### short words -/
local macro_rules | `(tactic| walk_at "side") => `(tactic| first
  | (with_reducible assumption)
  | omega
  | (refine Or.inr ⟨?_, ?_⟩ <;> omega)
  | (refine Or.inl ⟨?_, ?_⟩ <;> omega)
  | (refine ⟨?_, ?_⟩ <;> omega)
  | decide
  | (exact atI_isSome (by omega) (by simp only [List.length_cons, List.length_nil, List.length_map]; omega))
  | (simp only [List.length_cons, List.length_nil]; decide)
  | (simp only [List.length_append, List.length_cons, List.length_nil, List.length_map] at *; omega)
  | (refine ⟨?_, ?_, ?_⟩ <;> first | omega | decide))
local macro_rules | `(tactic| walk_at "rf") => `(tactic| first
  | ((with_reducible show starEach _ _ = _); rfl)
  | ((with_reducible show List.any _ _ = _); rfl)
  | ((with_reducible show behindInMarks _ _ = _); with_unfolding_all rfl)
  | ((with_reducible show lastMarks _ _ = _); with_unfolding_all rfl)
  | ((with_reducible show attributeBase _ _ _ _ = _); rfl)
  | ((with_reducible show PlainIx _); exact fun _ _ => rfl)
  | ((with_reducible show D.notFrm _ = _); rfl)
  | ((with_reducible show D.truOk _); exact trivial))
/-- what must be shown for an expression -/
local macro_rules | `(tactic| walk_at "sd") => `(tactic| ((repeat' first | exact trivial | (with_reducible apply And.intro) | (walk_at "rf") | (exact fun h => Bool.noConfusion (show true = false from h)) | (exact fun h => Bool.noConfusion (show false = true from h)) | (with_reducible intro _)); (all_goals try (walk_at "side"))))
/-- a statement, then what follows -/
local macro_rules | `(tactic| walk_at "set") => `(tactic| (refine go_set (by walk_at "sd") ?_))
local macro_rules | `(tactic| walk_at "setL") => `(tactic| (refine go_setL (by walk_at "sd") ?_))
local macro_rules | `(tactic| walk_at "ret") => `(tactic| (refine go_ret (by walk_at "sd") ?_))
local macro_rules | `(tactic| walk_at "app") => `(tactic| (refine go_append (by walk_at "sd") ?_ ?_))
local macro_rules | `(tactic| walk_at "if") => `(tactic| (refine go_if (by walk_at "sd") ?_ ?_))

def D.ints : D → List Int
  | .tup ds => ds.map D.toInt
  | .lst ds => ds.map D.toInt
  | _ => []
@[simp] theorem ints_tup (xs : List Int) : (D.tup (xs.map .int)).ints = xs := by
  show (xs.map D.int).map D.toInt = xs
  rw [List.map_map]
  exact List.map_id _
@[simp] theorem ints_lst (xs : List Int) : (D.lst (xs.map .int)).ints = xs := by
  show (xs.map D.int).map D.toInt = xs
  rw [List.map_map]
  exact List.map_id _
/-- is a datum of no list, its depth below k -/
def D.deep : Nat → D → Bool
  | _ + 1, .non => true
  | _ + 1, .bl _ => true
  | _ + 1, .int _ => true
  | _ + 1, .str _ => true
  | k + 1, .tup ds => decide (ds.length ≤ 100000) && ds.all (D.deep k)
  | _, _ => false
namespace K02
abbrev Z_law_is_clause : Spec := Z2 (fun x y => x.pure = true ∧ ∃ n, y = .int n) (fun x y => .bl (isClause x y.toInt))
theorem body_law_is_clause {G : Gx} {ds : List D} (hl : ds.length = Z_law_is_clause.n) (pre : Z_law_is_clause.pre ds) [CtxI G] [PasI G] [TkI G] [NmI G.X "value" 0] [NmI G.X "n" 1] [NmI G.X "before" 2] [NmI G.X "literal" 3] [NsI G.X "before" 2] [NsI G.X "literal" 3] [BiI G.X "isinstance" (.builtin "isinstance")] [BiI G.X "tuple" (.type "tuple")] [BiI G.X "int" (.type "int")] [BiI G.X "bool" (.type "bool")] [BiI G.X "abs" (.builtin "abs")] : Run G (ds.map Sd.dat ++ List.replicate (N_law_is_clause.length - Z_law_is_clause.n) Sd.non) (defBody s_law_is_clause) { nx := fun _ => Z_law_is_clause.post ds (.ret .non), rt := Z_law_is_clause.post ds } := by
  obtain ⟨x, y, rfl, hx, n, rfl⟩ := pre
  show Run G [.dat x, .dat (.int n), .non, .non] _ _
  have fin : ∀ b, b = isClause x n → Z_is_clause.post [x, .int n] (.ret (.bl b)) := fun b e => ⟨x, .int n, rfl, by rw [e]; rfl⟩
  have nf : x.notFrm = true := notFrm_of hx
  cases x with
  | tup ds =>
    refine go_if (by walk_at "sd") (fun z => Bool.noConfusion (show false = true from z)) (fun _ => go_nil ?_)
    walk_at "set"
    refine go_for id ds (fun i S' => ∃ (a : Int) (l : Sd), S' = [.dat (.tup ds), .dat (.int n), .dat (.int a), l] ∧ isClauseL n 0 ds = isClauseL n a (ds.drop i)) (by walk_at "sd") (by simp) ⟨0, .non, rfl, rfl⟩ ?_ ?_
    · rintro g i d S' hd ⟨a, l, rfl, e⟩
      dsimp only [List.set, id]
      have hp : d.pure = true := pures_mem hx (List.mem_of_getElem? hd)
      have hf : d.notFrm = true := notFrm_of hp
      rw [drop_of hd] at e
      cases d with
      | int j =>
        refine go_if (by walk_at "sd") (fun z => ?_) (fun z => ?_)
        · refine go_ret (by walk_at "sd") (fin _ ?_)
          have z : (decide (a < if j < 0 then -j else j) && decide ((if j < 0 then -j else j) ≤ n)) = false := by
            generalize (if j < 0 then -j else j) = m at *
            simp [D.isA] at z ⊢
            omega
          show _ = isClauseL n 0 ds
          rw [e]
          simp only [isClauseL, z, Bool.false_and]
        · have z : (decide (a < if j < 0 then -j else j) && decide ((if j < 0 then -j else j) ≤ n)) = true := by
            generalize (if j < 0 then -j else j) = m at *
            simp [D.isA] at z ⊢
            omega
          refine go_nil ?_
          walk_at "set"
          refine go_nil ⟨_, _, rfl, ?_⟩
          rw [e]
          simp only [isClauseL, z, Bool.true_and]
      | _ =>
        refine go_if (by walk_at "sd") (fun z => ?_) (fun z => Bool.noConfusion (show true = false from z))
        refine go_ret (by walk_at "sd") (fin _ ?_)
        exact e.symm
    · rintro S' ⟨a, l, rfl, e⟩
      refine go_ret (by walk_at "sd") (fin _ ?_)
      rw [List.drop_length] at e
      exact e.symm
  | _ =>
    refine go_if (by walk_at "sd") (fun _ => ?_) (fun z => Bool.noConfusion (show true = false from z))
    exact go_ret (by walk_at "sd") (fin _ rfl)
theorem av_law_is_clause {P : Program} {w : World} {K : PySem.W.Frag} {mg : Str → Option Value} {base : Heap} {CF : Addr} (T : Txt K mg)  : Av P w K mg base CF 1 "_law_is_clause" Z_law_is_clause := by
  refine T.d_law_is_clause.av fun f fd F => fn_ok F sc_law_is_clause rfl fun G ds hP hw hK hmg hb hCF c hl pre hex => ?_
  subst hmg hP hw hK hb hCF
  haveI := c.i
  haveI := c.pp
  haveI := c.tt
  haveI : NmI G.X "value" 0 := c.nmi rfl vs_law_is_clause
  haveI : NmI G.X "n" 1 := c.nmi rfl vs_law_is_clause
  haveI : NmI G.X "before" 2 := c.nmi rfl vs_law_is_clause
  haveI : NmI G.X "literal" 3 := c.nmi rfl vs_law_is_clause
  haveI : NsI G.X "before" 2 := c.nsi rfl ls_law_is_clause
  haveI : NsI G.X "literal" 3 := c.nsi rfl ls_law_is_clause
  haveI : BiI G.X "isinstance" (.builtin "isinstance") := c.bii gs_law_is_clause T.b_isinstance
  haveI : BiI G.X "tuple" (.type "tuple") := c.bii gs_law_is_clause T.b_tuple
  haveI : BiI G.X "int" (.type "int") := c.bii gs_law_is_clause T.b_int
  haveI : BiI G.X "bool" (.type "bool") := c.bii gs_law_is_clause T.b_bool
  haveI : BiI G.X "abs" (.builtin "abs") := c.bii gs_law_is_clause T.b_abs
  first | with_reducible exact body_law_is_clause hl pre | exact body_law_is_clause hl pre

theorem any_int (ys : List Int) (i : Int) : ((ys.map D.int).any fun y => L2.eqV y.fv (D.int i).fv) = ys.contains i := by
  induction ys with
  | nil => rfl
  | cons y ys ih =>
    rw [List.map_cons, List.any_cons, ih, List.contains_cons]
    congr 1
    show L2.eqV (V.int y) (V.int i) = _
    rw [Bool.eq_iff_iff]
    simp only [L2.eqV, beq_iff_eq]
    exact eq_comm
theorem all_flat_int (ys : List Int) : (ys.map D.int).all D.flat = true := List.all_eq_true.mpr fun d h => by
  obtain ⟨i, _, rfl⟩ := List.mem_map.mp h
  rfl
instance (priority := 3000) in_int {i : Int} {ys : List Int} : InC (.int i) (ys.map D.int) (ys.contains i) True := ⟨fun _ => by
  have h := InC.out (x := D.int i) (ds := ys.map D.int) (self := in_flat) ⟨rfl, all_flat_int ys⟩
  rw [any_int] at h
  exact h⟩
abbrev Z_agrees : Spec := Z2 (fun x y => ∃ xs ys : List Int, x = .tup (xs.map .int) ∧ y = .tup (ys.map .int)) (fun x y => .bl (x.ints.all fun i => y.ints.contains i))
theorem body_agrees {G : Gx} {ds : List D} (hl : ds.length = Z_agrees.n) (pre : Z_agrees.pre ds) [CtxI G] [PasI G] [TkI G] [NmI G.X "literals" 0] [NmI G.X "model" 1] [NmI G.X "literal" 2] [NsI G.X "literal" 2] : Run G (ds.map Sd.dat ++ List.replicate (N_agrees.length - Z_agrees.n) Sd.non) (defBody s_agrees) { nx := fun _ => Z_agrees.post ds (.ret .non), rt := Z_agrees.post ds } := by
  obtain ⟨x, y, rfl, xs, ys, rfl, rfl⟩ := pre
  show Run G [.dat (.tup (xs.map .int)), .dat (.tup (ys.map .int)), .non] _ _
  have fin : ∀ b, b = (xs.all fun i => ys.contains i) → Z_agrees.post [.tup (xs.map .int), .tup (ys.map .int)] (.ret (.bl b)) := fun b e => ⟨_, _, rfl, by dsimp only; rw [e, ints_tup, ints_tup]⟩
  refine go_for D.int xs (fun i S' => ∃ l : Sd, S' = [.dat (.tup (xs.map .int)), .dat (.tup (ys.map .int)), l] ∧ (xs.all fun i => ys.contains i) = ((xs.drop i).all fun i => ys.contains i)) (by walk_at "sd") rfl ⟨.non, rfl, rfl⟩ ?_ ?_
  · rintro g i d S' hd ⟨l, rfl, e⟩
    dsimp only [List.set]
    rw [drop_of hd, List.all_cons] at e
    refine go_if (by walk_at "sd") (fun z => ?_) (fun z => ?_)
    · refine go_ret (by walk_at "sd") (fin _ ?_)
      have z : ys.contains d = false := by simpa using z
      rw [e, z]; rfl
    · have z : ys.contains d = true := by simpa using z
      refine go_nil (go_nil ⟨_, rfl, ?_⟩)
      rw [e, z]; rfl
  · rintro S' ⟨l, rfl, e⟩
    refine go_ret (by walk_at "sd") (fin _ ?_)
    rw [e, List.drop_length]; rfl
theorem av_agrees {P : Program} {w : World} {K : PySem.W.Frag} {mg : Str → Option Value} {base : Heap} {CF : Addr} (T : Txt K mg)  : Av P w K mg base CF 1 "agrees" Z_agrees := by
  refine T.d_agrees.av fun f fd F => fn_ok F sc_agrees rfl fun G ds hP hw hK hmg hb hCF c hl pre hex => ?_
  subst hmg hP hw hK hb hCF
  haveI := c.i
  haveI := c.pp
  haveI := c.tt
  haveI : NmI G.X "literals" 0 := c.nmi rfl vs_agrees
  haveI : NmI G.X "model" 1 := c.nmi rfl vs_agrees
  haveI : NmI G.X "literal" 2 := c.nmi rfl vs_agrees
  haveI : NsI G.X "literal" 2 := c.nsi rfl ls_agrees
  first | with_reducible exact body_agrees hl pre | exact body_agrees hl pre
theorem avk_agrees {P : Program} {w : World} {K : PySem.W.Frag} {mg : Str → Option Value} {base : Heap} {CF : Addr} (T : Txt K mg)  : Avk P w K mg base CF 1 "agrees" ["literals", "model"] Z_agrees := by
  refine T.d_agrees.avk (fun _ _ _ _ _ _ us hl => match us, hl with | [_, _], _ => rfl) fun f fd F => fn_ok F sc_agrees rfl fun G ds hP hw hK hmg hb hCF c hl pre hex => ?_
  subst hmg hP hw hK hb hCF
  haveI := c.i
  haveI := c.pp
  haveI := c.tt
  haveI : NmI G.X "literals" 0 := c.nmi rfl vs_agrees
  haveI : NmI G.X "model" 1 := c.nmi rfl vs_agrees
  haveI : NmI G.X "literal" 2 := c.nmi rfl vs_agrees
  haveI : NsI G.X "literal" 2 := c.nsi rfl ls_agrees
  first | with_reducible exact body_agrees hl pre | exact body_agrees hl pre

theorem sames_len : ∀ {ds es : List D}, ds.length ≠ es.length → D.sames ds es = false
  | [], [], h => absurd rfl h
  | [], _ :: _, _ => by simp [D.sames]
  | _ :: _, [], _ => by simp [D.sames]
  | d :: ds, e :: es, h => by
    rw [D.sames, sames_len (ds := ds) (es := es) (fun z => h (by simp [z])), Bool.and_false]
/-! two data that are the same, below a depth -/
abbrev Zq (k : Nat) : Spec := Z2 (fun x y => x.pure = true ∧ y.deep k = true) (fun x y => .bl (D.same x y))
theorem body_law_equal {k : Nat} {G : Gx} {ds : List D} (hl : ds.length = (Zq (k + 1)).n) (pre : (Zq (k + 1)).pre ds) [CtxI G] [PasI G] [TkI G] [NmI G.X "actual" 0] [NmI G.X "expected" 1] [NmI G.X "k" 2] [NsI G.X "k" 2]
    [BiI G.X "isinstance" (.builtin "isinstance")] [BiI G.X "bool" (.type "bool")] [BiI G.X "int" (.type "int")] [BiI G.X "str" (.type "str")] [BiI G.X "tuple" (.type "tuple")] [BiI G.X "len" (.builtin "len")] [BiI G.X "range" (.type "range")]
    [CalI G "_law_equal" (Zq k)] :
    Run G (ds.map Sd.dat ++ List.replicate (N_law_equal.length - (Zq (k + 1)).n) Sd.non) (defBody s_law_equal) { nx := fun _ => (Zq (k + 1)).post ds (.ret .non), rt := (Zq (k + 1)).post ds } := by
  obtain ⟨x, y, rfl, hx, hy⟩ := pre
  show Run G [.dat x, .dat y, .non] _ _
  have fin : ∀ b, b = D.same x y → (Zq (k + 1)).post [x, y] (.ret (.bl b)) := fun b e => ⟨_, _, rfl, by rw [e]⟩
  have fx := notFrm_of hx
  cases y with
  | non =>
    refine go_if (by walk_at "sd") (fun _ => ?_) (fun z => Bool.noConfusion (show true = false from z))
    refine go_ret (by walk_at "sd") (fin _ ?_)
    simp [D.same]
  | bl b =>
    refine go_if (by walk_at "sd") (fun z => Bool.noConfusion (show false = true from z)) (fun _ => go_nil ?_)
    refine go_if (by walk_at "sd") (fun _ => ?_) (fun z => Bool.noConfusion (show true = false from z))
    cases x <;> refine go_ret (by walk_at "sd") (fin _ ?_)
    all_goals (simp [D.isA, D.same] <;> first | rfl | (rw [Bool.eq_iff_iff]; simp))
  | int i =>
    refine go_if (by walk_at "sd") (fun z => Bool.noConfusion (show false = true from z)) (fun _ => go_nil ?_)
    refine go_if (by walk_at "sd") (fun z => Bool.noConfusion (show false = true from z)) (fun _ => go_nil ?_)
    refine go_if (by walk_at "sd") (fun _ => ?_) (fun z => Bool.noConfusion (show true = false from z))
    cases x <;> refine go_ret (by walk_at "sd") (fin _ ?_)
    all_goals (simp [D.isA, D.same] <;> first | rfl | (rw [Bool.eq_iff_iff]; simp))
  | str i =>
    refine go_if (by walk_at "sd") (fun z => Bool.noConfusion (show false = true from z)) (fun _ => go_nil ?_)
    refine go_if (by walk_at "sd") (fun z => Bool.noConfusion (show false = true from z)) (fun _ => go_nil ?_)
    refine go_if (by walk_at "sd") (fun z => Bool.noConfusion (show false = true from z)) (fun _ => go_nil ?_)
    refine go_if (by walk_at "sd") (fun _ => ?_) (fun z => Bool.noConfusion (show true = false from z))
    cases x <;> refine go_ret (by walk_at "sd") (fin _ ?_)
    all_goals (simp [D.isA, D.same] <;> first | rfl | (rw [Bool.eq_iff_iff]; simp))
  | tup es =>
    refine go_if (by walk_at "sd") (fun z => Bool.noConfusion (show false = true from z)) (fun _ => go_nil ?_)
    refine go_if (by walk_at "sd") (fun z => Bool.noConfusion (show false = true from z)) (fun _ => go_nil ?_)
    refine go_if (by walk_at "sd") (fun z => Bool.noConfusion (show false = true from z)) (fun _ => go_nil ?_)
    refine go_if (by walk_at "sd") (fun z => Bool.noConfusion (show false = true from z)) (fun _ => go_nil ?_)
    cases x with
    | tup ds =>
      refine go_if (by walk_at "sd") (fun z => ?_) (fun z => go_nil ?_)
      · refine go_ret (by walk_at "sd") (fin _ ?_)
        have z : ds.length ≠ es.length := by simp [D.isA] at z; omega
        exact (sames_len z).symm
      · have z : ds.length = es.length := by simp [D.isA] at z; omega
        have hy' : es.length ≤ 100000 ∧ ∀ c ∈ es, c.deep k = true := by
          unfold D.deep at hy
          rw [Bool.and_eq_true, List.all_eq_true] at hy
          exact ⟨of_decide_eq_true hy.1, hy.2⟩
        have hs : ds.length ≤ 100000 := by omega
        refine go_range (fun i S' => ∃ l : Sd, S' = [.dat (.tup ds), .dat (.tup es), l] ∧ D.sames ds es = D.sames (ds.drop i) (es.drop i)) (by walk_at "sd") ?_ ?_ ?_ ?_ ?_
        · omega
        · omega
        · exact ⟨.non, rfl, rfl⟩
        · rintro i S' hi ⟨l, rfl, e⟩
          dsimp only [List.set]
          obtain ⟨d, hd⟩ : ∃ d, ds[i]? = some d := ⟨_, List.getElem?_eq_getElem (by omega)⟩
          obtain ⟨c, hc⟩ : ∃ c, es[i]? = some c := ⟨_, List.getElem?_eq_getElem (by omega)⟩
          rw [drop_of hd, drop_of hc] at e
          have hdi := atI_nat hd
          have hci := atI_nat hc
          have gd : (atI ds (i : Int)).getD .non = d := by rw [hdi]; rfl
          have gc : (atI es (i : Int)).getD .non = c := by rw [hci]; rfl
          have sd1 : (atI ds (i : Int)).isSome = true := by rw [hdi]; rfl
          have sd2 : (atI es (i : Int)).isSome = true := by rw [hci]; rfl
          have p1 : d.pure = true := pures_mem hx (List.mem_of_getElem? hd)
          have p2 : c.deep k = true := hy'.2 c (List.mem_of_getElem? hc)
          have pp1 : ((atI ds (i : Int)).getD .non).pure = true := by rw [gd]; exact p1
          have pp2 : ((atI es (i : Int)).getD .non).deep k = true := by rw [gc]; exact p2
          refine go_if (by walk_at "sd") (fun z => ?_) (fun z => ?_)
          · rw [gd, gc] at z
            have z : D.same d c = false := by simpa using z
            refine go_ret (by walk_at "sd") (fin _ ?_)
            show _ = D.sames ds es
            rw [e, D.sames, z]; rfl
          · rw [gd, gc] at z
            have z : D.same d c = true := by simpa using z
            refine go_nil (go_nil ⟨_, rfl, ?_⟩)
            rw [e, D.sames, z]; rfl
        · rintro S' ⟨l, rfl, e⟩
          refine go_ret (by walk_at "sd") (fin _ ?_)
          show _ = D.sames ds es
          rw [e, List.drop_eq_nil_of_le (by omega), List.drop_eq_nil_of_le (by omega)]
          simp [D.sames]
    | _ =>
      refine go_if (by walk_at "sd") (fun z => ?_) (fun z => Bool.noConfusion (show true = false from z))
      refine go_ret (by walk_at "sd") (fin _ ?_)
      simp [D.same]
  | _ => unfold D.deep at hy; cases hy
theorem av_law_equal {P : Program} {w : World} {K : PySem.W.Frag} {mg : Str → Option Value} {base : Heap} {CF : Addr} (T : Txt K mg) : ∀ k : Nat, Av P w K mg base CF (k + 1) "_law_equal" (Zq k)
  | 0 => by
    refine T.d_law_equal.av fun f fd F => fn_ok F sc_law_equal rfl fun G ds hP hw hK hmg hb hCF c hl pre hex => ?_
    obtain ⟨x, y, _, _, h⟩ := pre
    unfold D.deep at h
    cases h
  | k + 1 => by
    have a_law_equal := av_law_equal (P := P) (w := w) (base := base) (CF := CF) T k
    refine T.d_law_equal.av fun f fd F => fn_ok F sc_law_equal rfl fun G ds hP hw hK hmg hb hCF c hl pre hex => ?_
    subst hmg hP hw hK hb hCF
    haveI := c.i
    haveI := c.pp
    haveI := c.tt
    haveI : NmI G.X "actual" 0 := c.nmi rfl vs_law_equal
    haveI : NmI G.X "expected" 1 := c.nmi rfl vs_law_equal
    haveI : NmI G.X "k" 2 := c.nmi rfl vs_law_equal
    haveI : NsI G.X "k" 2 := c.nsi rfl ls_law_equal
    haveI : BiI G.X "isinstance" (.builtin "isinstance") := c.bii gs_law_equal T.b_isinstance
    haveI : BiI G.X "bool" (.type "bool") := c.bii gs_law_equal T.b_bool
    haveI : BiI G.X "int" (.type "int") := c.bii gs_law_equal T.b_int
    haveI : BiI G.X "str" (.type "str") := c.bii gs_law_equal T.b_str
    haveI : BiI G.X "tuple" (.type "tuple") := c.bii gs_law_equal T.b_tuple
    haveI : BiI G.X "len" (.builtin "len") := c.bii gs_law_equal T.b_len
    haveI : BiI G.X "range" (.type "range") := c.bii gs_law_equal T.b_range
    haveI : CalI G "_law_equal" (Zq k) := c.cal gs_law_equal a_law_equal (by omega)
    exact body_law_equal hl pre
abbrev Z_law_equal : Spec := Zq 3
end K02
end CL

set_option Elab.async false
set_option synthInstance.maxSize 100000
set_option linter.all false
set_option maxRecDepth 100000
set_option maxHeartbeats 4000000

namespace CL
open PySem L2
/-! ### short words -/
local macro_rules | `(tactic| walk_at "side") => `(tactic| first
  | (with_reducible assumption)
  | omega
  | (refine Or.inr ⟨?_, ?_⟩ <;> omega)
  | (refine Or.inl ⟨?_, ?_⟩ <;> omega)
  | (refine ⟨?_, ?_⟩ <;> omega)
  | decide
  | (exact atI_isSome (by omega) (by simp only [List.length_cons, List.length_nil, List.length_map]; omega))
  | (simp only [List.length_cons, List.length_nil]; decide)
  | (simp only [List.length_append, List.length_cons, List.length_nil, List.length_map] at *; omega)
  | (refine ⟨?_, ?_, ?_⟩ <;> first | omega | decide))
local macro_rules | `(tactic| walk_at "rf") => `(tactic| first
  | ((with_reducible show starEach _ _ = _); rfl)
  | ((with_reducible show List.any _ _ = _); rfl)
  | ((with_reducible show behindInMarks _ _ = _); with_unfolding_all rfl)
  | ((with_reducible show lastMarks _ _ = _); with_unfolding_all rfl)
  | ((with_reducible show attributeBase _ _ _ _ = _); rfl)
  | ((with_reducible show PlainIx _); exact fun _ _ => rfl)
  | ((with_reducible show D.notFrm _ = _); rfl)
  | ((with_reducible show D.truOk _); exact trivial))
/-- what must be shown for an expression -/
local macro_rules | `(tactic| walk_at "sd") => `(tactic| ((repeat' first | exact trivial | (with_reducible apply And.intro) | (walk_at "rf") | (exact fun h => Bool.noConfusion (show true = false from h)) | (exact fun h => Bool.noConfusion (show false = true from h)) | (with_reducible intro _)); (all_goals try (walk_at "side"))))
/-- a statement, then what follows -/
local macro_rules | `(tactic| walk_at "set") => `(tactic| (refine go_set (by walk_at "sd") ?_))
local macro_rules | `(tactic| walk_at "setL") => `(tactic| (refine go_setL (by walk_at "sd") ?_))
local macro_rules | `(tactic| walk_at "ret") => `(tactic| (refine go_ret (by walk_at "sd") ?_))
local macro_rules | `(tactic| walk_at "app") => `(tactic| (refine go_append (by walk_at "sd") ?_ ?_))
local macro_rules | `(tactic| walk_at "if") => `(tactic| (refine go_if (by walk_at "sd") ?_ ?_))

/-! ### rows, numbers drawn -/
theorem drawn2 {xs : List Int} {a b : Int} (h : Drawn xs [a, b]) : ∃ x y, xs = [x, y] ∧ (0 ≤ x ∧ x < a) ∧ (0 ≤ y ∧ y < b) := by
  obtain ⟨hl, h⟩ := h
  match xs, hl with
  | [x, y], _ => exact ⟨x, y, rfl, h 0 x a rfl rfl, h 1 y b rfl rfl⟩
theorem drawn3 {xs : List Int} {a b c : Int} (h : Drawn xs [a, b, c]) : ∃ x y z, xs = [x, y, z] ∧ (0 ≤ x ∧ x < a) ∧ (0 ≤ y ∧ y < b) ∧ (0 ≤ z ∧ z < c) := by
  obtain ⟨hl, h⟩ := h
  match xs, hl with
  | [x, y, z], _ => exact ⟨x, y, z, rfl, h 0 x a rfl rfl, h 1 y b rfl rfl, h 2 z c rfl rfl⟩
theorem drawn4 {xs : List Int} {a b c d : Int} (h : Drawn xs [a, b, c, d]) : ∃ x y z u, xs = [x, y, z, u] ∧ (0 ≤ x ∧ x < a) ∧ (0 ≤ y ∧ y < b) ∧ (0 ≤ z ∧ z < c) ∧ (0 ≤ u ∧ u < d) := by
  obtain ⟨hl, h⟩ := h
  match xs, hl with
  | [x, y, z, u], _ => exact ⟨x, y, z, u, rfl, h 0 x a rfl rfl, h 1 y b rfl rfl, h 2 z c rfl rfl, h 3 u d rfl rfl⟩
theorem map_int_inj {xs ys : List Int} (h : xs.map D.int = ys.map D.int) : xs = ys := by
  have := congrArg (List.map D.toInt) h
  rw [List.map_map, List.map_map] at this
  exact (List.map_id xs).symm.trans (this.trans (List.map_id ys))
theorem snoc_int {xs : List Int} {v : Int} : xs.map D.int ++ [D.int v] = (xs ++ [v]).map D.int := by rw [List.map_append]; rfl
theorem pre_draws {ns : List Int} {k : Int} (bs : List Int) (h1 : ns.length ≤ 63) (h2 : 0 ≤ k) (h3 : k < 1000000) (h4 : bs.length ≤ 100000) (h5 : ∀ b ∈ bs, 0 < b ∧ b < 1073741824) : Z_law_draws.pre [.scr ns, .int k, .lst (bs.map .int)] := ⟨ns, k, bs, rfl, h1, h2, h3, h4, h5⟩
theorem post_draws {ns : List Int} {k : Int} {bs : List Int} : ∀ o, Z_law_draws.post [.scr ns, .int k, .lst (bs.map .int)] o → ∃ ds, o = .new ds ∧ ∃ xs : List Int, ds = xs.map .int ∧ Drawn xs bs := by
  rintro o ⟨ns', k', bs', xs, e, rfl, d⟩
  injection e with _ e
  injection e with _ e
  injection e with e _
  injection e with e
  rw [map_int_inj e]
  exact ⟨_, rfl, xs, rfl, d⟩
instance (priority := 3000) ix_0 {d : D} {ds : List D} : IxC (d :: ds) 0 d True := ⟨fun _ => by unfold atI ixN; rw [if_pos (by decide), if_pos (by simp only [List.length_cons]; omega)]; rfl⟩
instance (priority := 3000) ix_1 {d0 d : D} {ds : List D} : IxC (d0 :: d :: ds) 1 d True := ⟨fun _ => by unfold atI ixN; rw [if_pos (by decide), if_pos (by simp only [List.length_cons]; omega)]; rfl⟩
instance (priority := 3000) ix_2 {d0 d1 d : D} {ds : List D} : IxC (d0 :: d1 :: d :: ds) 2 d True := ⟨fun _ => by unfold atI ixN; rw [if_pos (by decide), if_pos (by simp only [List.length_cons]; omega)]; rfl⟩
instance (priority := 3000) ix_3 {d0 d1 d2 d : D} {ds : List D} : IxC (d0 :: d1 :: d2 :: d :: ds) 3 d True := ⟨fun _ => by unfold atI ixN; rw [if_pos (by decide), if_pos (by simp only [List.length_cons]; omega)]; rfl⟩
namespace K02
def Z_law_row : Spec where
  n := 3
  pre := fun ds => ∃ (ns : List Int) (k n : Int), ds = [.scr ns, .int k, .int n] ∧ ns.length ≤ 63 ∧ 0 ≤ k ∧ k < 1000000 ∧ 0 ≤ n ∧ n ≤ 1000
  post := fun ds o => ∃ xs : List Int, o = .ret (.tup (xs.map .int)) ∧ xs.length ≤ 1000
theorem body_law_row {G : Gx} {ds : List D} (hl : ds.length = Z_law_row.n) (pre : Z_law_row.pre ds) [CtxI G] [PasI G] [TkI G] [NmI G.X "script" 0] [NmI G.X "k" 1] [NmI G.X "n" 2] [NmI G.X "drawn" 3] [NmI G.X "number" 4] [NmI G.X "row" 5] [NmI G.X "v" 6] [NmI G.X "digit" 7] [NsI G.X "drawn" 3] [NsI G.X "number" 4] [NsI G.X "row" 5] [NsI G.X "v" 6] [NsI G.X "digit" 7] [BiI G.X "range" (.type "range")] [BiI G.X "int" (.type "int")] [BiI G.X "len" (.builtin "len")] [BiI G.X "tuple" (.type "tuple")] [CalI G "_law_draws" Z_law_draws] : Run G (ds.map Sd.dat ++ List.replicate (N_law_row.length - Z_law_row.n) Sd.non) (defBody s_law_row) { nx := fun _ => Z_law_row.post ds (.ret .non), rt := Z_law_row.post ds } := by
  obtain ⟨ns, k, n, rfl, h1, h2, h3, h4, h5⟩ := pre
  show Run G [.dat (.scr ns), .dat (.int k), .dat (.int n), .non, .non, .non, .non, .non] _ _
  refine go_draw (R := fun ds => ∃ xs : List Int, ds = xs.map .int ∧ Drawn xs [59049, 4]) (by walk_at "sd") rfl (pre_draws [59049, 4] h1 h2 h3 (by decide) (by decide)) (by simp) post_draws ?_
  rintro _ ⟨xs, rfl, hd⟩
  obtain ⟨x, y, rfl, hx, hy⟩ := drawn2 hd
  dsimp only [List.set, List.map]
  walk_at "set"
  walk_at "setL"
  refine go_range2 (fun i S' => ∃ (num : Int) (xs : List Int) (a b : Sd), xs.length ≤ i ∧ S' = [.dat (.scr ns), .dat (.int k), .dat (.int n), .dat (.lst [.int x, .int y]), .dat (.int num), .own (xs.map .int), a, b]) (by walk_at "sd") (by walk_at "sd") (by omega) (by omega) (by omega) (by omega) ?_ ?_ ?_
  · exact ⟨x, [], .non, .non, Nat.le_refl 0, rfl⟩
  · rintro i S' hi ⟨num, xs, a, b, hl, rfl⟩
    dsimp only [List.set]
    walk_at "set"
    walk_at "set"
    have hlen : (xs.map D.int).length < sizeLine := by rw [List.length_map]; exact Nat.lt_of_le_of_lt (by omega : xs.length ≤ 1000) (by decide)
    refine go_if (by walk_at "sd") (fun _ => ?_) (fun _ => go_nil (go_nil ⟨_, xs, _, _, by omega, rfl⟩))
    refine go_append (by walk_at "sd") hlen ?_
    rw [snoc_int]
    exact go_nil (go_nil ⟨_, _, _, _, by rw [List.length_append]; simp; omega, rfl⟩)
  · rintro S' ⟨num, xs, a, b, hl, rfl⟩
    refine go_ret (by walk_at "sd") ?_
    exact ⟨xs, rfl, by omega⟩
theorem av_law_row {P : Program} {w : World} {K : PySem.W.Frag} {mg : Str → Option Value} {base : Heap} {CF : Addr} (T : Txt K mg) (a_law_draws : Av P w K mg base CF 1 "_law_draws" Z_law_draws) : Av P w K mg base CF 2 "_law_row" Z_law_row := by
  refine T.d_law_row.av fun f fd F => fn_ok F sc_law_row rfl fun G ds hP hw hK hmg hb hCF c hl pre hex => ?_
  subst hmg hP hw hK hb hCF
  haveI := c.i
  haveI := c.pp
  haveI := c.tt
  haveI : NmI G.X "script" 0 := c.nmi rfl vs_law_row
  haveI : NmI G.X "k" 1 := c.nmi rfl vs_law_row
  haveI : NmI G.X "n" 2 := c.nmi rfl vs_law_row
  haveI : NmI G.X "drawn" 3 := c.nmi rfl vs_law_row
  haveI : NmI G.X "number" 4 := c.nmi rfl vs_law_row
  haveI : NmI G.X "row" 5 := c.nmi rfl vs_law_row
  haveI : NmI G.X "v" 6 := c.nmi rfl vs_law_row
  haveI : NmI G.X "digit" 7 := c.nmi rfl vs_law_row
  haveI : NsI G.X "drawn" 3 := c.nsi rfl ls_law_row
  haveI : NsI G.X "number" 4 := c.nsi rfl ls_law_row
  haveI : NsI G.X "row" 5 := c.nsi rfl ls_law_row
  haveI : NsI G.X "v" 6 := c.nsi rfl ls_law_row
  haveI : NsI G.X "digit" 7 := c.nsi rfl ls_law_row
  haveI : BiI G.X "range" (.type "range") := c.bii gs_law_row T.b_range
  haveI : BiI G.X "int" (.type "int") := c.bii gs_law_row T.b_int
  haveI : BiI G.X "len" (.builtin "len") := c.bii gs_law_row T.b_len
  haveI : BiI G.X "tuple" (.type "tuple") := c.bii gs_law_row T.b_tuple
  haveI : CalI G "_law_draws" Z_law_draws := c.cal gs_law_row a_law_draws (by decide)
  first | with_reducible exact body_law_row hl pre | exact body_law_row hl pre

theorem pures_mk : ∀ {ds : List D}, (∀ d ∈ ds, d.pure = true) → D.pures ds = true
  | [], _ => by simp [D.pures]
  | d :: ds, h => by
    unfold D.pures
    rw [h d List.mem_cons_self, pures_mk fun e he => h e (List.mem_cons_of_mem _ he)]; rfl
theorem pure_tup {ds : List D} (h : ∀ d ∈ ds, d.pure = true) : (D.tup ds).pure = true := by unfold D.pure; exact pures_mk h
theorem pure_lst {ds : List D} (h : ∀ d ∈ ds, d.pure = true) : (D.lst ds).pure = true := by unfold D.pure; exact pures_mk h
theorem mem_cut {α : Type} {xs : List α} {i j : Option Int} {x : α} (h : x ∈ cutL xs i j) : x ∈ xs := List.mem_of_mem_drop (List.mem_of_mem_take h)
theorem len_cut {α : Type} (xs : List α) (i j : Option Int) : (cutL xs i j).length ≤ xs.length := by
  unfold cutL
  rw [List.length_take, List.length_drop]
  omega
theorem pure_int {xs : List Int} : ∀ d ∈ xs.map D.int, d.pure = true := fun d h => by
  obtain ⟨i, _, rfl⟩ := List.mem_map.mp h
  unfold D.pure; rfl
theorem pure_cut {xs : List D} {i j : Option Int} (h : ∀ d ∈ xs, d.pure = true) : ∀ d ∈ cutL xs i j, d.pure = true := fun d z => h d (mem_cut z)
theorem pure_app {xs ys : List D} (h : ∀ d ∈ xs, d.pure = true) (h' : ∀ d ∈ ys, d.pure = true) : ∀ d ∈ xs ++ ys, d.pure = true := fun d z => (List.mem_append.mp z).elim (h d) (h' d)
theorem pure_one {x : D} (h : x.pure = true) : ∀ d ∈ [x], d.pure = true := fun d z => by rw [List.mem_singleton.mp z]; exact h
theorem pure_at {xs : List D} {i : Int} (h : ∀ d ∈ xs, d.pure = true) : ((atI xs i).getD .non).pure = true := by
  cases e : atI xs i with
  | none => unfold D.pure; rfl
  | some d =>
    refine h d ?_
    unfold atI at e
    cases q : ixN xs.length i with
    | none => rw [q] at e; cases e
    | some j => rw [q] at e; exact List.mem_of_getElem? e
def Z_law_changed : Spec where
  n := 4
  pre := fun ds => ∃ (ns xs : List Int) (k n : Int), ds = [.scr ns, .int k, .tup (xs.map .int), .int n] ∧ ns.length ≤ 63 ∧ 0 ≤ k ∧ k < 1000000 ∧ xs.length ≤ 1000
  post := fun ds o => ∃ d, o = .ret d ∧ d.pure = true
theorem body_law_changed {G : Gx} {ds : List D} (hl : ds.length = Z_law_changed.n) (pre : Z_law_changed.pre ds) [CtxI G] [PasI G] [TkI G] [NmI G.X "script" 0] [NmI G.X "k" 1] [NmI G.X "row" 2] [NmI G.X "n" 3] [NmI G.X "drawn" 4] [NmI G.X "at" 5] [NmI G.X "new" 6] [NsI G.X "drawn" 4] [NsI G.X "at" 5] [NsI G.X "new" 6] [BiI G.X "int" (.type "int")] [BiI G.X "len" (.builtin "len")] [BiI G.X "list" (.type "list")] [CalI G "_law_draws" Z_law_draws] : Run G (ds.map Sd.dat ++ List.replicate (N_law_changed.length - Z_law_changed.n) Sd.non) (defBody s_law_changed) { nx := fun _ => Z_law_changed.post ds (.ret .non), rt := Z_law_changed.post ds } := by
  obtain ⟨ns, xs, k, n, rfl, h1, h2, h3, h4⟩ := pre
  show Run G [.dat (.scr ns), .dat (.int k), .dat (.tup (xs.map .int)), .dat (.int n), .non, .non, .non] _ _
  refine go_draw (R := fun ds => ∃ xs : List Int, ds = xs.map .int ∧ Drawn xs [16, 11, 90]) (by walk_at "sd") rfl (pre_draws [16, 11, 90] h1 h2 h3 (by decide) (by decide)) (by simp) post_draws ?_
  rintro _ ⟨ys, rfl, hd⟩
  obtain ⟨x, y, z, rfl, hx, hy, hz⟩ := drawn3 hd
  dsimp only [List.set, List.map]
  have lm : (xs.map D.int).length = xs.length := List.length_map ..
  have sL : (100000 : Nat) ≤ sizeLine := by decide
  walk_at "set"
  generalize hat : y % (1 + ((xs.map D.int).length : Int)) = at0
  have b1 : 0 ≤ at0 ∧ at0 ≤ (xs.length : Int) := by
    rw [← hat, lm]
    have := Int.emod_lt_of_pos y (show 0 < 1 + (xs.length : Int) by omega)
    exact ⟨Int.emod_nonneg _ (by omega), by omega⟩
  have hc : ∀ i j, (cutL (xs.map D.int) i j).length ≤ 1000 := fun i j => by have := len_cut (xs.map D.int) i j; omega
  have c1 := hc none (some at0)
  have c2 := hc (some at0) none
  have c3 := hc (some (at0 + 1)) (some (at0 + 2))
  have c4 := hc (some at0) (some (at0 + 1))
  have c5 := hc (some (at0 + 2)) none
  clear hat
  refine go_if (by walk_at "sd") (fun q => ?_) (fun q => go_nil ?_)
  · have q : x < 6 := of_decide_eq_true q
    refine go_ret (by walk_at "sd") ?_
    refine ⟨_, rfl, pure_tup (pure_app (pure_app (pure_cut pure_int) (pure_one (pure_at fun d hd => ?_))) (pure_cut pure_int))⟩
    simp at hd
    rcases hd with rfl | rfl | rfl | rfl | rfl | rfl <;> simp [D.pure]
  · refine go_if (by walk_at "sd") (fun q => ?_) (fun q => go_nil ?_)
    · rw [lm, Bool.and_eq_true, decide_eq_true_eq, decide_eq_true_eq] at q
      have q0 : ¬ x < 6 := fun z => by rw [decide_eq_true z] at *; simp at *
      refine go_set (by rw [lm]; walk_at "sd") ?_
      rw [lm]
      generalize hat : y % (xs.length : Int) = at1
      have b1 : 0 ≤ at1 ∧ at1 < (xs.length : Int) := by
        rw [← hat]
        exact ⟨Int.emod_nonneg _ (by omega), Int.emod_lt_of_pos y (by omega)⟩
      have c1 := hc none (some (at1 + 1))
      have c2 := hc (some (at1 + 1)) none
      have ha : (atI xs at1).isSome = true := atI_isSome b1.1 b1.2
      clear hat
      walk_at "set"
      refine go_ret (by walk_at "sd") ?_
      refine ⟨_, rfl, pure_tup (pure_app (pure_app (pure_cut pure_int) (pure_one (pure_at fun d hd => ?_))) (pure_cut pure_int))⟩
      simp at hd
      rcases hd with rfl | rfl | rfl | rfl <;> simp [D.pure, D.pures]
    · refine go_if (by walk_at "sd") (fun q => ?_) (fun q => go_nil ?_)
      · refine go_ret (by walk_at "sd") ?_
        exact ⟨_, rfl, pure_tup fun d hd => pure_int d (List.mem_reverse.mp hd)⟩
      · refine go_if (by walk_at "sd") (fun q => ?_) (fun q => go_nil ?_)
        · refine go_ret (by walk_at "sd") ?_
          exact ⟨_, rfl, pure_tup (pure_app (pure_app (pure_app (pure_cut pure_int) (pure_cut pure_int)) (pure_cut pure_int)) (pure_cut pure_int))⟩
        · have b2 : 0 ≤ x % 4 ∧ x % 4 < 4 := by omega
          refine go_ret (by walk_at "sd") ?_
          refine ⟨_, rfl, pure_at fun d hd => ?_⟩
          simp at hd
          rcases hd with rfl | rfl | rfl | rfl
          · exact pure_lst pure_int
          all_goals simp [D.pure]
theorem av_law_changed {P : Program} {w : World} {K : PySem.W.Frag} {mg : Str → Option Value} {base : Heap} {CF : Addr} (T : Txt K mg) (a_law_draws : Av P w K mg base CF 1 "_law_draws" Z_law_draws) : Av P w K mg base CF 2 "_law_changed" Z_law_changed := by
  refine T.d_law_changed.av fun f fd F => fn_ok F sc_law_changed rfl fun G ds hP hw hK hmg hb hCF c hl pre hex => ?_
  subst hmg hP hw hK hb hCF
  haveI := c.i
  haveI := c.pp
  haveI := c.tt
  haveI : NmI G.X "script" 0 := c.nmi rfl vs_law_changed
  haveI : NmI G.X "k" 1 := c.nmi rfl vs_law_changed
  haveI : NmI G.X "row" 2 := c.nmi rfl vs_law_changed
  haveI : NmI G.X "n" 3 := c.nmi rfl vs_law_changed
  haveI : NmI G.X "drawn" 4 := c.nmi rfl vs_law_changed
  haveI : NmI G.X "at" 5 := c.nmi rfl vs_law_changed
  haveI : NmI G.X "new" 6 := c.nmi rfl vs_law_changed
  haveI : NsI G.X "drawn" 4 := c.nsi rfl ls_law_changed
  haveI : NsI G.X "at" 5 := c.nsi rfl ls_law_changed
  haveI : NsI G.X "new" 6 := c.nsi rfl ls_law_changed
  haveI : BiI G.X "int" (.type "int") := c.bii gs_law_changed T.b_int
  haveI : BiI G.X "len" (.builtin "len") := c.bii gs_law_changed T.b_len
  haveI : BiI G.X "list" (.type "list") := c.bii gs_law_changed T.b_list
  haveI : CalI G "_law_draws" Z_law_draws := c.cal gs_law_changed a_law_draws (by decide)
  first | with_reducible exact body_law_changed hl pre | exact body_law_changed hl pre

end K02
end CL

set_option Elab.async false
set_option synthInstance.maxSize 100000
set_option linter.all false
set_option maxRecDepth 100000
set_option maxHeartbeats 4000000

namespace CL
open PySem L2
/-! ### short words -/
local macro_rules | `(tactic| walk_at "side") => `(tactic| first
  | (with_reducible assumption)
  | omega
  | (refine Or.inr ⟨?_, ?_⟩ <;> omega)
  | (refine Or.inl ⟨?_, ?_⟩ <;> omega)
  | (refine ⟨?_, ?_⟩ <;> omega)
  | decide
  | (exact atI_isSome (by omega) (by simp only [List.length_cons, List.length_nil, List.length_map]; omega))
  | (simp only [List.length_cons, List.length_nil]; decide)
  | (simp only [List.length_append, List.length_cons, List.length_nil, List.length_map] at *; omega)
  | (refine ⟨?_, ?_, ?_⟩ <;> first | omega | decide))
local macro_rules | `(tactic| walk_at "rf") => `(tactic| first
  | ((with_reducible show starEach _ _ = _); rfl)
  | ((with_reducible show List.any _ _ = _); rfl)
  | ((with_reducible show behindInMarks _ _ = _); with_unfolding_all rfl)
  | ((with_reducible show lastMarks _ _ = _); with_unfolding_all rfl)
  | ((with_reducible show attributeBase _ _ _ _ = _); rfl)
  | ((with_reducible show PlainIx _); exact fun _ _ => rfl)
  | ((with_reducible show D.notFrm _ = _); rfl)
  | ((with_reducible show D.truOk _); exact trivial))
/-- what must be shown for an expression -/
local macro_rules | `(tactic| walk_at "sd") => `(tactic| ((repeat' first | exact trivial | (with_reducible apply And.intro) | (walk_at "rf") | (exact fun h => Bool.noConfusion (show true = false from h)) | (exact fun h => Bool.noConfusion (show false = true from h)) | (with_reducible intro _)); (all_goals try (walk_at "side"))))
/-- a statement, then what follows -/
local macro_rules | `(tactic| walk_at "set") => `(tactic| (refine go_set (by walk_at "sd") ?_))
local macro_rules | `(tactic| walk_at "setL") => `(tactic| (refine go_setL (by walk_at "sd") ?_))
local macro_rules | `(tactic| walk_at "ret") => `(tactic| (refine go_ret (by walk_at "sd") ?_))
local macro_rules | `(tactic| walk_at "app") => `(tactic| (refine go_append (by walk_at "sd") ?_ ?_))
local macro_rules | `(tactic| walk_at "if") => `(tactic| (refine go_if (by walk_at "sd") ?_ ?_))

theorem cut4 {xs : List Int} {i : Nat} (hl : xs.length = 33) (hi : i < 8) : ∃ r0 r1 r2 r3 : Int, cutL (xs.map D.int) (some (1 + 4 * (i : Int))) (some (5 + 4 * (i : Int))) = [.int r0, .int r1, .int r2, .int r3] ∧
    xs[1 + 4 * i]? = some r0 ∧ xs[2 + 4 * i]? = some r1 ∧ xs[3 + 4 * i]? = some r2 ∧ xs[4 + 4 * i]? = some r3 := by
  obtain ⟨r0, h0⟩ : ∃ r, xs[1 + 4 * i]? = some r := ⟨_, List.getElem?_eq_getElem (by omega)⟩
  obtain ⟨r1, h1⟩ : ∃ r, xs[2 + 4 * i]? = some r := ⟨_, List.getElem?_eq_getElem (by omega)⟩
  obtain ⟨r2, h2⟩ : ∃ r, xs[3 + 4 * i]? = some r := ⟨_, List.getElem?_eq_getElem (by omega)⟩
  obtain ⟨r3, h3⟩ : ∃ r, xs[4 + 4 * i]? = some r := ⟨_, List.getElem?_eq_getElem (by omega)⟩
  refine ⟨r0, r1, r2, r3, ?_, h0, h1, h2, h3⟩
  have e1 : HT.sIx (xs.map D.int).length 0 (some (1 + 4 * (i : Int))) = 1 + 4 * i := by
    unfold HT.sIx
    dsimp only
    rw [if_neg (by omega), List.length_map]; omega
  have e2 : HT.sIx (xs.map D.int).length (xs.map D.int).length (some (5 + 4 * (i : Int))) = 5 + 4 * i := by
    unfold HT.sIx
    dsimp only
    rw [if_neg (by omega), List.length_map]; omega
  unfold cutL
  rw [e1, e2, show 5 + 4 * i - (1 + 4 * i) = 4 by omega, ← List.map_drop, drop_of h0, show 1 + 4 * i + 1 = 2 + 4 * i by omega, drop_of h1, show 2 + 4 * i + 1 = 3 + 4 * i by omega, drop_of h2, show 3 + 4 * i + 1 = 4 + 4 * i by omega, drop_of h3]
  rfl
def BS : List Int := [9] ++ (List.replicate 8 [12, 2, 12, 90]).flatten
theorem BS_len : BS.length = 33 := by decide
theorem BS_sign : ∀ i : Nat, i < 8 → BS[2 + 4 * i]? = some 2 := by decide
theorem BS_get : ∀ i : Nat, i < 33 → ∃ b, BS[i]? = some b := fun i h => ⟨_, List.getElem?_eq_getElem (by rw [BS_len]; exact h)⟩
namespace K02
def Z_law_numbers : Spec where
  n := 2
  pre := fun ds => ∃ (ns : List Int) (k : Int), ds = [.scr ns, .int k] ∧ ns.length ≤ 63 ∧ 0 ≤ k ∧ k < 1000000
  post := fun ds o => ∃ xs : List Int, o = .new (xs.map .int) ∧ xs.length ≤ 8 ∧ ∀ x ∈ xs, x ≠ 0
theorem body_law_numbers {G : Gx} {ds : List D} (hl : ds.length = Z_law_numbers.n) (pre : Z_law_numbers.pre ds) [CtxI G] [PasI G] [TkI G] [NmI G.X "script" 0] [NmI G.X "k" 1] [NmI G.X "drawn" 2] [NmI G.X "numbers" 3] [NmI G.X "j" 4] [NmI G.X "row" 5] [NmI G.X "number" 6] [NmI G.X "sign" 7] [NsI G.X "drawn" 2] [NsI G.X "numbers" 3] [NsI G.X "j" 4] [NsI G.X "row" 5] [NsI G.X "number" 6] [NsI G.X "sign" 7] [BiI G.X "range" (.type "range")] [BiI G.X "len" (.builtin "len")] [BiI G.X "abs" (.builtin "abs")] [BiI G.X "int" (.type "int")] [CalI G "_law_draws" Z_law_draws] : Run G (ds.map Sd.dat ++ List.replicate (N_law_numbers.length - Z_law_numbers.n) Sd.non) (defBody s_law_numbers) { nx := fun _ => Z_law_numbers.post ds (.ret .non), rt := Z_law_numbers.post ds } := by
  obtain ⟨ns, k, rfl, h1, h2, h3⟩ := pre
  show Run G [.dat (.scr ns), .dat (.int k), .non, .non, .non, .non, .non, .non] _ _
  refine go_draw (R := fun ds => ∃ xs : List Int, ds = xs.map .int ∧ Drawn xs BS) (by walk_at "sd") rfl ?_ (by simp) ?_ ?_
  · exact pre_draws BS h1 h2 h3 (by decide) (by decide)
  · exact post_draws (bs := BS)
  rintro _ ⟨xs, rfl, hl, hd⟩
  rw [BS_len] at hl
  dsimp only [List.set]
  have pos : ∀ (i : Nat) (x : Int), xs[i]? = some x → 0 ≤ x := fun i x h => by
    have := (List.getElem?_eq_some_iff.mp h).1
    obtain ⟨b, hb⟩ := BS_get i (by omega)
    exact (hd i x b h hb).1
  obtain ⟨x0, hx0⟩ : ∃ x, xs[0]? = some x := ⟨_, List.getElem?_eq_getElem (by omega)⟩
  have b0 := hd 0 x0 9 hx0 rfl
  have hz : atI xs 0 = some x0 := atI_nat hx0
  have hz1 : (atI xs 0).isSome = true := by rw [hz]; rfl
  have hz2 : (atI xs 0).getD 0 = x0 := by rw [hz]; rfl
  have sL : (100000 : Nat) ≤ sizeLine := by decide
  walk_at "setL"
  refine go_range (fun i S' => ∃ (zs : List Int) (a b c d : Sd), zs.length = i ∧ (∀ z ∈ zs, z ≠ 0) ∧ S' = [.dat (.scr ns), .dat (.int k), .dat (.lst (xs.map .int)), .own (zs.map .int), a, b, c, d]) (by walk_at "sd") (by rw [hz2]; omega) (by rw [hz2]; omega) ?_ ?_ ?_
  · exact ⟨[], _, _, _, _, rfl, (fun z h => by cases h), rfl⟩
  · rintro i S' hi ⟨zs, a, b, c, d, zl, z0, rfl⟩
    rw [hz2] at hi
    dsimp only [List.set]
    obtain ⟨r0, r1, r2, r3, hc, g0, g1, g2, g3⟩ := cut4 hl (show i < 8 by omega)
    have p0 := pos _ _ g0
    have p1 := hd _ _ _ g1 (BS_sign i (by omega))
    have p3 := pos _ _ g3
    refine go_setL (by walk_at "sd") ?_
    rw [hc]
    walk_at "set"
    refine go_ifJ (fun S' => ∃ num : Int, 0 < num ∧ S' = [.dat (.scr ns), .dat (.int k), .dat (.lst (xs.map .int)), .own (zs.map .int), .dat (.int i), .own [.int r0, .int r1, .int r2, .int r3], .dat (.int num), d]) (by walk_at "sd") ?_ ?_ ?_
    · intro _
      walk_at "set"
      exact go_nil ⟨10 + r3, by omega, rfl⟩
    · intro _
      exact go_nil ⟨1 + r0, by omega, rfl⟩
    rintro S' ⟨num, hn, rfl⟩
    refine go_ifJ (fun S' => ∃ num : Int, 0 < num ∧ S' = [.dat (.scr ns), .dat (.int k), .dat (.lst (xs.map .int)), .own (zs.map .int), .dat (.int i), .own [.int r0, .int r1, .int r2, .int r3], .dat (.int num), d]) (by walk_at "sd") ?_ ?_ ?_
    · intro q
      rw [List.length_map, Bool.and_eq_true, decide_eq_true_eq] at q
      have ha : (atI zs 0).isSome = true := atI_isSome (by omega) (by omega)
      have hv : (atI zs 0).getD 0 ≠ 0 := by
        rw [atI_pos (by omega) (by omega)] at ha ⊢
        cases e : zs[(0 : Int).toNat]? with
        | none => rw [e] at ha; cases ha
        | some v => exact z0 v (List.mem_of_getElem? e)
      walk_at "set"
      refine go_nil ⟨_, ?_, rfl⟩
      split <;> omega
    · intro _
      exact go_nil ⟨num, hn, rfl⟩
    clear hn num
    rintro S' ⟨num, hn, rfl⟩
    walk_at "set"
    refine go_ifJ (fun S' => ∃ sg : Int, (sg = 0 ∨ sg = 1) ∧ S' = [.dat (.scr ns), .dat (.int k), .dat (.lst (xs.map .int)), .own (zs.map .int), .dat (.int i), .own [.int r0, .int r1, .int r2, .int r3], .dat (.int num), .dat (.int sg)]) (by walk_at "sd") ?_ ?_ ?_
    · intro _
      walk_at "set"
      exact go_nil ⟨num % 2, by omega, rfl⟩
    · intro _
      exact go_nil ⟨r1, by omega, rfl⟩
    rintro S' ⟨sg, hs, rfl⟩
    refine go_append (by walk_at "sd") (by rw [List.length_map]; omega) ?_
    rw [snoc_int]
    refine go_nil (P := { nx := _, rt := _, bk := _, ct := _ }) ⟨_, _, _, _, _, by rw [List.length_append, zl]; rfl, (fun z h => ?_), rfl⟩
    rcases List.mem_append.mp h with h | h
    · exact z0 z h
    · rw [List.mem_singleton.mp h]
      rcases hs with rfl | rfl <;> omega
  · rintro S' ⟨zs, a, b, c, d, zl, z0, rfl⟩
    refine go_retO ?_
    exact ⟨zs, rfl, by rw [hz2] at zl; omega, z0⟩
theorem av_law_numbers {P : Program} {w : World} {K : PySem.W.Frag} {mg : Str → Option Value} {base : Heap} {CF : Addr} (T : Txt K mg) (a_law_draws : Av P w K mg base CF 1 "_law_draws" Z_law_draws) : Av P w K mg base CF 2 "_law_numbers" Z_law_numbers := by
  refine T.d_law_numbers.av fun f fd F => fn_ok F sc_law_numbers rfl fun G ds hP hw hK hmg hb hCF c hl pre hex => ?_
  subst hmg hP hw hK hb hCF
  haveI := c.i
  haveI := c.pp
  haveI := c.tt
  haveI : NmI G.X "script" 0 := c.nmi rfl vs_law_numbers
  haveI : NmI G.X "k" 1 := c.nmi rfl vs_law_numbers
  haveI : NmI G.X "drawn" 2 := c.nmi rfl vs_law_numbers
  haveI : NmI G.X "numbers" 3 := c.nmi rfl vs_law_numbers
  haveI : NmI G.X "j" 4 := c.nmi rfl vs_law_numbers
  haveI : NmI G.X "row" 5 := c.nmi rfl vs_law_numbers
  haveI : NmI G.X "number" 6 := c.nmi rfl vs_law_numbers
  haveI : NmI G.X "sign" 7 := c.nmi rfl vs_law_numbers
  haveI : NsI G.X "drawn" 2 := c.nsi rfl ls_law_numbers
  haveI : NsI G.X "numbers" 3 := c.nsi rfl ls_law_numbers
  haveI : NsI G.X "j" 4 := c.nsi rfl ls_law_numbers
  haveI : NsI G.X "row" 5 := c.nsi rfl ls_law_numbers
  haveI : NsI G.X "number" 6 := c.nsi rfl ls_law_numbers
  haveI : NsI G.X "sign" 7 := c.nsi rfl ls_law_numbers
  haveI : BiI G.X "range" (.type "range") := c.bii gs_law_numbers T.b_range
  haveI : BiI G.X "len" (.builtin "len") := c.bii gs_law_numbers T.b_len
  haveI : BiI G.X "abs" (.builtin "abs") := c.bii gs_law_numbers T.b_abs
  haveI : BiI G.X "int" (.type "int") := c.bii gs_law_numbers T.b_int
  haveI : CalI G "_law_draws" Z_law_draws := c.cal gs_law_numbers a_law_draws (by decide)
  first | with_reducible exact body_law_numbers hl pre | exact body_law_numbers hl pre

end K02
end CL

set_option Elab.async false
set_option synthInstance.maxSize 100000
set_option linter.all false
set_option maxRecDepth 100000
set_option maxHeartbeats 4000000

namespace CL
open PySem L2
/-! ### short words -/
local macro_rules | `(tactic| walk_at "side") => `(tactic| first
  | (with_reducible assumption)
  | omega
  | (refine Or.inr ⟨?_, ?_⟩ <;> omega)
  | (refine Or.inl ⟨?_, ?_⟩ <;> omega)
  | (refine ⟨?_, ?_⟩ <;> omega)
  | decide
  | (exact atI_isSome (by omega) (by simp only [List.length_cons, List.length_nil, List.length_map]; omega))
  | (simp only [List.length_cons, List.length_nil]; decide)
  | (simp only [List.length_append, List.length_cons, List.length_nil, List.length_map] at *; omega)
  | (refine ⟨?_, ?_, ?_⟩ <;> first | omega | decide))
local macro_rules | `(tactic| walk_at "rf") => `(tactic| first
  | ((with_reducible show starEach _ _ = _); rfl)
  | ((with_reducible show List.any _ _ = _); rfl)
  | ((with_reducible show behindInMarks _ _ = _); with_unfolding_all rfl)
  | ((with_reducible show lastMarks _ _ = _); with_unfolding_all rfl)
  | ((with_reducible show attributeBase _ _ _ _ = _); rfl)
  | ((with_reducible show PlainIx _); exact fun _ _ => rfl)
  | ((with_reducible show D.notFrm _ = _); rfl)
  | ((with_reducible show D.truOk _); exact trivial))
/-- what must be shown for an expression -/
local macro_rules | `(tactic| walk_at "sd") => `(tactic| ((repeat' first | exact trivial | (with_reducible apply And.intro) | (walk_at "rf") | (exact fun h => Bool.noConfusion (show true = false from h)) | (exact fun h => Bool.noConfusion (show false = true from h)) | (with_reducible intro _)); (all_goals try (walk_at "side"))))
/-- a statement, then what follows -/
local macro_rules | `(tactic| walk_at "set") => `(tactic| (refine go_set (by walk_at "sd") ?_))
local macro_rules | `(tactic| walk_at "setL") => `(tactic| (refine go_setL (by walk_at "sd") ?_))
local macro_rules | `(tactic| walk_at "ret") => `(tactic| (refine go_ret (by walk_at "sd") ?_))
local macro_rules | `(tactic| walk_at "app") => `(tactic| (refine go_append (by walk_at "sd") ?_ ?_))
local macro_rules | `(tactic| walk_at "if") => `(tactic| (refine go_if (by walk_at "sd") ?_ ?_))

theorem abs_nat (i : Int) : (if i < 0 then -i else i) = (i.natAbs : Int) := by split <;> omega
/-- the clause of nonzero numbers: none at opposite ones, else each once, by its size -/
def IsCl (xs : List Int) (d : D) : Prop := ((∃ v ∈ xs, -v ∈ xs) ∧ d = .non) ∨ ((∀ v ∈ xs, -v ∉ xs) ∧ ∃ zs : List Int, d = .tup (zs.map .int) ∧ zs.Pairwise (fun a b => a.natAbs < b.natAbs) ∧ ∀ v, v ∈ zs ↔ v ∈ xs)
theorem asc_uniq : ∀ {as bs : List Int}, as.Pairwise (fun a b => a.natAbs < b.natAbs) → bs.Pairwise (fun a b => a.natAbs < b.natAbs) → (∀ v, v ∈ as ↔ v ∈ bs) → as = bs
  | [], [], _, _, _ => rfl
  | [], b :: bs, _, _, h => absurd ((h b).mpr List.mem_cons_self) (by simp)
  | a :: as, [], _, _, h => absurd ((h a).mp List.mem_cons_self) (by simp)
  | a :: as, b :: bs, ha, hb, h => by
    have ha' := List.pairwise_cons.mp ha
    have hb' := List.pairwise_cons.mp hb
    have e : a = b := by
      rcases List.mem_cons.mp ((h a).mp List.mem_cons_self) with e | e
      · exact e
      · rcases List.mem_cons.mp ((h b).mpr List.mem_cons_self) with e' | e'
        · exact e'.symm
        · have := ha'.1 b e'
          have := hb'.1 a e
          omega
    subst e
    rw [asc_uniq ha'.2 hb'.2 fun v => ?_]
    constructor
    · intro hv
      rcases List.mem_cons.mp ((h v).mp (List.mem_cons_of_mem _ hv)) with e | e
      · have := ha'.1 v hv
        rw [e] at this
        omega
      · exact e
    · intro hv
      rcases List.mem_cons.mp ((h v).mpr (List.mem_cons_of_mem _ hv)) with e | e
      · have := hb'.1 v hv
        rw [e] at this
        omega
      · exact e
theorem isCl_uniq {xs : List Int} {d e : D} (h : IsCl xs d) (h' : IsCl xs e) : d = e := by
  rcases h with ⟨⟨v, v1, v2⟩, rfl⟩ | ⟨n, zs, rfl, o, m⟩
  · rcases h' with ⟨_, rfl⟩ | ⟨n', _⟩
    · rfl
    · exact absurd v2 (n' v v1)
  · rcases h' with ⟨⟨v, v1, v2⟩, rfl⟩ | ⟨n', zs', rfl, o', m'⟩
    · exact absurd v2 (n v v1)
    · rw [asc_uniq o o' fun v => (m v).trans (m' v).symm]
open Classical in
/-- .. as a function -/
noncomputable def clD (xs : List Int) : D := if h : ∃ d, IsCl xs d then h.choose else .non
theorem isCl_eq {xs : List Int} {d : D} (h : IsCl xs d) : d = clD xs := by
  unfold clD
  rw [dif_pos ⟨d, h⟩]
  exact isCl_uniq h (Exists.choose_spec (⟨d, h⟩ : ∃ d, IsCl xs d))
/-- what a loop over the sizes has at i -/
structure ClAt (xs ss zs : List Int) (i : Nat) : Prop where
  asc : zs.Pairwise fun a b => a.natAbs < b.natAbs
  sub : ∀ v ∈ zs, v ∈ xs ∧ (v.natAbs : Int) ∈ ss.take i
  all : ∀ v ∈ xs, (v.natAbs : Int) ∈ ss.take i → v ∈ zs
  odd : ∀ v ∈ xs, (v.natAbs : Int) ∈ ss.take i → -v ∉ xs
theorem mem_take_succ {ss : List Int} {i : Nat} {s v : Int} (hs : ss[i]? = some s) : v ∈ ss.take (i + 1) ↔ v ∈ ss.take i ∨ v = s := by
  rw [List.take_succ, hs]
  simp
theorem ClAt.same {xs ss zs : List Int} {i : Nat} {s : Int} (h : ClAt xs ss zs i) (hs : ss[i]? = some s) (h1 : ∀ v ∈ xs, (v.natAbs : Int) = s → v ∈ zs ∧ -v ∉ xs) : ClAt xs ss zs (i + 1) := by
  refine ⟨h.asc, fun v hv => ⟨(h.sub v hv).1, (mem_take_succ hs).mpr (.inl (h.sub v hv).2)⟩, fun v hv ht => ?_, fun v hv ht => ?_⟩
  · rcases (mem_take_succ hs).mp ht with q | q
    · exact h.all v hv q
    · exact (h1 v hv q).1
  · rcases (mem_take_succ hs).mp ht with q | q
    · exact h.odd v hv q
    · exact (h1 v hv q).2
theorem ClAt.snoc {xs ss zs : List Int} {i : Nat} {s x : Int} (h : ClAt xs ss zs i) (hs : ss[i]? = some s) (ho : ss.Pairwise (· ≤ ·)) (hx : x ∈ xs) (ha : (x.natAbs : Int) = s) (hn : -x ∉ xs) (hz : x ∉ zs) : ClAt xs ss (zs ++ [x]) (i + 1) := by
  refine ⟨List.pairwise_append.mpr ⟨h.asc, by simp, fun a ha' b hb => ?_⟩, fun v hv => ?_, fun v hv ht => ?_, fun v hv ht => ?_⟩
  · rw [List.mem_singleton.mp hb]
    obtain ⟨a1, a2⟩ := h.sub a ha'
    have le : (a.natAbs : Int) ≤ s := by
      obtain ⟨j, hj, e⟩ := List.mem_take_iff_getElem.mp a2
      obtain ⟨hi, e2⟩ := List.getElem?_eq_some_iff.mp hs
      rw [← e, ← e2]
      exact (List.pairwise_iff_getElem.mp ho) j i (by omega) hi (by omega)
    have ne : (a.natAbs : Int) ≠ s := fun e => by
      have : a = x ∨ a = -x := by omega
      rcases this with e | e
      · rw [e] at ha'; exact hz ha'
      · rw [e] at a1; exact hn a1
    omega
  · rcases List.mem_append.mp hv with q | q
    · exact ⟨(h.sub v q).1, (mem_take_succ hs).mpr (.inl (h.sub v q).2)⟩
    · rw [List.mem_singleton.mp q]
      exact ⟨hx, (mem_take_succ hs).mpr (.inr ha)⟩
  · rcases (mem_take_succ hs).mp ht with q | q
    · exact List.mem_append_left _ (h.all v hv q)
    · have : v = x ∨ v = -x := by omega
      rcases this with e | e
      · rw [e]; simp
      · rw [e] at hv; exact absurd hv hn
  · rcases (mem_take_succ hs).mp ht with q | q
    · exact h.odd v hv q
    · have : v = x ∨ v = -x := by omega
      rcases this with e | e
      · rw [e]; exact hn
      · rw [e] at hv; exact absurd hv hn
namespace K02
noncomputable abbrev Z_law_clause_of : Spec := Z1 (fun x => ∃ xs : List Int, x = .lst (xs.map .int) ∧ xs.length ≤ 1000 ∧ ∀ x ∈ xs, x ≠ 0) (fun x => clD x.ints)
theorem body_law_clause_of {G : Gx} {ds : List D} (c : Ctx G N_law_clause_of (defScope s_law_clause_of) 0) (m_int : G.X.mg "int" = none) (m_abs : G.X.mg "abs" = none) (hl : ds.length = Z_law_clause_of.n) (pre : Z_law_clause_of.pre ds) [CtxI G] [PasI G] [TkI G] [NmI G.X "numbers" 0] [NmI G.X "clause" 1] [NmI G.X "v" 2] [NsI G.X "clause" 1] [NsI G.X "v" 2] [BiI G.X "sorted" (.builtin "sorted")] [BiI G.X "tuple" (.type "tuple")] : Run G (ds.map Sd.dat ++ List.replicate (N_law_clause_of.length - Z_law_clause_of.n) Sd.non) (defBody s_law_clause_of) { nx := fun _ => Z_law_clause_of.post ds (.ret .non), rt := Z_law_clause_of.post ds } := by
  obtain ⟨_, rfl, xs, rfl, hxl, hx0⟩ := pre
  show Run G [.dat (.lst (xs.map .int)), .non, .non, .non] _ _
  have fin : ∀ d, IsCl xs d → Z_law_clause_of.post [.lst (xs.map .int)] (.ret d) := fun d h => ⟨_, rfl, by dsimp only; rw [ints_lst, ← isCl_eq h]⟩
  have sL : (100000 : Nat) ≤ sizeLine := by decide
  walk_at "setL"
  have iS : BiI G.X "sorted" (.builtin "sorted") := inferInstance
  refine go_forE D.int (srt (xs.map fun x => (x.natAbs : Int))) (fun i S' => ∃ (zs : List Int) (a b : Sd), ClAt xs (srt (xs.map fun x => (x.natAbs : Int))) zs i ∧ zs.length ≤ i ∧ S' = [.dat (.lst (xs.map .int)), .own (zs.map .int), a, b]) (evL_sorted iS.out (EvL.q (EvL.is (evL_comp0 (j := 3) (k := true) xs D.int (fun x => .int (if x < 0 then -x else x)) ?_ ?_ ?_ ?_ c.calm c.ndX ?_ ?_) ?_))) ?_ ?_ ?_
  · intro t ht; cases ht; rfl
  · omega
  · exact EvRQ.out (s := True) (by walk_at "sd")
  · intro x _
    refine blk_of c.toCb fun B b => ?_
    haveI := b.cb.i
    haveI : NmI B.X "number" 3 := b.cb.nmi (N' := ["number"]) rfl (by decide +kernel)
    haveI : BiI B.X "abs" (.builtin "abs") := b.cb.bii (N' := ["abs"]) (by decide +kernel) (by rw [b.mg]; exact m_abs)
    haveI : BiI B.X "int" (.type "int") := b.cb.bii (N' := ["int"]) (by decide +kernel) (by rw [b.mg]; exact m_int)
    dsimp only [List.set]
    exact EvR.out (by walk_at "sd")
  · rw [c.hN, c.hsc]
    exact ⟨rfl, by decide +kernel, by decide +kernel, by decide +kernel, by decide +kernel⟩
  · exact blk_of c.toCb fun B b => b.cb.nsl rfl (by decide +kernel)
  · rw [List.map_map]
    exact List.map_congr_left fun x _ => congrArg D.int (abs_nat x)
  · refine ⟨[], .non, .non, ⟨List.Pairwise.nil, fun v h => (by cases h), fun v _ h => ?_, fun v _ h => ?_⟩, Nat.le_refl 0, rfl⟩ <;> simp at h
  · rintro g i s S' hs ⟨zs, a, b, C, zl, rfl⟩
    dsimp only [List.set]
    have hin : ∃ x ∈ xs, (x.natAbs : Int) = s := by
      have := (srt_perm _).mem_iff.mp (List.mem_of_getElem? hs)
      exact List.mem_map.mp this
    obtain ⟨x, hx, hxs⟩ := hin
    have hil := (List.getElem?_eq_some_iff.mp hs).1
    rw [(srt_perm _).length_eq, List.length_map] at hil
    have hzl : (zs.map D.int).length < sizeLine := by rw [List.length_map]; omega
    have so := srt_ord (xs.map fun x => (x.natAbs : Int))
    generalize srt (xs.map fun x => (x.natAbs : Int)) = ss at *
    refine go_if (by walk_at "sd") (fun q => ?_) (fun q => go_nil ?_)
    · refine go_ret (by walk_at "sd") (fin _ (.inl ⟨⟨s, ?_, ?_⟩, rfl⟩))
      · simp at q; exact q.1
      · simp at q; exact q.2
    · have q : ¬ (s ∈ xs ∧ -s ∈ xs) := by simpa using q
      have hop : x = s ∨ x = -s := by omega
      refine go_ifJ (fun S' => ∃ zs1 : List Int, (s ∈ xs → ClAt xs ss zs1 (i + 1)) ∧ (s ∉ xs → ClAt xs ss zs1 i) ∧ (s ∉ xs → zs1.length ≤ i) ∧ zs1.length ≤ i + 1 ∧ S' = [.dat (.lst (xs.map .int)), .own (zs1.map .int), .dat (.int s), b]) (by walk_at "sd") (fun q1 => ?_) (fun q1 => ?_) ?_
      · have q1 : s ∈ xs ∧ s ∉ zs := by simpa using q1
        refine go_append (by walk_at "sd") hzl ?_
        rw [snoc_int]
        exact go_nil ⟨_, fun _ => C.snoc hs so q1.1 (by omega) (fun z => q ⟨q1.1, z⟩) q1.2, fun z => absurd q1.1 z, fun z => absurd q1.1 z, by rw [List.length_append]; simp; omega, rfl⟩
      · have q1 : s ∈ xs → s ∈ zs := by simpa using q1
        refine go_nil ⟨zs, fun z => C.same hs fun v hv e => ?_, fun _ => C, fun _ => zl, by omega, rfl⟩
        have : v = s ∨ v = -s := by omega
        rcases this with e | e
        · rw [e]; exact ⟨q1 z, fun w => q ⟨z, w⟩⟩
        · rw [e] at hv; exact absurd ⟨z, hv⟩ q
      · rintro S' ⟨zs1, c1, c2, c3, c4, rfl⟩
        have hzl1 : (zs1.map D.int).length < sizeLine := by rw [List.length_map]; omega
        refine go_if (by walk_at "sd") (fun q2 => ?_) (fun q2 => ?_)
        · have q2 : s ∉ xs ∧ -s ∉ zs1 := by simpa using q2
          have hx : -s ∈ xs := by rcases hop with e | e <;> rw [e] at hx <;> first | exact hx | exact absurd hx q2.1
          refine go_append (by walk_at "sd") hzl1 ?_
          rw [snoc_int]
          refine go_nil (go_nil ⟨_, _, _, ?_, ?_, rfl⟩)
          · rw [show (0 : Int) - s = -s by omega]
            exact (c2 q2.1).snoc hs so hx (by omega) (by rw [Int.neg_neg]; exact q2.1) q2.2
          · have := c3 q2.1
            rw [List.length_append]; simp; omega
        · have q2 : s ∉ xs → -s ∈ zs1 := by simpa using q2
          refine go_nil (go_nil ⟨zs1, _, _, ?_, c4, rfl⟩)
          by_cases z : s ∈ xs
          · exact c1 z
          · refine (c2 z).same hs fun v hv e => ?_
            have : v = s ∨ v = -s := by omega
            rcases this with e | e
            · rw [e] at hv; exact absurd hv z
            · rw [e, Int.neg_neg]; exact ⟨q2 z, z⟩
  · rintro S' ⟨zs, a, b, C, zl, rfl⟩
    refine go_ret (by walk_at "sd") (fin _ (.inr ⟨fun v hv => C.odd v hv ?_, zs, rfl, C.asc, fun v => ⟨fun h => (C.sub v h).1, fun h => C.all v h ?_⟩⟩))
    · rw [List.take_length]
      exact (srt_perm _).mem_iff.mpr (List.mem_map.mpr ⟨v, hv, rfl⟩)
    · rw [List.take_length]
      exact (srt_perm _).mem_iff.mpr (List.mem_map.mpr ⟨v, h, rfl⟩)
theorem av_law_clause_of {P : Program} {w : World} {K : PySem.W.Frag} {mg : Str → Option Value} {base : Heap} {CF : Addr} (T : Txt K mg)  : Av P w K mg base CF 1 "_law_clause_of" Z_law_clause_of := by
  refine T.d_law_clause_of.av fun f fd F => fn_ok F sc_law_clause_of rfl fun G ds hP hw hK hmg hb hCF c hl pre hex => ?_
  subst hmg hP hw hK hb hCF
  haveI := c.i
  haveI := c.pp
  haveI := c.tt
  haveI : NmI G.X "numbers" 0 := c.nmi rfl vs_law_clause_of
  haveI : NmI G.X "clause" 1 := c.nmi rfl vs_law_clause_of
  haveI : NmI G.X "v" 2 := c.nmi rfl vs_law_clause_of
  haveI : NsI G.X "clause" 1 := c.nsi rfl ls_law_clause_of
  haveI : NsI G.X "v" 2 := c.nsi rfl ls_law_clause_of
  haveI : BiI G.X "sorted" (.builtin "sorted") := c.bii gs_law_clause_of T.b_sorted
  haveI : BiI G.X "tuple" (.type "tuple") := c.bii gs_law_clause_of T.b_tuple
  first | with_reducible exact body_law_clause_of c T.b_int T.b_abs hl pre | exact body_law_clause_of c T.b_int T.b_abs hl pre

end K02
end CL

set_option Elab.async false
set_option synthInstance.maxSize 100000
set_option linter.all false
set_option maxRecDepth 100000
set_option maxHeartbeats 4000000

namespace CL
open PySem L2
/-! ### short words -/
local macro_rules | `(tactic| walk_at "side") => `(tactic| first
  | (with_reducible assumption)
  | omega
  | (refine Or.inr ⟨?_, ?_⟩ <;> omega)
  | (refine Or.inl ⟨?_, ?_⟩ <;> omega)
  | (refine ⟨?_, ?_⟩ <;> omega)
  | decide
  | (exact atI_isSome (by omega) (by simp only [List.length_cons, List.length_nil, List.length_map]; omega))
  | (simp only [List.length_cons, List.length_nil]; decide)
  | (simp only [List.length_append, List.length_cons, List.length_nil, List.length_map] at *; omega)
  | (refine ⟨?_, ?_, ?_⟩ <;> first | omega | decide))
local macro_rules | `(tactic| walk_at "rf") => `(tactic| first
  | ((with_reducible show starEach _ _ = _); rfl)
  | ((with_reducible show List.any _ _ = _); rfl)
  | ((with_reducible show behindInMarks _ _ = _); with_unfolding_all rfl)
  | ((with_reducible show lastMarks _ _ = _); with_unfolding_all rfl)
  | ((with_reducible show attributeBase _ _ _ _ = _); rfl)
  | ((with_reducible show PlainIx _); exact fun _ _ => rfl)
  | ((with_reducible show D.notFrm _ = _); rfl)
  | ((with_reducible show D.truOk _); exact trivial))
/-- what must be shown for an expression -/
local macro_rules | `(tactic| walk_at "sd") => `(tactic| ((repeat' first | exact trivial | (with_reducible apply And.intro) | (walk_at "rf") | (exact fun h => Bool.noConfusion (show true = false from h)) | (exact fun h => Bool.noConfusion (show false = true from h)) | (with_reducible intro _)); (all_goals try (walk_at "side"))))
/-- a statement, then what follows -/
local macro_rules | `(tactic| walk_at "set") => `(tactic| (refine go_set (by walk_at "sd") ?_))
local macro_rules | `(tactic| walk_at "setL") => `(tactic| (refine go_setL (by walk_at "sd") ?_))
local macro_rules | `(tactic| walk_at "ret") => `(tactic| (refine go_ret (by walk_at "sd") ?_))
local macro_rules | `(tactic| walk_at "app") => `(tactic| (refine go_append (by walk_at "sd") ?_ ?_))
local macro_rules | `(tactic| walk_at "if") => `(tactic| (refine go_if (by walk_at "sd") ?_ ?_))

def okLit : D → Bool
  | .int i => !decide (i = 0)
  | _ => false
theorem Ev.to {G : Gx} {S : List Sd} {e : Expr} {d d' : D} (h : Ev G S e d) (q : d = d') : Ev G S e d' := q ▸ h
theorem okLits : ∀ {ds : List D}, ds.all okLit = true → ∃ xs : List Int, ds = xs.map .int ∧ ∀ x ∈ xs, x ≠ 0
  | [], _ => ⟨[], rfl, fun x h => by cases h⟩
  | d :: ds, h => by
    rw [List.all_cons, Bool.and_eq_true] at h
    obtain ⟨xs, rfl, hx⟩ := okLits h.2
    cases d with
    | int i =>
      refine ⟨i :: xs, rfl, fun x m => ?_⟩
      rcases List.mem_cons.mp m with e | m
      · rw [e]; simpa [okLit] using h.1
      · exact hx x m
    | _ => simp [okLit] at h
theorem okLits_of {xs : List Int} (h : ∀ x ∈ xs, x ≠ 0) : (xs.map D.int).all okLit = true := List.all_eq_true.mpr fun d m => by
  obtain ⟨i, hi, rfl⟩ := List.mem_map.mp m
  simpa [okLit] using h i hi
/-- a list or tuple of literals -/
def goodLits (x : D) : Bool := (x.isA .list || x.isA .tuple) && x.items.all okLit
theorem pures_memL {ds : List D} {d : D} (h : (D.lst ds).pure = true) (m : d ∈ ds) : d.pure = true := pures_all (by unfold D.pure at h; exact h) d m
namespace K02
def Z_clause_of (mg : Str → Option Value) : Spec where
  n := 1
  pre := fun ds => ∃ x, ds = [x] ∧ x.pure = true ∧ x.items.length ≤ 1000 ∧ ∀ ns, x ≠ .scr ns
  post := fun ds o => ∃ x, ds = [x] ∧ ((∃ (xs : List Int) (d : D), (x = .tup (xs.map .int) ∨ x = .lst (xs.map .int)) ∧ (∀ v ∈ xs, v ≠ 0) ∧ o = .ret d ∧ IsCl xs d) ∨ (goodLits x = false ∧ o = .exc (clsA mg "InvalidLiterals") [("value", x)]))
theorem body_clause_of {G : Gx} {ds : List D} (c : Ctx G N_clause_of (defScope s_clause_of) 2) (a_is_whole : Av G.X.prog G.X.w G.X.K G.X.mg G.X.base G.CF 1 "is_whole" Z_is_whole) (hl : ds.length = (Z_clause_of G.X.mg).n) (pre : (Z_clause_of G.X.mg).pre ds) (hex : ∀ S C fs, (Z_clause_of G.X.mg).post ds (.exc C fs) → G.ex S C fs) [CtxI G] [PasI G] [TkI G] [NmI G.X "literals" 0] [NmI G.X "there" 1] [NsI G.X "there" 1] [BiI G.X "all" (.builtin "all")] [BiI G.X "any" (.builtin "any")] [BiI G.X "tuple" (.type "tuple")] [BiI G.X "sorted" (.builtin "sorted")] [BiI G.X "abs" (.builtin "abs")] [CalI G "is_sequence" Z_is_sequence] [XcI G "InvalidLiterals" (clsA G.X.mg "InvalidLiterals") "value"] [XfI G (clsA G.X.mg "InvalidLiterals") "value"] : Run G (ds.map Sd.dat ++ List.replicate (N_clause_of.length - (Z_clause_of G.X.mg).n) Sd.non) (defBody s_clause_of) { nx := fun _ => (Z_clause_of G.X.mg).post ds (.ret .non), rt := (Z_clause_of G.X.mg).post ds } := by
  obtain ⟨x, rfl, hx, hxl, hns⟩ := pre
  show Run G [.dat x, .non, .non] _ _
  have sL : (100000 : Nat) ≤ sizeLine := by decide
  have fx := notFrm_of hx
  have q : CtxI G := inferInstance
  have bad : goodLits x = false → G.ex [.dat x, .non, .non] (clsA G.X.mg "InvalidLiterals") [("value", x)] := fun h => hex _ _ _ ⟨x, rfl, .inr ⟨h, rfl⟩⟩
  have iAll : BiI G.X "all" (.builtin "all") := inferInstance
  have fin : ∀ (xs : List Int) (d : D), (x = .tup (xs.map .int) ∨ x = .lst (xs.map .int)) → (∀ v ∈ xs, v ≠ 0) → IsCl xs d → (Z_clause_of G.X.mg).post [x] (.ret d) := fun xs d h1 h2 h3 => ⟨x, rfl, .inl ⟨xs, d, h1, h2, rfl, h3⟩⟩
  refine run_cons (runS_if (r := !(goodLits x)) ?_ (fun z => ?_) (fun z => go_nil ?_))
  · cases x with
    | tup ds =>
      refine EvT.is (evW_or (r := false) (t := !(ds.all okLit)) (EvRT.out (by walk_at "sd")) (fun _ => evW_or1 (evT_not (r := (ds.all okLit)) ((evT_val (ev_all (bs := ds.map okLit) q iAll (EvL.q (EvL.is (evL_comp0 (j := 2) (k := false) ds id (fun d => .bl (okLit d)) ?_ ?_ ?_ ?_ c.calm c.ndX ?_ ?_) ?_))) trivial (fun _ => rfl)).is ?_)))).t ?_
      · intro t ht; cases ht; rfl
      · have : ds.length ≤ 1000 := hxl
        omega
      · rw [show ds.map id = ds from List.map_id ds]
        exact EvRQ.out (s := True) (by walk_at "sd")
      · intro d hd
        refine blk_of c.toCb fun B b => ?_
        haveI := b.cb.i
        haveI : NmI B.X "literal" 2 := b.cb.nmi (N' := ["literal"]) rfl (by decide +kernel)
        haveI : CalI B "is_whole" Z_is_whole := b.cb.cal (N' := ["is_whole"]) (by decide +kernel) (b.av _ _ _ a_is_whole) (by decide)
        have hp : d.pure = true := pures_mem hx hd
        have hf : d.notFrm = true := notFrm_of hp
        dsimp only [List.set, id]
        cases d with
        | frm _ _ => unfold D.pure at hp; cases hp
        | int i => exact (EvR.out (by walk_at "sd")).is (by simp [okLit, D.isA])
        | _ => exact (EvR.out (by walk_at "sd")).is rfl
      · rw [c.hN, c.hsc]
        exact ⟨rfl, by decide +kernel, by decide +kernel, by decide +kernel, by decide +kernel⟩
      · exact blk_of c.toCb fun B b => b.cb.nsl rfl (by decide +kernel)
      · exact (List.map_map (f := okLit) (g := D.bl) (l := ds)).symm
      · show (ds.map okLit).all id = ds.all okLit
        rw [List.all_map]; rfl
      · simp [goodLits, D.isA, D.items]
    | lst ds =>
      refine EvT.is (evW_or (r := false) (t := !(ds.all okLit)) (EvRT.out (by walk_at "sd")) (fun _ => evW_or1 (evT_not (r := (ds.all okLit)) ((evT_val (ev_all (bs := ds.map okLit) q iAll (EvL.q (EvL.is (evL_comp0 (j := 2) (k := true) ds id (fun d => .bl (okLit d)) ?_ ?_ ?_ ?_ c.calm c.ndX ?_ ?_) ?_))) trivial (fun _ => rfl)).is ?_)))).t ?_
      · intro t ht; cases ht; rfl
      · have : ds.length ≤ 1000 := hxl
        omega
      · rw [show ds.map id = ds from List.map_id ds]
        exact EvRQ.out (s := True) (by walk_at "sd")
      · intro d hd
        refine blk_of c.toCb fun B b => ?_
        haveI := b.cb.i
        haveI : NmI B.X "literal" 2 := b.cb.nmi (N' := ["literal"]) rfl (by decide +kernel)
        haveI : CalI B "is_whole" Z_is_whole := b.cb.cal (N' := ["is_whole"]) (by decide +kernel) (b.av _ _ _ a_is_whole) (by decide)
        have hp : d.pure = true := pures_memL hx hd
        have hf : d.notFrm = true := notFrm_of hp
        dsimp only [List.set, id]
        cases d with
        | frm _ _ => unfold D.pure at hp; cases hp
        | int i => exact (EvR.out (by walk_at "sd")).is (by simp [okLit, D.isA])
        | _ => exact (EvR.out (by walk_at "sd")).is rfl
      · rw [c.hN, c.hsc]
        exact ⟨rfl, by decide +kernel, by decide +kernel, by decide +kernel, by decide +kernel⟩
      · exact blk_of c.toCb fun B b => b.cb.nsl rfl (by decide +kernel)
      · exact (List.map_map (f := okLit) (g := D.bl) (l := ds)).symm
      · show (ds.map okLit).all id = ds.all okLit
        rw [List.all_map]; rfl
      · simp [goodLits, D.isA, D.items]
    | frm _ _ => unfold D.pure at hx; cases hx
    | scr ns => exact absurd rfl (hns ns)
    | _ => exact EvT.is (evW_or (r := true) (t := false) (EvRT.out (by walk_at "sd")) (fun z => by cases z)).t rfl
  · refine go_raise (by walk_at "sd") (bad (by simpa using z))
  · have z : goodLits x = true := by simpa using z
    obtain ⟨k, xs, rfl, h0, hl1⟩ : ∃ (k : Bool) (xs : List Int), x = sq k (xs.map .int) ∧ (∀ v ∈ xs, v ≠ 0) ∧ xs.length ≤ 1000 := by
      unfold goodLits at z
      rw [Bool.and_eq_true] at z
      obtain ⟨xs, e, h⟩ := okLits z.2
      have hl2 : xs.length ≤ 1000 := by have := congrArg List.length e; rw [List.length_map] at this; omega
      cases x with
      | tup ds => exact ⟨false, xs, congrArg D.tup e, h, hl2⟩
      | lst ds => exact ⟨true, xs, congrArg D.lst e, h, hl2⟩
      | scr ns => exact absurd rfl (hns ns)
      | _ => simp [D.isA] at z
    have fin : ∀ d, IsCl xs d → (Z_clause_of G.X.mg).post [sq k (xs.map .int)] (.ret d) := fun d h => fin xs d (by cases k; exact .inl rfl; exact .inr rfl) h0 h
    have iAny : BiI G.X "any" (.builtin "any") := inferInstance
    have iSrt : BiI G.X "sorted" (.builtin "sorted") := inferInstance
    have iAbs : BiI G.X "abs" (.builtin "abs") := inferInstance
    have iTup : BiI G.X "tuple" (.type "tuple") := inferInstance
    have nT : NmI G.X "there" 1 := inferInstance
    refine go_setDc (xs := xs) (j := 2) (k := k) q (by simp) (by omega) ?_ ?_ ?_ ?_ ?_
    · cases k with
      | false =>
        show EvQ G [.dat (.tup (xs.map .int)), .non, .non] _ _ _
        exact EvRQ.out (s := True) (by walk_at "sd")
      | true =>
        show EvQ G [.dat (.lst (xs.map .int)), .non, .non] _ _ _
        exact EvRQ.out (s := True) (by walk_at "sd")
    · rw [c.hN, c.hsc]
      exact ⟨rfl, by decide +kernel, by decide +kernel, by decide +kernel, by decide +kernel⟩
    · exact blk_of c.toCb fun B b => ⟨b.cb.nsli rfl (by decide +kernel), b.cb.nmi (N' := ["literal"]) rfl (by decide +kernel)⟩
    · rw [c.hsc]; decide +kernel
    dsimp only [List.set]
    have km := keysI_mem xs
    have kl := keysI_len xs
    refine run_cons (runS_if (r := (keysI xs).any fun k => decide (-k ∈ keysI xs)) ((evT_val (ev_anyNeg (i := 1) (j := 2) (ks := keysI xs) q nT iAny rfl (by simp) (by decide) (by omega) ?_ ?_ rfl) trivial (fun _ => rfl))) (fun z => ?_) (fun z => go_nil ?_))
    · rw [c.hN, c.hsc]
      exact ⟨rfl, by decide +kernel, by decide +kernel, by decide +kernel, by decide +kernel⟩
    · exact blk_of c.toCb fun B b => ⟨b.cb.nsli rfl (by decide +kernel), b.cb.nmi (N' := ["literal"]) rfl (by decide +kernel), b.cb.nmi (N' := ["there"]) rfl (by decide +kernel), by have := b.cb.hu; omega⟩
    · refine go_ret (by walk_at "sd") (fin _ (.inl ⟨?_, rfl⟩))
      obtain ⟨v, h1, h2⟩ := List.any_eq_true.mp z
      exact ⟨v, (km v).mp h1, (km _).mp (of_decide_eq_true h2)⟩
    · have z : ∀ v ∈ xs, -v ∉ xs := fun v h1 h2 => by
        have := List.any_eq_false.mp z v ((km v).mpr h1)
        exact this (decide_eq_true ((km _).mpr h2))
      refine run_cons (runS_ret (ev_tupL iTup.out (evL_sortedAbs (i := 1) (ks := keysI xs) q nT iSrt iAbs rfl).q) (fin _ (.inr ⟨z, _, rfl, ?_, fun v => ?_⟩)))
      · refine (List.pairwise_iff_getElem.mpr ?_)
        intro i j hi hj hij
        have ho := (List.pairwise_iff_getElem.mp (srtA_ord (keysI xs))) i j hi hj hij
        have hne : (srtA (keysI xs))[i] ≠ (srtA (keysI xs))[j] := (List.pairwise_iff_getElem.mp ((srtA_perm (keysI xs)).nodup_iff.mpr (keysI_nd xs))) i j hi hj hij
        have m1 := (km _).mp ((srtA_perm (keysI xs)).mem_iff.mp (List.getElem_mem hi))
        have m2 := (km _).mp ((srtA_perm (keysI xs)).mem_iff.mp (List.getElem_mem hj))
        have := z _ m1
        generalize (srtA (keysI xs))[i] = p at *
        generalize (srtA (keysI xs))[j] = r at *
        unfold szI at ho
        have n2 : r ≠ -p := fun e => this (e ▸ m2)
        split at ho <;> split at ho <;> omega
      · exact (srtA_perm (keysI xs)).mem_iff.trans (km v)
theorem av_clause_of {P : Program} {w : World} {K : PySem.W.Frag} {mg : Str → Option Value} {base : Heap} {CF : Addr} (T : Txt K mg) (a_is_sequence : Av P w K mg base CF 1 "is_sequence" Z_is_sequence) (a_is_whole : Av P w K mg base CF 1 "is_whole" Z_is_whole) : Av P w K mg base CF 3 "clause_of" (Z_clause_of mg) := by
  refine T.d_clause_of.av fun f fd F => fn_ok F sc_clause_of rfl fun G ds hP hw hK hmg hb hCF c hl pre hex => ?_
  subst hmg hP hw hK hb hCF
  haveI := c.i
  haveI := c.pp
  haveI := c.tt
  haveI : NmI G.X "literals" 0 := c.nmi rfl vs_clause_of
  haveI : NmI G.X "there" 1 := c.nmi rfl vs_clause_of
  haveI : NsI G.X "there" 1 := c.nsi rfl ls_clause_of
  haveI : BiI G.X "all" (.builtin "all") := c.bii gs_clause_of T.b_all
  haveI : BiI G.X "any" (.builtin "any") := c.bii gs_clause_of T.b_any
  haveI : BiI G.X "tuple" (.type "tuple") := c.bii gs_clause_of T.b_tuple
  haveI : BiI G.X "sorted" (.builtin "sorted") := c.bii gs_clause_of T.b_sorted
  haveI : BiI G.X "abs" (.builtin "abs") := c.bii gs_clause_of T.b_abs
  haveI : CalI G "is_sequence" Z_is_sequence := c.cal gs_clause_of a_is_sequence (by decide)
  haveI := T.x_InvalidLiterals.xc c.toCb (by decide +kernel) (by decide) sc_InvalidLiterals_init rfl vs_InvalidLiterals_init (fun _ => rfl)
  haveI : XfI G (clsA G.X.mg "InvalidLiterals") "value" := ⟨T.x_InvalidLiterals.xf, T.x_InvalidLiterals.F, T.x_InvalidLiterals.me⟩
  first | with_reducible exact body_clause_of c a_is_whole hl pre hex | exact body_clause_of c a_is_whole hl pre hex

end K02
end CL

set_option Elab.async false
set_option synthInstance.maxSize 100000
set_option linter.all false
set_option maxRecDepth 100000
set_option maxHeartbeats 4000000

namespace CL
open PySem L2
/-! ### short words -/
local macro_rules | `(tactic| walk_at "side") => `(tactic| first
  | (with_reducible assumption)
  | omega
  | (refine Or.inr ⟨?_, ?_⟩ <;> omega)
  | (refine Or.inl ⟨?_, ?_⟩ <;> omega)
  | (refine ⟨?_, ?_⟩ <;> omega)
  | decide
  | (exact atI_isSome (by omega) (by simp only [List.length_cons, List.length_nil, List.length_map]; omega))
  | (simp only [List.length_cons, List.length_nil]; decide)
  | (simp only [List.length_append, List.length_cons, List.length_nil, List.length_map] at *; omega)
  | (refine ⟨?_, ?_, ?_⟩ <;> first | omega | decide))
local macro_rules | `(tactic| walk_at "rf") => `(tactic| first
  | ((with_reducible show starEach _ _ = _); rfl)
  | ((with_reducible show List.any _ _ = _); rfl)
  | ((with_reducible show behindInMarks _ _ = _); with_unfolding_all rfl)
  | ((with_reducible show lastMarks _ _ = _); with_unfolding_all rfl)
  | ((with_reducible show attributeBase _ _ _ _ = _); rfl)
  | ((with_reducible show PlainIx _); exact fun _ _ => rfl)
  | ((with_reducible show D.notFrm _ = _); rfl)
  | ((with_reducible show D.truOk _); exact trivial))
/-- what must be shown for an expression -/
local macro_rules | `(tactic| walk_at "sd") => `(tactic| ((repeat' first | exact trivial | (with_reducible apply And.intro) | (walk_at "rf") | (exact fun h => Bool.noConfusion (show true = false from h)) | (exact fun h => Bool.noConfusion (show false = true from h)) | (with_reducible intro _)); (all_goals try (walk_at "side"))))
/-- a statement, then what follows -/
local macro_rules | `(tactic| walk_at "set") => `(tactic| (refine go_set (by walk_at "sd") ?_))
local macro_rules | `(tactic| walk_at "setL") => `(tactic| (refine go_setL (by walk_at "sd") ?_))
local macro_rules | `(tactic| walk_at "ret") => `(tactic| (refine go_ret (by walk_at "sd") ?_))
local macro_rules | `(tactic| walk_at "app") => `(tactic| (refine go_append (by walk_at "sd") ?_ ?_))
local macro_rules | `(tactic| walk_at "if") => `(tactic| (refine go_if (by walk_at "sd") ?_ ?_))

noncomputable def toldD (x : D) : D := if goodLits x = true then .tup [.str "value", clD x.ints] else .tup [.str "literals", x]
namespace K02
noncomputable abbrev Z_law_told : Spec := Z1 (fun x => x.pure = true ∧ x.items.length ≤ 1000 ∧ ∀ ns, x ≠ .scr ns) toldD
theorem body_law_told {G : Gx} {ds : List D} (c : Ctx G N_law_told (defScope s_law_told) 3) (hl : ds.length = Z_law_told.n) (pre : Z_law_told.pre ds) (hex : ∀ S C fs, Z_law_told.post ds (.exc C fs) → G.ex S C fs) [CtxI G] [PasI G] [TkI G] [NmI G.X "numbers" 0] [NmI G.X "literals_error" 1] [NsI G.X "literals_error" 1] [CalI G "clause_of" (Z_clause_of G.X.mg)] [XcI G "InvalidLiterals" (clsA G.X.mg "InvalidLiterals") "value"] [XfI G (clsA G.X.mg "InvalidLiterals") "value"] [TrI G] : Run G (ds.map Sd.dat ++ List.replicate (N_law_told.length - Z_law_told.n) Sd.non) (defBody s_law_told) { nx := fun _ => Z_law_told.post ds (.ret .non), rt := Z_law_told.post ds } := by
  obtain ⟨x, rfl, hx, hxl, hns⟩ := pre
  show Run G [.dat x, .non] _ _
  have T : TrI G := inferInstance
  have fin : ∀ d, d = toldD x → Z_law_told.post [x] (.ret d) := fun d h => ⟨x, rfl, by rw [h]⟩
  refine go_tryAs T (by show G.X.env.scope.names.lookup _ = _; rw [c.hsc]; decide +kernel) (fun S C fs => S = [.dat x, .non] ∧ C = clsA G.X.mg "InvalidLiterals" ∧ fs = [(("value" : Str), x)] ∧ goodLits x = false) (fun pn xe W tk pp => ?_) (fun S C fs ⟨e1, e2, e3, e4⟩ => .inl ?_)
  · haveI := tk
    haveI := pp
    have cal : CalI (G.trG pn xe W fun S C fs => S = [.dat x, .non] ∧ C = clsA G.X.mg "InvalidLiterals" ∧ fs = [(("value" : Str), x)] ∧ goodLits x = false) "clause_of" (Z_clause_of G.X.mg) := inferInstance
    refine run_cons (runS_retC (evC_tup2 (x := .str "value") ev_str (evC_I (Z := Z_clause_of G.X.mg) (ds := [x]) (EvRA.out (by walk_at "sd")) rfl ⟨x, rfl, hx, hxl, hns⟩ rfl rfl) ?_ rfl rfl) ?_ ?_ ?_ tk.wish)
    · rintro ds ⟨x', e, ⟨xs, d, _, _, z, _⟩ | ⟨_, z⟩⟩ <;> cases z
    · rintro d (⟨d', ⟨x', e, ⟨xs, d2, h1, h2, z, h3⟩ | ⟨_, z⟩⟩, e2⟩ | ⟨C, fs, _, z⟩)
      · cases e
        cases z
        cases e2
        refine fin _ ?_
        have good : goodLits x = true ∧ x.ints = xs := by
          rcases h1 with rfl | rfl
          · exact ⟨by unfold goodLits; rw [show (D.tup (xs.map .int)).items = xs.map .int from rfl, okLits_of h2]; rfl, ints_tup xs⟩
          · exact ⟨by unfold goodLits; rw [show (D.lst (xs.map .int)).items = xs.map .int from rfl, okLits_of h2]; rfl, ints_lst xs⟩
        unfold toldD
        rw [if_pos good.1, good.2, isCl_eq h3]
      · cases z
      · cases z
    · rintro ds (⟨d', _, e2⟩ | ⟨C, fs, _, z⟩)
      · cases e2
      · cases z
    · rintro C fs (⟨d', _, e2⟩ | ⟨C', fs', ⟨x', e, ⟨xs, d, _, _, z, _⟩ | ⟨h, z⟩⟩, e2⟩)
      · cases e2
      · cases z
      · cases e
        cases z
        cases e2
        exact ⟨rfl, rfl, rfl, h⟩
  · subst e1 e2 e3
    have XF : XfI G (clsA G.X.mg "InvalidLiterals") "value" := inferInstance
    refine ⟨XF.me, fun a oe dd pn z => ?_⟩
    haveI := z
    dsimp only [List.set]
    refine go_ret (by walk_at "sd") (fin _ ?_)
    unfold toldD
    rw [e4]; rfl
theorem av_law_told {P : Program} {w : World} {K : PySem.W.Frag} {mg : Str → Option Value} {base : Heap} {CF : Addr} (T : Txt K mg) (a_clause_of : Av P w K mg base CF 3 "clause_of" (Z_clause_of mg)) : Av P w K mg base CF 4 "_law_told" Z_law_told := by
  refine T.d_law_told.av fun f fd F => fn_ok F sc_law_told rfl fun G ds hP hw hK hmg hb hCF c hl pre hex => ?_
  subst hmg hP hw hK hb hCF
  haveI := c.i
  haveI := c.pp
  haveI := c.tt
  haveI : NmI G.X "numbers" 0 := c.nmi rfl vs_law_told
  haveI : NmI G.X "literals_error" 1 := c.nmi rfl vs_law_told
  haveI : NsI G.X "literals_error" 1 := c.nsi rfl ls_law_told
  haveI : CalI G "clause_of" (Z_clause_of G.X.mg) := c.cal gs_law_told a_clause_of (by decide)
  haveI := T.x_InvalidLiterals.xc c.toCb (by decide +kernel) (by decide) sc_InvalidLiterals_init rfl vs_InvalidLiterals_init (fun _ => rfl)
  haveI : XfI G (clsA G.X.mg "InvalidLiterals") "value" := ⟨T.x_InvalidLiterals.xf, T.x_InvalidLiterals.F, T.x_InvalidLiterals.me⟩
  haveI : TrI G := ⟨c.hs, c.hf⟩
  first | with_reducible exact body_law_told c hl pre hex | exact body_law_told c hl pre hex

end K02
theorem ok_refl {x : D} (h : x.ok = true) : x.eqv x = true := SeqAt.eqv_refl _ (SeqAt.canLay_of_shaped (D.ok2 h))
mutual
theorem same_refl : ∀ {k : Nat} {x : D}, x.deep k = true → D.same x x = true
  | 0, x, h => by unfold D.deep at h; cases h
  | k + 1, .non, _ => by simp [D.same, D.isNon]
  | k + 1, .bl b, _ => by simp [D.same]
  | k + 1, .int i, _ => by simp [D.same]
  | k + 1, .str i, _ => by simp [D.same]
  | k + 1, .tup ds, h => by
    unfold D.deep at h
    rw [Bool.and_eq_true, List.all_eq_true] at h
    simp only [D.same]
    exact sames_refl h.2
  | k + 1, .lst ds, h => by unfold D.deep at h; cases h
  | k + 1, .frm _ _, h => by unfold D.deep at h; cases h
  | k + 1, .scr _, h => by unfold D.deep at h; cases h
theorem sames_refl : ∀ {k : Nat} {ds : List D}, (∀ d ∈ ds, d.deep k = true) → D.sames ds ds = true
  | k, [], _ => by simp [D.sames]
  | k, d :: ds, h => by
    simp only [D.sames]
    rw [same_refl (h d List.mem_cons_self), sames_refl fun e he => h e (List.mem_cons_of_mem _ he)]; rfl
end
namespace K02
abbrev Z_law_refused : Spec := Z1 (fun x => x.pure = true ∧ x.items.length ≤ 1000 ∧ (∀ ns, x ≠ .scr ns) ∧ goodLits x = false ∧ ((∃ ds, x = .lst ds ∧ x.ok = true) ∨ x.deep 2 = true)) (fun _ => .bl true)
theorem body_law_refused {G : Gx} {ds : List D} (hl : ds.length = Z_law_refused.n) (pre : Z_law_refused.pre ds) [CtxI G] [PasI G] [TkI G] [NmI G.X "value" 0] [NmI G.X "told" 1] [NsI G.X "told" 1] [BiI G.X "isinstance" (.builtin "isinstance")] [BiI G.X "list" (.type "list")] [CalI G "_law_told" Z_law_told] [CalI G "_law_equal" Z_law_equal] : Run G (ds.map Sd.dat ++ List.replicate (N_law_refused.length - Z_law_refused.n) Sd.non) (defBody s_law_refused) { nx := fun _ => Z_law_refused.post ds (.ret .non), rt := Z_law_refused.post ds } := by
  obtain ⟨x, rfl, hx, hxl, hns, hg, hd⟩ := pre
  show Run G [.dat x, .non] _ _
  have hf := notFrm_of hx
  have told : toldD x = .tup [.str "literals", x] := by unfold toldD; rw [hg]; rfl
  refine go_set ⟨by walk_at "sd", ⟨hx, hxl, hns⟩, rfl⟩ ?_
  rw [told]
  have fin : ∀ b, b = true → Z_law_refused.post [x] (.ret (.bl b)) := fun b h => ⟨x, rfl, by rw [h]⟩
  refine go_if (by walk_at "sd") (fun z => ?_) (fun z => go_nil ?_)
  · obtain ⟨ds, rfl, ok⟩ : ∃ ds, x = .lst ds ∧ x.ok = true := by
      rcases hd with h | h
      · exact h
      · cases x <;> first | (unfold D.deep at h; cases h; done) | (simp [D.isA] at z)
    refine go_ret (by walk_at "sd") (fin _ ?_)
    rw [ok_refl ok]
    simp
  · have hd : x.deep 2 = true := by
      rcases hd with ⟨ds, rfl, _⟩ | h
      · simp [D.isA] at z
      · exact h
    have p2 : (D.tup [.str "literals", x]).pure = true := pure_tup fun d h => by
      rcases List.mem_cons.mp h with e | h
      · rw [e]; simp [D.pure]
      · rw [List.mem_singleton.mp h]; exact hx
    have d3 : (D.tup [.str "literals", x]).deep 3 = true := by
      unfold D.deep
      rw [Bool.and_eq_true, List.all_eq_true]
      refine ⟨by simp, fun d h => ?_⟩
      rcases List.mem_cons.mp h with e | h
      · rw [e]; simp [D.deep]
      · rw [List.mem_singleton.mp h]; exact hd
    refine go_ret (by walk_at "sd") (fin _ ?_)
    exact same_refl d3
theorem av_law_refused {P : Program} {w : World} {K : PySem.W.Frag} {mg : Str → Option Value} {base : Heap} {CF : Addr} (T : Txt K mg) (a_law_told : Av P w K mg base CF 4 "_law_told" Z_law_told) (a_law_equal : Av P w K mg base CF 4 "_law_equal" Z_law_equal) : Av P w K mg base CF 5 "_law_refused" Z_law_refused := by
  refine T.d_law_refused.av fun f fd F => fn_ok F sc_law_refused rfl fun G ds hP hw hK hmg hb hCF c hl pre hex => ?_
  subst hmg hP hw hK hb hCF
  haveI := c.i
  haveI := c.pp
  haveI := c.tt
  haveI : NmI G.X "value" 0 := c.nmi rfl vs_law_refused
  haveI : NmI G.X "told" 1 := c.nmi rfl vs_law_refused
  haveI : NsI G.X "told" 1 := c.nsi rfl ls_law_refused
  haveI : BiI G.X "isinstance" (.builtin "isinstance") := c.bii gs_law_refused T.b_isinstance
  haveI : BiI G.X "list" (.type "list") := c.bii gs_law_refused T.b_list
  haveI : CalI G "_law_told" Z_law_told := c.cal gs_law_refused a_law_told (by decide)
  haveI : CalI G "_law_equal" Z_law_equal := c.cal gs_law_refused a_law_equal (by decide)
  first | with_reducible exact body_law_refused hl pre | exact body_law_refused hl pre

end K02
end CL

set_option Elab.async false
set_option synthInstance.maxSize 100000
set_option linter.all false
set_option maxRecDepth 100000
set_option maxHeartbeats 4000000

namespace CL
open PySem L2 K02
/-! ### short words -/
local macro_rules | `(tactic| walk_at "side") => `(tactic| first
  | (with_reducible assumption)
  | omega
  | (refine Or.inr ⟨?_, ?_⟩ <;> omega)
  | (refine Or.inl ⟨?_, ?_⟩ <;> omega)
  | (refine ⟨?_, ?_⟩ <;> omega)
  | decide
  | (exact atI_isSome (by omega) (by simp only [List.length_cons, List.length_nil, List.length_map]; omega))
  | (simp only [List.length_cons, List.length_nil]; decide)
  | (simp only [List.length_append, List.length_cons, List.length_nil, List.length_map] at *; omega)
  | (refine ⟨?_, ?_, ?_⟩ <;> first | omega | decide))
local macro_rules | `(tactic| walk_at "rf") => `(tactic| first
  | ((with_reducible show starEach _ _ = _); rfl)
  | ((with_reducible show List.any _ _ = _); rfl)
  | ((with_reducible show behindInMarks _ _ = _); with_unfolding_all rfl)
  | ((with_reducible show lastMarks _ _ = _); with_unfolding_all rfl)
  | ((with_reducible show attributeBase _ _ _ _ = _); rfl)
  | ((with_reducible show PlainIx _); exact fun _ _ => rfl)
  | ((with_reducible show D.notFrm _ = _); rfl)
  | ((with_reducible show D.truOk _); exact trivial))
/-- what must be shown for an expression -/
local macro_rules | `(tactic| walk_at "sd") => `(tactic| ((repeat' first | exact trivial | (with_reducible apply And.intro) | (walk_at "rf") | (exact fun h => Bool.noConfusion (show true = false from h)) | (exact fun h => Bool.noConfusion (show false = true from h)) | (with_reducible intro _)); (all_goals try (walk_at "side"))))
/-- a statement, then what follows -/
local macro_rules | `(tactic| walk_at "set") => `(tactic| (refine go_set (by walk_at "sd") ?_))
local macro_rules | `(tactic| walk_at "setL") => `(tactic| (refine go_setL (by walk_at "sd") ?_))
local macro_rules | `(tactic| walk_at "ret") => `(tactic| (refine go_ret (by walk_at "sd") ?_))
local macro_rules | `(tactic| walk_at "app") => `(tactic| (refine go_append (by walk_at "sd") ?_ ?_))
local macro_rules | `(tactic| walk_at "if") => `(tactic| (refine go_if (by walk_at "sd") ?_ ?_))

local macro_rules | `(tactic| walk_at "fx") => `(tactic| first | assumption | rfl | exact ⟨_, rfl⟩ | (simp [D.pure, D.deep]; done) | (intro ns h; cases h; done))
theorem EvX.mono {G : Gx} {S : List Sd} {e : Expr} {R R' : D → Prop} (h : EvX G S e R) (m : ∀ d, R d → R' d) : EvX G S e R' := fun σ H s Q q => h σ H s Q fun d v H' z ex r => q d v H' (m d z) ex r
theorem cut_map {xs : List Int} {i j : Option Int} : cutL (xs.map D.int) i j = (cutL xs i j).map D.int := by
  unfold cutL
  rw [List.length_map, ← List.map_drop, ← List.map_take]
theorem asc_srtA {xs : List Int} (h : ∀ v ∈ xs, -v ∉ xs) : (srtA (keysI xs)).Pairwise (fun a b => a.natAbs < b.natAbs) := by
  have km := keysI_mem xs
  refine (List.pairwise_iff_getElem.mpr ?_)
  intro i j hi hj hij
  have ho := (List.pairwise_iff_getElem.mp (srtA_ord (keysI xs))) i j hi hj hij
  have hne : (srtA (keysI xs))[i] ≠ (srtA (keysI xs))[j] := (List.pairwise_iff_getElem.mp ((srtA_perm (keysI xs)).nodup_iff.mpr (keysI_nd xs))) i j hi hj hij
  have m1 := (km _).mp ((srtA_perm (keysI xs)).mem_iff.mp (List.getElem_mem hi))
  have m2 := (km _).mp ((srtA_perm (keysI xs)).mem_iff.mp (List.getElem_mem hj))
  have := h _ m1
  generalize (srtA (keysI xs))[i] = p at *
  generalize (srtA (keysI xs))[j] = r at *
  unfold szI at ho
  have n2 : r ≠ -p := fun e => this (e ▸ m2)
  split at ho <;> split at ho <;> omega
theorem clD_is (xs : List Int) : clD xs = .non ∨ ∃ zs : List Int, clD xs = .tup (zs.map .int) ∧ zs.length ≤ xs.length := by
  by_cases h : ∃ v ∈ xs, -v ∈ xs
  · exact .inl (isCl_eq (.inl ⟨h, rfl⟩)).symm
  · have h' : ∀ v ∈ xs, -v ∉ xs := fun v h1 h2 => h ⟨v, h1, h2⟩
    refine .inr ⟨_, (isCl_eq (.inr ⟨h', _, rfl, asc_srtA h', fun v => (srtA_perm (keysI xs)).mem_iff.trans (keysI_mem xs v)⟩)).symm, ?_⟩
    rw [(srtA_perm (keysI xs)).length_eq]
    exact keysI_len xs
theorem clD_pure (xs : List Int) : (clD xs).pure = true := by
  rcases clD_is xs with e | ⟨zs, e, _⟩ <;> rw [e]
  · simp [D.pure]
  · exact pure_tup pure_int
theorem deep_ints {k : Nat} {zs : List Int} (h : zs.length ≤ 100000) : (D.tup (zs.map .int)).deep (k + 2) = true := by
  unfold D.deep
  rw [Bool.and_eq_true, List.all_eq_true, List.length_map]
  refine ⟨decide_eq_true h, fun d hd => ?_⟩
  obtain ⟨i, _, rfl⟩ := List.mem_map.mp hd
  simp [D.deep]
theorem clD_deep {xs : List Int} (h : xs.length ≤ 1000) : (clD xs).deep 2 = true := by
  rcases clD_is xs with e | ⟨zs, e, l⟩ <;> rw [e]
  · simp [D.deep]
  · exact deep_ints (by omega)
theorem told_good {x : D} {xs : List Int} (hx : x = .tup (xs.map .int) ∨ x = .lst (xs.map .int)) (h : ∀ v ∈ xs, v ≠ 0) : toldD x = .tup [.str "value", clD xs] := by
  have good : goodLits x = true ∧ x.ints = xs := by
    rcases hx with rfl | rfl
    · exact ⟨by unfold goodLits; rw [show (D.tup (xs.map .int)).items = xs.map .int from rfl, okLits_of h]; rfl, ints_tup xs⟩
    · exact ⟨by unfold goodLits; rw [show (D.lst (xs.map .int)).items = xs.map .int from rfl, okLits_of h]; rfl, ints_lst xs⟩
  unfold toldD
  rw [if_pos good.1, good.2]
theorem pair_pure {x y : D} (hx : x.pure = true) (hy : y.pure = true) : (D.tup [x, y]).pure = true := pure_tup fun d h => by
  rcases List.mem_cons.mp h with e | h
  · rw [e]; exact hx
  · rw [List.mem_singleton.mp h]; exact hy
theorem pair_deep {k : Nat} {x y : D} (hx : x.deep k = true) (hy : y.deep k = true) : (D.tup [x, y]).deep (k + 1) = true := by
  unfold D.deep
  rw [Bool.and_eq_true, List.all_eq_true]
  refine ⟨by simp, fun d h => ?_⟩
  rcases List.mem_cons.mp h with e | h
  · rw [e]; exact hx
  · rw [List.mem_singleton.mp h]; exact hy
/-- a thing of no parts -/
def D.smp : D → Bool
  | .non => true
  | .bl _ => true
  | .int _ => true
  | .str x => PyData.strOk x
  | _ => false
theorem smp_pys : ∀ {ds : List D}, (∀ d ∈ ds, d.smp = true) → PyData.canLayAll0 (D.pys ds) = true ∧ PyData.depthAll (D.pys ds) = 0
  | [], _ => by simp [D.pys, PyData.canLayAll0, PyData.depthAll]
  | d :: ds, h => by
    obtain ⟨h1, h2⟩ := smp_pys fun e he => h e (List.mem_cons_of_mem _ he)
    have hd := h d List.mem_cons_self
    unfold D.pys PyData.canLayAll0 PyData.depthAll
    rw [h1, h2]
    cases d <;> simp [D.smp, D.py, PyData.canLay0, PyData.depth] at hd ⊢
    exact hd
theorem smp_pure {d : D} (h : d.smp = true) : d.pure = true := by cases d <;> simp [D.smp, D.pure] at h ⊢
theorem smp_deep {d : D} {k : Nat} (h : d.smp = true) : d.deep (k + 1) = true := by cases d <;> simp [D.smp, D.deep] at h ⊢
theorem smp_ok {ds : List D} (h : ∀ d ∈ ds, d.smp = true) : (D.lst ds).ok = true := by
  obtain ⟨h1, h2⟩ := smp_pys h
  unfold D.ok
  rw [pure_lst fun d hd => smp_pure (h d hd)]
  unfold SeqAt.shaped D.py PyData.canLay0 PyData.depth
  rw [h1, h2]; rfl
theorem smp_int {xs : List Int} : ∀ d ∈ xs.map D.int, d.smp = true := fun d h => by
  obtain ⟨i, _, rfl⟩ := List.mem_map.mp h
  rfl
theorem bad_list {ds : List D} {x : D} (h : x ∈ ds) (hx : okLit x = false) : ds.all okLit = false := by
  cases e : ds.all okLit with
  | false => rfl
  | true => rw [List.all_eq_true] at e; rw [e x h] at hx; cases hx
theorem agree_eq (us vs : List Int) : (us.all fun i => vs.contains i) = decide ((((us.filter fun v => !vs.contains v).map D.int).length : Int) = 0) := by
  rw [List.length_map, Bool.eq_iff_iff, decide_eq_true_eq, List.all_eq_true]
  constructor
  · intro h
    have : (us.filter fun v => !vs.contains v) = [] := List.filter_eq_nil_iff.mpr fun v hv => by rw [h v hv]; simp
    rw [this]; rfl
  · intro h v hv
    have : (us.filter fun v => !vs.contains v) = [] := List.length_eq_zero_iff.mp (by omega)
    have := List.filter_eq_nil_iff.mp this v hv
    simpa using this
namespace K02
def Z_law : Spec := Z1 (fun x => ∃ ns : List Int, x = .scr ns ∧ ns.length ≤ 63) (fun _ => .bl true)
theorem body_law {G : Gx} {ds : List D} (c : Ctx G N_law (defScope s_law) 5) (hl : ds.length = Z_law.n) (pre : Z_law.pre ds) [CtxI G] [PasI G] [TkI G] [NmI G.X "script" 0] [NmI G.X "drawn" 1] [NmI G.X "n" 2] [NmI G.X "row" 3] [NmI G.X "value" 4] [NmI G.X "size" 5] [NmI G.X "numbers" 6] [NmI G.X "handed" 7] [NmI G.X "at" 8] [NmI G.X "bad" 9] [NmI G.X "told" 10] [NmI G.X "other" 11] [NmI G.X "pair" 12] [NmI G.X "due" 13] [NsI G.X "drawn" 1] [NsI G.X "n" 2] [NsI G.X "row" 3] [NsI G.X "value" 4] [NsI G.X "size" 5] [NsI G.X "numbers" 6] [NsI G.X "handed" 7] [NsI G.X "at" 8] [NsI G.X "bad" 9] [NsI G.X "told" 10] [NsI G.X "other" 11] [NsI G.X "pair" 12] [NsI G.X "due" 13] [BiI G.X "list" (.type "list")] [BiI G.X "tuple" (.type "tuple")] [BiI G.X "int" (.type "int")] [BiI G.X "len" (.builtin "len")] [CalI G "_law_draws" Z_law_draws] [CalI G "_law_row" Z_law_row] [CalI G "_law_changed" Z_law_changed] [CalI G "_law_equal" Z_law_equal] [CalI G "is_clause" Z_is_clause] [CalI G "_law_is_clause" Z_law_is_clause] [CalI G "_law_numbers" Z_law_numbers] [CalI G "_law_told" Z_law_told] [CalI G "_law_clause_of" Z_law_clause_of] [CalI G "_law_refused" Z_law_refused] [CalI G "agrees" Z_agrees] [CalW G "is_clause" ["value", "n"] Z_is_clause] [CalW G "agrees" ["literals", "model"] Z_agrees] : Run G (ds.map Sd.dat ++ List.replicate (N_law.length - Z_law.n) Sd.non) (defBody s_law) { nx := fun _ => Z_law.post ds (.ret .non), rt := Z_law.post ds } := by
  obtain ⟨_, rfl, ns, rfl, hns⟩ := pre
  show Run G [.dat (.scr ns), .non, .non, .non, .non, .non, .non, .non, .non, .non, .non, .non, .non, .non, .non] _ _
  have fin : Z_law.post [.scr ns] (.ret (.bl true)) := ⟨_, rfl, rfl⟩
  have q : CtxI G := inferInstance
  have pp : PasI G := inferInstance
  have sL : (100000 : Nat) ≤ sizeLine := by decide
  refine go_draw (R := fun ds => ∃ xs : List Int, ds = xs.map .int ∧ Drawn xs [11, 11, 9, 4]) (by walk_at "sd") rfl (pre_draws [11, 11, 9, 4] hns (by omega) (by omega) (by decide) (by decide)) (by simp) post_draws ?_
  rintro _ ⟨ys, rfl, hd⟩
  obtain ⟨n, a, b, cc, rfl, hn, ha, hb, hc⟩ := drawn4 hd
  dsimp only [List.set, List.map]
  walk_at "set"
  refine go_call (Z := Z_law_row) (ds := [.scr ns, .int 1, .int n]) (by walk_at "sd") rfl ⟨ns, 1, n, rfl, hns, by omega, by omega, by omega, by omega⟩ (fun d z => ?_) (fun xs z => ?_) (fun C fs z => ?_)
  · obtain ⟨xs, z, hxl⟩ := z
    cases z
    dsimp only [List.set]
    have iCh : CalI G "_law_changed" Z_law_changed := inferInstance
    have tkI : TkI G := inferInstance
    have xp : ∀ i j, (D.tup (cutL (xs.map .int) i j)).pure = true := fun i j => pure_tup (pure_cut pure_int)
    refine run_cons (runS_forR (j := 4) (I := fun ds i S' => ∃ u w : Sd, S' = [.dat (.scr ns), .dat (.lst [.int n, .int a, .int b, .int cc]), .dat (.int n), .dat (.tup (xs.map .int)), u, w, .non, .non, .non, .non, .non, .non, .non, .non, .non]) (T := fun ds => ∀ d ∈ ds, d.pure = true) pp.pas q.calm NsI.out q.nd ?_ ?_ ?_ ?_)
    · have ch : ∀ k : Int, 0 ≤ k → k < 1000000 → Z_law_changed.pre [.scr ns, .int k, .tup (xs.map .int), .int n] := fun k h1 h2 => ⟨ns, xs, k, n, rfl, hns, h1, h2, hxl⟩
      have hR : ∀ ds o, Z_law_changed.post ds o → ∃ d, o = .ret d ∧ d.pure = true := fun ds o z => z
      refine EvX.mono (evX_list (evXA_cons (Ev.toX (EvR.out (by walk_at "sd"))) (evXA_cons (EvC.toX (evC_I (Z := Z_law_changed) (EvRA.out (by walk_at "sd")) rfl (ch 2 (by omega) (by omega)) rfl rfl) (hR _)) (evXA_cons (EvC.toX (evC_I (Z := Z_law_changed) (EvRA.out (by walk_at "sd")) rfl (ch 3 (by omega) (by omega)) rfl rfl) (hR _))
        (evXA_cons (Ev.toX (EvR.out (by walk_at "sd"))) (evXA_cons (Ev.toX (EvR.out (by walk_at "sd"))) evXA_nil rfl) rfl) rfl) rfl) rfl) ?_) ?_
      · rintro ds ⟨d1, _, rfl, _, d2, _, rfl, _, d3, _, rfl, _, d4, _, rfl, _, d5, _, rfl, _, rfl⟩
        simp only [List.length_cons, List.length_nil]
        decide
      · rintro d ⟨ds, rfl, d1, _, rfl, rfl, d2, _, rfl, h2, d3, _, rfl, h3, d4, _, rfl, rfl, d5, _, rfl, rfl, rfl⟩
        refine ⟨_, rfl, fun d h => ?_⟩
        simp only [List.mem_cons, List.not_mem_nil, or_false] at h
        rcases h with rfl | rfl | rfl | rfl | rfl
        · exact pure_tup pure_int
        · exact h2
        · exact h3
        · simp [D.pure, D.pures]
        · exact xp _ _
    · intro ds _
      exact ⟨_, _, rfl⟩
    · rintro ds hds g i d S' hd' ⟨u, w, rfl⟩
      dsimp only [List.set]
      have hp : d.pure = true := hds d (List.mem_of_getElem? hd')
      refine go_for D.int [n, a, n] (fun i S' => ∃ w : Sd, S' = [.dat (.scr ns), .dat (.lst [.int n, .int a, .int b, .int cc]), .dat (.int n), .dat (.tup (xs.map .int)), .dat d, w, .non, .non, .non, .non, .non, .non, .non, .non, .non]) (by walk_at "sd" <;> walk_at "fx") rfl ⟨_, rfl⟩ ?_ ?_
      · rintro g' i' sz S' _ ⟨w', rfl⟩
        dsimp only [List.set]
        refine go_if (by walk_at "sd" <;> walk_at "fx") (fun z => ?_) (fun _ => go_nil (go_nil ⟨_, rfl⟩))
        simp [D.same, D.toInt] at z
      · rintro S' ⟨w', rfl⟩
        exact go_nil ⟨_, _, rfl⟩
    · rintro ds hds S' ⟨u, w, rfl⟩
      clear hds ds
      refine go_draw (Z := Z_law_numbers) (R := fun ds => ∃ zs : List Int, ds = zs.map .int ∧ zs.length ≤ 8 ∧ ∀ z ∈ zs, z ≠ 0) (by walk_at "sd") rfl ⟨ns, 4, rfl, hns, by omega, by omega⟩ (by simp) (fun o z => ?_) ?_
      · obtain ⟨zs, e, h1, h2⟩ := z
        exact ⟨_, e, zs, rfl, h1, h2⟩
      rintro _ ⟨zs, rfl, hzl, hz0⟩
      dsimp only [List.set]
      walk_at "set"
      have ok : (D.lst (zs.map .int)).ok = true := smp_ok smp_int
      have okp : (D.lst (zs.map .int)).pure = true := pure_lst pure_int
      refine go_for id [.lst (zs.map .int), .tup (zs.map .int), .lst (zs.map .int)] (fun i S' => ∃ u w : Sd, S' = [.dat (.scr ns), .dat (.lst [.int n, .int a, .int b, .int cc]), .dat (.int n), .dat (.tup (xs.map .int)), u, w, .dat (.lst (zs.map .int)), .dat (.lst (zs.map .int)), .non, .non, .non, .non, .non, .non, .non]) (by walk_at "sd" <;> walk_at "fx") rfl ⟨_, _, rfl⟩ ?_ ?_
      · rintro g i d S' hd' ⟨u, w, rfl⟩
        dsimp only [List.set, id]
        have hdm : d = .tup (zs.map .int) ∨ d = .lst (zs.map .int) := by
          have := List.mem_of_getElem? hd'
          simp only [List.mem_cons, List.not_mem_nil, or_false] at this
          rcases this with h | h | h
          · exact .inr h
          · exact .inl h
          · exact .inr h
        have dp : d.pure = true := by rcases hdm with h | h <;> rw [h]; exact pure_tup pure_int; exact okp
        have di : d.items.length ≤ 1000 := by rcases hdm with h | h <;> rw [h] <;> simp [D.items] <;> omega
        have dn : ∀ ms, d ≠ .scr ms := by rintro ms rfl; rcases hdm with h | h <;> cases h
        have tp : (toldD d).pure = true := by rw [told_good hdm hz0]; exact pair_pure (by simp [D.pure]) (clD_pure zs)
        have cd : (D.tup [.str "value", clD (D.lst (zs.map .int)).ints]).deep 3 = true := by rw [ints_lst]; exact pair_deep (by simp [D.deep]) (clD_deep (by omega))
        have pc : ∃ xs : List Int, D.lst (zs.map .int) = .lst (xs.map .int) ∧ xs.length ≤ 1000 ∧ ∀ x ∈ xs, x ≠ 0 := ⟨zs, rfl, by omega, hz0⟩
        refine go_if (by walk_at "sd" <;> first | exact dn _ | walk_at "fx") (fun z => ?_) (fun _ => go_nil (go_nil ⟨_, _, rfl⟩))
        rw [told_good hdm hz0, ints_lst, same_refl (k := 3) (pair_deep (by simp [D.deep]) (clD_deep (by omega))), ok_refl ok] at z
        simp at z
      · rintro S' ⟨u, w, rfl⟩
        have lm : (zs.map D.int).length = zs.length := List.length_map ..
        walk_at "set"
        generalize hat : b % (1 + ((zs.map D.int).length : Int)) = at0
        have b1 : 0 ≤ at0 ∧ at0 ≤ (zs.length : Int) := by
          rw [← hat, lm]
          have := Int.emod_lt_of_pos b (show 0 < 1 + (zs.length : Int) by omega)
          exact ⟨Int.emod_nonneg _ (by omega), by omega⟩
        clear hat
        have c1 := len_cut (zs.map D.int) none (some at0)
        have c2 := len_cut (zs.map D.int) (some at0) none
        walk_at "set"
        generalize hx : (atI [D.int 0, .bl true, .non, .str "1"] cc).getD .non = x
        have hxs : x.smp = true ∧ okLit x = false := by
          rw [← hx, atI_pos (by omega) (by simp; omega)]
          obtain ⟨i, hi, rfl⟩ : ∃ i : Nat, i < 4 ∧ cc = i := ⟨cc.toNat, by omega, by omega⟩
          match i, hi with
          | 0, _ => exact ⟨rfl, rfl⟩
          | 1, _ => exact ⟨rfl, rfl⟩
          | 2, _ => exact ⟨rfl, rfl⟩
          | 3, _ => exact ⟨by show PyData.strOk ("1" : Str) = true; decide +kernel, rfl⟩
        generalize hB : cutL (zs.map D.int) none (some at0) ++ [x] ++ cutL (zs.map D.int) (some at0) none = B
        have hBx : x ∈ B := by rw [← hB]; simp
        have hBs : ∀ d ∈ B, d.smp = true := fun d h => by
          rw [← hB] at h
          rcases List.mem_append.mp h with h | h
          · rcases List.mem_append.mp h with h | h
            · exact smp_int d (mem_cut h)
            · rw [List.mem_singleton.mp h]; exact hxs.1
          · exact smp_int d (mem_cut h)
        have hBl : B.length ≤ 1000 := by rw [← hB]; simp only [List.length_append, List.length_cons, List.length_nil]; omega
        have hBg : B.all okLit = false := bad_list hBx hxs.2
        clear hB
        have rest : ∀ d ∈ [D.tup B, .lst B, .non, .int 5, .str "12"], Z_law_refused.pre [d] := by
          intro d h
          simp only [List.mem_cons, List.not_mem_nil, or_false] at h
          refine ⟨d, rfl, ?_⟩
          rcases h with rfl | rfl | rfl | rfl | rfl
          · refine ⟨pure_tup fun d hd => smp_pure (hBs d hd), hBl, (fun ms h => by cases h), by unfold goodLits; rw [show (D.tup B).items = B from rfl, hBg, Bool.and_false], .inr ?_⟩
            unfold D.deep
            rw [Bool.and_eq_true, List.all_eq_true]
            exact ⟨decide_eq_true (by omega), fun d hd => smp_deep (hBs d hd)⟩
          · exact ⟨pure_lst fun d hd => smp_pure (hBs d hd), hBl, (fun ms h => by cases h), by unfold goodLits; rw [show (D.lst B).items = B from rfl, hBg, Bool.and_false], .inl ⟨B, rfl, smp_ok hBs⟩⟩
          · exact ⟨by simp [D.pure], by simp [D.items], (fun ms h => by cases h), rfl, .inr (by simp [D.deep])⟩
          · exact ⟨by simp [D.pure], by simp [D.items], (fun ms h => by cases h), rfl, .inr (by simp [D.deep])⟩
          · exact ⟨by simp [D.pure], by simp [D.items], (fun ms h => by cases h), rfl, .inr (by simp [D.deep])⟩
        refine go_for id [D.tup B, .lst B, .non, .int 5, .str "12"] (fun i S' => ∃ u : Sd, S' = [.dat (.scr ns), .dat (.lst [.int n, .int a, .int b, .int cc]), .dat (.int n), .dat (.tup (xs.map .int)), u, w, .dat (.lst (zs.map .int)), .dat (.lst (zs.map .int)), .dat (.int at0), .dat (.lst B), .non, .non, .non, .non, .non]) (by walk_at "sd" <;> walk_at "fx") rfl ⟨_, rfl⟩ ?_ ?_
        · rintro g i d S' hd' ⟨u, rfl⟩
          dsimp only [List.set, id]
          obtain ⟨x', e, pr⟩ := rest d (List.mem_of_getElem? hd')
          cases e
          refine go_if ⟨⟨by walk_at "sd", pr, rfl⟩, trivial⟩ (fun z => ?_) (fun _ => go_nil (go_nil ⟨_, rfl⟩))
          simp at z
        · rintro S' ⟨u, rfl⟩
          have rest2 : ∀ d ∈ [D.tup [.lst [.int 1], .int 2], .tup [.int 2, .lst [.int 1]], .tup [.tup [.int 1], .int 2]], d.pure = true ∧ d.items.length ≤ 1000 ∧ (∀ ms, d ≠ .scr ms) ∧ goodLits d = false ∧ d.ok = true := by
            intro d h
            simp only [List.mem_cons, List.not_mem_nil, or_false] at h
            rcases h with rfl | rfl | rfl <;> exact ⟨by simp [D.pure, D.pures], by simp [D.items], (fun ms h => by cases h), rfl, by simp [D.ok, D.pure, D.pures, SeqAt.shaped, D.py, D.pys, PyData.canLay0, PyData.canLayAll0, PyData.depth, PyData.depthAll]⟩
          refine go_for id [D.tup [.lst [.int 1], .int 2], .tup [.int 2, .lst [.int 1]], .tup [.tup [.int 1], .int 2]] (fun i S' => ∃ u t : Sd, S' = [.dat (.scr ns), .dat (.lst [.int n, .int a, .int b, .int cc]), .dat (.int n), .dat (.tup (xs.map .int)), u, w, .dat (.lst (zs.map .int)), .dat (.lst (zs.map .int)), .dat (.int at0), .dat (.lst B), t, .non, .non, .non, .non]) (by walk_at "sd" <;> walk_at "fx") rfl ⟨_, _, rfl⟩ ?_ ?_
          · rintro g i d S' hd' ⟨u, t, rfl⟩
            dsimp only [List.set, id]
            obtain ⟨p1, p2, p3, p4, p5⟩ := rest2 d (List.mem_of_getElem? hd')
            have told : toldD d = .tup [.str "literals", d] := by unfold toldD; rw [p4]; rfl
            refine go_set ⟨by walk_at "sd", ⟨p1, p2, p3⟩, rfl⟩ ?_
            rw [told]
            refine go_if (by walk_at "sd" <;> walk_at "fx") (fun z => ?_) (fun _ => go_nil (go_nil ⟨_, _, rfl⟩))
            rw [ok_refl p5] at z
            simp at z
          · rintro S' ⟨u, t, rfl⟩
            refine go_call (Z := Z_law_row) (ds := [.scr ns, .int 5, .int n]) (by walk_at "sd") rfl ⟨ns, 5, n, rfl, hns, by omega, by omega, by omega, by omega⟩ (fun d z => ?_) (fun xs z => ?_) (fun C fs z => ?_)
            · obtain ⟨ys, z, hyl⟩ := z
              cases z
              dsimp only [List.set]
              have iLen : BiI G.X "len" (.builtin "len") := inferInstance
              refine go_for (fun p : List Int × List Int => D.tup [.tup (p.1.map .int), .tup (p.2.map .int)]) [(xs, ys), (ys, xs), (cutL xs (some 1) none, xs), (xs, xs), ([], ys), (cutL xs none (some 2), ys ++ cutL xs (some 2) none)]
                (fun i S' => ∃ p d l : Sd, p.mine = false ∧ l.mine = false ∧ S' = [.dat (.scr ns), .dat (.lst [.int n, .int a, .int b, .int cc]), .dat (.int n), .dat (.tup (xs.map .int)), u, w, .dat (.lst (zs.map .int)), .dat (.lst (zs.map .int)), .dat (.int at0), .dat (.lst B), t, .dat (.tup (ys.map .int)), p, d, l]) (by walk_at "sd" <;> (simp only [List.length_map]; have := len_cut (xs.map D.int) (some 2) none; rw [List.length_map] at this; omega)) ?_ ⟨.non, .non, .non, rfl, rfl, rfl⟩ ?_ ?_
              · simp only [List.map_cons, List.map_nil, cut_map, List.map_append]
              · rintro g i ⟨us, vs⟩ S' hd' ⟨p, d, l, hp, hl, rfl⟩
                dsimp only [List.set]
                have hul : us.length ≤ 1000 := by
                  have h := List.mem_of_getElem? hd'
                  have k1 := len_cut xs (some 1) none
                  have k2 := len_cut xs none (some 2)
                  simp only [List.mem_cons, List.not_mem_nil, or_false, Prod.mk.injEq] at h
                  rcases h with ⟨rfl, _⟩ | ⟨rfl, _⟩ | ⟨rfl, _⟩ | ⟨rfl, _⟩ | ⟨rfl, _⟩ | ⟨rfl, _⟩
                  · exact hxl
                  · exact hyl
                  · omega
                  · exact hxl
                  · simp
                  · omega
                have c' : Cb (G.with g) N_law (defScope s_law) _ := ⟨c.hN, c.nd, c.hsc, c.calm, c.room⟩
                refine run_cons (runS_set (G := G.with g) (d := .bl (decide ((((us.filter fun v => !vs.contains v).map D.int).length : Int) = 0))) (NsI.out (i := 13)) q.nd (ev_cmp (G := G.with g) (CtxI.hu4 G) (ev_lenQ (G := G.with g) iLen.out (EvL.q (evL_comp1 (G := G.with g) (j := 14) (k := false) us D.int D.int (fun v => !vs.contains v) ?_ ?_ ?_ ?_ ?_ c'.calm c'.ndX ?_ ?_)) rfl rfl) ev_int (.eqi _ _)) ?_)
                · intro t ht; cases ht; exact hl
                · omega
                · exact EvRQ.out (by walk_at "sd")
                · intro x _
                  refine blk_of c' fun B b => ?_
                  haveI := b.cb.i
                  haveI : NmI B.X "literal" 14 := b.cb.nmi (N' := ["literal"]) rfl (by decide +kernel)
                  haveI : NmI B.X "pair" 12 := b.cb.nmi (N' := ["pair"]) rfl (by decide +kernel)
                  dsimp only [List.set]
                  exact EvRT.out (by walk_at "sd")
                · intro x _ _
                  refine blk_of c' fun B b => ?_
                  haveI := b.cb.i
                  haveI : NmI B.X "literal" 14 := b.cb.nmi (N' := ["literal"]) rfl (by decide +kernel)
                  dsimp only [List.set]
                  exact EvR.out (by walk_at "sd")
                · rw [c'.hN, c'.hsc]
                  exact ⟨rfl, by decide +kernel, by decide +kernel, by decide +kernel, by decide +kernel⟩
                · exact blk_of c' fun B b => b.cb.nsl rfl (by decide +kernel)
                · dsimp only [List.set]
                  refine go_if (by walk_at "sd" <;> first | exact ⟨us, vs, rfl, rfl⟩ | exact pure_tup pure_int | walk_at "fx") (fun z => ?_) (fun _ => go_nil (go_nil ⟨_, _, _, rfl, hl, rfl⟩))
                  rw [ints_tup, ints_tup, agree_eq] at z
                  simp [D.same] at z
              · rintro S' ⟨p, d, l, _, _, rfl⟩
                exact go_ret (by walk_at "sd") fin
            · obtain ⟨xs, z, hxl⟩ := z
              cases z
            · obtain ⟨xs, z, hxl⟩ := z
              cases z
  · obtain ⟨xs, z, hxl⟩ := z
    cases z
  · obtain ⟨xs, z, hxl⟩ := z
    cases z
theorem av_law {P : Program} {w : World} {K : PySem.W.Frag} {mg : Str → Option Value} {base : Heap} {CF : Addr} (T : Txt K mg) (a_law_draws : Av P w K mg base CF 1 "_law_draws" Z_law_draws) (a_law_row : Av P w K mg base CF 2 "_law_row" Z_law_row) (a_law_changed : Av P w K mg base CF 2 "_law_changed" Z_law_changed) (a_law_equal : Av P w K mg base CF 4 "_law_equal" Z_law_equal) (a_is_clause : Av P w K mg base CF 3 "is_clause" Z_is_clause) (a_law_is_clause : Av P w K mg base CF 1 "_law_is_clause" Z_law_is_clause) (a_law_numbers : Av P w K mg base CF 2 "_law_numbers" Z_law_numbers) (a_law_told : Av P w K mg base CF 4 "_law_told" Z_law_told) (a_law_clause_of : Av P w K mg base CF 1 "_law_clause_of" Z_law_clause_of) (a_law_refused : Av P w K mg base CF 5 "_law_refused" Z_law_refused) (a_agrees : Av P w K mg base CF 1 "agrees" Z_agrees) (ak_is_clause : Avk P w K mg base CF 3 "is_clause" ["value", "n"] Z_is_clause) (ak_agrees : Avk P w K mg base CF 1 "agrees" ["literals", "model"] Z_agrees) : Av P w K mg base CF 6 "law" Z_law := by
  refine T.d_law.av fun f fd F => fn_ok F sc_law rfl fun G ds hP hw hK hmg hb hCF c hl pre hex => ?_
  subst hmg hP hw hK hb hCF
  haveI := c.i
  haveI := c.pp
  haveI := c.tt
  haveI : NmI G.X "script" 0 := c.nmi rfl vs_law
  haveI : NmI G.X "drawn" 1 := c.nmi rfl vs_law
  haveI : NmI G.X "n" 2 := c.nmi rfl vs_law
  haveI : NmI G.X "row" 3 := c.nmi rfl vs_law
  haveI : NmI G.X "value" 4 := c.nmi rfl vs_law
  haveI : NmI G.X "size" 5 := c.nmi rfl vs_law
  haveI : NmI G.X "numbers" 6 := c.nmi rfl vs_law
  haveI : NmI G.X "handed" 7 := c.nmi rfl vs_law
  haveI : NmI G.X "at" 8 := c.nmi rfl vs_law
  haveI : NmI G.X "bad" 9 := c.nmi rfl vs_law
  haveI : NmI G.X "told" 10 := c.nmi rfl vs_law
  haveI : NmI G.X "other" 11 := c.nmi rfl vs_law
  haveI : NmI G.X "pair" 12 := c.nmi rfl vs_law
  haveI : NmI G.X "due" 13 := c.nmi rfl vs_law
  haveI : NsI G.X "drawn" 1 := c.nsi rfl ls_law
  haveI : NsI G.X "n" 2 := c.nsi rfl ls_law
  haveI : NsI G.X "row" 3 := c.nsi rfl ls_law
  haveI : NsI G.X "value" 4 := c.nsi rfl ls_law
  haveI : NsI G.X "size" 5 := c.nsi rfl ls_law
  haveI : NsI G.X "numbers" 6 := c.nsi rfl ls_law
  haveI : NsI G.X "handed" 7 := c.nsi rfl ls_law
  haveI : NsI G.X "at" 8 := c.nsi rfl ls_law
  haveI : NsI G.X "bad" 9 := c.nsi rfl ls_law
  haveI : NsI G.X "told" 10 := c.nsi rfl ls_law
  haveI : NsI G.X "other" 11 := c.nsi rfl ls_law
  haveI : NsI G.X "pair" 12 := c.nsi rfl ls_law
  haveI : NsI G.X "due" 13 := c.nsi rfl ls_law
  haveI : BiI G.X "list" (.type "list") := c.bii gs_law T.b_list
  haveI : BiI G.X "tuple" (.type "tuple") := c.bii gs_law T.b_tuple
  haveI : BiI G.X "int" (.type "int") := c.bii gs_law T.b_int
  haveI : BiI G.X "len" (.builtin "len") := c.bii gs_law T.b_len
  haveI : CalI G "_law_draws" Z_law_draws := c.cal gs_law a_law_draws (by decide)
  haveI : CalI G "_law_row" Z_law_row := c.cal gs_law a_law_row (by decide)
  haveI : CalI G "_law_changed" Z_law_changed := c.cal gs_law a_law_changed (by decide)
  haveI : CalI G "_law_equal" Z_law_equal := c.cal gs_law a_law_equal (by decide)
  haveI : CalI G "is_clause" Z_is_clause := c.cal gs_law a_is_clause (by decide)
  haveI : CalI G "_law_is_clause" Z_law_is_clause := c.cal gs_law a_law_is_clause (by decide)
  haveI : CalI G "_law_numbers" Z_law_numbers := c.cal gs_law a_law_numbers (by decide)
  haveI : CalI G "_law_told" Z_law_told := c.cal gs_law a_law_told (by decide)
  haveI : CalI G "_law_clause_of" Z_law_clause_of := c.cal gs_law a_law_clause_of (by decide)
  haveI : CalI G "_law_refused" Z_law_refused := c.cal gs_law a_law_refused (by decide)
  haveI : CalI G "agrees" Z_agrees := c.cal gs_law a_agrees (by decide)
  haveI : CalW G "is_clause" ["value", "n"] Z_is_clause := c.calw gs_law ak_is_clause (by decide)
  haveI : CalW G "agrees" ["literals", "model"] Z_agrees := c.calw gs_law ak_agrees (by decide)
  first | with_reducible exact body_law c hl pre | exact body_law c hl pre

end K02
end CL

set_option Elab.async false
set_option synthInstance.maxSize 100000
set_option linter.all false
set_option maxRecDepth 100000
set_option maxHeartbeats 4000000

namespace CL
open PySem L2 K02
/-- an error of the class at S is what «except S» names -/
theorem exm_self {K : PySem.W.Frag} {S : Addr} (h1 : PySem.W.subIn K (.ref S) (.type "BaseException") = some true) (h2 : PySem.W.isClsIn K S = true) (h3 : PySem.W.typeIn K (.ref S) = some (.type "type")) (h4 : PySem.W.subIn K (.ref S) (.ref S) = some true) : PySem.W.exmOne K (.ref S) (.ref S) = some true := by
  have e1 : (PySem.W.subIn K (.ref S) (.type "BaseException") == some true) = true := by rw [h1]; rfl
  have e2 : ((PySem.W.clsIn K S).isSome && PySem.W.typeIn K (.ref S) == some (.type "type")) = true := by
    have h : (PySem.W.clsIn K S).isSome = true := h2
    rw [h, h3]; rfl
  show (if (PySem.W.subIn K (.ref S) (.type "BaseException") == some true) = true then (if ((PySem.W.clsIn K S).isSome && PySem.W.typeIn K (.ref S) == some (.type "type")) = true then PySem.W.subIn K (.ref S) (.ref S) else none) else none) = some true
  rw [if_pos e1, if_pos e2]
  exact h4
namespace K02
theorem av_is_clause {P : Program} {w : World} {K : PySem.W.Frag} {mg : Str → Option Value} {base : Heap} {CF : Addr} (T : Txt K mg) (a_is_row : Av P w K mg base CF 2 "is_row" Z_is_row) : Av P w K mg base CF 3 "is_clause" Z_is_clause := by
  refine T.d_is_clause.av fun f fd F => fn_ok F sc_is_clause rfl fun G ds hP hw hK hmg hb hCF c hl pre hex => ?_
  subst hmg hP hw hK hb hCF
  haveI := c.i
  haveI := c.pp
  haveI := c.tt
  haveI : NmI G.X "value" 0 := c.nmi rfl vs_is_clause
  haveI : NmI G.X "n" 1 := c.nmi rfl vs_is_clause
  haveI : BiI G.X "len" (.builtin "len") := c.bii gs_is_clause T.b_len
  haveI : BiI G.X "abs" (.builtin "abs") := c.bii gs_is_clause T.b_abs
  haveI : CalI G "is_row" Z_is_row := c.cal gs_is_clause a_is_row (by decide)
  first | with_reducible exact body_is_clause hl pre | exact body_is_clause hl pre
theorem avk_is_clause {P : Program} {w : World} {K : PySem.W.Frag} {mg : Str → Option Value} {base : Heap} {CF : Addr} (T : Txt K mg) (a_is_row : Av P w K mg base CF 2 "is_row" Z_is_row) : Avk P w K mg base CF 3 "is_clause" ["value", "n"] Z_is_clause := by
  refine T.d_is_clause.avk (fun _ _ _ _ _ _ us hl => match us, hl with | [_, _], _ => rfl) fun f fd F => fn_ok F sc_is_clause rfl fun G ds hP hw hK hmg hb hCF c hl pre hex => ?_
  subst hmg hP hw hK hb hCF
  haveI := c.i
  haveI := c.pp
  haveI := c.tt
  haveI : NmI G.X "value" 0 := c.nmi rfl vs_is_clause
  haveI : NmI G.X "n" 1 := c.nmi rfl vs_is_clause
  haveI : BiI G.X "len" (.builtin "len") := c.bii gs_is_clause T.b_len
  haveI : BiI G.X "abs" (.builtin "abs") := c.bii gs_is_clause T.b_abs
  haveI : CalI G "is_row" Z_is_row := c.cal gs_is_clause a_is_row (by decide)
  first | with_reducible exact body_is_clause hl pre | exact body_is_clause hl pre

theorem fo_law {P : Program} {w : World} {K : PySem.W.Frag} {mg : Str → Option Value} {base : Heap} {CF : Addr} (T : Txt K mg) (a_law_draws : Av P w K mg base CF 1 "_law_draws" Z_law_draws) (a_law_row : Av P w K mg base CF 2 "_law_row" Z_law_row) (a_law_changed : Av P w K mg base CF 2 "_law_changed" Z_law_changed) (a_law_equal : Av P w K mg base CF 4 "_law_equal" Z_law_equal) (a_is_clause : Av P w K mg base CF 3 "is_clause" Z_is_clause) (a_law_is_clause : Av P w K mg base CF 1 "_law_is_clause" Z_law_is_clause) (a_law_numbers : Av P w K mg base CF 2 "_law_numbers" Z_law_numbers) (a_law_told : Av P w K mg base CF 4 "_law_told" Z_law_told) (a_law_clause_of : Av P w K mg base CF 1 "_law_clause_of" Z_law_clause_of) (a_law_refused : Av P w K mg base CF 5 "_law_refused" Z_law_refused) (a_agrees : Av P w K mg base CF 1 "agrees" Z_agrees) (ak_is_clause : Avk P w K mg base CF 3 "is_clause" ["value", "n"] Z_is_clause) (ak_agrees : Avk P w K mg base CF 1 "agrees" ["literals", "model"] Z_agrees) : ∀ f fd, Fun K "law" "law" s_law f fd → FnOk P w K mg base (L2.CX P w) 6 f fd ["script"] (spOf K CF Z_law) := by
  refine fun f fd F => fn_ok F sc_law rfl fun G ds hP hw hK hmg hb hCF c hl pre hex => ?_
  subst hmg hP hw hK hb hCF
  haveI := c.i
  haveI := c.pp
  haveI := c.tt
  haveI : NmI G.X "script" 0 := c.nmi rfl vs_law
  haveI : NmI G.X "drawn" 1 := c.nmi rfl vs_law
  haveI : NmI G.X "n" 2 := c.nmi rfl vs_law
  haveI : NmI G.X "row" 3 := c.nmi rfl vs_law
  haveI : NmI G.X "value" 4 := c.nmi rfl vs_law
  haveI : NmI G.X "size" 5 := c.nmi rfl vs_law
  haveI : NmI G.X "numbers" 6 := c.nmi rfl vs_law
  haveI : NmI G.X "handed" 7 := c.nmi rfl vs_law
  haveI : NmI G.X "at" 8 := c.nmi rfl vs_law
  haveI : NmI G.X "bad" 9 := c.nmi rfl vs_law
  haveI : NmI G.X "told" 10 := c.nmi rfl vs_law
  haveI : NmI G.X "other" 11 := c.nmi rfl vs_law
  haveI : NmI G.X "pair" 12 := c.nmi rfl vs_law
  haveI : NmI G.X "due" 13 := c.nmi rfl vs_law
  haveI : NsI G.X "drawn" 1 := c.nsi rfl ls_law
  haveI : NsI G.X "n" 2 := c.nsi rfl ls_law
  haveI : NsI G.X "row" 3 := c.nsi rfl ls_law
  haveI : NsI G.X "value" 4 := c.nsi rfl ls_law
  haveI : NsI G.X "size" 5 := c.nsi rfl ls_law
  haveI : NsI G.X "numbers" 6 := c.nsi rfl ls_law
  haveI : NsI G.X "handed" 7 := c.nsi rfl ls_law
  haveI : NsI G.X "at" 8 := c.nsi rfl ls_law
  haveI : NsI G.X "bad" 9 := c.nsi rfl ls_law
  haveI : NsI G.X "told" 10 := c.nsi rfl ls_law
  haveI : NsI G.X "other" 11 := c.nsi rfl ls_law
  haveI : NsI G.X "pair" 12 := c.nsi rfl ls_law
  haveI : NsI G.X "due" 13 := c.nsi rfl ls_law
  haveI : BiI G.X "list" (.type "list") := c.bii gs_law T.b_list
  haveI : BiI G.X "tuple" (.type "tuple") := c.bii gs_law T.b_tuple
  haveI : BiI G.X "int" (.type "int") := c.bii gs_law T.b_int
  haveI : BiI G.X "len" (.builtin "len") := c.bii gs_law T.b_len
  haveI : CalI G "_law_draws" Z_law_draws := c.cal gs_law a_law_draws (by decide)
  haveI : CalI G "_law_row" Z_law_row := c.cal gs_law a_law_row (by decide)
  haveI : CalI G "_law_changed" Z_law_changed := c.cal gs_law a_law_changed (by decide)
  haveI : CalI G "_law_equal" Z_law_equal := c.cal gs_law a_law_equal (by decide)
  haveI : CalI G "is_clause" Z_is_clause := c.cal gs_law a_is_clause (by decide)
  haveI : CalI G "_law_is_clause" Z_law_is_clause := c.cal gs_law a_law_is_clause (by decide)
  haveI : CalI G "_law_numbers" Z_law_numbers := c.cal gs_law a_law_numbers (by decide)
  haveI : CalI G "_law_told" Z_law_told := c.cal gs_law a_law_told (by decide)
  haveI : CalI G "_law_clause_of" Z_law_clause_of := c.cal gs_law a_law_clause_of (by decide)
  haveI : CalI G "_law_refused" Z_law_refused := c.cal gs_law a_law_refused (by decide)
  haveI : CalI G "agrees" Z_agrees := c.cal gs_law a_agrees (by decide)
  haveI : CalW G "is_clause" ["value", "n"] Z_is_clause := c.calw gs_law ak_is_clause (by decide)
  haveI : CalW G "agrees" ["literals", "model"] Z_agrees := c.calw gs_law ak_agrees (by decide)
  first | with_reducible exact body_law c hl pre | exact body_law c hl pre

theorem all_mk {l : PySem.W.OpenLaw} {w : World} {K : PySem.W.Frag} {h : Heap} {mg : Str → Option Value} {fa : Addr} (X : K.In h) (G : h.Ns mainGlobals mg) (hfa : mg "law" = some (.ref fa))
    {f0 : Addr} {od0 an0 : Option Addr} {sl0 : Array (Option Value)} {oc0 kV0 dc0 pm0 cd0 ct0 : Value}
    {f1 : Addr} {od1 an1 : Option Addr} {sl1 : Array (Option Value)} {oc1 kV1 dc1 pm1 cd1 ct1 : Value}
    {f2 : Addr} {od2 an2 : Option Addr} {sl2 : Array (Option Value)} {oc2 kV2 dc2 pm2 cd2 ct2 : Value}
    {f3 : Addr} {od3 an3 : Option Addr} {sl3 : Array (Option Value)} {oc3 kV3 dc3 pm3 cd3 ct3 : Value}
    {f4 : Addr} {od4 an4 : Option Addr} {sl4 : Array (Option Value)} {oc4 kV4 dc4 pm4 cd4 ct4 : Value}
    {f5 : Addr} {od5 an5 : Option Addr} {sl5 : Array (Option Value)} {oc5 kV5 dc5 pm5 cd5 ct5 : Value}
    {f6 : Addr} {od6 an6 : Option Addr} {sl6 : Array (Option Value)} {oc6 kV6 dc6 pm6 cd6 ct6 : Value}
    {f7 : Addr} {od7 an7 : Option Addr} {sl7 : Array (Option Value)} {oc7 kV7 dc7 pm7 cd7 ct7 : Value}
    {f8 : Addr} {od8 an8 : Option Addr} {sl8 : Array (Option Value)} {oc8 kV8 dc8 pm8 cd8 ct8 : Value}
    {f9 : Addr} {od9 an9 : Option Addr} {sl9 : Array (Option Value)} {oc9 kV9 dc9 pm9 cd9 ct9 : Value}
    {f10 : Addr} {od10 an10 : Option Addr} {sl10 : Array (Option Value)} {oc10 kV10 dc10 pm10 cd10 ct10 : Value}
    {f11 : Addr} {od11 an11 : Option Addr} {sl11 : Array (Option Value)} {oc11 kV11 dc11 pm11 cd11 ct11 : Value}
    {f12 : Addr} {od12 an12 : Option Addr} {sl12 : Array (Option Value)} {oc12 kV12 dc12 pm12 cd12 ct12 : Value}
    {f13 : Addr} {od13 an13 : Option Addr} {sl13 : Array (Option Value)} {oc13 kV13 dc13 pm13 cd13 ct13 : Value}
    {f14 : Addr} {od14 an14 : Option Addr} {sl14 : Array (Option Value)} {oc14 kV14 dc14 pm14 cd14 ct14 : Value}
    {f15 : Addr} {od15 an15 : Option Addr} {sl15 : Array (Option Value)} {oc15 kV15 dc15 pm15 cd15 ct15 : Value}
    {Cx0 : Addr} {nmx0 qx0 : Str} {Nx0 : Addr} {bsx0 bmx0 : List Value} {snx0 : List Str} {subx0 : List Value} {abx0 : Bool} {colx0 : Option Bool} {ddx0 : Option Addr} {m0x0 m1x0 m2x0 m3x0 m5x0 : Option Value}
    {fx0 : Addr} {odx0 anx0 : Option Addr} {slx0 : Array (Option Value)} {ocx0 kVx0 dcx0 pmx0 cdx0 ctx0 : Value}
    (a0 : PySem.W.nsIn K mainGlobals "is_whole" = some (some (.ref f0))) (l0 : K.lookup f0 = some ⟨oc0, od0, .func (PySem.W.fnOf "is_whole" "is_whole" (defArgs s_is_whole) (defBody s_is_whole) (defScope s_is_whole) .none kV0 dc0 pm0 an0 cd0 ct0), sl0⟩) (c0 : PySem.W.codeIn K cd0 "is_whole" = true) (k0 : PySem.W.keepIn K (.ref f0) = true)
    (a1 : PySem.W.nsIn K mainGlobals "is_sequence" = some (some (.ref f1))) (l1 : K.lookup f1 = some ⟨oc1, od1, .func (PySem.W.fnOf "is_sequence" "is_sequence" (defArgs s_is_sequence) (defBody s_is_sequence) (defScope s_is_sequence) .none kV1 dc1 pm1 an1 cd1 ct1), sl1⟩) (c1 : PySem.W.codeIn K cd1 "is_sequence" = true) (k1 : PySem.W.keepIn K (.ref f1) = true)
    (a2 : PySem.W.nsIn K mainGlobals "is_row" = some (some (.ref f2))) (l2 : K.lookup f2 = some ⟨oc2, od2, .func (PySem.W.fnOf "is_row" "is_row" (defArgs s_is_row) (defBody s_is_row) (defScope s_is_row) .none kV2 dc2 pm2 an2 cd2 ct2), sl2⟩) (c2 : PySem.W.codeIn K cd2 "is_row" = true) (k2 : PySem.W.keepIn K (.ref f2) = true)
    (a3 : PySem.W.nsIn K mainGlobals "is_clause" = some (some (.ref f3))) (l3 : K.lookup f3 = some ⟨oc3, od3, .func (PySem.W.fnOf "is_clause" "is_clause" (defArgs s_is_clause) (defBody s_is_clause) (defScope s_is_clause) .none kV3 dc3 pm3 an3 cd3 ct3), sl3⟩) (c3 : PySem.W.codeIn K cd3 "is_clause" = true) (k3 : PySem.W.keepIn K (.ref f3) = true)
    (a4 : PySem.W.nsIn K mainGlobals "clause_of" = some (some (.ref f4))) (l4 : K.lookup f4 = some ⟨oc4, od4, .func (PySem.W.fnOf "clause_of" "clause_of" (defArgs s_clause_of) (defBody s_clause_of) (defScope s_clause_of) .none kV4 dc4 pm4 an4 cd4 ct4), sl4⟩) (c4 : PySem.W.codeIn K cd4 "clause_of" = true) (k4 : PySem.W.keepIn K (.ref f4) = true)
    (a5 : PySem.W.nsIn K mainGlobals "agrees" = some (some (.ref f5))) (l5 : K.lookup f5 = some ⟨oc5, od5, .func (PySem.W.fnOf "agrees" "agrees" (defArgs s_agrees) (defBody s_agrees) (defScope s_agrees) .none kV5 dc5 pm5 an5 cd5 ct5), sl5⟩) (c5 : PySem.W.codeIn K cd5 "agrees" = true) (k5 : PySem.W.keepIn K (.ref f5) = true)
    (a6 : PySem.W.nsIn K mainGlobals "_law_draws" = some (some (.ref f6))) (l6 : K.lookup f6 = some ⟨oc6, od6, .func (PySem.W.fnOf "_law_draws" "_law_draws" (defArgs s_law_draws) (defBody s_law_draws) (defScope s_law_draws) .none kV6 dc6 pm6 an6 cd6 ct6), sl6⟩) (c6 : PySem.W.codeIn K cd6 "_law_draws" = true) (k6 : PySem.W.keepIn K (.ref f6) = true)
    (a7 : PySem.W.nsIn K mainGlobals "_law_equal" = some (some (.ref f7))) (l7 : K.lookup f7 = some ⟨oc7, od7, .func (PySem.W.fnOf "_law_equal" "_law_equal" (defArgs s_law_equal) (defBody s_law_equal) (defScope s_law_equal) .none kV7 dc7 pm7 an7 cd7 ct7), sl7⟩) (c7 : PySem.W.codeIn K cd7 "_law_equal" = true) (k7 : PySem.W.keepIn K (.ref f7) = true)
    (a8 : PySem.W.nsIn K mainGlobals "_law_is_clause" = some (some (.ref f8))) (l8 : K.lookup f8 = some ⟨oc8, od8, .func (PySem.W.fnOf "_law_is_clause" "_law_is_clause" (defArgs s_law_is_clause) (defBody s_law_is_clause) (defScope s_law_is_clause) .none kV8 dc8 pm8 an8 cd8 ct8), sl8⟩) (c8 : PySem.W.codeIn K cd8 "_law_is_clause" = true) (k8 : PySem.W.keepIn K (.ref f8) = true)
    (a9 : PySem.W.nsIn K mainGlobals "_law_row" = some (some (.ref f9))) (l9 : K.lookup f9 = some ⟨oc9, od9, .func (PySem.W.fnOf "_law_row" "_law_row" (defArgs s_law_row) (defBody s_law_row) (defScope s_law_row) .none kV9 dc9 pm9 an9 cd9 ct9), sl9⟩) (c9 : PySem.W.codeIn K cd9 "_law_row" = true) (k9 : PySem.W.keepIn K (.ref f9) = true)
    (a10 : PySem.W.nsIn K mainGlobals "_law_changed" = some (some (.ref f10))) (l10 : K.lookup f10 = some ⟨oc10, od10, .func (PySem.W.fnOf "_law_changed" "_law_changed" (defArgs s_law_changed) (defBody s_law_changed) (defScope s_law_changed) .none kV10 dc10 pm10 an10 cd10 ct10), sl10⟩) (c10 : PySem.W.codeIn K cd10 "_law_changed" = true) (k10 : PySem.W.keepIn K (.ref f10) = true)
    (a11 : PySem.W.nsIn K mainGlobals "_law_numbers" = some (some (.ref f11))) (l11 : K.lookup f11 = some ⟨oc11, od11, .func (PySem.W.fnOf "_law_numbers" "_law_numbers" (defArgs s_law_numbers) (defBody s_law_numbers) (defScope s_law_numbers) .none kV11 dc11 pm11 an11 cd11 ct11), sl11⟩) (c11 : PySem.W.codeIn K cd11 "_law_numbers" = true) (k11 : PySem.W.keepIn K (.ref f11) = true)
    (a12 : PySem.W.nsIn K mainGlobals "_law_clause_of" = some (some (.ref f12))) (l12 : K.lookup f12 = some ⟨oc12, od12, .func (PySem.W.fnOf "_law_clause_of" "_law_clause_of" (defArgs s_law_clause_of) (defBody s_law_clause_of) (defScope s_law_clause_of) .none kV12 dc12 pm12 an12 cd12 ct12), sl12⟩) (c12 : PySem.W.codeIn K cd12 "_law_clause_of" = true) (k12 : PySem.W.keepIn K (.ref f12) = true)
    (a13 : PySem.W.nsIn K mainGlobals "_law_told" = some (some (.ref f13))) (l13 : K.lookup f13 = some ⟨oc13, od13, .func (PySem.W.fnOf "_law_told" "_law_told" (defArgs s_law_told) (defBody s_law_told) (defScope s_law_told) .none kV13 dc13 pm13 an13 cd13 ct13), sl13⟩) (c13 : PySem.W.codeIn K cd13 "_law_told" = true) (k13 : PySem.W.keepIn K (.ref f13) = true)
    (a14 : PySem.W.nsIn K mainGlobals "_law_refused" = some (some (.ref f14))) (l14 : K.lookup f14 = some ⟨oc14, od14, .func (PySem.W.fnOf "_law_refused" "_law_refused" (defArgs s_law_refused) (defBody s_law_refused) (defScope s_law_refused) .none kV14 dc14 pm14 an14 cd14 ct14), sl14⟩) (c14 : PySem.W.codeIn K cd14 "_law_refused" = true) (k14 : PySem.W.keepIn K (.ref f14) = true)
    (a15 : PySem.W.nsIn K mainGlobals "law" = some (some (.ref f15))) (l15 : K.lookup f15 = some ⟨oc15, od15, .func (PySem.W.fnOf "law" "law" (defArgs s_law) (defBody s_law) (defScope s_law) .none kV15 dc15 pm15 an15 cd15 ct15), sl15⟩) (c15 : PySem.W.codeIn K cd15 "law" = true) (k15 : PySem.W.keepIn K (.ref f15) = true)
    (z_isinstance : PySem.W.nsIn K mainGlobals "isinstance" = some none)
    (z_int : PySem.W.nsIn K mainGlobals "int" = some none)
    (z_bool : PySem.W.nsIn K mainGlobals "bool" = some none)
    (z_list : PySem.W.nsIn K mainGlobals "list" = some none)
    (z_tuple : PySem.W.nsIn K mainGlobals "tuple" = some none)
    (z_abs : PySem.W.nsIn K mainGlobals "abs" = some none)
    (z_len : PySem.W.nsIn K mainGlobals "len" = some none)
    (z_all : PySem.W.nsIn K mainGlobals "all" = some none)
    (z_any : PySem.W.nsIn K mainGlobals "any" = some none)
    (z_sorted : PySem.W.nsIn K mainGlobals "sorted" = some none)
    (z_max : PySem.W.nsIn K mainGlobals "max" = some none)
    (z_range : PySem.W.nsIn K mainGlobals "range" = some none)
    (z_str : PySem.W.nsIn K mainGlobals "str" = some none)
    (aCx0 : PySem.W.nsIn K mainGlobals "InvalidLiterals" = some (some (.ref Cx0))) (xLx0 : K.lookup Cx0 = some (excClassObj nmx0 qx0 Cx0 Nx0 bsx0 bmx0 true snx0 subx0 abx0 colx0 ddx0 m0x0 m1x0 m2x0 m3x0 m5x0 "ValueError.__new__")) (hbx0 : PySem.HandSPX.refsVE bmx0 = true)
    (sax0 : PySem.W.findIn K (.ref Cx0) "__setattr__" = some (some (.builtin "object.__setattr__"))) (gax0 : PySem.W.findIn K (.ref Cx0) "__getattribute__" = some (some (.builtin "BaseException.__getattribute__"))) (ggx0 : PySem.W.findIn K (.ref Cx0) "__getattr__" = some none) (nbx0 : PySem.W.findIn K (.ref Cx0) "value" = some none)
    (a1x0 : PySem.W.findIn K (.ref Cx0) "__init__" = some (some (.ref fx0))) (t1x0 : PySem.W.typeIn K (.ref fx0) = some (.type "function")) (lx0 : K.lookup fx0 = some ⟨ocx0, odx0, .func (PySem.W.fnOf "__init__" "InvalidLiterals.__init__" (defArgs s_InvalidLiterals_init) (defBody s_InvalidLiterals_init) (defScope s_InvalidLiterals_init) .none kVx0 dcx0 pmx0 anx0 cdx0 ctx0), slx0⟩) (cx0 : PySem.W.codeIn K cdx0 "InvalidLiterals.__init__" = true) (kx0 : PySem.W.keepIn K (.ref fx0) = true)
    (kCx0 : PySem.W.keepIn K (.ref Cx0) = true) (eCx0 : PySem.W.subIn K (.ref Cx0) (.type "BaseException") = some true) (tCx0 : PySem.W.typeIn K (.ref Cx0) = some (.type "type")) (hCx0 : PySem.W.hasDictIn K Cx0 = true) (iCx0 : PySem.W.isClsIn K Cx0 = true) (sCx0 : PySem.W.subIn K (.ref Cx0) (.ref Cx0) = some true)
    : ∃ fd : FuncData, (∀ (s : Shared) (v : Value), BindsTo s fd ⟨[v], []⟩ [("script", v)]) ∧ ∀ base : Heap, K.In base → base.Ns mainGlobals mg → FnOk l.prog w K mg base (L2.CX l.prog w) 6 fa fd ["script"] (spOf K 0 Z_law) := by
  have e := hfa.symm.trans (PySem.W.mg_of X G a15)
  cases e
  have gx0 := PySem.W.mg_of X G aCx0
  have cAx0 : clsA mg "InvalidLiterals" = Cx0 := by unfold clsA; rw [gx0]
  have xAx0 : XcAt K mg "InvalidLiterals" s_InvalidLiterals_init "self" "value" "value" := by
    refine ⟨by rw [cAx0]; exact gx0, ?_, ?_, by rw [cAx0]; exact nbx0, by rw [cAx0]; exact exm_self eCx0 iCx0 tCx0 sCx0, ?_⟩
    · rw [cAx0]; exact ⟨⟨nmx0, qx0, Nx0, bsx0, bmx0, snx0, subx0, abx0, colx0, ddx0, m0x0, m1x0, m2x0, m3x0, m5x0, xLx0, hbx0⟩, sax0, eCx0, tCx0, kCx0⟩
    · rw [cAx0]; exact ⟨gax0, ggx0, eCx0, hCx0⟩
    · rw [cAx0]
      have F := fun_mk (st := s_InvalidLiterals_init) lx0 cx0 kx0
      exact ⟨fx0, _, _, a1x0, t1x0, F, F.binds fun _ _ _ _ _ _ us hl => match us, hl with | [_, _], _ => rfl⟩
  have d_is_whole : DefAt K mg "is_whole" s_is_whole ["value"] := ⟨_, _, fun_mk (st := s_is_whole) l0 c0 k0, PySem.W.mg_of X G a0, (fun_mk (st := s_is_whole) l0 c0 k0).binds fun _ _ _ _ _ _ us hl => match us, hl with | [_], _ => rfl⟩
  have d_is_sequence : DefAt K mg "is_sequence" s_is_sequence ["value"] := ⟨_, _, fun_mk (st := s_is_sequence) l1 c1 k1, PySem.W.mg_of X G a1, (fun_mk (st := s_is_sequence) l1 c1 k1).binds fun _ _ _ _ _ _ us hl => match us, hl with | [_], _ => rfl⟩
  have d_is_row : DefAt K mg "is_row" s_is_row ["value"] := ⟨_, _, fun_mk (st := s_is_row) l2 c2 k2, PySem.W.mg_of X G a2, (fun_mk (st := s_is_row) l2 c2 k2).binds fun _ _ _ _ _ _ us hl => match us, hl with | [_], _ => rfl⟩
  have d_is_clause : DefAt K mg "is_clause" s_is_clause ["value", "n"] := ⟨_, _, fun_mk (st := s_is_clause) l3 c3 k3, PySem.W.mg_of X G a3, (fun_mk (st := s_is_clause) l3 c3 k3).binds fun _ _ _ _ _ _ us hl => match us, hl with | [_, _], _ => rfl⟩
  have d_clause_of : DefAt K mg "clause_of" s_clause_of ["literals"] := ⟨_, _, fun_mk (st := s_clause_of) l4 c4 k4, PySem.W.mg_of X G a4, (fun_mk (st := s_clause_of) l4 c4 k4).binds fun _ _ _ _ _ _ us hl => match us, hl with | [_], _ => rfl⟩
  have d_agrees : DefAt K mg "agrees" s_agrees ["literals", "model"] := ⟨_, _, fun_mk (st := s_agrees) l5 c5 k5, PySem.W.mg_of X G a5, (fun_mk (st := s_agrees) l5 c5 k5).binds fun _ _ _ _ _ _ us hl => match us, hl with | [_, _], _ => rfl⟩
  have d_law_draws : DefAt K mg "_law_draws" s_law_draws ["script", "k", "bounds"] := ⟨_, _, fun_mk (st := s_law_draws) l6 c6 k6, PySem.W.mg_of X G a6, (fun_mk (st := s_law_draws) l6 c6 k6).binds fun _ _ _ _ _ _ us hl => match us, hl with | [_, _, _], _ => rfl⟩
  have d_law_equal : DefAt K mg "_law_equal" s_law_equal ["actual", "expected"] := ⟨_, _, fun_mk (st := s_law_equal) l7 c7 k7, PySem.W.mg_of X G a7, (fun_mk (st := s_law_equal) l7 c7 k7).binds fun _ _ _ _ _ _ us hl => match us, hl with | [_, _], _ => rfl⟩
  have d_law_is_clause : DefAt K mg "_law_is_clause" s_law_is_clause ["value", "n"] := ⟨_, _, fun_mk (st := s_law_is_clause) l8 c8 k8, PySem.W.mg_of X G a8, (fun_mk (st := s_law_is_clause) l8 c8 k8).binds fun _ _ _ _ _ _ us hl => match us, hl with | [_, _], _ => rfl⟩
  have d_law_row : DefAt K mg "_law_row" s_law_row ["script", "k", "n"] := ⟨_, _, fun_mk (st := s_law_row) l9 c9 k9, PySem.W.mg_of X G a9, (fun_mk (st := s_law_row) l9 c9 k9).binds fun _ _ _ _ _ _ us hl => match us, hl with | [_, _, _], _ => rfl⟩
  have d_law_changed : DefAt K mg "_law_changed" s_law_changed ["script", "k", "row", "n"] := ⟨_, _, fun_mk (st := s_law_changed) l10 c10 k10, PySem.W.mg_of X G a10, (fun_mk (st := s_law_changed) l10 c10 k10).binds fun _ _ _ _ _ _ us hl => match us, hl with | [_, _, _, _], _ => rfl⟩
  have d_law_numbers : DefAt K mg "_law_numbers" s_law_numbers ["script", "k"] := ⟨_, _, fun_mk (st := s_law_numbers) l11 c11 k11, PySem.W.mg_of X G a11, (fun_mk (st := s_law_numbers) l11 c11 k11).binds fun _ _ _ _ _ _ us hl => match us, hl with | [_, _], _ => rfl⟩
  have d_law_clause_of : DefAt K mg "_law_clause_of" s_law_clause_of ["numbers"] := ⟨_, _, fun_mk (st := s_law_clause_of) l12 c12 k12, PySem.W.mg_of X G a12, (fun_mk (st := s_law_clause_of) l12 c12 k12).binds fun _ _ _ _ _ _ us hl => match us, hl with | [_], _ => rfl⟩
  have d_law_told : DefAt K mg "_law_told" s_law_told ["numbers"] := ⟨_, _, fun_mk (st := s_law_told) l13 c13 k13, PySem.W.mg_of X G a13, (fun_mk (st := s_law_told) l13 c13 k13).binds fun _ _ _ _ _ _ us hl => match us, hl with | [_], _ => rfl⟩
  have d_law_refused : DefAt K mg "_law_refused" s_law_refused ["value"] := ⟨_, _, fun_mk (st := s_law_refused) l14 c14 k14, PySem.W.mg_of X G a14, (fun_mk (st := s_law_refused) l14 c14 k14).binds fun _ _ _ _ _ _ us hl => match us, hl with | [_], _ => rfl⟩
  have d_law : DefAt K mg "law" s_law ["script"] := ⟨_, _, fun_mk (st := s_law) l15 c15 k15, PySem.W.mg_of X G a15, (fun_mk (st := s_law) l15 c15 k15).binds fun _ _ _ _ _ _ us hl => match us, hl with | [_], _ => rfl⟩
  have T : Txt K mg := ⟨PySem.W.mg_none_of X G z_isinstance, PySem.W.mg_none_of X G z_int, PySem.W.mg_none_of X G z_bool, PySem.W.mg_none_of X G z_list, PySem.W.mg_none_of X G z_tuple, PySem.W.mg_none_of X G z_abs, PySem.W.mg_none_of X G z_len, PySem.W.mg_none_of X G z_all, PySem.W.mg_none_of X G z_any, PySem.W.mg_none_of X G z_sorted, PySem.W.mg_none_of X G z_max, PySem.W.mg_none_of X G z_range, PySem.W.mg_none_of X G z_str, xAx0, d_is_whole, d_is_sequence, d_is_row, d_is_clause, d_clause_of, d_agrees, d_law_draws, d_law_equal, d_law_is_clause, d_law_row, d_law_changed, d_law_numbers, d_law_clause_of, d_law_told, d_law_refused, d_law⟩
  refine ⟨PySem.W.fnOf "law" "law" (defArgs s_law) (defBody s_law) (defScope s_law) .none kV15 dc15 pm15 an15 cd15 ct15, fun s v => .of_eq rfl, fun base _ _ => ?_⟩
  have b_law_draws := av_law_draws (P := l.prog) (w := w) (base := base) (CF := 0) T
  have b_law_row := av_law_row (P := l.prog) (w := w) (base := base) (CF := 0) T b_law_draws
  have b_law_changed := av_law_changed (P := l.prog) (w := w) (base := base) (CF := 0) T b_law_draws
  have b_law_equal := av_law_equal (P := l.prog) (w := w) (base := base) (CF := 0) T 3
  have b_is_whole := av_is_whole (P := l.prog) (w := w) (base := base) (CF := 0) T
  have b_is_row := av_is_row (P := l.prog) (w := w) (base := base) (CF := 0) T b_is_whole
  have b_is_clause := av_is_clause (P := l.prog) (w := w) (base := base) (CF := 0) T b_is_row
  have bk_is_clause := avk_is_clause (P := l.prog) (w := w) (base := base) (CF := 0) T b_is_row
  have b_law_is_clause := av_law_is_clause (P := l.prog) (w := w) (base := base) (CF := 0) T
  have b_law_numbers := av_law_numbers (P := l.prog) (w := w) (base := base) (CF := 0) T b_law_draws
  have b_is_sequence := av_is_sequence (P := l.prog) (w := w) (base := base) (CF := 0) T
  have b_clause_of := av_clause_of (P := l.prog) (w := w) (base := base) (CF := 0) T b_is_sequence b_is_whole
  have b_law_told := av_law_told (P := l.prog) (w := w) (base := base) (CF := 0) T b_clause_of
  have b_law_clause_of := av_law_clause_of (P := l.prog) (w := w) (base := base) (CF := 0) T
  have b_law_refused := av_law_refused (P := l.prog) (w := w) (base := base) (CF := 0) T b_law_told b_law_equal
  have b_agrees := av_agrees (P := l.prog) (w := w) (base := base) (CF := 0) T
  have bk_agrees := avk_agrees (P := l.prog) (w := w) (base := base) (CF := 0) T
  exact fo_law (P := l.prog) (w := w) (base := base) (CF := 0) T b_law_draws b_law_row b_law_changed b_law_equal b_is_clause b_law_is_clause b_law_numbers b_law_told b_law_clause_of b_law_refused b_agrees bk_is_clause bk_agrees _ _ (fun_mk (st := s_law) l15 c15 k15)

theorem law_sp {K : PySem.W.Frag} {H : Hp} {a : Addr} {ns : List Int} (hl : ns.length ≤ 63) (hS : SqL K H a (ns.map V.int)) : spOf K 0 Z_law [.ref a] H (fun v _ => v = .bl true) fun _ _ _ => False := by
  refine ⟨fun _ => False, [.scr ns], rfl, fun _ z => z.elim, ⟨_, [], rfl, ⟨a, rfl, ?_⟩, rfl⟩, ⟨_, rfl, ns, rfl, hl⟩, ?_, ?_, ?_⟩
  · rcases hS with h | h
    · exact .inl ⟨h, fun z => z⟩
    · exact .inr (.inr h)
  · rintro d ⟨x, _, e⟩ v H' _ r
    cases e
    exact r.bl
  · rintro xs ⟨x, _, e⟩
    cases e
  · rintro C fs ⟨x, _, e⟩
    cases e
theorem walk {l : PySem.W.OpenLaw} {q : Program} {loose : List Str} {XP : (Str → Option Value) → Heap → Prop} {YP : World → Heap → Prop} {d : DefRec} {K : Params → PySem.W.Frag} (hn : l.most = some 63) (hdf : d.params.defaults = [])
    (hY : ∀ (w : World) (h : Heap), YP w h → (K w.params).In h)
    (F : ∀ (w : World) (mg : Str → Option Value) (fa : Addr) (h : Heap), (K w.params).In h → h.Ns mainGlobals mg → mg d.name = some (.ref fa) →
      ∃ fd : FuncData, (∀ (s : Shared) (u : Value), BindsTo s fd ⟨[u], []⟩ [("script", u)]) ∧ ∀ base : Heap, (K w.params).In base → base.Ns mainGlobals mg → FnOk l.prog w (K w.params) mg base (L2.CX l.prog w) 6 fa fd ["script"] (spOf (K w.params) 0 Z_law)) :
    PySem.W.WalkO q loose XP YP l.row.toRowW d [] (fun f vs => PySem.call f vs) :=
  L2.walk_of (n := 63) (k := 6) (x := "script") (CX := fun w => L2.CX l.prog w) (sp := fun w => spOf (K w.params) 0 Z_law) hn (by decide) hdf ⟨rfl, by decide, by decide⟩ hY F
    (fun w H a ns hl _ hS => law_sp hl hS) fun _ _ _ _ _ ⟨_, _, _, _, _, _, _, _, _, _, _, _, z⟩ => z
end K02
end CL
open PySem PySem.W PyProof.Rows in
set_option maxRecDepth 100000 in
set_option maxHeartbeats 0 in
theorem PySem.Challenge.cw_clausehold_k02_clauses_and_rows_holds : PySem.Challenge.rw_clausehold_k02_clauses_and_rows.Holds := by
  w_on; o_law; k_head; (case hw => w_witness2)
  k_fill
  refine CL.K02.walk (l := PySem.Challenge.rw_clausehold_k02_clauses_and_rows) rfl rfl (fun w h Y => PySem.W.kIn_of Y) ?F
  case F =>
    intro w mg fa h KX G hmg
    refine' CL.K02.all_mk KX G hmg ?a0 ?l0 ?c0 ?k0 ?a1 ?l1 ?c1 ?k1 ?a2 ?l2 ?c2 ?k2 ?a3 ?l3 ?c3 ?k3 ?a4 ?l4 ?c4 ?k4 ?a5 ?l5 ?c5 ?k5 ?a6 ?l6 ?c6 ?k6 ?a7 ?l7 ?c7 ?k7 ?a8 ?l8 ?c8 ?k8 ?a9 ?l9 ?c9 ?k9 ?a10 ?l10 ?c10 ?k10 ?a11 ?l11 ?c11 ?k11 ?a12 ?l12 ?c12 ?k12 ?a13 ?l13 ?c13 ?k13 ?a14 ?l14 ?c14 ?k14 ?a15 ?l15 ?c15 ?k15 ?z_isinstance ?z_int ?z_bool ?z_list ?z_tuple ?z_abs ?z_len ?z_all ?z_any ?z_sorted ?z_max ?z_range ?z_str ?aCx0 ?xLx0 ?hbx0 ?sax0 ?gax0 ?ggx0 ?nbx0 ?a1x0 ?t1x0 ?lx0 ?cx0 ?kx0 ?kCx0 ?eCx0 ?tCx0 ?hCx0 ?iCx0 ?sCx0
    (case a0 => k_is)
    (case l0 => k_is)
    (case c0 => k_is)
    (case k0 => k_is)
    (case a1 => k_is)
    (case l1 => k_is)
    (case c1 => k_is)
    (case k1 => k_is)
    (case a2 => k_is)
    (case l2 => k_is)
    (case c2 => k_is)
    (case k2 => k_is)
    (case a3 => k_is)
    (case l3 => k_is)
    (case c3 => k_is)
    (case k3 => k_is)
    (case a4 => k_is)
    (case l4 => k_is)
    (case c4 => k_is)
    (case k4 => k_is)
    (case a5 => k_is)
    (case l5 => k_is)
    (case c5 => k_is)
    (case k5 => k_is)
    (case a6 => k_is)
    (case l6 => k_is)
    (case c6 => k_is)
    (case k6 => k_is)
    (case a7 => k_is)
    (case l7 => k_is)
    (case c7 => k_is)
    (case k7 => k_is)
    (case a8 => k_is)
    (case l8 => k_is)
    (case c8 => k_is)
    (case k8 => k_is)
    (case a9 => k_is)
    (case l9 => k_is)
    (case c9 => k_is)
    (case k9 => k_is)
    (case a10 => k_is)
    (case l10 => k_is)
    (case c10 => k_is)
    (case k10 => k_is)
    (case a11 => k_is)
    (case l11 => k_is)
    (case c11 => k_is)
    (case k11 => k_is)
    (case a12 => k_is)
    (case l12 => k_is)
    (case c12 => k_is)
    (case k12 => k_is)
    (case a13 => k_is)
    (case l13 => k_is)
    (case c13 => k_is)
    (case k13 => k_is)
    (case a14 => k_is)
    (case l14 => k_is)
    (case c14 => k_is)
    (case k14 => k_is)
    (case a15 => k_is)
    (case l15 => k_is)
    (case c15 => k_is)
    (case k15 => k_is)
    (case z_isinstance => k_is)
    (case z_int => k_is)
    (case z_bool => k_is)
    (case z_list => k_is)
    (case z_tuple => k_is)
    (case z_abs => k_is)
    (case z_len => k_is)
    (case z_all => k_is)
    (case z_any => k_is)
    (case z_sorted => k_is)
    (case z_max => k_is)
    (case z_range => k_is)
    (case z_str => k_is)
    (case aCx0 => k_is)
    (case xLx0 => k_is)
    (case hbx0 => first | rfl | decide +kernel)
    (case sax0 => k_is)
    (case gax0 => k_is)
    (case ggx0 => k_is)
    (case nbx0 => k_is)
    (case a1x0 => k_is)
    (case t1x0 => k_is)
    (case lx0 => k_is)
    (case cx0 => k_is)
    (case kx0 => k_is)
    (case kCx0 => k_is)
    (case eCx0 => k_is)
    (case tCx0 => k_is)
    (case hCx0 => k_is)
    (case iCx0 => k_is)
    (case sCx0 => first | rfl | k_is)
