import PyProof.Rows.All
import Wide.All
import OpenK.AllK
import Wide.FinOn
import KE.KStateDown
import HandS.ForExc
import HandS.ForMost
import HandS.More
import HandS.Conv
import HandS.Rev
import HandS.RevRange
import HandS.Deep
import HandS.Flow
import HandS.StrMore
import HandS.IsInst
import HandS.Defaults
import HandS.ExcInit
import HandS.ExcField
import HandS.OwnEq
import HandS.Evl
import HandS.Wide
import HandS.Walk
import HandS.TryMany
import HandS.Codes
import HandS.HeadHook1
import HandS.HeadHook2
import PyProof.ListStr
import HandS.Zip
import HandS.ListItems
import HandS.Head0
import HandS.Head1
import HandS.Head2
import HandS.HeadEnd
import HandS.HeadHook3
import HandS.HeadHook4
import PySem.Challenge.RW_waysback_k05_whole_wires
import HandS.Dict
set_option Elab.async false
set_option linter.all false
set_option maxRecDepth 100000
set_option maxHeartbeats 0
/-! The base: defs that can be called, data in a heap, what a reading makes of data. -/
namespace WB
open PySem PySem.Spec PyProof.Rows L2 Evl

/-! ### defs that can be called -/
section
variable (P : Program) (w : World) (K : PySem.W.Frag) (mg : Str → Option Value) (base : Heap)
/-- a def of the module, by its name -/
def Cl (k : Nat) (x : Str) (ps : List Str) (sp : Sp) : Prop :=
  ∃ (f : Addr) (fd : FuncData), FnOk P w K mg base (L2.CX P w) k f fd ps sp ∧ mg x = some (.ref f) ∧ PySem.W.keepIn K (.ref f) = true ∧ Binds K fd ps []
/-- a method m of the class at C -/
def Mt (k : Nat) (C : Addr) (m : Str) (ps : List Str) (sp : Sp) : Prop :=
  ∃ (f : Addr) (fd : FuncData), FnOk P w K mg base (L2.CX P w) k f fd ps sp ∧ Cls K C ∧ Meth K C m f ∧ Binds K fd ps []
/-- a class x at C, sp its __init__ -/
def Mc (k : Nat) (x : Str) (C : Addr) (ps : List Str) (sp : Sp) : Prop :=
  ∃ (f : Addr) (fd : FuncData), FnOk P w K mg base (L2.CX P w) k f fd ps sp ∧ Mk K C f ∧ mg x = some (.ref C) ∧ Binds K fd ps []
end
section
variable {P : Program} {w : World} {K : PySem.W.Frag} {mg : Str → Option Value} {base : Heap}
theorem Cl.mono {j k : Nat} {x : Str} {ps : List Str} {sp : Sp} (c : Cl P w K mg base j x ps sp) (h : j ≤ k) : Cl P w K mg base k x ps sp := by
  obtain ⟨f, fd, F, hm, hk, hb⟩ := c
  exact ⟨f, fd, F.mono h, hm, hk, hb⟩
theorem Cl.imp {k : Nat} {x : Str} {ps : List Str} {sp sp' : Sp} (c : Cl P w K mg base k x ps sp) (h : ∀ vs H Q E, sp' vs H Q E → sp vs H Q E) : Cl P w K mg base k x ps sp' := by
  obtain ⟨f, fd, F, hm, hk, hb⟩ := c
  exact ⟨f, fd, F.imp h, hm, hk, hb⟩
end
section
variable {X : Cx} {k j : Nat} {C : Addr} {x m : Str} {ps : List Str} {sp : Sp} {E : XK} {p pos apos : Pos} {e o : Expr} {es : List Expr} {ta : TE} {t : TA}
theorem pe_cl (c : Cl X.prog X.w X.K X.mg X.base k x ps sp) (hr : Room j X.A) (hk : k ≤ j) (hx : Passes (L2.CX X.prog X.w) X E) (hg : Gl X x) (ha : PA X (e :: es) t)
    (hdb : (x == ("__debug__" : Str)) = false := by decide) (he : starEach (e :: es) X.env = (false, eval e X.env) :: starEach es X.env := by rfl) (hpl : (backTo pos (starEach es X.env)).any (·.1) = false := by rfl) :
    PE X (.Call (.Name x p) (e :: es) [] pos) (tCall sp [] E t) := by
  obtain ⟨f, fd, F, hm, hkp, hb⟩ := c
  exact pe_call F (hr.mono hk) hg hm hkp hb .nil hx ha hdb he hpl
theorem pe_mc (c : Mc X.prog X.w X.K X.mg X.base k x C ps sp) (hr : Room j X.A) (hk : k + 1 ≤ j) (hx : Passes (L2.CX X.prog X.w) X E) (hg : Gl X x) (ha : PA X (e :: es) t)
    (hdb : (x == ("__debug__" : Str)) = false := by decide) (he : starEach (e :: es) X.env = (false, eval e X.env) :: starEach es X.env := by rfl) (hpl : (backTo pos (starEach es X.env)).any (·.1) = false := by rfl) :
    PE X (.Call (.Name x p) (e :: es) [] pos) (tMake C sp [] E t) := by
  obtain ⟨f, fd, F, M, hm, hb⟩ := c
  exact pe_make M F (hr.mono hk) hg hm hb .nil hx ha hdb he hpl
theorem pe_mt0 {pl : Sem Bool} (c : Mt X.prog X.w X.K X.mg X.base k C m ps sp) (hr : Room j X.A) (hk : k ≤ j) (hx : Passes (L2.CX X.prog X.w) X E) (he : PE X o ta)
    (ht : eval (.Call (.Attribute o m apos) [] [] pos) X.env = (do
      let ov ← eval o X.env
      standAt apos.atName
      let (f, first) ← holding [ov] (getMethod ov m pl)
      callWith pos f first (backTo pos (starEach [] X.env)) (backToKw pos (keywordEach [] X.env))) := by rfl) :
    PE X (.Call (.Attribute o m apos) [] [] pos) (tMeth C m sp [] E ta tNil) := by
  obtain ⟨f, fd, F, hc, hm, hb⟩ := c
  exact pe_meth0 he hc hm F (hr.mono hk) hb .nil hx ht
end
/-! ### data -/
mutual
/-- v stands for the data d in H: each list, each tuple tracked as itself -/
inductive Dt (H : Hp) : V → PyData → Prop
  | non : Dt H .non .none
  | bl (b : Bool) : Dt H (.bl b) (.bool b)
  | int (i : Int) : Dt H (.int i) (.int i)
  | str (x : Str) : Dt H (.str x) (.str x)
  | lst {a : Addr} {xs : List V} {ds : List PyData} : H a = some (.lst xs) → DtAll H xs ds → Dt H (.ref a) (.list ds)
  | tup {a : Addr} {xs : List V} {ds : List PyData} : H a = some (.tup xs) → DtAll H xs ds → Dt H (.ref a) (.tuple ds)
  /-- the empty dict; an instance at a of the class at C, itself (not what it holds) -/
  | emp {a : Addr} : H a = some (.dK []) → Dt H (.ref a) (.dict [])
  | ins {a C dx : Addr} {fs : List (Str × V)} : H a = some (.ins C dx fs) → Dt H (.ref a) (.dict [(.int (a : Nat), .int (C : Nat))])
inductive DtAll (H : Hp) : List V → List PyData → Prop
  | nil : DtAll H [] []
  | cons {v : V} {vs : List V} {d : PyData} {ds : List PyData} : Dt H v d → DtAll H vs ds → DtAll H (v :: vs) (d :: ds)
end
mutual
theorem Dt.ex {H H' : Hp} (e : Ex H H') : ∀ {v : V} {d : PyData}, Dt H v d → Dt H' v d
  | _, _, .non => .non
  | _, _, .bl b => .bl b
  | _, _, .int i => .int i
  | _, _, .str x => .str x
  | _, _, .lst h a => .lst (e _ _ h) (DtAll.ex e a)
  | _, _, .tup h a => .tup (e _ _ h) (DtAll.ex e a)
  | _, _, .emp h => .emp (e _ _ h)
  | _, _, .ins h => .ins (e _ _ h)
theorem DtAll.ex {H H' : Hp} (e : Ex H H') : ∀ {vs : List V} {ds : List PyData}, DtAll H vs ds → DtAll H' vs ds
  | _, _, .nil => .nil
  | _, _, .cons h a => .cons (Dt.ex e h) (DtAll.ex e a)
end
/-! no dict, no instance in it -/
mutual
def plainD : PyData → Bool
  | .none | .bool _ | .int _ | .str _ => true
  | .list ds | .tuple ds => plainDs ds
  | .dict _ => false
def plainDs : List PyData → Bool
  | [] => true
  | d :: ds => plainD d && plainDs ds
end
mutual
theorem Dt.dp {K : PySem.W.Frag} {H : Hp} : ∀ {v : V} {d : PyData}, Dt H v d → plainD d = true → Dp K H v d
  | _, _, .non, _ => .non
  | _, _, .bl b, _ => .bl b
  | _, _, .int i, _ => .int i
  | _, _, .str x, _ => .str x
  | _, _, .lst h a, p => .lst (SqL.of h) (DtAll.dp a (by unfold plainD at p; exact p))
  | _, _, .tup h a, p => .tup (SqT.of h) (DtAll.dp a (by unfold plainD at p; exact p))
  | _, _, .emp h, p => by unfold plainD at p; cases p
  | _, _, .ins h, p => by unfold plainD at p; cases p
theorem DtAll.dp {K : PySem.W.Frag} {H : Hp} : ∀ {vs : List V} {ds : List PyData}, DtAll H vs ds → plainDs ds = true → DpAll K H vs ds
  | _, _, .nil, _ => .nil
  | _, _, .cons h a, p => by
    unfold plainDs at p
    obtain ⟨p1, p2⟩ := Bool.and_eq_true_iff.mp p
    exact .cons (Dt.dp h p1) (DtAll.dp a p2)
end
section
variable {H : Hp} {v : V} {vs ws : List V} {d : PyData} {ds es : List PyData}
theorem Dt.none_ (h : Dt H v .none) : v = .non := by cases h; rfl
theorem Dt.bool_ {b : Bool} (h : Dt H v (.bool b)) : v = .bl b := by cases h; rfl
theorem Dt.int_ {i : Int} (h : Dt H v (.int i)) : v = .int i := by cases h; rfl
theorem Dt.str_ {x : Str} (h : Dt H v (.str x)) : v = .str x := by cases h; rfl
theorem Dt.list_ (h : Dt H v (.list ds)) : ∃ a xs, v = .ref a ∧ H a = some (.lst xs) ∧ DtAll H xs ds := by
  cases h with
  | lst h a => exact ⟨_, _, rfl, h, a⟩
theorem Dt.tuple_ (h : Dt H v (.tuple ds)) : ∃ a xs, v = .ref a ∧ H a = some (.tup xs) ∧ DtAll H xs ds := by
  cases h with
  | tup h a => exact ⟨_, _, rfl, h, a⟩
theorem DtAll.len (h : DtAll H vs ds) : vs.length = ds.length := by
  induction ds generalizing vs with
  | nil => cases h; rfl
  | cons d ds ih => cases h with | cons h a => rw [List.length_cons, List.length_cons, ih a]
theorem DtAll.nil_ (h : DtAll H vs []) : vs = [] := by cases h; rfl
theorem DtAll.cons_ (h : DtAll H vs (d :: ds)) : ∃ v r, vs = v :: r ∧ Dt H v d ∧ DtAll H r ds := by
  cases h with | cons h a => exact ⟨_, _, rfl, h, a⟩
theorem DtAll.get : ∀ {vs : List V} {ds : List PyData} {i : Nat} {d : PyData}, DtAll H vs ds → ds[i]? = some d → ∃ v, vs[i]? = some v ∧ Dt H v d
  | _, _, _, _, .nil, e => by simp at e
  | _, _, 0, _, .cons h _, e => by
    simp at e
    subst e
    exact ⟨_, rfl, h⟩
  | _, _, i + 1, _, .cons _ a, e => by
    obtain ⟨v, h1, h2⟩ := DtAll.get (i := i) a (by simpa using e)
    exact ⟨v, by simpa using h1, h2⟩
theorem DtAll.getV : ∀ {vs : List V} {ds : List PyData} {i : Nat} {v : V}, DtAll H vs ds → vs[i]? = some v → ∃ d, ds[i]? = some d ∧ Dt H v d
  | _, _, _, _, .nil, e => by simp at e
  | _, _, 0, _, .cons h _, e => by
    simp at e
    subst e
    exact ⟨_, rfl, h⟩
  | _, _, i + 1, _, .cons _ a, e => by
    obtain ⟨v, h1, h2⟩ := DtAll.getV (i := i) a (by simpa using e)
    exact ⟨v, by simpa using h1, h2⟩
theorem DtAll.app : ∀ {vs ws : List V} {ds es : List PyData}, DtAll H vs ds → DtAll H ws es → DtAll H (vs ++ ws) (ds ++ es)
  | _, _, _, _, .nil, b => b
  | _, _, _, _, .cons h a, b => .cons h (DtAll.app a b)
theorem DtAll.snoc (a : DtAll H vs ds) (h : Dt H v d) : DtAll H (vs ++ [v]) (ds ++ [d]) := a.app (.cons h .nil)
theorem DtAll.take : ∀ {vs : List V} {ds : List PyData} (n : Nat), DtAll H vs ds → DtAll H (vs.take n) (ds.take n)
  | _, _, 0, _ => .nil
  | _, _, _ + 1, .nil => .nil
  | _, _, n + 1, .cons h a => .cons h (DtAll.take n a)
theorem DtAll.drop : ∀ {vs : List V} {ds : List PyData} (n : Nat), DtAll H vs ds → DtAll H (vs.drop n) (ds.drop n)
  | _, _, 0, a => a
  | _, _, _ + 1, .nil => .nil
  | _, _, n + 1, .cons _ a => DtAll.drop n a
theorem DtAll.set : ∀ {vs : List V} {ds : List PyData} (i : Nat), DtAll H vs ds → Dt H v d → DtAll H (vs.set i v) (ds.set i d)
  | _, _, _, .nil, _ => .nil
  | _, _, 0, .cons _ a, h => .cons h a
  | _, _, i + 1, .cons g a, h => .cons g (DtAll.set i a h)
theorem DtAll.rev : ∀ {vs : List V} {ds : List PyData}, DtAll H vs ds → DtAll H vs.reverse ds.reverse
  | _, _, .nil => .nil
  | _, _, .cons h a => by
    rw [List.reverse_cons, List.reverse_cons]
    exact (DtAll.rev a).snoc h
end
/-- what atI does, of data -/
theorem DtAll.atI {H : Hp} {vs : List V} {ds : List PyData} {i : Int} {d : PyData} (a : DtAll H vs ds) (h : L2.atI ds i = some d) : ∃ v, L2.atI vs i = some v ∧ Dt H v d := by
  unfold L2.atI at h ⊢
  rw [a.len]
  cases q : ixN ds.length i with
  | none =>
    rw [q] at h
    cases h
  | some j =>
    rw [q] at h
    obtain ⟨v, h1, h2⟩ := a.get (i := j) (d := d) h
    exact ⟨v, h1, h2⟩
/-- a slice, of data -/
def cutD (xs : List PyData) (lo hi : Option Int) : List PyData := (xs.drop (HT.sIx xs.length 0 lo)).take (HT.sIx xs.length xs.length hi - HT.sIx xs.length 0 lo)
theorem DtAll.cut {H : Hp} {vs : List V} {ds : List PyData} (lo hi : Option Int) (a : DtAll H vs ds) : DtAll H (cutV vs lo hi) (cutD ds lo hi) := by
  unfold cutV cutD
  rw [a.len]
  exact (a.drop _).take _
theorem DtAll.ints {H : Hp} : ∀ ns : List Int, DtAll H (ns.map V.int) (ns.map PyData.int)
  | [] => .nil
  | n :: ns => .cons (.int n) (DtAll.ints ns)
theorem DtAll.ints_ {H : Hp} : ∀ {vs : List V} {ns : List Int}, DtAll H vs (ns.map PyData.int) → vs = ns.map V.int
  | vs, [], h => h.nil_
  | vs, n :: ns, h => by
    obtain ⟨v, r, rfl, h1, h2⟩ := h.cons_
    rw [h1.int_, DtAll.ints_ h2]
    rfl
theorem DtAll.strs_ {H : Hp} : ∀ {vs : List V} {ns : List Str}, DtAll H vs (ns.map PyData.str) → vs = ns.map V.str
  | vs, [], h => h.nil_
  | vs, n :: ns, h => by
    obtain ⟨v, r, rfl, h1, h2⟩ := h.cons_
    rw [h1.str_, DtAll.strs_ h2]
    rfl
theorem DtAll.bools_ {H : Hp} : ∀ {vs : List V} {ns : List Bool}, DtAll H vs (ns.map PyData.bool) → vs = ns.map V.bl
  | vs, [], h => h.nil_
  | vs, n :: ns, h => by
    obtain ⟨v, r, rfl, h1, h2⟩ := h.cons_
    rw [h1.bool_, DtAll.bools_ h2]
    rfl
end WB
/-! What a reading makes of data. -/
namespace WB
open PySem PySem.Spec PyProof.Rows L2 Evl

/-- what is known behind: F, and what is new since H1 -/
def nw (F H1 H2 : Hp) : Hp := fun a => match H1 a with
  | none => H2 a
  | some _ => F a
/-- nothing that stood is gone -/
def Dm (H H' : Hp) : Prop := ∀ a, H' a = none → H a = none
theorem exdm {H H' : Hp} (e : Ex H H') : Dm H H' := fun a h => fresh_back e h
theorem Dm.trans {H H1 H2 : Hp} (a : Dm H H1) (b : Dm H1 H2) : Dm H H2 := fun x h => a x (b x h)
theorem Dm.refl (H : Hp) : Dm H H := fun _ h => h
theorem nw_n {F H1 H2 : Hp} {a : Addr} (h : H1 a = none) : nw F H1 H2 a = H2 a := by unfold nw; rw [h]
theorem nw_s {F H1 H2 : Hp} {a : Addr} {o : HO} (h : H1 a = some o) : nw F H1 H2 a = F a := by unfold nw; rw [h]
theorem nw_ex {F H1 H2 : Hp} (e : Ex F H2) : Ex (nw F H1 H2) H2 := fun a o h => by
  cases q : H1 a with
  | none => rw [nw_n q] at h; exact h
  | some u => rw [nw_s q] at h; exact e a o h
theorem ex_nw {F H1 H2 : Hp} (e : Ex F H1) : Ex F (nw F H1 H2) := fun a o h => by rw [nw_s (e a o h)]; exact h
theorem nw_self {H H2 : Hp} (e : Ex H H2) : nw H H H2 = H2 := by
  funext a
  cases q : H a with
  | none => rw [nw_n q]
  | some u => rw [nw_s q, q, e a u q]
/-- what is new stays -/
def ExN (H1 H2 H3 : Hp) : Prop := ∀ a o, H1 a = none → H2 a = some o → H3 a = some o
theorem exexn {H1 H2 H3 : Hp} (e : Ex H2 H3) : ExN H1 H2 H3 := fun a o _ h => e a o h
theorem nw_r {F H1 H2 H3 : Hp} (e : ExN H1 H2 H3) : Ex (nw F H1 H2) (nw F H1 H3) := fun a o h => by
  cases q : H1 a with
  | none => rw [nw_n q] at h ⊢; exact e a o q h
  | some u => rw [nw_s q] at h ⊢; exact h
theorem nw_l {F H1 H2 H3 : Hp} (e : Ex F H1) (d : Dm H1 H2) : Ex (nw F H2 H3) (nw F H1 H3) := fun a o h => by
  cases q : H2 a with
  | none => rw [nw_n q] at h; rw [nw_n (d a q)]; exact h
  | some u =>
    rw [nw_s q] at h
    rw [nw_s (e a o h)]
    exact h
theorem nw_f {F F' H1 H2 : Hp} (e : Ex F F') : Ex (nw F H1 H2) (nw F' H1 H2) := fun a o h => by
  cases q : H1 a with
  | none => rw [nw_n q] at h ⊢; exact h
  | some u => rw [nw_s q] at h ⊢; exact e a o h
theorem nw_none {F H1 H2 : Hp} {a : Addr} {o : HO} (h : H1 a = some o) (hF : F a = none) : nw F H1 H2 a = none := by rw [nw_s h, hF]
/-- te gives d from every heap over F; what it gives is of F or new -/
def EvD (te : TE) (σ : L2.St) (F : Hp) (d : PyData) : Prop := ∀ H1, Ex F H1 → ∀ Q : VK, (∀ v H2, Ex H1 H2 → Dt (nw F H1 H2) v d → Q v H2) → te σ H1 Q
def EvDA (ta : TA) (σ : L2.St) (F : Hp) (ds : List PyData) : Prop := ∀ H1, Ex F H1 → ∀ Q : List V → Hp → Prop, (∀ vs H2, Ex H1 H2 → DtAll (nw F H1 H2) vs ds → Q vs H2) → ta σ H1 Q
/-- a scalar, its value -/
def sc : PyData → Option V
  | .none => some .non
  | .bool b => some (.bl b)
  | .int i => some (.int i)
  | .str x => some (.str x)
  | _ => none
theorem dt_sc {H : Hp} {v u : V} {d : PyData} (h : Dt H v d) (e : sc d = some u) : v = u := by
  cases h <;> first | (exact Option.some.inj e) | (cases e)
theorem sc_dt {H : Hp} {u : V} {d : PyData} (e : sc d = some u) : Dt H u d := by
  cases d <;> first | (cases e; done) | (cases e; constructor)
section
variable {K : PySem.W.Frag} {σ : L2.St} {F F' H H' : Hp} {ta tb te tx : TE} {t u : TT} {d d1 d2 : PyData} {v : V} {r : R2}
theorem EvD.mono (e : Ex F F') (h : EvD te σ F d) : EvD te σ F' d := fun H1 a Q q => h H1 (e.trans a) Q fun v H2 e2 hv => q v H2 e2 (hv.ex (nw_f e))
theorem EvDA.mono {ta : TA} {ds : List PyData} (e : Ex F F') (h : EvDA ta σ F ds) : EvDA ta σ F' ds := fun H1 a Q q => h H1 (e.trans a) Q fun v H2 e2 hv => q v H2 e2 (hv.ex (nw_f e))
theorem EvD.ev {u : V} (h : EvD te σ F d) (e : sc d = some u) : Ev te σ F u := fun H1 a Q q => h H1 a Q fun v H2 e2 hd => by
  cases dt_sc hd e
  exact q H2 e2
theorem evd_of {u : V} (h : Ev te σ F u) (e : sc d = some u) : EvD te σ F d := fun H1 a Q q => h H1 a Q fun H2 e2 => q u H2 e2 (sc_dt e)
theorem EvD.evi {i : Int} (h : EvD te σ F (.int i)) : Ev te σ F (.int i) := h.ev rfl
theorem EvD.evb {i : Bool} (h : EvD te σ F (.bool i)) : Ev te σ F (.bl i) := h.ev rfl
theorem EvD.evs {i : Str} (h : EvD te σ F (.str i)) : Ev te σ F (.str i) := h.ev rfl
theorem EvD.is {e : PyData} (h : EvD te σ F d) (q : d = e) : EvD te σ F e := q ▸ h
theorem EvDA.is {ta : TA} {ds es : List PyData} (h : EvDA ta σ F ds) (q : ds = es) : EvDA ta σ F es := q ▸ h
/-- a value that stands for data -/
theorem ev_data {u : V} (h : Ev te σ F u) (hd : Dt F u d) : EvD te σ F d := fun H1 a Q q => h H1 a Q fun H2 e2 => q u H2 e2 (hd.ex (ex_nw a))
theorem d_var {i : Nat} (h : σ[i]? = some (some v)) (hd : Dt F v d) : EvD (tVar i) σ F d := fun H1 e _ q => ⟨v, h, q v H1 (Ex.refl H1) (hd.ex (ex_nw e))⟩
theorem d_int {i : Int} : EvD (tC (.int i)) σ F (.int i) := fun H1 _ _ q => q _ H1 (Ex.refl H1) (.int i)
theorem d_str {i : Str} : EvD (tC (.str i)) σ F (.str i) := fun H1 _ _ q => q _ H1 (Ex.refl H1) (.str i)
theorem d_bl {i : Bool} : EvD (tC (.bl i)) σ F (.bool i) := fun H1 _ _ q => q _ H1 (Ex.refl H1) (.bl i)
theorem d_non : EvD (tC .non) σ F .none := fun H1 _ _ q => q _ H1 (Ex.refl H1) .non
/-- one evaluation behind another: what was known and new then, is now -/
theorem dt_on {H1 H2 H3 : Hp} (h : Dt (nw F H1 H2) v d) (e : Ex H2 H3) : Dt (nw F H1 H3) v d := h.ex (nw_r (exexn e))
theorem dta_on {H1 H2 H3 : Hp} {vs : List V} {ds : List PyData} (h : DtAll (nw F H1 H2) vs ds) (e : Ex H2 H3) : DtAll (nw F H1 H3) vs ds := h.ex (nw_r (exexn e))
theorem dt_up {H1 H2 H3 : Hp} (h : Dt (nw F H2 H3) v d) (e : Ex F H1) (e2 : Ex H1 H2) : Dt (nw F H1 H3) v d := h.ex (nw_l e (exdm e2))
theorem dta_up {H1 H2 H3 : Hp} {vs : List V} {ds : List PyData} (h : DtAll (nw F H2 H3) vs ds) (e : Ex F H1) (e2 : Ex H1 H2) : DtAll (nw F H1 H3) vs ds := h.ex (nw_l e (exdm e2))
theorem ls_new {H1 H2 : Hp} {p : Addr} {xs : List V} {ds : List PyData} (e2 : Ex H1 H2) (hp : H2 p = none) (a : DtAll (nw F H1 H2) xs ds) : Dt (nw F H1 (upd H2 p (.lst xs))) (.ref p) (.list ds) :=
  .lst (by rw [nw_n (exdm e2 p hp), upd_same]) (dta_on a (Ex.new hp))
theorem tp_new {H1 H2 : Hp} {p : Addr} {xs : List V} {ds : List PyData} (e2 : Ex H1 H2) (hp : H2 p = none) (a : DtAll (nw F H1 H2) xs ds) : Dt (nw F H1 (upd H2 p (.tup xs))) (.ref p) (.tuple ds) :=
  .tup (by rw [nw_n (exdm e2 p hp), upd_same]) (dta_on a (Ex.new hp))
/-- what an operation on data asks -/
def OpD (r : R2) (F : Hp) (d1 d2 d : PyData) : Prop := ∀ H1 H2, Ex F H1 → Ex H1 H2 → ∀ x y, Dt (nw F H1 H2) x d1 → Dt (nw F H1 H2) y d2 → ∀ Q : VK, (∀ v H3, Ex H2 H3 → Dt (nw F H1 H3) v d → Q v H3) → r x y H2 Q
theorem d_op (ha : EvD ta σ F d1) (hb : EvD tb σ F d2) (hr : OpD r F d1 d2 d) : EvD (tOp r ta tb) σ F d := fun H1 e Q q =>
  ha H1 e _ fun x H2 e2 hx => hb H2 (e.trans e2) _ fun y H3 e3 hy => hr H1 H3 e (e2.trans e3) x y (dt_on hx e3) (dt_up hy e e2) Q fun v H4 e4 hv => q v H4 ((e2.trans e3).trans e4) hv
/-- the operation gives a value, the heap as it is -/
theorem opS {z : V} (hz : sc d = some z) (h : ∀ H2 x y, Dt H2 x d1 → Dt H2 y d2 → ∀ Q : VK, Q z H2 → r x y H2 Q) : OpD r F d1 d2 d := fun H1 H2 e e2 x y hx hy Q q =>
  h H2 x y (hx.ex (nw_ex (e.trans e2))) (hy.ex (nw_ex (e.trans e2))) Q (q z H2 (Ex.refl H2) (sc_dt hz))
theorem d_add {i j : Int} (ha : EvD ta σ F (.int i)) (hb : EvD tb σ F (.int j)) : EvD (tOp (rI0 fun i j => .int (i + j)) ta tb) σ F (.int (i + j)) :=
  d_op ha hb (opS rfl fun H1 x y hx hy Q q => ⟨i, j, hx.int_, hy.int_, q⟩)
theorem d_sub {i j : Int} (ha : EvD ta σ F (.int i)) (hb : EvD tb σ F (.int j)) : EvD (tOp (rI0 fun i j => .int (i - j)) ta tb) σ F (.int (i - j)) :=
  d_op ha hb (opS rfl fun H1 x y hx hy Q q => ⟨i, j, hx.int_, hy.int_, q⟩)
theorem d_cmp {p : Int → Int → Bool} {i j : Int} (ha : EvD ta σ F (.int i)) (hb : EvD tb σ F (.int j)) : EvD (tOp (rI0 fun i j => .bl (p i j)) ta tb) σ F (.bool (p i j)) :=
  d_op ha hb (opS rfl fun H1 x y hx hy Q q => ⟨i, j, hx.int_, hy.int_, q⟩)
theorem d_opI {C : Int → Int → Prop} {g : Int → Int → Int} {i j : Int} (ha : EvD ta σ F (.int i)) (hb : EvD tb σ F (.int j)) (hc : C i j) : EvD (tOp (rI C fun i j => .int (g i j)) ta tb) σ F (.int (g i j)) :=
  d_op ha hb (opS rfl fun H1 x y hx hy Q q => ⟨i, j, hx.int_, hy.int_, hc, q⟩)
theorem d_cat {a b : Str} (ha : EvD ta σ F (.str a)) (hb : EvD tb σ F (.str b)) (hz : a.length + b.length ≤ sizeLine) :
    EvD (tOp (fun x y H Q => ∃ i j, x = .str i ∧ y = .str j ∧ i.length + j.length ≤ sizeLine ∧ Q (.str (i ++ j)) H) ta tb) σ F (.str (a ++ b)) :=
  d_op ha hb (opS rfl fun H1 x y hx hy Q q => ⟨a, b, hx.str_, hy.str_, hz, q⟩)
/-- == and != of scalars -/
theorem d_eq {x y : V} (ha : EvD ta σ F d1) (hb : EvD tb σ F d2) (ea : sc d1 = some x := by rfl) (eb : sc d2 = some y := by rfl) (h : scal x y = true := by rfl) : EvD (tOp rEq ta tb) σ F (.bool (decide (x = y))) :=
  d_op ha hb (opS rfl fun H1 x' y' hx hy Q q => by
    cases dt_sc hx ea
    cases dt_sc hy eb
    exact ⟨h, q⟩)
theorem d_ne {x y : V} (ha : EvD ta σ F d1) (hb : EvD tb σ F d2) (ea : sc d1 = some x := by rfl) (eb : sc d2 = some y := by rfl) (h : scal x y = true := by rfl) : EvD (tOp rNe ta tb) σ F (.bool (!decide (x = y))) :=
  d_op ha hb (opS rfl fun H1 x' y' hx hy Q q => by
    cases dt_sc hx ea
    cases dt_sc hy eb
    exact ⟨h, q⟩)
theorem d_eqD (ha : EvD ta σ F d1) (hb : EvD tb σ F d2) (p1 : plainD d1 = true) (p2 : plainD d2 = true) (s1 : SeqAt.shaped d1 = true) (s2 : SeqAt.shaped d2 = true) : EvD (tOp (rEqD K) ta tb) σ F (.bool (PyData.eqv d1 d2)) :=
  d_op ha hb (opS rfl fun H1 x y hx hy Q q => ⟨d1, d2, hx.dp p1, hy.dp p2, s1, s2, q⟩)
theorem d_neD (ha : EvD ta σ F d1) (hb : EvD tb σ F d2) (p1 : plainD d1 = true) (p2 : plainD d2 = true) (s1 : SeqAt.shaped d1 = true) (s2 : SeqAt.shaped d2 = true) : EvD (tOp (rNeD K) ta tb) σ F (.bool (!PyData.eqv d1 d2)) :=
  d_op ha hb (opS rfl fun H1 x y hx hy Q q => ⟨d1, d2, hx.dp p1, hy.dp p2, s1, s2, q⟩)
def isNone : PyData → Bool
  | .none => true
  | _ => false
theorem d_isN (ha : EvD ta σ F d1) : EvD (tOp (fun x y H Q => y = .non ∧ Q (.bl (decide (x = .non))) H) ta (tC .non)) σ F (.bool (isNone d1)) :=
  d_op ha d_non (opS rfl fun H1 x y hx hy Q q => ⟨hy.none_, by
    cases hx <;> exact q⟩)
theorem d_notN (ha : EvD ta σ F d1) : EvD (tOp (fun x y H Q => y = .non ∧ Q (.bl (!decide (x = .non))) H) ta (tC .non)) σ F (.bool (!isNone d1)) :=
  d_op ha d_non (opS rfl fun H1 x y hx hy Q q => ⟨hy.none_, by
    cases hx <;> exact q⟩)
/-- items -/
theorem d_ixL {ds : List PyData} {i : Int} (ha : EvD ta σ F (.list ds)) (hb : EvD tb σ F (.int i)) (h : atI ds i = some d) : EvD (tOp (rIxL K) ta tb) σ F d :=
  d_op ha hb fun H1 H2 e e2 x y hx hy Q q => by
    obtain ⟨a, xs, rfl, h1, h2⟩ := hx.list_
    obtain ⟨v, h3, h4⟩ := h2.atI h
    exact ⟨a, xs, i, v, rfl, hy.int_, SqL.of (nw_ex (e.trans e2) _ _ h1), h3, q v H2 (Ex.refl H2) h4⟩
theorem d_ixT {ds : List PyData} {i : Int} (ha : EvD ta σ F (.tuple ds)) (hb : EvD tb σ F (.int i)) (h : atI ds i = some d) : EvD (tOp (rIxT K) ta tb) σ F d :=
  d_op ha hb fun H1 H2 e e2 x y hx hy Q q => by
    obtain ⟨a, xs, rfl, h1, h2⟩ := hx.tuple_
    obtain ⟨v, h3, h4⟩ := h2.atI h
    exact ⟨a, xs, i, v, rfl, hy.int_, SqT.of (nw_ex (e.trans e2) _ _ h1), h3, q v H2 (Ex.refl H2) h4⟩
theorem d_ixS {z : Str} {i : Int} {c : Nat} (ha : EvD ta σ F (.str z)) (hb : EvD tb σ F (.int i)) (hz : z.length ≤ sizeLine) (h : atI z.cps.toList i = some c) : EvD (tOp rIxS ta tb) σ F (.str ⟨#[c]⟩) :=
  d_op ha hb (opS rfl fun H1 x y hx hy Q q => ⟨z, i, c, hx.str_, hy.int_, hz, h, q⟩)
/-- list + list -/
theorem d_catL {ds es : List PyData} (ha : EvD ta σ F (.list ds)) (hb : EvD tb σ F (.list es)) (hz : ds.length + es.length ≤ sizeLine) : EvD (tOp rCat ta tb) σ F (.list (ds ++ es)) :=
  d_op ha hb fun H1 H2 e e2 x y hx hy Q q => by
    obtain ⟨a, xs, rfl, h1, h2⟩ := hx.list_
    obtain ⟨b, zs, rfl, h3, h4⟩ := hy.list_
    exact ⟨a, b, xs, zs, rfl, rfl, nw_ex (e.trans e2) _ _ h1, nw_ex (e.trans e2) _ _ h3, by rw [h2.len, h4.len]; exact hz, fun p hp => q _ _ (Ex.new hp) (ls_new e2 hp (h2.app h4))⟩
/-- arguments, tuples, lists -/
theorem da_nil : EvDA tNil σ F [] := fun H1 _ _ q => q [] H1 (Ex.refl H1) .nil
theorem da_cons {tr : TA} {ds : List PyData} (h : EvD ta σ F d) (hr : EvDA tr σ F ds) : EvDA (tCons ta tr) σ F (d :: ds) := fun H1 e _ q =>
  h H1 e _ fun x H2 e2 hx => hr H2 (e.trans e2) _ fun xs H3 e3 hxs => q (x :: xs) H3 (e2.trans e3) (.cons (dt_on hx e3) (dta_up hxs e e2))
theorem d_tup {ta : TA} {ds : List PyData} (h : EvDA ta σ F ds) (hz : ds.length ≤ 100000 := by simp) : EvD (tTup ta) σ F (.tuple ds) := fun H1 e _ q =>
  h H1 e _ fun xs H2 e2 hx => ⟨by rw [hx.len]; exact sz_of hz, fun p hp => q _ _ (e2.trans (Ex.new hp)) (tp_new e2 hp hx)⟩
theorem d_lst {ta : TA} {ds : List PyData} (h : EvDA ta σ F ds) (hz : ds.length ≤ 100000 := by simp) : EvD (tLst ta) σ F (.list ds) := fun H1 e _ q =>
  h H1 e _ fun xs H2 e2 hx => ⟨by rw [hx.len]; exact sz_of hz, fun p hp => q _ _ (e2.trans (Ex.new hp)) (ls_new e2 hp hx)⟩
/-- a if c else b -/
theorem d_if {b : Bool} (h : EvT t σ F b) (h1 : b = true → EvD ta σ F d) (h2 : b = false → EvD tb σ F d) : EvD (tIf t ta tb) σ F d := fun H1 e Q q => h H1 e _ fun H2 e2 => by
  cases b with
  | true => exact h1 rfl H2 (e.trans e2) Q fun v H3 e3 hv => q v H3 (e2.trans e3) (dt_up hv e e2)
  | false => exact h2 rfl H2 (e.trans e2) Q fun v H3 e3 hv => q v H3 (e2.trans e3) (dt_up hv e e2)
/-- a test by its value -/
theorem t_val {b : Bool} (h : EvD te σ F (.bool b)) : EvT (tTest te) σ F b := et_test h.evb
theorem t_B {b : Bool} (h : EvD te σ F (.bool b)) : EvT (tB te) σ F b := et_B h.evb
theorem d_and {a b : Bool} (h1 : EvD ta σ F (.bool a)) (h2 : a = true → EvD tb σ F (.bool b)) : EvD (tAndV ta tb) σ F (.bool (a && b)) := evd_of (ev_andV h1.evb fun e => (h2 e).evb) rfl
theorem d_or {a b : Bool} (h1 : EvD ta σ F (.bool a)) (h2 : a = false → EvD tb σ F (.bool b)) : EvD (tOrV ta tb) σ F (.bool (a || b)) := evd_of (ev_orV h1.evb fun e => (h2 e).evb) rfl
theorem d_not {a : Bool} (h1 : EvD ta σ F (.bool a)) : EvD (tNotV ta) σ F (.bool (!a)) := evd_of (ev_notV h1.evb) rfl
/-- slices -/
theorem do_none : EvO tNoPart σ F none := eo_none
theorem do_some {i : Int} (h : EvD te σ F (.int i)) : EvO (tPart te) σ F (some i) := eo_some h.evi
theorem d_slL {tl th : TO} {ds : List PyData} {lo hi : Option Int} (h : EvD te σ F (.list ds)) (h1 : EvO tl σ F lo) (h2 : EvO th σ F hi) : EvD (tSl (rSlL K) te tl th) σ F (.list (cutD ds lo hi)) := fun H1 e _ q =>
  h H1 e _ fun x H2 e2 hx => h1 H2 (e.trans e2) _ fun H3 e3 => h2 H3 ((e.trans e2).trans e3) _ fun H4 e4 => by
    have e24 := (e2.trans e3).trans e4
    obtain ⟨a, xs, rfl, g1, g2⟩ := (dt_on hx (e3.trans e4)).list_
    exact ⟨a, xs, rfl, SqL.of (nw_ex (e.trans e24) _ _ g1), fun p hp => q _ _ (e24.trans (Ex.new hp)) (ls_new e24 hp (g2.cut lo hi))⟩
theorem d_slS {tl th : TO} {z : Str} {lo hi : Option Int} (h : EvD te σ F (.str z)) (h1 : EvO tl σ F lo) (h2 : EvO th σ F hi) (hz : z.length ≤ sizeLine) : EvD (tSl rSlS te tl th) σ F (.str (cutS z lo hi)) := fun H1 e _ q =>
  h H1 e _ fun x H2 e2 hx => h1 H2 (e.trans e2) _ fun H3 e3 => h2 H3 ((e.trans e2).trans e3) _ fun H4 e4 => by
    exact ⟨z, hx.str_, hz, q _ _ ((e2.trans e3).trans e4) (.str _)⟩
/-- built-ins -/
def CbD (r : List V → Hp → VK → Prop) (F : Hp) (ds : List PyData) (d : PyData) : Prop := ∀ H1 H2, Ex F H1 → Ex H1 H2 → ∀ xs, DtAll (nw F H1 H2) xs ds → ∀ Q : VK, (∀ v H3, Ex H2 H3 → Dt (nw F H1 H3) v d → Q v H3) → r xs H2 Q
theorem d_cb {r : List V → Hp → VK → Prop} {ta : TA} {ds : List PyData} (h : EvDA ta σ F ds) (hr : CbD r F ds d) : EvD (tCB r ta) σ F d := fun H1 e Q q =>
  h H1 e _ fun xs H2 e2 hx => hr H1 H2 e e2 xs hx Q fun v H3 e3 hv => q v H3 (e2.trans e3) hv
theorem da1_ {xs : List V} (h : DtAll H xs [d]) : ∃ x, xs = [x] ∧ Dt H x d := by
  obtain ⟨x, r, rfl, h1, h2⟩ := h.cons_
  cases h2.nil_
  exact ⟨x, rfl, h1⟩
theorem da2_ {xs : List V} (h : DtAll H xs [d1, d2]) : ∃ x y, xs = [x, y] ∧ Dt H x d1 ∧ Dt H y d2 := by
  obtain ⟨x, r, rfl, h1, h2⟩ := h.cons_
  obtain ⟨y, rfl, h3⟩ := da1_ h2
  exact ⟨x, y, rfl, h1, h3⟩
theorem da3_ {d3 : PyData} {xs : List V} (h : DtAll H xs [d1, d2, d3]) : ∃ x y z, xs = [x, y, z] ∧ Dt H x d1 ∧ Dt H y d2 ∧ Dt H z d3 := by
  obtain ⟨x, r, rfl, h1, h2⟩ := h.cons_
  obtain ⟨y, z, rfl, h3, h4⟩ := da2_ h2
  exact ⟨x, y, z, rfl, h1, h3, h4⟩
theorem da4_ {d3 d4 : PyData} {xs : List V} (h : DtAll H xs [d1, d2, d3, d4]) : ∃ x y z u, xs = [x, y, z, u] ∧ Dt H x d1 ∧ Dt H y d2 ∧ Dt H z d3 ∧ Dt H u d4 := by
  obtain ⟨x, r, rfl, h1, h2⟩ := h.cons_
  obtain ⟨y, z, u, rfl, h3, h4, h5⟩ := da3_ h2
  exact ⟨x, y, z, u, rfl, h1, h3, h4, h5⟩
/-- a built-in of one argument that gives a scalar -/
theorem cb1 {r : List V → Hp → VK → Prop} {z : V} (hz : sc d = some z) (h : ∀ H2 x, Dt H2 x d1 → ∀ Q : VK, Q z H2 → r [x] H2 Q) : CbD r F [d1] d := fun H1 H2 e e2 xs hx Q q => by
  obtain ⟨x, rfl, h1⟩ := da1_ hx
  exact h H2 x (h1.ex (nw_ex (e.trans e2))) Q (q z H2 (Ex.refl H2) (sc_dt hz))
abbrev rLenQ (K : PySem.W.Frag) : List V → Hp → VK → Prop := fun xs H Q => ∃ p ys, xs = [.ref p] ∧ (SqL K H p ys ∨ SqT K H p ys) ∧ Q (.int ys.length) H
theorem d_lenL {ds : List PyData} (h : EvD te σ F (.list ds)) : EvD (tCB (rLenQ K) (tCons te tNil)) σ F (.int (ds.length : Int)) := d_cb (da_cons h da_nil) (cb1 rfl fun H1 x hx Q q => by
  obtain ⟨a, ys, rfl, h2, h3⟩ := hx.list_
  exact ⟨a, ys, rfl, .inl (SqL.of h2), by rw [h3.len]; exact q⟩)
theorem d_lenT {ds : List PyData} (h : EvD te σ F (.tuple ds)) : EvD (tCB (rLenQ K) (tCons te tNil)) σ F (.int (ds.length : Int)) := d_cb (da_cons h da_nil) (cb1 rfl fun H1 x hx Q q => by
  obtain ⟨a, ys, rfl, h2, h3⟩ := hx.tuple_
  exact ⟨a, ys, rfl, .inr (SqT.of h2), by rw [h3.len]; exact q⟩)
theorem d_lenS {z : Str} (h : EvD te σ F (.str z)) (hz : z.length ≤ sizeLine) : EvD (tCB (fun xs H Q => ∃ z : Str, xs = [.str z] ∧ z.length ≤ sizeLine ∧ Q (.int z.length) H) (tCons te tNil)) σ F (.int (z.length : Int)) := d_cb (da_cons h da_nil) (cb1 rfl fun H1 x hx Q q => by
  cases hx.str_
  exact ⟨z, rfl, hz, q⟩)
abbrev rListQ (K : PySem.W.Frag) : List V → Hp → VK → Prop := fun xs H Q => ∃ p ys, xs = [.ref p] ∧ (SqL K H p ys ∨ SqT K H p ys) ∧ ∀ l, H l = none → Q (.ref l) (upd H l (.lst ys))
theorem d_listL {ds : List PyData} (h : EvD te σ F (.list ds)) : EvD (tCB (rListQ K) (tCons te tNil)) σ F (.list ds) := d_cb (da_cons h da_nil) fun H1 H2 e e2 xs hx Q q => by
  obtain ⟨x, rfl, h1⟩ := da1_ hx
  obtain ⟨a, ys, rfl, h2, h3⟩ := h1.list_
  exact ⟨a, ys, rfl, .inl (SqL.of (nw_ex (e.trans e2) _ _ h2)), fun l hl => q _ _ (Ex.new hl) (ls_new e2 hl h3)⟩
theorem d_listT {ds : List PyData} (h : EvD te σ F (.tuple ds)) : EvD (tCB (rListQ K) (tCons te tNil)) σ F (.list ds) := d_cb (da_cons h da_nil) fun H1 H2 e e2 xs hx Q q => by
  obtain ⟨x, rfl, h1⟩ := da1_ hx
  obtain ⟨a, ys, rfl, h2, h3⟩ := h1.tuple_
  exact ⟨a, ys, rfl, .inr (SqT.of (nw_ex (e.trans e2) _ _ h2)), fun l hl => q _ _ (Ex.new hl) (ls_new e2 hl h3)⟩
theorem d_allL {bs : List Bool} (h : EvD te σ F (.list (bs.map .bool))) : EvD (tCB (rAll K) (tCons te tNil)) σ F (.bool (bs.all id)) := d_cb (da_cons h da_nil) (cb1 rfl fun H1 x hx Q q => by
  obtain ⟨a, ys, rfl, h2, h3⟩ := hx.list_
  cases h3.bools_
  exact ⟨a, bs, rfl, SqL.of h2, q⟩)
theorem d_sumL {ns : List Int} (h : EvD te σ F (.list (ns.map .int))) : EvD (tCB (rSum K) (tCons te tNil)) σ F (.int ns.sum) := d_cb (da_cons h da_nil) (cb1 rfl fun H1 x hx Q q => by
  obtain ⟨a, ys, rfl, h2, h3⟩ := hx.list_
  cases h3.ints_
  exact ⟨a, ns, rfl, SqL.of h2, q⟩)
abbrev rIntQ : List V → Hp → VK → Prop := fun xs H Q => (∃ i, xs = [.int i] ∧ Q (.int i) H) ∨ ∃ k, xs = [.bl k] ∧ Q (.int (if k then 1 else 0)) H
theorem d_intI {i : Int} (h : EvD te σ F (.int i)) : EvD (tCB rIntQ (tCons te tNil)) σ F (.int i) := d_cb (da_cons h da_nil) (cb1 rfl fun H1 x hx Q q => by
  cases hx.int_
  exact .inl ⟨i, rfl, q⟩)
theorem d_intB {i : Bool} (h : EvD te σ F (.bool i)) : EvD (tCB rIntQ (tCons te tNil)) σ F (.int (if i then 1 else 0)) := d_cb (da_cons h da_nil) (cb1 rfl fun H1 x hx Q q => by
  cases hx.bool_
  exact .inr ⟨i, rfl, q⟩)
/-! isinstance of data -/
def tyD : PyData → Value
  | .none => .type "NoneType"
  | .bool _ => .type "bool"
  | .int _ => .type "int"
  | .str _ => .type "str"
  | .list _ => .type "list"
  | .tuple _ => .type "tuple"
  | .dict ((_, .int C) :: _) => .ref C.toNat
  | .dict _ => .type "dict"
/-- what stands for d is of this type -/
def HasTy (K : PySem.W.Frag) (d : PyData) : Prop := ∀ H v, Dt H v d → TyX K H v (tyD d)
def isIns : PyData → Bool
  | .dict (_ :: _) => true
  | _ => false
theorem ty_of (h : isIns d = false) : HasTy K d := fun H v hd => by
  cases hd with
  | non => exact .base .non
  | bl b => exact .base (.bl b)
  | int i => exact .base (.int i)
  | str x => exact .base (.str x)
  | lst h1 a => exact .base (.lst h1)
  | tup h1 a => exact .base (.tup h1)
  | emp h1 => exact .base (.dK h1)
  | ins h1 => cases h
theorem ty_ins {a C : Addr} (h : ∀ (H : Hp) (dx : Addr) (fs : List (Str × V)), H a = some (.ins C dx fs) → TyX K H (.ref a) (.ref C)) : HasTy K (.dict [(.int (a : Nat), .int (C : Nat))]) := fun H v hd => by
  generalize e : PyData.dict [(.int (a : Nat), .int (C : Nat))] = dd at hd
  cases hd with
  | @ins a' C' dx fs h1 =>
    have e1 : (a : Int) = (a' : Nat) := by injection e with e; injection e with e _; injection e with e _; injection e
    have e2 : (C : Int) = (C' : Nat) := by injection e with e; injection e with e _; injection e with _ e; injection e
    have e3 : a = a' := Int.ofNat.inj e1
    have e4 : C = C' := Int.ofNat.inj e2
    subst e3 e4
    exact h H dx fs h1
  | _ => cases e
theorem d_isi {n : String} {b : Bool} (h : EvD te σ F d) (ht : HasTy K d) (hb : PySem.W.kitOne K (tyD d) (.type n) = some b) : EvD (tCB (rIsi K) (tCons te (tCons (tC (.ty n)) tNil))) σ F (.bool b) := fun H1 e Q q =>
  h H1 e _ fun x H2 e2 hx => ⟨x, .ty n, _, _, b, rfl, .ty n, ht _ _ (hx.ex (nw_ex (e.trans e2))), hb, q _ H2 e2 (.bl b)⟩
/-- an own class -/
theorem d_isiO {C : Addr} {b : Bool} (h : EvD te σ F d) (ht : HasTy K d) (hb : PySem.W.kitOne K (tyD d) (.ref C) = some b) : EvD (tCB (rIsi K) (tCons te (tCons (tC (.ref C)) tNil))) σ F (.bool b) := fun H1 e Q q =>
  h H1 e _ fun x H2 e2 hx => ⟨x, .ref C, _, _, b, rfl, .own C, ht _ _ (hx.ex (nw_ex (e.trans e2))), hb, q _ H2 e2 (.bl b)⟩
theorem d_isiT2 {n1 n2 : String} {b : Bool} (h : EvD te σ F d) (ht : HasTy K d) (hb : PySem.W.kitAny K (tyD d) [.type n1, .type n2] = some b) : EvD (tCB (rIsiT K) (tCons te (tCons (tTup (tCons (tC (.ty n1)) (tCons (tC (.ty n2)) tNil))) tNil))) σ F (.bool b) := fun H1 e Q q =>
  h H1 e _ fun x H2 e2 hx => ⟨(show 2 ≤ sizeLine by decide), fun p hp => ⟨x, p, [.ty n1, .ty n2], _, [.type n1, .type n2], b, rfl, upd_same, .cons (.ty n1) (.cons (.ty n2) .nil), ht _ _ (hx.ex ((nw_ex (e.trans e2)).trans (Ex.new hp))), hb, q _ _ (e2.trans (Ex.new hp)) (.bl b)⟩⟩
theorem d_isiT4 {n1 n2 n3 n4 : String} {b : Bool} (h : EvD te σ F d) (ht : HasTy K d) (hb : PySem.W.kitAny K (tyD d) [.type n1, .type n2, .type n3, .type n4] = some b) : EvD (tCB (rIsiT K) (tCons te (tCons (tTup (tCons (tC (.ty n1)) (tCons (tC (.ty n2)) (tCons (tC (.ty n3)) (tCons (tC (.ty n4)) tNil))))) tNil))) σ F (.bool b) := fun H1 e Q q =>
  h H1 e _ fun x H2 e2 hx => ⟨(show 4 ≤ sizeLine by decide), fun p hp => ⟨x, p, [.ty n1, .ty n2, .ty n3, .ty n4], _, [.type n1, .type n2, .type n3, .type n4], b, rfl, upd_same, .cons (.ty n1) (.cons (.ty n2) (.cons (.ty n3) (.cons (.ty n4) .nil))), ht _ _ (hx.ex ((nw_ex (e.trans e2)).trans (Ex.new hp))), hb, q _ _ (e2.trans (Ex.new hp)) (.bl b)⟩⟩
/-! calls -/
/-- a promise about data alone: c the arguments' data, the answer's; F what the caller lets be known -/
def SpD (c : List PyData → PyData → Prop) : Sp := fun vs H Q _ => ∃ F ds r, Ex F H ∧ DtAll F vs ds ∧ c ds r ∧ ∀ v H', Ex H H' → Dt (nw F H H') v r → Q v H'
theorem SpD.len {c : List PyData → PyData → Prop} {n : Nat} (h : ∀ ds r, c ds r → ds.length = n) (vs : List V) (H : Hp) (Q : VK) (E : XK) (s : SpD c vs H Q E) : vs.length = n := by
  obtain ⟨F, ds, r, _, h1, h2, _⟩ := s
  rw [h1.len, h ds r h2]
theorem d_call {c : List PyData → PyData → Prop} {E : XK} {ta : TA} {ds : List PyData} (h : EvDA ta σ F ds) (hc : c ds d) : EvD (tCall (SpD c) [] E ta) σ F d := fun H1 e Q q =>
  h H1 e _ fun xs H2 e2 hx => by
    show SpD c (xs ++ []) H2 Q E
    rw [List.append_nil]
    refine ⟨nw F H1 H2, ds, d, nw_ex (e.trans e2), hx, hc, fun v H3 e3 hv => q v H3 (e2.trans e3) (hv.ex ?_)⟩
    intro a o ha
    cases z : H2 a with
    | none =>
      rw [nw_n z] at ha
      rw [nw_n (exdm e2 a z)]
      exact ha
    | some u =>
      rw [nw_s z] at ha
      exact nw_r (exexn e3) a o ha
end
end WB
/-! Statements over what is known. -/
namespace WB
open PySem PySem.Spec PyProof.Rows L2 Evl

/-- behind a call's start (F0 known of H0) F is known of H; M may be written -/
structure Kn (M : Addr → Prop) (F0 H0 F H : Hp) : Prop where
  f : Ex F0 F
  fh : Ex F H
  h : ∀ a o, ¬ M a → H0 a = some o → H a = some o
  dm : Dm H0 H
  nw : Ex F (nw F0 H0 H)
  md : ∀ a, M a → F a = none
  mh : ∀ a, M a → H0 a ≠ none
/-- nothing may be written -/
abbrev M0 : Addr → Prop := fun _ => False
section
variable {M : Addr → Prop} {F0 H0 F H F1 H1 F2 H2 : Hp}
theorem Kn.start (e : Ex F0 H0) : Kn M0 F0 H0 F0 H0 := ⟨Ex.refl _, e, fun _ _ _ h => h, Dm.refl _, ex_nw e, fun _ z => z.elim, fun _ z => z.elim⟩
theorem Kn.startM (e : Ex F0 H0) (md : ∀ a, M a → F0 a = none) (mh : ∀ a, M a → H0 a ≠ none) : Kn M F0 H0 F0 H0 := ⟨Ex.refl _, e, fun _ _ _ h => h, Dm.refl _, ex_nw e, md, mh⟩
/-- a change that keeps all but M -/
structure ExM (M : Addr → Prop) (H H1 : Hp) : Prop where
  k : ∀ a o, ¬ M a → H a = some o → H1 a = some o
  d : Dm H H1
theorem ExM.of (e : Ex H H1) : ExM M H H1 := ⟨fun a o _ h => e a o h, exdm e⟩
theorem ExM.trans (a : ExM M H H1) (b : ExM M H1 H2) : ExM M H H2 := ⟨fun c o n h => b.k c o n (a.k c o n h), a.d.trans b.d⟩
theorem ExM.ex (a : ExM M0 H H1) : Ex H H1 := fun c o h => a.k c o (fun z => z) h
/-- a step: from F known of H to F1 known of H1 -/
structure Stp (M : Addr → Prop) (F0 H0 F H F1 H1 : Hp) : Prop where
  kn : Kn M F0 H0 F1 H1
  ff : Ex F F1
  hm : ExM M H H1
  fr : ∀ a o, H a = some o → F a = none → F1 a = none
theorem Stp.hh (s : Stp M0 F0 H0 F H F1 H1) : Ex H H1 := s.hm.ex
/-- an address that is not known and not in M stands as it stood -/
theorem Stp.at_ {a : Addr} {o : HO} (s : Stp M F0 H0 F H F1 H1) (h : H a = some o) (n : ¬ M a) : H1 a = some o := s.hm.k a o n h
theorem Stp.trans (s : Stp M F0 H0 F H F1 H1) (t : Stp M F0 H0 F1 H1 F2 H2) : Stp M F0 H0 F H F2 H2 := ⟨t.kn, s.ff.trans t.ff, s.hm.trans t.hm, fun a o h n => by
  cases q : H1 a with
  | none => exact absurd (s.hm.d a q) (by rw [h]; intro z; cases z)
  | some u => exact t.fr a u q (s.fr a o h n)⟩
theorem Kn.stp (k : Kn M F0 H0 F H) : Stp M F0 H0 F H F H := ⟨k, Ex.refl _, ⟨fun _ _ _ h => h, Dm.refl _⟩, fun _ _ _ h => h⟩
theorem Kn.stepM (k : Kn M F0 H0 F H) (e : ExM M H H1) : Stp M F0 H0 F H (WB.nw F H H1) H1 where
  kn := {
    f := k.f.trans (ex_nw k.fh)
    fh := fun a o h => by
      cases q : H a with
      | none => rw [nw_n q] at h; exact h
      | some u =>
        rw [nw_s q] at h
        exact e.k a o (fun z => by rw [k.md a z] at h; cases h) (k.fh a o h)
    h := fun a o n h => e.k a o n (k.h a o n h)
    dm := k.dm.trans e.d
    nw := fun a o h => by
      cases q : H a with
      | none => rw [nw_n q] at h; rw [nw_n (k.dm a q)]; exact h
      | some u =>
        rw [nw_s q] at h
        have z := k.nw a o h
        cases q0 : H0 a with
        | none =>
          rw [nw_n q0] at z ⊢
          exact e.k a o (fun m => k.mh a m q0) z
        | some u0 => rw [nw_s q0] at z ⊢; exact z
    md := fun a m => by
      cases q : H a with
      | none => exact absurd (k.dm a q) (k.mh a m)
      | some u => rw [nw_s q]; exact k.md a m
    mh := k.mh }
  ff := ex_nw k.fh
  hm := e
  fr := fun a o h n => by rw [nw_s h]; exact n
/-- a step that writes nothing -/
structure StpE (M : Addr → Prop) (F0 H0 F H F1 H1 : Hp) : Prop extends Stp M F0 H0 F H F1 H1 where
  ex : Ex H H1
theorem StpE.trans (s : StpE M F0 H0 F H F1 H1) (t : StpE M F0 H0 F1 H1 F2 H2) : StpE M F0 H0 F H F2 H2 := ⟨s.toStp.trans t.toStp, s.ex.trans t.ex⟩
theorem Kn.step (k : Kn M F0 H0 F H) (e : Ex H H1) : StpE M F0 H0 F H (WB.nw F H H1) H1 := ⟨k.stepM (ExM.of e), e⟩
/-- a list of one's own, not known, is written -/
theorem Kn.upd_ {l : Addr} {o : HO} (k : Kn M F0 H0 F H) (hl : F l = none) (h0 : H0 l = none) : Kn M F0 H0 F (upd H l o) where
  f := k.f
  fh := fun a u h => by
    rw [upd_ne (fun z => by rw [z, hl] at h; cases h)]
    exact k.fh a u h
  h := fun a u n h => by
    rw [upd_ne (fun z => by rw [z, h0] at h; cases h)]
    exact k.h a u n h
  dm := fun a h => by
    by_cases z : a = l
    · rw [z]; exact h0
    · rw [upd_ne z] at h; exact k.dm a h
  nw := fun a u h => by
    have z : a ≠ l := fun z => by rw [z, hl] at h; cases h
    have q := k.nw a u h
    cases q0 : H0 a with
    | none => rw [nw_n q0] at q ⊢; rw [upd_ne z]; exact q
    | some u0 => rw [nw_s q0] at q ⊢; exact q
  md := k.md
  mh := k.mh
/-- .. and is known from now on -/
theorem Kn.know {l : Addr} {o : HO} (k : Kn M F0 H0 F H) (hl : F l = none) (h0 : H0 l = none) (hh : H l = some o) : Kn M F0 H0 (upd F l o) H where
  f := fun a u h => by
    rw [upd_ne (fun z => by rw [z] at h; rw [k.f l u h] at hl; cases hl)]
    exact k.f a u h
  fh := fun a u h => by
    by_cases z : a = l
    · rw [z, upd_same] at h; rw [z]; cases h; exact hh
    · rw [upd_ne z] at h; exact k.fh a u h
  h := k.h
  dm := k.dm
  nw := fun a u h => by
    by_cases z : a = l
    · rw [z, upd_same] at h; rw [z, nw_n h0]; cases h; exact hh
    · rw [upd_ne z] at h; exact k.nw a u h
  md := fun a m => by
    have z : a ≠ l := fun z => by rw [z] at m; exact k.mh l m h0
    rw [upd_ne z]; exact k.md a m
  mh := k.mh
theorem ex_know {l : Addr} {o : HO} (hl : F l = none) : Ex F (upd F l o) := fun a u h => by
  rw [upd_ne (fun z => by rw [z, hl] at h; cases h)]
  exact h
end

section
variable {M : Addr → Prop} {K : PySem.W.Frag} {F0 H0 F H : Hp} {σ : L2.St} {ta tb te tx : TE} {t u : TT} {d d1 d2 d3 : PyData} {v : V} {D : Ends} {tu tw : TS} {g : TG}
/-- an expression's data behind a step -/
theorem k_ev (kn : Kn M F0 H0 F H) (h : EvD te σ F d) (Q : VK) (k : ∀ v F1 H1, StpE M F0 H0 F H F1 H1 → Dt F1 v d → Q v H1) : te σ H Q := h H kn.fh Q fun v H1 e hv => k v _ H1 (kn.step e) hv
theorem k_eva {ta : TA} {ds : List PyData} (kn : Kn M F0 H0 F H) (h : EvDA ta σ F ds) (Q : List V → Hp → Prop) (k : ∀ vs F1 H1, StpE M F0 H0 F H F1 H1 → DtAll F1 vs ds → Q vs H1) : ta σ H Q := h H kn.fh Q fun v H1 e hv => k v _ H1 (kn.step e) hv
theorem k_asg {i : Nat} (kn : Kn M F0 H0 F H) (h : EvD te σ F d) (k : ∀ v F1 H1, StpE M F0 H0 F H F1 H1 → Dt F1 v d → D.nx (σ.set i (some v)) H1) : tAsg te (gName i) D σ H := k_ev kn h _ k
theorem k_ret (kn : Kn M F0 H0 F H) (h : EvD te σ F d) (k : ∀ v F1 H1, StpE M F0 H0 F H F1 H1 → Dt F1 v d → D.rt v H1) : tRet te D σ H := k_ev kn h _ k
theorem k_drop (kn : Kn M F0 H0 F H) (h : EvD te σ F d) (k : ∀ F1 H1, StpE M F0 H0 F H F1 H1 → D.nx σ H1) : tDrop te D σ H := k_ev kn h _ fun _ F1 H1 s _ => k F1 H1 s
theorem k_unp2 {i j : Nat} (kn : Kn M F0 H0 F H) (h : EvD te σ F (.tuple [d1, d2])) (k : ∀ x y F1 H1, StpE M F0 H0 F H F1 H1 → Dt F1 x d1 → Dt F1 y d2 → D.nx ((σ.set i (some x)).set j (some y)) H1) : tAsg te (gTup K 2 (gCons (gName i) (gCons (gName j) gNil))) D σ H := k_ev kn h _ fun v F1 H1 s hv => by
  obtain ⟨a, xs, rfl, h1, h2⟩ := hv.tuple_
  obtain ⟨x, y, rfl, h3, h4⟩ := da2_ h2
  exact ⟨a, _, rfl, SqT.of (s.kn.fh _ _ h1), rfl, x, [y], rfl, y, [], rfl, rfl, k x y F1 H1 s h3 h4⟩
theorem k_unp3 {i j l : Nat} (kn : Kn M F0 H0 F H) (h : EvD te σ F (.tuple [d1, d2, d3])) (k : ∀ x y z F1 H1, StpE M F0 H0 F H F1 H1 → Dt F1 x d1 → Dt F1 y d2 → Dt F1 z d3 → D.nx (((σ.set i (some x)).set j (some y)).set l (some z)) H1) : tAsg te (gTup K 3 (gCons (gName i) (gCons (gName j) (gCons (gName l) gNil)))) D σ H := k_ev kn h _ fun v F1 H1 s hv => by
  obtain ⟨a, xs, rfl, h1, h2⟩ := hv.tuple_
  obtain ⟨x, y, z, rfl, h3, h4, h5⟩ := da3_ h2
  exact ⟨a, _, rfl, SqT.of (s.kn.fh _ _ h1), rfl, x, [y, z], rfl, y, [z], rfl, z, [], rfl, rfl, k x y z F1 H1 s h3 h4 h5⟩
theorem k_par {i j : Nat} (kn : Kn M F0 H0 F H) (ha : EvD ta σ F d1) (hb : EvD tb σ F d2) (k : ∀ x y F1 H1, StpE M F0 H0 F H F1 H1 → Dt F1 x d1 → Dt F1 y d2 → D.nx ((σ.set i (some x)).set j (some y)) H1) : tPar i j (tCons ta (tCons tb tNil)) D σ H :=
  k_eva kn (da_cons ha (da_cons hb da_nil)) _ fun vs F1 H1 s h => by
    obtain ⟨x, y, rfl, h1, h2⟩ := da2_ h
    exact ⟨x, y, rfl, k x y F1 H1 s h1 h2⟩
theorem k_if {b : Bool} (kn : Kn M F0 H0 F H) (h : EvT t σ F b) (h1 : b = true → ∀ F1 H1, StpE M F0 H0 F H F1 H1 → tu D σ H1) (h2 : b = false → ∀ F1 H1, StpE M F0 H0 F H F1 H1 → tw D σ H1) : tIfS t tu tw D σ H := h H kn.fh _ fun H1 e => by
  cases b with
  | true => exact h1 rfl _ H1 (kn.step e)
  | false => exact h2 rfl _ H1 (kn.step e)
theorem k_aug {i : Nat} {f : Int → Int → Int} {a b : Int} (kn : Kn M F0 H0 F H) (hx : σ[i]? = some (some (.int a))) (h : EvD te σ F (.int b)) (k : ∀ F1 H1, StpE M F0 H0 F H F1 H1 → D.nx (σ.set i (some (.int (f a b)))) H1) : tAug i te (ipI f) D σ H :=
  ⟨.int a, hx, k_ev kn h _ fun v F1 H1 s hv => by
    cases hv.int_
    exact ⟨a, b, rfl, rfl, k F1 H1 s⟩⟩
/-- name = [..], a list of one's own -/
theorem k_new {i : Nat} {ta : TA} {ds : List PyData} (kn : Kn M F0 H0 F H) (h : EvDA ta σ F ds) (hz : ds.length ≤ 100000) (k : ∀ l xs F1 H1, StpE M F0 H0 F H F1 H1 → F1 l = none → H0 l = none → H1 l = some (.lst xs) → DtAll F1 xs ds → D.nx (σ.set i (some (.ref l))) H1) : tAsg (tLst ta) (gName i) D σ H :=
  h H kn.fh _ fun xs H1 e hx => ⟨by rw [hx.len]; exact sz_of hz, fun l hl => by
    have s := kn.step e
    have s2 : StpE M F0 H0 F H (WB.nw F H H1) (upd H1 l (.lst xs)) := ⟨⟨s.kn.upd_ (by rw [nw_n (exdm e l hl), hl]) (s.kn.dm l hl), s.ff, s.hm.trans (ExM.of (Ex.new hl)), s.fr⟩, e.trans (Ex.new hl)⟩
    exact k l xs _ _ s2 (by rw [nw_n (exdm e l hl), hl]) (s.kn.dm l hl) upd_same hx⟩
/-- xs.append(e), a list of one's own -/
theorem k_app {l : Addr} {xs : List V} (kn : Kn M F0 H0 F H) (hl : H l = some (.lst xs)) (hF : F l = none) (h0 : H0 l = none) (ha : Ev ta σ H (.ref l)) (h : EvD te σ F d) (hz : xs.length < 100000)
    (k : ∀ v F1 H1, Kn M F0 H0 F1 H1 → Ex F F1 → F1 l = none → Dt F1 v d → H1 l = some (.lst (xs ++ [v])) → (∀ a o, a ≠ l → H a = some o → H1 a = some o) → (∀ a o, H a = some o → F a = none → F1 a = none) → D.nx σ H1) :
    tDrop (tBM K "list" rAppend ta (tCons te tNil)) D σ H := ha H (Ex.refl H) _ fun H1 e1 =>
  ⟨Or.inl ⟨rfl, xs, sq_of (e1 l _ hl)⟩, h H1 (kn.fh.trans e1) _ fun v H2 e2 hv => ⟨l, xs, v, rfl, rfl, e2 l _ (e1 l _ hl), sz_lt hz, by
    have s := kn.step (e1.trans e2)
    have n := s.fr l _ hl hF
    refine k v _ _ (s.kn.upd_ n h0) s.ff n (hv.ex (nw_l kn.fh (exdm e1))) upd_same (fun a o ne h => by rw [upd_ne ne]; exact e2 a o (e1 a o h)) s.fr⟩⟩
end
end WB
/-! Walks over data: for, comprehensions. -/
namespace WB
open PySem PySem.Spec PyProof.Rows L2 Evl

/-- all but l -/
def but (G : Hp) (l : Addr) : Hp := fun a => if a = l then none else G a
theorem but_same {G : Hp} {l : Addr} : but G l l = none := if_pos rfl
theorem but_ne {G : Hp} {l a : Addr} (h : a ≠ l) : but G l a = G a := if_neg h
/-- a walk that yields these, from every heap over G -/
structure ItD (J : It) (G : Hp) (items : List PyData) : Prop where
  go : ∀ i H, Ex G H → i < items.length → J.go i H
  yld : ∀ i H x H', Ex G H → i < items.length → J.yld i H x H' → Ex H H' ∧ ∀ d, items[i]? = some d → Dt (nw G H H') x d
  stop : ∀ i H, Ex G H → items.length ≤ i → J.stop i H
def WkD (wi : TI) (σ : L2.St) (F : Hp) (items : List PyData) : Prop := ∀ H1, Ex F H1 → ∀ R : It → Hp → Prop, (∀ J H2, Ex H1 H2 → ItD J (nw F H1 H2) items → R J H2) → wi σ H1 R
section
variable {K : PySem.W.Frag} {σ : L2.St} {F F' H H' : Hp} {ta tb te tx tl : TE} {t u : TT} {d d1 d2 : PyData} {v : V} {r : R2} {ds : List PyData} {wi : TI}
theorem WkD.mono (e : Ex F F') (h : WkD wi σ F ds) : WkD wi σ F' ds := fun H1 a R q => h H1 (e.trans a) R fun J H2 e2 hj => q J H2 e2 ⟨fun i H x y => hj.go i H ((nw_f e).trans x) y, fun i H x H' a b c => by
    obtain ⟨h1, h2⟩ := hj.yld i H x H' ((nw_f e).trans a) b c
    exact ⟨h1, fun d hd => (h2 d hd).ex (nw_f (nw_f e))⟩, fun i H x y => hj.stop i H ((nw_f e).trans x) y⟩
theorem itd_list {G : Hp} {a : Addr} {xs : List V} (h : G a = some (.lst xs)) (hd : DtAll G xs ds) : ItD (Itl K a) G ds where
  go := fun i H e hi => by
    have hl : i < xs.length := by rw [hd.len]; exact hi
    exact ⟨xs, xs[i], SqL.of (e _ _ h), List.getElem?_eq_getElem hl⟩
  yld := fun i H x H' e hi ⟨e1, e2⟩ => by
    subst e1
    refine ⟨Ex.refl _, fun d hdd => ?_⟩
    obtain ⟨v, h1, h2⟩ := hd.get hdd
    have z := e2 xs (SqL.of (e _ _ h))
    rw [h1] at z
    cases z
    exact h2.ex (ex_nw e)
  stop := fun i H e hi => ⟨xs, SqL.of (e _ _ h), by rw [hd.len]; exact hi⟩
theorem itd_tup {G : Hp} {a : Addr} {xs : List V} (h : G a = some (.tup xs)) (hd : DtAll G xs ds) : ItD (Itt K a) G ds where
  go := fun i H e hi => by
    have hl : i < xs.length := by rw [hd.len]; exact hi
    exact ⟨xs, xs[i], SqT.of (e _ _ h), List.getElem?_eq_getElem hl⟩
  yld := fun i H x H' e hi ⟨e1, e2⟩ => by
    subst e1
    refine ⟨Ex.refl _, fun d hdd => ?_⟩
    obtain ⟨v, h1, h2⟩ := hd.get hdd
    have z := e2 xs (SqT.of (e _ _ h))
    rw [h1] at z
    cases z
    exact h2.ex (ex_nw e)
  stop := fun i H e hi => ⟨xs, SqT.of (e _ _ h), by rw [hd.len]; exact hi⟩
theorem wk_list (h : EvD tl σ F (.list ds)) : WkD (iList K tl) σ F ds := fun H1 e R q => h H1 e _ fun v H2 e2 hv => by
  obtain ⟨a, xs, rfl, h1, h2⟩ := hv.list_
  exact ⟨a, rfl, ⟨xs, SqL.of (nw_ex (e.trans e2) _ _ h1)⟩, q _ H2 e2 (itd_list h1 h2)⟩
theorem wk_tup (h : EvD tl σ F (.tuple ds)) : WkD (iTup K tl) σ F ds := fun H1 e R q => h H1 e _ fun v H2 e2 hv => by
  obtain ⟨a, xs, rfl, h1, h2⟩ := hv.tuple_
  exact ⟨a, rfl, ⟨xs, SqT.of (nw_ex (e.trans e2) _ _ h1)⟩, q _ H2 e2 (itd_tup h1 h2)⟩
/-- lo, lo + 1, .. -/
def rngD (lo : Int) (n : Nat) : List PyData := (List.range n).map fun i => PyData.int (lo + (i : Nat))
theorem rngD_len (lo : Int) (n : Nat) : (rngD lo n).length = n := by unfold rngD; rw [List.length_map, List.length_range]
theorem rngD_get {lo : Int} {n i : Nat} (h : i < n) : (rngD lo n)[i]? = some (.int (lo + (i : Nat))) := by
  unfold rngD
  rw [List.getElem?_map, List.getElem?_range h]
  rfl
theorem itd_rng {G : Hp} {lo : Int} {n : Nat} : ItD (Itr lo n) G (rngD lo n) where
  go := fun i H e hi => by rw [rngD_len] at hi; exact hi
  yld := fun i H x H' e hi ⟨e1, e2⟩ => by
    subst e1 e2
    rw [rngD_len] at hi
    refine ⟨Ex.refl _, fun d hdd => ?_⟩
    rw [rngD_get hi] at hdd
    cases hdd
    exact .int _
  stop := fun i H e hi => by rw [rngD_len] at hi; exact hi
theorem wk_rng1 {ta : TA} {n : Int} (h : EvDA ta σ F [.int n]) (hn : -(2 ^ 62) ≤ n ∧ n < 2 ^ 62) : WkD (iRng1 ta) σ F (rngD 0 n.toNat) := fun H1 e R q => h H1 e _ fun vs H2 e2 hv => by
  obtain ⟨x, rfl, hx⟩ := da1_ hv
  cases hx.int_
  exact ⟨n, rfl, hn.1, hn.2, q _ H2 e2 itd_rng⟩
theorem wk_rng2 {ta : TA} {lo n : Int} (h : EvDA ta σ F [.int lo, .int n]) (hn : -(2 ^ 62) ≤ lo ∧ lo < 2 ^ 62 ∧ -(2 ^ 62) ≤ n ∧ n < 2 ^ 62) : WkD (iRng2 ta) σ F (rngD lo (n - lo).toNat) := fun H1 e R q => h H1 e _ fun vs H2 e2 hv => by
  obtain ⟨x, y, rfl, hx, hy⟩ := da2_ hv
  cases hx.int_
  cases hy.int_
  exact ⟨lo, n, rfl, hn, q _ H2 e2 itd_rng⟩
/-- enumerate -/
def enumD (ds : List PyData) : List PyData := ds.mapIdx fun i d => PyData.tuple [.int (i : Nat), d]
theorem enumD_len (ds : List PyData) : (enumD ds).length = ds.length := by unfold enumD; rw [List.length_mapIdx]
theorem enumD_get {ds : List PyData} {i : Nat} {d : PyData} (h : ds[i]? = some d) : (enumD ds)[i]? = some (.tuple [.int (i : Nat), d]) := by
  unfold enumD
  rw [List.getElem?_mapIdx, h]
  rfl
theorem itd_enum {G : Hp} {a : Addr} {xs : List V} (h : G a = some (.lst xs)) (hd : DtAll G xs ds) : ItD (Ite K a) G (enumD ds) where
  go := fun i H e hi => by
    rw [enumD_len] at hi
    have hl : i < xs.length := by rw [hd.len]; exact hi
    exact ⟨xs, xs[i], SqL.of (e _ _ h), List.getElem?_eq_getElem hl⟩
  yld := fun i H x H' e hi ⟨T, y, e1, hT, e2, e3⟩ => by
    subst e1 e2
    rw [enumD_len] at hi
    refine ⟨Ex.new hT, fun d hdd => ?_⟩
    have hi2 : ds[i]? = some ds[i] := List.getElem?_eq_getElem hi
    obtain ⟨v, h1, h2⟩ := hd.get hi2
    rw [enumD_get hi2] at hdd
    cases hdd
    have z := e3 xs (SqL.of (e _ _ h))
    rw [h1] at z
    cases z
    exact .tup (by rw [nw_n hT, upd_same]) (.cons (.int _) (.cons (h2.ex (ex_nw e)) .nil))
  stop := fun i H e hi => by
    rw [enumD_len] at hi
    exact ⟨xs, SqL.of (e _ _ h), by rw [hd.len]; exact hi⟩
theorem wk_enum {ta : TA} (h : EvDA ta σ F [.list ds]) : WkD (iEnum K ta) σ F (enumD ds) := fun H1 e R q => h H1 e _ fun vs H2 e2 hv => by
  obtain ⟨x, rfl, hx⟩ := da1_ hv
  obtain ⟨a, xs, rfl, h1, h2⟩ := hx.list_
  exact ⟨a, xs, rfl, SqL.of (nw_ex (e.trans e2) _ _ h1), q _ H2 e2 (itd_enum h1 h2)⟩
/-- zip of two lists -/
def zipD (ds es : List PyData) : List PyData := List.zipWith (fun d e => PyData.tuple [d, e]) ds es
theorem itd_zip {G : Hp} {a b : Addr} {xs ys : List V} {es : List PyData} (h : G a = some (.lst xs)) (hd : DtAll G xs ds) (h' : G b = some (.lst ys)) (he : DtAll G ys es) : ItD (Itz K a b) G (zipD ds es) where
  go := fun i H e hi => by
    unfold zipD at hi
    rw [List.length_zipWith] at hi
    have hl : i < xs.length := by rw [hd.len]; omega
    have hl' : i < ys.length := by rw [he.len]; omega
    exact ⟨xs, ys, xs[i], ys[i], SqL.of (e _ _ h), SqL.of (e _ _ h'), List.getElem?_eq_getElem hl, List.getElem?_eq_getElem hl'⟩
  yld := fun i H x H' e hi ⟨T, y, z, e1, hT, e2, e3, e4⟩ => by
    subst e1 e2
    unfold zipD at hi
    rw [List.length_zipWith] at hi
    refine ⟨Ex.new hT, fun d hdd => ?_⟩
    have hi2 : ds[i]? = some ds[i] := List.getElem?_eq_getElem (by omega)
    have hi3 : es[i]? = some es[i] := List.getElem?_eq_getElem (by omega)
    obtain ⟨v, h1, h2⟩ := hd.get hi2
    obtain ⟨v', h1', h2'⟩ := he.get hi3
    unfold zipD at hdd
    rw [List.getElem?_zipWith, hi2, hi3] at hdd
    cases hdd
    have z1 := e3 xs (SqL.of (e _ _ h))
    rw [h1] at z1
    cases z1
    have z2 := e4 ys (SqL.of (e _ _ h'))
    rw [h1'] at z2
    cases z2
    exact .tup (by rw [nw_n hT, upd_same]) (.cons (h2.ex (ex_nw e)) (.cons (h2'.ex (ex_nw e)) .nil))
  stop := fun i H e hi => by
    unfold zipD at hi
    rw [List.length_zipWith] at hi
    refine ⟨xs, ys, SqL.of (e _ _ h), SqL.of (e _ _ h'), ?_⟩
    rw [hd.len, he.len]
    omega
theorem wk_zip {ta : TA} {es : List PyData} (h : EvDA ta σ F [.list ds, .list es]) : WkD (iZip K ta) σ F (zipD ds es) := fun H1 e R q => h H1 e _ fun vs H2 e2 hv => by
  obtain ⟨x, y, rfl, hx, hy⟩ := da2_ hv
  obtain ⟨a, xs, rfl, h1, h2⟩ := hx.list_
  obtain ⟨b, ys, rfl, h3, h4⟩ := hy.list_
  exact ⟨a, b, xs, ys, rfl, SqL.of (nw_ex (e.trans e2) _ _ h1), SqL.of (nw_ex (e.trans e2) _ _ h3), q _ H2 e2 (itd_zip h1 h2 h3 h4)⟩
end
section
variable {M : Addr → Prop} {K : PySem.W.Frag} {F0 H0 F H : Hp} {σ : L2.St} {ta tb te tx : TE} {t u : TT} {d d1 d2 d3 : PyData} {v : V} {D : Ends} {tu tw : TS} {g : TG} {wi : TI} {items : List PyData}
/-- targets -/
theorem gt2 {i j : Nat} {x : V} {Q : L2.St → Hp → Prop} (h : Dt F x (.tuple [d1, d2])) (e : Ex F H) (k : ∀ y z, Dt F y d1 → Dt F z d2 → Q ((σ.set i (some y)).set j (some z)) H) : gTup K 2 (gCons (gName i) (gCons (gName j) gNil)) x σ H Q := by
  obtain ⟨a, xs, rfl, h1, h2⟩ := h.tuple_
  obtain ⟨y, z, rfl, h3, h4⟩ := da2_ h2
  exact ⟨a, _, rfl, SqT.of (e _ _ h1), rfl, y, [z], rfl, z, [], rfl, rfl, k y z h3 h4⟩
theorem gt12 {i j l : Nat} {x : V} {Q : L2.St → Hp → Prop} (h : Dt F x (.tuple [d1, .tuple [d2, d3]])) (e : Ex F H) (k : ∀ y z w, Dt F y d1 → Dt F z d2 → Dt F w d3 → Q (((σ.set i (some y)).set j (some z)).set l (some w)) H) :
    gTup K 2 (gCons (gName i) (gCons (gTup K 2 (gCons (gName j) (gCons (gName l) gNil))) gNil)) x σ H Q := by
  obtain ⟨a, xs, rfl, h1, h2⟩ := h.tuple_
  obtain ⟨y, z, rfl, h3, h4⟩ := da2_ h2
  refine ⟨a, _, rfl, SqT.of (e _ _ h1), rfl, y, [z], rfl, z, [], rfl, ?_⟩
  exact gt2 (σ := σ.set i (some y)) h4 e fun p q hp hq => ⟨rfl, k y p q h3 hp hq⟩
/-- for: I, the word of the turn -/
theorem k_for (kn : Kn M F0 H0 F H) (h : WkD wi σ F items) (I : Nat → L2.St → Hp → Hp → Prop)
    (h0 : ∀ F1 H1, StpE M F0 H0 F H F1 H1 → I 0 σ F1 H1)
    (hI : ∀ i σ' F' H' H2, I i σ' F' H' → Kn M F0 H0 F' H' → Ex H' H2 → I i σ' (nw F' H' H2) H2)
    (hs : ∀ i d x σ' F' H', items[i]? = some d → Kn M F0 H0 F' H' → Ex F F' → Dt F' x d → I i σ' F' H' →
      ∀ N : L2.St → Hp → Prop, (∀ σ2 F2 H2, Kn M F0 H0 F2 H2 → Ex F' F2 → I (i + 1) σ2 F2 H2 → N σ2 H2) → g x σ' H' fun σ2 H2 => tu { D with nx := N, ct := N, bk := D.nx } σ2 H2)
    (hd : ∀ σ' F' H', Kn M F0 H0 F' H' → Ex F F' → I items.length σ' F' H' → D.nx σ' H') : tFor wi g tu D σ H := h H kn.fh _ fun J H1 e hj => by
  have s := kn.step (H1 := H1) e
  refine ⟨fun i m σ' H' => m = items.length - i ∧ i ≤ items.length ∧ ∃ F', Kn M F0 H0 F' H' ∧ Ex (nw F H H1) F' ∧ I i σ' F' H', ⟨items.length, by simp, Nat.zero_le _, _, s.kn, Ex.refl _, h0 _ _ s⟩, ?_⟩
  rintro i m σ' H' ⟨rfl, hi, F', kn', e', p⟩
  by_cases hlt : i < items.length
  · refine .inr ⟨hj.go i H' (e'.trans kn'.fh) hlt, fun σ2 H2 => ∃ F2, Kn M F0 H0 F2 H2 ∧ Ex (nw F H H1) F2 ∧ I (i + 1) σ2 F2 H2, fun σ2 H2 ⟨F2, k2, e2, p2⟩ => ⟨items.length - (i + 1), by omega, rfl, hlt, F2, k2, e2, p2⟩, fun x H2 y => ?_⟩
    obtain ⟨e2, hx⟩ := hj.yld i H' x H2 (e'.trans kn'.fh) hlt y
    have hd := hx items[i] (List.getElem?_eq_getElem hlt)
    have s2 := kn'.step (H1 := H2) e2
    exact hs i items[i] x σ' _ H2 (List.getElem?_eq_getElem hlt) s2.kn ((s.ff.trans e').trans s2.ff) (hd.ex (nw_f e')) (hI i σ' F' H' H2 p kn' e2) _ fun σ3 F3 H3 k3 e3 p3 => ⟨F3, k3, (e'.trans s2.ff).trans e3, p3⟩
  · have ei : i = items.length := by omega
    subst ei
    exact .inl ⟨hj.stop _ H' (e'.trans kn'.fh) (Nat.le_refl _), hd σ' F' H' kn' (s.ff.trans e') p⟩
/-- the items of a comprehension: at turn i, the item d, b: is it taken, r: what is made of it -/
theorem d_lc {vs : List Nat} (h : WkD wi σ F items) (hz : items.length ≤ 40000) (b : Nat → Bool) (r : Nat → PyData)
    (hs : ∀ i d x F' H', items[i]? = some d → Ex F F' → Ex F' H' → Dt F' x d → ∀ Q : L2.St → Hp → Prop, (∀ σ2, wipe σ2 vs = wipe σ vs → EvT t σ2 F' (b i) → (b i = true → EvD te σ2 F' (r i)) → Q σ2 H') → g x (wipe σ vs) H' Q) :
    EvD (tLc wi g t te vs) σ F (.list (((List.range items.length).filter b).map r)) := fun H0 e0 Q q => h H0 e0 _ fun J H1 e1 hj Dl hD => by
  have fn : ∀ n, ((List.range n).filter b).length ≤ n := fun n => by
    have z := List.length_filter_le b (List.range n)
    rw [List.length_range] at z
    exact z
  refine ⟨fun i m H' => m = items.length - i ∧ i ≤ items.length ∧ Ex H1 H' ∧ ∃ acc, H' Dl = some (.lst acc) ∧ DtAll (but (nw F H0 H') Dl) acc (((List.range i).filter b).map r), ⟨items.length, by simp, Nat.zero_le _, Ex.new hD, [], upd_same, .nil⟩, ?_⟩
  rintro i m H' ⟨rfl, hi, eH, acc, hacc, ha⟩
  have hG : Ex (nw F H0 H1) H' := (nw_ex (e0.trans e1)).trans eH
  have hDF : ∀ o, nw F H0 H1 Dl = some o → False := fun o z => by
    have := nw_ex (e0.trans e1) Dl o z
    rw [hD] at this
    cases this
  have hDn : H0 Dl = none := exdm e1 Dl hD
  by_cases hlt : i < items.length
  · refine .inr ⟨hj.go i H' hG hlt, fun H2 => Ex H1 H2 ∧ ∃ acc, H2 Dl = some (.lst acc) ∧ DtAll (but (nw F H0 H2) Dl) acc (((List.range (i + 1)).filter b).map r), fun H2 ⟨e2, p2⟩ => ⟨items.length - (i + 1), by omega, rfl, hlt, e2, p2⟩, fun x H2 y => ?_⟩
    obtain ⟨e2, hx⟩ := hj.yld i H' x H2 hG hlt y
    have hd := hx items[i] (List.getElem?_eq_getElem hlt)
    -- what is known: F, what is new since H0, but the list itself
    have kF : Ex F (but (nw F H0 H2) Dl) := fun a o z => by
      have za : a ≠ Dl := fun q => hDF o (by rw [← q]; exact ex_nw e0 a o z)
      rw [but_ne za]
      exact ex_nw e0 a o z
    have kH : Ex (but (nw F H0 H2) Dl) H2 := fun a o z => by
      by_cases za : a = Dl
      · rw [za, but_same] at z; cases z
      · rw [but_ne za] at z; exact nw_ex (((e0.trans e1).trans eH).trans e2) a o z
    have hx' : Dt (but (nw F H0 H2) Dl) x items[i] := hd.ex fun a o z => by
      cases q : H' a with
      | none =>
        rw [nw_n q] at z
        have za : a ≠ Dl := fun w => by rw [w, hacc] at q; cases q
        rw [but_ne za, nw_n (exdm (e1.trans eH) a q)]
        exact z
      | some u =>
        rw [nw_s q] at z
        have za : a ≠ Dl := fun w => hDF o (by rw [← w]; exact z)
        rw [but_ne za]
        exact nw_r (exexn (eH.trans e2)) a o z
    refine hs i items[i] x _ H2 (List.getElem?_eq_getElem hlt) kF kH hx' _ fun σ2 hw ht he => ⟨hw, ht H2 kH _ fun H3 e3 => ?_⟩
    have haa : DtAll (but (nw F H0 H2) Dl) acc (((List.range i).filter b).map r) := ha.ex fun a o z => by
      by_cases za : a = Dl
      · rw [za, but_same] at z; cases z
      · rw [but_ne za] at z ⊢; exact nw_r (exexn e2) a o z
    have toH : ∀ H4, Ex H2 H4 → ∀ u, Ex (but (nw F H0 H2) Dl) (but (nw F H0 (upd H4 Dl u)) Dl) := fun H4 e4 u a o z => by
      by_cases za : a = Dl
      · rw [za, but_same] at z; cases z
      · rw [but_ne za] at z ⊢
        cases q : H0 a with
        | none => rw [nw_n q] at z ⊢; rw [upd_ne za]; exact e4 a o z
        | some w => rw [nw_s q] at z ⊢; exact z
    have el : ((List.range (i + 1)).filter b).map r = ((List.range i).filter b).map r ++ (if b i = true then [r i] else []) := by
      rw [List.range_succ, List.filter_append, List.map_append, List.filter_cons]
      by_cases z : b i = true
      · rw [if_pos z, if_pos z]; rfl
      · rw [if_neg z, if_neg z]; rfl
    cases hb : b i with
    | true =>
      show te σ2 H3 fun y H4 => ∃ acc, H4 Dl = some (.lst acc) ∧ acc.length < sizeLine ∧ _
      refine he hb H3 (kH.trans e3) _ fun v H4 e4 hv => ⟨acc, e4 _ _ (e3 _ _ (e2 _ _ hacc)), ?_, fun a o z => ?_, acc ++ [v], upd_same, ?_⟩
      · rw [ha.len, List.length_map]
        exact sz_lt (Nat.lt_of_le_of_lt (fn i) (by omega))
      · rw [upd_ne (fun w => by rw [w, hD] at z; cases z)]
        exact e4 a o (e3 a o (e2 a o (eH a o z)))
      · rw [el, if_pos hb]
        refine (haa.ex (toH H4 (e3.trans e4) _)).snoc (hv.ex fun a o z => ?_)
        cases q : H3 a with
        | none =>
          rw [nw_n q] at z
          have za : a ≠ Dl := fun w => by rw [w, e3 _ _ (e2 _ _ hacc)] at q; cases q
          have q0 : H0 a = none := exdm (((e1.trans eH).trans e2).trans e3) a q
          rw [but_ne za, nw_n q0, upd_ne za]
          exact z
        | some w =>
          rw [nw_s q] at z
          exact toH H4 (e3.trans e4) _ a o z
    | false =>
      show Ex H1 H3 ∧ _
      refine ⟨(eH.trans e2).trans e3, acc, e3 _ _ (e2 _ _ hacc), ?_⟩
      rw [el, hb, if_neg (by decide), List.append_nil]
      refine haa.ex fun a o z => ?_
      by_cases za : a = Dl
      · rw [za, but_same] at z; cases z
      · rw [but_ne za] at z ⊢; exact nw_r (exexn e3) a o z
  · have ei : i = items.length := by omega
    subst ei
    refine .inl ⟨hj.stop _ H' hG (Nat.le_refl _), q _ H' (e1.trans eH) (.lst ?_ (ha.ex fun a o z => ?_))⟩
    · rw [nw_n hDn]; exact hacc
    · by_cases za : a = Dl
      · rw [za, but_same] at z; cases z
      · rw [but_ne za] at z; exact z
end
end WB
/-! Errors of one's own with an __init__ that keeps one thing; several clauses «except X as e». -/
namespace WB
open PySem PySem.Spec PyProof.Rows L2 Evl

/-! ### an error class of one's own, looked at -/
def oexB (K : PySem.W.Frag) (C : Addr) : Bool := (match K.lookup C with
  | some ⟨.type "type", _, .cls cd, sl⟩ => (match cd.mro, sl.toList with
    | .ref C' :: bm, [_, _, _, _, some (.builtin n), _] => C' == C && (n == "ValueError.__new__" && (!cd.hasDel && (cd.hasDict && PySem.HandSPX.refsVE bm)))
    | _, _ => false)
  | _ => false) && (decide (PySem.W.findIn K (.ref C) "__setattr__" = some (some (.builtin "object.__setattr__"))) && (decide (PySem.W.subIn K (.ref C) (.type "BaseException") = some true) && (decide (PySem.W.typeIn K (.ref C) = some (.type "type")) && PySem.W.keepIn K (.ref C))))
theorem oexB_ok {K : PySem.W.Frag} {C : Addr} (hq : oexB K C = true) : OexC K C := by
  unfold oexB at hq
  simp only [Bool.and_eq_true, decide_eq_true_eq] at hq
  obtain ⟨q1, q2, q3, q4, q5⟩ := hq
  refine ⟨?_, q2, q3, q4, q5⟩
  split at q1
  · rename_i dd cd sl look
    split at q1
    · rename_i C' bm k0 k1 k2 k3 nn k5 em es
      simp only [Bool.and_eq_true, beq_iff_eq, Bool.not_eq_true'] at q1
      obtain ⟨e1, e2, ndel, hdic, tail⟩ := q1
      subst e1 e2
      obtain ⟨c1, c2, c3, c4, c5, c6, c7, c8, c9, c10, c11⟩ := cd
      dsimp only at em ndel hdic
      subst em ndel hdic
      have slots : sl = #[k0, k1, k2, k3, some (.builtin "ValueError.__new__"), k5] := by
        obtain ⟨l⟩ := sl
        simp only at es
        rw [es]
      subst slots
      exact ⟨c1, c5, c4, c2, bm, c7, c8, c9, c10, dd, k0, k1, k2, k3, k5, look, tail⟩
    · cases q1
  · cases q1
/-- the promise of an __init__ that keeps its one argument as f -/
def spIni (C : Addr) (f : Str) : Sp := fun vs H Q _ => ∃ (a : Addr) (v : V), vs = [.ref a, v] ∧ H a = some (exo a C none) ∧ ∀ dx, H dx = none → dx ≠ a → Q .non (upd (upd H dx (exd dx [(f, v)])) a (exo a C (some dx)))
/-- what the top has of an error class x at C, whose __init__ keeps its one argument as f -/
structure Er (P : Program) (w : World) (K : PySem.W.Frag) (mg : Str → Option Value) (base : Heap) (k : Nat) (x : Str) (C : Addr) (f : Str) : Prop where
  ox : OexC K C
  xf : XfC K C
  no : PySem.W.findIn K (.ref C) f = some none
  mgx : mg x = some (.ref C)
  ini : ∃ (fI : Addr) (fd : FuncData), PySem.W.findIn K (.ref C) "__init__" = some (some (.ref fI)) ∧ PySem.W.typeIn K (.ref fI) = some (.type "function") ∧ Binds K fd ["self", f] [] ∧
    FnOk P w K mg base (L2.CX P w) k fI fd ["self", f] (spIni C f)
section
variable {X : Cx} {C : Addr} {k j : Nat} {x f : Str} {e : Expr} {te : TE} {W : WX} {p pos pos2 : Pos}
/-- what raise X(v) asks: E, the way out -/
def RaiseOk (C : Addr) (f : Str) (E : XK) (v : V) (H1 : Hp) : Prop := ([v] : List V).length ≤ 1000 ∧ ∀ a, H1 a = none → spIni C f (.ref a :: ([v] ++ [])) (upd H1 a (exo a C none))
  (fun u H2 => u = .non ∧ ∃ (d : Addr) (fs : List (Str × V)), H2 a = some (exo a C (some d)) ∧ H2 d = some (exd d fs) ∧ H1 d = none ∧ E (.ref C) (some d) (upd (L2.del H2 a) d (.xd fs))) (fun _ _ _ => False)
theorem raise_ok {E : XK} {v : V} {H1 : Hp} (h : ∀ d, H1 d = none → E (.ref C) (some d) (upd H1 d (.xd [(f, v)]))) : RaiseOk C f E v H1 := by
  refine ⟨(by show 1 ≤ 1000; decide), fun a ha => ⟨a, v, rfl, upd_same, fun dx hdx ne => ⟨rfl, dx, [(f, v)], upd_same, ?_, ?_, ?_⟩⟩⟩
  · rw [upd_ne ne, upd_same]
  · rw [upd_ne ne] at hdx; exact hdx
  · rw [upd_ne ne] at hdx
    have eq : upd (L2.del (upd (upd (upd H1 a (exo a C none)) dx (exd dx [(f, v)])) a (exo a C (some dx))) a) dx (.xd [(f, v)]) = upd H1 dx (.xd [(f, v)]) := by
      funext b
      by_cases q : b = dx
      · rw [q, upd_same, upd_same]
      · rw [upd_ne q, upd_ne q]
        by_cases r : b = a
        · rw [r, del_same, ha]
        · rw [del_ne r, upd_ne r, upd_ne q, upd_ne r]
    rw [eq]
    exact h dx hdx
/-- raise X(e) -/
def tRaise1 (C : Addr) (f : Str) (W : WX) (te : TE) : TS := fun _ σ H => te σ H fun v H1 => RaiseOk C f (fun cls d H' => W cls d σ H') v H1
theorem ps_raise1 (T : Er X.prog X.w X.K X.mg X.base k x C f) (hr : Room j X.A) (hk : k + 1 ≤ j) (hc : X.calm = true) (tk : Takes X W) (hg : Gl X x) (he : PE X e te)
    (hdb : (x == ("__debug__" : Str)) = false := by decide) (hse : starEach [e] X.env = (false, eval e X.env) :: starEach [] X.env := by rfl) (hpl : (backTo pos (starEach [] X.env)).any (·.1) = false := by rfl) :
    PS X (.Raise (some (.Call (.Name x p) [e] [] pos)) none pos2) (tRaise1 C f W te) := by
  obtain ⟨fI, fd, ic, ti, hb, F⟩ := T.ini
  exact ps_raise (pos := pos2) hc tk (pmk_oex (x := x) (p := p) (pos := pos) T.ox ic ti F (hr.mono hk) hb .nil (fun _ _ _ _ _ _ _ h => by
    obtain ⟨_, _, _, _, _, _, _, _, _, _, _, _, n⟩ := h
    exact n.elim) hg T.mgx (pa_cons he pa_nil (hs := hse)) hdb hse hpl)
/-- the wish of a call that raises nothing -/
theorem pass_none {X : Cx} : Passes (L2.CX X.prog X.w) X (fun _ _ _ => False) := fun _ _ _ _ _ _ _ h => by
  obtain ⟨_, _, _, _, _, _, _, _, _, _, _, _, z⟩ := h
  exact z.elim
end
/-! ### several clauses, each «as» the same name -/
section
variable {X : Cx}
/-- what they wish, one after the other: slot i is the name's -/
def wAss (K : PySem.W.Frag) (i : Nat) (Wout : WX) (D : Ends) : List (Value × (Addr → Value → Option Addr → TS)) → WX
  | [] => Wout
  | (c, ts) :: more => fun cls d σ H => ∃ yes, PySem.W.exmOne K cls c = some yes ∧
      (yes = true → ∀ a, H a = none → ts a cls d { nx := fun τ G => D.nx (τ.set i none) G, rt := D.rt, bk := fun τ G => D.bk (τ.set i none) G, ct := fun τ G => D.ct (τ.set i none) G } (σ.set i (some (.ref a))) H) ∧
      (yes = false → wAss K i Wout D more cls d σ H)
/-- the clauses, each with its suite's reading -/
inductive AsOk (X : Cx) (n : Str) : List ExceptHandler → List (Value × (Addr → Value → Option Addr → TS)) → Prop
  | nil : AsOk X n [] []
  | cons {x : Str} {c : Value} {ts : Addr → Value → Option Addr → TS} {first : Stmt} {rest : List Stmt} {np hp : Pos} {hds : List ExceptHandler} {l : List (Value × (Addr → Value → Option Addr → TS))} (nm : Names X x c)
      (su : ∀ (a : Addr) (oe : Obj) (cls : Value) (d : Option Addr) (pn : List (Addr × Obj)), Zc cls d oe → (∃ vs, oe.data = .fields vs) → PSs (X.suite a ((a, oe) :: pn)) (first :: rest) (ts a cls d)) (more : AsOk X n hds l) :
      AsOk X n (.ExceptHandler (some (.Name x np)) (some n) (first :: rest) hp :: hds) ((c, ts) :: l)
variable {n : Str} {i : Nat} {body : List Stmt} {h1 : ExceptHandler} {hds : List ExceptHandler} {l : List (Value × (Addr → Value → Option Addr → TS))} {pos : Pos} {tb : WX → TS} {Wout : WX}
theorem ps_try_ass (stk : X.stack = X.env :: X.outer) (frm : X.env.frame = some X.env.locals) (nodup : X.N.Nodup) (slot : X.N[i]? = some n) (loc : X.env.kindOf n = some .local) (tk : Takes X Wout)
    (bod : ∀ (W : WX) (pn : List (Addr × Obj)) (xe : Value → Shared → Prop), Takes (X.tr pn xe) W → PassesOwn (model X.prog X.w) X.A X.env xe → PSs (X.tr pn xe) body (tb W))
    (hh : AsOk X n (h1 :: hds) l) : PS X (.Try body (h1 :: hds) [] [] pos) (fun D σ H => tb (wAss X.K i Wout D l) D σ H) := by
  refine ⟨fun pins s0 σ0 G0 D I0 hw => ?_⟩
  have okX := I0.ok
  have afr : X.A.frames = some (X.env :: X.outer) := by rw [okX.frames, stk]
  have isloc : Loc X.env.scope n := .inl loc
  refine wpAny_Try_except ?_
  refine wpAny_mono ((bod (wAss X.K i Wout D l) (X.pn ++ pins) (fun er t1 => wpAny (model X.prog X.w) X.A (noteFrame er X.env) (fun _ t2 => wpAny (model X.prog X.w) X.A (setFlight er none) (fun _ t3 =>
    wpAny (model X.prog X.w) X.A (handleBy er X.env (h1 :: hds)) (SP X pins D) X.xe t3) X.xe t2) X.xe t1) (fun er t0 caught => ?_) PassesOwn.looking).run [] s0 σ0 G0 D (I0.toTry _) hw) (fun fl t1 fin => ?_) (fun _ _ z => z)
  · obtain ⟨a, B, sI, _, σ', H', cls, d, rfl, Jt, nb, up, sky, na, os, ag, wish⟩ := caught
    have J := Jt.ofTry okX
    rw [stk] at sky
    show wpAny (model X.prog X.w) X.A (noteFrame (.ref a) X.env) _ _ _
    refine Sky.land Zc.steady afr frm sky fun g3 fly3 up3 => ?_
    have J3 : Inv X pins σ' H' { t0 with heap := g3 } := J.landed nb fly3.1 (up.trans up3) os ag
    obtain ⟨oe3, vs3, at3, z3, dat3⟩ := fly3.there
    have noframe : a ∉ frs (X.env :: X.outer) := fun mem => by
      obtain ⟨_, o', at', nf⟩ := fly3.2.2.1.mem mem
      rw [at3] at at'
      cases at'
      exact nf _ dat3
    have neL : a ≠ X.env.locals := fun z => noframe (List.mem_filterMap.mpr ⟨X.env, List.mem_cons_self, by rw [frm, z]⟩)
    have neF : a ∉ X.fs := fun mem => by
      obtain ⟨v, mv, q⟩ := List.mem_filterMap.mp mem
      exact noframe (List.mem_filterMap.mpr ⟨v, List.mem_cons_of_mem _ mv, q⟩)
    have S3 := J3.suite at3 dat3 na neL neF
    have each : ∀ {hs : List ExceptHandler} {ls : List (Value × (Addr → Value → Option Addr → TS))}, AsOk X n hs ls → wAss X.K i Wout D ls cls d σ' H' →
        wpAny (model X.prog X.w) X.A (handleBy (.ref a) X.env hs) (SP X pins D) X.xe { t0 with heap := g3 } := by
      intro hs ls ok
      induction ok with
      | nil =>
        intro out
        refine wpAny_handleBy_nil ?_
        obtain ⟨_, _, _, ob, fv, T, oT, tv, atA, zA, dA, one, _⟩ := id fly3
        unfold PySem.passOn
        refine wpAny_bind (wpAny_field atA dA one ?_)
        rw [if_neg (by simp : ¬ ((Value.ref T == Value.none) = true))]
        have thrown : wpAny (model X.prog X.w) X.A (setFlight (.ref a) X.env.frame) (fun _ t4 => wpAny (model X.prog X.w) X.A (throw (.ref a) : Sem Flow) (SP X pins D) X.xe t4) X.xe { t0 with heap := g3 } := by
          rw [frm]
          refine HandSPX.setFlight_upZ fly3 fun g4 held4 up4 => wpAny_throw (tk _ _ ?_)
          exact ⟨a, B, sI, pins, σ', H', cls, d, rfl, J, nb, (up.trans up3).trans up4, .inr (.inr (by rw [stk]; exact held4)), na, os, ag, out⟩
        first
          | exact wpAny_bind (wpAny_pure (wpAny_bind thrown))
          | exact wpAny_bind thrown
      | @cons x c ts first rest np hp hds2 l2 nm su more ih =>
        intro ⟨yes, test1, onYes, onNo⟩
        refine wpAny_handleBy_cons (codeAny_handlers_test ?_) (by intro q; cases q)
        have looksT : PySem.W.Looks (model X.prog X.w) g3 (typeOf (.ref a)) cls := fun _ _ _ t kp q => wpAny_typeOf_ref (kp _ _ at3) (by rw [z3.1]; exact q)
        have looksM := PySem.W.exm_one (M := model X.prog X.w) J3.kIn looksT test1
        have named : ∀ {Q : Value → Shared → Prop} {E : Value → Shared → Prop}, Q c { t0 with heap := g3 } → wpAny (model X.prog X.w) (X.A.mark (some (.ref a))) (eval (.Name x np) X.env) Q E { t0 with heap := g3 } := fun q => by
          obtain ⟨g, dbg, own | ⟨free, val, nn⟩⟩ := nm
          · exact ld_glob (X := X.suite a ((a, oe3) :: (X.pn ++ pins))) S3 g own q dbg
          · exact ld_blt (X := X.suite a ((a, oe3) :: (X.pn ++ pins))) S3 g free val q nn dbg
        refine named (looksM.here ?_)
        cases yes with
        | false =>
          show wpAny _ X.A (handleBy (.ref a) X.env hds2) _ _ _
          exact ih (onNo rfl)
        | true =>
          refine codeAny_handlers_suite_as ?_
          refine HandSPX.lands_againZ fly3 fun g4 fly4 up4 => ?_
          have J4 : Inv X pins σ' H' { t0 with heap := g4 } := J.landed nb fly4.1 ((up.trans up3).trans up4) os ag
          obtain ⟨oe4, vs4, at4, z4, dat4⟩ := fly4.there
          have S4 := J4.suite at4 dat4 na neL neF
          refine store_ok (X := X.suite a ((a, oe4) :: (X.pn ++ pins))) (v := .ref a) S4 nodup slot isloc rfl (fun t5 S5 => ?_) (.inr loc)
          refine wpAny_mono ((su a oe4 cls d (X.pn ++ pins) z4 ⟨_, dat4⟩).run [] t5 _ H' _ S5 (onYes rfl a na)) (fun fl t6 fin => ?_) (fun _ _ z => False.elim z)
          have gone : ∀ {σ6 : L2.St} {H6 : Hp} {Q : Shared → Prop}, Inv (X.suite a ((a, oe4) :: (X.pn ++ pins))) [] σ6 H6 t6 → (∀ t7, Inv X pins (σ6.set i none) H6 t7 → Q t7) →
              wpAny (model X.prog X.w) X.A (do bindName X.env n .none; unbindBehindTheSuite X.env n hp) (fun _ t7 => Q t7) X.xe t6 := fun S6 q => gone_ok (S6.unsuite okX) nodup slot loc q
          cases fl with
          | next =>
            obtain ⟨_, _, S6, q⟩ := fin
            exact gone S6 fun t7 J7 => ⟨_, _, J7, q⟩
          | brk =>
            obtain ⟨_, _, S6, q⟩ := fin
            exact gone S6 fun t7 J7 => ⟨_, _, J7, q⟩
          | cont =>
            obtain ⟨_, _, S6, q⟩ := fin
            exact gone S6 fun t7 J7 => ⟨_, _, J7, q⟩
          | ret u =>
            obtain ⟨_, _, _, S6, r, q⟩ := fin
            exact gone S6 fun t7 J7 => ⟨_, _, _, J7, r, q⟩
    exact each hh wish
  · cases fl with
    | next =>
      obtain ⟨_, _, J, q⟩ := fin
      exact wpAny_execs_nil ⟨_, _, J.ofTry okX, q⟩
    | brk =>
      obtain ⟨_, _, J, q⟩ := fin
      exact ⟨_, _, J.ofTry okX, q⟩
    | cont =>
      obtain ⟨_, _, J, q⟩ := fin
      exact ⟨_, _, J.ofTry okX, q⟩
    | ret u =>
      obtain ⟨_, _, _, J, r, q⟩ := fin
      exact ⟨_, _, _, J.ofTry okX, r, q⟩
end
end WB
/-! ### the looks at the head -/
namespace WB
open PySem PySem.Spec PyProof.Rows L2 Evl
def errB (x f : Str) (K : PySem.W.Frag) : Bool := oexB K (He.ga K x) && (xfB K (He.ga K x) && (decide (PySem.W.findIn K (.ref (He.ga K x)) f = some none) &&
  (decide (PySem.W.findIn K (.ref (He.ga K x)) "__init__" = some (some (.ref (He.ma K (He.ga K x) "__init__")))) && decide (PySem.W.typeIn K (.ref (He.ma K (He.ga K x) "__init__")) = some (.type "function")))))
def exmB (x y : Str) (b : Bool) (K : PySem.W.Frag) : Bool := decide (PySem.W.exmOne K (.ref (He.ga K x)) (.ref (He.ga K y)) = some b)
def kitOB (x y : Str) (b : Bool) (K : PySem.W.Frag) : Bool := decide (PySem.W.kitOne K (.ref (He.ga K x)) (.ref (He.ga K y)) = some b)
def kitTO (t : String) (y : Str) (K : PySem.W.Frag) : Bool := decide (PySem.W.kitOne K (.type t) (.ref (He.ga K y)) = some false)
def kitOT (y : Str) (t : String) (K : PySem.W.Frag) : Bool := decide (PySem.W.kitOne K (.ref (He.ga K y)) (.type t) = some false)
def insB (x : Str) (K : PySem.W.Frag) : Bool := decide (PySem.W.findIn K (.ref (He.ga K x)) "__class__" = some (some (.builtin "object.__class__"))) &&
  (decide (PySem.W.specialIn K (.builtin "object.__class__") "__get__" = some (some (.builtin "getset_descriptor.__get__"))) && (decide (PySem.W.takesIn K (.builtin "object.__class__") = some true) && decide (PySem.W.mroIn K (He.ga K x) (.type "object") = some true)))
section
variable {P : Program} {w : World} {K : PySem.W.Frag} {mg : Str → Option Value} {base : Heap} {x f : Str}
theorem insB_ok {H : Hp} {a dx : Addr} {fs : List (Str × V)} (c : Cls K (He.ga K x)) (hq : insB x K = true) (h : H a = some (.ins (He.ga K x) dx fs)) : TyX K H (.ref a) (.ref (He.ga K x)) := by
  unfold insB at hq
  simp only [Bool.and_eq_true, decide_eq_true_eq] at hq
  obtain ⟨q1, q2, q3, q4⟩ := hq
  exact .base (.ins h c q1 q2 q3 q4)
theorem errB_ox (hq : errB x f K = true) : OexC K (He.ga K x) := by
  unfold errB at hq
  simp only [Bool.and_eq_true, decide_eq_true_eq] at hq
  exact oexB_ok hq.1
theorem errB_no (hq : errB x f K = true) : PySem.W.findIn K (.ref (He.ga K x)) f = some none := by
  unfold errB at hq
  simp only [Bool.and_eq_true, decide_eq_true_eq] at hq
  exact hq.2.2.1
theorem errB_ok (hq : errB x f K = true) (hm : mg x = some (.ref (He.ga K x)))
    (h : ∃ fd : FuncData, L2.Binds K fd ["self", f] [] ∧ FnOk P w K mg base (L2.CX P w) 1 (He.ma K (He.ga K x) "__init__") fd ["self", f] (spIni (He.ga K x) f)) : Er P w K mg base 1 x (He.ga K x) f := by
  have z := hq
  unfold errB at z
  simp only [Bool.and_eq_true, decide_eq_true_eq] at z
  obtain ⟨q1, q2, q3, q4, q5⟩ := z
  obtain ⟨fd, b, F⟩ := h
  exact ⟨oexB_ok q1, xfB_ok q2, q3, hm, _, fd, q4, q5, b, F⟩
theorem ini_len (C : Addr) (f : Str) (vs : List V) (H : Hp) (Q : VK) (E : XK) (h : spIni C f vs H Q E) : vs.length = (["self", f] : List Str).length := by
  obtain ⟨a, v, rfl, _⟩ := h
  rfl
theorem ini_body {C : Addr} {vs : List V} {H : Hp} {Q : VK} {E : XK} {D : Ends} (T : OexC K C) (no : PySem.W.findIn K (.ref C) f = some none) (h : spIni C f vs H Q E) (hD : D.nx = fun _ H' => Q .non H') : tOst K f (tVar 0) (tVar 1) D (start ["self", f] vs) H := by
  obtain ⟨a, v, rfl, ha, q⟩ := h
  refine ⟨v, rfl, .ref a, rfl, a, C, rfl, T, no, .inl ⟨ha, fun dx hd ne => ?_⟩⟩
  rw [hD]
  exact q dx hd ne
/-- calls within a try -/
theorem pe_clS {X : Cx} {k j : Nat} {x : Str} {ps : List Str} {sp : Sp} {E : L2.St → XK} {p pos : Pos} {e : Expr} {es : List Expr} {t : TA} (c : Cl X.prog X.w X.K X.mg X.base k x ps sp) (hr : Room j X.A) (hk : k ≤ j) (hx : ∀ σ, PassesAt (L2.CX X.prog X.w) X σ (E σ)) (hg : Gl X x) (ha : PA X (e :: es) t)
    (hdb : (x == ("__debug__" : Str)) = false := by decide) (he : starEach (e :: es) X.env = (false, eval e X.env) :: starEach es X.env := by rfl) (hpl : (backTo pos (starEach es X.env)).any (·.1) = false := by rfl) :
    PE X (.Call (.Name x p) (e :: es) [] pos) (tCallS sp E t) := by
  obtain ⟨f, fd, F, hm, hkp, hb⟩ := c
  exact pe_callS F (hr.mono hk) hg hm hkp hb hx ha hdb he hpl
/-- a def's promise by its body -/
theorem mk_cl {N ps : List Str} {k : Nat} {sp : Sp} {x qual : Str} {params : Arguments} {body : List Stmt} {scope : Scope} {f : Addr} (F : ∃ fd, FunD K x qual params body scope [] [] f fd) (hm : mg x = some (.ref f)) (S : FnScope N ps scope)
    (hb : ∀ (kV doc pm : Value) (an : Option Addr) (cdv ct : Value) (us : List Value), us.length = ps.length → bindArgs (PySem.W.fnOf x qual params body scope .none kV doc pm an cdv ct) ⟨us, []⟩ = pure (ps.zip us))
    (len : ∀ vs H Q E, sp vs H Q E → vs.length = ps.length)
    (hbody : ∀ (cdv : Value) (A : Around) (outer : List Env) (s : Shared) (H : Hp) (vs : List V) (Q : VK) (E : XK), Room k (A.deeper (envOfC qual scope s.heap.objs.size f cdv)) → sp vs H Q E →
      ∃ t, PSs (cxOf (L2.CX P w) P w K mg base N qual scope f cdv A outer s H E) body t ∧ t { nx := fun _ H' => Q .non H', rt := Q } (start N vs) H) : Cl P w K mg base (k + 1) x ps sp := by
  obtain ⟨fd, F⟩ := F
  exact ⟨f, fd, F.ok S len hbody, hm, F.kp, F.bindsN hb⟩
end
end WB
/-! ### a call's end; small readings -/
namespace WB
open PySem PySem.Spec PyProof.Rows L2 Evl
section
variable {M : Addr → Prop} {K : PySem.W.Frag} {F0 H0 F H : Hp} {σ : L2.St} {ta tb te tx : TE} {t u : TT} {d d1 d2 d3 r : PyData} {v : V} {D : Ends} {tu tw : TS} {g : TG} {Q : VK}
theorem k_seq (h : tu { D with nx := tw D } σ H) : tSeq tu tw D σ H := h
theorem k_next (h : D.nx σ H) : tNext D σ H := h
theorem Kn.hh (kn : Kn M0 F0 H0 F H) : Ex H0 H := fun a o h => kn.h a o (fun z => z) h
theorem k_done (hQ : ∀ v H', Ex H0 H' → Dt (nw F0 H0 H') v r → Q v H') (kn : Kn M0 F0 H0 F H) (hv : Dt F v r) : Q v H := hQ v H kn.hh (hv.ex kn.nw)
theorem k_fin (hQ : ∀ v H', Ex H0 H' → Dt (nw F0 H0 H') v r → Q v H') (kn : Kn M0 F0 H0 F H) (h : EvD te σ F r) (hD : D.rt = Q := by rfl) : tRet te D σ H := k_ret kn h fun v F1 H1 s hv => by
  rw [hD]
  exact k_done hQ s.kn hv
/-- if .. : return ..; what follows -/
theorem k_ifF {b : Bool} (kn : Kn M F0 H0 F H) (h : EvT t σ F b) (hb : b = false) (h2 : ∀ F1 H1, StpE M F0 H0 F H F1 H1 → tw D σ H1) : tIfS t tu tw D σ H := by
  subst hb
  exact k_if kn h (fun z => nomatch z) fun _ => h2
theorem k_ifT {b : Bool} (kn : Kn M F0 H0 F H) (h : EvT t σ F b) (hb : b = true) (h1 : ∀ F1 H1, StpE M F0 H0 F H F1 H1 → tu D σ H1) : tIfS t tu tw D σ H := by
  subst hb
  exact k_if kn h (fun _ => h1) (fun z => nomatch z)
/-! a statement, then the rest -/
section
variable {rest : TS}
theorem q_asg {i : Nat} (kn : Kn M F0 H0 F H) (h : EvD te σ F d) (k : ∀ v F1 H1, StpE M F0 H0 F H F1 H1 → Dt F1 v d → rest D (σ.set i (some v)) H1) : tSeq (tAsg te (gName i)) rest D σ H := k_asg (D := { D with nx := rest D }) kn h k
theorem q_drop (kn : Kn M F0 H0 F H) (h : EvD te σ F d) (k : ∀ F1 H1, StpE M F0 H0 F H F1 H1 → rest D σ H1) : tSeq (tDrop te) rest D σ H := k_drop (D := { D with nx := rest D }) kn h k
theorem q_unp2 {i j : Nat} (kn : Kn M F0 H0 F H) (h : EvD te σ F (.tuple [d1, d2])) (k : ∀ x y F1 H1, StpE M F0 H0 F H F1 H1 → Dt F1 x d1 → Dt F1 y d2 → rest D ((σ.set i (some x)).set j (some y)) H1) : tSeq (tAsg te (gTup K 2 (gCons (gName i) (gCons (gName j) gNil)))) rest D σ H := k_unp2 (D := { D with nx := rest D }) kn h k
theorem q_unp3 {i j l : Nat} (kn : Kn M F0 H0 F H) (h : EvD te σ F (.tuple [d1, d2, d3])) (k : ∀ x y z F1 H1, StpE M F0 H0 F H F1 H1 → Dt F1 x d1 → Dt F1 y d2 → Dt F1 z d3 → rest D (((σ.set i (some x)).set j (some y)).set l (some z)) H1) : tSeq (tAsg te (gTup K 3 (gCons (gName i) (gCons (gName j) (gCons (gName l) gNil))))) rest D σ H := k_unp3 (D := { D with nx := rest D }) kn h k
theorem q_par {i j : Nat} (kn : Kn M F0 H0 F H) (ha : EvD ta σ F d1) (hb : EvD tb σ F d2) (k : ∀ x y F1 H1, StpE M F0 H0 F H F1 H1 → Dt F1 x d1 → Dt F1 y d2 → rest D ((σ.set i (some x)).set j (some y)) H1) : tSeq (tPar i j (tCons ta (tCons tb tNil))) rest D σ H := k_par (D := { D with nx := rest D }) kn ha hb k
theorem q_ifF {b : Bool} (kn : Kn M F0 H0 F H) (h : EvT t σ F b) (hb : b = false) (k : ∀ F1 H1, StpE M F0 H0 F H F1 H1 → rest D σ H1) : tSeq (tIfS t tu tNext) rest D σ H := k_ifF (D := { D with nx := rest D }) kn h hb k
theorem q_ifT {b : Bool} (kn : Kn M F0 H0 F H) (h : EvT t σ F b) (hb : b = true) (k : ∀ F1 H1, StpE M F0 H0 F H F1 H1 → tu { D with nx := rest D } σ H1) : tSeq (tIfS t tu tw) rest D σ H := k_ifT (D := { D with nx := rest D }) kn h hb k
theorem q_if {b : Bool} (kn : Kn M F0 H0 F H) (h : EvT t σ F b) (h1 : b = true → ∀ F1 H1, StpE M F0 H0 F H F1 H1 → tu { D with nx := rest D } σ H1) (h2 : b = false → ∀ F1 H1, StpE M F0 H0 F H F1 H1 → rest D σ H1) : tSeq (tIfS t tu tNext) rest D σ H := k_if (D := { D with nx := rest D }) kn h h1 h2
theorem q_ife {b : Bool} (kn : Kn M F0 H0 F H) (h : EvT t σ F b) (h1 : b = true → ∀ F1 H1, StpE M F0 H0 F H F1 H1 → tu { D with nx := rest D } σ H1) (h2 : b = false → ∀ F1 H1, StpE M F0 H0 F H F1 H1 → tw { D with nx := rest D } σ H1) : tSeq (tIfS t tu tw) rest D σ H := k_if (D := { D with nx := rest D }) kn h h1 h2
theorem q_aug {i : Nat} {f : Int → Int → Int} {a b : Int} (kn : Kn M F0 H0 F H) (hx : σ[i]? = some (some (.int a))) (h : EvD te σ F (.int b)) (k : ∀ F1 H1, StpE M F0 H0 F H F1 H1 → rest D (σ.set i (some (.int (f a b)))) H1) : tSeq (tAug i te (ipI f)) rest D σ H := k_aug (D := { D with nx := rest D }) kn hx h k
theorem q_new {i : Nat} {ta : TA} {ds : List PyData} (kn : Kn M F0 H0 F H) (h : EvDA ta σ F ds) (hz : ds.length ≤ 100000) (k : ∀ l xs F1 H1, StpE M F0 H0 F H F1 H1 → F1 l = none → H0 l = none → H1 l = some (.lst xs) → DtAll F1 xs ds → rest D (σ.set i (some (.ref l))) H1) : tSeq (tAsg (tLst ta) (gName i)) rest D σ H := k_new (D := { D with nx := rest D }) kn h hz k
theorem q_app {l : Addr} {xs : List V} (kn : Kn M F0 H0 F H) (hl : H l = some (.lst xs)) (hF : F l = none) (h0 : H0 l = none) (ha : Ev ta σ H (.ref l)) (h : EvD te σ F d) (hz : xs.length < 100000)
    (k : ∀ v F1 H1, Kn M F0 H0 F1 H1 → Ex F F1 → F1 l = none → Dt F1 v d → H1 l = some (.lst (xs ++ [v])) → (∀ a o, a ≠ l → H a = some o → H1 a = some o) → (∀ a o, H a = some o → F a = none → F1 a = none) → rest D σ H1) :
    tSeq (tDrop (tBM K "list" rAppend ta (tCons te tNil))) rest D σ H := k_app (D := { D with nx := rest D }) kn hl hF h0 ha h hz k
theorem q_for {wi : TI} {items : List PyData} (kn : Kn M F0 H0 F H) (h : WkD wi σ F items) (I : Nat → L2.St → Hp → Hp → Prop)
    (h0 : ∀ F1 H1, StpE M F0 H0 F H F1 H1 → I 0 σ F1 H1)
    (hI : ∀ i σ' F' H' H2, I i σ' F' H' → Kn M F0 H0 F' H' → Ex H' H2 → I i σ' (nw F' H' H2) H2)
    (hs : ∀ i d x σ' F' H', items[i]? = some d → Kn M F0 H0 F' H' → Ex F F' → Dt F' x d → I i σ' F' H' →
      ∀ N : L2.St → Hp → Prop, (∀ σ2 F2 H2, Kn M F0 H0 F2 H2 → Ex F' F2 → I (i + 1) σ2 F2 H2 → N σ2 H2) → g x σ' H' fun σ2 H2 => tu { D with nx := N, ct := N, bk := rest D } σ2 H2)
    (hd : ∀ σ' F' H', Kn M F0 H0 F' H' → Ex F F' → I items.length σ' F' H' → rest D σ' H') : tSeq (tFor wi g tu) rest D σ H := k_for (D := { D with nx := rest D }) kn h I h0 hI hs hd
end
/-- a built-in method of a text, no arguments -/
theorem d_str0 {f : Str → V} {z : Str} (h : EvD te σ F (.str z)) (hs : sc d = some (f z)) : EvD (tBM0 K "str" (fun x xs H Q => ∃ a, x = .str a ∧ xs = [] ∧ True ∧ Q (f a) H) te) σ F d := fun H1 e Q q => h H1 e _ fun x H2 e2 hx => by
  cases hx.str_
  exact ⟨rfl, z, rfl, rfl, trivial, q _ H2 e2 (sc_dt hs)⟩
/-- x in (a, b, ..) of scalars: a tuple of the top -/
theorem d_inK {a : Addr} {xs : List V} {x : V} (h : EvD te σ F d) (hx : sc d = some x) (hf : flatV x = true) (ha : xs.all flatV = true) (ht : ∀ H1, SqT K H1 a xs) : EvD (tOp (rIn K false) te (tC (.ref a))) σ F (.bool (inV x xs)) := fun H1 e Q q =>
  h H1 e _ fun y H2 e2 hy => by
    cases dt_sc hy hx
    exact ⟨a, xs, rfl, .inr (ht H2), hf, ha, q _ H2 e2 (.bl _)⟩
theorem kb_ss : kitB "str" "str" = some true := by decide +kernel
theorem kb_ii : kitB "int" "int" = some true := by decide +kernel
theorem kb_ib : kitB "int" "bool" = some false := by decide +kernel
theorem d_ss {i : Str} (h : EvD te σ F (.str i)) : EvD (tCB (rIsi K) (tCons te (tCons (tC (.ty "str")) tNil))) σ F (.bool true) := d_isi h (ty_of rfl) (kit_ty kb_ss)
theorem d_ii {i : Int} (h : EvD te σ F (.int i)) : EvD (tCB (rIsi K) (tCons te (tCons (tC (.ty "int")) tNil))) σ F (.bool true) := d_isi h (ty_of rfl) (kit_ty kb_ii)
theorem d_ib {i : Int} (h : EvD te σ F (.int i)) : EvD (tCB (rIsi K) (tCons te (tCons (tC (.ty "bool")) tNil))) σ F (.bool false) := d_isi h (ty_of rfl) (kit_ty kb_ib)
end
end WB
/-! What a reading makes, told by any word about a value and a heap; objects; row[a:b] = e. -/
namespace WB
open PySem PySem.Spec PyProof.Rows L2 Evl

/-- a word that stays -/
def Mo (T : Hp → V → Prop) : Prop := ∀ H H' v, Ex H H' → T H v → T H' v
def MoA (T : Hp → List V → Prop) : Prop := ∀ H H' v, Ex H H' → T H v → T H' v
def EvP (te : TE) (σ : L2.St) (F : Hp) (T : Hp → V → Prop) : Prop := ∀ H1, Ex F H1 → ∀ Q : VK, (∀ v H2, Ex H1 H2 → T (nw F H1 H2) v → Q v H2) → te σ H1 Q
def EvPA (ta : TA) (σ : L2.St) (F : Hp) (T : Hp → List V → Prop) : Prop := ∀ H1, Ex F H1 → ∀ Q : List V → Hp → Prop, (∀ v H2, Ex H1 H2 → T (nw F H1 H2) v → Q v H2) → ta σ H1 Q
abbrev DT (d : PyData) : Hp → V → Prop := fun H v => Dt H v d
theorem mo_dt (d : PyData) : Mo (DT d) := fun _ _ _ e h => h.ex e
section
variable {M : Addr → Prop} {K : PySem.W.Frag} {F0 H0 F H : Hp} {σ : L2.St} {ta tb te tx : TE} {t u : TT} {d d1 d2 d3 r : PyData} {v : V} {D : Ends} {tu tw rest : TS} {g : TG} {Q : VK} {T T1 T2 : Hp → V → Prop}
theorem EvD.toP (h : EvD te σ F d) : EvP te σ F (DT d) := h
theorem EvP.toD (h : EvP te σ F (DT d)) : EvD te σ F d := h
theorem EvP.imp (h : EvP te σ F T) (q : ∀ H v, T H v → T1 H v) : EvP te σ F T1 := fun H1 e Q k => h H1 e Q fun v H2 e2 hv => k v H2 e2 (q _ v hv)
theorem p_var {i : Nat} (h : σ[i]? = some (some v)) (hv : T F v) (mo : Mo T) : EvP (tVar i) σ F T := fun H1 e _ q => ⟨v, h, q v H1 (Ex.refl H1) (mo _ _ _ (ex_nw e) hv)⟩
theorem pa_nil' : EvPA tNil σ F (fun _ vs => vs = []) := fun H1 _ _ q => q [] H1 (Ex.refl H1) rfl
theorem pa_cons' {tr : TA} {TA' : Hp → List V → Prop} (h : EvP ta σ F T) (mo : Mo T) (hr : EvPA tr σ F TA') (moa : MoA TA') : EvPA (tCons ta tr) σ F (fun H vs => ∃ v r, vs = v :: r ∧ T H v ∧ TA' H r) := fun H1 e _ q =>
  h H1 e _ fun x H2 e2 hx => hr H2 (e.trans e2) _ fun xs H3 e3 hxs => q (x :: xs) H3 (e2.trans e3) ⟨x, xs, rfl, mo _ _ _ (nw_r (exexn e3)) hx, moa _ _ _ (nw_l e (exdm e2)) hxs⟩
/-- a promise: args what the arguments are, res what comes back -/
def SpP {α : Type} (args : α → Hp → List V → Prop) (res : α → Hp → V → Prop) : Sp := fun vs H Q _ => ∃ F x, Ex F H ∧ args x F vs ∧ ∀ v H', Ex H H' → res x (nw F H H') v → Q v H'
theorem nw_nw {H1 H2 H3 : Hp} (e2 : Ex H1 H2) (e3 : Ex H2 H3) : Ex (nw (nw F H1 H2) H2 H3) (nw F H1 H3) := fun a o ha => by
  cases z : H2 a with
  | none =>
    rw [nw_n z] at ha
    rw [nw_n (exdm e2 a z)]
    exact ha
  | some u =>
    rw [nw_s z] at ha
    exact nw_r (exexn e3) a o ha
theorem p_call {α : Type} {args : α → Hp → List V → Prop} {res : α → Hp → V → Prop} {E : XK} {ta : TA} (x : α) (h : EvPA ta σ F (args x)) (mo : Mo (res x)) : EvP (tCall (SpP args res) [] E ta) σ F (res x) := fun H1 e Q q =>
  h H1 e _ fun xs H2 e2 hx => by
    show SpP args res (xs ++ []) H2 Q E
    rw [List.append_nil]
    exact ⟨nw F H1 H2, x, nw_ex (e.trans e2), hx, fun v H3 e3 hv => q v H3 (e2.trans e3) (mo _ _ _ (nw_nw e2 e3) hv)⟩
/-- o.m(), o an instance of the class at C -/
theorem p_meth0 {α : Type} {args : α → Hp → List V → Prop} {res : α → Hp → V → Prop} {E : XK} {C : Addr} {m : Str} (x : α) (h : EvP ta σ F T) (hT : ∀ G v, T G v → ∃ a dx fs, v = .ref a ∧ G a = some (.ins C dx fs) ∧ fs.lookup m = none ∧ args x G [v]) (mo : Mo (res x)) :
    EvP (tMeth C m (SpP args res) [] E ta tNil) σ F (res x) := fun H1 e Q q => h H1 e _ fun v H2 e2 hv => by
  obtain ⟨a, dx, fs, rfl, h1, h2, h3⟩ := hT _ v hv
  exact ⟨a, dx, fs, rfl, nw_ex (e.trans e2) _ _ h1, h2, nw F H1 H2, x, nw_ex (e.trans e2), h3, fun v H3 e3 hv => q v H3 (e2.trans e3) (mo _ _ _ (nw_nw e2 e3) hv)⟩
/-- o.f -/
theorem p_fld {C : Addr} {f : Str} (c : Cls K C) (n : NoAttr K C f) (h : EvP ta σ F T) (hT : ∀ G v, T G v → ∃ a dx fs y, v = .ref a ∧ G a = some (.ins C dx fs) ∧ fs.lookup f = some y ∧ T1 G y) : EvP (tFld K ta f) σ F T1 := fun H1 e Q q => h H1 e _ fun v H2 e2 hv => by
  obtain ⟨a, dx, fs, y, rfl, h1, h2, h3⟩ := hT _ v hv
  exact ⟨a, C, dx, fs, y, rfl, nw_ex (e.trans e2) _ _ h1, c, n, h2, q y H2 e2 h3⟩
theorem kp_ev (kn : Kn M F0 H0 F H) (h : EvP te σ F T) (Q : VK) (k : ∀ v F1 H1, StpE M F0 H0 F H F1 H1 → T F1 v → Q v H1) : te σ H Q := h H kn.fh Q fun v H1 e hv => k v _ H1 (kn.step e) hv
theorem qp_asg {i : Nat} (kn : Kn M F0 H0 F H) (h : EvP te σ F T) (k : ∀ v F1 H1, StpE M F0 H0 F H F1 H1 → T F1 v → rest D (σ.set i (some v)) H1) : tSeq (tAsg te (gName i)) rest D σ H := kp_ev kn h _ k
theorem qp_drop (kn : Kn M F0 H0 F H) (h : EvP te σ F T) (k : ∀ F1 H1, StpE M F0 H0 F H F1 H1 → rest D σ H1) : tSeq (tDrop te) rest D σ H := kp_ev kn h _ fun _ F1 H1 s _ => k F1 H1 s
theorem kp_fin (hQ : ∀ v H', Ex H0 H' → T (nw F0 H0 H') v → Q v H') (mo : Mo T) (kn : Kn M0 F0 H0 F H) (h : EvP te σ F T) (hD : D.rt = Q := by rfl) : tRet te D σ H := kp_ev kn h _ fun v F1 H1 s hv => by
  rw [hD]
  exact hQ v H1 s.kn.hh (mo _ _ _ s.kn.nw hv)
end
/-! ### lists of whole numbers -/
section
variable {K : PySem.W.Frag} {σ : L2.St} {F H : Hp} {ta tb te : TE}
theorem DtAll.ofV {H : Hp} : ∀ {vs : List V} {ds : List PyData}, vs.map some = ds.map sc → DtAll H vs ds
  | [], [], _ => .nil
  | [], d :: ds, h => by simp at h
  | v :: vs, [], h => by simp at h
  | v :: vs, d :: ds, h => by
    rw [List.map_cons, List.map_cons] at h
    injection h with h1 h2
    exact .cons (sc_dt h1.symm) (DtAll.ofV h2)
/-- list(range(n)), list(range(a, b)) -/
theorem d_lrg1 {n : Int} (h : EvD te σ F (.int n)) (hr : RgOk 0 n) : EvD (tLstRg (tRg1 te)) σ F (.list ((List.range n.toNat).map fun i => PyData.int (i : Nat))) := fun H1 e Q q => h H1 e _ fun x H2 e2 hx => by
  cases hx.int_
  refine ⟨n, rfl, hr, fun l hl => q _ _ (e2.trans (Ex.new hl)) (ls_new e2 hl ?_)⟩
  refine DtAll.ofV ?_
  unfold rgV
  simp [sc]
theorem d_lrg2 {a b : Int} (ha : EvD ta σ F (.int a)) (hb : EvD tb σ F (.int b)) (hr : RgOk a b) : EvD (tLstRg (tRg2 ta tb)) σ F (.list ((List.range (b - a).toNat).map fun i => PyData.int (a + (i : Nat)))) := fun H1 e Q q => ha H1 e _ fun x H2 e2 hx => hb H2 (e.trans e2) _ fun y H3 e3 hy => by
  cases hx.int_
  cases hy.int_
  refine ⟨a, b, rfl, rfl, hr, fun l hl => q _ _ ((e2.trans e3).trans (Ex.new hl)) (ls_new (e2.trans e3) hl ?_)⟩
  refine DtAll.ofV ?_
  unfold rgV
  simp [sc]
end
/-! ### row[a:c] = e -/
section
variable {X : Cx} {o : Expr} {lo hi : Option Expr} {to : TE} {tl th : TO} {pos p2 : Pos}
def gSlc (to : TE) (tl th : TO) : TG := fun v σ H Q => to σ H fun x H1 => tl σ H1 fun a H2 => th σ H2 fun c H3 => ∃ (l b : Addr) (xs ys : List V) (i j : Int), x = .ref l ∧ v = .ref b ∧ a = some i ∧ c = some j ∧
  H3 l = some (.lst xs) ∧ H3 b = some (.lst ys) ∧ l ≠ b ∧ 0 ≤ i ∧ i ≤ j ∧ j ≤ xs.length ∧ xs.length + ys.length ≤ sizeLine ∧ Q σ (upd H3 l (.lst (xs.take i.toNat ++ ys ++ xs.drop j.toNat)))
theorem pg_slc (ho : PE X o to) (hl : PO X lo tl) (hu : PO X hi th)
    (asn : ∀ v, assign (.Subscript o (.Slice lo hi none p2) pos) X.env v = (do
      let ov ← holding [v] (eval o X.env)
      let iv ← holding [v, ov] (eval (.Slice lo hi none p2) X.env)
      standAt pos
      holding [v, ov, iv] (setItem ov iv v)
      release [iv, v, ov] []) := by intro _; rfl) : PG X (.Subscript o (.Slice lo hi none p2) pos) (gSlc to tl th) := by
  refine ⟨fun pins s σ H v u Q I rv h => ?_⟩
  rw [asn]
  refine wpAny_bind (wpAny_holding (thn (ho.run pins s σ H _ I h) fun ov s1 ⟨x, H1, I1, r1, q1⟩ => ?_))
  refine wpAny_bind (wpAny_holding ?_)
  refine wpAny_Slice (thn (hl.run pins s1 σ H1 _ I1 q1) fun vl s2 ⟨a, H2, I2, pl, q2⟩ => thn (hu.run pins s2 σ H2 _ I2 q2) fun vu s3 ⟨c, H3, I3, pu, q3⟩ => ?_)
  rw [evalPart_none]
  refine wpAny_pure ?_
  obtain ⟨l, b, xs, ys, i, j, rfl, rfl, rfl, rfl, hx, hy, ne, h0, hij, hj, hz, q⟩ := q3
  have I4 : Inv X pins σ H3 { s3 with heap := s3.heap.push { cls := .type "slice", data := .fields #[vl, vu, .none] } } := I3.kept (t' := s3.toks) fun _ _ z => Heap.get?_push_of_some _ z
  cases r1
  cases rv
  have ri : RelV (.int i) vl := by cases pl; exact ⟨_, rfl⟩
  have rj : RelV (.int j) vu := by cases pu; exact ⟨_, rfl⟩
  refine wpAny_bind (wpAny_standAt (wpAny_bind (wpAny_holding (set_slice I4 hx hy ne (Heap.IsSliceOf.new ..) ri rj h0 hij hj hz fun s5 I5 => ?_))))
  exact wpAny_release ⟨σ, _, I5, q⟩
end
end WB
namespace WB
open PySem PySem.Spec PyProof.Rows L2 Evl
section
variable {P : Program} {w : World} {K : PySem.W.Frag} {mg : Str → Option Value} {base : Heap}
theorem mk_mt {N ps : List Str} {k : Nat} {sp : Sp} {C : Addr} {m qual : Str} {params : Arguments} {body : List Stmt} {scope : Scope} {f : Addr} (F : ∃ fd, FunD K m qual params body scope [] [] f fd) (hc : Cls K C) (hm : Meth K C m f) (S : FnScope N ps scope)
    (hb : ∀ (kV doc pm : Value) (an : Option Addr) (cdv ct : Value) (us : List Value), us.length = ps.length → bindArgs (PySem.W.fnOf m qual params body scope .none kV doc pm an cdv ct) ⟨us, []⟩ = pure (ps.zip us))
    (len : ∀ vs H Q E, sp vs H Q E → vs.length = ps.length)
    (hbody : ∀ (cdv : Value) (A : Around) (outer : List Env) (s : Shared) (H : Hp) (vs : List V) (Q : VK) (E : XK), Room k (A.deeper (envOfC qual scope s.heap.objs.size f cdv)) → sp vs H Q E →
      ∃ t, PSs (cxOf (L2.CX P w) P w K mg base N qual scope f cdv A outer s H E) body t ∧ t { nx := fun _ H' => Q .non H', rt := Q } (start N vs) H) : Mt P w K mg base (k + 1) C m ps sp := by
  obtain ⟨fd, F⟩ := F
  exact ⟨f, fd, F.ok S len hbody, hc, hm, F.bindsN hb⟩
theorem mk_mc {N ps : List Str} {k : Nat} {sp : Sp} {C : Addr} {x m qual : Str} {params : Arguments} {body : List Stmt} {scope : Scope} {f : Addr} (F : ∃ fd, FunD K m qual params body scope [] [] f fd) (hM : Mk K C f) (hm : mg x = some (.ref C)) (S : FnScope N ps scope)
    (hb : ∀ (kV doc pm : Value) (an : Option Addr) (cdv ct : Value) (us : List Value), us.length = ps.length → bindArgs (PySem.W.fnOf m qual params body scope .none kV doc pm an cdv ct) ⟨us, []⟩ = pure (ps.zip us))
    (len : ∀ vs H Q E, sp vs H Q E → vs.length = ps.length)
    (hbody : ∀ (cdv : Value) (A : Around) (outer : List Env) (s : Shared) (H : Hp) (vs : List V) (Q : VK) (E : XK), Room k (A.deeper (envOfC qual scope s.heap.objs.size f cdv)) → sp vs H Q E →
      ∃ t, PSs (cxOf (L2.CX P w) P w K mg base N qual scope f cdv A outer s H E) body t ∧ t { nx := fun _ H' => Q .non H', rt := Q } (start N vs) H) : Mc P w K mg base (k + 1) x C ps sp := by
  obtain ⟨fd, F⟩ := F
  exact ⟨f, fd, F.ok S len hbody, hM, hm, F.bindsN hb⟩
end
end WB
/-! The rules whose reading names the written part, with it given (so that they go within a comprehension). -/
namespace WB
open PySem PySem.Spec PyProof.Rows L2 Evl
section
variable {X : Cx} {K : PySem.W.Frag} {T name id : String} {o e e2 : Expr} {es elts : List Expr} {to te tl : TE} {t ta : TA} {apos cpos pos p tpos : Pos} {r : V → List V → Hp → VK → Prop} {f : Str} {tg l : Expr} {kk : Nat}
theorem pe_bm0K (hK : X.K = K) (pa : PlainAttrs T) (slot : Slot T name id) (hty : typeOf (.builtin id) = pure (.type "method_descriptor")) (hm : MtR X id r) (ho : PE X o to)
    (hbase : attributeBase o name X.env (eval o X.env) = eval o X.env := by rfl) (hline : (apos.endLine == cpos.line) = true := by rfl) : PE X (.Call (.Attribute o name apos) [] [] cpos) (tBM0 K T r to) := by
  subst hK
  exact pe_bm0 pa slot hty hm ho hbase hline
theorem pe_bmK (hK : X.K = K) (pa : PlainAttrs T) (slot : Slot T name id) (hty : typeOf (.builtin id) = pure (.type "method_descriptor")) (hm : MtR X id r) (ho : PE X o to) (ha : PA X (e :: es) t)
    (hbase : attributeBase o name X.env (eval o X.env) = eval o X.env := by rfl)
    (hfew : ((backTo cpos (starEach (e :: es) X.env)).all (fun x => !x.1) && (backToKw cpos (keywordEach [] X.env)).all (fun x => x.1.isSome)
      && decide ((e :: es).length + ([] : List Keyword).length + (if ([] : List Keyword).isEmpty then 0 else 1) < 30)) = true := by rfl)
    (hline : (apos.endLine == cpos.line) = true := by rfl) (hs : starEach (e :: es) X.env = (false, eval e X.env) :: starEach es X.env := by rfl) (hplain : (backTo cpos (starEach es X.env)).any (·.1) = false := by rfl) :
    PE X (.Call (.Attribute o name apos) (e :: es) [] cpos) (tBM K T r to t) := by
  subst hK
  exact pe_bm pa slot hty hm ho ha hbase hfew hline hs hplain
theorem pe_fldK (hK : X.K = K) (he : PE X e te) (hb : attributeBase e f X.env (eval e X.env) = eval e X.env := by rfl) : PE X (.Attribute e f pos) (tFld K te f) := by
  subst hK
  exact pe_fld he hb
theorem pg_tupK {t : TGs} {n : Nat} (hK : X.K = K) (hc : X.calm = true) (h : PGs X es t)
    (hn : (assignEach es X.env).length = n := by rfl) (hst : (assignEach es X.env).findIdx? (·.1) = none := by rfl) : PG X (.Tuple es kk pos) (gTup K n t) := by
  subst hK
  exact pg_tup hc h hn hst
theorem pi_listK (hK : X.K = K) (hl : PE X l tl) : PI X tg l (iList K tl) := by
  subst hK
  exact pi_list hl
theorem pi_tupK (hK : X.K = K) (hl : PE X l tl) : PI X tg l (iTup K tl) := by
  subst hK
  exact pi_tup hl
theorem pi_enumK (hK : X.K = K) (hg : Gl X "enumerate") (hm : X.mg "enumerate" = none) (ha : PA X [e] ta) (hs : starEach [e] X.env = [(false, eval e X.env)] := by rfl) :
    PI X (.Tuple elts kk tpos) (.Call (.Name "enumerate" p) [e] [] pos) (iEnum K ta) := by
  subst hK
  exact pi_enum hg hm ha hs
theorem pi_zipK (hK : X.K = K) (hg : Gl X "zip") (hm : X.mg "zip" = none) (ha : PA X [e, e2] ta)
    (hs : starEach [e, e2] X.env = (false, eval e X.env) :: starEach [e2] X.env := by rfl) (hpl : (backTo pos (starEach [e2] X.env)).any (·.1) = false := by rfl) :
    PI X (.Tuple elts kk tpos) (.Call (.Name "zip" p) [e, e2] [] pos) (iZip K ta) := by
  subst hK
  exact pi_zip hg hm ha hs hpl
theorem pi_reversedK (hK : X.K = K) (hg : Gl X "reversed") (hm : X.mg "reversed" = none) (ha : PA X [e] ta) (hs : starEach [e] X.env = [(false, eval e X.env)] := by rfl) : PI X tg (.Call (.Name "reversed" p) [e] [] pos) (iRev K ta) := by
  subst hK
  exact pi_reversed hg hm ha hs
end
abbrev rTupQ (K : PySem.W.Frag) : List V → Hp → VK → Prop := fun xs H Q => ∃ p ys, xs = [.ref p] ∧ ((SqL K H p ys ∧ ∀ l, H l = none → Q (.ref l) (upd H l (.tup ys))) ∨ (SqT K H p ys ∧ Q (.ref p) H))
abbrev rLenSQ : List V → Hp → VK → Prop := fun xs H Q => ∃ z : Str, xs = [.str z] ∧ z.length ≤ sizeLine ∧ Q (.int z.length) H
abbrev rJoinQ (K : PySem.W.Frag) : V → List V → Hp → VK → Prop := fun x xs H Q => ∃ a p, ∃ ys : List Str, x = .str a ∧ xs = [.ref p] ∧ (SqL K H p (ys.map V.str) ∨ SqT K H p (ys.map V.str)) ∧ (ys.map (·.length)).sum + ys.length * a.length ≤ 16777216 ∧ Q (.str (Txt.join a ys)) H
section
variable {K : PySem.W.Frag} {σ : L2.St} {F H : Hp} {ta tb te : TE} {ds : List PyData}
theorem d_tupT (h : EvD te σ F (.tuple ds)) : EvD (tCB (rTupQ K) (tCons te tNil)) σ F (.tuple ds) := d_cb (da_cons h da_nil) fun H1 H2 e e2 xs hx Q q => by
  obtain ⟨x, rfl, h1⟩ := da1_ hx
  obtain ⟨a, ys, rfl, h2, h3⟩ := h1.tuple_
  exact ⟨a, ys, rfl, .inr ⟨SqT.of (nw_ex (e.trans e2) _ _ h2), q _ H2 (Ex.refl H2) (.tup h2 h3)⟩⟩
theorem d_tupL (h : EvD te σ F (.list ds)) : EvD (tCB (rTupQ K) (tCons te tNil)) σ F (.tuple ds) := d_cb (da_cons h da_nil) fun H1 H2 e e2 xs hx Q q => by
  obtain ⟨x, rfl, h1⟩ := da1_ hx
  obtain ⟨a, ys, rfl, h2, h3⟩ := h1.list_
  exact ⟨a, ys, rfl, .inl ⟨SqL.of (nw_ex (e.trans e2) _ _ h2), fun l hl => q _ _ (Ex.new hl) (tp_new e2 hl h3)⟩⟩
theorem d_joinL {a : Str} {ys : List Str} (ha : EvD ta σ F (.str a)) (h : EvD te σ F (.list (ys.map .str))) (hz : (ys.map (·.length)).sum + ys.length * a.length ≤ 16777216) : EvD (tBM K "str" (rJoinQ K) ta (tCons te tNil)) σ F (.str (Txt.join a ys)) := fun H1 e Q q =>
  ha H1 e _ fun x H2 e2 hx => by
    cases hx.str_
    refine ⟨rfl, h H2 (e.trans e2) _ fun y H3 e3 hy => ?_⟩
    obtain ⟨p, vs, rfl, h2, h3⟩ := hy.list_
    cases h3.strs_
    exact ⟨a, p, ys, rfl, rfl, .inl (SqL.of (nw_ex ((e.trans e2).trans e3) _ _ h2)), hz, q _ H3 (e2.trans e3) (.str _)⟩
end
end WB
/-! Instances made and filled. -/
namespace WB
open PySem PySem.Spec PyProof.Rows L2 Evl
section
variable {M : Addr → Prop} {F0 H0 F H : Hp}
theorem Kn.updM {l : Addr} {o : HO} (k : Kn M F0 H0 F H) (m : M l) : Kn M F0 H0 F (upd H l o) where
  f := k.f
  fh := fun a u h => by
    rw [upd_ne (fun z => by rw [z, k.md l m] at h; cases h)]
    exact k.fh a u h
  h := fun a u n h => by
    rw [upd_ne (fun z => n (by rw [z]; exact m))]
    exact k.h a u n h
  dm := fun a h => by
    by_cases z : a = l
    · rw [z, upd_same] at h
      cases h
    · rw [upd_ne z] at h
      exact k.dm a h
  nw := fun a u h => by
    have z : a ≠ l := fun z => by rw [z, k.md l m] at h; cases h
    have q := k.nw a u h
    cases q0 : H0 a with
    | none => rw [nw_n q0] at q ⊢; rw [upd_ne z]; exact q
    | some u0 => rw [nw_s q0] at q ⊢; exact q
  md := k.md
  mh := k.mh
end
section
variable {M : Addr → Prop} {K : PySem.W.Frag} {F0 H0 F H : Hp} {σ : L2.St} {ta tb te to tv : TE} {v : V} {D : Ends} {rest : TS} {Q : VK} {T T1 T2 : Hp → V → Prop} {C : Addr} {f : Str} {fs : List (Str × V)} {a dx : Addr}
/-- self.f = e, self one's own that may be written -/
theorem k_fld (kn : Kn M F0 H0 F H) (c : Cls K C) (n : NoAttr K C f) (hM : M a) (ha : H a = some (.ins C dx fs)) (hl : fs.length < 1000) (ho : Ev to σ F (.ref a)) (hv : EvP tv σ F T) (mo : Mo T)
    (k : ∀ y F1 H1, Kn M F0 H0 F1 H1 → Ex F F1 → T F1 y → H1 a = some (.ins C dx (putF f y fs)) → (∀ b o, b ≠ a → H b = some o → H1 b = some o) → D.nx σ H1) : sFld K to tv f D σ H :=
  hv H kn.fh _ fun y H1 e1 hy => ho H1 (kn.fh.trans e1) _ fun H2 e2 => ⟨a, C, dx, fs, rfl, e2 _ _ (e1 _ _ ha), c, n, hl, by
    have s := kn.step (e1.trans e2)
    exact k y _ _ (s.kn.updM hM) s.ff (mo _ _ _ (nw_r (exexn e2)) hy) upd_same fun b o ne h => by
      rw [upd_ne ne]
      exact e2 b o (e1 b o h)⟩
theorem q_fld (kn : Kn M F0 H0 F H) (c : Cls K C) (n : NoAttr K C f) (hM : M a) (ha : H a = some (.ins C dx fs)) (hl : fs.length < 1000) (ho : Ev to σ F (.ref a)) (hv : EvP tv σ F T) (mo : Mo T)
    (k : ∀ y F1 H1, Kn M F0 H0 F1 H1 → Ex F F1 → T F1 y → H1 a = some (.ins C dx (putF f y fs)) → (∀ b o, b ≠ a → H b = some o → H1 b = some o) → rest D σ H1) : tSeq (sFld K to tv f) rest D σ H := k_fld (D := { D with nx := rest D }) kn c n hM ha hl ho hv mo k
/-- .. F, what is new since H, and a -/
def nwb (F H H' : Hp) (a : Addr) : Hp := fun b => if b = a then H' a else nw F H H' b
/-- the promise of an __init__: args what the arguments are, res what the instance is behind it -/
def spNew {α : Type} (C : Addr) (args : α → Hp → List V → Prop) (res : α → Hp → V → Prop) : Sp := fun vs H Q _ => ∃ (F : Hp) (x : α) (a dx : Addr) (r : List V), vs = .ref a :: r ∧ H a = some (.ins C dx []) ∧ F a = none ∧ Ex F H ∧ args x F r ∧
  ∀ H', (∀ b o, b ≠ a → H b = some o → H' b = some o) → res x (nwb F H H' a) (.ref a) → Q .non H'
theorem p_make {α : Type} {args : α → Hp → List V → Prop} {res : α → Hp → V → Prop} {E : XK} {ta : TA} (x : α) (h : EvPA ta σ F (args x)) (mo : Mo (res x)) : EvP (tMake C (spNew C args res) [] E ta) σ F (res x) := fun H1 e Q q =>
  h H1 e _ fun xs H2 e2 hx p dx hp hdx ne => by
    have kp : ∀ b o, H2 b = some o → upd (upd H2 dx (.own p)) p (.ins C dx []) b = some o := fun b o hb => by
      rw [upd_ne (ne_of_none hb hp), upd_ne (ne_of_none hb hdx)]
      exact hb
    have fk : Ex (nw F H1 H2) H2 := nw_ex (e.trans e2)
    refine ⟨nw F H1 H2, x, p, dx, xs, by rw [List.append_nil], upd_same, ?_, fun b o hb => kp b o (fk b o hb), hx, fun H3 k3 hv => ⟨rfl, ?_⟩⟩
    · cases z : nw F H1 H2 p with
      | none => rfl
      | some u =>
        rw [fk p u z] at hp
        cases hp
    · refine q (.ref p) H3 (fun b o hb => k3 b o (ne_of_none (e2 b o hb) hp) (kp b o (e2 b o hb))) (mo _ _ _ (fun b o hb => ?_) hv)
      unfold nwb at hb
      by_cases z : b = p
      · rw [if_pos z] at hb
        rw [z, nw_n (exdm e2 p hp)]
        exact hb
      · rw [if_neg z] at hb
        cases w : upd (upd H2 dx (.own p)) p (.ins C dx []) b with
        | none =>
          rw [nw_n w] at hb
          have w2 : H2 b = none := by
            cases w2 : H2 b with
            | none => rfl
            | some u => rw [kp b u w2] at w; cases w
          rw [nw_n (exdm e2 b w2)]
          exact hb
        | some u =>
          rw [nw_s w] at hb
          cases z1 : H1 b with
          | none =>
            rw [nw_n z1] at hb ⊢
            exact k3 b o z (kp b o hb)
          | some u1 =>
            rw [nw_s z1] at hb ⊢
            exact hb
/-- an __init__'s start: its own instance may be written -/
theorem Kn.init (e : Ex F H) (hF : F a = none) (ha : H a = some (.ins C dx [])) : Kn (fun b => b = a) F H F H := Kn.startM e (fun b m => by rw [m]; exact hF) fun b m => by
  rw [m, ha]
  intro z
  cases z
/-- .. its end -/
theorem Kn.born (kn : Kn (fun b => b = a) F0 H0 F H) (ha : H a = some (.ins C dx fs)) : (∀ b o, b ≠ a → H0 b = some o → H b = some o) ∧ Ex (upd F a (.ins C dx fs)) (nwb F0 H0 H a) :=
  ⟨fun b o ne h => kn.h b o ne h, fun b o h => by
    unfold nwb
    by_cases z : b = a
    · rw [z, upd_same] at h
      rw [if_pos z, ha]
      exact h
    · rw [upd_ne z] at h
      rw [if_neg z]
      exact kn.nw b o h⟩
end
end WB
namespace WB
open PySem PySem.Spec PyProof.Rows L2 Evl
theorem range_map_get {α : Type} (rs : List α) (d : α) : (List.range rs.length).map (fun i => rs.getD i d) = rs := by
  apply List.ext_getElem?
  intro i
  rw [List.getElem?_map]
  by_cases hl : i < rs.length
  · rw [List.getElem?_range hl, List.getElem?_eq_getElem hl, Option.map_some, List.getD_eq_getElem?_getD, List.getElem?_eq_getElem hl]
    rfl
  · rw [List.getElem?_eq_none (by rw [List.length_range]; omega), List.getElem?_eq_none (by omega)]
    rfl
section
variable {σ : L2.St} {F : Hp} {te : TE} {g : TG} {wi : TI} {items rs : List PyData} {vs : List Nat}
/-- [elt for target in ..], what is made item by item -/
theorem d_lcm (h : WkD wi σ F items) (hz : items.length ≤ 40000) (hl : rs.length = items.length)
    (hs : ∀ (i : Nat) (d r : PyData) (x : V) (F' H' : Hp), items[i]? = some d → rs[i]? = some r → Ex F F' → Ex F' H' → Dt F' x d → ∀ Q : L2.St → Hp → Prop, (∀ σ2, wipe σ2 vs = wipe σ vs → EvD te σ2 F' r → Q σ2 H') → g x (wipe σ vs) H' Q) :
    EvD (tLc wi g tYes te vs) σ F (.list rs) := by
  refine (d_lc h hz (fun _ => true) (fun i => rs.getD i .none) fun i d v F'' H'' hi e1 e2 hd Q hQ' => ?_).is ?_
  · have hi2 : i < rs.length := by rw [hl]; exact (List.getElem?_eq_some_iff.mp hi).1
    have hr : rs[i]? = some rs[i] := List.getElem?_eq_getElem hi2
    refine hs i d _ v F'' H'' hi hr e1 e2 hd Q fun σ2 hw he => hQ' σ2 hw (fun H1 _ Q q => q H1 (Ex.refl H1)) fun _ => ?_
    rw [show rs.getD i .none = rs[i] by rw [List.getD_eq_getElem?_getD, hr]; rfl]
    exact he
  · rw [List.filter_eq_self.mpr (fun _ _ => rfl), ← hl, range_map_get]
end
theorem map_at {α β : Type} {f : α → β} {xs : List α} {i : Nat} {d : β} (h : (xs.map f)[i]? = some d) : ∃ x, xs[i]? = some x ∧ d = f x := by
  rw [List.getElem?_map] at h
  cases z : xs[i]? with
  | none => rw [z] at h; cases h
  | some q => rw [z] at h; exact ⟨q, rfl, (Option.some.inj h).symm⟩
end WB
/-! Lists of one's own that are read while they grow; instances looked at. -/
namespace WB
open PySem PySem.Spec PyProof.Rows L2 Evl
section
variable {M : Addr → Prop} {K : PySem.W.Frag} {F0 H0 F H G : Hp} {σ : L2.St} {ta tb te tx : TE} {t u : TT} {d d1 d2 d3 : PyData} {v z : V} {D : Ends} {tu tw rest : TS} {g : TG} {T : Hp → V → Prop}
/-- F, and a list of one's own as it stands now -/
theorem ex_own {l : Addr} {o : HO} (kn : Kn M F0 H0 F H) (hl : H l = some o) : Ex (upd F l o) H := fun a u h => by
  by_cases q : a = l
  · rw [q, upd_same] at h
    rw [q, hl]
    exact h
  · rw [upd_ne q] at h
    exact kn.fh a u h
theorem dt_own {l : Addr} {xs : List V} {ds : List PyData} (hF : F l = none) (h : DtAll F xs ds) : Dt (upd F l (.lst xs)) (.ref l) (.list ds) := .lst upd_same (h.ex (ex_know hF))
/-- a test over more than is known for good -/
theorem k_ifG {b : Bool} (kn : Kn M F0 H0 F H) (eG : Ex G H) (h : EvT t σ G b) (h1 : b = true → ∀ F1 H1, StpE M F0 H0 F H F1 H1 → tu D σ H1) (h2 : b = false → ∀ F1 H1, StpE M F0 H0 F H F1 H1 → tw D σ H1) : tIfS t tu tw D σ H := h H eG _ fun H1 e => by
  cases b with
  | true => exact h1 rfl _ H1 (kn.step e)
  | false => exact h2 rfl _ H1 (kn.step e)
theorem q_ifGF {b : Bool} (kn : Kn M F0 H0 F H) (eG : Ex G H) (h : EvT t σ G b) (hb : b = false) (k : ∀ F1 H1, StpE M F0 H0 F H F1 H1 → rest D σ H1) : tSeq (tIfS t tu tNext) rest D σ H := by
  subst hb
  exact k_ifG (D := { D with nx := rest D }) kn eG h (fun z => nomatch z) fun _ => k
/-- a scalar, evaluated over more than is known for good -/
theorem k_asgS {i : Nat} (kn : Kn M F0 H0 F H) (eG : Ex G H) (h : EvD te σ G d) (hs : sc d = some z) (k : ∀ F1 H1, StpE M F0 H0 F H F1 H1 → D.nx (σ.set i (some z)) H1) : tAsg te (gName i) D σ H := h H eG _ fun v H1 e hv => by
  cases dt_sc hv hs
  exact k _ H1 (kn.step e)
theorem q_asgS {i : Nat} (kn : Kn M F0 H0 F H) (eG : Ex G H) (h : EvD te σ G d) (hs : sc d = some z) (k : ∀ F1 H1, StpE M F0 H0 F H F1 H1 → rest D (σ.set i (some z)) H1) : tSeq (tAsg te (gName i)) rest D σ H := k_asgS (D := { D with nx := rest D }) kn eG h hs k
/-- xs.append(e), e a scalar that may be read off xs itself -/
theorem k_appS {l : Addr} {xs : List V} (kn : Kn M F0 H0 F H) (hl : H l = some (.lst xs)) (hF : F l = none) (h0 : H0 l = none) (ha : Ev ta σ H (.ref l)) (eG : Ex G H) (h : EvD te σ G d) (hs : sc d = some z) (hz : xs.length < 100000)
    (k : ∀ F1 H1, Kn M F0 H0 F1 H1 → Ex F F1 → F1 l = none → H1 l = some (.lst (xs ++ [z])) → (∀ a o, a ≠ l → H a = some o → H1 a = some o) → (∀ a o, H a = some o → F a = none → F1 a = none) → D.nx σ H1) :
    tDrop (tBM K "list" rAppend ta (tCons te tNil)) D σ H := ha H (Ex.refl H) _ fun H1 e1 =>
  ⟨Or.inl ⟨rfl, xs, sq_of (e1 l _ hl)⟩, h H1 (eG.trans e1) _ fun v H2 e2 hv => ⟨l, xs, v, rfl, rfl, e2 l _ (e1 l _ hl), sz_lt hz, by
    cases dt_sc hv hs
    have s := kn.step (e1.trans e2)
    have n := s.fr l _ hl hF
    exact k _ _ (s.kn.upd_ n h0) s.ff n upd_same (fun a o ne h => by rw [upd_ne ne]; exact e2 a o (e1 a o h)) s.fr⟩⟩
theorem q_appS {l : Addr} {xs : List V} (kn : Kn M F0 H0 F H) (hl : H l = some (.lst xs)) (hF : F l = none) (h0 : H0 l = none) (ha : Ev ta σ H (.ref l)) (eG : Ex G H) (h : EvD te σ G d) (hs : sc d = some z) (hz : xs.length < 100000)
    (k : ∀ F1 H1, Kn M F0 H0 F1 H1 → Ex F F1 → F1 l = none → H1 l = some (.lst (xs ++ [z])) → (∀ a o, a ≠ l → H a = some o → H1 a = some o) → (∀ a o, H a = some o → F a = none → F1 a = none) → rest D σ H1) :
    tSeq (tDrop (tBM K "list" rAppend ta (tCons te tNil))) rest D σ H := k_appS (D := { D with nx := rest D }) kn hl hF h0 ha eG h hs hz k
theorem pa_cons1 {X1 : Hp → V → Prop} (h : EvP ta σ F X1) (mo : Mo X1) : EvPA (tCons ta tNil) σ F (fun H vs => ∃ v, vs = [v] ∧ X1 H v) := fun H1 e _ q =>
  h H1 e _ fun x H2 e2 hx => q [x] H2 e2 ⟨x, rfl, hx⟩
/-- isinstance of an instance -/
theorem p_isiO {C : Addr} {b : Bool} {ty : Value} (h : EvP te σ F T) (hT : ∀ G v, T G v → TyX K G v ty) (mo : Mo T) (hb : PySem.W.kitOne K ty (.ref C) = some b) : EvD (tCB (rIsi K) (tCons te (tCons (tC (.ref C)) tNil))) σ F (.bool b) := fun H1 e Q q =>
  h H1 e _ fun x H2 e2 hx => ⟨x, .ref C, _, _, b, rfl, .own C, hT _ _ (mo _ _ _ (nw_ex (e.trans e2)) hx), hb, q _ H2 e2 (.bl b)⟩
end
end WB
/-! Trees: data all of whose lists are told by their addresses. -/
namespace WB
open PySem PySem.Spec PyProof.Rows L2 Evl
mutual
inductive Tr (H : Hp) : V → PyData → List Addr → Prop
  | non : Tr H .non .none []
  | int (i : Int) : Tr H (.int i) (.int i) []
  | lst {a : Addr} {xs : List V} {ds : List PyData} {as : List Addr} : H a = some (.lst xs) → TrAll H xs ds as → Tr H (.ref a) (.list ds) (a :: as)
  | tup {a : Addr} {xs : List V} {ds : List PyData} {as : List Addr} : H a = some (.tup xs) → TrAll H xs ds as → Tr H (.ref a) (.tuple ds) as
inductive TrAll (H : Hp) : List V → List PyData → List Addr → Prop
  | nil : TrAll H [] [] []
  | cons {v : V} {vs : List V} {d : PyData} {ds : List PyData} {as bs : List Addr} : Tr H v d as → TrAll H vs ds bs → TrAll H (v :: vs) (d :: ds) (as ++ bs)
end
mutual
theorem Tr.ex {H H' : Hp} (e : Ex H H') : ∀ {v : V} {d : PyData} {as : List Addr}, Tr H v d as → Tr H' v d as
  | _, _, _, .non => .non
  | _, _, _, .int i => .int i
  | _, _, _, .lst h a => .lst (e _ _ h) (TrAll.ex e a)
  | _, _, _, .tup h a => .tup (e _ _ h) (TrAll.ex e a)
theorem TrAll.ex {H H' : Hp} (e : Ex H H') : ∀ {vs : List V} {ds : List PyData} {as : List Addr}, TrAll H vs ds as → TrAll H' vs ds as
  | _, _, _, .nil => .nil
  | _, _, _, .cons h a => .cons (Tr.ex e h) (TrAll.ex e a)
end
mutual
theorem Tr.dt {H : Hp} : ∀ {v : V} {d : PyData} {as : List Addr}, Tr H v d as → Dt H v d
  | _, _, _, .non => .non
  | _, _, _, .int i => .int i
  | _, _, _, .lst h a => .lst h (TrAll.dt a)
  | _, _, _, .tup h a => .tup h (TrAll.dt a)
theorem TrAll.dt {H : Hp} : ∀ {vs : List V} {ds : List PyData} {as : List Addr}, TrAll H vs ds as → DtAll H vs ds
  | _, _, _, .nil => .nil
  | _, _, _, .cons h a => .cons (Tr.dt h) (TrAll.dt a)
end
mutual
theorem Tr.has {H : Hp} : ∀ {v : V} {d : PyData} {as : List Addr}, Tr H v d as → ∀ a ∈ as, ∃ xs, H a = some (.lst xs)
  | _, _, _, .non => fun a h => by cases h
  | _, _, _, .int i => fun a h => by cases h
  | _, _, _, .lst h a => fun b hb => by
    rcases List.mem_cons.mp hb with e | e
    · rw [e]; exact ⟨_, h⟩
    · exact TrAll.has a b e
  | _, _, _, .tup h a => TrAll.has a
theorem TrAll.has {H : Hp} : ∀ {vs : List V} {ds : List PyData} {as : List Addr}, TrAll H vs ds as → ∀ a ∈ as, ∃ xs, H a = some (.lst xs)
  | _, _, _, .nil => fun a h => by cases h
  | _, _, _, .cons h a => fun b hb => by
    rcases List.mem_append.mp hb with e | e
    · exact Tr.has h b e
    · exact TrAll.has a b e
end
theorem TrAll.app {H : Hp} : ∀ {vs ws : List V} {ds es : List PyData} {as bs : List Addr}, TrAll H vs ds as → TrAll H ws es bs → TrAll H (vs ++ ws) (ds ++ es) (as ++ bs)
  | _, _, _, _, _, _, .nil, b => b
  | _, _, _, _, _, _, .cons h a, b => by
    rw [List.append_assoc]
    exact .cons h (TrAll.app a b)
theorem TrAll.one {H : Hp} {v : V} {d : PyData} {as : List Addr} (h : Tr H v d as) : TrAll H [v] [d] as := by
  have z := TrAll.cons h .nil
  rw [List.append_nil] at z
  exact z
theorem TrAll.ints {H : Hp} : ∀ ns : List Int, TrAll H (ns.map V.int) (ns.map PyData.int) []
  | [] => .nil
  | n :: ns => TrAll.cons (.int n) (TrAll.ints ns)
/-- whole numbers from 0 on -/
def natsD (ns : List Nat) : PyData := .list (ns.map fun (n : Nat) => PyData.int (n : Int))
def natsV (ns : List Nat) : List V := ns.map fun (n : Nat) => V.int (n : Int)
theorem nats_all {H : Hp} : ∀ ns : List Nat, TrAll H (natsV ns) (ns.map fun (n : Nat) => PyData.int (n : Int)) []
  | [] => .nil
  | n :: ns => TrAll.cons (.int n) (nats_all ns)
theorem nats_tr {H : Hp} {a : Addr} {ns : List Nat} (h : H a = some (.lst (natsV ns))) : Tr H (.ref a) (natsD ns) [a] := .lst h (nats_all ns)
theorem nats_of {H : Hp} : ∀ {vs : List V} {ns : List Nat}, DtAll H vs (ns.map fun (n : Nat) => PyData.int (n : Int)) → vs = natsV ns
  | vs, [], h => h.nil_
  | vs, n :: ns, h => by
    obtain ⟨v, r, rfl, h1, h2⟩ := h.cons_
    rw [h1.int_, nats_of h2]
    rfl
theorem Tr.nats_ {H : Hp} {v : V} {ns : List Nat} {as : List Addr} (h : Tr H v (natsD ns) as) : ∃ a, v = .ref a ∧ as = [a] ∧ H a = some (.lst (natsV ns)) := by
  cases h with
  | @lst a xs ds as' h1 h2 =>
    have z := nats_of h2.dt
    subst z
    refine ⟨a, rfl, ?_, h1⟩
    have k : ∀ {vs : List V} {ns : List Nat} {bs : List Addr}, TrAll H vs (ns.map fun (n : Nat) => PyData.int (n : Int)) bs → bs = [] := by
      intro vs ns
      induction ns generalizing vs with
      | nil => intro bs h; cases h; rfl
      | cons n ns ih =>
        intro bs h
        rw [List.map_cons] at h
        cases h with
        | cons h3 h4 =>
          cases h3
          exact ih h4
    rw [k h2]
/-- te gives a tree of new lists, read over G; what it gives is of F or new -/
def EvR (te : TE) (σ : L2.St) (G F : Hp) (d : PyData) : Prop := ∀ H1, Ex G H1 → ∀ Q : VK, (∀ v H2 as, Ex H1 H2 → Tr (nw F H1 H2) v d as → as.Nodup → (∀ a ∈ as, H1 a = none) → Q v H2) → te σ H1 Q
section
variable {M : Addr → Prop} {K : PySem.W.Frag} {F0 H0 F H G : Hp} {σ : L2.St} {ta tb te tx : TE} {t u : TT} {d d1 d2 d3 : PyData} {v z : V} {D : Ends} {tu tw rest : TS} {g : TG} {T : Hp → V → Prop} {Q : VK}
theorem mo_tr (d : PyData) (as : List Addr) : Mo (fun H v => Tr H v d as) := fun _ _ _ e h => h.ex e
theorem EvR.toD (h : EvR te σ F F d) : EvD te σ F d := fun H1 e Q q => h H1 e Q fun v H2 as e2 ht _ _ => q v H2 e2 ht.dt
/-- a new list of numbers -/
theorem er_nats {ns : List Nat} (h : ∀ H1, Ex G H1 → ∀ Q : VK, (∀ p H2, Ex H1 H2 → H1 p = none → H2 p = some (.lst (natsV ns)) → Q (.ref p) H2) → te σ H1 Q) : EvR te σ G F (natsD ns) := fun H1 e Q q =>
  h H1 e Q fun p H2 e2 hp hx => q (.ref p) H2 [p] e2 (nats_tr (by rw [nw_n hp]; exact hx)) (List.nodup_cons.mpr ⟨(fun z => nomatch z), List.nodup_nil⟩) fun a ha => by
    rw [List.mem_singleton.mp ha]
    exact hp
/-- row[lo:hi] -/
theorem er_sl {tl th : TO} {ns ms : List Nat} {lo hi : Option Int} {l : Addr} (h : Ev te σ G (.ref l)) (hl : G l = some (.lst (natsV ns))) (h1 : EvO tl σ G lo) (h2 : EvO th σ G hi) (hc : cutV (natsV ns) lo hi = natsV ms) : EvR (tSl (rSlL K) te tl th) σ G F (natsD ms) :=
  er_nats fun H1 e Q q => h H1 e _ fun H2 e2 => h1 H2 (e.trans e2) _ fun H3 e3 => h2 H3 ((e.trans e2).trans e3) _ fun H4 e4 => by
    have e24 := (e2.trans e3).trans e4
    exact ⟨l, _, rfl, SqL.of ((e.trans e24) _ _ hl), fun p hp => q p _ (e24.trans (Ex.new hp)) (exdm e24 p hp) (by rw [upd_same, hc])⟩
/-- row + row -/
theorem er_cat {ns ms : List Nat} (ha : EvD ta σ G (natsD ns)) (hb : EvD tb σ G (natsD ms)) (hz : ns.length + ms.length ≤ sizeLine) : EvR (tOp rCat ta tb) σ G F (natsD (ns ++ ms)) :=
  er_nats fun H1 e Q q => ha H1 e _ fun x H2 e2 hx => hb H2 (e.trans e2) _ fun y H3 e3 hy => by
    obtain ⟨a, xs, rfl, h1, h2⟩ := hx.list_
    obtain ⟨b, zs, rfl, h3, h4⟩ := hy.list_
    have z1 := nats_of h2
    have z2 := nats_of h4
    subst z1 z2
    refine ⟨a, b, natsV ns, natsV ms, rfl, rfl, e3 _ _ (nw_ex (e.trans e2) _ _ h1), nw_ex ((e.trans e2).trans e3) _ _ h3, ?_, fun p hp => q p _ ((e2.trans e3).trans (Ex.new hp)) (exdm (e2.trans e3) p hp) ?_⟩
    · unfold natsV
      rw [List.length_map, List.length_map]
      exact hz
    · rw [upd_same]
      unfold natsV
      rw [List.map_append]
/-- list(range(n)), list(range(a, b)) -/
theorem er_rg1 {n : Nat} (h : EvD te σ G (.int (n : Int))) (hr : RgOk 0 n) : EvR (tLstRg (tRg1 te)) σ G F (natsD (List.range n)) := er_nats fun H1 e Q q => h H1 e _ fun x H2 e2 hx => by
  cases hx.int_
  refine ⟨n, rfl, hr, fun l hl => q l _ (e2.trans (Ex.new hl)) (exdm e2 l hl) ?_⟩
  rw [upd_same]
  unfold rgV natsV
  simp
theorem er_rg2 {a n : Nat} (ha : EvD ta σ G (.int (a : Int))) (hb : EvD tb σ G (.int ((a : Int) + (n : Int)))) (hr : RgOk a (a + n)) : EvR (tLstRg (tRg2 ta tb)) σ G F (natsD ((List.range n).map fun j => a + j)) := er_nats fun H1 e Q q => ha H1 e _ fun x H2 e2 hx => hb H2 (e.trans e2) _ fun y H3 e3 hy => by
  cases hx.int_
  cases hy.int_
  refine ⟨a, (a : Int) + (n : Int), rfl, rfl, hr, fun l hl => q l _ ((e2.trans e3).trans (Ex.new hl)) (exdm (e2.trans e3) l hl) ?_⟩
  rw [upd_same]
  unfold rgV natsV
  have z : ((a : Int) + (n : Int) - (a : Int)).toNat = n := by omega
  rw [z, List.map_map]
  congr 1
/-- name = tree -/
theorem k_asgR {i : Nat} (kn : Kn M F0 H0 F H) (eG : Ex G H) (h : EvR te σ G F d) (k : ∀ v as F1 H1, StpE M F0 H0 F H F1 H1 → Tr F1 v d as → as.Nodup → (∀ a ∈ as, H a = none) → D.nx (σ.set i (some v)) H1) : tAsg te (gName i) D σ H := h H eG _ fun v H1 as e ht hn h0 => k v as _ H1 (kn.step e) ht hn h0
theorem q_asgR {i : Nat} (kn : Kn M F0 H0 F H) (eG : Ex G H) (h : EvR te σ G F d) (k : ∀ v as F1 H1, StpE M F0 H0 F H F1 H1 → Tr F1 v d as → as.Nodup → (∀ a ∈ as, H a = none) → rest D (σ.set i (some v)) H1) : tSeq (tAsg te (gName i)) rest D σ H := k_asgR (D := { D with nx := rest D }) kn eG h k
/-- name = row, a list of numbers that is one's own: it may be written -/
theorem q_row {i : Nat} {ns : List Nat} (kn : Kn M F0 H0 F H) (h : EvR te σ F F (natsD ns)) (k : ∀ l H1, StpE M F0 H0 F H (but (nw F H H1) l) H1 → H l = none → H1 l = some (.lst (natsV ns)) → rest D (σ.set i (some (.ref l))) H1) : tSeq (tAsg te (gName i)) rest D σ H := h H kn.fh _ fun v H1 as e ht hn h0 => by
  obtain ⟨l, rfl, rfl, hl⟩ := ht.nats_
  have hl0 : H l = none := h0 l (List.mem_singleton.mpr rfl)
  have s := kn.step e
  refine k l H1 ⟨⟨⟨?_, ?_, s.kn.h, s.kn.dm, ?_, ?_, s.kn.mh⟩, ?_, s.hm, ?_⟩, e⟩ hl0 (by rw [nw_n hl0] at hl; exact hl)
  · intro a o ha
    have : a ≠ l := fun q => by rw [q] at ha; rw [kn.fh _ _ (kn.f _ _ ha)] at hl0; cases hl0
    rw [but_ne this]
    exact s.kn.f a o ha
  · intro a o ha
    by_cases q : a = l
    · rw [q, but_same] at ha; cases ha
    · rw [but_ne q] at ha; exact s.kn.fh a o ha
  · intro a o ha
    by_cases q : a = l
    · rw [q, but_same] at ha; cases ha
    · rw [but_ne q] at ha; exact s.kn.nw a o ha
  · intro a m
    by_cases q : a = l
    · rw [q, but_same]
    · rw [but_ne q]; exact s.kn.md a m
  · intro a o ha
    have : a ≠ l := fun q => by rw [q] at ha; rw [kn.fh _ _ ha] at hl0; cases hl0
    rw [but_ne this]
    exact s.ff a o ha
  · intro a o ha hf
    by_cases q : a = l
    · rw [q, but_same]
    · rw [but_ne q]; exact s.fr a o ha hf
/-- name = [..], a list of one's own; it is new -/
theorem q_newN {i : Nat} {ta : TA} {ds : List PyData} (kn : Kn M F0 H0 F H) (h : EvDA ta σ F ds) (hz : ds.length ≤ 100000) (k : ∀ l xs F1 H1, StpE M F0 H0 F H F1 H1 → F1 l = none → H l = none → H1 l = some (.lst xs) → DtAll F1 xs ds → rest D (σ.set i (some (.ref l))) H1) : tSeq (tAsg (tLst ta) (gName i)) rest D σ H :=
  h H kn.fh _ fun xs H1 e hx => ⟨by rw [hx.len]; exact sz_of hz, fun l hl => by
    have s := kn.step e
    have s2 : StpE M F0 H0 F H (WB.nw F H H1) (upd H1 l (.lst xs)) := ⟨⟨s.kn.upd_ (by rw [nw_n (exdm e l hl), hl]) (s.kn.dm l hl), s.ff, s.hm.trans (ExM.of (Ex.new hl)), s.fr⟩, e.trans (Ex.new hl)⟩
    exact k l xs _ _ s2 (by rw [nw_n (exdm e l hl), hl]) (exdm e l hl) upd_same hx⟩
/-- xs.append(e), any word about e's value -/
theorem k_appP {l : Addr} {xs : List V} (kn : Kn M F0 H0 F H) (hl : H l = some (.lst xs)) (hF : F l = none) (h0 : H0 l = none) (ha : Ev ta σ H (.ref l)) (h : EvP te σ F T) (mo : Mo T) (hz : xs.length < 100000)
    (k : ∀ v F1 H1, Kn M F0 H0 F1 H1 → Ex F F1 → F1 l = none → T F1 v → H1 l = some (.lst (xs ++ [v])) → (∀ a o, a ≠ l → H a = some o → H1 a = some o) → (∀ a o, H a = some o → F a = none → F1 a = none) → D.nx σ H1) :
    tDrop (tBM K "list" rAppend ta (tCons te tNil)) D σ H := ha H (Ex.refl H) _ fun H1 e1 =>
  ⟨Or.inl ⟨rfl, xs, sq_of (e1 l _ hl)⟩, h H1 (kn.fh.trans e1) _ fun v H2 e2 hv => ⟨l, xs, v, rfl, rfl, e2 l _ (e1 l _ hl), sz_lt hz, by
    have s := kn.step (e1.trans e2)
    have n := s.fr l _ hl hF
    refine k v _ _ (s.kn.upd_ n h0) s.ff n (mo _ _ _ (nw_l kn.fh (exdm e1)) hv) upd_same (fun a o ne h => by rw [upd_ne ne]; exact e2 a o (e1 a o h)) s.fr⟩⟩
/-- .. of a new tree, read over G -/
theorem k_appR {l : Addr} {xs : List V} (kn : Kn M F0 H0 F H) (hl : H l = some (.lst xs)) (hF : F l = none) (h0 : H0 l = none) (ha : Ev ta σ H (.ref l)) (eG : Ex G H) (h : EvR te σ G F d) (hz : xs.length < 100000)
    (k : ∀ v as F1 H1, Kn M F0 H0 F1 H1 → Ex F F1 → F1 l = none → Tr F1 v d as → as.Nodup → (∀ a ∈ as, H a = none) → H1 l = some (.lst (xs ++ [v])) → (∀ a o, a ≠ l → H a = some o → H1 a = some o) → (∀ a o, H a = some o → F a = none → F1 a = none) → D.nx σ H1) :
    tDrop (tBM K "list" rAppend ta (tCons te tNil)) D σ H := ha H (Ex.refl H) _ fun H1 e1 =>
  ⟨Or.inl ⟨rfl, xs, sq_of (e1 l _ hl)⟩, h H1 (eG.trans e1) _ fun v H2 as e2 ht hn hf => ⟨l, xs, v, rfl, rfl, e2 l _ (e1 l _ hl), sz_lt hz, by
    have s := kn.step (e1.trans e2)
    have n := s.fr l _ hl hF
    refine k v as _ _ (s.kn.upd_ n h0) s.ff n (ht.ex (nw_l kn.fh (exdm e1))) hn (fun a m => exdm e1 a (hf a m)) upd_same (fun a o ne h => by rw [upd_ne ne]; exact e2 a o (e1 a o h)) s.fr⟩⟩
/-- (e, e) of values told by a word -/
theorem p_tup2 {T1 T2 : Hp → V → Prop} (ha : EvP ta σ F T1) (m1 : Mo T1) (hb : EvP tb σ F T2) (m2 : Mo T2) : EvP (tTup (tCons ta (tCons tb tNil))) σ F (fun H v => ∃ p x y, v = .ref p ∧ H p = some (.tup [x, y]) ∧ T1 H x ∧ T2 H y) := fun H1 e Q q =>
  ha H1 e _ fun x H2 e2 hx => hb H2 (e.trans e2) _ fun y H3 e3 hy => ⟨(show 2 ≤ sizeLine by decide), fun p hp => q _ _ ((e2.trans e3).trans (Ex.new hp)) ⟨p, x, y, rfl, by rw [nw_n (exdm (e2.trans e3) p hp), upd_same], m1 _ _ _ (nw_r (exexn (e3.trans (Ex.new hp)))) hx, m2 _ _ _ ((nw_l e (exdm e2)).trans (nw_r (exexn (Ex.new hp)))) hy⟩⟩
/-- row[lo:hi] = list -/
theorem k_slc {l b : Addr} {xs ys : List V} {tl th : TO} {lo hi : Int} (kn : Kn M F0 H0 F H) (hl : H l = some (.lst xs)) (hF : F l = none) (h0 : H0 l = none) (hb : F b = some (.lst ys)) (he : Ev te σ H (.ref b)) (ha : Ev ta σ H (.ref l)) (h1 : EvO tl σ H (some lo)) (h2 : EvO th σ H (some hi))
    (c0 : 0 ≤ lo) (c1 : lo ≤ hi) (c2 : hi ≤ xs.length) (c3 : xs.length + ys.length ≤ sizeLine)
    (k : ∀ F1 H1, Kn M F0 H0 F1 H1 → Ex F F1 → F1 l = none → H1 l = some (.lst (xs.take lo.toNat ++ ys ++ xs.drop hi.toNat)) → (∀ a o, a ≠ l → H a = some o → H1 a = some o) → (∀ a o, H a = some o → F a = none → F1 a = none) → D.nx σ H1) :
    tAsg te (gSlc ta tl th) D σ H := he H (Ex.refl H) _ fun H1 e1 => ha H1 e1 _ fun H2 e2 => h1 H2 (e1.trans e2) _ fun H3 e3 => h2 H3 ((e1.trans e2).trans e3) _ fun H4 e4 => by
  have e := ((e1.trans e2).trans e3).trans e4
  have s := kn.step e
  have n := s.fr l _ hl hF
  exact ⟨l, b, xs, ys, lo, hi, rfl, rfl, rfl, rfl, e _ _ hl, e _ _ (kn.fh _ _ hb), (fun q => by rw [q, hb] at hF; cases hF), c0, c1, c2, c3, k _ _ (s.kn.upd_ n h0) s.ff n upd_same (fun a o ne h => by rw [upd_ne ne]; exact e a o h) s.fr⟩
theorem q_slc {l b : Addr} {xs ys : List V} {tl th : TO} {lo hi : Int} (kn : Kn M F0 H0 F H) (hl : H l = some (.lst xs)) (hF : F l = none) (h0 : H0 l = none) (hb : F b = some (.lst ys)) (he : Ev te σ H (.ref b)) (ha : Ev ta σ H (.ref l)) (h1 : EvO tl σ H (some lo)) (h2 : EvO th σ H (some hi))
    (c0 : 0 ≤ lo) (c1 : lo ≤ hi) (c2 : hi ≤ xs.length) (c3 : xs.length + ys.length ≤ sizeLine)
    (k : ∀ F1 H1, Kn M F0 H0 F1 H1 → Ex F F1 → F1 l = none → H1 l = some (.lst (xs.take lo.toNat ++ ys ++ xs.drop hi.toNat)) → (∀ a o, a ≠ l → H a = some o → H1 a = some o) → (∀ a o, H a = some o → F a = none → F1 a = none) → rest D σ H1) :
    tSeq (tAsg te (gSlc ta tl th)) rest D σ H := k_slc (D := { D with nx := rest D }) kn hl hF h0 hb he ha h1 h2 c0 c1 c2 c3 k
/-- name = xs[i], xs one's own list -/
theorem q_ixO {i : Nat} {l : Addr} {xs : List V} {j : Int} {v : V} (kn : Kn M F0 H0 F H) (hl : H l = some (.lst xs)) (ha : Ev ta σ H (.ref l)) (hi : Ev tb σ H (.int j)) (h : atI xs j = some v) (k : ∀ F1 H1, StpE M F0 H0 F H F1 H1 → rest D (σ.set i (some v)) H1) : tSeq (tAsg (tOp (rIxL K) ta tb) (gName i)) rest D σ H :=
  ha H (Ex.refl H) _ fun H1 e1 => hi H1 e1 _ fun H2 e2 => ⟨l, xs, j, v, rfl, rfl, SqL.of (e2 _ _ (e1 _ _ hl)), h, k _ H2 (kn.step (e1.trans e2))⟩
/-- the promise of a def that tells a new tree -/
def SpR {α : Type} (args : α → Hp → List V → Prop) (res : α → PyData) : Sp := fun vs H Q _ => ∃ F x, Ex F H ∧ args x F vs ∧ ∀ v H' as, Ex H H' → Tr (nw F H H') v (res x) as → as.Nodup → (∀ a ∈ as, H a = none) → Q v H'
theorem r_call {α : Type} {args : α → Hp → List V → Prop} {res : α → PyData} {E : XK} {ta : TA} (x : α) (h : EvPA ta σ F (args x)) : EvR (tCall (SpR args res) [] E ta) σ F F (res x) := fun H1 e Q q =>
  h H1 e _ fun xs H2 e2 hx => by
    show SpR args res (xs ++ []) H2 Q E
    rw [List.append_nil]
    exact ⟨nw F H1 H2, x, nw_ex (e.trans e2), hx, fun v H3 as e3 hv hn hf => q v H3 as (e2.trans e3) (hv.ex (nw_nw e2 e3)) hn fun a m => exdm e2 a (hf a m)⟩
theorem mo_tup2 {T1 T2 : Hp → V → Prop} (m1 : Mo T1) (m2 : Mo T2) : Mo (fun H v => ∃ p x y, v = .ref p ∧ H p = some (.tup [x, y]) ∧ T1 H x ∧ T2 H y) := fun H H' v e ⟨p, x, y, a, b, c, d⟩ => ⟨p, x, y, a, e _ _ b, m1 _ _ _ e c, m2 _ _ _ e d⟩
theorem EvR.is {e : PyData} (h : EvR te σ G F d) (q : d = e) : EvR te σ G F e := q ▸ h
theorem nodup_two {as : List Addr} {a b : Addr} (n : as.Nodup) (ha : a ∉ as) (hb : b ∉ as) (ne : a ≠ b) : (as ++ [a, b]).Nodup := by
  refine List.nodup_append.mpr ⟨n, by simp [ne], ?_⟩
  intro c hc e he
  rcases List.mem_cons.mp he with q | q
  · rw [q]; exact fun z => ha (z ▸ hc)
  · rw [List.mem_singleton.mp q]; exact fun z => hb (z ▸ hc)
theorem nodup_one {as : List Addr} {a : Addr} (n : as.Nodup) (ha : a ∉ as) : (as ++ [a]).Nodup := by
  refine List.nodup_append.mpr ⟨n, by simp, ?_⟩
  intro c hc e he
  rw [List.mem_singleton.mp he]
  exact fun z => ha (z ▸ hc)
/-- an address that is not of the heap is none of a tree's -/
theorem TrAll.fresh {vs : List V} {ds : List PyData} {as : List Addr} {a : Addr} (h : TrAll F vs ds as) (e : Ex F H) (ha : H a = none) : a ∉ as := fun m => by
  obtain ⟨xs, z⟩ := h.has a m
  rw [e _ _ z] at ha
  cases ha
/-- return xs, xs one's own list of trees -/
theorem k_finR {l : Addr} {vs : List V} {ds : List PyData} {as : List Addr} (hQ : ∀ v H' as, Ex H0 H' → Tr (nw F0 H0 H') v (.list ds) as → as.Nodup → (∀ a ∈ as, H0 a = none) → Q v H') (kn : Kn M0 F0 H0 F H) (hl : H l = some (.lst vs)) (hF : F l = none) (h0 : H0 l = none)
    (ht : TrAll F vs ds as) (nd : as.Nodup) (hn : ∀ a ∈ as, H0 a = none) (he : Ev te σ H (.ref l)) (hD : D.rt = Q := by rfl) : tRet te D σ H := he H (Ex.refl H) _ fun H1 e => by
  rw [hD]
  have s := kn.step e
  refine hQ _ H1 (l :: as) s.kn.hh (.lst ?_ (ht.ex (s.ff.trans s.kn.nw))) (List.nodup_cons.mpr ⟨fun m => ?_, nd⟩) fun a m => ?_
  · rw [nw_n h0]
    exact e _ _ hl
  · obtain ⟨xs, z⟩ := ht.has l m
    rw [hF] at z
    cases z
  · rcases List.mem_cons.mp m with q | q
    · rw [q]; exact h0
    · exact hn a q
/-- name = [tree], a list of one's own -/
theorem q_newR {i : Nat} (kn : Kn M F0 H0 F H) (h : EvR te σ F F d) (k : ∀ l v as F1 H1, StpE M F0 H0 F H F1 H1 → F1 l = none → H l = none → H1 l = some (.lst [v]) → Tr F1 v d as → as.Nodup → (∀ a ∈ as, H a = none) → rest D (σ.set i (some (.ref l))) H1) : tSeq (tAsg (tLst (tCons te tNil)) (gName i)) rest D σ H :=
  h H kn.fh _ fun v H1 as e ht hn hf => ⟨(show 1 ≤ sizeLine by decide), fun l hl => by
    have s := kn.step e
    have s2 : StpE M F0 H0 F H (WB.nw F H H1) (upd H1 l (.lst [v])) := ⟨⟨s.kn.upd_ (by rw [nw_n (exdm e l hl), hl]) (s.kn.dm l hl), s.ff, s.hm.trans (ExM.of (Ex.new hl)), s.fr⟩, e.trans (Ex.new hl)⟩
    exact k l v as _ _ s2 (by rw [nw_n (exdm e l hl), hl]) (exdm e l hl) upd_same ht hn hf⟩
/-- n - 1, n - 2, .., 0 -/
def revD (n : Nat) : List PyData := (List.range n).map fun i => PyData.int ((n : Int) - 1 - (i : Nat))
theorem revD_len (n : Nat) : (revD n).length = n := by unfold revD; rw [List.length_map, List.length_range]
theorem revD_get {n i : Nat} (h : i < n) : (revD n)[i]? = some (.int ((n : Int) - 1 - (i : Nat))) := by
  unfold revD
  rw [List.getElem?_map, List.getElem?_range h]
  rfl
theorem itd_rev {n : Nat} : ItD (Itc (0 + (n : Int) - 1) (-1) n) G (revD n) where
  go := fun i H e hi => by rw [revD_len] at hi; exact hi
  yld := fun i H x H' e hi ⟨e1, e2⟩ => by
    subst e1 e2
    rw [revD_len] at hi
    refine ⟨Ex.refl _, fun d hdd => ?_⟩
    rw [revD_get hi] at hdd
    cases hdd
    have z : (0 + (n : Int) - 1 + (i : Nat) * -1) = (n : Int) - 1 - (i : Nat) := by omega
    rw [z]
    exact .int _
  stop := fun i H e hi => by rw [revD_len] at hi; exact hi
theorem wk_rev {n : Nat} (h : EvD te σ F (.int (n : Int))) (hn : n < 2 ^ 62) : WkD (iRevR (tRg1 te)) σ F (revD n) := fun H1 e R q => h H1 e _ fun v H2 e2 hv => by
  cases hv.int_
  refine ⟨n, rfl, by omega, by omega, by omega, by omega, ?_⟩
  have z : ((n : Int) - 0).toNat = n := by omega
  rw [z]
  exact q _ H2 e2 itd_rev
end
end WB
/-! in and index by data; more of lists that are one's own. -/
namespace WB
open PySem PySem.Spec PyProof.Rows L2 Evl
theorem u65 {k : Nat} {A : Around} (r : Room k A) : A.units + 65 < cLine := by have := r.un; omega
section
variable {M : Addr → Prop} {K : PySem.W.Frag} {F0 H0 F H G : Hp} {σ : L2.St} {ta tb te tx : TE} {t u : TT} {d d1 d2 d3 : PyData} {v z : V} {D : Ends} {tu tw rest : TS} {g : TG} {T : Hp → V → Prop} {Q : VK}
theorem d_inD {ds : List PyData} (ha : EvD ta σ F d1) (hb : EvD tb σ F (.list ds)) (p1 : plainD d1 = true) (p2 : plainDs ds = true) (s1 : SeqAt.shaped d1 = true) (s2 : SeqAt.shaped (.list ds) = true) : EvD (tOp (rInD K) ta tb) σ F (.bool (ds.any fun z => PyData.eqv z d1)) :=
  d_op ha hb (opS rfl fun H1 x y hx hy Q q => ⟨d1, ds, hx.dp p1, hy.dp (by unfold plainD; exact p2), s1, s2, q⟩)
theorem d_neg {i : Int} (h : EvD te σ F (.int i)) : EvD (tUn (rU fun i => .int (-i)) te) σ F (.int (-i)) := fun H1 e Q q => h H1 e _ fun x H2 e2 hx => by
  cases hx.int_
  exact ⟨i, rfl, q _ H2 e2 (.int _)⟩
theorem d_idxD {ds : List PyData} {j : Nat} {z : PyData} (ha : EvD ta σ F (.list ds)) (hb : EvD tb σ F d1) (p1 : plainD d1 = true) (p2 : plainDs ds = true) (s1 : SeqAt.shaped d1 = true) (s2 : SeqAt.shaped (.list ds) = true)
    (hz : ds[j]? = some z) (he : PyData.eqv z d1 = true) (hn : ∀ (m : Nat) (z' : PyData), m < j → ds[m]? = some z' → PyData.eqv z' d1 = false) : EvD (tBM K "list" (rIndexD K) ta (tCons tb tNil)) σ F (.int (j : Nat)) := fun H1 e Q q =>
  ha H1 e _ fun x H2 e2 hx => by
    obtain ⟨a, xs, rfl, h1, h2⟩ := hx.list_
    have g1 : H2 a = some (.lst xs) := nw_ex (e.trans e2) _ _ h1
    refine ⟨Or.inl ⟨rfl, xs, sq_of g1⟩, hb H2 (e.trans e2) _ fun y H3 e3 hy => ?_⟩
    have ex3 : Ex (nw F H1 H2) H3 := (nw_ex (e.trans e2)).trans e3
    exact ⟨a, y, d1, ds, j, z, rfl, rfl, (Dt.lst (ex3 _ _ h1) (h2.ex ex3)).dp (by unfold plainD; exact p2), (hy.ex (nw_ex ((e.trans e2).trans e3))).dp p1, s2, s1, hz, he, hn, q _ H3 (e2.trans e3) (.int _)⟩
/-- a, b = xs[i], e; xs one's own -/
theorem q_parO {i j : Nat} {l : Addr} {xs : List V} {n : Int} {v : V} {tc : TE} (kn : Kn M F0 H0 F H) (hl : H l = some (.lst xs)) (ha : Ev ta σ H (.ref l)) (hi : Ev tb σ H (.int n)) (h : atI xs n = some v) (hb : EvD tc σ F d2) (k : ∀ y F1 H1, StpE M F0 H0 F H F1 H1 → Dt F1 y d2 → rest D ((σ.set i (some v)).set j (some y)) H1) :
    tSeq (tPar i j (tCons (tOp (rIxL K) ta tb) (tCons tc tNil))) rest D σ H := ha H (Ex.refl H) _ fun H1 e1 => hi H1 e1 _ fun H2 e2 => ⟨l, xs, n, v, rfl, rfl, SqL.of (e2 _ _ (e1 _ _ hl)), h, hb H2 ((kn.fh.trans e1).trans e2) _ fun y H3 e3 hy => by
    have e := e1.trans e2
    exact ⟨v, y, rfl, k y _ H3 (kn.step (e.trans e3)) (hy.ex (nw_l kn.fh (exdm e)))⟩⟩
/-- return xs, xs one's own list of data -/
theorem k_finL {l : Addr} {vs : List V} {ds : List PyData} (hQ : ∀ v H', Ex H0 H' → Dt (nw F0 H0 H') v (.list ds) → Q v H') (kn : Kn M0 F0 H0 F H) (hl : H l = some (.lst vs)) (hF : F l = none) (h0 : H0 l = none) (ht : DtAll F vs ds) (he : Ev te σ H (.ref l)) (hD : D.rt = Q := by rfl) : tRet te D σ H := he H (Ex.refl H) _ fun H1 e => by
  rw [hD]
  have s := kn.step e
  refine hQ _ H1 s.kn.hh (.lst ?_ (ht.ex (s.ff.trans s.kn.nw)))
  rw [nw_n h0]
  exact e _ _ hl
/-- [e for x in ..] -/
theorem d_lcn {wi : TI} {items rs : List PyData} {vs : List Nat} {j : Nat} (h : WkD wi σ F items) (hz : items.length ≤ 40000) (hl : rs.length = items.length)
    (hs : ∀ (i : Nat) (d r : PyData) (x : V) (F' : Hp), items[i]? = some d → rs[i]? = some r → Ex F F' → Dt F' x d → EvD te ((wipe σ vs).set j (some x)) F' r) (hw : ∀ x, wipe ((wipe σ vs).set j (some x)) vs = wipe σ vs := by intro _; rfl) :
    EvD (tLc wi (gName j) tYes te vs) σ F (.list rs) := d_lcm h hz hl fun i d r x F' H' hi hr e1 e2 hd Q hQ => hQ _ (hw x) (hs i d r x F' hi hr e1 hd)
end
end WB
/-! The stream of draws: a list that is written. -/
namespace WB
open PySem PySem.Spec PyProof.Rows L2 Evl
def Ms (l s : Addr) : Addr → Prop := fun b => b = l ∨ b = s
/-- a stream at l, its cells at s, n draws at most till now -/
def StA (l s : Addr) (n : Nat) (H : Hp) : Prop := ∃ (xs : List Int) (a b c : Int), H l = some (.lst [.ref s, .int a, .int b, .int c]) ∧ H s = some (.lst (xs.map V.int)) ∧ 0 ≤ a ∧ 0 ≤ b ∧ b ≤ n ∧ 0 ≤ c ∧ c < 2147483647
section
variable {l s : Addr} {n : Nat} {F0 H0 F H H1 H2 H3 : Hp} {σ : L2.St} {Q : VK} {ta tb te : TE} {D : Ends} {rest : TS}
theorem StA.ex (st : StA l s n H) (e : Ex H H1) : StA l s n H1 := by
  obtain ⟨xs, a, b, c, h1, h2, h3⟩ := st
  exact ⟨xs, a, b, c, e _ _ h1, e _ _ h2, h3⟩
theorem StA.at_ (st : StA l s n H) (e1 : H1 l = H l) (e2 : H1 s = H s) : StA l s n H1 := by
  obtain ⟨xs, a, b, c, h1, h2, h3⟩ := st
  exact ⟨xs, a, b, c, by rw [e1]; exact h1, by rw [e2]; exact h2, h3⟩
theorem StA.mono {m : Nat} (st : StA l s n H) (h : n ≤ m) : StA l s m H := by
  obtain ⟨xs, a, b, c, h1, h2, h3, h4, h5, h6⟩ := st
  exact ⟨xs, a, b, c, h1, h2, h3, h4, by omega, h6⟩
theorem StA.has (st : StA l s n H) : ∀ a, Ms l s a → H a ≠ none := fun a m => by
  obtain ⟨xs, _, b, c, h1, h2, _⟩ := st
  rcases m with q | q
  · rw [q, h1]; intro z; cases z
  · rw [q, h2]; intro z; cases z
theorem exn_m (e : ExM (Ms l s) H2 H3) (h : ∀ a, Ms l s a → H1 a ≠ none) : ExN H1 H2 H3 := fun a o h1 h2 => e.k a o (fun m => h a m h1) h2
/-- the promise of a def that draws: k the most draws -/
def SpM {α : Type} (k : α → Nat) (args : α → Hp → List V → Prop) (res : α → Hp → V → Prop) : Sp := fun vs H Q _ => ∃ (F : Hp) (x : α) (l s : Addr) (n : Nat) (r : List V), vs = .ref l :: r ∧ Ex F H ∧ F l = none ∧ F s = none ∧ StA l s n H ∧ n + k x ≤ 1000000 ∧ args x F r ∧
  ∀ v H', ExM (Ms l s) H H' → StA l s (n + k x) H' → res x (nw F H H') v → Q v H'
theorem wm_call {α : Type} {k : α → Nat} {args : α → Hp → List V → Prop} {res : α → Hp → V → Prop} {E : XK} {tl : TA} {i : Nat} (x : α) (kn : Kn (Ms l s) F0 H0 F H) (st : StA l s n H) (hn : n + k x ≤ 1000000) (hi : σ[i]? = some (some (.ref l))) (h : EvPA tl σ F (args x)) (mo : Mo (res x))
    (k' : ∀ v F1 H1, Stp (Ms l s) F0 H0 F H F1 H1 → StA l s (n + k x) H1 → res x F1 v → Q v H1) : tCall (SpM k args res) [] E (tCons (tVar i) tl) σ H Q := by
  refine ⟨.ref l, hi, h H kn.fh _ fun xs H2 e2 hx => ?_⟩
  show SpM k args res ((.ref l :: xs) ++ []) H2 Q E
  rw [List.append_nil]
  have st2 := st.ex e2
  have hl : F l = none := kn.md l (.inl rfl)
  have hs : F s = none := kn.md s (.inr rfl)
  have nl : ∀ a, Ms l s a → nw F H H2 a = none := fun a m => by
    cases z : H a with
    | none => exact absurd z (st.has a m)
    | some o => rw [nw_s z]; exact kn.md a m
  refine ⟨nw F H H2, x, l, s, n, xs, rfl, nw_ex (kn.fh.trans e2), nl l (.inl rfl), nl s (.inr rfl), st2, hn, hx, fun v H3 e3 st3 hv => k' v _ H3 (kn.stepM ((ExM.of e2).trans e3)) st3 (mo _ _ _ (fun a o ha => ?_) hv)⟩
  cases z : H2 a with
  | none =>
    rw [nw_n z] at ha
    rw [nw_n (exdm e2 a z)]
    exact ha
  | some u =>
    rw [nw_s z] at ha
    exact nw_r (exn_m e3 st.has) a o ha
/-- unfoldings -/
theorem wp_op {r : R2} (h : ta σ H fun x H1 => tb σ H1 fun y H2 => r x y H2 Q) : tOp r ta tb σ H Q := h
theorem wp_asg {i : Nat} (h : ta σ H fun v H1 => rest D (σ.set i (some v)) H1) : tSeq (tAsg ta (gName i)) rest D σ H := h
theorem wp_ret (h : ta σ H D.rt) : tRet ta D σ H := h
/-- [e for j in range(m)], e may write -/
theorem lc_turns {M M2 : Addr → Prop} {m : Nat} {vs : List Nat} {j : Nat} (kn : Kn M F0 H0 F H) (hm : m ≤ 40000) (I : Nat → List V → Hp → Hp → Prop) (hM2 : ∀ a, M2 a → H a ≠ none)
    (h0 : I 0 [] F H) (hI : ∀ i acc F' H' H'', I i acc F' H' → (∀ a, H a ≠ none → H'' a = H' a) → I i acc F' H'')
    (hs : ∀ i acc F' H', i < m → acc.length = i → Kn M F0 H0 F' H' → Ex F F' → ExM M2 H H' → I i acc F' H' → ∀ Q' : VK, (∀ v F2 H2, Kn M F0 H0 F2 H2 → Ex F' F2 → ExM M2 H' H2 → (∀ a o, H' a = some o → F' a = none → F2 a = none) → I (i + 1) (acc ++ [v]) F2 H2 → Q' v H2) → te ((wipe σ vs).set j (some (.int (0 + (i : Nat))))) H' Q')
    (hD : ∀ D acc F' H', Kn M F0 H0 F' H' → Ex F F' → ExM M2 H H' → (∀ a o, H a = some o → F a = none → F' a = none) → acc.length = m → I m acc F' H' → H' D = some (.lst acc) → F' D = none → H D = none → Q (.ref D) H')
    (hw : ∀ x, wipe ((wipe σ vs).set j (some x)) vs = wipe σ vs := by intro _; rfl) :
    ∀ D, H D = none → ∃ W : Nat → Nat → Hp → Prop, (∃ m, W 0 m (upd H D (.lst []))) ∧ ∀ i k H, W i k H →
      ((Itr 0 m).stop i H ∧ Q (.ref D) H) ∨ ((Itr 0 m).go i H ∧ ∃ Nx : Hp → Prop, (∀ H', Nx H' → ∃ m', m' < k ∧ W (i + 1) m' H') ∧ ∀ x H', (Itr 0 m).yld i H x H' → (gName j) x (wipe σ vs) H' fun σ2 H2 => wipe σ2 vs = wipe σ vs ∧ tYes σ2 H2 fun b H3 =>
        if b = true then te σ2 H3 fun y H4 => ∃ acc, H4 D = some (.lst acc) ∧ acc.length < sizeLine ∧ Nx (upd H4 D (.lst (acc ++ [y]))) else Nx H3) := fun D hDn => by
  have hFD : F D = none := by
    cases z : F D with
    | none => rfl
    | some o => rw [kn.fh _ _ z] at hDn; cases hDn
  have nM2 : ¬ M2 D := fun z => hM2 D z hDn
  refine ⟨fun i k H' => k = m - i ∧ i ≤ m ∧ ∃ F' acc, Kn M F0 H0 F' H' ∧ Ex F F' ∧ ExM M2 H H' ∧ (∀ a o, H a = some o → F a = none → F' a = none) ∧ H' D = some (.lst acc) ∧ F' D = none ∧ acc.length = i ∧ I i acc F' H', ⟨m, by simp, Nat.zero_le _, F, [], kn.upd_ hFD (kn.dm D hDn), Ex.refl _, ExM.of (Ex.new hDn), fun _ _ _ h => h, upd_same, hFD, rfl, hI 0 [] F H _ h0 fun a ha => upd_ne fun z => ha (by rw [z]; exact hDn)⟩, ?_⟩
  rintro i k H' ⟨rfl, hi, F', acc, kn', e', em, fr', hacc, hF', hl, hI'⟩
  by_cases hlt : i < m
  · refine .inr ⟨hlt, fun H2 => ∃ F2 acc, Kn M F0 H0 F2 H2 ∧ Ex F F2 ∧ ExM M2 H H2 ∧ (∀ a o, H a = some o → F a = none → F2 a = none) ∧ H2 D = some (.lst acc) ∧ F2 D = none ∧ acc.length = i + 1 ∧ I (i + 1) acc F2 H2, fun H2 p2 => ⟨m - (i + 1), by omega, rfl, hlt, p2⟩, fun x Hn y => ?_⟩
    obtain ⟨rfl, rfl⟩ := y
    refine ⟨hw _, ?_⟩
    show te _ _ _
    refine hs i acc F' _ hlt hl kn' e' em hI' _ fun v F2 H2 k2 e2 m2 fr2 i2 => ?_
    have hD2 := m2.k D _ nM2 hacc
    have f2 := fr2 D _ hacc hF'
    refine ⟨acc, hD2, by rw [hl]; exact sz_lt (by omega), F2, acc ++ [v], k2.upd_ f2 (kn.dm D hDn), e'.trans e2, ⟨fun a o nm h => ?_, (em.trans m2).d.trans fun a h => ?_⟩, fun a o ha hf => ?_, upd_same, f2, by simp [hl], hI _ _ _ _ _ i2 fun a ha => upd_ne fun z => ha (by rw [z]; exact hDn)⟩
    · rw [upd_ne fun z => by rw [z, hDn] at h; cases h]
      exact (em.trans m2).k a o nm h
    · by_cases z : a = D
      · rw [z, upd_same] at h; cases h
      · rw [upd_ne z] at h; exact h
    · cases q : Hn a with
      | none => rw [em.d a q] at ha; cases ha
      | some o' => exact fr2 a o' q (fr' a o ha hf)
  · have ei : i = m := by omega
    subst ei
    exact .inl ⟨Nat.le_refl _, hD D acc F' H' kn' e' em fr' hl hI' hacc hF' hDn⟩
end
end WB
/-! Readings by several kinds; list of a text; own lists beside a stream. -/
namespace WB
open PySem PySem.Spec PyProof.Rows L2 Evl
section
variable {X : Cx}
def rIxA (K : PySem.W.Frag) : R2 := fun x y H Q => rIxL K x y H Q ∨ rIxT K x y H Q ∨ rIxS x y H Q
theorem ix_any : IxR X (rIxA X.K) := by
  intro value slice pins s σ H x y v u Q I rx ry h hs
  rcases h with h | h | h
  · exact ix_list value slice pins s σ H x y v u Q I rx ry h hs
  · exact ix_tup value slice pins s σ H x y v u Q I rx ry h hs
  · exact ix_str value slice pins s σ H x y v u Q I rx ry h hs
def rLenA (K : PySem.W.Frag) : List V → Hp → VK → Prop := fun xs H Q => rLenQ K xs H Q ∨ rLenSQ xs H Q
theorem call_len_any : CallR X (.builtin "len") (rLenA X.K) := by
  intro pins s σ H xs us Q I rs q
  rcases q with q | q
  · exact call_len_seq pins s σ H xs us Q I rs q
  · exact call_len_str pins s σ H xs us Q I rs q
/-- the letters of a text, each a text -/
def letsV (z : Str) : List V := z.cps.toList.map fun c => V.str ⟨#[c]⟩
def letsD (z : Str) : List PyData := z.cps.toList.map fun c => PyData.str ⟨#[c]⟩
def rListS : List V → Hp → VK → Prop := fun xs H Q => ∃ z : Str, xs = [.str z] ∧ z.length ≤ sizeLine ∧ ∀ l, H l = none → Q (.ref l) (upd H l (.lst (letsV z)))
theorem call_list_txt (hc : X.calm = true) : CallR X (.type "list") rListS := by
  intro pins s σ H xs us Q I r h
  obtain ⟨z, rfl, hz, q⟩ := h
  obtain ⟨u, rfl, rx⟩ := vals1 r
  obtain ⟨t, rfl⟩ := rx
  refine call_list_str (I.ok.hd hc) z t (fun h' tk acc c' hk e' hi => ?_) hz
  have rv : Vals (letsV z) acc.toList := by
    refine vals_of_at ?_ fun j x u hx hu => ?_
    · unfold letsV
      rw [List.length_map, Array.length_toList, Array.length_toList]
      exact hi.1.symm
    · obtain ⟨c, t', e1, rfl⟩ := hi.2 j u (by rw [← hu, Array.getElem?_toList])
      unfold letsV at hx
      rw [List.getElem?_map, Array.getElem?_toList, e1] at hx
      cases hx
      exact ⟨t', rfl⟩
  refine ⟨.ref s.heap.objs.size, upd H s.heap.objs.size (.lst (letsV z)), I.laid hk (Nat.le_refl _) (show ObjOk X.prog X.w _ _ _ (.lst (letsV z)) from ⟨?_, acc.toList, c', rv, ?_⟩), rfl, q _ (I.hok.fresh (Nat.le_refl _))⟩
  · unfold letsV
    rw [List.length_map, Array.length_toList]
    exact hz
  · rw [Array.toArray_toList]; exact e'
end
theorem lets_dt {H : Hp} (z : Str) : DtAll H (letsV z) (letsD z) := by
  unfold letsV letsD
  have k : ∀ cs : List Nat, DtAll H (cs.map fun c => V.str ⟨#[c]⟩) (cs.map fun c => PyData.str ⟨#[c]⟩) := fun cs => by
    induction cs with
    | nil => exact .nil
    | cons c cs ih => exact .cons (.str _) ih
  exact k _
section
variable {l s : Addr} {n N : Nat} {K : PySem.W.Frag} {F0 H0 F H H1 H2 H3 : Hp} {σ : L2.St} {Q : VK} {ta tb te : TE} {D : Ends} {rest : TS} {T : Hp → V → Prop}
theorem kM_done (hQ : ∀ v H', ExM (Ms l s) H0 H' → StA l s N H' → T (nw F0 H0 H') v → Q v H') (mo : Mo T) (kn : Kn (Ms l s) F0 H0 F H) (st : StA l s N H) {v : V} (hv : T F v) : Q v H := hQ v H ⟨kn.h, kn.dm⟩ st (mo _ _ _ kn.nw hv)
theorem kM_fin (hQ : ∀ v H', ExM (Ms l s) H0 H' → StA l s N H' → T (nw F0 H0 H') v → Q v H') (mo : Mo T) (kn : Kn (Ms l s) F0 H0 F H) (st : StA l s N H) (h : EvP te σ F T) (hD : D.rt = Q := by rfl) : tRet te D σ H := kp_ev kn h _ fun v F1 H1 s1 hv => by
  rw [hD]
  exact kM_done hQ mo s1.kn (st.ex s1.ex) hv
theorem Kn.startS {F0 H0 : Hp} (e : Ex F0 H0) (fl : F0 l = none) (fs : F0 s = none) (st : StA l s n H0) : Kn (Ms l s) F0 H0 F0 H0 := Kn.startM e (fun a m => by
  rcases m with q | q
  · rw [q]; exact fl
  · rw [q]; exact fs) st.has
theorem w_da {G : Hp} {ta : TA} {ds : List PyData} {Q : List V → Hp → Prop} (h : EvDA ta σ G ds) (e : Ex G H) (k : ∀ vs H2, Ex H H2 → DtAll (nw G H H2) vs ds → Q vs H2) : ta σ H Q := h H e Q k
theorem w_d {G : Hp} {d : PyData} (h : EvD te σ G d) (e : Ex G H) (k : ∀ v H2, Ex H H2 → Dt (nw G H H2) v d → Q v H2) : te σ H Q := h H e Q k
theorem wp_rng1 {ta : TA} {R : It → Hp → Prop} (h : ta σ H fun vs H1 => ∃ j : Int, vs = [.int j] ∧ -(2 ^ 62) ≤ j ∧ j < 2 ^ 62 ∧ R (Itr 0 j.toNat) H1) : iRng1 ta σ H R := h
theorem wp_cons {ta : TA} {Q : List V → Hp → Prop} (h : te σ H fun x H1 => ta σ H1 fun xs H2 => Q (x :: xs) H2) : tCons te ta σ H Q := h
theorem wp_lc {wi : TI} {g : TG} {tt : TT} {vs : List Nat} (h : wi σ H fun J H1 => ∀ D, H1 D = none → ∃ W : Nat → Nat → Hp → Prop, (∃ m, W 0 m (upd H1 D (.lst []))) ∧ ∀ i m H, W i m H →
  (J.stop i H ∧ Q (.ref D) H) ∨ (J.go i H ∧ ∃ Nx : Hp → Prop, (∀ H', Nx H' → ∃ m', m' < m ∧ W (i + 1) m' H') ∧ ∀ x H', J.yld i H x H' → g x (wipe σ vs) H' fun σ2 H2 => wipe σ2 vs = wipe σ vs ∧ tt σ2 H2 fun b H3 =>
    if b = true then te σ2 H3 fun y H4 => ∃ acc, H4 D = some (.lst acc) ∧ acc.length < sizeLine ∧ Nx (upd H4 D (.lst (acc ++ [y]))) else Nx H3)) : tLc wi g tt te vs σ H Q := h
/-- one argument, read over G, that says nothing of the heap -/
theorem wm_call1 {α : Type} {G : Hp} {d : PyData} {k : α → Nat} {args : α → Hp → List V → Prop} {res : α → Hp → V → Prop} {E : XK} {i : Nat} (x : α) (kn : Kn (Ms l s) F0 H0 F H) (st : StA l s n H) (hn : n + k x ≤ 1000000) (hi : σ[i]? = some (some (.ref l))) (eG : Ex G H) (h : EvD te σ G d) (ha : ∀ H v, Dt H v d → ∀ F, args x F [v]) (mo : Mo (res x))
    (k' : ∀ v F1 H1, Stp (Ms l s) F0 H0 F H F1 H1 → StA l s (n + k x) H1 → res x F1 v → Q v H1) : tCall (SpM k args res) [] E (tCons (tVar i) (tCons te tNil)) σ H Q := by
  refine ⟨.ref l, hi, h H eG _ fun v H2 e2 hv => ?_⟩
  show SpM k args res ((.ref l :: [v]) ++ []) H2 Q E
  rw [List.append_nil]
  have s2 := kn.step e2
  refine ⟨nw F H H2, x, l, s, n, [v], rfl, s2.kn.fh, s2.kn.md l (.inl rfl), s2.kn.md s (.inr rfl), st.ex e2, hn, ha _ v hv _, fun u H3 e3 st3 hu => ?_⟩
  have s3 := s2.kn.stepM e3
  exact k' u _ H3 (s2.toStp.trans s3) st3 hu
end
end WB
/-! Loops and tests that draw. -/
namespace WB
open PySem PySem.Spec PyProof.Rows L2 Evl
section
variable {M : Addr → Prop} {K : PySem.W.Frag} {F0 H0 F H G : Hp} {σ : L2.St} {ta tb te tx : TE} {t u : TT} {d d1 d2 d3 : PyData} {v z : V} {D : Ends} {tu tw rest : TS} {g : TG} {T : Hp → V → Prop} {Q : VK}
/-- for j in range(m), from where the range stands -/
theorem for_turns {m : Nat} (kn : Kn M F0 H0 F H) (I : Nat → L2.St → Hp → Hp → Prop) (h0 : I 0 σ F H)
    (hs : ∀ i σ' F' H', i < m → Kn M F0 H0 F' H' → Ex F F' → I i σ' F' H' → ∀ N : L2.St → Hp → Prop, (∀ σ2 F2 H2, Kn M F0 H0 F2 H2 → Ex F' F2 → I (i + 1) σ2 F2 H2 → N σ2 H2) → g (.int (0 + (i : Nat))) σ' H' fun σ2 H2 => tu { D with nx := N, ct := N, bk := D.nx } σ2 H2)
    (hd : ∀ σ' F' H', Kn M F0 H0 F' H' → Ex F F' → I m σ' F' H' → D.nx σ' H') :
    ∃ W : Nat → Nat → L2.St → Hp → Prop, (∃ m, W 0 m σ H) ∧ ∀ i k σ H, W i k σ H →
      ((Itr 0 m).stop i H ∧ D.nx σ H) ∨ ((Itr 0 m).go i H ∧ ∃ N : L2.St → Hp → Prop, (∀ σ' H', N σ' H' → ∃ m', m' < k ∧ W (i + 1) m' σ' H') ∧ ∀ x H', (Itr 0 m).yld i H x H' → g x σ H' fun σ2 H2 => tu { D with nx := N, ct := N, bk := D.nx } σ2 H2) := by
  refine ⟨fun i k σ' H' => k = m - i ∧ i ≤ m ∧ ∃ F', Kn M F0 H0 F' H' ∧ Ex F F' ∧ I i σ' F' H', ⟨m, by simp, Nat.zero_le _, F, kn, Ex.refl _, h0⟩, ?_⟩
  rintro i k σ' H' ⟨rfl, hi, F', kn', e', p⟩
  by_cases hlt : i < m
  · refine .inr ⟨hlt, fun σ2 H2 => ∃ F2, Kn M F0 H0 F2 H2 ∧ Ex F F2 ∧ I (i + 1) σ2 F2 H2, fun σ2 H2 ⟨F2, k2, e2, p2⟩ => ⟨m - (i + 1), by omega, rfl, hlt, F2, k2, e2, p2⟩, fun x H2 y => ?_⟩
    obtain ⟨rfl, rfl⟩ := y
    exact hs i σ' F' _ hlt kn' e' p _ fun σ3 F3 H3 k3 e3 p3 => ⟨F3, k3, e'.trans e3, p3⟩
  · have ei : i = m := by omega
    subst ei
    exact .inl ⟨Nat.le_refl _, hd σ' F' H' kn' e' p⟩
theorem wp_for {wi : TI} (h : wi σ H fun J H1 => ∃ W : Nat → Nat → L2.St → Hp → Prop, (∃ m, W 0 m σ H1) ∧ ∀ i m σ H, W i m σ H →
  (J.stop i H ∧ rest D σ H) ∨ (J.go i H ∧ ∃ N : L2.St → Hp → Prop, (∀ σ' H', N σ' H' → ∃ m', m' < m ∧ W (i + 1) m' σ' H') ∧ ∀ x H', J.yld i H x H' → g x σ H' fun σ2 H2 => tu { D with nx := N, ct := N, bk := rest D } σ2 H2)) : tSeq (tFor wi g tu) rest D σ H := h
theorem wp_if (h : t σ H fun b H1 => if b = true then tu { D with nx := rest D } σ H1 else tw { D with nx := rest D } σ H1) : tSeq (tIfS t tu tw) rest D σ H := h
theorem wp_ifE (h : t σ H fun b H1 => if b = true then tu D σ H1 else tw D σ H1) : tIfS t tu tw D σ H := h
theorem wp_and {Q : Bool → Hp → Prop} (h : t σ H fun c H1 => if c = true then u σ H1 Q else Q false H1) : tAnd t u σ H Q := h
theorem wp_or {Q : Bool → Hp → Prop} (h : t σ H fun c H1 => if c = true then Q true H1 else u σ H1 Q) : tOr t u σ H Q := h
theorem wp_test {Q : Bool → Hp → Prop} (h : te σ H fun x H1 => ∃ c, x = .bl c ∧ Q c H1) : tTest te σ H Q := h
theorem wp_t {b : Bool} {Q : Bool → Hp → Prop} (h : EvT t σ G b) (e : Ex G H) (k : ∀ H2, Ex H H2 → Q b H2) : t σ H Q := h H e Q k
theorem wp_par {i j : Nat} {ta : TA} (h : ta σ H fun vs H1 => ∃ v w, vs = [v, w] ∧ rest D ((σ.set i (some v)).set j (some w)) H1) : tSeq (tPar i j ta) rest D σ H := h
theorem wp_sl {r : V → Option Int → Option Int → Hp → VK → Prop} {tl th : TO} (h : te σ H fun x H1 => tl σ H1 fun l H2 => th σ H2 fun u H3 => r x l u H3 Q) : tSl r te tl th σ H Q := h
theorem wp_part {Q : Option Int → Hp → Prop} (h : te σ H fun x H1 => ∃ i, x = .int i ∧ Q (some i) H1) : tPart te σ H Q := h
theorem wp_nopart {Q : Option Int → Hp → Prop} (h : Q none H) : tNoPart σ H Q := h
theorem wp_nil {Q : List V → Hp → Prop} (h : Q [] H) : tNil σ H Q := h
/-- xs.append(xs[j]) and such: the value is known -/
theorem k_appV {l : Addr} {xs : List V} (kn : Kn M F0 H0 F H) (hl : H l = some (.lst xs)) (hF : F l = none) (h0 : H0 l = none) (ha : Ev ta σ H (.ref l)) (h : Ev te σ H v) (hz : xs.length < 100000)
    (k : ∀ F1 H1, Kn M F0 H0 F1 H1 → Ex F F1 → F1 l = none → H1 l = some (.lst (xs ++ [v])) → (∀ a o, a ≠ l → H a = some o → H1 a = some o) → (∀ a o, H a = some o → F a = none → F1 a = none) → D.nx σ H1) :
    tDrop (tBM K "list" rAppend ta (tCons te tNil)) D σ H := ha H (Ex.refl H) _ fun H1 e1 =>
  ⟨Or.inl ⟨rfl, xs, sq_of (e1 l _ hl)⟩, h H1 e1 _ fun H2 e2 => ⟨l, xs, v, rfl, rfl, e2 l _ (e1 l _ hl), sz_lt hz, by
    have s := kn.step (e1.trans e2)
    have n := s.fr l _ hl hF
    exact k _ _ (s.kn.upd_ n h0) s.ff n upd_same (fun a o ne h => by rw [upd_ne ne]; exact e2 a o (e1 a o h)) s.fr⟩⟩
theorem wp_c {v : V} (h : Q v H) : tC v σ H Q := h
theorem kn_new {p : Addr} {o : HO} (kn : Kn M F0 H0 F H) (hp : H p = none) : Kn M F0 H0 (upd F p o) (upd H p o) := by
  have hF : F p = none := by
    cases q : F p with
    | none => rfl
    | some o => rw [kn.fh _ _ q] at hp; cases hp
  exact (kn.upd_ hF (kn.dm p hp)).know hF (kn.dm p hp) upd_same
theorem kn_own {p : Addr} {o : HO} (kn : Kn M F0 H0 F H) (hp : H p = none) : Kn M F0 H0 F (upd H p o) ∧ F p = none := by
  have hF : F p = none := by
    cases q : F p with
    | none => rfl
    | some o => rw [kn.fh _ _ q] at hp; cases hp
  exact ⟨kn.upd_ hF (kn.dm p hp), hF⟩
theorem know_ex {p : Addr} {o : HO} (kn : Kn M F0 H0 F H) (hp : H p = none) : Ex F (upd F p o) := fun a u h => by
  rw [upd_ne (fun z => by rw [z] at h; rw [kn.fh _ _ h] at hp; cases hp)]
  exact h
theorem wp_tup {ta : TA} (h : ta σ H fun xs H1 => xs.length ≤ sizeLine ∧ ∀ p, H1 p = none → Q (.ref p) (upd H1 p (.tup xs))) : tTup ta σ H Q := h
theorem wp_asgG (h : ta σ H fun v H1 => g v σ H1 (rest D)) : tSeq (tAsg ta g) rest D σ H := h
/-- a, b = the tuple just made -/
theorem g_two {i j : Nat} {p : Addr} {x y : V} {N : L2.St → Hp → Prop} (h : N ((σ.set i (some x)).set j (some y)) (upd H p (.tup [x, y]))) : gTup K 2 (gCons (gName i) (gCons (gName j) gNil)) (.ref p) σ (upd H p (.tup [x, y])) N :=
  ⟨p, _, rfl, SqT.of upd_same, rfl, x, [y], rfl, y, [], rfl, rfl, h⟩
theorem StA.keep {l s q : Addr} {n : Nat} {H1 : Hp} (st : StA l s n H) (ql : q ≠ l) (qs : q ≠ s) (o : ∀ a o, a ≠ q → H a = some o → H1 a = some o) : StA l s n H1 := by
  obtain ⟨xs, a, b, c, h1, h2, h3⟩ := st
  exact ⟨xs, a, b, c, o _ _ (Ne.symm ql) h1, o _ _ (Ne.symm qs) h2, h3⟩
/-- (e, e) of scalars, read over G: new, all known -/
theorem d_tupS {x y : V} (ha : EvD ta σ G d1) (hb : EvD tb σ G d2) (h1 : sc d1 = some x) (h2 : sc d2 = some y) : ∀ H1, Ex G H1 → ∀ Q : VK, (∀ v H2, Ex H1 H2 → Dt (nw F H1 H2) v (.tuple [d1, d2]) → Q v H2) → tTup (tCons ta (tCons tb tNil)) σ H1 Q := fun H1 e Q q =>
  ha H1 e _ fun x' H2 e2 hx => hb H2 (e.trans e2) _ fun y' H3 e3 hy => ⟨(show 2 ≤ sizeLine by decide), fun p hp => by
    cases dt_sc hx h1
    cases dt_sc hy h2
    exact q _ _ ((e2.trans e3).trans (Ex.new hp)) (.tup (by rw [nw_n (exdm (e2.trans e3) p hp), upd_same]) (.cons (sc_dt h1) (.cons (sc_dt h2) .nil)))⟩
/-- xs.append(e), e read over G, all new -/
theorem k_appG {l : Addr} {xs : List V} (kn : Kn M F0 H0 F H) (hl : H l = some (.lst xs)) (hF : F l = none) (h0 : H0 l = none) (ha : Ev ta σ H (.ref l)) (eG : Ex G H) (h : ∀ H1, Ex G H1 → ∀ Q : VK, (∀ v H2, Ex H1 H2 → Dt (nw F H1 H2) v d → Q v H2) → te σ H1 Q) (hz : xs.length < 100000)
    (k : ∀ v F1 H1, Kn M F0 H0 F1 H1 → Ex F F1 → F1 l = none → Dt F1 v d → H1 l = some (.lst (xs ++ [v])) → (∀ a o, a ≠ l → H a = some o → H1 a = some o) → (∀ a o, H a = some o → F a = none → F1 a = none) → D.nx σ H1) :
    tDrop (tBM K "list" rAppend ta (tCons te tNil)) D σ H := ha H (Ex.refl H) _ fun H1 e1 =>
  ⟨Or.inl ⟨rfl, xs, sq_of (e1 l _ hl)⟩, h H1 (eG.trans e1) _ fun v H2 e2 hv => ⟨l, xs, v, rfl, rfl, e2 l _ (e1 l _ hl), sz_lt hz, by
    have s := kn.step (e1.trans e2)
    have n := s.fr l _ hl hF
    refine k v _ _ (s.kn.upd_ n h0) s.ff n (hv.ex (nw_l kn.fh (exdm e1))) upd_same (fun a o ne h => by rw [upd_ne ne]; exact e2 a o (e1 a o h)) s.fr⟩⟩
theorem for_turnsQ {m : Nat} (kn : Kn M F0 H0 F H) (I : Nat → L2.St → Hp → Hp → Prop) (h0 : I 0 σ F H)
    (hs : ∀ i σ' F' H', i < m → Kn M F0 H0 F' H' → Ex F F' → I i σ' F' H' → ∀ N : L2.St → Hp → Prop, (∀ σ2 F2 H2, Kn M F0 H0 F2 H2 → Ex F' F2 → I (i + 1) σ2 F2 H2 → N σ2 H2) → g (.int (0 + (i : Nat))) σ' H' fun σ2 H2 => tu { D with nx := N, ct := N, bk := rest D } σ2 H2)
    (hd : ∀ σ' F' H', Kn M F0 H0 F' H' → Ex F F' → I m σ' F' H' → rest D σ' H') :
    ∃ W : Nat → Nat → L2.St → Hp → Prop, (∃ m, W 0 m σ H) ∧ ∀ i k σ H, W i k σ H →
      ((Itr 0 m).stop i H ∧ rest D σ H) ∨ ((Itr 0 m).go i H ∧ ∃ N : L2.St → Hp → Prop, (∀ σ' H', N σ' H' → ∃ m', m' < k ∧ W (i + 1) m' σ' H') ∧ ∀ x H', (Itr 0 m).yld i H x H' → g x σ H' fun σ2 H2 => tu { D with nx := N, ct := N, bk := rest D } σ2 H2) := for_turns (D := { D with nx := rest D }) kn I h0 hs hd
end
end WB
/-! extend; filters. -/
namespace WB
open PySem PySem.Spec PyProof.Rows L2 Evl
theorem range_filter_map {α : Type} (f : α → PyData) (b : Nat → Bool) (c : α → Bool) (r : Nat → PyData) (xs : List α) (h : ∀ i x, xs[i]? = some x → b i = c x ∧ r i = f x) : ((List.range xs.length).filter b).map r = (xs.filter c).map f := by
  have k : ∀ n, n ≤ xs.length → ((List.range n).filter b).map r = ((xs.take n).filter c).map f := by
    intro n
    induction n with
    | zero => intro _; rfl
    | succ n ih =>
      intro hn
      have hx : xs[n]? = some xs[n] := List.getElem?_eq_getElem (by omega)
      have hb := h n _ hx
      generalize xs[n] = x at hx hb
      rw [List.range_succ, List.filter_append, List.map_append, ih (by omega), List.take_add_one, hx, List.filter_append, List.map_append]
      congr 1
      show ((List.filter b [n]).map r) = ((List.filter c [x]).map f)
      cases q : c x with
      | true => rw [List.filter_cons, List.filter_cons, hb.1, q, if_pos rfl, if_pos rfl]; show [r n] = [f x]; rw [hb.2]
      | false => rw [List.filter_cons, List.filter_cons, hb.1, q, if_neg (by decide), if_neg (by decide)]; rfl
  have z := k xs.length (Nat.le_refl _)
  rw [List.take_of_length_le (Nat.le_refl _)] at z
  exact z
section
variable {M : Addr → Prop} {K : PySem.W.Frag} {F0 H0 F H G : Hp} {σ : L2.St} {ta tb te tx : TE} {d d1 d2 d3 : PyData} {v z : V} {D : Ends} {tu tw rest : TS}
/-- xs.extend(list) -/
theorem k_ext {l : Addr} {xs : List V} {ds : List PyData} (kn : Kn M F0 H0 F H) (hl : H l = some (.lst xs)) (hF : F l = none) (h0 : H0 l = none) (ha : Ev ta σ H (.ref l)) (h : EvD te σ F (.list ds)) (hz : xs.length + ds.length ≤ 100000)
    (k : ∀ zs F1 H1, Kn M F0 H0 F1 H1 → Ex F F1 → F1 l = none → DtAll F1 zs ds → H1 l = some (.lst (xs ++ zs)) → (∀ a o, a ≠ l → H a = some o → H1 a = some o) → (∀ a o, H a = some o → F a = none → F1 a = none) → D.nx σ H1) :
    tDrop (tBM K "list" rExtend ta (tCons te tNil)) D σ H := ha H (Ex.refl H) _ fun H1 e1 =>
  ⟨Or.inl ⟨rfl, xs, sq_of (e1 l _ hl)⟩, h H1 (kn.fh.trans e1) _ fun v H2 e2 hv => by
    obtain ⟨b, zs, rfl, h1, h2⟩ := hv.list_
    have s := kn.step (e1.trans e2)
    have n := s.fr l _ hl hF
    have up := nw_l (H3 := H2) kn.fh (exdm e1)
    exact ⟨l, b, xs, zs, rfl, rfl, e2 l _ (e1 l _ hl), s.kn.fh _ _ (up _ _ h1), by rw [h2.len]; exact sz_of hz, k zs _ _ (s.kn.upd_ n h0) s.ff n (h2.ex up) upd_same (fun a o ne h => by rw [upd_ne ne]; exact e2 a o (e1 a o h)) s.fr⟩⟩
end
end WB
/-! What is never reached; walks of lists and tuples alike; list.count of data; trees that were spoilt. -/
namespace WB
open PySem PySem.Spec PyProof.Rows L2 Evl
section
variable {X : Cx}
theorem pss_dead {b : List Stmt} : PSs X b (fun _ _ _ => False) := ⟨fun _ _ _ _ _ _ h => h.elim⟩
theorem pe_never {e : Expr} : PE X e (fun _ _ _ => False) := ⟨fun _ _ _ _ _ _ h => h.elim⟩
theorem pi_or {tg it : Expr} {w1 w2 : TI} (h1 : PI X tg it w1) (h2 : PI X tg it w2) : PI X tg it (fun σ H R => w1 σ H R ∨ w2 σ H R) := ⟨fun pins s σ H R I h => by
  rcases h with h | h
  · exact h1.run pins s σ H R I h
  · exact h2.run pins s σ H R I h⟩
def iAny (K : PySem.W.Frag) (tl : TE) : TI := fun σ H R => iList K tl σ H R ∨ iTup K tl σ H R
theorem pi_anyK {K : PySem.W.Frag} {tg l : Expr} {tl : TE} (hK : X.K = K) (hl : PE X l tl) : PI X tg l (iAny K tl) := by
  subst hK
  exact pi_or (pi_list hl) (pi_tup hl)
/-- l.count(x) of data -/
def rCountD (K : PySem.W.Frag) : V → List V → Hp → VK → Prop := fun x xs H Q => ∃ (a : Addr) (y : V) (d : PyData) (ds : List PyData), x = V.ref a ∧ xs = [y] ∧ Dp K H (V.ref a) (.list ds) ∧ Dp K H y d ∧
  SeqAt.shaped (.list ds) = true ∧ SeqAt.shaped d = true ∧ Q (.int (ds.countP (fun z => PyData.eqv z d) : Nat)) H
theorem mt_countD (hu : X.A.units + 65 < cLine) : MtR X "list.count" (rCountD X.K) := by
  intro pins s σ H x xs v us Q I rx rxs h
  obtain ⟨a, y, d, ds, rfl, rfl, hl, hy, sl, sd, q⟩ := h
  cases rx
  obtain ⟨uy, rfl, ry⟩ := rxs.one
  obtain ⟨bs, r1⟩ := Dp.reads I d y uy hy ry
  have hxs : PyData.canLayAll0 ds = true := SeqAt.canLay_of_shaped sl
  have hroom : X.A.units + 1 + min (PyData.depthAll ds) d.depth < cLine := room_in_shaped sd hu
  cases hl with
  | lst hs ha =>
    obtain ⟨its, rv, ⟨⟨cls, dd, data, sls⟩, n, ho, hc, hdn, hdt⟩, hlen⟩ := I.list hs
    simp only at hc hdt
    subst hc hdt
    obtain ⟨as, h4⟩ := Dp.readsAll I ds _ its ha rv
    have hmap : its.map (SeqAt.readOf s.heap) = ds := SeqAt.readsAll_map ds its as hxs h4
    have ec : its.toArray.toList.countP (fun u => PyData.eqv (SeqAt.readOf s.heap u) d) = ds.countP (fun z => PyData.eqv z d) := by
      rw [← hmap, List.countP_map]
      rfl
    refine call_meets PySem.F.slot_list_count ⟨_, ho, rfl⟩ PySem.F.entry_list_count (PySem.F.args_list_count_2 _ _)
      (SeqAt.list_countAt a its.toArray n dd sls uy (fun u => PyData.eqv (SeqAt.readOf s.heap u) d)) ⟨ho, SeqAt.items_eqAt (vs := its.toArray) (show ReadsAll s.heap its.toArray.toList ds as from h4) r1 hxs (SeqAt.canLay_of_shaped sd) hroom, ?_⟩
    refine ⟨.int (ds.countP (fun z => PyData.eqv z d) : Nat), H, I.tok _, ⟨s.toks, ?_⟩, q⟩
    show Value.int ((its.toArray.toList.countP _ : Nat) : Int) s.toks = Value.int ((ds.countP _ : Nat) : Int) s.toks
    rw [ec]
end
theorem d_cntD {K : PySem.W.Frag} {σ : L2.St} {F : Hp} {ta tb : TE} {ds : List PyData} {d1 : PyData} (ha : EvD ta σ F (.list ds)) (hb : EvD tb σ F d1) (p1 : plainD d1 = true) (p2 : plainDs ds = true) (s1 : SeqAt.shaped d1 = true) (s2 : SeqAt.shaped (.list ds) = true) :
    EvD (tBM K "list" (rCountD K) ta (tCons tb tNil)) σ F (.int (ds.countP (fun z => PyData.eqv z d1) : Nat)) := fun H1 e Q q =>
  ha H1 e _ fun x H2 e2 hx => by
    obtain ⟨a, xs, rfl, h1, h2⟩ := hx.list_
    have g1 : H2 a = some (.lst xs) := nw_ex (e.trans e2) _ _ h1
    refine ⟨Or.inl ⟨rfl, xs, sq_of g1⟩, hb H2 (e.trans e2) _ fun y H3 e3 hy => ?_⟩
    have ex3 : Ex (nw F H1 H2) H3 := (nw_ex (e.trans e2)).trans e3
    exact ⟨a, y, d1, ds, rfl, rfl, (Dt.lst (ex3 _ _ h1) (h2.ex ex3)).dp (by unfold plainD; exact p2), (hy.ex (nw_ex ((e.trans e2).trans e3))).dp p1, s2, s1, q _ H3 (e2.trans e3) (.int _)⟩
/-! trees, each of whose lists has got one thing more -/
mutual
/-- the data behind it -/
def lateD : PyData → PyData
  | .list ds => .list (lateDs ds ++ [.str "late9"])
  | .tuple ds => .tuple (lateDs ds)
  | d => d
def lateDs : List PyData → List PyData
  | [] => []
  | d :: ds => lateD d :: lateDs ds
end
mutual
inductive Sl (H : Hp) : V → PyData → List Addr → Prop
  | non : Sl H .non .none []
  | int (i : Int) : Sl H (.int i) (.int i) []
  | lst {a : Addr} {xs : List V} {ds : List PyData} {as : List Addr} : H a = some (.lst (xs ++ [.str "late9"])) → SlAll H xs ds as → Sl H (.ref a) (.list ds) (a :: as)
  | tup {a : Addr} {xs : List V} {ds : List PyData} {as : List Addr} : H a = some (.tup xs) → SlAll H xs ds as → Sl H (.ref a) (.tuple ds) as
inductive SlAll (H : Hp) : List V → List PyData → List Addr → Prop
  | nil : SlAll H [] [] []
  | cons {v : V} {vs : List V} {d : PyData} {ds : List PyData} {as bs : List Addr} : Sl H v d as → SlAll H vs ds bs → SlAll H (v :: vs) (d :: ds) (as ++ bs)
end
mutual
theorem Sl.dt {H : Hp} : ∀ {v : V} {d : PyData} {as : List Addr}, Sl H v d as → Dt H v (lateD d)
  | _, _, _, .non => .non
  | _, _, _, .int i => .int i
  | _, _, _, .lst h a => .lst h ((SlAll.dt a).snoc (.str _))
  | _, _, _, .tup h a => .tup h (SlAll.dt a)
theorem SlAll.dt {H : Hp} : ∀ {vs : List V} {ds : List PyData} {as : List Addr}, SlAll H vs ds as → DtAll H vs (lateDs ds)
  | _, _, _, .nil => .nil
  | _, _, _, .cons h a => .cons (Sl.dt h) (SlAll.dt a)
end
/-- what stands at none of these addresses stays -/
def KeepBut (as : List Addr) (H H' : Hp) : Prop := ∀ b o, b ∉ as → H b = some o → H' b = some o
mutual
theorem Sl.keep {H H' : Hp} {cs : List Addr} (k : KeepBut cs H H') (hc : ∀ c ∈ cs, ∃ xs, H c = some (.lst xs)) : ∀ {v : V} {d : PyData} {as : List Addr}, Sl H v d as → (∀ a ∈ as, a ∉ cs) → Sl H' v d as
  | _, _, _, .non, _ => .non
  | _, _, _, .int i, _ => .int i
  | _, _, _, .lst h a, n => .lst (k _ _ (n _ (List.mem_cons_self ..)) h) (SlAll.keep k hc a fun b hb => n b (List.mem_cons_of_mem _ hb))
  | _, _, _, .tup h a, n => .tup (k _ _ (fun m => by
      obtain ⟨xs, z⟩ := hc _ m
      rw [h] at z
      cases z) h) (SlAll.keep k hc a n)
theorem SlAll.keep {H H' : Hp} {cs : List Addr} (k : KeepBut cs H H') (hc : ∀ c ∈ cs, ∃ xs, H c = some (.lst xs)) : ∀ {vs : List V} {ds : List PyData} {as : List Addr}, SlAll H vs ds as → (∀ a ∈ as, a ∉ cs) → SlAll H' vs ds as
  | _, _, _, .nil, _ => .nil
  | _, _, _, .cons h a, n => .cons (Sl.keep k hc h fun b hb => n b (List.mem_append.mpr (.inl hb))) (SlAll.keep k hc a fun b hb => n b (List.mem_append.mpr (.inr hb)))
end
mutual
theorem Tr.keep {H H' : Hp} {cs : List Addr} (k : KeepBut cs H H') (hc : ∀ c ∈ cs, ∃ xs, H c = some (.lst xs)) : ∀ {v : V} {d : PyData} {as : List Addr}, Tr H v d as → (∀ a ∈ as, a ∉ cs) → Tr H' v d as
  | _, _, _, .non, _ => .non
  | _, _, _, .int i, _ => .int i
  | _, _, _, .lst h a, n => .lst (k _ _ (n _ (List.mem_cons_self ..)) h) (TrAll.keep k hc a fun b hb => n b (List.mem_cons_of_mem _ hb))
  | _, _, _, .tup h a, n => .tup (k _ _ (fun m => by
      obtain ⟨xs, z⟩ := hc _ m
      rw [h] at z
      cases z) h) (TrAll.keep k hc a n)
theorem TrAll.keep {H H' : Hp} {cs : List Addr} (k : KeepBut cs H H') (hc : ∀ c ∈ cs, ∃ xs, H c = some (.lst xs)) : ∀ {vs : List V} {ds : List PyData} {as : List Addr}, TrAll H vs ds as → (∀ a ∈ as, a ∉ cs) → TrAll H' vs ds as
  | _, _, _, .nil, _ => .nil
  | _, _, _, .cons h a, n => .cons (Tr.keep k hc h fun b hb => n b (List.mem_append.mpr (.inl hb))) (TrAll.keep k hc a fun b hb => n b (List.mem_append.mpr (.inr hb)))
end
end WB
namespace WB
open PySem PySem.Spec PyProof.Rows L2 Evl
section
variable {D : Ends} {rest tu : TS} {σ : L2.St} {H : Hp}
/-- for j in .., items that stay as they are while the body may write -/
theorem for_items {J : It} {j : Nat} {xs : List V} (P : L2.St → Prop) (I : Nat → Hp → Prop) (hg : ∀ i H x, I i H → xs[i]? = some x → J.go i H) (hy : ∀ i H x H', I i H → J.yld i H x H' → H' = H ∧ (i < xs.length → xs[i]? = some x)) (hst : ∀ i H, I i H → xs.length ≤ i → J.stop i H)
    (p0 : P σ) (h0 : I 0 H) (hs : ∀ i σ' H' x, xs[i]? = some x → P σ' → I i H' → ∀ N : L2.St → Hp → Prop, (∀ σ2 H2, P σ2 → I (i + 1) H2 → N σ2 H2) → tu { D with nx := N, ct := N, bk := rest D } (σ'.set j (some x)) H')
    (hd : ∀ σ' H', P σ' → I xs.length H' → rest D σ' H') :
    ∃ W : Nat → Nat → L2.St → Hp → Prop, (∃ m, W 0 m σ H) ∧ ∀ i k σ H, W i k σ H →
      (J.stop i H ∧ rest D σ H) ∨ (J.go i H ∧ ∃ N : L2.St → Hp → Prop, (∀ σ' H', N σ' H' → ∃ m', m' < k ∧ W (i + 1) m' σ' H') ∧ ∀ x H', J.yld i H x H' → (gName j) x σ H' fun σ2 H2 => tu { D with nx := N, ct := N, bk := rest D } σ2 H2) := by
  refine ⟨fun i k σ' H' => k = xs.length - i ∧ i ≤ xs.length ∧ P σ' ∧ I i H', ⟨xs.length, by simp, Nat.zero_le _, p0, h0⟩, ?_⟩
  rintro i k σ' H' ⟨rfl, hi, pp, ii⟩
  by_cases hlt : i < xs.length
  · refine .inr ⟨hg i H' xs[i] ii (List.getElem?_eq_getElem hlt), fun σ2 H2 => P σ2 ∧ I (i + 1) H2, fun σ2 H2 p2 => ⟨xs.length - (i + 1), by omega, rfl, hlt, p2⟩, fun x Hn y => ?_⟩
    obtain ⟨e1, e2⟩ := hy i H' x Hn ii y
    subst e1
    exact hs i σ' _ x (e2 hlt) pp ii _ fun σ3 H3 p3 i3 => ⟨p3, i3⟩
  · have ei : i = xs.length := by omega
    subst ei
    exact .inl ⟨hst _ H' ii (Nat.le_refl _), hd σ' H' pp ii⟩
end
end WB
/-! Promises of which one of two is kept; refusals; zip of lists or tuples; == of one object with itself. -/
namespace WB
open PySem PySem.Spec PyProof.Rows L2 Evl
/-- one of two promises -/
def SpOr (a b : Sp) : Sp := fun vs H Q E => a vs H Q E ∨ b vs H Q E
theorem or_len {a b : Sp} {n : Nat} (h1 : ∀ vs H Q E, a vs H Q E → vs.length = n) (h2 : ∀ vs H Q E, b vs H Q E → vs.length = n) (vs : List V) (H : Hp) (Q : VK) (E : XK) (h : SpOr a b vs H Q E) : vs.length = n := h.elim (h1 _ _ _ _) (h2 _ _ _ _)
/-- what is refused: by the class at C, which keeps v as f -/
def SpX (bad : Hp → List V → Addr → Str → V → Prop) : Sp := fun vs H _ E => ∃ F C f v, Ex F H ∧ bad F vs C f v ∧ ∀ d H', Ex H H' → H d = none → H' d = some (.xd [(f, v)]) → E (.ref C) (some d) H'
theorem x_len {bad : Hp → List V → Addr → Str → V → Prop} {n : Nat} (h : ∀ F vs C f v, bad F vs C f v → vs.length = n) (vs : List V) (H : Hp) (Q : VK) (E : XK) (s : SpX bad vs H Q E) : vs.length = n := by
  obtain ⟨F, C, f, v, _, b, _⟩ := s
  exact h _ _ _ _ _ b
section
variable {M : Addr → Prop} {K : PySem.W.Frag} {F0 H0 F H G : Hp} {σ : L2.St} {ta tb te tx : TE} {d d1 d2 : PyData} {v : V} {D : Ends} {tu tw rest : TS} {T : Hp → V → Prop} {Q : VK}
theorem p_callL {α : Type} {args : α → Hp → List V → Prop} {res : α → Hp → V → Prop} {b : Sp} {E : XK} {ta : TA} (x : α) (h : EvPA ta σ F (args x)) (mo : Mo (res x)) : EvP (tCall (SpOr (SpP args res) b) [] E ta) σ F (res x) := fun H1 e Q q =>
  h H1 e _ fun xs H2 e2 hx => by
    show SpOr (SpP args res) b (xs ++ []) H2 Q E
    rw [List.append_nil]
    exact .inl ⟨nw F H1 H2, x, nw_ex (e.trans e2), hx, fun v H3 e3 hv => q v H3 (e2.trans e3) (mo _ _ _ (nw_nw e2 e3) hv)⟩
theorem r_callL {α : Type} {args : α → Hp → List V → Prop} {res : α → PyData} {b : Sp} {E : XK} {ta : TA} (x : α) (h : EvPA ta σ F (args x)) : EvR (tCall (SpOr (SpR args res) b) [] E ta) σ F F (res x) := fun H1 e Q q =>
  h H1 e _ fun xs H2 e2 hx => by
    show SpOr (SpR args res) b (xs ++ []) H2 Q E
    rw [List.append_nil]
    exact .inl ⟨nw F H1 H2, x, nw_ex (e.trans e2), hx, fun v H3 as e3 hv hn hf => q v H3 as (e2.trans e3) (hv.ex (nw_nw e2 e3)) hn fun a m => exdm e2 a (hf a m)⟩
/-- a call that is refused -/
theorem x_call {bad : Hp → List V → Addr → Str → V → Prop} {a : Sp} {E : XK} {ta : TA} {C : Addr} {f : Str} {z : V} (e : Ex F H) (h : EvPA ta σ F (fun G vs => bad G vs C f z)) (k : ∀ d H', Ex H H' → H' d = some (.xd [(f, z)]) → H d = none → E (.ref C) (some d) H') : tCall (SpOr a (SpX bad)) [] E ta σ H Q :=
  h H e _ fun xs H2 e2 hx => by
    show SpOr a (SpX bad) (xs ++ []) H2 Q E
    rw [List.append_nil]
    refine .inr ⟨nw F H H2, C, f, z, nw_ex (e.trans e2), hx, fun d H3 e3 hd h3 => k d H3 (e2.trans e3) h3 ?_⟩
    cases q : H d with
    | none => rfl
    | some u => rw [e2 _ _ q] at hd; cases hd
/-- .. within a try -/
theorem x_callS {bad : Hp → List V → Addr → Str → V → Prop} {a : Sp} {E : L2.St → XK} {ta : TA} {C : Addr} {f : Str} {z : V} (e : Ex F H) (h : EvPA ta σ F (fun G vs => bad G vs C f z)) (k : ∀ d H', Ex H H' → H' d = some (.xd [(f, z)]) → E σ (.ref C) (some d) H') : tCallS (SpOr a (SpX bad)) E ta σ H Q :=
  h H e _ fun xs H2 e2 hx => .inr ⟨nw F H H2, C, f, z, nw_ex (e.trans e2), hx, fun d H3 e3 hd h3 => k d H3 (e2.trans e3) h3⟩
theorem wp_lst {ta : TA} (h : ta σ H fun xs H1 => xs.length ≤ sizeLine ∧ ∀ p, H1 p = none → Q (.ref p) (upd H1 p (.lst xs))) : tLst ta σ H Q := h
theorem wp_ifX {t : TT} (h : t σ H fun c H1 => if c = true then ta σ H1 Q else tb σ H1 Q) : tIf t ta tb σ H Q := h
/-- (x, v), new -/
theorem tup_new {H' : Hp} {p : Addr} {x : Str} (e0 : Ex F H) (e : Ex H H') (hp : H' p = none) (hd : Dt F v d) : Dt (nw F H (upd H' p (.tup [.str x, v]))) (.ref p) (.tuple [.str x, d]) :=
  .tup (by rw [nw_n (exdm e p hp), upd_same]) (.cons (.str _) (.cons (hd.ex (ex_nw e0)) .nil))
/-- raise X(e) -/
theorem x_raise {C : Addr} {f : Str} {E : XK} {z : V} (e : Ex F H) (h : Ev te σ F z) (k : ∀ d H', Ex H H' → H d = none → H' d = some (.xd [(f, z)]) → E (.ref C) (some d) H') : tRaise1 C f (fun cls d _ H => E cls d H) te D σ H := h H e _ fun H1 e1 => raise_ok fun d hd => k d _ (e1.trans (Ex.new hd)) (by
    cases q : H d with
    | none => rfl
    | some u => rw [e1 _ _ q] at hd; cases hd) upd_same
theorem pa_v1 {i : Nat} {x : V} {B : Hp → List V → Prop} (h : σ[i]? = some (some x)) (hb : B F [x]) (mo : MoA B) : EvPA (tCons (tVar i) tNil) σ F B := fun H1 e _ q => ⟨x, h, q [x] H1 (Ex.refl H1) (mo _ _ _ (ex_nw e) hb)⟩
theorem pa_v2 {i j : Nat} {x y : V} {B : Hp → List V → Prop} (h : σ[i]? = some (some x)) (h2 : σ[j]? = some (some y)) (hb : B F [x, y]) (mo : MoA B) : EvPA (tCons (tVar i) (tCons (tVar j) tNil)) σ F B := fun H1 e _ q => ⟨x, h, y, h2, q [x, y] H1 (Ex.refl H1) (mo _ _ _ (ex_nw e) hb)⟩
theorem pa_v3 {i j k : Nat} {x y z : V} {B : Hp → List V → Prop} (h : σ[i]? = some (some x)) (h2 : σ[j]? = some (some y)) (h3 : σ[k]? = some (some z)) (hb : B F [x, y, z]) (mo : MoA B) : EvPA (tCons (tVar i) (tCons (tVar j) (tCons (tVar k) tNil))) σ F B := fun H1 e _ q => ⟨x, h, y, h2, z, h3, q [x, y, z] H1 (Ex.refl H1) (mo _ _ _ (ex_nw e) hb)⟩
theorem x_drop (h : te σ H fun _ H1 => rest D σ H1) : tSeq (tDrop te) rest D σ H := h
/-- return told, row: both one's own -/
theorem k_finR2 {l m : Addr} {vs : List V} {ns : List Nat} {ds : List PyData} {as : List Addr} (hQ : ∀ v H' as, Ex H0 H' → Tr (nw F0 H0 H') v (.tuple [.list ds, natsD ns]) as → as.Nodup → (∀ a ∈ as, H0 a = none) → Q v H') (kn : Kn M0 F0 H0 F H) (hl : H l = some (.lst vs)) (hF : F l = none) (h0 : H0 l = none)
    (ht : TrAll F vs ds as) (nd : as.Nodup) (hn : ∀ a ∈ as, H0 a = none) (hm : H m = some (.lst (natsV ns))) (mF : F m = none) (m0 : H0 m = none) (ne : m ≠ l) (he : Ev te σ H (.ref l)) (hf : Ev tb σ H (.ref m)) (hD : D.rt = Q := by rfl) : tRet (tTup (tCons te (tCons tb tNil))) D σ H := by
  show te σ H _
  refine he H (Ex.refl H) _ fun H1 e => hf H1 e _ fun H2 e2 => ⟨(show 2 ≤ sizeLine by decide), fun p hp => ?_⟩
  rw [hD]
  have ee := e.trans e2
  have s := kn.step (ee.trans (Ex.new (o := .tup [.ref l, .ref m]) hp))
  have p0 : H0 p = none := kn.dm p (exdm ee p hp)
  have u1 : ∀ a o, H a = some o → upd H2 p (.tup [.ref l, .ref m]) a = some o := fun a o h => (ee.trans (Ex.new hp)) a o h
  refine hQ (.ref p) _ ((l :: as) ++ ([m] ++ [])) s.kn.hh (.tup ?_ (.cons (.lst ?_ (ht.ex (s.ff.trans s.kn.nw))) (.cons (nats_tr ?_) .nil))) ?_ fun a q => ?_
  · rw [nw_n p0, upd_same]
  · rw [nw_n h0]; exact u1 _ _ hl
  · rw [nw_n m0]; exact u1 _ _ hm
  · refine List.nodup_append.mpr ⟨List.nodup_cons.mpr ⟨fun z => ?_, nd⟩, by simp, fun a ha b hb z => ?_⟩
    · obtain ⟨xs, w⟩ := ht.has l z
      rw [hF] at w
      cases w
    · have hb' : b = m := by simpa using hb
      rw [z, hb'] at ha
      rcases List.mem_cons.mp ha with q | q
      · exact ne q
      · obtain ⟨xs, w⟩ := ht.has m q
        rw [mF] at w
        cases w
  · rcases List.mem_append.mp q with q | q
    · rcases List.mem_cons.mp q with q | q
      · rw [q]; exact h0
      · exact hn a q
    · have hb' : a = m := by simpa using q
      rw [hb']; exact m0
/-- e[0] of a pair -/
theorem r_ix0 (h : EvR te σ G F (.tuple [d1, d2])) (eF : Ex F G) : EvR (tOp (rIxT K) te (tC (.int 0))) σ G F d1 := fun H1 e Q q => h H1 e _ fun v H2 as e2 ht nd hn => by
  cases ht with
  | @tup a xs _ _ h1 h2 =>
    cases h2 with
    | @cons x vs _ _ as1 bs h3 h4 =>
      have h1' : H2 a = some (.tup (x :: vs)) := nw_ex ((eF.trans e).trans e2) _ _ h1
      exact ⟨a, x :: vs, 0, x, rfl, rfl, SqT.of h1', (by unfold L2.atI ixN; simp), q x H2 as1 e2 h3 (List.nodup_append.mp nd).1 fun b m => hn b (List.mem_append.mpr (.inl m))⟩
/-- return e, a tree of new lists -/
theorem kr_fin (hQ : ∀ v H' as, Ex H0 H' → Tr (nw F0 H0 H') v d as → as.Nodup → (∀ a ∈ as, H0 a = none) → Q v H') (kn : Kn M0 F0 H0 F H) (h : EvR te σ F F d) (hD : D.rt = Q := by rfl) : tRet te D σ H := h H kn.fh _ fun v H1 as e ht nd hn => by
  rw [hD]
  have s := kn.step e
  exact hQ v H1 as s.kn.hh (ht.ex s.kn.nw) nd fun a m => kn.dm a (hn a m)
/-! zip of two lists or of two tuples -/
theorem itd_zipT {G : Hp} {a b : Addr} {xs ys : List V} {ds es : List PyData} (h : G a = some (.tup xs)) (hd : DtAll G xs ds) (h' : G b = some (.tup ys)) (he : DtAll G ys es) : ItD (RZ.ItzT K a b) G (zipD ds es) where
  go := fun i H e hi => by
    unfold zipD at hi
    rw [List.length_zipWith] at hi
    have hl : i < xs.length := by rw [hd.len]; omega
    have hl' : i < ys.length := by rw [he.len]; omega
    exact ⟨xs, ys, xs[i], ys[i], SqT.of (e _ _ h), SqT.of (e _ _ h'), List.getElem?_eq_getElem hl, List.getElem?_eq_getElem hl'⟩
  yld := fun i H x H' e hi ⟨T, y, z, e1, hT, e2, e3, e4⟩ => by
    subst e1 e2
    unfold zipD at hi
    rw [List.length_zipWith] at hi
    refine ⟨Ex.new hT, fun d hdd => ?_⟩
    have hi2 : ds[i]? = some ds[i] := List.getElem?_eq_getElem (by omega)
    have hi3 : es[i]? = some es[i] := List.getElem?_eq_getElem (by omega)
    obtain ⟨v, h1, h2⟩ := hd.get hi2
    obtain ⟨v', h1', h2'⟩ := he.get hi3
    unfold zipD at hdd
    rw [List.getElem?_zipWith, hi2, hi3] at hdd
    cases hdd
    have z1 := e3 xs (SqT.of (e _ _ h))
    rw [h1] at z1
    cases z1
    have z2 := e4 ys (SqT.of (e _ _ h'))
    rw [h1'] at z2
    cases z2
    exact .tup (by rw [nw_n hT, upd_same]) (.cons (h2.ex (ex_nw e)) (.cons (h2'.ex (ex_nw e)) .nil))
  stop := fun i H e hi => by
    unfold zipD at hi
    rw [List.length_zipWith] at hi
    refine ⟨xs, ys, SqT.of (e _ _ h), SqT.of (e _ _ h'), ?_⟩
    rw [hd.len, he.len]
    omega
theorem wk_zipAL {ta : TA} {ds es : List PyData} (h : EvDA ta σ F [.list ds, .list es]) : WkD (RZ.iZipA K ta) σ F (zipD ds es) := fun H1 e R q => h H1 e _ fun vs H2 e2 hv => by
  obtain ⟨x, y, rfl, hx, hy⟩ := da2_ hv
  obtain ⟨a, xs, rfl, h1, h2⟩ := hx.list_
  obtain ⟨b, ys, rfl, h3, h4⟩ := hy.list_
  exact ⟨a, b, xs, ys, rfl, .inl ⟨SqL.of (nw_ex (e.trans e2) _ _ h1), SqL.of (nw_ex (e.trans e2) _ _ h3), q _ H2 e2 (itd_zip h1 h2 h3 h4)⟩⟩
theorem wk_zipAT {ta : TA} {ds es : List PyData} (h : EvDA ta σ F [.tuple ds, .tuple es]) : WkD (RZ.iZipA K ta) σ F (zipD ds es) := fun H1 e R q => h H1 e _ fun vs H2 e2 hv => by
  obtain ⟨x, y, rfl, hx, hy⟩ := da2_ hv
  obtain ⟨a, xs, rfl, h1, h2⟩ := hx.tuple_
  obtain ⟨b, ys, rfl, h3, h4⟩ := hy.tuple_
  exact ⟨a, b, xs, ys, rfl, .inr ⟨SqT.of (nw_ex (e.trans e2) _ _ h1), SqT.of (nw_ex (e.trans e2) _ _ h3), q _ H2 e2 (itd_zipT h1 h2 h3 h4)⟩⟩
/-- list(d.items()) of the empty dict -/
theorem d_items0 (h : EvD te σ F (.dict [])) : EvD (LiI.tListItems te) σ F (.list []) := fun H1 e Q q => h H1 e _ fun x H2 e2 hx => by
  cases hx with
  | @emp a h1 =>
    refine ⟨a, [], rfl, nw_ex (e.trans e2) _ _ h1, fun H' p ts ke hp ht hn hl hv => ?_⟩
    have z : ts = [] := by
      cases ts with
      | nil => rfl
      | cons t r => cases hv
    subst z
    have e3 : Ex H2 H' := fun a o h => ke a o h
    refine q (.ref p) H' (e2.trans e3) (.lst ?_ .nil)
    rw [nw_n (exdm e2 p hp)]
    exact hl
end
section
variable {X : Cx} {K : PySem.W.Frag} {e e2 : Expr} {ta : TA} {p pos tpos : Pos} {elts : List Expr} {kk : Nat}
theorem pi_zipAK (hK : X.K = K) (hg : Gl X "zip") (hm : X.mg "zip" = none) (ha : PA X [e, e2] ta)
    (hs : starEach [e, e2] X.env = (false, eval e X.env) :: starEach [e2] X.env := by rfl) (hpl : (backTo pos (starEach [e2] X.env)).any (·.1) = false := by rfl) :
    PI X (.Tuple elts kk tpos) (.Call (.Name "zip" p) [e, e2] [] pos) (RZ.iZipA K ta) := by
  subst hK
  exact RZ.pi_zipA hg hm ha hs hpl
theorem op_or {f : Value → Value → Sem Value} {r1 r2 : R2} (h1 : OpR X f r1) (h2 : OpR X f r2) : OpR X f (fun x y H Q => r1 x y H Q ∨ r2 x y H Q) := fun pins s σ H x y v u Q I rx ry h => by
  rcases h with h | h
  · exact h1 pins s σ H x y v u Q I rx ry h
  · exact h2 pins s σ H x y v u Q I rx ry h
end
end WB
/-! Calls by names alone. -/
namespace WB
open PySem PySem.Spec PyProof.Rows L2 Evl
def g1 {α : Type} : List α → List α → List α
  | [], [a] => [a]
  | _, _ => []
/-- three parameters, told the last one first -/
def g3 {α : Type} : List α → List α → List α
  | [], [a, b, c] => [c, b, a]
  | _, _ => []
theorem kb1 {K : PySem.W.Frag} {fd : FuncData} {p : Str} (h : ∀ a : Value, bindArgs fd ⟨[], [(p, a)]⟩ = pure [(p, a)]) : KBinds K fd [p] [p] g1 g1 where
  to := fun s us ws _ hl => by
    match us, ws, hl with
    | [], [a], _ =>
      intro M A E Q q
      show wpAny M A (bindArgs fd ⟨[], [(p, a)]⟩) Q E s
      rw [h a]
      exact wpAny_pure q
    | [], [], hl => cases hl
    | [], _ :: _ :: _, hl => cases hl
    | _ :: _, _, hl => cases hl
  rel := fun h1 h2 => by
    cases h1 with
    | nil =>
      cases h2 with
      | nil => exact .nil
      | cons r t =>
        cases t with
        | nil => exact .cons r .nil
        | cons r2 t2 => exact .nil
    | cons r t => exact .nil
theorem kb3 {K : PySem.W.Frag} {fd : FuncData} {p q r : Str} (h : ∀ a b c : Value, bindArgs fd ⟨[], [(r, a), (q, b), (p, c)]⟩ = pure [(p, c), (q, b), (r, a)]) : KBinds K fd [p, q, r] [r, q, p] g3 g3 where
  to := fun s us ws _ hl => by
    match us, ws, hl with
    | [], [a, b, c], _ =>
      intro M A E Q q'
      show wpAny M A (bindArgs fd ⟨[], [(r, a), (q, b), (p, c)]⟩) Q E s
      rw [h a b c]
      exact wpAny_pure q'
    | [], [], hl => cases hl
    | [], [_], hl => cases hl
    | [], [_, _], hl => cases hl
    | [], _ :: _ :: _ :: _ :: _, hl => cases hl
    | _ :: _, _, hl => cases hl
  rel := fun h1 h2 => by
    cases h1 with
    | nil =>
      cases h2 with
      | nil => exact .nil
      | cons r1 t =>
        cases t with
        | nil => exact .nil
        | cons r2 t2 =>
          cases t2 with
          | nil => exact .nil
          | cons r3 t3 =>
            cases t3 with
            | nil => exact .cons r3 (.cons r2 (.cons r1 .nil))
            | cons r4 t4 => exact .nil
    | cons r t => exact .nil
section
variable (P : Program) (w : World) (K : PySem.W.Frag) (mg : Str → Option Value) (base : Heap)
/-- a def of the module, called by names -/
def ClK (k : Nat) (x : Str) (ps ks : List Str) (g : List Value → List Value → List Value) (gV : List V → List V → List V) (sp : Sp) : Prop :=
  ∃ (f : Addr) (fd : FuncData), FnOk P w K mg base (L2.CX P w) k f fd ps sp ∧ mg x = some (.ref f) ∧ PySem.W.keepIn K (.ref f) = true ∧ KBinds K fd ps ks g gV
end
section
variable {P : Program} {w : World} {K : PySem.W.Frag} {mg : Str → Option Value} {base : Heap} {ps ks : List Str} {k : Nat} {sp : Sp} {x qual : Str} {params : Arguments} {body : List Stmt} {scope : Scope} {f : Addr}
theorem mk_clF (F : ∃ fd, FunD K x qual params body scope [] [] f fd) (hm : mg x = some (.ref f)) (h : ∀ {fd : FuncData}, FunD K x qual params body scope [] [] f fd → FnOk P w K mg base (L2.CX P w) k f fd ps sp)
    (hb : ∀ (kV doc pm : Value) (an : Option Addr) (cdv ct : Value) (us : List Value), us.length = ps.length → bindArgs (PySem.W.fnOf x qual params body scope .none kV doc pm an cdv ct) ⟨us, []⟩ = pure (ps.zip us)) : Cl P w K mg base k x ps sp := by
  obtain ⟨fd, F⟩ := F
  exact ⟨f, fd, h F, hm, F.kp, F.bindsN hb⟩
theorem FunD.fnN {fd : FuncData} (F : FunD K x qual params body scope [] [] f fd) : ∃ (kV doc pm : Value) (an : Option Addr) (cdv ct : Value), fd = PySem.W.fnOf x qual params body scope .none kV doc pm an cdv ct := by
  obtain ⟨oc, od, dV, kV, doc, pm, an, cdv, ct, osl, e, _, _, hD, _⟩ := F.ex
  rcases hD with ⟨_, e2⟩ | ⟨n, _⟩
  · exact ⟨kV, doc, pm, an, cdv, ct, by rw [e, e2]⟩
  · exact absurd rfl n
theorem mk_clK1 {p : Str} (F : ∃ fd, FunD K x qual params body scope [] [] f fd) (hm : mg x = some (.ref f)) (h : ∀ {fd : FuncData}, FunD K x qual params body scope [] [] f fd → FnOk P w K mg base (L2.CX P w) k f fd [p] sp)
    (hb : ∀ (kV doc pm : Value) (an : Option Addr) (cdv ct : Value) (a : Value), bindArgs (PySem.W.fnOf x qual params body scope .none kV doc pm an cdv ct) ⟨[], [(p, a)]⟩ = pure [(p, a)]) : ClK P w K mg base k x [p] [p] g1 g1 sp := by
  obtain ⟨fd, F⟩ := F
  refine ⟨f, fd, h F, hm, F.kp, kb1 fun a => ?_⟩
  obtain ⟨kV, doc, pm, an, cdv, ct, rfl⟩ := FunD.fnN F
  exact hb ..
theorem mk_clK3 {p q r : Str} (F : ∃ fd, FunD K x qual params body scope [] [] f fd) (hm : mg x = some (.ref f)) (h : ∀ {fd : FuncData}, FunD K x qual params body scope [] [] f fd → FnOk P w K mg base (L2.CX P w) k f fd [p, q, r] sp)
    (hb : ∀ (kV doc pm : Value) (an : Option Addr) (cdv ct : Value) (a b c : Value), bindArgs (PySem.W.fnOf x qual params body scope .none kV doc pm an cdv ct) ⟨[], [(r, a), (q, b), (p, c)]⟩ = pure [(p, c), (q, b), (r, a)]) : ClK P w K mg base k x [p, q, r] [r, q, p] g3 g3 sp := by
  obtain ⟨fd, F⟩ := F
  refine ⟨f, fd, h F, hm, F.kp, kb3 fun a b c => ?_⟩
  obtain ⟨kV, doc, pm, an, cdv, ct, rfl⟩ := FunD.fnN F
  exact hb ..
end
def tCallN (sp : Sp) (gV : List V → List V → List V) (E : XK) (tk : TA) : TE := fun σ H Q => tk σ H fun zs H1 => sp (gV [] zs) H1 Q E
theorem pe_clK {X : Cx} {k j : Nat} {x : Str} {ps ks : List Str} {g : List Value → List Value → List Value} {gV : List V → List V → List V} {sp : Sp} {E : XK} {p pos : Pos} {kws : List Keyword} {tk : TA}
    (c : ClK X.prog X.w X.K X.mg X.base k x ps ks g gV sp) (hr : Room j X.A) (hk : k ≤ j) (hx : Passes (L2.CX X.prog X.w) X E) (hg : Gl X x) (hkw : PK X kws tk)
    (hall : ((backToKw pos (keywordEach kws X.env)).all fun x => x.1.isSome) = true := by rfl) (hks : (backToKw pos (keywordEach kws X.env)).filterMap (·.1) = ks := by rfl)
    (hdb : (x == ("__debug__" : Str)) = false := by decide) (hpl : ((backTo pos (starEach [] X.env)).any (·.1) || (backToKw pos (keywordEach kws X.env)).any fun x => x.1.isNone) = false := by rfl) :
    PE X (.Call (.Name x p) [] kws pos) (tCallN sp gV E tk) := by
  obtain ⟨f, fd, F, hm, hkp, hb⟩ := c
  refine ⟨fun pins s σ H Q I h => ?_⟩
  refine wpAny_Call_Name_kw (ld_glob I hg hm (PySem.W.callWith_KW0 (I.ok.mod.kin) hkp hall (thn (hkw.run pos pins s σ H _ I h) fun ws s2 ⟨zs, H2, I2, rz, q2⟩ => ⟨I2.kIn, ?_⟩) hpl) hdb)
  rw [hks]
  exact run_fnk F (hr.mono hk) hb hx I2 .nil rz q2
end WB
/-! Words, rules, steps: what they are in plain Lean. -/
namespace WB
open PySem PySem.Spec PyProof.Rows L2 Evl
/-- a word: small letters alone -/
def isW (z : Str) : Bool := z.cps.all fun c => decide (97 ≤ c) && decide (c ≤ 122)
theorem low_alpha : ∀ c, c < 128 → ((decide (97 ≤ c) && decide (c ≤ 122)) = true → Unicode.isAlpha c = true ∧ Unicode.isLower c = true ∧ (Unicode.isUpper c || Unicode.isTitle c) = false) ∧ ((decide (97 ≤ c) && decide (c ≤ 122)) = false → Unicode.isAlpha c = true → (Unicode.isUpper c || Unicode.isTitle c) = true) := by decide +kernel
theorem word_tests (z : Str) (hne : z.length ≠ 0) : (Txt.isascii z && (Txt.isalpha z && Txt.islower z)) = isW z := by
  unfold Txt.isascii Txt.isalpha Txt.islower isW
  have hz : (decide (z.length > 0)) = true := decide_eq_true (Nat.pos_of_ne_zero hne)
  rw [Bool.eq_iff_iff]
  simp only [Bool.and_eq_true, Array.all_eq_true, Array.any_eq_true, Bool.not_eq_true', decide_eq_true_eq]
  constructor
  · rintro ⟨h1, ⟨_, h2⟩, _, h4⟩ i hi
    cases q : (decide (97 ≤ z.cps[i]) && decide (z.cps[i] ≤ 122)) with
    | true => simpa using q
    | false =>
      have z1 := (low_alpha z.cps[i] (h1 i hi)).2 q (h2 i hi)
      exfalso
      have z2 : (z.cps.any fun c => Unicode.isUpper c || Unicode.isTitle c) = true := Array.any_eq_true.mpr ⟨i, hi, z1⟩
      rw [z2] at h4
      cases h4
  · intro h
    have hq : ∀ i (hi : i < z.cps.size), z.cps[i] < 128 := fun i hi => by have := h i hi; omega
    have hl : ∀ i (hi : i < z.cps.size), (decide (97 ≤ z.cps[i]) && decide (z.cps[i] ≤ 122)) = true := fun i hi => by simpa using h i hi
    refine ⟨hq, ⟨Nat.pos_of_ne_zero hne, fun i hi => ((low_alpha _ (hq i hi)).1 (hl i hi)).1⟩, ?_, ?_⟩
    · have h0 : 0 < z.cps.size := Nat.pos_of_ne_zero hne
      exact ⟨0, h0, ((low_alpha _ (hq 0 h0)).1 (hl 0 h0)).2.1⟩
    · rw [← Bool.not_eq_true, Array.any_eq_true]
      rintro ⟨i, hi, q⟩
      rw [((low_alpha _ (hq i hi)).1 (hl i hi)).2.2] at q
      cases q
end WB
/-! ### rules, steps -/
namespace WB
open PySem PySem.Spec PyProof.Rows L2 Evl
abbrev Rule := Str × Str
/-- place, rule, is it on -/
abbrev WStep := Nat × Nat × Bool
def turnS (b : Bool) : Str := if b then "on" else "back"
def ruleD (r : Rule) : PyData := .tuple [.str r.1, .str r.2]
def rulesD (rs : List Rule) : PyData := .list (rs.map ruleD)
def stepD (s : WStep) : PyData := .tuple [.int (s.1 : Nat), .int (s.2.1 : Nat), .str (turnS s.2.2)]
def src (r : Rule) (b : Bool) : Str := if b then r.1 else r.2
def gol (r : Rule) (b : Bool) : Str := if b then r.2 else r.1
def canR (r : Rule) (z : Str) (s : WStep) : Bool := decide (V.str (cutS z (some (s.1 : Nat)) (some ((s.1 : Nat) + ((src r s.2.2).length : Nat) : Int))) = V.str (src r s.2.2))
def doneR (r : Rule) (z : Str) (s : WStep) : Str := cutS z none (some (s.1 : Nat)) ++ gol r s.2.2 ++ cutS z (some ((s.1 : Nat) + ((src r s.2.2).length : Nat) : Int)) none
/-- all sides of a length that goes -/
def RsOk (rs : List Rule) : Prop := ∀ r ∈ rs, r.1.length ≤ 1000 ∧ r.2.length ≤ 1000
theorem RsOk.at_ {rs : List Rule} (h : RsOk rs) {i : Nat} {r : Rule} (hi : rs[i]? = some r) (b : Bool) : (src r b).length ≤ 1000 ∧ (gol r b).length ≤ 1000 := by
  have z := h r (List.mem_of_getElem? hi)
  unfold src gol
  cases b
  · exact ⟨z.2, z.1⟩
  · exact z
theorem atI_rules {rs : List Rule} {i : Nat} {r : Rule} (h : rs[i]? = some r) : atI (rs.map ruleD) ((i : Nat) : Int) = some (ruleD r) := atI_nat (by rw [List.getElem?_map, h]; rfl)
theorem turn_on (b : Bool) : decide (V.str (turnS b) = V.str "on") = b := by
  cases b
  · exact decide_eq_false (by decide)
  · exact decide_eq_true rfl
end WB
namespace WB
open PySem PySem.Spec PyProof.Rows L2 Evl
section
variable {K : PySem.W.Frag} {σ : L2.St} {F : Hp} {te : TE}
theorem isW_nil : isW "" = true := by decide +kernel
/-- step[0], step[1], step[2] == "on" -/
theorem d_st0 {s : WStep} (h : EvD te σ F (stepD s)) : EvD (tOp (rIxT K) te (tC (.int 0))) σ F (.int (s.1 : Nat)) := d_ixT h d_int rfl
theorem d_st1 {s : WStep} (h : EvD te σ F (stepD s)) : EvD (tOp (rIxT K) te (tC (.int 1))) σ F (.int (s.2.1 : Nat)) := d_ixT h d_int rfl
theorem d_st2 {s : WStep} (h : EvD te σ F (stepD s)) : EvD (tOp (rIxT K) te (tC (.int 2))) σ F (.str (turnS s.2.2)) := d_ixT h d_int rfl
theorem t_on {s : WStep} (h : EvD te σ F (stepD s)) : EvT (tTest (tOp rEq (tOp (rIxT K) te (tC (.int 2))) (tC (.str "on")))) σ F s.2.2 := by
  have z := t_val (d_eq (x := .str (turnS s.2.2)) (y := .str "on") (d_st2 (K := K) h) d_str rfl rfl rfl)
  rw [turn_on] at z
  exact z
/-- rules[step[1]] -/
theorem d_rul {rs : List Rule} {s : WStep} {q : Rule} {tr : TE} (hr : EvD tr σ F (rulesD rs)) (h : EvD te σ F (stepD s)) (hq : rs[s.2.1]? = some q) : EvD (tOp (rIxL K) tr (tOp (rIxT K) te (tC (.int 1)))) σ F (ruleD q) := d_ixL hr (d_st1 h) (atI_rules hq)
theorem d_ru0 {q : Rule} (h : EvD te σ F (ruleD q)) : EvD (tOp (rIxT K) te (tC (.int 0))) σ F (.str q.1) := d_ixT h d_int rfl
theorem d_ru1 {q : Rule} (h : EvD te σ F (ruleD q)) : EvD (tOp (rIxT K) te (tC (.int 1))) σ F (.str q.2) := d_ixT h d_int rfl
/-- lengths that go -/
theorem szS {n : Nat} (h : n ≤ 100000) : n ≤ sizeLine := sz_of h
theorem cutS_len_le (z : Str) (lo hi : Option Int) {n : Nat} (h : z.length ≤ n) : (cutS z lo hi).length ≤ n := Nat.le_trans (cutS_length z lo hi) h
theorem app_len (a b : Str) : (a ++ b).length = a.length + b.length := by
  show (a.cps ++ b.cps).size = a.cps.size + b.cps.size
  exact Array.size_append
end
end WB
/-! Books and ways in plain Lean, and as they stand in a heap. -/
namespace WB
open PySem PySem.Spec PyProof.Rows L2 Evl
/-- a rule that is one -/
structure RuOk (r : Rule) : Prop where
  w1 : isW r.1 = true
  w2 : isW r.2 = true
  n1 : r.1.length ≠ 0
  n2 : r.2.length ≠ 0
  l1 : r.1.length ≤ 1000
  l2 : r.2.length ≤ 1000
structure BkOk (rs : List Rule) : Prop where
  r : ∀ q ∈ rs, RuOk q
  n : rs.length ≤ 1000
theorem BkOk.at_ {rs : List Rule} (h : BkOk rs) {i : Nat} {q : Rule} (hi : rs[i]? = some q) : RuOk q := h.r q (List.mem_of_getElem? hi)
theorem RuOk.sl {q : Rule} (h : RuOk q) (b : Bool) : (src q b).length ≤ 1000 := by
  unfold src
  cases b
  · exact h.l2
  · exact h.l1
theorem RuOk.gl {q : Rule} (h : RuOk q) (b : Bool) : (gol q b).length ≤ 1000 := by
  unfold gol
  cases b
  · exact h.l1
  · exact h.l2
def stepsD (ss : List WStep) : PyData := .list (ss.map stepD)
/-- the words along a way -/
def wordsOf (rs : List Rule) : Str → List WStep → List Str
  | z, [] => [z]
  | z, s :: r => z :: wordsOf rs (match rs[s.2.1]? with | some q => doneR q z s | none => z) r
/-- each step can be done, the words are of a length that goes -/
def WyOk (rs : List Rule) : Str → List WStep → Prop
  | z, [] => z.length ≤ 1000
  | z, s :: r => z.length ≤ 1000 ∧ ∃ q, rs[s.2.1]? = some q ∧ canR q z s = true ∧ WyOk rs (doneR q z s) r
theorem WyOk.len {rs : List Rule} : ∀ {z : Str} {ss : List WStep}, WyOk rs z ss → z.length ≤ 1000
  | _, [], h => h
  | _, _ :: _, h => h.1
structure WayM where
  rs : List Rule
  z : Str
  ss : List WStep
structure WayM.Ok (m : WayM) : Prop where
  b : BkOk m.rs
  w : isW m.z = true
  s : WyOk m.rs m.z m.ss
  n : m.ss.length ≤ 1000
/-- a Book of these rules at a -/
def BookAt (C : Addr) (rs : List Rule) (H : Hp) (v : V) : Prop := ∃ a dx l, v = .ref a ∧ H a = some (.ins C dx [("_rules", .ref l)]) ∧ Dt H (.ref l) (rulesD rs)
theorem BookAt.mo (C : Addr) (rs : List Rule) : Mo (BookAt C rs) := fun H H' v e ⟨a, dx, l, h1, h2, h3⟩ => ⟨a, dx, l, h1, e _ _ h2, h3.ex e⟩
def wayFs (b : V) (z : Str) (l1 l2 : Addr) : List (Str × V) := [("_book", b), ("_word", .str z), ("_words", .ref l1), ("_steps", .ref l2)]
def strsD (zs : List Str) : PyData := .list (zs.map .str)
/-- a Way at a -/
def WayAt (CB CW : Addr) (m : WayM) (H : Hp) (v : V) : Prop := ∃ a dx b l1 l2, v = .ref a ∧ H a = some (.ins CW dx (wayFs b m.z l1 l2)) ∧ BookAt CB m.rs H b ∧ Dt H (.ref l1) (strsD (wordsOf m.rs m.z m.ss)) ∧ Dt H (.ref l2) (stepsD m.ss)
theorem WayAt.mo (CB CW : Addr) (m : WayM) : Mo (WayAt CB CW m) := fun H H' v e ⟨a, dx, b, l1, l2, h1, h2, h3, h4, h5⟩ => ⟨a, dx, b, l1, l2, h1, e _ _ h2, BookAt.mo _ _ _ _ _ e h3, h4.ex e, h5.ex e⟩
end WB
namespace WB
open PySem PySem.Spec PyProof.Rows L2 Evl
theorem wordsOf_len (rs : List Rule) : ∀ (z : Str) (ss : List WStep), (wordsOf rs z ss).length = ss.length + 1
  | _, [] => rfl
  | z, s :: r => by
    show (wordsOf rs _ r).length + 1 = _
    rw [wordsOf_len rs _ r]
    rfl
theorem wordsOf_0 (rs : List Rule) (z : Str) (ss : List WStep) : (wordsOf rs z ss)[0]? = some z := by
  cases ss <;> rfl
theorem WyOk.at_ {rs : List Rule} : ∀ {z : Str} {ss : List WStep} {i : Nat} {s : WStep}, WyOk rs z ss → ss[i]? = some s →
    ∃ zi q, (wordsOf rs z ss)[i]? = some zi ∧ zi.length ≤ 1000 ∧ rs[s.2.1]? = some q ∧ canR q zi s = true ∧ (wordsOf rs z ss)[i + 1]? = some (doneR q zi s) ∧ (doneR q zi s).length ≤ 1000
  | _, [], _, _, _, h => by simp at h
  | z, s :: r, 0, s', ⟨h1, q, h2, h3, h4⟩, h => by
    have e : s = s' := by simpa using h
    subst e
    refine ⟨z, q, rfl, h1, h2, h3, ?_, h4.len⟩
    show (wordsOf rs (match rs[s.2.1]? with | some q => doneR q z s | none => z) r)[0]? = _
    rw [wordsOf_0, h2]
  | z, s :: r, i + 1, s', ⟨h1, q, h2, h3, h4⟩, h => by
    obtain ⟨zi, q', a1, a2, a3, a4, a5, a6⟩ := WyOk.at_ (i := i) (s := s') h4 (by simpa using h)
    refine ⟨zi, q', ?_, a2, a3, a4, ?_, a6⟩
    · show (wordsOf rs (match rs[s.2.1]? with | some q => doneR q z s | none => z) r)[i]? = _
      rw [h2]
      exact a1
    · show (wordsOf rs (match rs[s.2.1]? with | some q => doneR q z s | none => z) r)[i + 1]? = _
      rw [h2]
      exact a5
theorem strs_dt {H : Hp} : ∀ zs : List Str, DtAll H (zs.map V.str) (zs.map PyData.str)
  | [] => .nil
  | z :: r => .cons (.str z) (strs_dt r)
theorem take_snoc {α : Type} {xs : List α} {i : Nat} {x : α} (h : xs[i]? = some x) : xs.take (i + 1) = xs.take i ++ [x] := by
  rw [List.take_add_one, h]
  rfl
theorem atI_take {α : Type} {xs : List α} {i n : Nat} {x : α} (h : xs[i]? = some x) (hn : i < n) : atI (xs.take n) ((i : Nat) : Int) = some x := atI_nat (by rw [List.getElem?_take, if_pos hn]; exact h)
end WB

namespace WB
open PySem PySem.Spec PyProof.Rows L2 Evl
theorem putF_lt {f : Str} {v : V} : ∀ {fs : List (Str × V)} {n : Nat}, fs.length < n → (putF f v fs).length < n + 1
  | [], _, h => by show 1 < _; omega
  | (g, u) :: r, n, h => by
    show (if _ then _ else _ : List (Str × V)).length < n + 1
    split
    · exact Nat.lt_succ_of_lt h
    · have h' : r.length < n - 1 := by have : r.length + 1 < n := h; omega
      have := putF_lt (f := f) (v := v) h'
      have : (putF f v r).length + 1 < n - 1 + 1 + 1 := Nat.succ_lt_succ this
      have hn : 0 < n := Nat.lt_of_le_of_lt (Nat.zero_le _) h
      show (putF f v r).length + 1 < n + 1
      omega
theorem fs1 {f : Str} {v : V} : (putF f v []).length < 1000 := Nat.lt_of_lt_of_le (putF_lt (n := 1) Nat.zero_lt_one) (by decide)
theorem fs2 {f g : Str} {v u : V} : (putF f v (putF g u [])).length < 1000 := Nat.lt_of_lt_of_le (putF_lt (putF_lt (n := 1) Nat.zero_lt_one)) (by decide)
theorem fs3 {f g h : Str} {v u x : V} : (putF f v (putF g u (putF h x []))).length < 1000 := Nat.lt_of_lt_of_le (putF_lt (putF_lt (putF_lt (n := 1) Nat.zero_lt_one))) (by decide)
theorem way_fs (b : V) (z : Str) (l1 l2 : Addr) : wayFs b z l1 l2 = putF "_steps" (.ref l2) (putF "_words" (.ref l1) (putF "_word" (.str z) (putF "_book" b []))) := by
  have n1 : ¬ (("_book" : Str) = "_word") := by decide +kernel
  have n2 : ¬ (("_book" : Str) = "_words") := by decide +kernel
  have n3 : ¬ (("_word" : Str) = "_words") := by decide +kernel
  have n4 : ¬ (("_book" : Str) = "_steps") := by decide +kernel
  have n5 : ¬ (("_word" : Str) = "_steps") := by decide +kernel
  have n6 : ¬ (("_words" : Str) = "_steps") := by decide +kernel
  simp only [putF, if_neg n1, if_neg n2, if_neg n3, if_neg n4, if_neg n5, if_neg n6]
  rfl
end WB
/-! Labels: each letter of a word along a way by where it was made. -/
namespace WB
open PySem PySem.Spec PyProof.Rows L2 Evl
theorem cutS_toList (z : Str) (lo hi : Option Int) : (cutS z lo hi).cps.toList = (z.cps.toList.drop (HT.sIx z.length 0 lo)).take (HT.sIx z.length z.length hi - HT.sIx z.length 0 lo) := rfl
theorem str_len (z : Str) : z.length = z.cps.toList.length := rfl
theorem cutS_len (z : Str) (p q : Nat) (h : q ≤ z.length) : (cutS z (some (p : Int)) (some (q : Int))).length = q - p := by
  rw [str_len, cutS_toList, List.length_take, List.length_drop, ← str_len, HT.sIx_nat, HT.sIx_nat]
  omega
theorem cutS_lenM (z : Str) (p q : Nat) : (cutS z (some (p : Int)) (some (q : Int))).length = min q z.length - min p z.length := by
  rw [str_len, cutS_toList, List.length_take, List.length_drop, ← str_len, HT.sIx_nat, HT.sIx_nat]
  omega
theorem cutS_lo (z : Str) (p : Nat) : (cutS z none (some (p : Int))).length = min p z.length := by
  rw [str_len, cutS_toList, List.length_take, List.length_drop, ← str_len, HT.sIx_nat, HT.sIx_none]
  omega
theorem cutS_hi (z : Str) (p : Nat) : (cutS z (some (p : Int)) none).length = z.length - p := by
  rw [str_len, cutS_toList, List.length_take, List.length_drop, ← str_len, HT.sIx_nat, HT.sIx_none]
  omega
/-- where a step can be done, its source lies within the word -/
theorem can_in {q : Rule} {z : Str} {s : WStep} (h : canR q z s = true) (n : (src q s.2.2).length ≠ 0) : s.1 + (src q s.2.2).length ≤ z.length := by
  have e : cutS z (some (s.1 : Nat)) (some ((s.1 : Nat) + ((src q s.2.2).length : Nat) : Int)) = src q s.2.2 := V.str.inj (of_decide_eq_true h)
  have l := congrArg Str.length e
  rw [show ((s.1 : Nat) + ((src q s.2.2).length : Nat) : Int) = ((s.1 + (src q s.2.2).length : Nat) : Int) by omega, cutS_lenM] at l
  omega
theorem done_len {q : Rule} {z : Str} {s : WStep} (h : s.1 + (src q s.2.2).length ≤ z.length) : (doneR q z s).length = s.1 + (gol q s.2.2).length + (z.length - (s.1 + (src q s.2.2).length)) := by
  unfold doneR
  rw [app_len, app_len, cutS_lo, show ((s.1 : Nat) + ((src q s.2.2).length : Nat) : Int) = ((s.1 + (src q s.2.2).length : Nat) : Int) by omega, cutS_hi]
  omega
theorem RuOk.s0 {q : Rule} (h : RuOk q) (b : Bool) : (src q b).length ≠ 0 := by
  unfold src
  cases b
  · exact h.n2
  · exact h.n1
theorem RuOk.g0 {q : Rule} (h : RuOk q) (b : Bool) : (gol q b).length ≠ 0 := by
  unfold gol
  cases b
  · exact h.n1
  · exact h.n2
/-- step, letter of what it makes; none: of the first word -/
abbrev Lab := Option Nat × Nat
def labD (l : Lab) : PyData := .tuple [match l.1 with | none => .none | some n => .int (n : Nat), .int (l.2 : Nat)]
def srL (rs : List Rule) (s : WStep) : Nat := match rs[s.2.1]? with
  | some q => (src q s.2.2).length
  | none => 0
def goL (rs : List Rule) (s : WStep) : Nat := match rs[s.2.1]? with
  | some q => (gol q s.2.2).length
  | none => 0
theorem srL_eq {rs : List Rule} {s : WStep} {q : Rule} (h : rs[s.2.1]? = some q) : srL rs s = (src q s.2.2).length := by unfold srL; rw [h]
theorem goL_eq {rs : List Rule} {s : WStep} {q : Rule} (h : rs[s.2.1]? = some q) : goL rs s = (gol q s.2.2).length := by unfold goL; rw [h]
def givenL (rs : List Rule) (n : Nat) (s : WStep) : List Lab := (List.range (goL rs s)).map fun j => (some n, j)
def nextRow (rs : List Rule) (n : Nat) (row : List Lab) (s : WStep) : List Lab := row.take s.1 ++ givenL rs n s ++ row.drop (s.1 + srL rs s)
/-- the labels of the word at index n -/
def rowAt (rs : List Rule) (z : Str) (ss : List WStep) : Nat → List Lab
  | 0 => (List.range z.length).map fun j => (none, j)
  | n + 1 => match ss[n]? with
    | some s => nextRow rs n (rowAt rs z ss n) s
    | none => []
def takenL (rs : List Rule) (z : Str) (ss : List WStep) (n : Nat) (s : WStep) : List Lab := ((rowAt rs z ss n).drop s.1).take (srL rs s)
/-- the first number of what step n makes -/
def freshAt (rs : List Rule) (z : Str) (ss : List WStep) (n : Nat) : Nat := z.length + ((ss.take n).map (goL rs)).sum
def numL (rs : List Rule) (z : Str) (ss : List WStep) (l : Lab) : Nat := match l.1 with
  | none => l.2
  | some n => freshAt rs z ss n + l.2
theorem row_s {rs : List Rule} {z : Str} {ss : List WStep} {n : Nat} {s : WStep} (h : ss[n]? = some s) : rowAt rs z ss (n + 1) = nextRow rs n (rowAt rs z ss n) s := by
  show (match ss[n]? with | some s => nextRow rs n (rowAt rs z ss n) s | none => []) = _
  rw [h]
theorem fresh_s {rs : List Rule} {z : Str} {ss : List WStep} {n : Nat} {s : WStep} (h : ss[n]? = some s) : freshAt rs z ss (n + 1) = freshAt rs z ss n + goL rs s := by
  unfold freshAt
  rw [take_snoc h, List.map_append, List.sum_append]
  simp [Nat.add_assoc]
theorem given_num (rs : List Rule) (z : Str) (ss : List WStep) (n : Nat) (s : WStep) : (givenL rs n s).map (numL rs z ss) = (List.range (goL rs s)).map fun j => freshAt rs z ss n + j := by
  unfold givenL
  rw [List.map_map]
  rfl
/-- what a Way tells of its step n -/
structure StepAt (m : WayM) (n : Nat) (s : WStep) (q : Rule) (zi zj : Str) : Prop where
  hs : m.ss[n]? = some s
  hq : m.rs[s.2.1]? = some q
  ok : RuOk q
  z : (wordsOf m.rs m.z m.ss)[n]? = some zi
  z1 : (wordsOf m.rs m.z m.ss)[n + 1]? = some zj
  zl : zi.length ≤ 1000
  zjl : zj.length ≤ 1000
  c : s.1 + srL m.rs s ≤ zi.length
  l : zj.length = s.1 + goL m.rs s + (zi.length - (s.1 + srL m.rs s))
theorem WayM.Ok.step {m : WayM} (ok : m.Ok) {n : Nat} {s : WStep} (h : m.ss[n]? = some s) : ∃ q zi zj, StepAt m n s q zi zj := by
  obtain ⟨zi, q, a1, a2, a3, a4, a5, a6⟩ := ok.s.at_ h
  have rq := ok.b.at_ a3
  have c := can_in a4 (rq.s0 _)
  exact ⟨q, zi, _, h, a3, rq, a1, a5, a2, a6, by rw [srL_eq a3]; exact c, by rw [srL_eq a3, goL_eq a3]; exact done_len c⟩
theorem row_len {m : WayM} (ok : m.Ok) : ∀ {n : Nat} {zi : Str}, (wordsOf m.rs m.z m.ss)[n]? = some zi → (rowAt m.rs m.z m.ss n).length = zi.length
  | 0, zi, h => by
    rw [wordsOf_0] at h
    cases h
    show ((List.range m.z.length).map _).length = _
    rw [List.length_map, List.length_range]
  | n + 1, zj, h => by
    have hn : n < m.ss.length := by
      have := (List.getElem?_eq_some_iff.mp h).1
      rw [wordsOf_len] at this
      omega
    obtain ⟨q, zi, zj', st⟩ := ok.step (List.getElem?_eq_getElem hn)
    rw [row_s st.hs]
    rw [st.z1] at h
    cases h
    have il := row_len ok st.z
    unfold nextRow
    rw [List.length_append, List.length_append, List.length_take, List.length_drop, il, st.l]
    unfold givenL
    rw [List.length_map, List.length_range]
    have := st.c
    omega
theorem word_at {m : WayM} {n : Nat} (h : n ≤ m.ss.length) : ∃ zi, (wordsOf m.rs m.z m.ss)[n]? = some zi := ⟨_, List.getElem?_eq_getElem (by rw [wordsOf_len]; omega)⟩
theorem fresh_le {m : WayM} (ok : m.Ok) (n : Nat) : freshAt m.rs m.z m.ss n ≤ 1000 + 1000 * 1000 := by
  have h1 : ((m.ss.take n).map (goL m.rs)).sum ≤ (m.ss.take n).length * 1000 := by
    have : ∀ l : List WStep, (l.map (goL m.rs)).sum ≤ l.length * 1000 := fun l => by
      induction l with
      | nil => simp
      | cons s r ih =>
        have g : goL m.rs s ≤ 1000 := by
          cases h : m.rs[s.2.1]? with
          | none => unfold goL; rw [h]; exact Nat.zero_le _
          | some q => rw [goL_eq h]; exact (ok.b.at_ h).gl _
        simp only [List.map_cons, List.sum_cons, List.length_cons]
        omega
    exact this _
  have h2 : (m.ss.take n).length ≤ 1000 := by
    rw [List.length_take]
    have := ok.n
    omega
  have h3 := ok.s.len
  unfold freshAt
  omega
/-- slices of rows of numbers -/
theorem natsV_len (ns : List Nat) : (natsV ns).length = ns.length := by unfold natsV; rw [List.length_map]
theorem cutV_nn (ns : List Nat) (p q : Nat) : cutV (natsV ns) (some (p : Int)) (some (q : Int)) = natsV ((ns.drop p).take (q - p)) := by
  unfold cutV
  rw [HT.sIx_nat, HT.sIx_nat, natsV_len]
  unfold natsV
  rw [List.map_take, List.map_drop]
  by_cases h : p ≤ ns.length
  · rw [Nat.min_eq_left h]
    by_cases h2 : q ≤ ns.length
    · rw [Nat.min_eq_left h2]
    · rw [Nat.min_eq_right (by omega), List.take_of_length_le (l := ((List.map _ ns).drop p)) (by rw [List.length_drop, List.length_map]; omega), List.take_of_length_le (by rw [List.length_drop, List.length_map]; omega)]
  · rw [List.drop_eq_nil_of_le (i := p) (by rw [List.length_map]; omega), List.drop_eq_nil_of_le (i := min p ns.length) (by rw [List.length_map]; omega), List.take_nil, List.take_nil]
theorem cutD_lo (ns : List PyData) (p : Nat) : cutD ns none (some (p : Int)) = ns.take p := by
  unfold cutD
  rw [HT.sIx_nat, HT.sIx_none, List.drop_zero, Nat.sub_zero]
  by_cases h : p ≤ ns.length
  · rw [Nat.min_eq_left h]
  · rw [Nat.min_eq_right (by omega), List.take_of_length_le (Nat.le_refl _), List.take_of_length_le (by omega)]
theorem cutD_hi (ns : List PyData) (p : Nat) : cutD ns (some (p : Int)) none = ns.drop p := by
  unfold cutD
  rw [HT.sIx_nat, HT.sIx_none]
  by_cases h : p ≤ ns.length
  · rw [Nat.min_eq_left h, List.take_of_length_le (by rw [List.length_drop]; exact Nat.le_refl _)]
  · rw [Nat.min_eq_right (by omega), List.drop_length, List.drop_eq_nil_of_le (by omega), List.take_nil]
theorem cutD_nn (ns : List PyData) (p q : Nat) : cutD ns (some (p : Int)) (some (q : Int)) = (ns.drop p).take (q - p) := by
  unfold cutD
  rw [HT.sIx_nat, HT.sIx_nat]
  by_cases h : p ≤ ns.length
  · rw [Nat.min_eq_left h]
    by_cases h2 : q ≤ ns.length
    · rw [Nat.min_eq_left h2]
    · rw [Nat.min_eq_right (by omega), List.take_of_length_le (l := (ns.drop p)) (by rw [List.length_drop]; omega), List.take_of_length_le (by rw [List.length_drop]; omega)]
  · rw [List.drop_eq_nil_of_le (i := p) (by omega), List.drop_eq_nil_of_le (i := min p ns.length) (by omega), List.take_nil, List.take_nil]
/-- the labels behind a step, by their places -/
theorem next_get {rs : List Rule} {n : Nat} {row : List Lab} {s : WStep} (h : s.1 ≤ row.length) (i : Nat) : (nextRow rs n row s)[i]? = if i < s.1 then row[i]? else if i < s.1 + goL rs s then some (some n, i - s.1) else row[i - goL rs s + srL rs s]? := by
  have tl : (row.take s.1).length = s.1 := by rw [List.length_take]; omega
  have gl : (givenL rs n s).length = goL rs s := by unfold givenL; rw [List.length_map, List.length_range]
  unfold nextRow
  by_cases h1 : i < s.1
  · rw [if_pos h1, List.append_assoc, List.getElem?_append_left (by rw [tl]; exact h1), List.getElem?_take, if_pos h1]
  · rw [if_neg h1, List.append_assoc, List.getElem?_append_right (by rw [tl]; omega), tl]
    by_cases h2 : i < s.1 + goL rs s
    · rw [if_pos h2, List.getElem?_append_left (by rw [gl]; omega)]
      unfold givenL
      rw [List.getElem?_map, List.getElem?_range (by omega)]
      rfl
    · rw [if_neg h2, List.getElem?_append_right (by rw [gl]; omega), gl, List.getElem?_drop]
      congr 1
      omega
theorem row0_get {rs : List Rule} {z : Str} {ss : List WStep} {i : Nat} {l : Lab} (h : (rowAt rs z ss 0)[i]? = some l) : l = (none, i) := by
  unfold rowAt at h
  rw [List.getElem?_map] at h
  cases q : (List.range z.length)[i]? with
  | none => rw [q] at h; cases h
  | some j =>
    rw [q] at h
    have := (List.getElem?_eq_some_iff.mp q).2
    rw [List.getElem_range] at this
    rw [← this] at h
    exact (Option.some.inj h).symm
/-- where a letter at this place goes, by the steps that follow -/
def goesL (rs : List Rule) : Nat → List WStep → Nat → Lab
  | _, [], i => (none, i)
  | n, s :: r, i => if i < s.1 then goesL rs (n + 1) r i else if i < s.1 + srL rs s then (some n, i - s.1) else goesL rs (n + 1) r (i - srL rs s + goL rs s)
theorem drop_at {α : Type} {xs : List α} {n : Nat} {x : α} (h : xs[n]? = some x) : xs.drop n = x :: xs.drop (n + 1) := by
  obtain ⟨h1, h2⟩ := List.getElem?_eq_some_iff.mp h
  rw [List.drop_eq_getElem_cons h1, h2]
end WB
/-! Labels: no two alike in a row; what is taken comes back never. -/
namespace WB
open PySem PySem.Spec PyProof.Rows L2 Evl
theorem labD_eqv (a b : Lab) : PyData.eqv (labD a) (labD b) = decide (a = b) := by
  obtain ⟨a1, a2⟩ := a
  obtain ⟨b1, b2⟩ := b
  cases a1 with
  | none =>
    cases b1 with
    | none =>
      have e : PyData.eqv (labD (none, a2)) (labD (none, b2)) = (true && (((a2 : Int) == (b2 : Int)) && true)) := by simp only [labD, PyData.eqv, PyData.eqvAll]
      rw [e]
      by_cases h : a2 = b2
      · rw [h]; simp
      · rw [decide_eq_false (fun z => h (by cases z; rfl))]
        simp
        omega
    | some k =>
      have e : PyData.eqv (labD (none, a2)) (labD (some k, b2)) = (false && (((a2 : Int) == (b2 : Int)) && true)) := by simp only [labD, PyData.eqv, PyData.eqvAll]
      rw [e]
      simp
  | some n =>
    cases b1 with
    | none =>
      have e : PyData.eqv (labD (some n, a2)) (labD (none, b2)) = (false && (((a2 : Int) == (b2 : Int)) && true)) := by simp only [labD, PyData.eqv, PyData.eqvAll]
      rw [e]
      simp
    | some k =>
      have e : PyData.eqv (labD (some n, a2)) (labD (some k, b2)) = (((n : Int) == (k : Int)) && (((a2 : Int) == (b2 : Int)) && true)) := by simp only [labD, PyData.eqv, PyData.eqvAll]
      rw [e]
      by_cases h : n = k
      · by_cases h2 : a2 = b2
        · rw [h, h2]; simp
        · rw [decide_eq_false (fun z => h2 (by cases z; rfl))]
          simp
          omega
      · rw [decide_eq_false (fun z => h (by cases z; rfl))]
        simp
        intro z
        omega
theorem labD_lay (l : Lab) : (labD l).canLay0 = true := by
  obtain ⟨a, b⟩ := l
  cases a <;> simp [labD, PyData.canLay0, PyData.canLayAll0]
theorem labD_depth (l : Lab) : (labD l).depth ≤ 1 := by
  obtain ⟨a, b⟩ := l
  cases a <;> simp [labD, PyData.depth, PyData.depthAll]
theorem labD_plain (l : Lab) : plainD (labD l) = true := by
  obtain ⟨a, b⟩ := l
  cases a <;> rfl
theorem labs_lay : ∀ ls : List Lab, PyData.canLayAll0 (ls.map labD) = true
  | [] => by simp [PyData.canLayAll0]
  | l :: ls => by simp [PyData.canLayAll0, labD_lay l, labs_lay ls]
theorem labs_depth : ∀ ls : List Lab, PyData.depthAll (ls.map labD) ≤ 1
  | [] => by simp [PyData.depthAll]
  | l :: ls => by
    have h1 := labs_depth ls
    have h2 := labD_depth l
    simp only [List.map_cons, PyData.depthAll]
    omega
theorem labs_plain : ∀ ls : List Lab, plainDs (ls.map labD) = true
  | [] => rfl
  | l :: ls => by
    rw [List.map_cons]
    unfold plainDs
    rw [labD_plain, labs_plain ls]
    rfl
theorem labD_shaped (l : Lab) : SeqAt.shaped (labD l) = true := by
  show ((labD l).canLay0 && decide ((labD l).depth ≤ 64)) = true
  rw [Bool.and_eq_true]
  exact ⟨labD_lay l, decide_eq_true (by have := labD_depth l; omega)⟩
theorem labs_shaped (ls : List Lab) : SeqAt.shaped (.list (ls.map labD)) = true := by
  have h1 := labs_depth ls
  have h2 : PyData.depth (.list (ls.map labD)) ≤ 64 := by
    simp only [PyData.depth]
    omega
  show (PyData.canLay0 (.list (ls.map labD)) && decide (PyData.depth (.list (ls.map labD)) ≤ 64)) = true
  rw [Bool.and_eq_true]
  exact ⟨by simp only [PyData.canLay0]; exact labs_lay ls, decide_eq_true h2⟩
theorem nodup_map {α β : Type} {f : α → β} (hf : ∀ a b, f a = f b → a = b) : ∀ {xs : List α}, xs.Nodup → (xs.map f).Nodup
  | [], _ => List.nodup_nil
  | x :: xs, h => by
    obtain ⟨h1, h2⟩ := List.nodup_cons.mp h
    rw [List.map_cons]
    refine List.nodup_cons.mpr ⟨fun z => ?_, nodup_map hf h2⟩
    obtain ⟨y, hy, e⟩ := List.mem_map.mp z
    rw [hf _ _ e] at hy
    exact h1 hy
/-- a row's three parts -/
theorem row_cut (row : List Lab) (p c : Nat) : row = row.take p ++ ((row.drop p).take c ++ row.drop (p + c)) := by
  have e := List.take_append_drop c (row.drop p)
  rw [List.drop_drop] at e
  rw [e, List.take_append_drop]
structure RowOk (n : Nat) (row : List Lab) : Prop where
  nd : row.Nodup
  lt : ∀ l ∈ row, ∀ k, l.1 = some k → k < n
theorem given_mem {rs : List Rule} {n : Nat} {s : WStep} {l : Lab} (h : l ∈ givenL rs n s) : l.1 = some n := by
  unfold givenL at h
  obtain ⟨j, _, rfl⟩ := List.mem_map.mp h
  rfl
theorem RowOk.next {n : Nat} {row : List Lab} (h : RowOk n row) (rs : List Rule) (s : WStep) : RowOk (n + 1) (nextRow rs n row s) ∧ (∀ l ∈ (row.drop s.1).take (srL rs s), l ∉ nextRow rs n row s) ∧ (∀ l ∈ nextRow rs n row s, l ∈ row ∨ l.1 = some n) := by
  have cut := row_cut row s.1 (srL rs s)
  have nd := h.nd
  rw [cut] at nd
  obtain ⟨nA, nTB, dA⟩ := List.nodup_append.mp nd
  obtain ⟨nT, nB, dT⟩ := List.nodup_append.mp nTB
  have inA : ∀ l ∈ row.take s.1, l ∈ row := fun l m => List.mem_of_mem_take m
  have inB : ∀ l ∈ row.drop (s.1 + srL rs s), l ∈ row := fun l m => List.mem_of_mem_drop m
  have inT : ∀ l ∈ (row.drop s.1).take (srL rs s), l ∈ row := fun l m => List.mem_of_mem_drop (List.mem_of_mem_take m)
  have nG : (givenL rs n s).Nodup := by
    unfold givenL
    refine nodup_map (fun a b e => ?_) List.nodup_range
    exact (Prod.mk.inj e).2
  have fr : ∀ l ∈ row, l.1 ≠ some n := fun l m z => Nat.lt_irrefl _ (h.lt l m n z)
  have mem : ∀ l, l ∈ nextRow rs n row s → l ∈ row.take s.1 ∨ l ∈ givenL rs n s ∨ l ∈ row.drop (s.1 + srL rs s) := fun l m => by
    unfold nextRow at m
    rcases List.mem_append.mp m with q | q
    · rcases List.mem_append.mp q with q | q
      · exact .inl q
      · exact .inr (.inl q)
    · exact .inr (.inr q)
  refine ⟨⟨?_, fun l m k e => ?_⟩, fun l m z => ?_, fun l m => ?_⟩
  · unfold nextRow
    rw [List.append_assoc]
    refine List.nodup_append.mpr ⟨nA, List.nodup_append.mpr ⟨nG, nB, fun a ha b hb z => ?_⟩, fun a ha b hb z => ?_⟩
    · rw [z] at ha
      exact fr b (inB b hb) (given_mem ha)
    · rcases List.mem_append.mp hb with q | q
      · rw [← z] at q
        exact fr a (inA a ha) (given_mem q)
      · exact dA a ha b (List.mem_append.mpr (.inr q)) z
  · rcases mem l m with q | q | q
    · exact Nat.lt_succ_of_lt (h.lt l (inA l q) k e)
    · have z := given_mem q
      rw [z] at e
      cases e
      exact Nat.lt_succ_self _
    · exact Nat.lt_succ_of_lt (h.lt l (inB l q) k e)
  · rcases mem l z with q | q | q
    · exact dA l q l (List.mem_append.mpr (.inl m)) rfl
    · exact fr l (inT l m) (given_mem q)
    · exact dT l m l q rfl
  · rcases mem l m with q | q | q
    · exact .inl (inA l q)
    · exact .inr (given_mem q)
    · exact .inl (inB l q)
theorem row_ok (m : WayM) : ∀ n, n ≤ m.ss.length → RowOk n (rowAt m.rs m.z m.ss n)
  | 0, _ => ⟨by
    unfold rowAt
    exact nodup_map (fun a b e => (Prod.mk.inj e).2) List.nodup_range, fun l h k e => by
    unfold rowAt at h
    obtain ⟨j, _, rfl⟩ := List.mem_map.mp h
    cases e⟩
  | n + 1, h => by
    rw [row_s (List.getElem?_eq_getElem (show n < m.ss.length by omega))]
    exact ((row_ok m n (by omega)).next m.rs _).1
/-- what step i takes comes back never -/
theorem taken_gone (m : WayM) {i : Nat} {s : WStep} (hs : m.ss[i]? = some s) {l : Lab} (hl : l ∈ takenL m.rs m.z m.ss i s) : ∀ j, i < j → j ≤ m.ss.length → l ∉ rowAt m.rs m.z m.ss j := by
  have il : i < m.ss.length := (List.getElem?_eq_some_iff.mp hs).1
  have lk : ∀ k, l.1 = some k → k < i := fun k e => (row_ok m i (by omega)).lt l (List.mem_of_mem_drop (List.mem_of_mem_take hl)) k e
  intro j
  induction j with
  | zero => intro h; omega
  | succ j ih =>
    intro h1 h2 hm
    have hj : m.ss[j]? = some m.ss[j] := List.getElem?_eq_getElem (show j < m.ss.length by omega)
    rw [row_s hj] at hm
    by_cases e : i = j
    · subst e
      rw [hs] at hj
      cases hj
      exact ((row_ok m i (by omega)).next m.rs _).2.1 l hl hm
    · rcases ((row_ok m j (by omega)).next m.rs m.ss[j]).2.2 l hm with q | q
      · exact ih (by omega) (by omega) q
      · have := lk j q
        omega
/-- places in a row are unique -/
theorem nodup_at {α : Type} {xs : List α} (h : xs.Nodup) {i j : Nat} {x : α} (hi : xs[i]? = some x) (hj : xs[j]? = some x) : i = j := by
  obtain ⟨h1, h2⟩ := List.getElem?_eq_some_iff.mp hi
  obtain ⟨h3, h4⟩ := List.getElem?_eq_some_iff.mp hj
  exact (List.getElem_inj (h₀ := h1) (h₁ := h3) h).mp (h2.trans h4.symm)
theorem taken_get {rs : List Rule} {z : Str} {ss : List WStep} {n : Nat} {s : WStep} (j : Nat) (h : j < srL rs s) : (takenL rs z ss n s)[j]? = (rowAt rs z ss n)[s.1 + j]? := by
  unfold takenL
  rw [List.getElem?_take, if_pos h, List.getElem?_drop]
theorem taken_at {rs : List Rule} {z : Str} {ss : List WStep} {n : Nat} {s : WStep} {l : Lab} (h : l ∈ takenL rs z ss n s) : ∃ j, j < srL rs s ∧ (rowAt rs z ss n)[s.1 + j]? = some l := by
  obtain ⟨j, hj, e⟩ := List.mem_iff_getElem.mp h
  have jl : j < srL rs s := by
    unfold takenL at hj
    rw [List.length_take] at hj
    omega
  exact ⟨j, jl, by rw [← taken_get j jl, List.getElem?_eq_getElem hj, e]⟩
end WB
/-! Words put together. -/
namespace WB
open PySem PySem.Spec PyProof.Rows L2 Evl
theorem isW_iff (z : Str) : isW z = true ↔ ∀ c ∈ z.cps.toList, 97 ≤ c ∧ c ≤ 122 := by
  unfold isW
  rw [Array.all_eq_true]
  simp only [Bool.and_eq_true, decide_eq_true_eq]
  constructor
  · intro h c hc
    obtain ⟨i, hi, rfl⟩ := List.mem_iff_getElem.mp hc
    exact h i hi
  · intro h i hi
    exact h _ (List.getElem_mem (show i < z.cps.toList.length from hi))
theorem isW_app {a b : Str} (ha : isW a = true) (hb : isW b = true) : isW (a ++ b) = true := by
  rw [isW_iff] at ha hb ⊢
  intro c hc
  have e : (a ++ b).cps.toList = a.cps.toList ++ b.cps.toList := Array.toList_append
  rw [e] at hc
  rcases List.mem_append.mp hc with q | q
  · exact ha c q
  · exact hb c q
theorem isW_cut {a : Str} (ha : isW a = true) (lo hi : Option Int) : isW (cutS a lo hi) = true := by
  rw [isW_iff] at ha ⊢
  intro c hc
  rw [cutS_toList] at hc
  exact ha c (List.mem_of_mem_drop (List.mem_of_mem_take hc))
theorem str_join_w : ∀ {ys : List Str}, (∀ y ∈ ys, isW y = true) → isW (Str.join "" ys) = true
  | [], _ => isW_nil
  | [y], h => h y (List.mem_singleton.mpr rfl)
  | x :: y :: r, h => by
    show isW (x ++ "" ++ Str.join "" (y :: r)) = true
    exact isW_app (isW_app (h x (List.mem_cons_self ..)) isW_nil) (str_join_w fun z hz => h z (List.mem_cons_of_mem _ hz))
theorem join_w {ys : List Str} (h : ∀ y ∈ ys, isW y = true) : isW (Txt.join "" ys) = true := by
  have e : Txt.join "" ys = Str.join "" ys := StrLaws.glued_eq_join _ _
  rw [e]
  exact str_join_w h
theorem str_join_len : ∀ ys : List Str, (Str.join "" ys).length = (ys.map (·.length)).sum
  | [] => rfl
  | [y] => by simp [Str.join]
  | x :: y :: r => by
    show (x ++ "" ++ Str.join "" (y :: r)).length = _
    rw [app_len, app_len, str_join_len (y :: r)]
    simp [List.map_cons, List.sum_cons]
    rfl
theorem join_len (ys : List Str) : (Txt.join "" ys).length = (ys.map (·.length)).sum := by
  have e : Txt.join "" ys = Str.join "" ys := StrLaws.glued_eq_join _ _
  rw [e]
  exact str_join_len ys
theorem sum_ones {ys : List Str} (h : ∀ y ∈ ys, y.length = 1) : (ys.map (·.length)).sum = ys.length := by
  induction ys with
  | nil => rfl
  | cons y r ih =>
    rw [List.map_cons, List.sum_cons, h y (List.mem_cons_self ..), ih fun z hz => h z (List.mem_cons_of_mem _ hz), List.length_cons]
    omega
/-- one letter -/
def IsL (y : Str) : Prop := isW y = true ∧ y.length = 1
theorem lets_l {z : Str} (hz : isW z = true) {y : Str} (h : ∃ c ∈ z.cps.toList, y = ⟨#[c]⟩) : IsL y := by
  obtain ⟨c, hc, rfl⟩ := h
  refine ⟨?_, rfl⟩
  rw [isW_iff] at hz ⊢
  intro d hd
  rw [List.mem_singleton.mp (show d ∈ [c] from hd)]
  exact hz c hc
theorem isW_ok {z : Str} (h : isW z = true) : (PyData.str z).canLay0 = true := by
  show PyData.strOk z = true
  unfold PyData.strOk
  rw [Array.all_eq_true]
  intro i hi
  have := (isW_iff z).mp h z.cps[i] (Array.getElem_mem_toList hi)
  exact decide_eq_true (by omega)
theorem rules_plain : ∀ rs : List Rule, plainDs (rs.map ruleD) = true
  | [] => rfl
  | r :: rs => by
    rw [List.map_cons]
    unfold plainDs
    rw [rules_plain rs]
    rfl
theorem rules_lay : ∀ rs : List Rule, (∀ q ∈ rs, isW q.1 = true ∧ isW q.2 = true) → PyData.canLayAll0 (rs.map ruleD) = true
  | [], _ => by simp [PyData.canLayAll0]
  | r :: rs, h => by
    have h1 := isW_ok (h r (List.mem_cons_self ..)).1
    have h2 := isW_ok (h r (List.mem_cons_self ..)).2
    have e : (ruleD r).canLay0 = true := by
      unfold ruleD
      simp only [PyData.canLay0, PyData.canLayAll0] at h1 h2 ⊢
      rw [h1, h2]
      rfl
    simp [PyData.canLayAll0, e, rules_lay rs fun q hq => h q (List.mem_cons_of_mem _ hq)]
theorem rules_depth : ∀ rs : List Rule, PyData.depthAll (rs.map ruleD) ≤ 1
  | [] => by simp [PyData.depthAll]
  | r :: rs => by
    have h1 := rules_depth rs
    have h2 : (ruleD r).depth = 1 := by simp [ruleD, PyData.depth, PyData.depthAll]
    simp only [List.map_cons, PyData.depthAll]
    omega
theorem rules_shaped (rs : List Rule) (h : ∀ q ∈ rs, isW q.1 = true ∧ isW q.2 = true) : SeqAt.shaped (.list (rs.map ruleD)) = true := by
  have h1 := rules_depth rs
  have h2 : PyData.depth (.list (rs.map ruleD)) ≤ 64 := by
    simp only [PyData.depth]
    omega
  show (PyData.canLay0 (.list (rs.map ruleD)) && decide (PyData.depth (.list (rs.map ruleD)) ≤ 64)) = true
  rw [Bool.and_eq_true]
  exact ⟨by simp only [PyData.canLay0]; exact rules_lay rs h, decide_eq_true h2⟩
theorem eqv_nil {α : Type} (f : α → PyData) (xs : List α) : PyData.eqv (.list (xs.map f)) (.list []) = decide (xs = []) := by
  cases xs with
  | nil => simp [PyData.eqv, PyData.eqvAll]
  | cons x r => simp [PyData.eqv, PyData.eqvAll]
end WB
namespace K05
open PySem PySem.Spec PyProof.Rows L2 Evl WB
/-! ### the text: each def by its place -/
def top (i : Nat) : Stmt := PySem.Challenge.pw_waysback_k05_whole_wires.main.body.getD i (.Pass ⟨0, 0, 0, 0⟩)
abbrev s_BadBook___init__ : Stmt := inClass (top 2) 0
abbrev s_BadIndex___init__ : Stmt := inClass (top 3) 0
abbrev s_BadNumber___init__ : Stmt := inClass (top 4) 0
abbrev s_BadRules___init__ : Stmt := inClass (top 5) 0
abbrev s_BadSteps___init__ : Stmt := inClass (top 6) 0
abbrev s_BadWay___init__ : Stmt := inClass (top 7) 0
abbrev s_BadWord___init__ : Stmt := inClass (top 8) 0
abbrev s_is_word : Stmt := top 11
abbrev s_is_integer : Stmt := top 12
abbrev s_is_number : Stmt := top 13
abbrev s_is_row : Stmt := top 14
abbrev s_is_step : Stmt := top 15
abbrev s_need_word : Stmt := top 16
abbrev s_sides : Stmt := top 18
abbrev s_can_do : Stmt := top 19
abbrev s_word_behind : Stmt := top 20
abbrev s_is_rule : Stmt := top 22
abbrev s_Book___init__ : Stmt := inClass (top 23) 0
abbrev s_Book___eq__ : Stmt := inClass (top 23) 1
abbrev s_Book_rules : Stmt := inClass (top 23) 2
abbrev s_need_book : Stmt := top 24
abbrev s_Way___init__ : Stmt := inClass (top 26) 0
abbrev s_Way___eq__ : Stmt := inClass (top 26) 1
abbrev s_Way_book : Stmt := inClass (top 26) 2
abbrev s_Way_word : Stmt := inClass (top 26) 3
abbrev s_Way_steps : Stmt := inClass (top 26) 4
abbrev s_Way_end : Stmt := inClass (top 26) 5
abbrev s_Way_words : Stmt := inClass (top 26) 6
abbrev s_need_way : Stmt := top 27
abbrev s_need_index : Stmt := top 28
abbrev s_wires_and_end : Stmt := top 30
abbrev s_wires : Stmt := top 31
abbrev s_wire_rows : Stmt := top 32
abbrev s_need_letter : Stmt := top 33
abbrev s_place_across : Stmt := top 34
abbrev s_comes_from : Stmt := top 35
abbrev s_goes_to : Stmt := top 36
abbrev s__law_a_book : Stmt := top 38
abbrev s__law_a_word : Stmt := top 39
abbrev s__law_a_case : Stmt := top 40
abbrev s__law_a_great : Stmt := top 41
abbrev s__law_w_source : Stmt := top 42
abbrev s__law_w_goal : Stmt := top 43
abbrev s__law_w_can : Stmt := top 44
abbrev s__law_w_done : Stmt := top 45
abbrev s__law_w_end : Stmt := top 46
abbrev s__law_w_all : Stmt := top 47
abbrev s__law_w_way : Stmt := top 48
abbrev s__law_w_is : Stmt := top 49
abbrev s__law_start : Stmt := top 50
abbrev s__law_draw : Stmt := top 51
abbrev s__law_pick : Stmt := top 52
abbrev s__law_mixed : Stmt := top 53
abbrev s__law_same : Stmt := top 54
abbrev s__law_spoilt : Stmt := top 55
abbrev s__law_is_once : Stmt := top 56
abbrev s__law_apart : Stmt := top 57
abbrev s__law_labels : Stmt := top 58
abbrev s__law_number : Stmt := top 59
abbrev s__law_taken : Stmt := top 60
abbrev s__law_goal_of : Stmt := top 61
abbrev s__law_found : Stmt := top 62
abbrev s__law_refused_right : Stmt := top 63
abbrev s__law_told_or : Stmt := top 64
abbrev s__law_wires_right : Stmt := top 65
abbrev s_law : Stmt := top 66
/-! ### what the head tells -/
def d_BadBook___init__ : He.DefD := ⟨("BadBook", some "__init__"), "__init__", "BadBook.__init__", defArgs s_BadBook___init__, defBody s_BadBook___init__, defScope s_BadBook___init__, [], []⟩
def d_BadIndex___init__ : He.DefD := ⟨("BadIndex", some "__init__"), "__init__", "BadIndex.__init__", defArgs s_BadIndex___init__, defBody s_BadIndex___init__, defScope s_BadIndex___init__, [], []⟩
def d_BadNumber___init__ : He.DefD := ⟨("BadNumber", some "__init__"), "__init__", "BadNumber.__init__", defArgs s_BadNumber___init__, defBody s_BadNumber___init__, defScope s_BadNumber___init__, [], []⟩
def d_BadRules___init__ : He.DefD := ⟨("BadRules", some "__init__"), "__init__", "BadRules.__init__", defArgs s_BadRules___init__, defBody s_BadRules___init__, defScope s_BadRules___init__, [], []⟩
def d_BadSteps___init__ : He.DefD := ⟨("BadSteps", some "__init__"), "__init__", "BadSteps.__init__", defArgs s_BadSteps___init__, defBody s_BadSteps___init__, defScope s_BadSteps___init__, [], []⟩
def d_BadWay___init__ : He.DefD := ⟨("BadWay", some "__init__"), "__init__", "BadWay.__init__", defArgs s_BadWay___init__, defBody s_BadWay___init__, defScope s_BadWay___init__, [], []⟩
def d_BadWord___init__ : He.DefD := ⟨("BadWord", some "__init__"), "__init__", "BadWord.__init__", defArgs s_BadWord___init__, defBody s_BadWord___init__, defScope s_BadWord___init__, [], []⟩
def d_is_word : He.DefD := ⟨("is_word", none), "is_word", "is_word", defArgs s_is_word, defBody s_is_word, defScope s_is_word, [], []⟩
def d_is_integer : He.DefD := ⟨("is_integer", none), "is_integer", "is_integer", defArgs s_is_integer, defBody s_is_integer, defScope s_is_integer, [], []⟩
def d_is_number : He.DefD := ⟨("is_number", none), "is_number", "is_number", defArgs s_is_number, defBody s_is_number, defScope s_is_number, [], []⟩
def d_is_row : He.DefD := ⟨("is_row", none), "is_row", "is_row", defArgs s_is_row, defBody s_is_row, defScope s_is_row, [], []⟩
def d_is_step : He.DefD := ⟨("is_step", none), "is_step", "is_step", defArgs s_is_step, defBody s_is_step, defScope s_is_step, [], []⟩
def d_need_word : He.DefD := ⟨("need_word", none), "need_word", "need_word", defArgs s_need_word, defBody s_need_word, defScope s_need_word, [], []⟩
def d_sides : He.DefD := ⟨("sides", none), "sides", "sides", defArgs s_sides, defBody s_sides, defScope s_sides, [], []⟩
def d_can_do : He.DefD := ⟨("can_do", none), "can_do", "can_do", defArgs s_can_do, defBody s_can_do, defScope s_can_do, [], []⟩
def d_word_behind : He.DefD := ⟨("word_behind", none), "word_behind", "word_behind", defArgs s_word_behind, defBody s_word_behind, defScope s_word_behind, [], []⟩
def d_is_rule : He.DefD := ⟨("is_rule", none), "is_rule", "is_rule", defArgs s_is_rule, defBody s_is_rule, defScope s_is_rule, [], []⟩
def d_Book___init__ : He.DefD := ⟨("Book", some "__init__"), "__init__", "Book.__init__", defArgs s_Book___init__, defBody s_Book___init__, defScope s_Book___init__, [], []⟩
def d_Book___eq__ : He.DefD := ⟨("Book", some "__eq__"), "__eq__", "Book.__eq__", defArgs s_Book___eq__, defBody s_Book___eq__, defScope s_Book___eq__, [], []⟩
def d_Book_rules : He.DefD := ⟨("Book", some "rules"), "rules", "Book.rules", defArgs s_Book_rules, defBody s_Book_rules, defScope s_Book_rules, [], []⟩
def d_need_book : He.DefD := ⟨("need_book", none), "need_book", "need_book", defArgs s_need_book, defBody s_need_book, defScope s_need_book, [], []⟩
def d_Way___init__ : He.DefD := ⟨("Way", some "__init__"), "__init__", "Way.__init__", defArgs s_Way___init__, defBody s_Way___init__, defScope s_Way___init__, [], []⟩
def d_Way___eq__ : He.DefD := ⟨("Way", some "__eq__"), "__eq__", "Way.__eq__", defArgs s_Way___eq__, defBody s_Way___eq__, defScope s_Way___eq__, [], []⟩
def d_Way_book : He.DefD := ⟨("Way", some "book"), "book", "Way.book", defArgs s_Way_book, defBody s_Way_book, defScope s_Way_book, [], []⟩
def d_Way_word : He.DefD := ⟨("Way", some "word"), "word", "Way.word", defArgs s_Way_word, defBody s_Way_word, defScope s_Way_word, [], []⟩
def d_Way_steps : He.DefD := ⟨("Way", some "steps"), "steps", "Way.steps", defArgs s_Way_steps, defBody s_Way_steps, defScope s_Way_steps, [], []⟩
def d_Way_end : He.DefD := ⟨("Way", some "end"), "end", "Way.end", defArgs s_Way_end, defBody s_Way_end, defScope s_Way_end, [], []⟩
def d_Way_words : He.DefD := ⟨("Way", some "words"), "words", "Way.words", defArgs s_Way_words, defBody s_Way_words, defScope s_Way_words, [], []⟩
def d_need_way : He.DefD := ⟨("need_way", none), "need_way", "need_way", defArgs s_need_way, defBody s_need_way, defScope s_need_way, [], []⟩
def d_need_index : He.DefD := ⟨("need_index", none), "need_index", "need_index", defArgs s_need_index, defBody s_need_index, defScope s_need_index, [], []⟩
def d_wires_and_end : He.DefD := ⟨("wires_and_end", none), "wires_and_end", "wires_and_end", defArgs s_wires_and_end, defBody s_wires_and_end, defScope s_wires_and_end, [], []⟩
def d_wires : He.DefD := ⟨("wires", none), "wires", "wires", defArgs s_wires, defBody s_wires, defScope s_wires, [], []⟩
def d_wire_rows : He.DefD := ⟨("wire_rows", none), "wire_rows", "wire_rows", defArgs s_wire_rows, defBody s_wire_rows, defScope s_wire_rows, [], []⟩
def d_need_letter : He.DefD := ⟨("need_letter", none), "need_letter", "need_letter", defArgs s_need_letter, defBody s_need_letter, defScope s_need_letter, [], []⟩
def d_place_across : He.DefD := ⟨("place_across", none), "place_across", "place_across", defArgs s_place_across, defBody s_place_across, defScope s_place_across, [], []⟩
def d_comes_from : He.DefD := ⟨("comes_from", none), "comes_from", "comes_from", defArgs s_comes_from, defBody s_comes_from, defScope s_comes_from, [], []⟩
def d_goes_to : He.DefD := ⟨("goes_to", none), "goes_to", "goes_to", defArgs s_goes_to, defBody s_goes_to, defScope s_goes_to, [], []⟩
def d__law_a_book : He.DefD := ⟨("_law_a_book", none), "_law_a_book", "_law_a_book", defArgs s__law_a_book, defBody s__law_a_book, defScope s__law_a_book, [], []⟩
def d__law_a_word : He.DefD := ⟨("_law_a_word", none), "_law_a_word", "_law_a_word", defArgs s__law_a_word, defBody s__law_a_word, defScope s__law_a_word, [], []⟩
def d__law_a_case : He.DefD := ⟨("_law_a_case", none), "_law_a_case", "_law_a_case", defArgs s__law_a_case, defBody s__law_a_case, defScope s__law_a_case, [], []⟩
def d__law_a_great : He.DefD := ⟨("_law_a_great", none), "_law_a_great", "_law_a_great", defArgs s__law_a_great, defBody s__law_a_great, defScope s__law_a_great, [], []⟩
def d__law_w_source : He.DefD := ⟨("_law_w_source", none), "_law_w_source", "_law_w_source", defArgs s__law_w_source, defBody s__law_w_source, defScope s__law_w_source, [], []⟩
def d__law_w_goal : He.DefD := ⟨("_law_w_goal", none), "_law_w_goal", "_law_w_goal", defArgs s__law_w_goal, defBody s__law_w_goal, defScope s__law_w_goal, [], []⟩
def d__law_w_can : He.DefD := ⟨("_law_w_can", none), "_law_w_can", "_law_w_can", defArgs s__law_w_can, defBody s__law_w_can, defScope s__law_w_can, [], []⟩
def d__law_w_done : He.DefD := ⟨("_law_w_done", none), "_law_w_done", "_law_w_done", defArgs s__law_w_done, defBody s__law_w_done, defScope s__law_w_done, [], []⟩
def d__law_w_end : He.DefD := ⟨("_law_w_end", none), "_law_w_end", "_law_w_end", defArgs s__law_w_end, defBody s__law_w_end, defScope s__law_w_end, [], []⟩
def d__law_w_all : He.DefD := ⟨("_law_w_all", none), "_law_w_all", "_law_w_all", defArgs s__law_w_all, defBody s__law_w_all, defScope s__law_w_all, [], []⟩
def d__law_w_way : He.DefD := ⟨("_law_w_way", none), "_law_w_way", "_law_w_way", defArgs s__law_w_way, defBody s__law_w_way, defScope s__law_w_way, [], []⟩
def d__law_w_is : He.DefD := ⟨("_law_w_is", none), "_law_w_is", "_law_w_is", defArgs s__law_w_is, defBody s__law_w_is, defScope s__law_w_is, [], []⟩
def d__law_start : He.DefD := ⟨("_law_start", none), "_law_start", "_law_start", defArgs s__law_start, defBody s__law_start, defScope s__law_start, [], []⟩
def d__law_draw : He.DefD := ⟨("_law_draw", none), "_law_draw", "_law_draw", defArgs s__law_draw, defBody s__law_draw, defScope s__law_draw, [], []⟩
def d__law_pick : He.DefD := ⟨("_law_pick", none), "_law_pick", "_law_pick", defArgs s__law_pick, defBody s__law_pick, defScope s__law_pick, [], []⟩
def d__law_mixed : He.DefD := ⟨("_law_mixed", none), "_law_mixed", "_law_mixed", defArgs s__law_mixed, defBody s__law_mixed, defScope s__law_mixed, [], []⟩
def d__law_same : He.DefD := ⟨("_law_same", none), "_law_same", "_law_same", defArgs s__law_same, defBody s__law_same, defScope s__law_same, [], []⟩
def d__law_spoilt : He.DefD := ⟨("_law_spoilt", none), "_law_spoilt", "_law_spoilt", defArgs s__law_spoilt, defBody s__law_spoilt, defScope s__law_spoilt, [], []⟩
def d__law_is_once : He.DefD := ⟨("_law_is_once", none), "_law_is_once", "_law_is_once", defArgs s__law_is_once, defBody s__law_is_once, defScope s__law_is_once, [], []⟩
def d__law_apart : He.DefD := ⟨("_law_apart", none), "_law_apart", "_law_apart", defArgs s__law_apart, defBody s__law_apart, defScope s__law_apart, [], []⟩
def d__law_labels : He.DefD := ⟨("_law_labels", none), "_law_labels", "_law_labels", defArgs s__law_labels, defBody s__law_labels, defScope s__law_labels, [], []⟩
def d__law_number : He.DefD := ⟨("_law_number", none), "_law_number", "_law_number", defArgs s__law_number, defBody s__law_number, defScope s__law_number, [], []⟩
def d__law_taken : He.DefD := ⟨("_law_taken", none), "_law_taken", "_law_taken", defArgs s__law_taken, defBody s__law_taken, defScope s__law_taken, [], []⟩
def d__law_goal_of : He.DefD := ⟨("_law_goal_of", none), "_law_goal_of", "_law_goal_of", defArgs s__law_goal_of, defBody s__law_goal_of, defScope s__law_goal_of, [], []⟩
def d__law_found : He.DefD := ⟨("_law_found", none), "_law_found", "_law_found", defArgs s__law_found, defBody s__law_found, defScope s__law_found, [], []⟩
def d__law_refused_right : He.DefD := ⟨("_law_refused_right", none), "_law_refused_right", "_law_refused_right", defArgs s__law_refused_right, defBody s__law_refused_right, defScope s__law_refused_right, [], []⟩
def d__law_told_or : He.DefD := ⟨("_law_told_or", none), "_law_told_or", "_law_told_or", defArgs s__law_told_or, defBody s__law_told_or, defScope s__law_told_or, [], []⟩
def d__law_wires_right : He.DefD := ⟨("_law_wires_right", none), "_law_wires_right", "_law_wires_right", defArgs s__law_wires_right, defBody s__law_wires_right, defScope s__law_wires_right, [], []⟩
def d_law : He.DefD := ⟨("law", none), "law", "law", defArgs s_law, defBody s_law, defScope s_law, [], []⟩
def fn : List He.DefD := [d_BadBook___init__, d_BadIndex___init__, d_BadNumber___init__, d_BadRules___init__, d_BadSteps___init__, d_BadWay___init__, d_BadWord___init__, d_is_word, d_is_integer, d_is_number, d_is_row, d_is_step, d_need_word, d_sides, d_can_do, d_word_behind, d_is_rule, d_Book___init__, d_Book___eq__, d_Book_rules, d_need_book, d_Way___init__, d_Way___eq__, d_Way_book, d_Way_word, d_Way_steps, d_Way_end, d_Way_words, d_need_way, d_need_index, d_wires_and_end, d_wires, d_wire_rows, d_need_letter, d_place_across, d_comes_from, d_goes_to, d__law_a_book, d__law_a_word, d__law_a_case, d__law_a_great, d__law_w_source, d__law_w_goal, d__law_w_can, d__law_w_done, d__law_w_end, d__law_w_all, d__law_w_way, d__law_w_is, d__law_start, d__law_draw, d__law_pick, d__law_mixed, d__law_same, d__law_spoilt, d__law_is_once, d__law_apart, d__law_labels, d__law_number, d__law_taken, d__law_goal_of, d__law_found, d__law_refused_right, d__law_told_or, d__law_wires_right, d_law]
def fa : List He.Fa := [.glo "is_word", .glo "is_integer", .glo "is_number", .glo "is_row", .glo "is_step", .glo "need_word", .glo "sides", .glo "can_do", .glo "word_behind", .glo "is_rule", .glo "need_book", .glo "need_way", .glo "need_index", .glo "wires_and_end", .glo "wires", .glo "wire_rows", .glo "need_letter", .glo "place_across", .glo "comes_from", .glo "goes_to", .glo "_law_a_book", .glo "_law_a_word", .glo "_law_a_case", .glo "_law_a_great", .glo "_law_w_source", .glo "_law_w_goal", .glo "_law_w_can", .glo "_law_w_done", .glo "_law_w_end", .glo "_law_w_all", .glo "_law_w_way", .glo "_law_w_is", .glo "_law_start", .glo "_law_draw", .glo "_law_pick", .glo "_law_mixed", .glo "_law_same", .glo "_law_spoilt", .glo "_law_is_once", .glo "_law_apart", .glo "_law_labels", .glo "_law_number", .glo "_law_taken", .glo "_law_goal_of", .glo "_law_found", .glo "_law_refused_right", .glo "_law_told_or", .glo "_law_wires_right", .glo "law", .glo "WayError", .keep "WayError", .glo "BadBook", .keep "BadBook", .glo "BadIndex", .keep "BadIndex", .glo "BadNumber", .keep "BadNumber", .glo "BadRules", .keep "BadRules", .glo "BadSteps", .keep "BadSteps", .glo "BadWay", .keep "BadWay", .glo "BadWord", .keep "BadWord", .glo "Book", .keep "Book", .glo "Way", .keep "Way", .free "len", .free "isinstance", .free "range", .free "list", .free "tuple", .free "str", .free "int", .free "bool", .free "dict", .free "enumerate", .free "zip", .free "reversed", .free "sum", .free "all", .free "ValueError", .cls "Book", .noat "Book" "_rules", .mkr "Book", .meth "Book" "__eq__", .meth "Book" "rules", .cls "Way", .noat "Way" "_book", .noat "Way" "_word", .noat "Way" "_words", .noat "Way" "_steps", .mkr "Way", .meth "Way" "__eq__", .meth "Way" "book", .meth "Way" "word", .meth "Way" "steps", .meth "Way" "end", .meth "Way" "words", .glo "TURNS"]
def exs : List (PySem.W.Frag → Bool) := [errB "BadBook" "thing",
  errB "BadIndex" "thing",
  errB "BadNumber" "thing",
  errB "BadRules" "index",
  errB "BadSteps" "index",
  errB "BadWay" "thing",
  errB "BadWord" "thing",
  exmB "BadBook" "BadIndex" false,
  exmB "BadBook" "BadNumber" false,
  exmB "BadBook" "BadWay" false,
  exmB "BadIndex" "BadIndex" true,
  exmB "BadIndex" "BadNumber" false,
  exmB "BadIndex" "BadWay" false,
  exmB "BadNumber" "BadIndex" false,
  exmB "BadNumber" "BadNumber" true,
  exmB "BadNumber" "BadWay" false,
  exmB "BadRules" "BadIndex" false,
  exmB "BadRules" "BadNumber" false,
  exmB "BadRules" "BadWay" false,
  exmB "BadSteps" "BadIndex" false,
  exmB "BadSteps" "BadNumber" false,
  exmB "BadSteps" "BadWay" false,
  exmB "BadWay" "BadIndex" false,
  exmB "BadWay" "BadNumber" false,
  exmB "BadWay" "BadWay" true,
  exmB "BadWord" "BadIndex" false,
  exmB "BadWord" "BadNumber" false,
  exmB "BadWord" "BadWay" false,
  insB "Book",
  kitOB "Book" "Book" true,
  kitOB "Book" "Way" false,
  kitTO "NoneType" "Book",
  kitTO "bool" "Book",
  kitTO "int" "Book",
  kitTO "str" "Book",
  kitTO "list" "Book",
  kitTO "tuple" "Book",
  kitTO "dict" "Book",
  kitOT "Book" "NoneType",
  kitOT "Book" "bool",
  kitOT "Book" "int",
  kitOT "Book" "str",
  kitOT "Book" "list",
  kitOT "Book" "tuple",
  kitOT "Book" "dict",
  insB "Way",
  kitOB "Way" "Book" false,
  kitOB "Way" "Way" true,
  kitTO "NoneType" "Way",
  kitTO "bool" "Way",
  kitTO "int" "Way",
  kitTO "str" "Way",
  kitTO "list" "Way",
  kitTO "tuple" "Way",
  kitTO "dict" "Way",
  kitOT "Way" "NoneType",
  kitOT "Way" "bool",
  kitOT "Way" "int",
  kitOT "Way" "str",
  kitOT "Way" "list",
  kitOT "Way" "tuple",
  kitOT "Way" "dict",
  (fun K => He.tupB K "TURNS" [.str "back", .str "on"])]
def ex (K : PySem.W.Frag) : Bool := exs.all fun f => f K
/-- what the head tells, as it is used -/
structure Env (P : Program) (w : World) (K : PySem.W.Frag) (mg : Str → Option Value) (base : Heap) : Prop where
  t : ∃ h : Heap, K.In h ∧ h.Ns mainGlobals mg
  s : He.SaysD fa fn K
  e : ex K = true
section
variable {P : Program} {w : World} {K : PySem.W.Frag} {mg : Str → Option Value} {base : Heap}
theorem Env.ex_ (S : Env P w K mg base) (i : Nat) {f : PySem.W.Frag → Bool} (h : exs[i]? = some f) : f K = true := List.all_eq_true.mp S.e f (List.mem_of_getElem? h)
theorem Env.glo_ (S : Env P w K mg base) {x : Str} (i : Nat) (h : fa[i]? = some (.glo x)) : mg x = some (.ref (He.ga K x)) := by
  obtain ⟨h0, X, G⟩ := S.t
  exact He.glo_ok X G (S.s.fact i h)
theorem Env.free_ (S : Env P w K mg base) {x : Str} (i : Nat) (h : fa[i]? = some (.free x)) : mg x = none := by
  obtain ⟨h0, X, G⟩ := S.t
  exact He.free_ok X G (S.s.fact i h)
theorem Env.glo_is_word (S : Env P w K mg base) : mg "is_word" = some (.ref (He.ga K "is_word")) := S.glo_ 0 rfl
theorem Env.glo_is_integer (S : Env P w K mg base) : mg "is_integer" = some (.ref (He.ga K "is_integer")) := S.glo_ 1 rfl
theorem Env.glo_is_number (S : Env P w K mg base) : mg "is_number" = some (.ref (He.ga K "is_number")) := S.glo_ 2 rfl
theorem Env.glo_is_row (S : Env P w K mg base) : mg "is_row" = some (.ref (He.ga K "is_row")) := S.glo_ 3 rfl
theorem Env.glo_is_step (S : Env P w K mg base) : mg "is_step" = some (.ref (He.ga K "is_step")) := S.glo_ 4 rfl
theorem Env.glo_need_word (S : Env P w K mg base) : mg "need_word" = some (.ref (He.ga K "need_word")) := S.glo_ 5 rfl
theorem Env.glo_sides (S : Env P w K mg base) : mg "sides" = some (.ref (He.ga K "sides")) := S.glo_ 6 rfl
theorem Env.glo_can_do (S : Env P w K mg base) : mg "can_do" = some (.ref (He.ga K "can_do")) := S.glo_ 7 rfl
theorem Env.glo_word_behind (S : Env P w K mg base) : mg "word_behind" = some (.ref (He.ga K "word_behind")) := S.glo_ 8 rfl
theorem Env.glo_is_rule (S : Env P w K mg base) : mg "is_rule" = some (.ref (He.ga K "is_rule")) := S.glo_ 9 rfl
theorem Env.glo_need_book (S : Env P w K mg base) : mg "need_book" = some (.ref (He.ga K "need_book")) := S.glo_ 10 rfl
theorem Env.glo_need_way (S : Env P w K mg base) : mg "need_way" = some (.ref (He.ga K "need_way")) := S.glo_ 11 rfl
theorem Env.glo_need_index (S : Env P w K mg base) : mg "need_index" = some (.ref (He.ga K "need_index")) := S.glo_ 12 rfl
theorem Env.glo_wires_and_end (S : Env P w K mg base) : mg "wires_and_end" = some (.ref (He.ga K "wires_and_end")) := S.glo_ 13 rfl
theorem Env.glo_wires (S : Env P w K mg base) : mg "wires" = some (.ref (He.ga K "wires")) := S.glo_ 14 rfl
theorem Env.glo_wire_rows (S : Env P w K mg base) : mg "wire_rows" = some (.ref (He.ga K "wire_rows")) := S.glo_ 15 rfl
theorem Env.glo_need_letter (S : Env P w K mg base) : mg "need_letter" = some (.ref (He.ga K "need_letter")) := S.glo_ 16 rfl
theorem Env.glo_place_across (S : Env P w K mg base) : mg "place_across" = some (.ref (He.ga K "place_across")) := S.glo_ 17 rfl
theorem Env.glo_comes_from (S : Env P w K mg base) : mg "comes_from" = some (.ref (He.ga K "comes_from")) := S.glo_ 18 rfl
theorem Env.glo_goes_to (S : Env P w K mg base) : mg "goes_to" = some (.ref (He.ga K "goes_to")) := S.glo_ 19 rfl
theorem Env.glo__law_a_book (S : Env P w K mg base) : mg "_law_a_book" = some (.ref (He.ga K "_law_a_book")) := S.glo_ 20 rfl
theorem Env.glo__law_a_word (S : Env P w K mg base) : mg "_law_a_word" = some (.ref (He.ga K "_law_a_word")) := S.glo_ 21 rfl
theorem Env.glo__law_a_case (S : Env P w K mg base) : mg "_law_a_case" = some (.ref (He.ga K "_law_a_case")) := S.glo_ 22 rfl
theorem Env.glo__law_a_great (S : Env P w K mg base) : mg "_law_a_great" = some (.ref (He.ga K "_law_a_great")) := S.glo_ 23 rfl
theorem Env.glo__law_w_source (S : Env P w K mg base) : mg "_law_w_source" = some (.ref (He.ga K "_law_w_source")) := S.glo_ 24 rfl
theorem Env.glo__law_w_goal (S : Env P w K mg base) : mg "_law_w_goal" = some (.ref (He.ga K "_law_w_goal")) := S.glo_ 25 rfl
theorem Env.glo__law_w_can (S : Env P w K mg base) : mg "_law_w_can" = some (.ref (He.ga K "_law_w_can")) := S.glo_ 26 rfl
theorem Env.glo__law_w_done (S : Env P w K mg base) : mg "_law_w_done" = some (.ref (He.ga K "_law_w_done")) := S.glo_ 27 rfl
theorem Env.glo__law_w_end (S : Env P w K mg base) : mg "_law_w_end" = some (.ref (He.ga K "_law_w_end")) := S.glo_ 28 rfl
theorem Env.glo__law_w_all (S : Env P w K mg base) : mg "_law_w_all" = some (.ref (He.ga K "_law_w_all")) := S.glo_ 29 rfl
theorem Env.glo__law_w_way (S : Env P w K mg base) : mg "_law_w_way" = some (.ref (He.ga K "_law_w_way")) := S.glo_ 30 rfl
theorem Env.glo__law_w_is (S : Env P w K mg base) : mg "_law_w_is" = some (.ref (He.ga K "_law_w_is")) := S.glo_ 31 rfl
theorem Env.glo__law_start (S : Env P w K mg base) : mg "_law_start" = some (.ref (He.ga K "_law_start")) := S.glo_ 32 rfl
theorem Env.glo__law_draw (S : Env P w K mg base) : mg "_law_draw" = some (.ref (He.ga K "_law_draw")) := S.glo_ 33 rfl
theorem Env.glo__law_pick (S : Env P w K mg base) : mg "_law_pick" = some (.ref (He.ga K "_law_pick")) := S.glo_ 34 rfl
theorem Env.glo__law_mixed (S : Env P w K mg base) : mg "_law_mixed" = some (.ref (He.ga K "_law_mixed")) := S.glo_ 35 rfl
theorem Env.glo__law_same (S : Env P w K mg base) : mg "_law_same" = some (.ref (He.ga K "_law_same")) := S.glo_ 36 rfl
theorem Env.glo__law_spoilt (S : Env P w K mg base) : mg "_law_spoilt" = some (.ref (He.ga K "_law_spoilt")) := S.glo_ 37 rfl
theorem Env.glo__law_is_once (S : Env P w K mg base) : mg "_law_is_once" = some (.ref (He.ga K "_law_is_once")) := S.glo_ 38 rfl
theorem Env.glo__law_apart (S : Env P w K mg base) : mg "_law_apart" = some (.ref (He.ga K "_law_apart")) := S.glo_ 39 rfl
theorem Env.glo__law_labels (S : Env P w K mg base) : mg "_law_labels" = some (.ref (He.ga K "_law_labels")) := S.glo_ 40 rfl
theorem Env.glo__law_number (S : Env P w K mg base) : mg "_law_number" = some (.ref (He.ga K "_law_number")) := S.glo_ 41 rfl
theorem Env.glo__law_taken (S : Env P w K mg base) : mg "_law_taken" = some (.ref (He.ga K "_law_taken")) := S.glo_ 42 rfl
theorem Env.glo__law_goal_of (S : Env P w K mg base) : mg "_law_goal_of" = some (.ref (He.ga K "_law_goal_of")) := S.glo_ 43 rfl
theorem Env.glo__law_found (S : Env P w K mg base) : mg "_law_found" = some (.ref (He.ga K "_law_found")) := S.glo_ 44 rfl
theorem Env.glo__law_refused_right (S : Env P w K mg base) : mg "_law_refused_right" = some (.ref (He.ga K "_law_refused_right")) := S.glo_ 45 rfl
theorem Env.glo__law_told_or (S : Env P w K mg base) : mg "_law_told_or" = some (.ref (He.ga K "_law_told_or")) := S.glo_ 46 rfl
theorem Env.glo__law_wires_right (S : Env P w K mg base) : mg "_law_wires_right" = some (.ref (He.ga K "_law_wires_right")) := S.glo_ 47 rfl
theorem Env.glo_law (S : Env P w K mg base) : mg "law" = some (.ref (He.ga K "law")) := S.glo_ 48 rfl
theorem Env.glo_WayError (S : Env P w K mg base) : mg "WayError" = some (.ref (He.ga K "WayError")) := S.glo_ 49 rfl
theorem Env.keep_WayError (S : Env P w K mg base) : PySem.W.keepIn K (.ref (He.ga K "WayError")) = true := He.keep_ok (S.s.fact 50 rfl)
theorem Env.glo_BadBook (S : Env P w K mg base) : mg "BadBook" = some (.ref (He.ga K "BadBook")) := S.glo_ 51 rfl
theorem Env.keep_BadBook (S : Env P w K mg base) : PySem.W.keepIn K (.ref (He.ga K "BadBook")) = true := He.keep_ok (S.s.fact 52 rfl)
theorem Env.glo_BadIndex (S : Env P w K mg base) : mg "BadIndex" = some (.ref (He.ga K "BadIndex")) := S.glo_ 53 rfl
theorem Env.keep_BadIndex (S : Env P w K mg base) : PySem.W.keepIn K (.ref (He.ga K "BadIndex")) = true := He.keep_ok (S.s.fact 54 rfl)
theorem Env.glo_BadNumber (S : Env P w K mg base) : mg "BadNumber" = some (.ref (He.ga K "BadNumber")) := S.glo_ 55 rfl
theorem Env.keep_BadNumber (S : Env P w K mg base) : PySem.W.keepIn K (.ref (He.ga K "BadNumber")) = true := He.keep_ok (S.s.fact 56 rfl)
theorem Env.glo_BadRules (S : Env P w K mg base) : mg "BadRules" = some (.ref (He.ga K "BadRules")) := S.glo_ 57 rfl
theorem Env.keep_BadRules (S : Env P w K mg base) : PySem.W.keepIn K (.ref (He.ga K "BadRules")) = true := He.keep_ok (S.s.fact 58 rfl)
theorem Env.glo_BadSteps (S : Env P w K mg base) : mg "BadSteps" = some (.ref (He.ga K "BadSteps")) := S.glo_ 59 rfl
theorem Env.keep_BadSteps (S : Env P w K mg base) : PySem.W.keepIn K (.ref (He.ga K "BadSteps")) = true := He.keep_ok (S.s.fact 60 rfl)
theorem Env.glo_BadWay (S : Env P w K mg base) : mg "BadWay" = some (.ref (He.ga K "BadWay")) := S.glo_ 61 rfl
theorem Env.keep_BadWay (S : Env P w K mg base) : PySem.W.keepIn K (.ref (He.ga K "BadWay")) = true := He.keep_ok (S.s.fact 62 rfl)
theorem Env.glo_BadWord (S : Env P w K mg base) : mg "BadWord" = some (.ref (He.ga K "BadWord")) := S.glo_ 63 rfl
theorem Env.keep_BadWord (S : Env P w K mg base) : PySem.W.keepIn K (.ref (He.ga K "BadWord")) = true := He.keep_ok (S.s.fact 64 rfl)
theorem Env.glo_Book (S : Env P w K mg base) : mg "Book" = some (.ref (He.ga K "Book")) := S.glo_ 65 rfl
theorem Env.keep_Book (S : Env P w K mg base) : PySem.W.keepIn K (.ref (He.ga K "Book")) = true := He.keep_ok (S.s.fact 66 rfl)
theorem Env.glo_Way (S : Env P w K mg base) : mg "Way" = some (.ref (He.ga K "Way")) := S.glo_ 67 rfl
theorem Env.keep_Way (S : Env P w K mg base) : PySem.W.keepIn K (.ref (He.ga K "Way")) = true := He.keep_ok (S.s.fact 68 rfl)
theorem Env.free_len (S : Env P w K mg base) : mg "len" = none := S.free_ 69 rfl
theorem Env.free_isinstance (S : Env P w K mg base) : mg "isinstance" = none := S.free_ 70 rfl
theorem Env.free_range (S : Env P w K mg base) : mg "range" = none := S.free_ 71 rfl
theorem Env.free_list (S : Env P w K mg base) : mg "list" = none := S.free_ 72 rfl
theorem Env.free_tuple (S : Env P w K mg base) : mg "tuple" = none := S.free_ 73 rfl
theorem Env.free_str (S : Env P w K mg base) : mg "str" = none := S.free_ 74 rfl
theorem Env.free_int (S : Env P w K mg base) : mg "int" = none := S.free_ 75 rfl
theorem Env.free_bool (S : Env P w K mg base) : mg "bool" = none := S.free_ 76 rfl
theorem Env.free_dict (S : Env P w K mg base) : mg "dict" = none := S.free_ 77 rfl
theorem Env.free_enumerate (S : Env P w K mg base) : mg "enumerate" = none := S.free_ 78 rfl
theorem Env.free_zip (S : Env P w K mg base) : mg "zip" = none := S.free_ 79 rfl
theorem Env.free_reversed (S : Env P w K mg base) : mg "reversed" = none := S.free_ 80 rfl
theorem Env.free_sum (S : Env P w K mg base) : mg "sum" = none := S.free_ 81 rfl
theorem Env.free_all (S : Env P w K mg base) : mg "all" = none := S.free_ 82 rfl
theorem Env.free_ValueError (S : Env P w K mg base) : mg "ValueError" = none := S.free_ 83 rfl
theorem Env.cls_Book (S : Env P w K mg base) : Cls K (He.ga K "Book") := He.cls_ok (S.s.fact 84 rfl)
theorem Env.noat_Book__rules (S : Env P w K mg base) : NoAttr K (He.ga K "Book") "_rules" := He.noat_ok (S.s.fact 85 rfl)
theorem Env.mkr_Book (S : Env P w K mg base) : Mk K (He.ga K "Book") (He.ma K (He.ga K "Book") "__init__") := He.mkr_ok (S.s.fact 86 rfl)
theorem Env.meth_Book___eq__ (S : Env P w K mg base) : Meth K (He.ga K "Book") "__eq__" (He.ma K (He.ga K "Book") "__eq__") := He.meth_ok (S.s.fact 87 rfl)
theorem Env.meth_Book_rules (S : Env P w K mg base) : Meth K (He.ga K "Book") "rules" (He.ma K (He.ga K "Book") "rules") := He.meth_ok (S.s.fact 88 rfl)
theorem Env.cls_Way (S : Env P w K mg base) : Cls K (He.ga K "Way") := He.cls_ok (S.s.fact 89 rfl)
theorem Env.noat_Way__book (S : Env P w K mg base) : NoAttr K (He.ga K "Way") "_book" := He.noat_ok (S.s.fact 90 rfl)
theorem Env.noat_Way__word (S : Env P w K mg base) : NoAttr K (He.ga K "Way") "_word" := He.noat_ok (S.s.fact 91 rfl)
theorem Env.noat_Way__words (S : Env P w K mg base) : NoAttr K (He.ga K "Way") "_words" := He.noat_ok (S.s.fact 92 rfl)
theorem Env.noat_Way__steps (S : Env P w K mg base) : NoAttr K (He.ga K "Way") "_steps" := He.noat_ok (S.s.fact 93 rfl)
theorem Env.mkr_Way (S : Env P w K mg base) : Mk K (He.ga K "Way") (He.ma K (He.ga K "Way") "__init__") := He.mkr_ok (S.s.fact 94 rfl)
theorem Env.meth_Way___eq__ (S : Env P w K mg base) : Meth K (He.ga K "Way") "__eq__" (He.ma K (He.ga K "Way") "__eq__") := He.meth_ok (S.s.fact 95 rfl)
theorem Env.meth_Way_book (S : Env P w K mg base) : Meth K (He.ga K "Way") "book" (He.ma K (He.ga K "Way") "book") := He.meth_ok (S.s.fact 96 rfl)
theorem Env.meth_Way_word (S : Env P w K mg base) : Meth K (He.ga K "Way") "word" (He.ma K (He.ga K "Way") "word") := He.meth_ok (S.s.fact 97 rfl)
theorem Env.meth_Way_steps (S : Env P w K mg base) : Meth K (He.ga K "Way") "steps" (He.ma K (He.ga K "Way") "steps") := He.meth_ok (S.s.fact 98 rfl)
theorem Env.meth_Way_end (S : Env P w K mg base) : Meth K (He.ga K "Way") "end" (He.ma K (He.ga K "Way") "end") := He.meth_ok (S.s.fact 99 rfl)
theorem Env.meth_Way_words (S : Env P w K mg base) : Meth K (He.ga K "Way") "words" (He.ma K (He.ga K "Way") "words") := He.meth_ok (S.s.fact 100 rfl)
theorem Env.glo_TURNS (S : Env P w K mg base) : mg "TURNS" = some (.ref (He.ga K "TURNS")) := S.glo_ 101 rfl
theorem Env.fun_BadBook___init__ (S : Env P w K mg base) : ∃ fd, FunD K d_BadBook___init__.name d_BadBook___init__.qual d_BadBook___init__.params d_BadBook___init__.body d_BadBook___init__.scope [] [] (He.fAd K d_BadBook___init__.at_) fd := S.s.def_ 0 (d := d_BadBook___init__) rfl
theorem Env.fun_BadIndex___init__ (S : Env P w K mg base) : ∃ fd, FunD K d_BadIndex___init__.name d_BadIndex___init__.qual d_BadIndex___init__.params d_BadIndex___init__.body d_BadIndex___init__.scope [] [] (He.fAd K d_BadIndex___init__.at_) fd := S.s.def_ 1 (d := d_BadIndex___init__) rfl
theorem Env.fun_BadNumber___init__ (S : Env P w K mg base) : ∃ fd, FunD K d_BadNumber___init__.name d_BadNumber___init__.qual d_BadNumber___init__.params d_BadNumber___init__.body d_BadNumber___init__.scope [] [] (He.fAd K d_BadNumber___init__.at_) fd := S.s.def_ 2 (d := d_BadNumber___init__) rfl
theorem Env.fun_BadRules___init__ (S : Env P w K mg base) : ∃ fd, FunD K d_BadRules___init__.name d_BadRules___init__.qual d_BadRules___init__.params d_BadRules___init__.body d_BadRules___init__.scope [] [] (He.fAd K d_BadRules___init__.at_) fd := S.s.def_ 3 (d := d_BadRules___init__) rfl
theorem Env.fun_BadSteps___init__ (S : Env P w K mg base) : ∃ fd, FunD K d_BadSteps___init__.name d_BadSteps___init__.qual d_BadSteps___init__.params d_BadSteps___init__.body d_BadSteps___init__.scope [] [] (He.fAd K d_BadSteps___init__.at_) fd := S.s.def_ 4 (d := d_BadSteps___init__) rfl
theorem Env.fun_BadWay___init__ (S : Env P w K mg base) : ∃ fd, FunD K d_BadWay___init__.name d_BadWay___init__.qual d_BadWay___init__.params d_BadWay___init__.body d_BadWay___init__.scope [] [] (He.fAd K d_BadWay___init__.at_) fd := S.s.def_ 5 (d := d_BadWay___init__) rfl
theorem Env.fun_BadWord___init__ (S : Env P w K mg base) : ∃ fd, FunD K d_BadWord___init__.name d_BadWord___init__.qual d_BadWord___init__.params d_BadWord___init__.body d_BadWord___init__.scope [] [] (He.fAd K d_BadWord___init__.at_) fd := S.s.def_ 6 (d := d_BadWord___init__) rfl
theorem Env.fun_is_word (S : Env P w K mg base) : ∃ fd, FunD K d_is_word.name d_is_word.qual d_is_word.params d_is_word.body d_is_word.scope [] [] (He.fAd K d_is_word.at_) fd := S.s.def_ 7 (d := d_is_word) rfl
theorem Env.fun_is_integer (S : Env P w K mg base) : ∃ fd, FunD K d_is_integer.name d_is_integer.qual d_is_integer.params d_is_integer.body d_is_integer.scope [] [] (He.fAd K d_is_integer.at_) fd := S.s.def_ 8 (d := d_is_integer) rfl
theorem Env.fun_is_number (S : Env P w K mg base) : ∃ fd, FunD K d_is_number.name d_is_number.qual d_is_number.params d_is_number.body d_is_number.scope [] [] (He.fAd K d_is_number.at_) fd := S.s.def_ 9 (d := d_is_number) rfl
theorem Env.fun_is_row (S : Env P w K mg base) : ∃ fd, FunD K d_is_row.name d_is_row.qual d_is_row.params d_is_row.body d_is_row.scope [] [] (He.fAd K d_is_row.at_) fd := S.s.def_ 10 (d := d_is_row) rfl
theorem Env.fun_is_step (S : Env P w K mg base) : ∃ fd, FunD K d_is_step.name d_is_step.qual d_is_step.params d_is_step.body d_is_step.scope [] [] (He.fAd K d_is_step.at_) fd := S.s.def_ 11 (d := d_is_step) rfl
theorem Env.fun_need_word (S : Env P w K mg base) : ∃ fd, FunD K d_need_word.name d_need_word.qual d_need_word.params d_need_word.body d_need_word.scope [] [] (He.fAd K d_need_word.at_) fd := S.s.def_ 12 (d := d_need_word) rfl
theorem Env.fun_sides (S : Env P w K mg base) : ∃ fd, FunD K d_sides.name d_sides.qual d_sides.params d_sides.body d_sides.scope [] [] (He.fAd K d_sides.at_) fd := S.s.def_ 13 (d := d_sides) rfl
theorem Env.fun_can_do (S : Env P w K mg base) : ∃ fd, FunD K d_can_do.name d_can_do.qual d_can_do.params d_can_do.body d_can_do.scope [] [] (He.fAd K d_can_do.at_) fd := S.s.def_ 14 (d := d_can_do) rfl
theorem Env.fun_word_behind (S : Env P w K mg base) : ∃ fd, FunD K d_word_behind.name d_word_behind.qual d_word_behind.params d_word_behind.body d_word_behind.scope [] [] (He.fAd K d_word_behind.at_) fd := S.s.def_ 15 (d := d_word_behind) rfl
theorem Env.fun_is_rule (S : Env P w K mg base) : ∃ fd, FunD K d_is_rule.name d_is_rule.qual d_is_rule.params d_is_rule.body d_is_rule.scope [] [] (He.fAd K d_is_rule.at_) fd := S.s.def_ 16 (d := d_is_rule) rfl
theorem Env.fun_Book___init__ (S : Env P w K mg base) : ∃ fd, FunD K d_Book___init__.name d_Book___init__.qual d_Book___init__.params d_Book___init__.body d_Book___init__.scope [] [] (He.fAd K d_Book___init__.at_) fd := S.s.def_ 17 (d := d_Book___init__) rfl
theorem Env.fun_Book___eq__ (S : Env P w K mg base) : ∃ fd, FunD K d_Book___eq__.name d_Book___eq__.qual d_Book___eq__.params d_Book___eq__.body d_Book___eq__.scope [] [] (He.fAd K d_Book___eq__.at_) fd := S.s.def_ 18 (d := d_Book___eq__) rfl
theorem Env.fun_Book_rules (S : Env P w K mg base) : ∃ fd, FunD K d_Book_rules.name d_Book_rules.qual d_Book_rules.params d_Book_rules.body d_Book_rules.scope [] [] (He.fAd K d_Book_rules.at_) fd := S.s.def_ 19 (d := d_Book_rules) rfl
theorem Env.fun_need_book (S : Env P w K mg base) : ∃ fd, FunD K d_need_book.name d_need_book.qual d_need_book.params d_need_book.body d_need_book.scope [] [] (He.fAd K d_need_book.at_) fd := S.s.def_ 20 (d := d_need_book) rfl
theorem Env.fun_Way___init__ (S : Env P w K mg base) : ∃ fd, FunD K d_Way___init__.name d_Way___init__.qual d_Way___init__.params d_Way___init__.body d_Way___init__.scope [] [] (He.fAd K d_Way___init__.at_) fd := S.s.def_ 21 (d := d_Way___init__) rfl
theorem Env.fun_Way___eq__ (S : Env P w K mg base) : ∃ fd, FunD K d_Way___eq__.name d_Way___eq__.qual d_Way___eq__.params d_Way___eq__.body d_Way___eq__.scope [] [] (He.fAd K d_Way___eq__.at_) fd := S.s.def_ 22 (d := d_Way___eq__) rfl
theorem Env.fun_Way_book (S : Env P w K mg base) : ∃ fd, FunD K d_Way_book.name d_Way_book.qual d_Way_book.params d_Way_book.body d_Way_book.scope [] [] (He.fAd K d_Way_book.at_) fd := S.s.def_ 23 (d := d_Way_book) rfl
theorem Env.fun_Way_word (S : Env P w K mg base) : ∃ fd, FunD K d_Way_word.name d_Way_word.qual d_Way_word.params d_Way_word.body d_Way_word.scope [] [] (He.fAd K d_Way_word.at_) fd := S.s.def_ 24 (d := d_Way_word) rfl
theorem Env.fun_Way_steps (S : Env P w K mg base) : ∃ fd, FunD K d_Way_steps.name d_Way_steps.qual d_Way_steps.params d_Way_steps.body d_Way_steps.scope [] [] (He.fAd K d_Way_steps.at_) fd := S.s.def_ 25 (d := d_Way_steps) rfl
theorem Env.fun_Way_end (S : Env P w K mg base) : ∃ fd, FunD K d_Way_end.name d_Way_end.qual d_Way_end.params d_Way_end.body d_Way_end.scope [] [] (He.fAd K d_Way_end.at_) fd := S.s.def_ 26 (d := d_Way_end) rfl
theorem Env.fun_Way_words (S : Env P w K mg base) : ∃ fd, FunD K d_Way_words.name d_Way_words.qual d_Way_words.params d_Way_words.body d_Way_words.scope [] [] (He.fAd K d_Way_words.at_) fd := S.s.def_ 27 (d := d_Way_words) rfl
theorem Env.fun_need_way (S : Env P w K mg base) : ∃ fd, FunD K d_need_way.name d_need_way.qual d_need_way.params d_need_way.body d_need_way.scope [] [] (He.fAd K d_need_way.at_) fd := S.s.def_ 28 (d := d_need_way) rfl
theorem Env.fun_need_index (S : Env P w K mg base) : ∃ fd, FunD K d_need_index.name d_need_index.qual d_need_index.params d_need_index.body d_need_index.scope [] [] (He.fAd K d_need_index.at_) fd := S.s.def_ 29 (d := d_need_index) rfl
theorem Env.fun_wires_and_end (S : Env P w K mg base) : ∃ fd, FunD K d_wires_and_end.name d_wires_and_end.qual d_wires_and_end.params d_wires_and_end.body d_wires_and_end.scope [] [] (He.fAd K d_wires_and_end.at_) fd := S.s.def_ 30 (d := d_wires_and_end) rfl
theorem Env.fun_wires (S : Env P w K mg base) : ∃ fd, FunD K d_wires.name d_wires.qual d_wires.params d_wires.body d_wires.scope [] [] (He.fAd K d_wires.at_) fd := S.s.def_ 31 (d := d_wires) rfl
theorem Env.fun_wire_rows (S : Env P w K mg base) : ∃ fd, FunD K d_wire_rows.name d_wire_rows.qual d_wire_rows.params d_wire_rows.body d_wire_rows.scope [] [] (He.fAd K d_wire_rows.at_) fd := S.s.def_ 32 (d := d_wire_rows) rfl
theorem Env.fun_need_letter (S : Env P w K mg base) : ∃ fd, FunD K d_need_letter.name d_need_letter.qual d_need_letter.params d_need_letter.body d_need_letter.scope [] [] (He.fAd K d_need_letter.at_) fd := S.s.def_ 33 (d := d_need_letter) rfl
theorem Env.fun_place_across (S : Env P w K mg base) : ∃ fd, FunD K d_place_across.name d_place_across.qual d_place_across.params d_place_across.body d_place_across.scope [] [] (He.fAd K d_place_across.at_) fd := S.s.def_ 34 (d := d_place_across) rfl
theorem Env.fun_comes_from (S : Env P w K mg base) : ∃ fd, FunD K d_comes_from.name d_comes_from.qual d_comes_from.params d_comes_from.body d_comes_from.scope [] [] (He.fAd K d_comes_from.at_) fd := S.s.def_ 35 (d := d_comes_from) rfl
theorem Env.fun_goes_to (S : Env P w K mg base) : ∃ fd, FunD K d_goes_to.name d_goes_to.qual d_goes_to.params d_goes_to.body d_goes_to.scope [] [] (He.fAd K d_goes_to.at_) fd := S.s.def_ 36 (d := d_goes_to) rfl
theorem Env.fun__law_a_book (S : Env P w K mg base) : ∃ fd, FunD K d__law_a_book.name d__law_a_book.qual d__law_a_book.params d__law_a_book.body d__law_a_book.scope [] [] (He.fAd K d__law_a_book.at_) fd := S.s.def_ 37 (d := d__law_a_book) rfl
theorem Env.fun__law_a_word (S : Env P w K mg base) : ∃ fd, FunD K d__law_a_word.name d__law_a_word.qual d__law_a_word.params d__law_a_word.body d__law_a_word.scope [] [] (He.fAd K d__law_a_word.at_) fd := S.s.def_ 38 (d := d__law_a_word) rfl
theorem Env.fun__law_a_case (S : Env P w K mg base) : ∃ fd, FunD K d__law_a_case.name d__law_a_case.qual d__law_a_case.params d__law_a_case.body d__law_a_case.scope [] [] (He.fAd K d__law_a_case.at_) fd := S.s.def_ 39 (d := d__law_a_case) rfl
theorem Env.fun__law_a_great (S : Env P w K mg base) : ∃ fd, FunD K d__law_a_great.name d__law_a_great.qual d__law_a_great.params d__law_a_great.body d__law_a_great.scope [] [] (He.fAd K d__law_a_great.at_) fd := S.s.def_ 40 (d := d__law_a_great) rfl
theorem Env.fun__law_w_source (S : Env P w K mg base) : ∃ fd, FunD K d__law_w_source.name d__law_w_source.qual d__law_w_source.params d__law_w_source.body d__law_w_source.scope [] [] (He.fAd K d__law_w_source.at_) fd := S.s.def_ 41 (d := d__law_w_source) rfl
theorem Env.fun__law_w_goal (S : Env P w K mg base) : ∃ fd, FunD K d__law_w_goal.name d__law_w_goal.qual d__law_w_goal.params d__law_w_goal.body d__law_w_goal.scope [] [] (He.fAd K d__law_w_goal.at_) fd := S.s.def_ 42 (d := d__law_w_goal) rfl
theorem Env.fun__law_w_can (S : Env P w K mg base) : ∃ fd, FunD K d__law_w_can.name d__law_w_can.qual d__law_w_can.params d__law_w_can.body d__law_w_can.scope [] [] (He.fAd K d__law_w_can.at_) fd := S.s.def_ 43 (d := d__law_w_can) rfl
theorem Env.fun__law_w_done (S : Env P w K mg base) : ∃ fd, FunD K d__law_w_done.name d__law_w_done.qual d__law_w_done.params d__law_w_done.body d__law_w_done.scope [] [] (He.fAd K d__law_w_done.at_) fd := S.s.def_ 44 (d := d__law_w_done) rfl
theorem Env.fun__law_w_end (S : Env P w K mg base) : ∃ fd, FunD K d__law_w_end.name d__law_w_end.qual d__law_w_end.params d__law_w_end.body d__law_w_end.scope [] [] (He.fAd K d__law_w_end.at_) fd := S.s.def_ 45 (d := d__law_w_end) rfl
theorem Env.fun__law_w_all (S : Env P w K mg base) : ∃ fd, FunD K d__law_w_all.name d__law_w_all.qual d__law_w_all.params d__law_w_all.body d__law_w_all.scope [] [] (He.fAd K d__law_w_all.at_) fd := S.s.def_ 46 (d := d__law_w_all) rfl
theorem Env.fun__law_w_way (S : Env P w K mg base) : ∃ fd, FunD K d__law_w_way.name d__law_w_way.qual d__law_w_way.params d__law_w_way.body d__law_w_way.scope [] [] (He.fAd K d__law_w_way.at_) fd := S.s.def_ 47 (d := d__law_w_way) rfl
theorem Env.fun__law_w_is (S : Env P w K mg base) : ∃ fd, FunD K d__law_w_is.name d__law_w_is.qual d__law_w_is.params d__law_w_is.body d__law_w_is.scope [] [] (He.fAd K d__law_w_is.at_) fd := S.s.def_ 48 (d := d__law_w_is) rfl
theorem Env.fun__law_start (S : Env P w K mg base) : ∃ fd, FunD K d__law_start.name d__law_start.qual d__law_start.params d__law_start.body d__law_start.scope [] [] (He.fAd K d__law_start.at_) fd := S.s.def_ 49 (d := d__law_start) rfl
theorem Env.fun__law_draw (S : Env P w K mg base) : ∃ fd, FunD K d__law_draw.name d__law_draw.qual d__law_draw.params d__law_draw.body d__law_draw.scope [] [] (He.fAd K d__law_draw.at_) fd := S.s.def_ 50 (d := d__law_draw) rfl
theorem Env.fun__law_pick (S : Env P w K mg base) : ∃ fd, FunD K d__law_pick.name d__law_pick.qual d__law_pick.params d__law_pick.body d__law_pick.scope [] [] (He.fAd K d__law_pick.at_) fd := S.s.def_ 51 (d := d__law_pick) rfl
theorem Env.fun__law_mixed (S : Env P w K mg base) : ∃ fd, FunD K d__law_mixed.name d__law_mixed.qual d__law_mixed.params d__law_mixed.body d__law_mixed.scope [] [] (He.fAd K d__law_mixed.at_) fd := S.s.def_ 52 (d := d__law_mixed) rfl
theorem Env.fun__law_same (S : Env P w K mg base) : ∃ fd, FunD K d__law_same.name d__law_same.qual d__law_same.params d__law_same.body d__law_same.scope [] [] (He.fAd K d__law_same.at_) fd := S.s.def_ 53 (d := d__law_same) rfl
theorem Env.fun__law_spoilt (S : Env P w K mg base) : ∃ fd, FunD K d__law_spoilt.name d__law_spoilt.qual d__law_spoilt.params d__law_spoilt.body d__law_spoilt.scope [] [] (He.fAd K d__law_spoilt.at_) fd := S.s.def_ 54 (d := d__law_spoilt) rfl
theorem Env.fun__law_is_once (S : Env P w K mg base) : ∃ fd, FunD K d__law_is_once.name d__law_is_once.qual d__law_is_once.params d__law_is_once.body d__law_is_once.scope [] [] (He.fAd K d__law_is_once.at_) fd := S.s.def_ 55 (d := d__law_is_once) rfl
theorem Env.fun__law_apart (S : Env P w K mg base) : ∃ fd, FunD K d__law_apart.name d__law_apart.qual d__law_apart.params d__law_apart.body d__law_apart.scope [] [] (He.fAd K d__law_apart.at_) fd := S.s.def_ 56 (d := d__law_apart) rfl
theorem Env.fun__law_labels (S : Env P w K mg base) : ∃ fd, FunD K d__law_labels.name d__law_labels.qual d__law_labels.params d__law_labels.body d__law_labels.scope [] [] (He.fAd K d__law_labels.at_) fd := S.s.def_ 57 (d := d__law_labels) rfl
theorem Env.fun__law_number (S : Env P w K mg base) : ∃ fd, FunD K d__law_number.name d__law_number.qual d__law_number.params d__law_number.body d__law_number.scope [] [] (He.fAd K d__law_number.at_) fd := S.s.def_ 58 (d := d__law_number) rfl
theorem Env.fun__law_taken (S : Env P w K mg base) : ∃ fd, FunD K d__law_taken.name d__law_taken.qual d__law_taken.params d__law_taken.body d__law_taken.scope [] [] (He.fAd K d__law_taken.at_) fd := S.s.def_ 59 (d := d__law_taken) rfl
theorem Env.fun__law_goal_of (S : Env P w K mg base) : ∃ fd, FunD K d__law_goal_of.name d__law_goal_of.qual d__law_goal_of.params d__law_goal_of.body d__law_goal_of.scope [] [] (He.fAd K d__law_goal_of.at_) fd := S.s.def_ 60 (d := d__law_goal_of) rfl
theorem Env.fun__law_found (S : Env P w K mg base) : ∃ fd, FunD K d__law_found.name d__law_found.qual d__law_found.params d__law_found.body d__law_found.scope [] [] (He.fAd K d__law_found.at_) fd := S.s.def_ 61 (d := d__law_found) rfl
theorem Env.fun__law_refused_right (S : Env P w K mg base) : ∃ fd, FunD K d__law_refused_right.name d__law_refused_right.qual d__law_refused_right.params d__law_refused_right.body d__law_refused_right.scope [] [] (He.fAd K d__law_refused_right.at_) fd := S.s.def_ 62 (d := d__law_refused_right) rfl
theorem Env.fun__law_told_or (S : Env P w K mg base) : ∃ fd, FunD K d__law_told_or.name d__law_told_or.qual d__law_told_or.params d__law_told_or.body d__law_told_or.scope [] [] (He.fAd K d__law_told_or.at_) fd := S.s.def_ 63 (d := d__law_told_or) rfl
theorem Env.fun__law_wires_right (S : Env P w K mg base) : ∃ fd, FunD K d__law_wires_right.name d__law_wires_right.qual d__law_wires_right.params d__law_wires_right.body d__law_wires_right.scope [] [] (He.fAd K d__law_wires_right.at_) fd := S.s.def_ 64 (d := d__law_wires_right) rfl
theorem Env.fun_law (S : Env P w K mg base) : ∃ fd, FunD K d_law.name d_law.qual d_law.params d_law.body d_law.scope [] [] (He.fAd K d_law.at_) fd := S.s.def_ 65 (d := d_law) rfl
theorem Env.exm_BadBook_BadIndex (S : Env P w K mg base) : PySem.W.exmOne K (.ref (He.ga K "BadBook")) (.ref (He.ga K "BadIndex")) = some false := of_decide_eq_true (S.ex_ 7 rfl)
theorem Env.exm_BadBook_BadNumber (S : Env P w K mg base) : PySem.W.exmOne K (.ref (He.ga K "BadBook")) (.ref (He.ga K "BadNumber")) = some false := of_decide_eq_true (S.ex_ 8 rfl)
theorem Env.exm_BadBook_BadWay (S : Env P w K mg base) : PySem.W.exmOne K (.ref (He.ga K "BadBook")) (.ref (He.ga K "BadWay")) = some false := of_decide_eq_true (S.ex_ 9 rfl)
theorem Env.exm_BadIndex_BadIndex (S : Env P w K mg base) : PySem.W.exmOne K (.ref (He.ga K "BadIndex")) (.ref (He.ga K "BadIndex")) = some true := of_decide_eq_true (S.ex_ 10 rfl)
theorem Env.exm_BadIndex_BadNumber (S : Env P w K mg base) : PySem.W.exmOne K (.ref (He.ga K "BadIndex")) (.ref (He.ga K "BadNumber")) = some false := of_decide_eq_true (S.ex_ 11 rfl)
theorem Env.exm_BadIndex_BadWay (S : Env P w K mg base) : PySem.W.exmOne K (.ref (He.ga K "BadIndex")) (.ref (He.ga K "BadWay")) = some false := of_decide_eq_true (S.ex_ 12 rfl)
theorem Env.exm_BadNumber_BadIndex (S : Env P w K mg base) : PySem.W.exmOne K (.ref (He.ga K "BadNumber")) (.ref (He.ga K "BadIndex")) = some false := of_decide_eq_true (S.ex_ 13 rfl)
theorem Env.exm_BadNumber_BadNumber (S : Env P w K mg base) : PySem.W.exmOne K (.ref (He.ga K "BadNumber")) (.ref (He.ga K "BadNumber")) = some true := of_decide_eq_true (S.ex_ 14 rfl)
theorem Env.exm_BadNumber_BadWay (S : Env P w K mg base) : PySem.W.exmOne K (.ref (He.ga K "BadNumber")) (.ref (He.ga K "BadWay")) = some false := of_decide_eq_true (S.ex_ 15 rfl)
theorem Env.exm_BadRules_BadIndex (S : Env P w K mg base) : PySem.W.exmOne K (.ref (He.ga K "BadRules")) (.ref (He.ga K "BadIndex")) = some false := of_decide_eq_true (S.ex_ 16 rfl)
theorem Env.exm_BadRules_BadNumber (S : Env P w K mg base) : PySem.W.exmOne K (.ref (He.ga K "BadRules")) (.ref (He.ga K "BadNumber")) = some false := of_decide_eq_true (S.ex_ 17 rfl)
theorem Env.exm_BadRules_BadWay (S : Env P w K mg base) : PySem.W.exmOne K (.ref (He.ga K "BadRules")) (.ref (He.ga K "BadWay")) = some false := of_decide_eq_true (S.ex_ 18 rfl)
theorem Env.exm_BadSteps_BadIndex (S : Env P w K mg base) : PySem.W.exmOne K (.ref (He.ga K "BadSteps")) (.ref (He.ga K "BadIndex")) = some false := of_decide_eq_true (S.ex_ 19 rfl)
theorem Env.exm_BadSteps_BadNumber (S : Env P w K mg base) : PySem.W.exmOne K (.ref (He.ga K "BadSteps")) (.ref (He.ga K "BadNumber")) = some false := of_decide_eq_true (S.ex_ 20 rfl)
theorem Env.exm_BadSteps_BadWay (S : Env P w K mg base) : PySem.W.exmOne K (.ref (He.ga K "BadSteps")) (.ref (He.ga K "BadWay")) = some false := of_decide_eq_true (S.ex_ 21 rfl)
theorem Env.exm_BadWay_BadIndex (S : Env P w K mg base) : PySem.W.exmOne K (.ref (He.ga K "BadWay")) (.ref (He.ga K "BadIndex")) = some false := of_decide_eq_true (S.ex_ 22 rfl)
theorem Env.exm_BadWay_BadNumber (S : Env P w K mg base) : PySem.W.exmOne K (.ref (He.ga K "BadWay")) (.ref (He.ga K "BadNumber")) = some false := of_decide_eq_true (S.ex_ 23 rfl)
theorem Env.exm_BadWay_BadWay (S : Env P w K mg base) : PySem.W.exmOne K (.ref (He.ga K "BadWay")) (.ref (He.ga K "BadWay")) = some true := of_decide_eq_true (S.ex_ 24 rfl)
theorem Env.exm_BadWord_BadIndex (S : Env P w K mg base) : PySem.W.exmOne K (.ref (He.ga K "BadWord")) (.ref (He.ga K "BadIndex")) = some false := of_decide_eq_true (S.ex_ 25 rfl)
theorem Env.exm_BadWord_BadNumber (S : Env P w K mg base) : PySem.W.exmOne K (.ref (He.ga K "BadWord")) (.ref (He.ga K "BadNumber")) = some false := of_decide_eq_true (S.ex_ 26 rfl)
theorem Env.exm_BadWord_BadWay (S : Env P w K mg base) : PySem.W.exmOne K (.ref (He.ga K "BadWord")) (.ref (He.ga K "BadWay")) = some false := of_decide_eq_true (S.ex_ 27 rfl)
theorem Env.ins_Book (S : Env P w K mg base) {H : Hp} {a dx : Addr} {fs : List (Str × V)} (h : H a = some (.ins (He.ga K "Book") dx fs)) : TyX K H (.ref a) (.ref (He.ga K "Book")) := insB_ok S.cls_Book (S.ex_ 28 rfl) h
theorem Env.kit_Book_Book (S : Env P w K mg base) : PySem.W.kitOne K (.ref (He.ga K "Book")) (.ref (He.ga K "Book")) = some true := of_decide_eq_true (S.ex_ 29 rfl)
theorem Env.kit_Book_Way (S : Env P w K mg base) : PySem.W.kitOne K (.ref (He.ga K "Book")) (.ref (He.ga K "Way")) = some false := of_decide_eq_true (S.ex_ 30 rfl)
theorem Env.kto_NoneType_Book (S : Env P w K mg base) : PySem.W.kitOne K (.type "NoneType") (.ref (He.ga K "Book")) = some false := of_decide_eq_true (S.ex_ 31 rfl)
theorem Env.kto_bool_Book (S : Env P w K mg base) : PySem.W.kitOne K (.type "bool") (.ref (He.ga K "Book")) = some false := of_decide_eq_true (S.ex_ 32 rfl)
theorem Env.kto_int_Book (S : Env P w K mg base) : PySem.W.kitOne K (.type "int") (.ref (He.ga K "Book")) = some false := of_decide_eq_true (S.ex_ 33 rfl)
theorem Env.kto_str_Book (S : Env P w K mg base) : PySem.W.kitOne K (.type "str") (.ref (He.ga K "Book")) = some false := of_decide_eq_true (S.ex_ 34 rfl)
theorem Env.kto_list_Book (S : Env P w K mg base) : PySem.W.kitOne K (.type "list") (.ref (He.ga K "Book")) = some false := of_decide_eq_true (S.ex_ 35 rfl)
theorem Env.kto_tuple_Book (S : Env P w K mg base) : PySem.W.kitOne K (.type "tuple") (.ref (He.ga K "Book")) = some false := of_decide_eq_true (S.ex_ 36 rfl)
theorem Env.kto_dict_Book (S : Env P w K mg base) : PySem.W.kitOne K (.type "dict") (.ref (He.ga K "Book")) = some false := of_decide_eq_true (S.ex_ 37 rfl)
theorem Env.kot_Book_NoneType (S : Env P w K mg base) : PySem.W.kitOne K (.ref (He.ga K "Book")) (.type "NoneType") = some false := of_decide_eq_true (S.ex_ 38 rfl)
theorem Env.kot_Book_bool (S : Env P w K mg base) : PySem.W.kitOne K (.ref (He.ga K "Book")) (.type "bool") = some false := of_decide_eq_true (S.ex_ 39 rfl)
theorem Env.kot_Book_int (S : Env P w K mg base) : PySem.W.kitOne K (.ref (He.ga K "Book")) (.type "int") = some false := of_decide_eq_true (S.ex_ 40 rfl)
theorem Env.kot_Book_str (S : Env P w K mg base) : PySem.W.kitOne K (.ref (He.ga K "Book")) (.type "str") = some false := of_decide_eq_true (S.ex_ 41 rfl)
theorem Env.kot_Book_list (S : Env P w K mg base) : PySem.W.kitOne K (.ref (He.ga K "Book")) (.type "list") = some false := of_decide_eq_true (S.ex_ 42 rfl)
theorem Env.kot_Book_tuple (S : Env P w K mg base) : PySem.W.kitOne K (.ref (He.ga K "Book")) (.type "tuple") = some false := of_decide_eq_true (S.ex_ 43 rfl)
theorem Env.kot_Book_dict (S : Env P w K mg base) : PySem.W.kitOne K (.ref (He.ga K "Book")) (.type "dict") = some false := of_decide_eq_true (S.ex_ 44 rfl)
theorem Env.ins_Way (S : Env P w K mg base) {H : Hp} {a dx : Addr} {fs : List (Str × V)} (h : H a = some (.ins (He.ga K "Way") dx fs)) : TyX K H (.ref a) (.ref (He.ga K "Way")) := insB_ok S.cls_Way (S.ex_ 45 rfl) h
theorem Env.kit_Way_Book (S : Env P w K mg base) : PySem.W.kitOne K (.ref (He.ga K "Way")) (.ref (He.ga K "Book")) = some false := of_decide_eq_true (S.ex_ 46 rfl)
theorem Env.kit_Way_Way (S : Env P w K mg base) : PySem.W.kitOne K (.ref (He.ga K "Way")) (.ref (He.ga K "Way")) = some true := of_decide_eq_true (S.ex_ 47 rfl)
theorem Env.kto_NoneType_Way (S : Env P w K mg base) : PySem.W.kitOne K (.type "NoneType") (.ref (He.ga K "Way")) = some false := of_decide_eq_true (S.ex_ 48 rfl)
theorem Env.kto_bool_Way (S : Env P w K mg base) : PySem.W.kitOne K (.type "bool") (.ref (He.ga K "Way")) = some false := of_decide_eq_true (S.ex_ 49 rfl)
theorem Env.kto_int_Way (S : Env P w K mg base) : PySem.W.kitOne K (.type "int") (.ref (He.ga K "Way")) = some false := of_decide_eq_true (S.ex_ 50 rfl)
theorem Env.kto_str_Way (S : Env P w K mg base) : PySem.W.kitOne K (.type "str") (.ref (He.ga K "Way")) = some false := of_decide_eq_true (S.ex_ 51 rfl)
theorem Env.kto_list_Way (S : Env P w K mg base) : PySem.W.kitOne K (.type "list") (.ref (He.ga K "Way")) = some false := of_decide_eq_true (S.ex_ 52 rfl)
theorem Env.kto_tuple_Way (S : Env P w K mg base) : PySem.W.kitOne K (.type "tuple") (.ref (He.ga K "Way")) = some false := of_decide_eq_true (S.ex_ 53 rfl)
theorem Env.kto_dict_Way (S : Env P w K mg base) : PySem.W.kitOne K (.type "dict") (.ref (He.ga K "Way")) = some false := of_decide_eq_true (S.ex_ 54 rfl)
theorem Env.kot_Way_NoneType (S : Env P w K mg base) : PySem.W.kitOne K (.ref (He.ga K "Way")) (.type "NoneType") = some false := of_decide_eq_true (S.ex_ 55 rfl)
theorem Env.kot_Way_bool (S : Env P w K mg base) : PySem.W.kitOne K (.ref (He.ga K "Way")) (.type "bool") = some false := of_decide_eq_true (S.ex_ 56 rfl)
theorem Env.kot_Way_int (S : Env P w K mg base) : PySem.W.kitOne K (.ref (He.ga K "Way")) (.type "int") = some false := of_decide_eq_true (S.ex_ 57 rfl)
theorem Env.kot_Way_str (S : Env P w K mg base) : PySem.W.kitOne K (.ref (He.ga K "Way")) (.type "str") = some false := of_decide_eq_true (S.ex_ 58 rfl)
theorem Env.kot_Way_list (S : Env P w K mg base) : PySem.W.kitOne K (.ref (He.ga K "Way")) (.type "list") = some false := of_decide_eq_true (S.ex_ 59 rfl)
theorem Env.kot_Way_tuple (S : Env P w K mg base) : PySem.W.kitOne K (.ref (He.ga K "Way")) (.type "tuple") = some false := of_decide_eq_true (S.ex_ 60 rfl)
theorem Env.kot_Way_dict (S : Env P w K mg base) : PySem.W.kitOne K (.ref (He.ga K "Way")) (.type "dict") = some false := of_decide_eq_true (S.ex_ 61 rfl)
theorem Env.con_TURNS (S : Env P w K mg base) (H : Hp) : SqT K H (He.ga K "TURNS") [.str "back", .str "on"] := He.tupB_ok (S.ex_ 62 rfl) H
end
theorem sc_BadBook___init__ : FnScope ["self", "thing"] ["self", "thing"] (defScope s_BadBook___init__) := C8.fnScope_by (by decide +kernel)
theorem sc_BadIndex___init__ : FnScope ["self", "thing"] ["self", "thing"] (defScope s_BadIndex___init__) := C8.fnScope_by (by decide +kernel)
theorem sc_BadNumber___init__ : FnScope ["self", "thing"] ["self", "thing"] (defScope s_BadNumber___init__) := C8.fnScope_by (by decide +kernel)
theorem sc_BadRules___init__ : FnScope ["self", "index"] ["self", "index"] (defScope s_BadRules___init__) := C8.fnScope_by (by decide +kernel)
theorem sc_BadSteps___init__ : FnScope ["self", "index"] ["self", "index"] (defScope s_BadSteps___init__) := C8.fnScope_by (by decide +kernel)
theorem sc_BadWay___init__ : FnScope ["self", "thing"] ["self", "thing"] (defScope s_BadWay___init__) := C8.fnScope_by (by decide +kernel)
theorem sc_BadWord___init__ : FnScope ["self", "thing"] ["self", "thing"] (defScope s_BadWord___init__) := C8.fnScope_by (by decide +kernel)
theorem sc_is_word : FnScope ["thing"] ["thing"] (defScope s_is_word) := C8.fnScope_by (by decide +kernel)
theorem sc_is_integer : FnScope ["thing"] ["thing"] (defScope s_is_integer) := C8.fnScope_by (by decide +kernel)
theorem sc_is_number : FnScope ["thing"] ["thing"] (defScope s_is_number) := C8.fnScope_by (by decide +kernel)
theorem sc_is_row : FnScope ["thing"] ["thing"] (defScope s_is_row) := C8.fnScope_by (by decide +kernel)
theorem sc_is_step : FnScope ["thing", "place", "rule", "turn"] ["thing"] (defScope s_is_step) := C8.fnScope_by (by decide +kernel)
theorem sc_need_word : FnScope ["thing"] ["thing"] (defScope s_need_word) := C8.fnScope_by (by decide +kernel)
theorem sc_sides : FnScope ["rules", "step", "left", "right"] ["rules", "step"] (defScope s_sides) := C8.fnScope_by (by decide +kernel)
theorem sc_can_do : FnScope ["rules", "word", "thing", "place", "source", "_"] ["rules", "word", "thing"] (defScope s_can_do) := C8.fnScope_by (by decide +kernel)
theorem sc_word_behind : FnScope ["rules", "word", "step", "source", "goal", "place"] ["rules", "word", "step"] (defScope s_word_behind) := C8.fnScope_by (by decide +kernel)
theorem sc_is_rule : FnScope ["thing", "left", "right"] ["thing"] (defScope s_is_rule) := C8.fnScope_by (by decide +kernel)
theorem sc_Book___init__ : FnScope ["self", "rules", "index", "rule"] ["self", "rules"] (defScope s_Book___init__) := C8.fnScope_by (by decide +kernel)
theorem sc_Book___eq__ : FnScope ["self", "other"] ["self", "other"] (defScope s_Book___eq__) := C8.fnScope_by (by decide +kernel)
theorem sc_Book_rules : FnScope ["self"] ["self"] (defScope s_Book_rules) := C8.fnScope_by (by decide +kernel)
theorem sc_need_book : FnScope ["thing"] ["thing"] (defScope s_need_book) := C8.fnScope_by (by decide +kernel)
theorem sc_Way___init__ : FnScope ["self", "book", "word", "steps", "rules", "words", "index", "step"] ["self", "book", "word", "steps"] (defScope s_Way___init__) := C8.fnScope_by (by decide +kernel)
theorem sc_Way___eq__ : FnScope ["self", "other"] ["self", "other"] (defScope s_Way___eq__) := C8.fnScope_by (by decide +kernel)
theorem sc_Way_book : FnScope ["self"] ["self"] (defScope s_Way_book) := C8.fnScope_by (by decide +kernel)
theorem sc_Way_word : FnScope ["self"] ["self"] (defScope s_Way_word) := C8.fnScope_by (by decide +kernel)
theorem sc_Way_steps : FnScope ["self"] ["self"] (defScope s_Way_steps) := C8.fnScope_by (by decide +kernel)
theorem sc_Way_end : FnScope ["self"] ["self"] (defScope s_Way_end) := C8.fnScope_by (by decide +kernel)
theorem sc_Way_words : FnScope ["self"] ["self"] (defScope s_Way_words) := C8.fnScope_by (by decide +kernel)
theorem sc_need_way : FnScope ["thing"] ["thing"] (defScope s_need_way) := C8.fnScope_by (by decide +kernel)
theorem sc_need_index : FnScope ["way", "thing"] ["way", "thing"] (defScope s_need_index) := C8.fnScope_by (by decide +kernel)
theorem sc_wires_and_end : FnScope ["way", "rules", "row", "fresh", "told", "step", "source", "goal", "place", "taken", "given"] ["way"] (defScope s_wires_and_end) := C8.fnScope_by (by decide +kernel)
theorem sc_wires : FnScope ["way"] ["way"] (defScope s_wires) := C8.fnScope_by (by decide +kernel)
theorem sc_wire_rows : FnScope ["way", "rows", "step", "taken", "given", "row", "place"] ["way"] (defScope s_wire_rows) := C8.fnScope_by (by decide +kernel)
theorem sc_need_letter : FnScope ["way", "index", "place"] ["way", "index", "place"] (defScope s_need_letter) := C8.fnScope_by (by decide +kernel)
theorem sc_place_across : FnScope ["at", "place", "gone", "come"] ["at", "place", "gone", "come"] (defScope s_place_across) := C8.fnScope_by (by decide +kernel)
theorem sc_comes_from : FnScope ["way", "index", "place", "rules", "steps", "at", "number", "source", "goal", "across"] ["way", "index", "place"] (defScope s_comes_from) := C8.fnScope_by (by decide +kernel)
theorem sc_goes_to : FnScope ["way", "index", "place", "rules", "steps", "at", "number", "source", "goal", "across"] ["way", "index", "place"] (defScope s_goes_to) := C8.fnScope_by (by decide +kernel)
theorem sc__law_a_book : FnScope ["stream", "some", "found", "k", "most", "n", "left", "right"] ["stream"] (defScope s__law_a_book) := C8.fnScope_by (by decide +kernel)
theorem sc__law_a_word : FnScope ["stream", "rules", "many", "most", "left", "right", "some", "found", "k"] ["stream", "rules", "many", "most"] (defScope s__law_a_word) := C8.fnScope_by (by decide +kernel)
theorem sc__law_a_case : FnScope ["stream", "many", "most", "rules", "word"] ["stream", "many", "most"] (defScope s__law_a_case) := C8.fnScope_by (by decide +kernel)
theorem sc__law_a_great : FnScope ["stream", "many", "rules", "word"] ["stream", "many"] (defScope s__law_a_great) := C8.fnScope_by (by decide +kernel)
theorem sc__law_w_source : FnScope ["rules", "step"] ["rules", "step"] (defScope s__law_w_source) := C8.fnScope_by (by decide +kernel)
theorem sc__law_w_goal : FnScope ["rules", "step"] ["rules", "step"] (defScope s__law_w_goal) := C8.fnScope_by (by decide +kernel)
theorem sc__law_w_can : FnScope ["rules", "word", "step", "source"] ["rules", "word", "step"] (defScope s__law_w_can) := C8.fnScope_by (by decide +kernel)
theorem sc__law_w_done : FnScope ["rules", "word", "step"] ["rules", "word", "step"] (defScope s__law_w_done) := C8.fnScope_by (by decide +kernel)
theorem sc__law_w_end : FnScope ["rules", "word", "steps", "step"] ["rules", "word", "steps"] (defScope s__law_w_end) := C8.fnScope_by (by decide +kernel)
theorem sc__law_w_all : FnScope ["rules", "word", "found", "place", "rule", "turn", "some", "step"] ["rules", "word"] (defScope s__law_w_all) := C8.fnScope_by (by decide +kernel)
theorem sc__law_w_way : FnScope ["stream", "rules", "word", "many", "most", "found", "k", "here", "step", "some"] ["stream", "rules", "word", "many", "most"] (defScope s__law_w_way) := C8.fnScope_by (by decide +kernel)
theorem sc__law_w_is : FnScope ["way", "rules", "word", "steps"] ["way", "rules", "word", "steps"] (defScope s__law_w_is) := C8.fnScope_by (by decide +kernel)
theorem sc__law_start : FnScope ["script"] ["script"] (defScope s__law_start) := C8.fnScope_by (by decide +kernel)
theorem sc__law_draw : FnScope ["stream", "many", "cell", "digit", "mixed"] ["stream", "many"] (defScope s__law_draw) := C8.fnScope_by (by decide +kernel)
theorem sc__law_pick : FnScope ["stream", "some"] ["stream", "some"] (defScope s__law_pick) := C8.fnScope_by (by decide +kernel)
theorem sc__law_mixed : FnScope ["stream", "some", "left", "k"] ["stream", "some"] (defScope s__law_mixed) := C8.fnScope_by (by decide +kernel)
theorem sc__law_same : FnScope ["found", "due", "x", "y"] ["found", "due"] (defScope s__law_same) := C8.fnScope_by (by decide +kernel)
theorem sc__law_spoilt : FnScope ["thing", "key", "part"] ["thing"] (defScope s__law_spoilt) := C8.fnScope_by (by decide +kernel)
theorem sc__law_is_once : FnScope ["thing", "key", "many", "part"] ["thing"] (defScope s__law_is_once) := C8.fnScope_by (by decide +kernel)
theorem sc__law_apart : FnScope ["thing"] ["thing"] (defScope s__law_apart) := C8.fnScope_by (by decide +kernel)
theorem sc__law_labels : FnScope ["rules", "word", "steps", "place", "rows", "number", "step", "row", "behind", "at", "given"] ["rules", "word", "steps"] (defScope s__law_labels) := C8.fnScope_by (by decide +kernel)
theorem sc__law_number : FnScope ["rules", "word", "steps", "label", "step"] ["rules", "word", "steps", "label"] (defScope s__law_number) := C8.fnScope_by (by decide +kernel)
theorem sc__law_taken : FnScope ["rules", "rows", "steps", "number", "step"] ["rules", "rows", "steps", "number"] (defScope s__law_taken) := C8.fnScope_by (by decide +kernel)
theorem sc__law_goal_of : FnScope ["rules", "rows", "steps", "label", "number", "some"] ["rules", "rows", "steps", "label"] (defScope s__law_goal_of) := C8.fnScope_by (by decide +kernel)
theorem sc__law_found : FnScope ["which", "way", "index", "place", "e"] ["which", "way", "index", "place"] (defScope s__law_found) := C8.fnScope_by (by decide +kernel)
theorem sc__law_refused_right : FnScope ["way", "rows", "odd", "which", "thing", "at", "row"] ["way", "rows"] (defScope s__law_refused_right) := C8.fnScope_by (by decide +kernel)
theorem sc__law_told_or : FnScope ["which", "thing", "e"] ["which", "thing"] (defScope s__law_told_or) := C8.fnScope_by (by decide +kernel)
theorem sc__law_wires_right : FnScope ["stream", "rules", "word", "steps", "way", "rows", "number", "taken", "some", "label", "at", "pairs", "row", "due", "found", "index", "k", "few", "place"] ["stream", "rules", "word", "steps"] (defScope s__law_wires_right) := C8.fnScope_by (by decide +kernel)
theorem sc_law : FnScope ["script", "stream", "turn", "great", "rules", "word", "steps", "thing", "which"] ["script"] (defScope s_law) := C8.fnScope_by (by decide +kernel)
section
variable {P : Program} {w : World} {K : PySem.W.Frag} {mg : Str → Option Value} {base : Heap}
theorem er_BadBook (S : Env P w K mg base) : Er P w K mg base 1 "BadBook" (He.ga K "BadBook") "thing" := errB_ok (S.ex_ 0 rfl) S.glo_BadBook (by
  obtain ⟨fd, F⟩ := S.fun_BadBook___init__
  have b : L2.Binds K fd ["self", "thing"] [] := F.bindsN fun _ _ _ _ _ _ us hl => match us, hl with | [_, _], _ => rfl
  exact ⟨fd, b, F.ok (CX := L2.CX P w) sc_BadBook___init__ (ini_len _ _) fun cdv A outer s H vs Q E hr h => ⟨_, pss_one (ps_ost (pv 0) (pv 1)), ini_body (errB_ox (S.ex_ 0 rfl)) (errB_no (S.ex_ 0 rfl)) h rfl⟩⟩)
theorem er_BadIndex (S : Env P w K mg base) : Er P w K mg base 1 "BadIndex" (He.ga K "BadIndex") "thing" := errB_ok (S.ex_ 1 rfl) S.glo_BadIndex (by
  obtain ⟨fd, F⟩ := S.fun_BadIndex___init__
  have b : L2.Binds K fd ["self", "thing"] [] := F.bindsN fun _ _ _ _ _ _ us hl => match us, hl with | [_, _], _ => rfl
  exact ⟨fd, b, F.ok (CX := L2.CX P w) sc_BadIndex___init__ (ini_len _ _) fun cdv A outer s H vs Q E hr h => ⟨_, pss_one (ps_ost (pv 0) (pv 1)), ini_body (errB_ox (S.ex_ 1 rfl)) (errB_no (S.ex_ 1 rfl)) h rfl⟩⟩)
theorem er_BadNumber (S : Env P w K mg base) : Er P w K mg base 1 "BadNumber" (He.ga K "BadNumber") "thing" := errB_ok (S.ex_ 2 rfl) S.glo_BadNumber (by
  obtain ⟨fd, F⟩ := S.fun_BadNumber___init__
  have b : L2.Binds K fd ["self", "thing"] [] := F.bindsN fun _ _ _ _ _ _ us hl => match us, hl with | [_, _], _ => rfl
  exact ⟨fd, b, F.ok (CX := L2.CX P w) sc_BadNumber___init__ (ini_len _ _) fun cdv A outer s H vs Q E hr h => ⟨_, pss_one (ps_ost (pv 0) (pv 1)), ini_body (errB_ox (S.ex_ 2 rfl)) (errB_no (S.ex_ 2 rfl)) h rfl⟩⟩)
theorem er_BadRules (S : Env P w K mg base) : Er P w K mg base 1 "BadRules" (He.ga K "BadRules") "index" := errB_ok (S.ex_ 3 rfl) S.glo_BadRules (by
  obtain ⟨fd, F⟩ := S.fun_BadRules___init__
  have b : L2.Binds K fd ["self", "index"] [] := F.bindsN fun _ _ _ _ _ _ us hl => match us, hl with | [_, _], _ => rfl
  exact ⟨fd, b, F.ok (CX := L2.CX P w) sc_BadRules___init__ (ini_len _ _) fun cdv A outer s H vs Q E hr h => ⟨_, pss_one (ps_ost (pv 0) (pv 1)), ini_body (errB_ox (S.ex_ 3 rfl)) (errB_no (S.ex_ 3 rfl)) h rfl⟩⟩)
theorem er_BadSteps (S : Env P w K mg base) : Er P w K mg base 1 "BadSteps" (He.ga K "BadSteps") "index" := errB_ok (S.ex_ 4 rfl) S.glo_BadSteps (by
  obtain ⟨fd, F⟩ := S.fun_BadSteps___init__
  have b : L2.Binds K fd ["self", "index"] [] := F.bindsN fun _ _ _ _ _ _ us hl => match us, hl with | [_, _], _ => rfl
  exact ⟨fd, b, F.ok (CX := L2.CX P w) sc_BadSteps___init__ (ini_len _ _) fun cdv A outer s H vs Q E hr h => ⟨_, pss_one (ps_ost (pv 0) (pv 1)), ini_body (errB_ox (S.ex_ 4 rfl)) (errB_no (S.ex_ 4 rfl)) h rfl⟩⟩)
theorem er_BadWay (S : Env P w K mg base) : Er P w K mg base 1 "BadWay" (He.ga K "BadWay") "thing" := errB_ok (S.ex_ 5 rfl) S.glo_BadWay (by
  obtain ⟨fd, F⟩ := S.fun_BadWay___init__
  have b : L2.Binds K fd ["self", "thing"] [] := F.bindsN fun _ _ _ _ _ _ us hl => match us, hl with | [_, _], _ => rfl
  exact ⟨fd, b, F.ok (CX := L2.CX P w) sc_BadWay___init__ (ini_len _ _) fun cdv A outer s H vs Q E hr h => ⟨_, pss_one (ps_ost (pv 0) (pv 1)), ini_body (errB_ox (S.ex_ 5 rfl)) (errB_no (S.ex_ 5 rfl)) h rfl⟩⟩)
theorem er_BadWord (S : Env P w K mg base) : Er P w K mg base 1 "BadWord" (He.ga K "BadWord") "thing" := errB_ok (S.ex_ 6 rfl) S.glo_BadWord (by
  obtain ⟨fd, F⟩ := S.fun_BadWord___init__
  have b : L2.Binds K fd ["self", "thing"] [] := F.bindsN fun _ _ _ _ _ _ us hl => match us, hl with | [_, _], _ => rfl
  exact ⟨fd, b, F.ok (CX := L2.CX P w) sc_BadWord___init__ (ini_len _ _) fun cdv A outer s H vs Q E hr h => ⟨_, pss_one (ps_ost (pv 0) (pv 1)), ini_body (errB_ox (S.ex_ 6 rfl)) (errB_no (S.ex_ 6 rfl)) h rfl⟩⟩)
end
def names0 : List PySem.Str := ["is_word", "is_integer", "is_number", "is_row", "is_step", "need_word", "sides", "can_do", "word_behind", "is_rule", "need_book", "need_way", "need_index", "wires_and_end", "wires", "wire_rows"]
def names1 : List PySem.Str := ["need_letter", "place_across", "comes_from", "goes_to", "_law_a_book", "_law_a_word", "_law_a_case", "_law_a_great", "_law_w_source", "_law_w_goal", "_law_w_can", "_law_w_done", "_law_w_end", "_law_w_all", "_law_w_way", "_law_w_is"]
def names2 : List PySem.Str := ["_law_start", "_law_draw", "_law_pick", "_law_mixed", "_law_same", "_law_spoilt", "_law_is_once", "_law_apart", "_law_labels", "_law_number", "_law_taken", "_law_goal_of", "_law_found", "_law_refused_right", "_law_told_or", "_law_wires_right"]
def names3 : List PySem.Str := ["WayError", "BadBook", "BadIndex", "BadNumber", "BadRules", "BadSteps", "BadWay", "BadWord", "Book", "Way", "TURNS"]
def names : List PySem.Str := names0 ++ names1 ++ names2 ++ names3
end K05
namespace K05
open PySem PySem.Spec PyProof.Rows L2 Evl WB
section
variable {P : Program} {w : World} {K : PySem.W.Frag} {mg : Str → Option Value} {base : Heap}
def c_is_word (ds : List PyData) (r : PyData) : Prop := ∃ z : Str, ds = [.str z] ∧ r = .bool (isW z)
theorem cl_is_word (S : Env P w K mg base) : Cl P w K mg base 1 "is_word" ["thing"] (SpD c_is_word) := mk_cl S.fun_is_word S.glo_is_word sc_is_word (fun _ _ _ _ _ _ us hl => match us, hl with | [_], _ => rfl) (SpD.len fun _ _ ⟨_, e, _⟩ => e ▸ rfl) fun cdv A outer s H vs Q E hr h => by
  have nd := sc_is_word.nd
  refine ⟨_, (pss_cons (ps_if (pt_not (pt_val (pe_callB (r := rIsi K) (id := "isinstance") call_isi (by rfl) S.free_isinstance (by decide +kernel) (pa_cons (pv 0) (pa_cons (pe_bltn (v := V.ty "str") (by rfl) S.free_str (by decide +kernel) rfl) pa_nil))))) (pss_one (ps_ret pe_bl)) pss_nil)
    (pss_one (ps_ret (pe_or (pe_cmpR op_eq (pv 0) pe_str (nomark _)) (pe_one (pe_and (pe_bm0K (K := K) rfl PySem.F.plainAttrs_str PySem.F.slot_str_isascii PySem.F.type_str_isascii mt_isascii (pv 0)) (pe_and (pe_bm0K (K := K) rfl PySem.F.plainAttrs_str PySem.F.slot_str_isalpha PySem.F.type_str_isalpha mt_isalpha (pv 0)) (pe_one (pe_bm0K (K := K) rfl PySem.F.plainAttrs_str PySem.F.slot_str_islower PySem.F.type_str_islower mt_islower (pv 0)))))))))), ?_⟩
  obtain ⟨F0, ds, r, e0, hd, hc, hQ⟩ := h
  have kn := Kn.start e0
  obtain ⟨z, rfl, rfl⟩ := hc
  obtain ⟨x, rfl, hx⟩ := da1_ hd
  refine (q_ifF kn (et_not (t_B (d_ss (d_var rfl hx)))) rfl fun F1 H1 s1 => ?_)
  have hx := hx.ex s1.ff
  refine k_fin (Q := Q) hQ s1.kn ?_
  by_cases h0 : z = ""
  · refine (d_or (b := true) (d_eq (d_var rfl hx) d_str) fun e => ?_).is ?_
    · rw [h0] at e
      exact absurd e (by decide)
    · rw [h0, isW_nil, Bool.or_true]
  · have hl : z.length ≠ 0 := fun e => h0 (by
      obtain ⟨cps⟩ := z
      have : cps = #[] := Array.eq_empty_of_size_eq_zero e
      rw [this]
      rfl)
    refine (d_or (d_eq (d_var rfl hx) d_str) fun _ => d_and (d_str0 (f := fun a => .bl (Txt.isascii a)) (d_var rfl hx) rfl) fun _ => d_and (d_str0 (f := fun a => .bl (Txt.isalpha a)) (d_var rfl hx) rfl) fun _ => d_str0 (f := fun a => .bl (Txt.islower a)) (d_var rfl hx) rfl).is ?_
    rw [word_tests z hl, decide_eq_false (fun e => h0 (V.str.inj e)), Bool.false_or]
/-- a whole number, no truth -/
def isInt : PyData → Bool
  | .int _ => true
  | _ => false
def isBl : PyData → Bool
  | .bool _ => true
  | _ => false
def isIntB : PyData → Bool
  | .int _ => true
  | .bool _ => true
  | _ => false
def isNum : PyData → Bool
  | .int i => decide (0 ≤ i)
  | _ => false
theorem int_kit (d : PyData) (hi : isIns d = false) : PySem.W.kitOne K (tyD d) (.type "int") = some (isIntB d) := by
  cases d with
  | dict kvs =>
    cases kvs with
    | nil => exact kit_ty (r := false) (by decide +kernel)
    | cons p r => cases hi
  | none => exact kit_ty (r := false) (by decide +kernel)
  | bool _ => exact kit_ty (r := true) (by decide +kernel)
  | int _ => exact kit_ty (r := true) (by decide +kernel)
  | str _ => exact kit_ty (r := false) (by decide +kernel)
  | list _ => exact kit_ty (r := false) (by decide +kernel)
  | tuple _ => exact kit_ty (r := false) (by decide +kernel)
theorem bool_kit (d : PyData) (hi : isIns d = false) : PySem.W.kitOne K (tyD d) (.type "bool") = some (isBl d) := by
  cases d with
  | dict kvs =>
    cases kvs with
    | nil => exact kit_ty (r := false) (by decide +kernel)
    | cons p r => cases hi
  | none => exact kit_ty (r := false) (by decide +kernel)
  | bool _ => exact kit_ty (r := true) (by decide +kernel)
  | int _ => exact kit_ty (r := false) (by decide +kernel)
  | str _ => exact kit_ty (r := false) (by decide +kernel)
  | list _ => exact kit_ty (r := false) (by decide +kernel)
  | tuple _ => exact kit_ty (r := false) (by decide +kernel)
def c_is_integer (ds : List PyData) (r : PyData) : Prop := ∃ d, ds = [d] ∧ isIns d = false ∧ r = .bool (isInt d)
theorem cl_is_integer (S : Env P w K mg base) : Cl P w K mg base 1 "is_integer" ["thing"] (SpD c_is_integer) := mk_cl S.fun_is_integer S.glo_is_integer sc_is_integer (fun _ _ _ _ _ _ us hl => match us, hl with | [_], _ => rfl) (SpD.len fun _ _ ⟨_, e, _⟩ => e ▸ rfl) fun cdv A outer s H vs Q E hr h => by
  have nd := sc_is_integer.nd
  refine ⟨_, (pss_one (ps_ret (pe_and (pe_callB (r := rIsi K) (id := "isinstance") call_isi (by rfl) S.free_isinstance (by decide +kernel) (pa_cons (pv 0) (pa_cons (pe_bltn (v := V.ty "int") (by rfl) S.free_int (by decide +kernel) rfl) pa_nil))) (pe_one (pe_not (pe_callB (r := rIsi K) (id := "isinstance") call_isi (by rfl) S.free_isinstance (by decide +kernel) (pa_cons (pv 0) (pa_cons (pe_bltn (v := V.ty "bool") (by rfl) S.free_bool (by decide +kernel) rfl) pa_nil)))))))), ?_⟩
  obtain ⟨F0, ds, r, e0, hd, hc, hQ⟩ := h
  have kn := Kn.start e0
  obtain ⟨d, rfl, hi, rfl⟩ := hc
  obtain ⟨x, rfl, hx⟩ := da1_ hd
  refine k_fin (Q := Q) hQ kn ((d_and (d_isi (d_var rfl hx) (ty_of hi) (int_kit d hi)) fun _ => d_not (d_isi (d_var rfl hx) (ty_of hi) (bool_kit d hi))).is ?_)
  cases d <;> rfl
def c_is_number (ds : List PyData) (r : PyData) : Prop := ∃ d, ds = [d] ∧ isIns d = false ∧ r = .bool (isNum d)
theorem cl_is_number (S : Env P w K mg base) : Cl P w K mg base 2 "is_number" ["thing"] (SpD c_is_number) := mk_cl S.fun_is_number S.glo_is_number sc_is_number (fun _ _ _ _ _ _ us hl => match us, hl with | [_], _ => rfl) (SpD.len fun _ _ ⟨_, e, _⟩ => e ▸ rfl) fun cdv A outer s H vs Q E hr h => by
  have nd := sc_is_number.nd
  refine ⟨_, (pss_one (ps_ret (pe_and (pe_cl (cl_is_integer S) hr (by decide) pass_none (by rfl) (pa_cons (pv 0) pa_nil)) (pe_one (pe_cmpR op_ge (pv 0) pe_int (nomark _)))))), ?_⟩
  obtain ⟨F0, ds, r, e0, hd, hc, hQ⟩ := h
  have kn := Kn.start e0
  obtain ⟨d, rfl, hi, rfl⟩ := hc
  obtain ⟨x, rfl, hx⟩ := da1_ hd
  by_cases hd' : isInt d = true
  · cases d with
    | int i => exact k_fin (Q := Q) hQ kn ((d_and (d_call (c := c_is_integer) (da_cons (d_var rfl hx) da_nil) ⟨.int i, rfl, rfl, rfl⟩) fun _ => d_cmp (d_var rfl hx) d_int).is (by show PyData.bool (true && decide (0 ≤ i)) = PyData.bool (decide (0 ≤ i)); rw [Bool.true_and]))
    | _ => cases hd'
  · have z : isInt d = false := by cases q : isInt d with
      | true => exact absurd q hd'
      | false => rfl
    refine k_fin (Q := Q) hQ kn ((d_and (a := false) (b := false) (d_call (c := c_is_integer) (da_cons (d_var rfl hx) da_nil) ⟨d, rfl, hi, by rw [z]⟩) fun z => nomatch z).is ?_)
    cases d with
    | int i => exact absurd rfl hd'
    | _ => rfl
/-- lists, tuples -/
def isRow : PyData → Bool
  | .list _ => true
  | .tuple _ => true
  | _ => false
theorem row_kit (d : PyData) (hi : isIns d = false) : PySem.W.kitAny K (tyD d) [.type "list", .type "tuple"] = some (isRow d) := by
  cases d with
  | dict kvs =>
    cases kvs with
    | nil => exact kitAny_cons (b := false) (kit_ty (by decide +kernel)) (fun _ => kitAny_cons (b := false) (kit_ty (by decide +kernel)) (fun _ => kitAny_nil) (fun z => nomatch z)) (fun z => nomatch z)
    | cons p r => cases hi
  | list ds => exact kitAny_cons (b := true) (kit_ty (by decide +kernel)) (fun z => nomatch z) (fun _ => rfl)
  | tuple ds => exact kitAny_cons (b := false) (kit_ty (by decide +kernel)) (fun _ => kitAny_cons (b := true) (kit_ty (by decide +kernel)) (fun z => nomatch z) (fun _ => rfl)) (fun z => nomatch z)
  | _ => exact kitAny_cons (b := false) (kit_ty (by decide +kernel)) (fun _ => kitAny_cons (b := false) (kit_ty (by decide +kernel)) (fun _ => kitAny_nil) (fun z => nomatch z)) (fun z => nomatch z)
def c_is_row (ds : List PyData) (r : PyData) : Prop := ∃ d, ds = [d] ∧ isIns d = false ∧ r = .bool (isRow d)
theorem cl_is_row (S : Env P w K mg base) : Cl P w K mg base 1 "is_row" ["thing"] (SpD c_is_row) := mk_cl S.fun_is_row S.glo_is_row sc_is_row (fun _ _ _ _ _ _ us hl => match us, hl with | [_], _ => rfl) (SpD.len fun _ _ ⟨_, e, _⟩ => e ▸ rfl) fun cdv A outer s H vs Q E hr h => by
  have nd := sc_is_row.nd
  refine ⟨_, (pss_one (ps_ret (pe_callB (r := rIsiT K) (id := "isinstance") call_isiT (by rfl) S.free_isinstance (by decide +kernel) (pa_cons (pv 0) (pa_cons (pe_tup (pa_cons (pe_bltn (v := V.ty "list") (by rfl) S.free_list (by decide +kernel) rfl) (pa_cons (pe_bltn (v := V.ty "tuple") (by rfl) S.free_tuple (by decide +kernel) rfl) pa_nil))) pa_nil))))), ?_⟩
  obtain ⟨F0, ds, r, e0, hd, hc, hQ⟩ := h
  have kn := Kn.start e0
  obtain ⟨d, rfl, hi, rfl⟩ := hc
  obtain ⟨x, rfl, hx⟩ := da1_ hd
  exact k_fin (Q := Q) hQ kn (d_isiT2 (d_var rfl hx) (ty_of hi) (row_kit d hi))
theorem num_nat (n : Nat) : isNum (.int (n : Nat)) = true := decide_eq_true (Int.natCast_nonneg n)
def c_is_step (ds : List PyData) (r : PyData) : Prop := ∃ s : WStep, ds = [stepD s] ∧ r = .bool true
theorem cl_is_step (S : Env P w K mg base) : Cl P w K mg base 3 "is_step" ["thing"] (SpD c_is_step) := mk_cl S.fun_is_step S.glo_is_step sc_is_step (fun _ _ _ _ _ _ us hl => match us, hl with | [_], _ => rfl) (SpD.len fun _ _ ⟨_, e, _⟩ => e ▸ rfl) fun cdv A outer s H vs Q E hr h => by
  have nd := sc_is_step.nd
  refine ⟨_, (pss_cons (ps_if (PW.pt (pw_or (pt_not (pt_val (pe_cl (cl_is_row S) hr (by decide) pass_none (by rfl) (pa_cons (pv 0) pa_nil)))) (pw_or1 (pt_cmpR op_ne (pe_callB (r := rLenQ K) (id := "len") call_len_seq (by rfl) S.free_len (by decide +kernel) (pa_cons (pv 0) pa_nil)) pe_int (nomark _))))) (pss_one (ps_ret pe_bl)) pss_nil)
    (pss_cons (ps_asg (pv 0) (pg_tupK (K := K) (n := 3) rfl rfl (pgs_cons (pg_name (i := 1) nd rfl (by first | exact Or.inl rfl | exact Or.inr rfl)) (pgs_cons (pg_name (i := 2) nd rfl (by first | exact Or.inl rfl | exact Or.inr rfl)) (pgs_cons (pg_name (i := 3) nd rfl (by first | exact Or.inl rfl | exact Or.inr rfl)) pgs_nil)))))
    (pss_one (ps_ret (pe_and (pe_cl (cl_is_number S) hr (by decide) pass_none (by rfl) (pa_cons (pv 1) pa_nil)) (pe_and (pe_cl (cl_is_number S) hr (by decide) pass_none (by rfl) (pa_cons (pv 2) pa_nil)) (pe_one (pe_cmpR (r := rIn K false) op_in_seq (pv 3) (pe_glob (v := V.ref (He.ga K "TURNS")) (by rfl) S.glo_TURNS rfl) (by rfl))))))))), ?_⟩
  obtain ⟨F0, ds, r, e0, hd, hc, hQ⟩ := h
  have kn := Kn.start e0
  obtain ⟨⟨p, n, b⟩, rfl, rfl⟩ := hc
  obtain ⟨x, rfl, hx⟩ := da1_ hd
  refine q_ifF kn (et_or (et_not (t_B (d_call (da_cons (d_var rfl hx) da_nil) ⟨_, rfl, rfl, rfl⟩))) fun _ => t_val (d_ne (d_lenT (d_var rfl hx)) d_int)) rfl fun F1 H1 s1 => ?_
  have hx := hx.ex s1.ff
  refine q_unp3 s1.kn (d_var rfl hx) fun v1 v2 v3 F2 H2 s2 h1 h2 h3 => ?_
  refine k_fin (Q := Q) hQ s2.kn ((d_and (d_call (da_cons (d_var rfl h1) da_nil) ⟨_, rfl, rfl, rfl⟩) fun _ => d_and (d_call (da_cons (d_var rfl h2) da_nil) ⟨_, rfl, rfl, rfl⟩) fun _ => d_inK (d_var rfl h3) rfl rfl rfl (S.con_TURNS)).is ?_)
  rw [num_nat p, num_nat n]
  cases b <;> rfl
def c_sides (ds : List PyData) (r : PyData) : Prop := ∃ (rs : List Rule) (s : WStep) (q : Rule), ds = [rulesD rs, stepD s] ∧ rs[s.2.1]? = some q ∧ r = .tuple [.str (src q s.2.2), .str (gol q s.2.2)]
theorem cl_sides (S : Env P w K mg base) : Cl P w K mg base 1 "sides" ["rules", "step"] (SpD c_sides) := mk_cl S.fun_sides S.glo_sides sc_sides (fun _ _ _ _ _ _ us hl => match us, hl with | [_, _], _ => rfl) (SpD.len fun _ _ ⟨_, _, _, e, _⟩ => e ▸ rfl) fun cdv A outer s H vs Q E hr h => by
  have nd := sc_sides.nd
  refine ⟨_, (pss_cons (ps_asg (pe_ix (r := rIxL K) ix_list (pv 0) (pe_ix (r := rIxT K) ix_tup (pv 1) pe_int (fun _ _ => rfl)) (fun _ _ => rfl)) (pg_tupK (K := K) (n := 2) rfl rfl (pgs_cons (pg_name (i := 2) nd rfl (by first | exact Or.inl rfl | exact Or.inr rfl)) (pgs_cons (pg_name (i := 3) nd rfl (by first | exact Or.inl rfl | exact Or.inr rfl)) pgs_nil))))
    (pss_cons (ps_if (pt_cmpR op_eq (pe_ix (r := rIxT K) ix_tup (pv 1) pe_int (fun _ _ => rfl)) pe_str (nomark _)) (pss_one (ps_ret (pe_tup (pa_cons (pv 2) (pa_cons (pv 3) pa_nil))))) pss_nil)
    (pss_one (ps_ret (pe_tup (pa_cons (pv 3) (pa_cons (pv 2) pa_nil))))))), ?_⟩
  obtain ⟨F0, ds, r, e0, hd, hc, hQ⟩ := h
  have kn := Kn.start e0
  obtain ⟨rs, ⟨p, n, b⟩, q, rfl, hq, rfl⟩ := hc
  obtain ⟨x, y, rfl, hx, hy⟩ := da2_ hd
  refine (q_unp2 kn (d_rul (d_var rfl hx) (d_var rfl hy) hq) fun v1 v2 F1 H1 s1 h1 h2 => ?_)
  have hy := hy.ex s1.ff
  refine (q_if s1.kn (t_on (d_var rfl hy)) (fun e F2 H2 s2 => ?_) fun e F2 H2 s2 => ?_)
  · cases e
    exact k_fin (Q := Q) hQ s2.kn (d_tup (da_cons (d_var rfl (h1.ex s2.ff)) (da_cons (d_var rfl (h2.ex s2.ff)) da_nil)))
  · cases e
    exact k_fin (Q := Q) hQ s2.kn (d_tup (da_cons (d_var rfl (h2.ex s2.ff)) (da_cons (d_var rfl (h1.ex s2.ff)) da_nil)))
/-- a word, rules, a step: of lengths that go -/
def c_can (ds : List PyData) (r : PyData) : Prop := ∃ (rs : List Rule) (z : Str) (s : WStep) (q : Rule), ds = [rulesD rs, .str z, stepD s] ∧ z.length ≤ 100000 ∧ (src q s.2.2).length ≤ 1000 ∧ rs[s.2.1]? = some q ∧ r = .bool (canR q z s)
theorem cl_can_do (S : Env P w K mg base) : Cl P w K mg base 4 "can_do" ["rules", "word", "thing"] (SpD c_can) := mk_cl S.fun_can_do S.glo_can_do sc_can_do (fun _ _ _ _ _ _ us hl => match us, hl with | [_, _, _], _ => rfl) (SpD.len fun _ _ ⟨_, _, _, _, e, _⟩ => e ▸ rfl) fun cdv A outer s H vs Q E hr h => by
  have nd := sc_can_do.nd
  refine ⟨_, (pss_cons (ps_if (PW.pt (pw_or (pt_not (pt_val (pe_cl (cl_is_step S) hr (by decide) pass_none (by rfl) (pa_cons (pv 2) pa_nil)))) (pw_or1 (pt_cmpR op_ge (pe_ix (r := rIxT K) ix_tup (pv 2) pe_int (fun _ _ => rfl)) (pe_callB (r := rLenQ K) (id := "len") call_len_seq (by rfl) S.free_len (by decide +kernel) (pa_cons (pv 0) pa_nil)) (nomark _))))) (pss_one (ps_ret pe_bl)) pss_nil)
    (pss_cons (ps_set (i := 3) nd rfl (by first | exact Or.inl rfl | exact Or.inr rfl) (pe_ix (r := rIxT K) ix_tup (pv 2) pe_int (fun _ _ => rfl)))
    (pss_cons (ps_asg (pe_cl (cl_sides S) hr (by decide) pass_none (by rfl) (pa_cons (pv 0) (pa_cons (pv 2) pa_nil))) (pg_tupK (K := K) (n := 2) rfl rfl (pgs_cons (pg_name (i := 4) nd rfl (by first | exact Or.inl rfl | exact Or.inr rfl)) (pgs_cons (pg_name (i := 5) nd rfl (by first | exact Or.inl rfl | exact Or.inr rfl)) pgs_nil))))
    (pss_one (ps_ret (pe_cmpR op_eq (pe_slice (r := rSlS) sl_str (pv 1) (po_some (pv 3)) (po_some (pe_op op_add (pv 3) (pe_callB (r := rLenSQ) (id := "len") call_len_str (by rfl) S.free_len (by decide +kernel) (pa_cons (pv 4) pa_nil))))) (pv 4) (nomark _))))))), ?_⟩
  obtain ⟨F0, ds, r, e0, hd, hc, hQ⟩ := h
  have kn := Kn.start e0
  obtain ⟨rs, z, ⟨p, n, b⟩, q, rfl, hz, hl, hq, rfl⟩ := hc
  obtain ⟨x, y, u, rfl, hx, hy, hu⟩ := da3_ hd
  have hlt : n < rs.length := (List.getElem?_eq_some_iff.mp hq).1
  refine q_ifF kn (et_or (et_not (t_B (d_call (da_cons (d_var rfl hu) da_nil) ⟨_, rfl, rfl⟩))) fun _ => t_val (d_cmp (d_st1 (d_var rfl hu)) (d_lenL (d_var rfl hx)))) ?_ fun F1 H1 s1 => ?_
  · rw [List.length_map]
    show (false || decide ((rs.length : Int) ≤ (n : Nat))) = false
    rw [decide_eq_false (by omega)]
    rfl
  refine q_asg s1.kn (d_st0 (d_var rfl (hu.ex s1.ff))) fun v F2 H2 s2 hv => ?_
  have t2 := s1.trans s2
  refine q_unp2 s2.kn (d_call (da_cons (d_var rfl (hx.ex t2.ff)) (da_cons (d_var rfl (hu.ex t2.ff)) da_nil)) ⟨_, _, _, rfl, hq, rfl⟩) fun v1 v2 F3 H3 s3 h1 h2 => ?_
  have t3 := t2.trans s3
  exact k_fin (Q := Q) hQ s3.kn (d_eq (d_slS (d_var rfl (hy.ex t3.ff)) (do_some (d_var rfl (hv.ex s3.ff))) (do_some (d_add (d_var rfl (hv.ex s3.ff)) (d_lenS (d_var rfl h1) (szS (by omega))))) (szS hz)) (d_var rfl h1))
end
end K05
namespace K05
open PySem PySem.Spec PyProof.Rows L2 Evl WB
section
variable {P : Program} {w : World} {K : PySem.W.Frag} {mg : Str → Option Value} {base : Heap}
def c_need_word (ds : List PyData) (r : PyData) : Prop := ∃ z : Str, ds = [.str z] ∧ isW z = true ∧ r = .none
theorem cl_need_word (S : Env P w K mg base) : Cl P w K mg base 3 "need_word" ["thing"] (SpD c_need_word) := mk_cl S.fun_need_word S.glo_need_word sc_need_word (fun _ _ _ _ _ _ us hl => match us, hl with | [_], _ => rfl) (SpD.len fun _ _ ⟨_, e, _⟩ => e ▸ rfl) fun cdv A outer s H vs Q E hr h => by
  have nd := sc_need_word.nd
  refine ⟨_, (pss_one (ps_if (pt_not (pt_val (pe_cl (cl_is_word S) hr (by decide) (passes_call (takes_of rfl rfl rfl rfl) fun _ _ _ _ h => h) (by rfl) (pa_cons (pv 0) pa_nil)))) (pss_one (ps_raise1 (er_BadWord S) hr (by decide) rfl (takes_of rfl rfl rfl rfl) (by rfl) (pv 0))) pss_nil)), ?_⟩
  obtain ⟨F0, ds, r, e0, hd, hc, hQ⟩ := h
  have kn := Kn.start e0
  obtain ⟨z, rfl, hw, rfl⟩ := hc
  obtain ⟨x, rfl, hx⟩ := da1_ hd
  refine k_ifF kn (et_not (t_B (d_call (da_cons (d_var rfl hx) da_nil) ⟨_, rfl, rfl⟩))) (by rw [hw]; rfl) fun F1 H1 s1 => ?_
  exact k_done hQ s1.kn .non
def c_behind (ds : List PyData) (r : PyData) : Prop := ∃ (rs : List Rule) (z : Str) (s : WStep) (q : Rule), ds = [rulesD rs, .str z, stepD s] ∧ z.length ≤ 100000 ∧ (src q s.2.2).length ≤ 1000 ∧ (gol q s.2.2).length ≤ 1000 ∧ rs[s.2.1]? = some q ∧ r = .str (doneR q z s)
theorem cl_word_behind (S : Env P w K mg base) : Cl P w K mg base 2 "word_behind" ["rules", "word", "step"] (SpD c_behind) := mk_cl S.fun_word_behind S.glo_word_behind sc_word_behind (fun _ _ _ _ _ _ us hl => match us, hl with | [_, _, _], _ => rfl) (SpD.len fun _ _ ⟨_, _, _, _, e, _⟩ => e ▸ rfl) fun cdv A outer s H vs Q E hr h => by
  have nd := sc_word_behind.nd
  refine ⟨_, (pss_cons (ps_asg (pe_cl (cl_sides S) hr (by decide) pass_none (by rfl) (pa_cons (pv 0) (pa_cons (pv 2) pa_nil))) (pg_tupK (K := K) (n := 2) rfl rfl (pgs_cons (pg_name (i := 3) nd rfl (by first | exact Or.inl rfl | exact Or.inr rfl)) (pgs_cons (pg_name (i := 4) nd rfl (by first | exact Or.inl rfl | exact Or.inr rfl)) pgs_nil))))
    (pss_cons (ps_set (i := 5) nd rfl (by first | exact Or.inl rfl | exact Or.inr rfl) (pe_ix (r := rIxT K) ix_tup (pv 2) pe_int (fun _ _ => rfl)))
    (pss_one (ps_ret (pe_op op_add_str (pe_op op_add_str (pe_slice (r := rSlS) sl_str (pv 1) po_none (po_some (pv 5))) (pv 4)) (pe_slice (r := rSlS) sl_str (pv 1) (po_some (pe_op op_add (pv 5) (pe_callB (r := rLenSQ) (id := "len") call_len_str (by rfl) S.free_len (by decide +kernel) (pa_cons (pv 3) pa_nil)))) po_none)))))), ?_⟩
  obtain ⟨F0, ds, r, e0, hd, hc, hQ⟩ := h
  have kn := Kn.start e0
  obtain ⟨rs, z, ⟨p, n, b⟩, q, rfl, hz, hl, hg, hq, rfl⟩ := hc
  obtain ⟨x, y, u, rfl, hx, hy, hu⟩ := da3_ hd
  refine q_unp2 kn (d_call (da_cons (d_var rfl hx) (da_cons (d_var rfl hu) da_nil)) ⟨_, _, _, rfl, hq, rfl⟩) fun v1 v2 F1 H1 s1 h1 h2 => ?_
  refine q_asg s1.kn (d_st0 (d_var rfl (hu.ex s1.ff))) fun v F2 H2 s2 hv => ?_
  have t2 := s1.trans s2
  have c1 := cutS_len_le z none (some ((p : Nat) : Int)) hz
  have c2 := cutS_len_le z (some ((p : Nat) + ((src q b).length : Nat) : Int)) none hz
  have hg' : (gol q b).length ≤ 1000 := hg
  refine k_fin (Q := Q) hQ s2.kn (d_cat (d_cat (d_slS (d_var rfl (hy.ex t2.ff)) do_none (do_some (d_var rfl hv)) (szS hz)) (d_var rfl (h2.ex s2.ff)) ?_) (d_slS (d_var rfl (hy.ex t2.ff)) (do_some (d_add (d_var rfl hv) (d_lenS (d_var rfl (h1.ex s2.ff)) (szS (by have hl' : (src q b).length ≤ 1000 := hl; exact Nat.le_trans hl' (by decide)))))) do_none (szS hz)) ?_)
  · exact Nat.le_trans (Nat.add_le_add c1 hg') (by decide)
  · rw [app_len]
    exact Nat.le_trans (Nat.add_le_add (Nat.add_le_add c1 hg') c2) (by decide)
def c_is_rule (ds : List PyData) (r : PyData) : Prop := ∃ q : Rule, ds = [ruleD q] ∧ RuOk q ∧ r = .bool true
theorem ne_nil {z : Str} (h : z.length ≠ 0) : (!decide (V.str z = V.str "")) = true := by
  rw [decide_eq_false fun e => h (by rw [V.str.inj e]; rfl)]
  rfl
theorem cl_is_rule (S : Env P w K mg base) : Cl P w K mg base 2 "is_rule" ["thing"] (SpD c_is_rule) := mk_cl S.fun_is_rule S.glo_is_rule sc_is_rule (fun _ _ _ _ _ _ us hl => match us, hl with | [_], _ => rfl) (SpD.len fun _ _ ⟨_, e, _⟩ => e ▸ rfl) fun cdv A outer s H vs Q E hr h => by
  have nd := sc_is_rule.nd
  refine ⟨_, (pss_cons (ps_if (PW.pt (pw_or (pt_not (pt_val (pe_cl (cl_is_row S) hr (by decide) pass_none (by rfl) (pa_cons (pv 0) pa_nil)))) (pw_or1 (pt_cmpR op_ne (pe_callB (r := rLenQ K) (id := "len") call_len_seq (by rfl) S.free_len (by decide +kernel) (pa_cons (pv 0) pa_nil)) pe_int (nomark _))))) (pss_one (ps_ret pe_bl)) pss_nil)
    (pss_cons (ps_asg (pv 0) (pg_tupK (K := K) (n := 2) rfl rfl (pgs_cons (pg_name (i := 1) nd rfl (by first | exact Or.inl rfl | exact Or.inr rfl)) (pgs_cons (pg_name (i := 2) nd rfl (by first | exact Or.inl rfl | exact Or.inr rfl)) pgs_nil))))
    (pss_one (ps_ret (pe_and (pe_cl (cl_is_word S) hr (by decide) pass_none (by rfl) (pa_cons (pv 1) pa_nil)) (pe_and (pe_cl (cl_is_word S) hr (by decide) pass_none (by rfl) (pa_cons (pv 2) pa_nil)) (pe_and (pe_cmpR op_ne (pv 1) pe_str (nomark _)) (pe_one (pe_cmpR op_ne (pv 2) pe_str (nomark _)))))))))), ?_⟩
  obtain ⟨F0, ds, r, e0, hd, hc, hQ⟩ := h
  have kn := Kn.start e0
  obtain ⟨⟨l, r⟩, rfl, ok, rfl⟩ := hc
  obtain ⟨x, rfl, hx⟩ := da1_ hd
  refine q_ifF kn (et_or (et_not (t_B (d_call (da_cons (d_var rfl hx) da_nil) ⟨_, rfl, rfl, rfl⟩))) fun _ => t_val (d_ne (d_lenT (d_var rfl hx)) d_int)) rfl fun F1 H1 s1 => ?_
  refine q_unp2 s1.kn (d_var rfl (hx.ex s1.ff)) fun v1 v2 F2 H2 s2 h1 h2 => ?_
  refine k_fin (Q := Q) hQ s2.kn ((d_and (d_call (da_cons (d_var rfl h1) da_nil) ⟨_, rfl, rfl⟩) fun _ => d_and (d_call (da_cons (d_var rfl h2) da_nil) ⟨_, rfl, rfl⟩) fun _ => d_and (d_ne (d_var rfl h1) d_str) fun _ => d_ne (d_var rfl h2) d_str).is ?_)
  rw [ok.w1, ok.w2, ne_nil ok.n1, ne_nil ok.n2]
  rfl
abbrev BkArgs : List Rule → Hp → List V → Prop := fun rs H vs => BkOk rs ∧ ∃ v, vs = [v] ∧ Dt H v (rulesD rs)
theorem mc_Book (S : Env P w K mg base) : Mc P w K mg base 4 "Book" (He.ga K "Book") ["self", "rules"] (spNew (He.ga K "Book") BkArgs (BookAt (He.ga K "Book"))) := mk_mc S.fun_Book___init__ S.mkr_Book S.glo_Book sc_Book___init__ (fun _ _ _ _ _ _ us hl => match us, hl with | [_, _], _ => rfl) (fun vs H Q E ⟨_, _, _, _, _, e, _, _, _, ⟨_, _, e2, _⟩, _⟩ => by rw [e, e2]; rfl) fun cdv A outer s H vs Q E hr h => by
  have nd := sc_Book___init__.nd
  refine ⟨_, (pss_cons (ps_if (pt_not (pt_val (pe_cl (cl_is_row S) hr (by decide) (passes_call (takes_of rfl rfl rfl rfl) fun _ _ _ _ h => h) (by rfl) (pa_cons (pv 1) pa_nil)))) (pss_one (ps_raise1 (er_BadRules S) hr (by decide) rfl (takes_of rfl rfl rfl rfl) (by rfl) pe_int)) pss_nil)
    (pss_cons (ps_for (passes_of rfl) rfl (pi_enumK (K := K) rfl rfl S.free_enumerate (pa_cons (pv 1) pa_nil)) (pg_tupK (K := K) (n := 2) rfl rfl (pgs_cons (pg_name (i := 2) nd rfl (by first | exact Or.inl rfl | exact Or.inr rfl)) (pgs_cons (pg_name (i := 3) nd rfl (by first | exact Or.inl rfl | exact Or.inr rfl)) pgs_nil)))
    (pss_one (ps_if (pt_not (pt_val (pe_cl (cl_is_rule S) hr (by decide) (passes_call (takes_of rfl rfl rfl rfl) fun _ _ _ _ h => h) (by rfl) (pa_cons (pv 3) pa_nil)))) (pss_one (ps_raise1 (er_BadRules S) hr (by decide) rfl (takes_of rfl rfl rfl rfl) (by rfl) (pv 2))) pss_nil)))
    (pss_one (ps_fld (pv 0) (pe_lc (own := [("rule", 3)]) rfl nd (pi_listK (K := K) rfl (pv 1)) (blkOk_by (N := ["self", "rules", "index", "rule"]) (sc := defScope s_Book___init__) (by decide +kernel)) (fun _ _ _ _ _ => (pg_name (i := 3) nd rfl (by first | exact Or.inl rfl | exact Or.inr rfl))) (fun _ _ _ _ _ => pts_nil) (fun _ _ _ _ _ => (pe_callTy (r := rTupQ K) (T := "tuple") call_tuple_of (by rfl) S.free_tuple (by decide +kernel) (pa_cons (pv 3) pa_nil)))) rfl)))), ?_⟩
  obtain ⟨F0, rs, a, dx, _, rfl, ha, hFa, e0, ⟨ok, x, rfl, hx⟩, hQ⟩ := h
  have kn := Kn.init e0 hFa ha
  refine q_ifF kn (et_not (t_B (d_call (da_cons (d_var rfl hx) da_nil) ⟨_, rfl, rfl, rfl⟩))) rfl fun F1 H1 s1 => ?_
  have hx1 := hx.ex s1.ff
  refine q_for s1.kn (wk_enum (da_cons (d_var rfl hx1) da_nil)) (fun i σ' F' H' => (∃ y z, σ' = [some (.ref a), some x, y, z]) ∧ Dt F' x (rulesD rs) ∧ H' a = some (.ins (He.ga K "Book") dx [])) ?_ ?_ ?_ ?_
  · intro F2 H2 s2
    exact ⟨⟨_, _, rfl⟩, hx1.ex s2.ff, s2.ex _ _ (s1.ex _ _ ha)⟩
  · rintro i σ' F' H' H2 ⟨hσ, hx', ha'⟩ kn' e
    exact ⟨hσ, hx'.ex (kn'.step e).ff, e _ _ ha'⟩
  · rintro i d y σ' F' H' hi kn' eF hd ⟨⟨y1, z1, rfl⟩, hx', ha'⟩ N hN
    have hl : i < rs.length := by
      have z := (List.getElem?_eq_some_iff.mp hi).1
      rw [enumD_len, List.length_map] at z
      exact z
    have hr : rs[i]? = some rs[i] := List.getElem?_eq_getElem hl
    rw [enumD_get (d := ruleD rs[i]) (by rw [List.getElem?_map, hr]; rfl)] at hi
    cases hi
    refine gt2 hd kn'.fh fun v1 v2 h1 h2 => ?_
    refine k_ifF kn' (et_not (t_B (d_call (da_cons (d_var rfl h2) da_nil) ⟨_, rfl, ok.at_ hr, rfl⟩))) rfl fun F3 H3 s3 => ?_
    exact hN _ _ _ s3.kn s3.ff ⟨⟨_, _, rfl⟩, hx'.ex s3.ff, s3.ex _ _ ha'⟩
  · rintro σ' F' H' kn' eF ⟨⟨y1, z1, rfl⟩, hx', ha'⟩
    refine k_fld kn' S.cls_Book S.noat_Book__rules rfl ha' (by decide) (ev_var rfl) (EvD.toP (d := rulesD rs) ?_) (mo_dt _) fun y F4 H4 kn4 e4 hy h4 _ => ?_
    · refine d_lcm (wk_list (d_var rfl hx')) (by rw [List.length_map]; exact Nat.le_trans ok.n (by decide)) rfl fun i d r v F'' H'' hi hr _ _ hd Q hQ' => hQ' _ rfl ?_
      obtain ⟨q, hq, rfl⟩ := map_at hi
      rw [hi] at hr
      cases hr
      exact d_tupT (d_var rfl hd)
    · obtain ⟨l, xs, rfl, h5, h6⟩ := hy.list_
      obtain ⟨b1, b2⟩ := kn4.born h4
      exact hQ H4 b1 ⟨a, dx, l, rfl, b2 _ _ upd_same, (hy.ex (ex_know (kn4.md a rfl))).ex b2⟩
end
end K05
namespace K05
open PySem PySem.Spec PyProof.Rows L2 Evl WB
section
variable {P : Program} {w : World} {K : PySem.W.Frag} {mg : Str → Option Value} {base : Heap}
abbrev CB (K : PySem.W.Frag) : Addr := He.ga K "Book"
abbrev CW (K : PySem.W.Frag) : Addr := He.ga K "Way"
/-- one argument, a Book of these rules -/
abbrev ABk (K : PySem.W.Frag) : List Rule → Hp → List V → Prop := fun rs H vs => ∃ v, vs = [v] ∧ BookAt (CB K) rs H v
abbrev RNon {α : Type} : α → Hp → V → Prop := fun _ H v => Dt H v .none
theorem bk_ty (S : Env P w K mg base) {rs : List Rule} (G : Hp) (v : V) (h : BookAt (CB K) rs G v) : TyX K G v (.ref (CB K)) := by
  obtain ⟨a, dx, l, rfl, h1, _⟩ := h
  exact S.ins_Book h1
theorem wy_ty (S : Env P w K mg base) {m : WayM} (G : Hp) (v : V) (h : WayAt (CB K) (CW K) m G v) : TyX K G v (.ref (CW K)) := by
  obtain ⟨a, dx, b, l1, l2, rfl, h1, _⟩ := h
  exact S.ins_Way h1
theorem mt_Book_rules (S : Env P w K mg base) : Mt P w K mg base 1 (He.ga K "Book") "rules" ["self"] (SpP (ABk K) fun rs H v => Dt H v (rulesD rs)) := mk_mt S.fun_Book_rules S.cls_Book S.meth_Book_rules sc_Book_rules (fun _ _ _ _ _ _ us hl => match us, hl with | [_], _ => rfl) (fun vs H Q E ⟨_, _, _, ⟨_, e, _⟩, _⟩ => by rw [e]; rfl) fun cdv A outer s H vs Q E hr h => by
  have nd := sc_Book_rules.nd
  refine ⟨_, (pss_one (ps_ret (pe_callTy (r := rListQ K) (T := "list") call_list_of (by rfl) S.free_list (by decide +kernel) (pa_cons (pe_fldK (K := K) rfl (pv 0)) pa_nil)))), ?_⟩
  obtain ⟨F0, rs, e0, ⟨x, rfl, hx⟩, hQ⟩ := h
  have kn := Kn.start e0
  refine kp_fin hQ (mo_dt _) kn (d_listL (EvP.toD (p_fld S.cls_Book S.noat_Book__rules (p_var rfl hx (BookAt.mo _ _)) fun G v ⟨a, dx, l, e1, e2, e3⟩ => ⟨a, dx, _, _, e1, e2, rfl, e3⟩)))
theorem cl_need_book (S : Env P w K mg base) : Cl P w K mg base 3 "need_book" ["thing"] (SpP (ABk K) RNon) := mk_cl S.fun_need_book S.glo_need_book sc_need_book (fun _ _ _ _ _ _ us hl => match us, hl with | [_], _ => rfl) (fun vs H Q E ⟨_, _, _, ⟨_, e, _⟩, _⟩ => by rw [e]; rfl) fun cdv A outer s H vs Q E hr h => by
  have nd := sc_need_book.nd
  refine ⟨_, (pss_one (ps_if (pt_not (pt_val (pe_callB (r := rIsi K) (id := "isinstance") call_isi (by rfl) S.free_isinstance (by decide +kernel) (pa_cons (pv 0) (pa_cons (pe_glob (v := V.ref (He.ga K "Book")) (by rfl) S.glo_Book rfl) pa_nil))))) (pss_one (ps_raise1 (er_BadBook S) hr (by decide) rfl (takes_of rfl rfl rfl rfl) (by rfl) (pv 0))) pss_nil)), ?_⟩
  obtain ⟨F0, rs, e0, ⟨x, rfl, hx⟩, hQ⟩ := h
  have kn := Kn.start e0
  refine k_ifF kn (et_not (t_B (p_isiO (p_var rfl hx (BookAt.mo _ _)) (bk_ty S) (BookAt.mo _ _) S.kit_Book_Book))) rfl fun F1 H1 s1 => ?_
  exact hQ _ _ s1.kn.hh .non
abbrev AWn (K : PySem.W.Frag) : WayM → Hp → List V → Prop := fun m H vs => m.Ok ∧ ∃ b z t, vs = [b, z, t] ∧ BookAt (CB K) m.rs H b ∧ Dt H z (.str m.z) ∧ Dt H t (stepsD m.ss)
theorem mc_Way (S : Env P w K mg base) : Mc P w K mg base 5 "Way" (He.ga K "Way") ["self", "book", "word", "steps"] (spNew (CW K) (AWn K) (WayAt (CB K) (CW K))) := mk_mc S.fun_Way___init__ S.mkr_Way S.glo_Way sc_Way___init__ (fun _ _ _ _ _ _ us hl => match us, hl with | [_, _, _, _], _ => rfl) (fun vs H Q E ⟨_, _, _, _, _, e, _, _, _, ⟨_, _, _, _, e2, _⟩, _⟩ => by rw [e, e2]; rfl) fun cdv A outer s H vs Q E hr h => by
  have nd := sc_Way___init__.nd
  refine ⟨_, (pss_cons (ps_expr (pe_cl (cl_need_book S) hr (by decide) (passes_call (takes_of rfl rfl rfl rfl) fun _ _ _ _ h => h) (by rfl) (pa_cons (pv 1) pa_nil)))
    (pss_cons (ps_expr (pe_cl (cl_need_word S) hr (by decide) (passes_call (takes_of rfl rfl rfl rfl) fun _ _ _ _ h => h) (by rfl) (pa_cons (pv 2) pa_nil)))
    (pss_cons (ps_if (pt_not (pt_val (pe_cl (cl_is_row S) hr (by decide) (passes_call (takes_of rfl rfl rfl rfl) fun _ _ _ _ h => h) (by rfl) (pa_cons (pv 3) pa_nil)))) (pss_one (ps_raise1 (er_BadSteps S) hr (by decide) rfl (takes_of rfl rfl rfl rfl) (by rfl) pe_int)) pss_nil)
    (pss_cons (ps_set (i := 4) nd rfl (by first | exact Or.inl rfl | exact Or.inr rfl) (pe_mt0 (mt_Book_rules S) hr (by decide) (passes_call (takes_of rfl rfl rfl rfl) fun _ _ _ _ h => h) (pv 1)))
    (pss_cons (ps_set (i := 5) nd rfl (by first | exact Or.inl rfl | exact Or.inr rfl) (pe_lst (pa_cons (pv 2) pa_nil)))
    (pss_cons (ps_for (passes_of rfl) rfl (pi_enumK (K := K) rfl rfl S.free_enumerate (pa_cons (pv 3) pa_nil)) (pg_tupK (K := K) (n := 2) rfl rfl (pgs_cons (pg_name (i := 6) nd rfl (by first | exact Or.inl rfl | exact Or.inr rfl)) (pgs_cons (pg_name (i := 7) nd rfl (by first | exact Or.inl rfl | exact Or.inr rfl)) pgs_nil)))
    (pss_cons (ps_if (pt_not (pt_val (pe_cl (cl_can_do S) hr (by decide) (passes_call (takes_of rfl rfl rfl rfl) fun _ _ _ _ h => h) (by rfl) (pa_cons (pv 4) (pa_cons (pe_ix (r := rIxL K) ix_list (pv 5) (pv 6) (fun _ _ => rfl)) (pa_cons (pv 7) pa_nil)))))) (pss_one (ps_raise1 (er_BadSteps S) hr (by decide) rfl (takes_of rfl rfl rfl rfl) (by rfl) (pv 6))) pss_nil)
    (pss_one (ps_expr (pe_bmK (K := K) (r := rAppend) rfl PySem.F.plainAttrs_list PySem.F.slot_list_append PySem.F.type_list_append mt_append (pv 5) (pa_cons (pe_cl (cl_word_behind S) hr (by decide) (passes_call (takes_of rfl rfl rfl rfl) fun _ _ _ _ h => h) (by rfl) (pa_cons (pv 4) (pa_cons (pe_ix (r := rIxL K) ix_list (pv 5) (pv 6) (fun _ _ => rfl)) (pa_cons (pv 7) pa_nil)))) pa_nil))))))
    (pss_cons (ps_fld (pv 0) (pv 1) rfl)
    (pss_cons (ps_fld (pv 0) (pv 2) rfl)
    (pss_cons (ps_fld (pv 0) (pv 5) rfl)
    (pss_one (ps_fld (pv 0) (pe_lc (own := [("step", 7)]) rfl nd (pi_listK (K := K) rfl (pv 3)) (blkOk_by (N := ["self", "book", "word", "steps", "rules", "words", "index", "step"]) (sc := defScope s_Way___init__) (by decide +kernel)) (fun _ _ _ _ _ => (pg_name (i := 7) nd rfl (by first | exact Or.inl rfl | exact Or.inr rfl))) (fun _ _ _ _ _ => pts_nil) (fun _ _ _ _ _ => (pe_callTy (r := rTupQ K) (T := "tuple") call_tuple_of (by rfl) S.free_tuple (by decide +kernel) (pa_cons (pv 7) pa_nil)))) rfl))))))))))), ?_⟩
  obtain ⟨F0, m, a, dx, _, rfl, ha, hFa, e0, ⟨ok, b, z, t, rfl, hb, hz, ht⟩, hQ⟩ := h
  have kn := Kn.init e0 hFa ha
  refine qp_drop kn (p_call m.rs (pa_cons1 (p_var rfl hb (BookAt.mo _ _)) (BookAt.mo _ _)) (mo_dt _)) fun F1 H1 s1 => ?_
  refine q_drop s1.kn (d_call (da_cons (d_var rfl (hz.ex s1.ff)) da_nil) ⟨_, rfl, ok.w, rfl⟩) fun F2 H2 s2 => ?_
  have t2 := s1.trans s2
  refine q_ifF s2.kn (et_not (t_B (d_call (da_cons (d_var rfl (ht.ex t2.ff)) da_nil) ⟨_, rfl, rfl, rfl⟩))) rfl fun F3 H3 s3 => ?_
  have t3 := t2.trans s3
  refine qp_asg s3.kn (p_meth0 m.rs (p_var rfl (BookAt.mo _ _ _ _ _ t3.ff hb) (BookAt.mo _ _)) (fun G v hv => by
    obtain ⟨a', dx', l', e1, e2, e3⟩ := hv
    exact ⟨a', dx', _, e1, e2, rfl, v, rfl, a', dx', l', e1, e2, e3⟩) (mo_dt _)) fun rv F4 H4 s4 hrv => ?_
  have t4 := t3.trans s4
  refine q_new s4.kn (da_cons (d_var rfl (hz.ex t4.ff)) da_nil) (by simp) fun l xs F5 H5 s5 hl0 h0l hl hxs => ?_
  have t5 := t4.trans s5
  obtain ⟨zv, rfl, hzv⟩ := da1_ hxs
  cases hzv.str_
  have ze := hz.str_
  subst ze
  have ha5 : H5 a = some (.ins (CW K) dx []) := t5.ex _ _ ha
  have hla : l ≠ a := fun e => by rw [e] at h0l; rw [h0l] at ha; cases ha
  refine q_for s5.kn (wk_enum (da_cons (d_var rfl (ht.ex t5.ff)) da_nil)) (fun i σ' F' H' => (∃ y z, σ' = [some (.ref a), some b, some (.str m.z), some t, some rv, some (.ref l), y, z]) ∧ Dt F' t (stepsD m.ss) ∧ Dt F' rv (rulesD m.rs) ∧ BookAt (CB K) m.rs F' b ∧
    H' a = some (.ins (CW K) dx []) ∧ H' l = some (.lst (((wordsOf m.rs m.z m.ss).take (i + 1)).map V.str)) ∧ F' l = none) ?_ ?_ ?_ ?_
  · intro F6 H6 s6
    refine ⟨⟨_, _, rfl⟩, ht.ex (t5.ff.trans s6.ff), hrv.ex (s5.ff.trans s6.ff), BookAt.mo _ _ _ _ _ (t5.ff.trans s6.ff) hb, s6.ex _ _ ha5, ?_, s6.fr _ _ hl hl0⟩
    rw [s6.ex _ _ hl]
    cases m.ss <;> rfl
  · rintro i σ' F' H' H2 ⟨hσ, h1, h2, h3, h4, h5, h6⟩ kn' e
    have s := kn'.step (H1 := H2) e
    exact ⟨hσ, h1.ex s.ff, h2.ex s.ff, BookAt.mo _ _ _ _ _ s.ff h3, e _ _ h4, e _ _ h5, s.fr _ _ h5 h6⟩
  · rintro i d y σ' F' H' hi kn' eF hd ⟨⟨y1, z1, rfl⟩, h1, h2, h3, h4, h5, h6⟩ N hN
    have hi1 : i < m.ss.length := by
      have z := (List.getElem?_eq_some_iff.mp hi).1
      rw [enumD_len, List.length_map] at z
      exact z
    have hs : m.ss[i]? = some m.ss[i] := List.getElem?_eq_getElem hi1
    rw [enumD_get (d := stepD m.ss[i]) (by rw [List.getElem?_map, hs]; rfl)] at hi
    cases hi
    obtain ⟨zi, q, a1, a2, a3, a4, a5, a6⟩ := ok.s.at_ hs
    have rq := ok.b.at_ a3
    refine gt2 hd kn'.fh fun v1 v2 g1 g2 => ?_
    have eG := ex_own kn' h5
    have kw : Ex F' (upd F' l (.lst (((wordsOf m.rs m.z m.ss).take (i + 1)).map V.str))) := ex_know h6
    have wl : atI ((((wordsOf m.rs m.z m.ss).take (i + 1)).map PyData.str)) ((i : Nat) : Int) = some (.str zi) := by
      rw [List.map_take]
      exact atI_take (by rw [List.getElem?_map, a1]; rfl) (Nat.lt_succ_self i)
    refine q_ifGF kn' eG (et_not (t_B (d_call (da_cons (d_var rfl (h2.ex kw)) (da_cons (d_ixL (d_var rfl (dt_own h6 (strs_dt _))) (d_var rfl (g1.ex kw)) wl) (da_cons (d_var rfl (g2.ex kw)) da_nil))) ⟨_, _, _, _, rfl, Nat.le_trans a2 (by decide), rq.sl _, a3, rfl⟩))) (by rw [a4]; rfl) fun F6 H6 s6 => ?_
    have h5' := s6.ex _ _ h5
    have h6' := s6.fr _ _ h5 h6
    have eG' := ex_own s6.kn h5'
    have kw' : Ex F6 (upd F6 l (.lst (((wordsOf m.rs m.z m.ss).take (i + 1)).map V.str))) := ex_know h6'
    have kk := s6.ff.trans kw'
    refine k_appS s6.kn h5' h6' h0l (ev_var rfl) eG' (d_call (da_cons (d_var rfl (h2.ex kk)) (da_cons (d_ixL (d_var rfl (dt_own h6' (strs_dt _))) (d_var rfl (g1.ex kk)) wl) (da_cons (d_var rfl (g2.ex kk)) da_nil))) ⟨_, _, _, _, rfl, Nat.le_trans a2 (by decide), rq.sl _, rq.gl _, a3, rfl⟩) rfl ?_ fun F7 H7 k7 f7 n7 l7 o7 r7 => ?_
    · rw [List.length_map, List.length_take]
      have := ok.n
      omega
    · refine hN _ _ _ k7 (s6.ff.trans f7) ⟨⟨_, _, rfl⟩, h1.ex (s6.ff.trans f7), h2.ex (s6.ff.trans f7), BookAt.mo _ _ _ _ _ (s6.ff.trans f7) h3, o7 _ _ (Ne.symm hla) (s6.ex _ _ h4), ?_, n7⟩
      rw [l7, take_snoc a5, List.map_append]
      rfl
  · rintro σ' F' H' kn' eF ⟨⟨y1, z1, rfl⟩, h1, h2, h3, h4, h5, h6⟩
    have len : (enumD (m.ss.map stepD)).length = m.ss.length := by rw [enumD_len, List.length_map]
    rw [len, List.take_of_length_le (by rw [wordsOf_len]; exact Nat.le_refl _)] at h5
    have knl := kn'.know h6 h0l h5
    have fl : Ex F' (upd F' l (.lst ((wordsOf m.rs m.z m.ss).map V.str))) := ex_know h6
    have dl : Dt (upd F' l (.lst ((wordsOf m.rs m.z m.ss).map V.str))) (.ref l) (strsD (wordsOf m.rs m.z m.ss)) := dt_own h6 (strs_dt _)
    have h1 := h1.ex fl
    have h3 := BookAt.mo _ _ _ _ _ fl h3
    refine q_fld knl S.cls_Way S.noat_Way__book rfl h4 (by decide) (ev_var rfl) (p_var rfl h3 (BookAt.mo _ _)) (BookAt.mo _ _) fun bv F6 H6 k6 f6 hb6 ha6 _ => ?_
    refine q_fld k6 S.cls_Way S.noat_Way__word rfl ha6 fs1 (ev_var rfl) (EvD.toP (d_var (d := .str m.z) rfl (.str m.z))) (mo_dt _) fun zv F7 H7 k7 f7 hz7 ha7 _ => ?_
    have f67 := f6.trans f7
    refine q_fld k7 S.cls_Way S.noat_Way__words rfl ha7 fs2 (ev_var rfl) (EvD.toP (d_var rfl (dl.ex f67))) (mo_dt _) fun lv F8 H8 k8 f8 hl8 ha8 _ => ?_
    have f68 := f67.trans f8
    refine k_fld k8 S.cls_Way S.noat_Way__steps rfl ha8 fs3 (ev_var rfl) (EvD.toP (d := stepsD m.ss) (d_lcm (wk_list (d_var rfl (h1.ex f68))) (by rw [List.length_map]; exact Nat.le_trans ok.n (by decide)) rfl fun i d r v F'' H'' hi hr _ _ hd Q hQ' => hQ' _ rfl ?_)) (mo_dt _) fun sv F9 H9 k9 f9 hs9 ha9 _ => ?_
    · obtain ⟨q, hq, rfl⟩ := map_at hi
      rw [hi] at hr
      cases hr
      exact d_tupT (d_var rfl hd)
    · cases hz7.str_
      obtain ⟨l1, xs1, rfl, g1, g2⟩ := hl8.list_
      obtain ⟨l2, xs2, rfl, g3, g4⟩ := hs9.list_
      obtain ⟨b1, b2⟩ := k9.born ha9
      have f9' := (ex_know (F := F9) (o := .ins (CW K) dx (putF "_steps" (.ref l2) (putF "_words" (.ref l1) (putF "_word" (.str m.z) (putF "_book" bv []))))) (k9.md a rfl)).trans b2
      refine hQ H9 b1 ⟨a, dx, bv, l1, l2, rfl, ?_, BookAt.mo _ _ _ _ _ (((f7.trans f8).trans f9).trans f9') hb6, hl8.ex (f9.trans f9'), hs9.ex f9'⟩
      rw [way_fs]
      exact b2 _ _ upd_same
end
end K05
namespace K05
open PySem PySem.Spec PyProof.Rows L2 Evl WB
section
variable {P : Program} {w : World} {K : PySem.W.Frag} {mg : Str → Option Value} {base : Heap}
/-- one argument, a Way -/
abbrev AWy (K : PySem.W.Frag) : WayM → Hp → List V → Prop := fun m H vs => ∃ v, vs = [v] ∧ WayAt (CB K) (CW K) m H v
abbrev Wy (K : PySem.W.Frag) : WayM → Hp → V → Prop := WayAt (CB K) (CW K)
theorem wy_len {α : Type} {args : α → Hp → List V → Prop} {res : α → Hp → V → Prop} {n : Nat} (h : ∀ x F vs, args x F vs → vs.length = n) (vs : List V) (H : Hp) (Q : VK) (E : XK) (s : SpP args res vs H Q E) : vs.length = n := by
  obtain ⟨F, x, _, h1, _⟩ := s
  exact h _ _ _ h1
theorem awy_len (m : WayM) (F : Hp) (vs : List V) (h : AWy K m F vs) : vs.length = 1 := by
  obtain ⟨v, rfl, _⟩ := h
  rfl
theorem mt_Way_book (S : Env P w K mg base) : Mt P w K mg base 1 (He.ga K "Way") "book" ["self"] (SpP (AWy K) fun m H v => BookAt (CB K) m.rs H v) := mk_mt S.fun_Way_book S.cls_Way S.meth_Way_book sc_Way_book (fun _ _ _ _ _ _ us hl => match us, hl with | [_], _ => rfl) (wy_len awy_len) fun cdv A outer s H vs Q E hr h => by
  have nd := sc_Way_book.nd
  refine ⟨_, (pss_one (ps_ret (pe_fldK (K := K) rfl (pv 0)))), ?_⟩
  obtain ⟨F0, m, e0, ⟨x, rfl, hx⟩, hQ⟩ := h
  have kn := Kn.start e0
  exact kp_fin hQ (BookAt.mo _ _) kn (p_fld S.cls_Way S.noat_Way__book (p_var rfl hx (WayAt.mo _ _ _)) fun G v ⟨a, dx, b, l1, l2, e1, e2, e3, e4, e5⟩ => ⟨a, dx, _, b, e1, e2, rfl, e3⟩)
theorem mt_Way_word (S : Env P w K mg base) : Mt P w K mg base 1 (He.ga K "Way") "word" ["self"] (SpP (AWy K) fun m H v => Dt H v (.str m.z)) := mk_mt S.fun_Way_word S.cls_Way S.meth_Way_word sc_Way_word (fun _ _ _ _ _ _ us hl => match us, hl with | [_], _ => rfl) (wy_len awy_len) fun cdv A outer s H vs Q E hr h => by
  have nd := sc_Way_word.nd
  refine ⟨_, (pss_one (ps_ret (pe_fldK (K := K) rfl (pv 0)))), ?_⟩
  obtain ⟨F0, m, e0, ⟨x, rfl, hx⟩, hQ⟩ := h
  have kn := Kn.start e0
  exact kp_fin hQ (mo_dt _) kn (p_fld S.cls_Way S.noat_Way__word (p_var rfl hx (WayAt.mo _ _ _)) fun G v ⟨a, dx, b, l1, l2, e1, e2, e3, e4, e5⟩ => ⟨a, dx, _, _, e1, e2, rfl, .str _⟩)
theorem mt_Way_steps (S : Env P w K mg base) : Mt P w K mg base 1 (He.ga K "Way") "steps" ["self"] (SpP (AWy K) fun m H v => Dt H v (stepsD m.ss)) := mk_mt S.fun_Way_steps S.cls_Way S.meth_Way_steps sc_Way_steps (fun _ _ _ _ _ _ us hl => match us, hl with | [_], _ => rfl) (wy_len awy_len) fun cdv A outer s H vs Q E hr h => by
  have nd := sc_Way_steps.nd
  refine ⟨_, (pss_one (ps_ret (pe_callTy (r := rListQ K) (T := "list") call_list_of (by rfl) S.free_list (by decide +kernel) (pa_cons (pe_fldK (K := K) rfl (pv 0)) pa_nil)))), ?_⟩
  obtain ⟨F0, m, e0, ⟨x, rfl, hx⟩, hQ⟩ := h
  have kn := Kn.start e0
  exact kp_fin hQ (mo_dt _) kn (d_listL (EvP.toD (p_fld S.cls_Way S.noat_Way__steps (p_var rfl hx (WayAt.mo _ _ _)) fun G v ⟨a, dx, b, l1, l2, e1, e2, e3, e4, e5⟩ => ⟨a, dx, _, _, e1, e2, rfl, e5⟩)))
theorem mt_Way_words (S : Env P w K mg base) : Mt P w K mg base 1 (He.ga K "Way") "words" ["self"] (SpP (AWy K) fun m H v => Dt H v (strsD (wordsOf m.rs m.z m.ss))) := mk_mt S.fun_Way_words S.cls_Way S.meth_Way_words sc_Way_words (fun _ _ _ _ _ _ us hl => match us, hl with | [_], _ => rfl) (wy_len awy_len) fun cdv A outer s H vs Q E hr h => by
  have nd := sc_Way_words.nd
  refine ⟨_, (pss_one (ps_ret (pe_callTy (r := rListQ K) (T := "list") call_list_of (by rfl) S.free_list (by decide +kernel) (pa_cons (pe_fldK (K := K) rfl (pv 0)) pa_nil)))), ?_⟩
  obtain ⟨F0, m, e0, ⟨x, rfl, hx⟩, hQ⟩ := h
  have kn := Kn.start e0
  exact kp_fin hQ (mo_dt _) kn (d_listL (EvP.toD (p_fld S.cls_Way S.noat_Way__words (p_var rfl hx (WayAt.mo _ _ _)) fun G v ⟨a, dx, b, l1, l2, e1, e2, e3, e4, e5⟩ => ⟨a, dx, _, _, e1, e2, rfl, e4⟩)))
/-- no Way -/
abbrev NoWay (K : PySem.W.Frag) : Hp → V → Prop := fun G v => ∃ d, Dt G v d ∧ HasTy K d ∧ PySem.W.kitOne K (tyD d) (.ref (CW K)) = some false
theorem noway_mo : Mo (NoWay K) := fun H H' v e ⟨d, h1, h2⟩ => ⟨d, h1.ex e, h2⟩
abbrev BadW (K : PySem.W.Frag) : Hp → List V → Addr → Str → V → Prop := fun G vs C f z => (∃ v, vs = [v] ∧ NoWay K G v ∧ z = v) ∧ C = He.ga K "BadWay" ∧ f = "thing"
theorem badw_mo {C : Addr} {f : Str} {z : V} : MoA (fun G vs => BadW K G vs C f z) := fun H H' vs e ⟨⟨v, h1, h2, h3⟩, h4⟩ => ⟨⟨v, h1, noway_mo _ _ _ e h2, h3⟩, h4⟩
theorem badw_len (F : Hp) (vs : List V) (C : Addr) (f : Str) (v : V) (h : BadW K F vs C f v) : vs.length = 1 := by
  obtain ⟨⟨v, rfl, _⟩, _⟩ := h
  rfl
theorem cl_need_way (S : Env P w K mg base) : Cl P w K mg base 3 "need_way" ["thing"] (SpOr (SpP (AWy K) RNon) (SpX (BadW K))) := mk_cl S.fun_need_way S.glo_need_way sc_need_way (fun _ _ _ _ _ _ us hl => match us, hl with | [_], _ => rfl) (or_len (wy_len awy_len) (x_len badw_len)) fun cdv A outer s H vs Q E hr h => by
  have nd := sc_need_way.nd
  refine ⟨_, (pss_one (ps_if (pt_not (pt_val (pe_callB (r := rIsi K) (id := "isinstance") call_isi (by rfl) S.free_isinstance (by decide +kernel) (pa_cons (pv 0) (pa_cons (pe_glob (v := V.ref (He.ga K "Way")) (by rfl) S.glo_Way rfl) pa_nil))))) (pss_one (ps_raise1 (er_BadWay S) hr (by decide) rfl (takes_of rfl rfl rfl rfl) (by rfl) (pv 0))) pss_nil)), ?_⟩
  rcases h with ⟨F0, m, e0, ⟨x, rfl, hx⟩, hQ⟩ | ⟨F0, C, f, z, e0, ⟨⟨x, rfl, ⟨d, hd, ht, hk⟩, rfl⟩, rfl, rfl⟩, hE⟩
  · have kn := Kn.start e0
    refine k_ifF kn (et_not (t_B (p_isiO (p_var rfl hx (WayAt.mo _ _ _)) (wy_ty S) (WayAt.mo _ _ _) S.kit_Way_Way))) rfl fun F1 H1 s1 => ?_
    exact hQ _ _ s1.kn.hh .non
  · refine k_ifT (Kn.start e0) (et_not (t_B (d_isiO (d_var rfl hd) ht hk))) rfl fun F1 H1 s1 => ?_
    exact x_raise (Ex.refl H1) (ev_var rfl) fun d H' e hn hd => hE d H' (s1.ex.trans e) (exdm s1.ex d hn) hd
/-- o.m() of a Way -/
theorem wy_m {σ : L2.St} {F : Hp} {te : TE} {m : WayM} {f : Str} {T : WayM → Hp → V → Prop} {E : XK} (h : EvP te σ F (Wy K m)) (hl : ∀ b l1 l2, (wayFs b m.z l1 l2).lookup f = none) (mo : Mo (T m)) : EvP (tMeth (CW K) f (SpP (AWy K) T) [] E te tNil) σ F (T m) :=
  p_meth0 m h (fun G v hv => by
    obtain ⟨a, dx, b, l1, l2, e1, e2, e3⟩ := hv
    exact ⟨a, dx, _, e1, e2, hl _ _ _, v, rfl, a, dx, b, l1, l2, e1, e2, e3⟩) mo
theorem bk_m {σ : L2.St} {F : Hp} {te : TE} {rs : List Rule} {f : Str} {T : List Rule → Hp → V → Prop} {E : XK} (h : EvP te σ F (BookAt (CB K) rs)) (hl : ∀ l, ([("_rules", l)] : List (Str × V)).lookup f = none) (mo : Mo (T rs)) : EvP (tMeth (CB K) f (SpP (ABk K) T) [] E te tNil) σ F (T rs) :=
  p_meth0 rs h (fun G v hv => by
    obtain ⟨a, dx, l, e1, e2, e3⟩ := hv
    exact ⟨a, dx, _, e1, e2, hl _, v, rfl, a, dx, l, e1, e2, e3⟩) mo
theorem steps_len (ss : List WStep) : (ss.map stepD).length = ss.length := List.length_map ..
/-- a Way and an index of it -/
abbrev AWi (K : PySem.W.Frag) : (WayM × Nat) → Hp → List V → Prop := fun m H vs => m.2 ≤ m.1.ss.length ∧ ∃ v, vs = [v, .int (m.2 : Nat)] ∧ WayAt (CB K) (CW K) m.1 H v
theorem pa_wi {σ : L2.St} {F : Hp} {te tx : TE} {m : WayM} {i : Nat} (h : EvP te σ F (Wy K m)) (hx : EvD tx σ F (.int (i : Nat))) (hi : i ≤ m.ss.length) : EvPA (tCons te (tCons tx tNil)) σ F (AWi K (m, i)) := fun H1 e _ q =>
  h H1 e _ fun x H2 e2 hx' => hx H2 (e.trans e2) _ fun y H3 e3 hy => by
    cases hy.int_
    exact q [x, .int i] H3 (e2.trans e3) ⟨hi, x, rfl, WayAt.mo _ _ _ _ _ _ (nw_r (exexn e3)) hx'⟩
/-- no number up to n -/
def NoIx (n : Nat) (d : PyData) : Prop := isIns d = false ∧ (isNum d = false ∨ ∃ i : Nat, d = .int (i : Nat) ∧ n < i)
abbrev BadI (K : PySem.W.Frag) : Hp → List V → Addr → Str → V → Prop := fun G vs C f z => (∃ m x v d, vs = [x, v] ∧ WayAt (CB K) (CW K) m G x ∧ Dt G v d ∧ NoIx m.ss.length d ∧ z = v) ∧ C = He.ga K "BadIndex" ∧ f = "thing"
theorem badi_mo {C : Addr} {f : Str} {z : V} : MoA (fun G vs => BadI K G vs C f z) := fun H H' vs e ⟨⟨m, x, v, d, h1, h2, h3, h4⟩, h5⟩ => ⟨⟨m, x, v, d, h1, WayAt.mo _ _ _ _ _ _ e h2, h3.ex e, h4⟩, h5⟩
theorem badi_len (F : Hp) (vs : List V) (C : Addr) (f : Str) (v : V) (h : BadI K F vs C f v) : vs.length = 2 := by
  obtain ⟨⟨_, _, _, _, rfl, _⟩, _⟩ := h
  rfl
theorem cl_need_index (S : Env P w K mg base) : Cl P w K mg base 4 "need_index" ["way", "thing"] (SpOr (SpP (AWi K) RNon) (SpX (BadI K))) := mk_cl S.fun_need_index S.glo_need_index sc_need_index (fun _ _ _ _ _ _ us hl => match us, hl with | [_, _], _ => rfl) (or_len (wy_len fun _ _ _ ⟨_, _, e, _⟩ => by rw [e]; rfl) (x_len badi_len)) fun cdv A outer s H vs Q E hr h => by
  have nd := sc_need_index.nd
  refine ⟨_, (pss_one (ps_if (PW.pt (pw_or (pt_not (pt_val (pe_cl (cl_is_number S) hr (by decide) (passes_call (takes_of rfl rfl rfl rfl) fun _ _ _ _ h => h) (by rfl) (pa_cons (pv 1) pa_nil)))) (pw_or1 (pt_cmpR op_gt (pv 1) (pe_callB (r := rLenQ K) (id := "len") call_len_seq (by rfl) S.free_len (by decide +kernel) (pa_cons (pe_mt0 (mt_Way_steps S) hr (by decide) (passes_call (takes_of rfl rfl rfl rfl) fun _ _ _ _ h => h) (pv 0)) pa_nil)) (nomark _))))) (pss_one (ps_raise1 (er_BadIndex S) hr (by decide) rfl (takes_of rfl rfl rfl rfl) (by rfl) (pv 1))) pss_nil)), ?_⟩
  rcases h with ⟨F0, ⟨m, i⟩, e0, ⟨hi, x, rfl, hx⟩, hQ⟩ | ⟨F0, C, f, z, e0, ⟨⟨m, x, v, d, rfl, hx, hd, ⟨hi, hn⟩, rfl⟩, rfl, rfl⟩, hE⟩
  · have kn := Kn.start e0
    refine k_ifF kn (et_or (et_not (t_B (d_call (da_cons (d_var rfl (.int _)) da_nil) ⟨_, rfl, rfl, rfl⟩))) fun _ => t_val (d_cmp (d_var rfl (.int _)) (d_lenL (EvP.toD (wy_m (p_var rfl hx (WayAt.mo _ _ _)) (fun _ _ _ => rfl) (mo_dt _)))))) ?_ fun F1 H1 s1 => ?_
    · rw [steps_len, num_nat]
      show ((!true) || decide _) = false
      rw [decide_eq_false (by have hi' : i ≤ m.ss.length := hi; omega)]
      rfl
    · exact hQ _ _ s1.kn.hh .non
  · have fin : ∀ F1 H1, StpE M0 F0 H F0 H F1 H1 → tRaise1 (He.ga K "BadIndex") "thing" (fun cls d _ H => E cls d H) (tVar 1) { nx := fun _ H' => Q .non H', rt := Q } (L2.start ["way", "thing"] [x, z]) H1 := fun F1 H1 s1 => x_raise (Ex.refl H1) (ev_var rfl) fun d H' e hn hd => hE d H' (s1.ex.trans e) (exdm s1.ex d hn) hd
    rcases hn with hn | ⟨i, rfl, hn⟩
    · exact k_ifT (Kn.start e0) (et_or (b := false) (et_not (t_B (d_call (c := c_is_number) (da_cons (d_var rfl hd) da_nil) ⟨d, rfl, hi, rfl⟩))) fun z => by rw [hn] at z; cases z) (by rw [hn]; rfl) fin
    · cases hd.int_
      refine k_ifT (Kn.start e0) (et_or (et_not (t_B (d_call (da_cons (d_var rfl (.int _)) da_nil) ⟨_, rfl, rfl, rfl⟩))) fun _ => t_val (d_cmp (d_var rfl (.int _)) (d_lenL (EvP.toD (wy_m (p_var rfl hx (WayAt.mo _ _ _)) (fun _ _ _ => rfl) (mo_dt _)))))) ?_ fin
      rw [steps_len, num_nat]
      show ((!true) || decide _) = true
      rw [decide_eq_true (by omega)]
      rfl
/-- a Way, an index of it, the place of a letter there -/
abbrev AWl (K : PySem.W.Frag) : (WayM × Nat × Nat) → Hp → List V → Prop := fun m H vs => m.1.Ok ∧ (∃ z, (wordsOf m.1.rs m.1.z m.1.ss)[m.2.1]? = some z ∧ z.length ≤ 1000 ∧ m.2.2 < z.length) ∧ ∃ v, vs = [v, .int (m.2.1 : Nat), .int (m.2.2 : Nat)] ∧ WayAt (CB K) (CW K) m.1 H v
theorem awl_len (m : WayM × Nat × Nat) (F : Hp) (vs : List V) (h : AWl K m F vs) : vs.length = 3 := by
  obtain ⟨_, _, _, rfl, _⟩ := h
  rfl
abbrev BadL (K : PySem.W.Frag) : Hp → List V → Addr → Str → V → Prop := fun G vs C f z => f = "thing" ∧ ∃ x v1 v2, vs = [x, v1, v2] ∧
  ((NoWay K G x ∧ C = He.ga K "BadWay" ∧ z = x) ∨
   (∃ m d, WayAt (CB K) (CW K) m G x ∧ Dt G v1 d ∧ NoIx m.ss.length d ∧ C = He.ga K "BadIndex" ∧ z = v1) ∨
   (∃ m d zi, ∃ i : Nat, WayAt (CB K) (CW K) m G x ∧ v1 = .int (i : Nat) ∧ Dt G v2 d ∧ (wordsOf m.rs m.z m.ss)[i]? = some zi ∧ zi.length ≤ 1000 ∧ isIns d = false ∧ (isNum d = false ∨ ∃ p : Nat, d = .int (p : Nat) ∧ zi.length ≤ p) ∧ C = He.ga K "BadNumber" ∧ z = v2))
theorem badl_mo {C : Addr} {f : Str} {z : V} : MoA (fun G vs => BadL K G vs C f z) := fun H H' vs e ⟨h0, x, v1, v2, h1, h2⟩ => ⟨h0, x, v1, v2, h1, by
  rcases h2 with ⟨a, b⟩ | ⟨m, d, a, b, c⟩ | ⟨m, d, zi, i, a, b, c, r⟩
  · exact .inl ⟨noway_mo _ _ _ e a, b⟩
  · exact .inr (.inl ⟨m, d, WayAt.mo _ _ _ _ _ _ e a, b.ex e, c⟩)
  · exact .inr (.inr ⟨m, d, zi, i, WayAt.mo _ _ _ _ _ _ e a, b, c.ex e, r⟩)⟩
theorem badl_len (F : Hp) (vs : List V) (C : Addr) (f : Str) (v : V) (h : BadL K F vs C f v) : vs.length = 3 := by
  obtain ⟨_, _, _, _, rfl, _⟩ := h
  rfl
theorem cl_need_letter (S : Env P w K mg base) : Cl P w K mg base 5 "need_letter" ["way", "index", "place"] (SpOr (SpP (AWl K) RNon) (SpX (BadL K))) := mk_cl S.fun_need_letter S.glo_need_letter sc_need_letter (fun _ _ _ _ _ _ us hl => match us, hl with | [_, _, _], _ => rfl) (or_len (wy_len awl_len) (x_len badl_len)) fun cdv A outer s H vs Q E hr h => by
  have nd := sc_need_letter.nd
  refine ⟨_, (pss_cons (ps_expr (pe_cl (cl_need_way S) hr (by decide) (passes_call (takes_of rfl rfl rfl rfl) fun _ _ _ _ h => h) (by rfl) (pa_cons (pv 0) pa_nil)))
    (pss_cons (ps_expr (pe_cl (cl_need_index S) hr (by decide) (passes_call (takes_of rfl rfl rfl rfl) fun _ _ _ _ h => h) (by rfl) (pa_cons (pv 0) (pa_cons (pv 1) pa_nil))))
    (pss_one (ps_if (PW.pt (pw_or (pt_not (pt_val (pe_cl (cl_is_number S) hr (by decide) (passes_call (takes_of rfl rfl rfl rfl) fun _ _ _ _ h => h) (by rfl) (pa_cons (pv 2) pa_nil)))) (pw_or1 (pt_cmpR op_ge (pv 2) (pe_callB (r := rLenSQ) (id := "len") call_len_str (by rfl) S.free_len (by decide +kernel) (pa_cons (pe_ix (r := rIxL K) ix_list (pe_mt0 (mt_Way_words S) hr (by decide) (passes_call (takes_of rfl rfl rfl rfl) fun _ _ _ _ h => h) (pv 0)) (pv 1) (fun _ _ => rfl)) pa_nil)) (nomark _))))) (pss_one (ps_raise1 (er_BadNumber S) hr (by decide) rfl (takes_of rfl rfl rfl rfl) (by rfl) (pv 2))) pss_nil)))), ?_⟩
  rcases h with ⟨F0, ⟨m, i, p⟩, e0, ⟨ok, ⟨z, hz, hzl, hp⟩, x, rfl, hx⟩, hQ⟩ | ⟨F0, C, f, z, e0, ⟨rfl, x, v1, v2, rfl, hb⟩, hE⟩
  · have kn := Kn.start e0
    have hi : i ≤ m.ss.length := by
      have q := (List.getElem?_eq_some_iff.mp hz).1
      rw [wordsOf_len] at q
      exact Nat.lt_succ_iff.mp q
    refine qp_drop kn (p_callL m (pa_cons1 (p_var rfl hx (WayAt.mo _ _ _)) (WayAt.mo _ _ _)) (mo_dt _)) fun F1 H1 s1 => ?_
    have hx1 := WayAt.mo _ _ _ _ _ _ s1.ff hx
    refine qp_drop s1.kn (p_callL (res := fun _ H v => Dt H v .none) (m, i) (pa_wi (p_var rfl hx1 (WayAt.mo _ _ _)) (d_var rfl (.int _)) hi) (mo_dt _)) fun F2 H2 s2 => ?_
    have hx2 := WayAt.mo _ _ _ _ _ _ s2.ff hx1
    refine k_ifF s2.kn (et_or (et_not (t_B (d_call (da_cons (d_var rfl (.int _)) da_nil) ⟨_, rfl, rfl, rfl⟩))) fun _ => t_val (d_cmp (d_var rfl (.int _)) (d_lenS (d_ixL (EvP.toD (wy_m (p_var rfl hx2 (WayAt.mo _ _ _)) (fun _ _ _ => rfl) (mo_dt _))) (d_var rfl (.int _)) (atI_nat (by rw [List.getElem?_map, hz]; rfl))) (szS (Nat.le_trans hzl (by decide)))))) ?_ fun F3 H3 s3 => ?_
    · rw [num_nat]
      show ((!true) || decide _) = false
      rw [decide_eq_false (by have hp' : p < z.length := hp; omega)]
      rfl
    · exact hQ _ _ s3.kn.hh .non
  · have kn := Kn.start e0
    rcases hb with ⟨hw, rfl, rfl⟩ | ⟨m, d, hx, hd, hn, rfl, rfl⟩ | ⟨m, d, zi, i, hx, rfl, hd, hz, hzl, hi, hn, rfl, rfl⟩
    · exact x_drop (x_call e0 (pa_v1 rfl ⟨⟨_, rfl, hw, rfl⟩, rfl, rfl⟩ badw_mo) fun d H' e hd hn => hE d H' e hn hd)
    · refine qp_drop kn (p_callL m (pa_cons1 (p_var rfl hx (WayAt.mo _ _ _)) (WayAt.mo _ _ _)) (mo_dt _)) fun F1 H1 s1 => ?_
      exact x_drop (x_call s1.kn.fh (pa_v2 rfl rfl ⟨⟨m, _, _, d, rfl, WayAt.mo _ _ _ _ _ _ s1.ff hx, hd.ex s1.ff, hn, rfl⟩, rfl, rfl⟩ badi_mo) fun d H' e hd hn => hE d H' (s1.ex.trans e) (exdm s1.ex d hn) hd)
    · have hil : i ≤ m.ss.length := by
        have q := (List.getElem?_eq_some_iff.mp hz).1
        rw [wordsOf_len] at q
        exact Nat.lt_succ_iff.mp q
      refine qp_drop kn (p_callL m (pa_cons1 (p_var rfl hx (WayAt.mo _ _ _)) (WayAt.mo _ _ _)) (mo_dt _)) fun F1 H1 s1 => ?_
      have hx1 := WayAt.mo _ _ _ _ _ _ s1.ff hx
      refine qp_drop s1.kn (p_callL (res := fun _ H v => Dt H v .none) (m, i) (pa_wi (p_var rfl hx1 (WayAt.mo _ _ _)) (d_var rfl (.int _)) hil) (mo_dt _)) fun F2 H2 s2 => ?_
      have hx2 := WayAt.mo _ _ _ _ _ _ s2.ff hx1
      have t2 := s1.trans s2
      have hd2 := hd.ex t2.ff
      have fin : ∀ F3 H3, StpE M0 F0 H F2 H2 F3 H3 → tRaise1 (He.ga K "BadNumber") "thing" (fun cls d _ H => E cls d H) (tVar 2) { nx := fun _ H' => Q .non H', rt := Q } (L2.start ["way", "index", "place"] [x, .int (i : Nat), z]) H3 := fun F3 H3 s3 => x_raise (Ex.refl H3) (ev_var rfl) fun d H' e hn hd => hE d H' ((t2.ex.trans s3.ex).trans e) (exdm (t2.ex.trans s3.ex) d hn) hd
      rcases hn with hn | ⟨p, rfl, hn⟩
      · exact k_ifT s2.kn (et_or (b := false) (et_not (t_B (d_call (c := c_is_number) (da_cons (d_var rfl hd2) da_nil) ⟨d, rfl, hi, rfl⟩))) fun z => by rw [hn] at z; cases z) (by rw [hn]; rfl) fin
      · cases hd.int_
        refine k_ifT s2.kn (et_or (et_not (t_B (d_call (da_cons (d_var rfl (.int _)) da_nil) ⟨_, rfl, rfl, rfl⟩))) fun _ => t_val (d_cmp (d_var rfl (.int _)) (d_lenS (d_ixL (EvP.toD (wy_m (p_var rfl hx2 (WayAt.mo _ _ _)) (fun _ _ _ => rfl) (mo_dt _))) (d_var rfl (.int _)) (atI_nat (by rw [List.getElem?_map, hz]; rfl))) (szS (Nat.le_trans hzl (by decide)))))) ?_ fin
        rw [num_nat]
        show ((!true) || decide _) = true
        rw [decide_eq_true (by omega)]
        rfl
def c_across (ds : List PyData) (r : PyData) : Prop := ∃ at_ p g c : Nat, ds = [.int (at_ : Nat), .int (p : Nat), .int (g : Nat), .int (c : Nat)] ∧ r = if at_ < p then .int (at_ : Nat) else if at_ < p + g then .none else .int ((at_ : Nat) - (g : Nat) + (c : Nat) : Int)
theorem cl_place_across (S : Env P w K mg base) : Cl P w K mg base 1 "place_across" ["at", "place", "gone", "come"] (SpD c_across) := mk_cl S.fun_place_across S.glo_place_across sc_place_across (fun _ _ _ _ _ _ us hl => match us, hl with | [_, _, _, _], _ => rfl) (SpD.len fun _ _ ⟨_, _, _, _, e, _⟩ => e ▸ rfl) fun cdv A outer s H vs Q E hr h => by
  have nd := sc_place_across.nd
  refine ⟨_, (pss_cons (ps_if (pt_cmpR op_lt (pv 0) (pv 1) (nomark _)) (pss_one (ps_ret (pv 0))) pss_nil)
    (pss_cons (ps_if (pt_cmpR op_lt (pv 0) (pe_op op_add (pv 1) (pv 2)) (nomark _)) (pss_one (ps_ret pe_non)) pss_nil)
    (pss_one (ps_ret (pe_op op_add (pe_op op_sub (pv 0) (pv 2)) (pv 3)))))), ?_⟩
  obtain ⟨F0, ds, r, e0, hd, hc, hQ⟩ := h
  have kn := Kn.start e0
  obtain ⟨a, p, g, c, rfl, rfl⟩ := hc
  obtain ⟨_, _, _, _, rfl, h1, h2, h3, h4⟩ := da4_ hd
  cases h1.int_
  cases h2.int_
  cases h3.int_
  cases h4.int_
  refine q_if kn (t_val (d_cmp (d_var rfl (.int _)) (d_var rfl (.int _)))) (fun hb F1 H1 s1 => ?_) fun hb F1 H1 s1 => ?_
  · have hb' : a < p := by have := of_decide_eq_true hb; omega
    rw [if_pos hb'] at hQ
    exact k_fin (Q := Q) hQ s1.kn (d_var rfl (.int _))
  have hb' : ¬ a < p := by have := of_decide_eq_false hb; omega
  rw [if_neg hb'] at hQ
  refine q_if s1.kn (t_val (d_cmp (d_var rfl (.int _)) (d_add (d_var rfl (.int _)) (d_var rfl (.int _))))) (fun hc F2 H2 s2 => ?_) fun hc F2 H2 s2 => ?_
  · have hc' : a < p + g := by have := of_decide_eq_true hc; omega
    rw [if_pos hc'] at hQ
    exact k_fin (Q := Q) hQ s2.kn d_non
  have hc' : ¬ a < p + g := by have := of_decide_eq_false hc; omega
  rw [if_neg hc'] at hQ
  exact k_fin (Q := Q) hQ s2.kn (d_add (d_sub (d_var rfl (.int _)) (d_var rfl (.int _))) (d_var rfl (.int _)))
end
end K05
namespace K05
open PySem PySem.Spec PyProof.Rows L2 Evl WB
section
variable {P : Program} {w : World} {K : PySem.W.Frag} {mg : Str → Option Value} {base : Heap}
abbrev AWk (K : PySem.W.Frag) : WayM → Hp → List V → Prop := fun m H vs => m.Ok ∧ ∃ v, vs = [v] ∧ WayAt (CB K) (CW K) m H v
theorem r_len {α : Type} {args : α → Hp → List V → Prop} {res : α → PyData} {n : Nat} (h : ∀ x F vs, args x F vs → vs.length = n) (vs : List V) (H : Hp) (Q : VK) (E : XK) (s : SpR args res vs H Q E) : vs.length = n := by
  obtain ⟨F, x, _, h1, _⟩ := s
  exact h _ _ _ h1
theorem awk_len (m : WayM) (F : Hp) (vs : List V) (h : AWk K m F vs) : vs.length = 1 := by
  obtain ⟨_, v, rfl, _⟩ := h
  rfl
/-- the numbers of these labels -/
def nums (m : WayM) (ls : List Lab) : List Nat := ls.map (numL m.rs m.z m.ss)
def pairAt (m : WayM) (n : Nat) : PyData := match m.ss[n]? with
  | some s => .tuple [natsD (nums m (takenL m.rs m.z m.ss n s)), natsD (nums m (givenL m.rs n s))]
  | none => .none
def pairsD (m : WayM) (n : Nat) : List PyData := (List.range n).map (pairAt m)
def wiresD (m : WayM) : PyData := .list (pairsD m m.ss.length)
theorem pairs_s {m : WayM} {n : Nat} {s : WStep} (h : m.ss[n]? = some s) : pairsD m (n + 1) = pairsD m n ++ [.tuple [natsD (nums m (takenL m.rs m.z m.ss n s)), natsD (nums m (givenL m.rs n s))]] := by
  unfold pairsD
  rw [List.range_succ, List.map_append]
  congr 1
  show [pairAt m n] = _
  unfold pairAt
  rw [h]
theorem range_nums (m : WayM) : nums m (rowAt m.rs m.z m.ss 0) = List.range m.z.length := by
  unfold nums rowAt
  rw [List.map_map]
  exact List.map_id _
theorem row_nums {m : WayM} {n : Nat} {s : WStep} (h : m.ss[n]? = some s) : nums m (rowAt m.rs m.z m.ss (n + 1)) = (nums m (rowAt m.rs m.z m.ss n)).take s.1 ++ nums m (givenL m.rs n s) ++ (nums m (rowAt m.rs m.z m.ss n)).drop (s.1 + srL m.rs s) := by
  rw [row_s h]
  unfold nextRow nums
  rw [List.map_append, List.map_append, List.map_take, List.map_drop]
theorem taken_nums {m : WayM} {n : Nat} {s : WStep} : nums m (takenL m.rs m.z m.ss n s) = ((nums m (rowAt m.rs m.z m.ss n)).drop s.1).take (srL m.rs s) := by
  unfold takenL nums
  rw [List.map_take, List.map_drop]
theorem given_nums {m : WayM} {n : Nat} {s : WStep} : nums m (givenL m.rs n s) = (List.range (goL m.rs s)).map fun j => freshAt m.rs m.z m.ss n + j := given_num ..
def rowD (m : WayM) (n : Nat) : PyData := natsD (nums m (rowAt m.rs m.z m.ss n))
theorem cl_wires_and_end (S : Env P w K mg base) : Cl P w K mg base 2 "wires_and_end" ["way"] (SpR (AWk K) fun m => .tuple [wiresD m, rowD m m.ss.length]) := mk_cl S.fun_wires_and_end S.glo_wires_and_end sc_wires_and_end (fun _ _ _ _ _ _ us hl => match us, hl with | [_], _ => rfl) (r_len awk_len) fun cdv A outer s H vs Q E hr h => by
  have nd := sc_wires_and_end.nd
  refine ⟨_, (pss_cons (ps_set (i := 1) nd rfl (by first | exact Or.inl rfl | exact Or.inr rfl) (pe_mt0 (mt_Book_rules S) hr (by decide) pass_none (pe_mt0 (mt_Way_book S) hr (by decide) pass_none (pv 0))))
    (pss_cons (ps_set (i := 2) nd rfl (by first | exact Or.inl rfl | exact Or.inr rfl) (pe_listRg rfl rfl S.free_list (prg_1 rfl S.free_range (pe_callB (r := rLenSQ) (id := "len") call_len_str (by rfl) S.free_len (by decide +kernel) (pa_cons (pe_mt0 (mt_Way_word S) hr (by decide) pass_none (pv 0)) pa_nil)))))
    (pss_cons (ps_set (i := 3) nd rfl (by first | exact Or.inl rfl | exact Or.inr rfl) (pe_callB (r := rLenQ K) (id := "len") call_len_seq (by rfl) S.free_len (by decide +kernel) (pa_cons (pv 2) pa_nil)))
    (pss_cons (ps_set (i := 4) nd rfl (by first | exact Or.inl rfl | exact Or.inr rfl) (pe_lst pa_nil))
    (pss_cons (ps_for (passes_of rfl) rfl (pi_listK (K := K) rfl (pe_mt0 (mt_Way_steps S) hr (by decide) pass_none (pv 0))) (pg_name (i := 5) nd rfl (by first | exact Or.inl rfl | exact Or.inr rfl))
    (pss_cons (ps_asg (pe_cl (cl_sides S) hr (by decide) pass_none (by rfl) (pa_cons (pv 1) (pa_cons (pv 5) pa_nil))) (pg_tupK (K := K) (n := 2) rfl rfl (pgs_cons (pg_name (i := 6) nd rfl (by first | exact Or.inl rfl | exact Or.inr rfl)) (pgs_cons (pg_name (i := 7) nd rfl (by first | exact Or.inl rfl | exact Or.inr rfl)) pgs_nil))))
    (pss_cons (ps_set (i := 8) nd rfl (by first | exact Or.inl rfl | exact Or.inr rfl) (pe_ix (r := rIxT K) ix_tup (pv 5) pe_int (fun _ _ => rfl)))
    (pss_cons (ps_set (i := 9) nd rfl (by first | exact Or.inl rfl | exact Or.inr rfl) (pe_slice (r := rSlL K) sl_list (pv 2) (po_some (pv 8)) (po_some (pe_op op_add (pv 8) (pe_callB (r := rLenSQ) (id := "len") call_len_str (by rfl) S.free_len (by decide +kernel) (pa_cons (pv 6) pa_nil))))))
    (pss_cons (ps_set (i := 10) nd rfl (by first | exact Or.inl rfl | exact Or.inr rfl) (pe_listRg rfl rfl S.free_list (prg_2 rfl S.free_range (pv 3) (pe_op op_add (pv 3) (pe_callB (r := rLenSQ) (id := "len") call_len_str (by rfl) S.free_len (by decide +kernel) (pa_cons (pv 7) pa_nil))))))
    (pss_cons (ps_aug (i := 3) nd rfl (by first | exact Or.inl rfl | exact Or.inr rfl) (pe_callB (r := rLenSQ) (id := "len") call_len_str (by rfl) S.free_len (by decide +kernel) (pa_cons (pv 7) pa_nil)) ip_add)
    (pss_cons (ps_asg (pv 10) (pg_slc (pv 2) (po_some (pv 8)) (po_some (pe_op op_add (pv 8) (pe_callB (r := rLenSQ) (id := "len") call_len_str (by rfl) S.free_len (by decide +kernel) (pa_cons (pv 6) pa_nil))))))
    (pss_one (ps_expr (pe_bmK (K := K) (r := rAppend) rfl PySem.F.plainAttrs_list PySem.F.slot_list_append PySem.F.type_list_append mt_append (pv 4) (pa_cons (pe_tup (pa_cons (pv 9) (pa_cons (pv 10) pa_nil))) pa_nil)))))))))))
    (pss_one (ps_ret (pe_tup (pa_cons (pv 4) (pa_cons (pv 2) pa_nil)))))))))), ?_⟩
  obtain ⟨F0, m, e0, ⟨ok, x, rfl, hx⟩, hQ⟩ := h
  have kn := Kn.start e0
  have s1 := kn.step (Ex.refl H)
  have hx1 := WayAt.mo _ _ _ _ _ _ s1.ff hx
  refine qp_asg s1.kn (bk_m (wy_m (p_var rfl hx1 (WayAt.mo _ _ _)) (fun _ _ _ => rfl) (BookAt.mo _ _)) (fun _ => rfl) (mo_dt _)) fun rv F2 H2 s2 hrv => ?_
  have t2 := s1.trans s2
  have hx2 := WayAt.mo _ _ _ _ _ _ t2.ff hx
  have zl := ok.s.len
  refine q_row s2.kn (er_rg1 (d_lenS (EvP.toD (wy_m (p_var rfl hx2 (WayAt.mo _ _ _)) (fun _ _ _ => rfl) (mo_dt _))) (szS (Nat.le_trans zl (by decide)))) (RgOk.of_le (by omega) (by omega) (by omega) (by omega))) fun lr H3 s3 hlr0 hlr => ?_
  have t3 := t2.trans s3
  have hF3 : but (nw F2 H2 H3) lr lr = none := but_same
  have h0r : H lr = none := t2.kn.dm lr hlr0
  refine q_asgS (d := .int (m.z.length : Nat)) s3.kn (ex_own s3.kn hlr) ((d_lenL (d_var rfl (dt_own hF3 (nats_all _).dt))).is (by rw [List.length_map, List.length_range])) rfl fun F4 H4 s4 => ?_
  have t4 := t3.trans s4
  refine q_newN s4.kn da_nil (by simp) fun lt xs F5 H5 s5 hlt0 hl4 hlt hxs => ?_
  have t5 := t4.trans s5
  cases hxs.nil_
  have ne : lr ≠ lt := fun q => by
    have := s4.ex _ _ hlr
    rw [q, hl4] at this
    cases this
  have h0t : H lt = none := t4.kn.dm lt hl4
  have hrv5 : Dt F5 rv (rulesD m.rs) := hrv.ex ((s3.ff.trans s4.ff).trans s5.ff)
  have hx5 := WayAt.mo _ _ _ _ _ _ t5.ff hx
  refine q_for s5.kn (wk_list (EvP.toD (wy_m (p_var rfl hx5 (WayAt.mo _ _ _)) (fun _ _ _ => rfl) (mo_dt _)))) (fun i σ' F' H' => (∃ y5 y6 y7 y8 y9 y10, σ' = [some x, some rv, some (.ref lr), some (.int (freshAt m.rs m.z m.ss i : Nat)), some (.ref lt), y5, y6, y7, y8, y9, y10]) ∧ Dt F' rv (rulesD m.rs) ∧
    H' lr = some (.lst (natsV (nums m (rowAt m.rs m.z m.ss i)))) ∧ F' lr = none ∧ F' lt = none ∧ ∃ vs as, H' lt = some (.lst vs) ∧ TrAll F' vs (pairsD m i) as ∧ as.Nodup ∧ (∀ a ∈ as, H a = none)) ?_ ?_ ?_ ?_
  · intro F6 H6 s6
    refine ⟨⟨none, none, none, none, none, none, ?_⟩, hrv5.ex s6.ff, ?_, ?_, ?_, [], [], s6.ex _ _ hlt, .nil, List.nodup_nil, fun a z => nomatch z⟩
    · rw [show freshAt m.rs m.z m.ss 0 = m.z.length by unfold freshAt; rw [List.take_zero, List.map_nil, List.sum_nil, Nat.add_zero]]
      rfl
    · rw [range_nums]
      exact s6.ex _ _ (s5.ex _ _ (s4.ex _ _ hlr))
    · exact s6.fr _ _ (s5.ex _ _ (s4.ex _ _ hlr)) (s5.fr _ _ (s4.ex _ _ hlr) (s4.fr _ _ hlr hF3))
    · exact s6.fr _ _ hlt hlt0
  · rintro i σ' F' H' H2 ⟨hσ, g1, g2, g3, g4, vs, as, g5, g6, g7, g8⟩ kn' e
    have s := kn'.step (H1 := H2) e
    exact ⟨hσ, g1.ex s.ff, e _ _ g2, s.fr _ _ g2 g3, s.fr _ _ g5 g4, vs, as, e _ _ g5, g6.ex s.ff, g7, g8⟩
  · rintro i d y σ' F' H' hi kn' eF hd ⟨⟨y5, y6, y7, y8, y9, y10, rfl⟩, g1, g2, g3, g4, vs, as, g5, g6, g7, g8⟩ N hN
    obtain ⟨st, hst, rfl⟩ := map_at hi
    obtain ⟨q, zi, zj, sa⟩ := ok.step hst
    have rl := row_len ok sa.z
    refine q_unp2 kn' (d_call (da_cons (d_var rfl g1) (da_cons (d_var rfl hd) da_nil)) ⟨_, _, _, rfl, sa.hq, rfl⟩) fun v1 v2 F6 H6 s6 k1 k2 => ?_
    refine q_asg s6.kn (d_st0 (d_var rfl (hd.ex s6.ff))) fun pv F7 H7 s7 hpv => ?_
    have t7 := s6.trans s7
    cases hpv.int_
    cases k1.str_
    cases k2.str_
    have sl : (src q st.2.2).length ≤ sizeLine := szS (Nat.le_trans (sa.ok.sl _) (by decide))
    have gl : (gol q st.2.2).length ≤ sizeLine := szS (Nat.le_trans (sa.ok.gl _) (by decide))
    have el : ((st.1 : Nat) : Int) + ((src q st.2.2).length : Nat) = ((st.1 + srL m.rs st : Nat) : Int) := by rw [srL_eq sa.hq]; omega
    have g2' := t7.ex _ _ g2
    have fl := fresh_le ok i
    refine q_asgR s7.kn (ex_own s7.kn g2') (er_sl (ms := nums m (takenL m.rs m.z m.ss i st)) (ev_var rfl) upd_same (do_some (d_var rfl (.int _))) (do_some (d_add (d_var rfl (.int _)) (d_lenS (d_var rfl (.str _)) sl))) ?_) fun v9 as9 F8 H8 s8 r9 n9 f9 => ?_
    · rw [el, cutV_nn, taken_nums]
      congr 2
      omega
    have t8 := t7.trans s8
    obtain ⟨a9, rfl, rfl, h9⟩ := r9.nats_
    have f9 := f9 a9 (List.mem_singleton.mpr rfl)
    refine q_asgR s8.kn s8.kn.fh ((er_rg2 (n := (gol q st.2.2).length) (d_var rfl (.int _)) (d_add (d_var rfl (.int _)) (d_lenS (d_var rfl (.str _)) gl)) (RgOk.of_le (by omega) (by have := sa.ok.gl st.2.2; omega) (by omega) (by omega))).is (e := natsD (nums m (givenL m.rs i st))) (by rw [given_nums, goL_eq sa.hq])) fun v10 as10 F9 H9 s9 r10 n10 f10 => ?_
    have t9 := t8.trans s9
    obtain ⟨a10, rfl, rfl, h10⟩ := r10.nats_
    have f10 := f10 a10 (List.mem_singleton.mpr rfl)
    refine q_aug s9.kn rfl (d_lenS (d_var rfl (.str _)) gl) fun F10 H10 s10 => ?_
    have t10 := t9.trans s10
    have rn : (nums m (rowAt m.rs m.z m.ss i)).length = zi.length := by unfold nums; rw [List.length_map, rl]
    have gn : (nums m (givenL m.rs i st)).length = goL m.rs st := by unfold nums givenL; rw [List.length_map, List.length_map, List.length_range]
    refine q_slc (lo := ((st.1 : Nat) : Int)) (hi := ((st.1 + srL m.rs st : Nat) : Int)) s10.kn (t10.ex _ _ g2) (t10.fr _ _ g2 g3) h0r (s10.ff _ _ h10) (ev_var rfl) (ev_var rfl) (do_some (d_var rfl (.int _))) (by rw [← el]; exact do_some (d_add (d_var rfl (.int _)) (d_lenS (d_var rfl (.str _)) sl))) (by omega) (by omega) (by rw [natsV_len, rn]; have := sa.c; omega) (by rw [natsV_len, natsV_len, rn, gn]; have := sa.zl; have := sa.ok.gl st.2.2; rw [goL_eq sa.hq]; exact sz_of (by omega)) fun F11 H11 k11 ff11 fn11 hl11 o11 fr11 => ?_
    have g5' := o11 _ _ (Ne.symm ne) (t10.ex _ _ g5)
    have r9' := r9.ex ((s9.ff.trans s10.ff).trans ff11)
    have r10' := r10.ex (s10.ff.trans ff11)
    have g6' := g6.ex (t10.ff.trans ff11)
    have vl : vs.length = i := by
      have := g6.dt.len
      unfold pairsD at this
      rw [List.length_map, List.length_range] at this
      exact this
    have il : i < m.ss.length := (List.getElem?_eq_some_iff.mp hst).1
    have := ok.n
    refine k_appP k11 g5' (fr11 _ _ (t10.ex _ _ g5) (t10.fr _ _ g5 g4)) h0t (ev_var rfl) (p_tup2 (p_var rfl r9' (mo_tr _ _)) (mo_tr _ _) (p_var rfl r10' (mo_tr _ _)) (mo_tr _ _)) (mo_tup2 (mo_tr _ _) (mo_tr _ _)) (by omega) fun v F12 H12 k12 ff12 fn12 hv hl12 o12 fr12 => ?_
    obtain ⟨p, x1, x2, rfl, hp, b9, b10⟩ := hv
    have fa : Ex F' F12 := (t10.ff.trans ff11).trans ff12
    have ma : a9 ∉ as := g6.fresh (t7.ff.trans s7.kn.fh) f9
    have mb : a10 ∉ as := g6.fresh (t8.ff.trans s8.kn.fh) f10
    refine hN _ F12 H12 k12 fa ⟨⟨some y, some (V.str (src q st.2.2)), some (V.str (gol q st.2.2)), some (V.int (st.1 : Nat)), some (V.ref a9), some (V.ref a10), ?_⟩, g1.ex fa, ?_, fr12 _ _ hl11 fn11, fn12, vs ++ [.ref p], as ++ [a9, a10], hl12, ?_, nodup_two g7 ma mb fun z => ?_, ?_⟩
    · rw [fresh_s hst, goL_eq sa.hq]
      rfl
    · rw [row_nums hst]
      have z := o12 _ _ ne hl11
      rw [z]
      congr 2
      unfold natsV
      rw [List.map_append, List.map_append, List.map_take, List.map_drop]
      rfl
    · rw [pairs_s hst]
      exact (g6.ex fa).app (.one (.tup hp (.cons b9 (.one b10))))
    · rw [z] at h9
      rw [s8.kn.fh _ _ h9] at f10
      cases f10
    · intro a ha
      rcases List.mem_append.mp ha with q | q
      · exact g8 a q
      · rcases List.mem_cons.mp q with q | q
        · rw [q]; exact s7.kn.dm _ f9
        · rw [List.mem_singleton.mp q]; exact s8.kn.dm _ f10
  · rintro σ' F' H' kn' eF ⟨⟨y5, y6, y7, y8, y9, y10, rfl⟩, g1, g2, g3, g4, vs, as, g5, g6, g7, g8⟩
    rw [steps_len] at g2 g6
    exact k_finR2 hQ kn' g5 g4 h0t g6 g7 g8 g2 g3 h0r ne (ev_var rfl) (ev_var rfl)
theorem pa_wk {σ : L2.St} {F : Hp} {te : TE} {m : WayM} (h : EvP te σ F (Wy K m)) (ok : m.Ok) : EvPA (tCons te tNil) σ F (AWk K m) := fun H1 e _ q =>
  h H1 e _ fun x H2 e2 hx => q [x] H2 e2 ⟨ok, x, rfl, hx⟩
theorem fo_wires (S : Env P w K mg base) {fd : FuncData} (F : FunD K d_wires.name d_wires.qual d_wires.params d_wires.body d_wires.scope [] [] (He.fAd K d_wires.at_) fd) : FnOk P w K mg base (L2.CX P w) 5 (He.fAd K d_wires.at_) fd ["way"] (SpOr (SpR (AWk K) wiresD) (SpX (BadW K))) := F.ok sc_wires (or_len (r_len awk_len) (x_len badw_len)) fun cdv A outer s H vs Q E hr h => by
  have nd := sc_wires.nd
  refine ⟨_, (pss_cons (ps_expr (pe_cl (cl_need_way S) hr (by decide) (passes_call (takes_of rfl rfl rfl rfl) fun _ _ _ _ h => h) (by rfl) (pa_cons (pv 0) pa_nil)))
    (pss_one (ps_ret (pe_ix (r := rIxT K) ix_tup (pe_cl (cl_wires_and_end S) hr (by decide) (passes_call (takes_of rfl rfl rfl rfl) fun _ _ _ _ h => h) (by rfl) (pa_cons (pv 0) pa_nil)) pe_int (fun _ _ => rfl))))), ?_⟩
  rcases h with ⟨F0, m, e0, ⟨ok, x, rfl, hx⟩, hQ⟩ | ⟨F0, C, f, z, e0, hb, hE⟩
  rotate_left
  · obtain ⟨⟨x, rfl, _⟩, _⟩ := id hb
    exact x_drop (x_call e0 (pa_v1 rfl hb badw_mo) fun d H' e hd hn => hE d H' e hn hd)
  have kn := Kn.start e0
  refine qp_drop kn (p_callL m (pa_cons1 (p_var rfl hx (WayAt.mo _ _ _)) (WayAt.mo _ _ _)) (mo_dt _)) fun F1 H1 s1 => ?_
  have hx1 := WayAt.mo _ _ _ _ _ _ s1.ff hx
  exact kr_fin hQ s1.kn (r_ix0 (r_call m (pa_wk (p_var rfl hx1 (WayAt.mo _ _ _)) ok)) (Ex.refl _))
theorem cl_wires (S : Env P w K mg base) : Cl P w K mg base 5 "wires" ["way"] (SpOr (SpR (AWk K) wiresD) (SpX (BadW K))) := mk_clF S.fun_wires S.glo_wires (fun F => fo_wires S F) (fun _ _ _ _ _ _ us hl => match us, hl with | [_], _ => rfl)
theorem clk_wires (S : Env P w K mg base) : ClK P w K mg base 5 "wires" ["way"] ["way"] g1 g1 (SpOr (SpR (AWk K) wiresD) (SpX (BadW K))) := mk_clK1 S.fun_wires S.glo_wires (fun F => fo_wires S F) (fun _ _ _ _ _ _ _ => rfl)
end
end K05
namespace K05
open PySem PySem.Spec PyProof.Rows L2 Evl WB
section
variable {P : Program} {w : World} {K : PySem.W.Frag} {mg : Str → Option Value} {base : Heap}
def rowsD (m : WayM) (n : Nat) : List PyData := (List.range n).map (rowD m)
def wrowsD (m : WayM) : PyData := .list (rowsD m (m.ss.length + 1))
theorem rowsD_s (m : WayM) (n : Nat) : rowsD m (n + 1) = rowsD m n ++ [rowD m n] := by
  unfold rowsD
  rw [List.range_succ, List.map_append]
  rfl
theorem pairsD_len (m : WayM) (n : Nat) : (pairsD m n).length = n := by unfold pairsD; rw [List.length_map, List.length_range]
theorem rowsD_len (m : WayM) (n : Nat) : (rowsD m n).length = n := by unfold rowsD; rw [List.length_map, List.length_range]
theorem pairsD_get {m : WayM} {n i : Nat} {s : WStep} (h : i < n) (hs : m.ss[i]? = some s) : (pairsD m n)[i]? = some (.tuple [natsD (nums m (takenL m.rs m.z m.ss i s)), natsD (nums m (givenL m.rs i s))]) := by
  unfold pairsD
  rw [List.getElem?_map, List.getElem?_range h]
  show some (pairAt m i) = _
  unfold pairAt
  rw [hs]
theorem nums_len (m : WayM) (ls : List Lab) : (nums m ls).length = ls.length := by unfold nums; rw [List.length_map]
theorem taken_len {m : WayM} (ok : m.Ok) {n : Nat} {s : WStep} {q : Rule} {zi zj : Str} (sa : StepAt m n s q zi zj) : (takenL m.rs m.z m.ss n s).length = srL m.rs s := by
  unfold takenL
  rw [List.length_take, List.length_drop, row_len ok sa.z]
  have := sa.c
  omega
theorem fo_wire_rows (S : Env P w K mg base) {fd : FuncData} (F : FunD K d_wire_rows.name d_wire_rows.qual d_wire_rows.params d_wire_rows.body d_wire_rows.scope [] [] (He.fAd K d_wire_rows.at_) fd) : FnOk P w K mg base (L2.CX P w) 6 (He.fAd K d_wire_rows.at_) fd ["way"] (SpOr (SpR (AWk K) wrowsD) (SpX (BadW K))) := F.ok sc_wire_rows (or_len (r_len awk_len) (x_len badw_len)) fun cdv A outer s H vs Q E hr h => by
  have nd := sc_wire_rows.nd
  refine ⟨_, (pss_cons (ps_expr (pe_cl (cl_need_way S) hr (by decide) (passes_call (takes_of rfl rfl rfl rfl) fun _ _ _ _ h => h) (by rfl) (pa_cons (pv 0) pa_nil)))
    (pss_cons (ps_set (i := 1) nd rfl (by first | exact Or.inl rfl | exact Or.inr rfl) (pe_lst (pa_cons (pe_listRg rfl rfl S.free_list (prg_1 rfl S.free_range (pe_callB (r := rLenSQ) (id := "len") call_len_str (by rfl) S.free_len (by decide +kernel) (pa_cons (pe_mt0 (mt_Way_word S) hr (by decide) (passes_call (takes_of rfl rfl rfl rfl) fun _ _ _ _ h => h) (pv 0)) pa_nil)))) pa_nil)))
    (pss_cons (ps_for (passes_of rfl) rfl (pi_zipK (K := K) rfl rfl S.free_zip (pa_cons (pe_mt0 (mt_Way_steps S) hr (by decide) (passes_call (takes_of rfl rfl rfl rfl) fun _ _ _ _ h => h) (pv 0)) (pa_cons (pe_cl (cl_wires S) hr (by decide) (passes_call (takes_of rfl rfl rfl rfl) fun _ _ _ _ h => h) (by rfl) (pa_cons (pv 0) pa_nil)) pa_nil))) (pg_tupK (K := K) (n := 2) rfl rfl (pgs_cons (pg_name (i := 2) nd rfl (by first | exact Or.inl rfl | exact Or.inr rfl)) (pgs_cons (pg_tupK (K := K) (n := 2) rfl rfl (pgs_cons (pg_name (i := 3) nd rfl (by first | exact Or.inl rfl | exact Or.inr rfl)) (pgs_cons (pg_name (i := 4) nd rfl (by first | exact Or.inl rfl | exact Or.inr rfl)) pgs_nil))) pgs_nil)))
    (pss_cons (ps_set (i := 5) nd rfl (by first | exact Or.inl rfl | exact Or.inr rfl) (pe_ix (r := rIxL K) ix_list (pv 1) (pe_un un_neg pe_int) (fun _ _ => rfl)))
    (pss_cons (ps_set (i := 6) nd rfl (by first | exact Or.inl rfl | exact Or.inr rfl) (pe_ix (r := rIxT K) ix_tup (pv 2) pe_int (fun _ _ => rfl)))
    (pss_one (ps_expr (pe_bmK (K := K) (r := rAppend) rfl PySem.F.plainAttrs_list PySem.F.slot_list_append PySem.F.type_list_append mt_append (pv 1) (pa_cons (pe_op op_cat (pe_op op_cat (pe_slice (r := rSlL K) sl_list (pv 5) po_none (po_some (pv 6))) (pv 4)) (pe_slice (r := rSlL K) sl_list (pv 5) (po_some (pe_op op_add (pv 6) (pe_callB (r := rLenQ K) (id := "len") call_len_seq (by rfl) S.free_len (by decide +kernel) (pa_cons (pv 3) pa_nil)))) po_none)) pa_nil)))))))
    (pss_one (ps_ret (pv 1)))))), ?_⟩
  rcases h with ⟨F0, m, e0, ⟨ok, x, rfl, hx⟩, hQ⟩ | ⟨F0, C, f, z, e0, hb, hE⟩
  rotate_left
  · obtain ⟨⟨x, rfl, _⟩, _⟩ := id hb
    exact x_drop (x_call e0 (pa_v1 rfl hb badw_mo) fun d H' e hd hn => hE d H' e hn hd)
  have kn := Kn.start e0
  refine qp_drop kn (p_callL m (pa_cons1 (p_var rfl hx (WayAt.mo _ _ _)) (WayAt.mo _ _ _)) (mo_dt _)) fun F1 H1 s1 => ?_
  have hx1 := WayAt.mo _ _ _ _ _ _ s1.ff hx
  have zl := ok.s.len
  refine q_newR s1.kn (er_rg1 (d_lenS (EvP.toD (wy_m (p_var rfl hx1 (WayAt.mo _ _ _)) (fun _ _ _ => rfl) (mo_dt _))) (szS (Nat.le_trans zl (by decide)))) (RgOk.of_le (by omega) (by omega) (by omega) (by omega))) fun l v as F2 H2 s2 hl0 hl1 hl r2 n2 f2 => ?_
  have t2 := s1.trans s2
  have hx2 := WayAt.mo _ _ _ _ _ _ t2.ff hx
  have h0l : H l = none := s1.kn.dm l hl1
  refine q_for s2.kn (wk_zip (da_cons (EvP.toD (wy_m (p_var rfl hx2 (WayAt.mo _ _ _)) (fun _ _ _ => rfl) (mo_dt _))) (da_cons (r_callL m (pa_wk (p_var rfl hx2 (WayAt.mo _ _ _)) ok)).toD da_nil))) (fun i σ' F' H' => (∃ y2 y3 y4 y5 y6, σ' = [some x, some (.ref l), y2, y3, y4, y5, y6]) ∧ F' l = none ∧
    ∃ vs as, H' l = some (.lst vs) ∧ TrAll F' vs (rowsD m (i + 1)) as ∧ as.Nodup ∧ (∀ a ∈ as, H a = none)) ?_ ?_ ?_ ?_
  · intro F6 H6 s6
    refine ⟨⟨none, none, none, none, none, rfl⟩, s6.fr _ _ hl hl0, [v], as, s6.ex _ _ hl, ?_, n2, fun a ha => s1.kn.dm a (f2 a ha)⟩
    rw [rowsD_s]
    unfold rowD
    rw [range_nums]
    exact .one (r2.ex s6.ff)
  · rintro i σ' F' H' H2 ⟨hσ, g1, vs, as, g5, g6, g7, g8⟩ kn' e
    have s := kn'.step (H1 := H2) e
    exact ⟨hσ, s.fr _ _ g5 g1, vs, as, e _ _ g5, g6.ex s.ff, g7, g8⟩
  · rintro i d y σ' F' H' hi kn' eF hd ⟨⟨y2, y3, y4, y5, y6, rfl⟩, g1, vs, as, g5, g6, g7, g8⟩ N hN
    have il : i < m.ss.length := by
      have z := (List.getElem?_eq_some_iff.mp hi).1
      unfold zipD at z
      rw [List.length_zipWith, steps_len, pairsD_len] at z
      omega
    obtain ⟨q, zi, zj, sa⟩ := ok.step (List.getElem?_eq_getElem il)
    generalize m.ss[i] = st at sa
    have rl := row_len ok sa.z
    unfold zipD at hi
    rw [List.getElem?_zipWith, List.getElem?_map, sa.hs, pairsD_get il sa.hs] at hi
    cases hi
    refine gt12 hd kn'.fh fun vS vT vG b1 b2 b3 => ?_
    have rd : atI (rowsD m (i + 1)) (-1) = some (rowD m i) := by rw [rowsD_s]; exact atI_last _ _
    obtain ⟨vr, hvr, hvd⟩ := g6.dt.atI rd
    refine q_ixO kn' g5 (ev_var rfl) (ev_un ev_c ru_neg) hvr fun F7 H7 s7 => ?_
    refine q_asg s7.kn (d_st0 (d_var rfl (b1.ex s7.ff))) fun pv F8 H8 s8 hpv => ?_
    have t8 := s7.trans s8
    cases hpv.int_
    have vl : vs.length = i + 1 := by
      have := g6.dt.len
      rw [rowsD_len] at this
      exact this
    have := ok.n
    have rn : (nums m (rowAt m.rs m.z m.ss i)).length = zi.length := by rw [nums_len, rl]
    have gn : (nums m (givenL m.rs i st)).length = goL m.rs st := by rw [nums_len]; unfold givenL; rw [List.length_map, List.length_range]
    have tn := taken_len ok sa
    have zz := sa.zl
    have gg : goL m.rs st ≤ 1000 := by rw [goL_eq sa.hq]; exact sa.ok.gl _
    refine k_appR s8.kn (t8.ex _ _ g5) (t8.fr _ _ g5 g1) h0l (ev_var rfl) s8.kn.fh ((er_cat (ns := (nums m (rowAt m.rs m.z m.ss i)).take st.1 ++ nums m (givenL m.rs i st)) (ms := (nums m (rowAt m.rs m.z m.ss i)).drop (st.1 + srL m.rs st))
      ((d_catL (d_slL (d_var rfl (hvd.ex t8.ff)) do_none (do_some (d_var rfl (.int _)))) (d_var rfl (b3.ex t8.ff)) ?_).is ?_)
      ((d_slL (d_var rfl (hvd.ex t8.ff)) (do_some (d_add (d_var rfl (.int _)) (d_lenL (d_var rfl (b2.ex t8.ff))))) do_none).is ?_) ?_).is (e := rowD m (i + 1)) ?_) (by omega) fun v9 as9 F9 H9 k9 ff9 fn9 r9 n9 f9 hl9 o9 fr9 => ?_
    · rw [cutD_lo, List.length_take, List.length_map, List.length_map, rn, gn]
      exact sz_of (by omega)
    · rw [cutD_lo]
      unfold natsD
      rw [List.map_append, List.map_take]
    · rw [List.length_map, nums_len, tn, show ((st.1 : Nat) : Int) + ((srL m.rs st : Nat) : Int) = ((st.1 + srL m.rs st : Nat) : Int) by omega, cutD_hi]
      unfold natsD
      rw [List.map_drop]
    · rw [List.length_append, List.length_take, List.length_drop, rn, gn]
      exact sz_of (by omega)
    · unfold rowD
      rw [row_nums sa.hs]
    · have fa := t8.ff.trans ff9
      refine hN _ F9 H9 k9 fa ⟨⟨some vS, some vT, some vG, some vr, some (V.int (st.1 : Nat)), rfl⟩, fn9, vs ++ [v9], as ++ as9, hl9, ?_, ?_, fun a ha => ?_⟩
      · rw [rowsD_s]
        exact (g6.ex fa).app (.one r9)
      · refine List.nodup_append.mpr ⟨g7, n9, fun a ha b hb z => ?_⟩
        rw [z] at ha
        exact g6.fresh (t8.ff.trans s8.kn.fh) (f9 b hb) ha
      · rcases List.mem_append.mp ha with q | q
        · exact g8 a q
        · exact s8.kn.dm a (f9 a q)
  · rintro σ' F' H' kn' eF ⟨⟨y2, y3, y4, y5, y6, rfl⟩, g1, vs, as, g5, g6, g7, g8⟩
    have zl : (zipD (m.ss.map stepD) (pairsD m m.ss.length)).length = m.ss.length := by
      unfold zipD
      rw [List.length_zipWith, steps_len, pairsD_len, Nat.min_self]
    rw [zl] at g6
    exact k_finR hQ kn' g5 g1 h0l g6 g7 g8 (ev_var rfl)
theorem cl_wire_rows (S : Env P w K mg base) : Cl P w K mg base 6 "wire_rows" ["way"] (SpOr (SpR (AWk K) wrowsD) (SpX (BadW K))) := mk_clF S.fun_wire_rows S.glo_wire_rows (fun F => fo_wire_rows S F) (fun _ _ _ _ _ _ us hl => match us, hl with | [_], _ => rfl)
theorem clk_wire_rows (S : Env P w K mg base) : ClK P w K mg base 6 "wire_rows" ["way"] ["way"] g1 g1 (SpOr (SpR (AWk K) wrowsD) (SpX (BadW K))) := mk_clK1 S.fun_wire_rows S.glo_wire_rows (fun F => fo_wire_rows S F) (fun _ _ _ _ _ _ _ => rfl)
end
end K05
namespace K05
open PySem PySem.Spec PyProof.Rows L2 Evl WB
section
variable {P : Program} {w : World} {K : PySem.W.Frag} {mg : Str → Option Value} {base : Heap}
theorem pa_wl {σ : L2.St} {F : Hp} {te tx ty : TE} {m : WayM} {i p : Nat} (h : EvP te σ F (Wy K m)) (hx : EvD tx σ F (.int (i : Nat))) (hy : EvD ty σ F (.int (p : Nat))) (ok : m.Ok) (hi : ∃ z, (wordsOf m.rs m.z m.ss)[i]? = some z ∧ z.length ≤ 1000 ∧ p < z.length) : EvPA (tCons te (tCons tx (tCons ty tNil))) σ F (AWl K (m, i, p)) := fun H1 e _ q =>
  h H1 e _ fun x H2 e2 hx' => hx H2 (e.trans e2) _ fun y H3 e3 hy' => hy H3 ((e.trans e2).trans e3) _ fun u H4 e4 hu => by
    cases hy'.int_
    cases hu.int_
    exact q [x, .int i, .int p] H4 ((e2.trans e3).trans e4) ⟨ok, hi, x, rfl, WayAt.mo _ _ _ _ _ _ (nw_r (exexn (e3.trans e4))) hx'⟩
def acrossD (i p g c : Nat) : PyData := if i < p then .int (i : Nat) else if i < p + g then .none else .int ((i : Nat) - (g : Nat) + (c : Nat) : Int)
theorem stD_at {ss : List WStep} {n : Nat} {s : WStep} (h : ss[n]? = some s) : atI (ss.map stepD) ((n : Nat) : Int) = some (stepD s) := atI_nat (by rw [List.getElem?_map, h]; rfl)
abbrev comesD (m : WayM × Nat × Nat) : PyData := labD ((rowAt m.1.rs m.1.z m.1.ss m.2.1).getD m.2.2 (none, 0))
theorem fo_comes_from (S : Env P w K mg base) {fd : FuncData} (F : FunD K d_comes_from.name d_comes_from.qual d_comes_from.params d_comes_from.body d_comes_from.scope [] [] (He.fAd K d_comes_from.at_) fd) : FnOk P w K mg base (L2.CX P w) 6 (He.fAd K d_comes_from.at_) fd ["way", "index", "place"] (SpOr (SpP (AWl K) fun m H v => Dt H v (comesD m)) (SpX (BadL K))) := F.ok sc_comes_from (or_len (wy_len awl_len) (x_len badl_len)) fun cdv A outer s H vs Q E hr h => by
  have nd := sc_comes_from.nd
  refine ⟨_, (pss_cons (ps_expr (pe_cl (cl_need_letter S) hr (by decide) (passes_call (takes_of rfl rfl rfl rfl) fun _ _ _ _ h => h) (by rfl) (pa_cons (pv 0) (pa_cons (pv 1) (pa_cons (pv 2) pa_nil)))))
    (pss_cons (ps_set (i := 3) nd rfl (by first | exact Or.inl rfl | exact Or.inr rfl) (pe_mt0 (mt_Book_rules S) hr (by decide) (passes_call (takes_of rfl rfl rfl rfl) fun _ _ _ _ h => h) (pe_mt0 (mt_Way_book S) hr (by decide) (passes_call (takes_of rfl rfl rfl rfl) fun _ _ _ _ h => h) (pv 0))))
    (pss_cons (ps_set (i := 4) nd rfl (by first | exact Or.inl rfl | exact Or.inr rfl) (pe_mt0 (mt_Way_steps S) hr (by decide) (passes_call (takes_of rfl rfl rfl rfl) fun _ _ _ _ h => h) (pv 0)))
    (pss_cons (ps_set (i := 5) nd rfl (by first | exact Or.inl rfl | exact Or.inr rfl) (pv 2))
    (pss_cons (ps_for (passes_of rfl) rfl (pi_revR rfl S.free_reversed (prg_1 rfl S.free_range (pv 1))) (pg_name (i := 6) nd rfl (by first | exact Or.inl rfl | exact Or.inr rfl))
    (pss_cons (ps_asg (pe_cl (cl_sides S) hr (by decide) (passes_call (takes_of rfl rfl rfl rfl) fun _ _ _ _ h => h) (by rfl) (pa_cons (pv 3) (pa_cons (pe_ix (r := rIxL K) ix_list (pv 4) (pv 6) (fun _ _ => rfl)) pa_nil))) (pg_tupK (K := K) (n := 2) rfl rfl (pgs_cons (pg_name (i := 7) nd rfl (by first | exact Or.inl rfl | exact Or.inr rfl)) (pgs_cons (pg_name (i := 8) nd rfl (by first | exact Or.inl rfl | exact Or.inr rfl)) pgs_nil))))
    (pss_cons (ps_set (i := 9) nd rfl (by first | exact Or.inl rfl | exact Or.inr rfl) (pe_cl (cl_place_across S) hr (by decide) (passes_call (takes_of rfl rfl rfl rfl) fun _ _ _ _ h => h) (by rfl) (pa_cons (pv 5) (pa_cons (pe_ix (r := rIxT K) ix_tup (pe_ix (r := rIxL K) ix_list (pv 4) (pv 6) (fun _ _ => rfl)) pe_int (fun _ _ => rfl)) (pa_cons (pe_callB (r := rLenSQ) (id := "len") call_len_str (by rfl) S.free_len (by decide +kernel) (pa_cons (pv 8) pa_nil)) (pa_cons (pe_callB (r := rLenSQ) (id := "len") call_len_str (by rfl) S.free_len (by decide +kernel) (pa_cons (pv 7) pa_nil)) pa_nil))))))
    (pss_cons (ps_if (pt_cmpR op_isN (pv 9) pe_non (nomark _)) (pss_one (ps_ret (pe_tup (pa_cons (pv 6) (pa_cons (pe_op op_sub (pv 5) (pe_ix (r := rIxT K) ix_tup (pe_ix (r := rIxL K) ix_list (pv 4) (pv 6) (fun _ _ => rfl)) pe_int (fun _ _ => rfl))) pa_nil))))) pss_nil)
    (pss_one (ps_set (i := 5) nd rfl (by first | exact Or.inl rfl | exact Or.inr rfl) (pv 9)))))))
    (pss_one (ps_ret (pe_tup (pa_cons pe_non (pa_cons (pv 5) pa_nil)))))))))), ?_⟩
  rcases h with h | ⟨F0, C, f, z, e0, hb, hE⟩
  rotate_left
  · obtain ⟨_, x, v1, v2, rfl, _⟩ := id hb
    exact x_drop (x_call e0 (pa_v3 rfl rfl rfl hb badl_mo) fun d H' e hd hn => hE d H' e hn hd)
  obtain ⟨F0, ⟨m, idx, p⟩, e0, ⟨ok, hz', x, rfl, hx⟩, hQ⟩ := h
  obtain ⟨zi, hz, hzl, hp⟩ := id hz'
  have kn := Kn.start e0
  have hi : idx ≤ m.ss.length := by
    have q := (List.getElem?_eq_some_iff.mp hz).1
    rw [wordsOf_len] at q
    exact Nat.lt_succ_iff.mp q
  have nl : m.ss.length ≤ 1000 := ok.n
  refine qp_drop kn (p_callL (res := fun _ H v => Dt H v .none) (m, idx, p) (pa_wl (p_var rfl hx (WayAt.mo _ _ _)) (d_var rfl (.int _)) (d_var rfl (.int _)) ok hz') (mo_dt _)) fun F1 H1 s1 => ?_
  have hx1 := WayAt.mo _ _ _ _ _ _ s1.ff hx
  refine qp_asg s1.kn (bk_m (wy_m (p_var rfl hx1 (WayAt.mo _ _ _)) (fun _ _ _ => rfl) (BookAt.mo _ _)) (fun _ => rfl) (mo_dt _)) fun rv F2 H2 s2 hrv => ?_
  have hx2 := WayAt.mo _ _ _ _ _ _ s2.ff hx1
  refine qp_asg s2.kn (wy_m (p_var rfl hx2 (WayAt.mo _ _ _)) (fun _ _ _ => rfl) (mo_dt _)) fun sv F3 H3 s3 hsv => ?_
  refine q_asg s3.kn (d_var rfl (.int _)) fun av F4 H4 s4 hav => ?_
  cases hav.int_
  have hrv4 := hrv.ex (s3.ff.trans s4.ff)
  have hsv4 := hsv.ex s4.ff
  replace hQ : ∀ v H', Ex H H' → Dt (nw F0 H H') v (labD ((rowAt m.rs m.z m.ss idx).getD p (none, 0))) → Q v H' := hQ
  generalize hlab : (rowAt m.rs m.z m.ss idx).getD p (none, 0) = lab at hQ
  have h0 : (rowAt m.rs m.z m.ss idx)[p]? = some lab := by
    have rl := row_len ok hz
    have hp' : p < (rowAt m.rs m.z m.ss idx).length := by rw [rl]; exact hp
    rw [List.getElem?_eq_getElem hp', ← hlab, List.getD_eq_getElem?_getD, List.getElem?_eq_getElem hp']
    rfl
  refine q_for s4.kn (wk_rev (n := idx) (d_var rfl (.int _)) (by omega)) (fun i σ' F' H' => (∃ (at_ : Nat) (y6 y7 y8 y9 : Option V), σ' = [some x, some (.int (idx : Nat)), some (.int (p : Nat)), some rv, some sv, some (.int (at_ : Nat)), y6, y7, y8, y9] ∧ (rowAt m.rs m.z m.ss (idx - i))[at_]? = some lab) ∧ Dt F' rv (rulesD m.rs) ∧ Dt F' sv (stepsD m.ss)) ?_ ?_ ?_ ?_
  · intro F6 H6 s6
    exact ⟨⟨p, none, none, none, none, rfl, h0⟩, hrv4.ex s6.ff, hsv4.ex s6.ff⟩
  · rintro i σ' F' H' H2 ⟨hσ, g1, g2⟩ kn' e
    have s := kn'.step (H1 := H2) e
    exact ⟨hσ, g1.ex s.ff, g2.ex s.ff⟩
  · rintro i d y σ' F' H' hi' kn' eF hd ⟨⟨at_, y6, y7, y8, y9, rfl, hl⟩, g1, g2⟩ N hN
    have il : i < idx := by
      have z := (List.getElem?_eq_some_iff.mp hi').1
      rw [revD_len] at z
      exact z
    rw [revD_get il] at hi'
    cases hi'
    obtain ⟨n, hn⟩ : ∃ n, idx - i = n + 1 := ⟨idx - i - 1, by omega⟩
    have en : (idx : Int) - 1 - (i : Nat) = ((n : Nat) : Int) := by omega
    rw [en] at hd
    cases hd.int_
    obtain ⟨q, zi', zj, sa⟩ := ok.step (List.getElem?_eq_getElem (show n < m.ss.length by omega))
    generalize m.ss[n] = st at sa
    have rl := row_len ok sa.z
    have cc := sa.c
    rw [hn, row_s sa.hs, next_get (by rw [rl]; omega)] at hl
    refine q_unp2 kn' (d_call (da_cons (d_var rfl g1) (da_cons (d_ixL (d_var rfl g2) (d_var rfl (.int _)) (stD_at sa.hs)) da_nil)) ⟨_, _, _, rfl, sa.hq, rfl⟩) fun v1 v2 F6 H6 s6 k1 k2 => ?_
    cases k1.str_
    cases k2.str_
    have g1' := g1.ex s6.ff
    have g2' := g2.ex s6.ff
    have sl : (src q st.2.2).length ≤ sizeLine := szS (Nat.le_trans (sa.ok.sl _) (by decide))
    have gl : (gol q st.2.2).length ≤ sizeLine := szS (Nat.le_trans (sa.ok.gl _) (by decide))
    refine q_asg s6.kn (d_call (d := acrossD at_ st.1 (gol q st.2.2).length (src q st.2.2).length) (da_cons (d_var rfl (.int _)) (da_cons (d_st0 (d_ixL (d_var rfl g2') (d_var rfl (.int _)) (stD_at sa.hs))) (da_cons (d_lenS (d_var rfl (.str _)) gl) (da_cons (d_lenS (d_var rfl (.str _)) sl) da_nil)))) ⟨_, _, _, _, rfl, rfl⟩) fun va F7 H7 s7 hva => ?_
    have t7 := s6.trans s7
    have g1' := g1.ex t7.ff
    have g2' := g2.ex t7.ff
    rw [← goL_eq sa.hq, ← srL_eq sa.hq] at hva
    refine q_if s7.kn (t_val (d_isN (d_var rfl hva))) (fun hb F8 H8 s8 => ?_) fun hb F8 H8 s8 => ?_
    · have c1 : ¬ at_ < st.1 := fun z => by unfold acrossD at hb; rw [if_pos z] at hb; cases hb
      have c2 : at_ < st.1 + goL m.rs st := Decidable.byContradiction fun z => by unfold acrossD at hb; rw [if_neg c1, if_neg z] at hb; cases hb
      rw [if_neg c1, if_pos c2] at hl
      cases hl
      refine kp_fin (T := DT (labD (some n, at_ - st.1))) hQ (mo_dt _) s8.kn (EvD.toP ((d_tup (da_cons (d_var rfl (.int _)) (da_cons (d_sub (d_var rfl (.int _)) (d_st0 (d_ixL (d_var rfl (g2'.ex s8.ff)) (d_var rfl (.int _)) (stD_at sa.hs)))) da_nil))).is ?_))
      unfold labD
      show PyData.tuple [.int (n : Nat), .int ((at_ : Int) - (st.1 : Nat))] = PyData.tuple [.int (n : Nat), .int ((at_ - st.1 : Nat) : Int)]
      rw [show ((at_ : Int) - (st.1 : Nat)) = ((at_ - st.1 : Nat) : Int) by omega]
    · have hs : (if at_ < st.1 then (rowAt m.rs m.z m.ss n)[at_]? else (rowAt m.rs m.z m.ss n)[at_ - goL m.rs st + srL m.rs st]?) = some lab ∧ acrossD at_ st.1 (goL m.rs st) (srL m.rs st) = .int ((if at_ < st.1 then at_ else at_ - goL m.rs st + srL m.rs st : Nat) : Int) := by
        unfold acrossD at hb ⊢
        by_cases c1 : at_ < st.1
        · rw [if_pos c1] at hl ⊢
          rw [if_pos c1, if_pos c1]
          exact ⟨hl, rfl⟩
        · rw [if_neg c1] at hl hb ⊢
          by_cases c2 : at_ < st.1 + goL m.rs st
          · rw [if_pos c2] at hb
            cases hb
          · rw [if_neg c2] at hl
            rw [if_neg c1, if_neg c2, if_neg c1]
            refine ⟨hl, ?_⟩
            congr 1
            omega
      obtain ⟨hs1, hs2⟩ := hs
      rw [hs2] at hva
      refine k_asg s8.kn (d_var rfl (hva.ex s8.ff)) fun vb F9 H9 s9 hvb => ?_
      cases hvb.int_
      have fa := (t7.ff.trans s8.ff).trans s9.ff
      refine hN _ F9 H9 s9.kn fa ⟨⟨_, some (.int (n : Nat)), some (.str (src q st.2.2)), some (.str (gol q st.2.2)), some va, rfl, ?_⟩, g1.ex fa, g2.ex fa⟩
      rw [show idx - (i + 1) = n by omega]
      by_cases c1 : at_ < st.1
      · rw [if_pos c1] at hs1 ⊢
        exact hs1
      · rw [if_neg c1] at hs1 ⊢
        exact hs1
  · rintro σ' F' H' kn' eF ⟨⟨at_, y6, y7, y8, y9, rfl, hl⟩, g1, g2⟩
    rw [revD_len, Nat.sub_self] at hl
    cases row0_get hl
    exact kp_fin (T := DT (labD (none, at_))) hQ (mo_dt _) kn' (EvD.toP (d_tup (da_cons d_non (da_cons (d_var rfl (.int _)) da_nil))))
theorem cl_comes_from (S : Env P w K mg base) : Cl P w K mg base 6 "comes_from" ["way", "index", "place"] (SpOr (SpP (AWl K) fun m H v => Dt H v (comesD m)) (SpX (BadL K))) := mk_clF S.fun_comes_from S.glo_comes_from (fun F => fo_comes_from S F) (fun _ _ _ _ _ _ us hl => match us, hl with | [_, _, _], _ => rfl)
theorem clk_comes_from (S : Env P w K mg base) : ClK P w K mg base 6 "comes_from" ["way", "index", "place"] ["place", "index", "way"] g3 g3 (SpOr (SpP (AWl K) fun m H v => Dt H v (comesD m)) (SpX (BadL K))) := mk_clK3 S.fun_comes_from S.glo_comes_from (fun F => fo_comes_from S F) (fun _ _ _ _ _ _ _ _ _ => rfl)
abbrev goesD (m : WayM × Nat × Nat) : PyData := labD (goesL m.1.rs m.2.1 (m.1.ss.drop m.2.1) m.2.2)
theorem fo_goes_to (S : Env P w K mg base) {fd : FuncData} (F : FunD K d_goes_to.name d_goes_to.qual d_goes_to.params d_goes_to.body d_goes_to.scope [] [] (He.fAd K d_goes_to.at_) fd) : FnOk P w K mg base (L2.CX P w) 6 (He.fAd K d_goes_to.at_) fd ["way", "index", "place"] (SpOr (SpP (AWl K) fun m H v => Dt H v (goesD m)) (SpX (BadL K))) := F.ok sc_goes_to (or_len (wy_len awl_len) (x_len badl_len)) fun cdv A outer s H vs Q E hr h => by
  have nd := sc_goes_to.nd
  refine ⟨_, (pss_cons (ps_expr (pe_cl (cl_need_letter S) hr (by decide) (passes_call (takes_of rfl rfl rfl rfl) fun _ _ _ _ h => h) (by rfl) (pa_cons (pv 0) (pa_cons (pv 1) (pa_cons (pv 2) pa_nil)))))
    (pss_cons (ps_set (i := 3) nd rfl (by first | exact Or.inl rfl | exact Or.inr rfl) (pe_mt0 (mt_Book_rules S) hr (by decide) (passes_call (takes_of rfl rfl rfl rfl) fun _ _ _ _ h => h) (pe_mt0 (mt_Way_book S) hr (by decide) (passes_call (takes_of rfl rfl rfl rfl) fun _ _ _ _ h => h) (pv 0))))
    (pss_cons (ps_set (i := 4) nd rfl (by first | exact Or.inl rfl | exact Or.inr rfl) (pe_mt0 (mt_Way_steps S) hr (by decide) (passes_call (takes_of rfl rfl rfl rfl) fun _ _ _ _ h => h) (pv 0)))
    (pss_cons (ps_set (i := 5) nd rfl (by first | exact Or.inl rfl | exact Or.inr rfl) (pv 2))
    (pss_cons (ps_for (passes_of rfl) rfl (pi_range2 rfl S.free_range (pa_cons (pv 1) (pa_cons (pe_callB (r := rLenQ K) (id := "len") call_len_seq (by rfl) S.free_len (by decide +kernel) (pa_cons (pv 4) pa_nil)) pa_nil))) (pg_name (i := 6) nd rfl (by first | exact Or.inl rfl | exact Or.inr rfl))
    (pss_cons (ps_asg (pe_cl (cl_sides S) hr (by decide) (passes_call (takes_of rfl rfl rfl rfl) fun _ _ _ _ h => h) (by rfl) (pa_cons (pv 3) (pa_cons (pe_ix (r := rIxL K) ix_list (pv 4) (pv 6) (fun _ _ => rfl)) pa_nil))) (pg_tupK (K := K) (n := 2) rfl rfl (pgs_cons (pg_name (i := 7) nd rfl (by first | exact Or.inl rfl | exact Or.inr rfl)) (pgs_cons (pg_name (i := 8) nd rfl (by first | exact Or.inl rfl | exact Or.inr rfl)) pgs_nil))))
    (pss_cons (ps_set (i := 9) nd rfl (by first | exact Or.inl rfl | exact Or.inr rfl) (pe_cl (cl_place_across S) hr (by decide) (passes_call (takes_of rfl rfl rfl rfl) fun _ _ _ _ h => h) (by rfl) (pa_cons (pv 5) (pa_cons (pe_ix (r := rIxT K) ix_tup (pe_ix (r := rIxL K) ix_list (pv 4) (pv 6) (fun _ _ => rfl)) pe_int (fun _ _ => rfl)) (pa_cons (pe_callB (r := rLenSQ) (id := "len") call_len_str (by rfl) S.free_len (by decide +kernel) (pa_cons (pv 7) pa_nil)) (pa_cons (pe_callB (r := rLenSQ) (id := "len") call_len_str (by rfl) S.free_len (by decide +kernel) (pa_cons (pv 8) pa_nil)) pa_nil))))))
    (pss_cons (ps_if (pt_cmpR op_isN (pv 9) pe_non (nomark _)) (pss_one (ps_ret (pe_tup (pa_cons (pv 6) (pa_cons (pe_op op_sub (pv 5) (pe_ix (r := rIxT K) ix_tup (pe_ix (r := rIxL K) ix_list (pv 4) (pv 6) (fun _ _ => rfl)) pe_int (fun _ _ => rfl))) pa_nil))))) pss_nil)
    (pss_one (ps_set (i := 5) nd rfl (by first | exact Or.inl rfl | exact Or.inr rfl) (pv 9)))))))
    (pss_one (ps_ret (pe_tup (pa_cons pe_non (pa_cons (pv 5) pa_nil)))))))))), ?_⟩
  rcases h with h | ⟨F0, C, f, z, e0, hb, hE⟩
  rotate_left
  · obtain ⟨_, x, v1, v2, rfl, _⟩ := id hb
    exact x_drop (x_call e0 (pa_v3 rfl rfl rfl hb badl_mo) fun d H' e hd hn => hE d H' e hn hd)
  obtain ⟨F0, ⟨m, idx, p⟩, e0, ⟨ok, hz', x, rfl, hx⟩, hQ⟩ := h
  obtain ⟨zi, hz, hzl, hp⟩ := id hz'
  have kn := Kn.start e0
  have hi : idx ≤ m.ss.length := by
    have q := (List.getElem?_eq_some_iff.mp hz).1
    rw [wordsOf_len] at q
    exact Nat.lt_succ_iff.mp q
  have nl : m.ss.length ≤ 1000 := ok.n
  refine qp_drop kn (p_callL (res := fun _ H v => Dt H v .none) (m, idx, p) (pa_wl (p_var rfl hx (WayAt.mo _ _ _)) (d_var rfl (.int _)) (d_var rfl (.int _)) ok hz') (mo_dt _)) fun F1 H1 s1 => ?_
  have hx1 := WayAt.mo _ _ _ _ _ _ s1.ff hx
  refine qp_asg s1.kn (bk_m (wy_m (p_var rfl hx1 (WayAt.mo _ _ _)) (fun _ _ _ => rfl) (BookAt.mo _ _)) (fun _ => rfl) (mo_dt _)) fun rv F2 H2 s2 hrv => ?_
  have hx2 := WayAt.mo _ _ _ _ _ _ s2.ff hx1
  refine qp_asg s2.kn (wy_m (p_var rfl hx2 (WayAt.mo _ _ _)) (fun _ _ _ => rfl) (mo_dt _)) fun sv F3 H3 s3 hsv => ?_
  refine q_asg s3.kn (d_var rfl (.int _)) fun av F4 H4 s4 hav => ?_
  cases hav.int_
  have hrv4 := hrv.ex (s3.ff.trans s4.ff)
  have hsv4 := hsv.ex s4.ff
  replace hQ : ∀ v H', Ex H H' → Dt (nw F0 H H') v (labD (goesL m.rs idx (m.ss.drop idx) p)) → Q v H' := hQ
  generalize hlab : goesL m.rs idx (m.ss.drop idx) p = lab at hQ
  refine q_for s4.kn (wk_rng2 (lo := ((idx : Nat) : Int)) (n := ((m.ss.length : Nat) : Int)) (da_cons (d_var rfl (.int _)) (da_cons ((d_lenL (d_var rfl hsv4)).is (by rw [steps_len])) da_nil)) ⟨by omega, by omega, by omega, by omega⟩) (fun i σ' F' H' => (∃ (at_ : Nat) (y6 y7 y8 y9 : Option V), σ' = [some x, some (.int (idx : Nat)), some (.int (p : Nat)), some rv, some sv, some (.int (at_ : Nat)), y6, y7, y8, y9] ∧ goesL m.rs (idx + i) (m.ss.drop (idx + i)) at_ = lab) ∧ Dt F' rv (rulesD m.rs) ∧ Dt F' sv (stepsD m.ss)) ?_ ?_ ?_ ?_
  · intro F6 H6 s6
    exact ⟨⟨p, none, none, none, none, rfl, hlab⟩, hrv4.ex s6.ff, hsv4.ex s6.ff⟩
  · rintro i σ' F' H' H2 ⟨hσ, g1, g2⟩ kn' e
    have s := kn'.step (H1 := H2) e
    exact ⟨hσ, g1.ex s.ff, g2.ex s.ff⟩
  · rintro i d y σ' F' H' hi' kn' eF hd ⟨⟨at_, y6, y7, y8, y9, rfl, hl⟩, g1, g2⟩ N hN
    have il : i < ((m.ss.length : Int) - (idx : Int)).toNat := by
      have z := (List.getElem?_eq_some_iff.mp hi').1
      rw [rngD_len] at z
      exact z
    rw [rngD_get il] at hi'
    cases hi'
    obtain ⟨n, hn⟩ : ∃ n, idx + i = n := ⟨_, rfl⟩
    have en : (idx : Int) + (i : Nat) = ((n : Nat) : Int) := by omega
    rw [en] at hd
    cases hd.int_
    obtain ⟨q, zi', zj, sa⟩ := ok.step (List.getElem?_eq_getElem (show n < m.ss.length by omega))
    generalize m.ss[n] = st at sa
    rw [hn, drop_at sa.hs] at hl
    unfold goesL at hl
    refine q_unp2 kn' (d_call (da_cons (d_var rfl g1) (da_cons (d_ixL (d_var rfl g2) (d_var rfl (.int _)) (stD_at sa.hs)) da_nil)) ⟨_, _, _, rfl, sa.hq, rfl⟩) fun v1 v2 F6 H6 s6 k1 k2 => ?_
    cases k1.str_
    cases k2.str_
    have g1' := g1.ex s6.ff
    have g2' := g2.ex s6.ff
    have sl : (src q st.2.2).length ≤ sizeLine := szS (Nat.le_trans (sa.ok.sl _) (by decide))
    have gl : (gol q st.2.2).length ≤ sizeLine := szS (Nat.le_trans (sa.ok.gl _) (by decide))
    refine q_asg s6.kn (d_call (d := acrossD at_ st.1 (src q st.2.2).length (gol q st.2.2).length) (da_cons (d_var rfl (.int _)) (da_cons (d_st0 (d_ixL (d_var rfl g2') (d_var rfl (.int _)) (stD_at sa.hs))) (da_cons (d_lenS (d_var rfl (.str _)) sl) (da_cons (d_lenS (d_var rfl (.str _)) gl) da_nil)))) ⟨_, _, _, _, rfl, rfl⟩) fun va F7 H7 s7 hva => ?_
    have t7 := s6.trans s7
    have g1' := g1.ex t7.ff
    have g2' := g2.ex t7.ff
    rw [← goL_eq sa.hq, ← srL_eq sa.hq] at hva
    refine q_if s7.kn (t_val (d_isN (d_var rfl hva))) (fun hb F8 H8 s8 => ?_) fun hb F8 H8 s8 => ?_
    · have c1 : ¬ at_ < st.1 := fun z => by unfold acrossD at hb; rw [if_pos z] at hb; cases hb
      have c2 : at_ < st.1 + srL m.rs st := Decidable.byContradiction fun z => by unfold acrossD at hb; rw [if_neg c1, if_neg z] at hb; cases hb
      rw [if_neg c1, if_pos c2] at hl
      cases hl
      refine kp_fin (T := DT (labD (some n, at_ - st.1))) hQ (mo_dt _) s8.kn (EvD.toP ((d_tup (da_cons (d_var rfl (.int _)) (da_cons (d_sub (d_var rfl (.int _)) (d_st0 (d_ixL (d_var rfl (g2'.ex s8.ff)) (d_var rfl (.int _)) (stD_at sa.hs)))) da_nil))).is ?_))
      unfold labD
      show PyData.tuple [.int (n : Nat), .int ((at_ : Int) - (st.1 : Nat))] = PyData.tuple [.int (n : Nat), .int ((at_ - st.1 : Nat) : Int)]
      rw [show ((at_ : Int) - (st.1 : Nat)) = ((at_ - st.1 : Nat) : Int) by omega]
    · have hs : goesL m.rs (n + 1) (m.ss.drop (n + 1)) (if at_ < st.1 then at_ else at_ - srL m.rs st + goL m.rs st) = lab ∧ acrossD at_ st.1 (srL m.rs st) (goL m.rs st) = .int ((if at_ < st.1 then at_ else at_ - srL m.rs st + goL m.rs st : Nat) : Int) := by
        unfold acrossD at hb ⊢
        by_cases c1 : at_ < st.1
        · rw [if_pos c1] at hl ⊢
          rw [if_pos c1]
          exact ⟨hl, rfl⟩
        · rw [if_neg c1] at hl hb ⊢
          by_cases c2 : at_ < st.1 + srL m.rs st
          · rw [if_pos c2] at hb
            cases hb
          · rw [if_neg c2] at hl
            rw [if_neg c1, if_neg c2]
            refine ⟨hl, ?_⟩
            congr 1
            omega
      obtain ⟨hs1, hs2⟩ := hs
      rw [hs2] at hva
      refine k_asg s8.kn (d_var rfl (hva.ex s8.ff)) fun vb F9 H9 s9 hvb => ?_
      cases hvb.int_
      have fa := (t7.ff.trans s8.ff).trans s9.ff
      refine hN _ F9 H9 s9.kn fa ⟨⟨_, some (.int (n : Nat)), some (.str (src q st.2.2)), some (.str (gol q st.2.2)), some va, rfl, ?_⟩, g1.ex fa, g2.ex fa⟩
      rw [show idx + (i + 1) = n + 1 by omega]
      exact hs1
  · rintro σ' F' H' kn' eF ⟨⟨at_, y6, y7, y8, y9, rfl, hl⟩, g1, g2⟩
    rw [rngD_len, show idx + ((m.ss.length : Int) - (idx : Int)).toNat = m.ss.length by omega, List.drop_length] at hl
    cases hl
    exact kp_fin (T := DT (labD (none, at_))) hQ (mo_dt _) kn' (EvD.toP (d_tup (da_cons d_non (da_cons (d_var rfl (.int _)) da_nil))))
theorem cl_goes_to (S : Env P w K mg base) : Cl P w K mg base 6 "goes_to" ["way", "index", "place"] (SpOr (SpP (AWl K) fun m H v => Dt H v (goesD m)) (SpX (BadL K))) := mk_clF S.fun_goes_to S.glo_goes_to (fun F => fo_goes_to S F) (fun _ _ _ _ _ _ us hl => match us, hl with | [_, _, _], _ => rfl)
theorem clk_goes_to (S : Env P w K mg base) : ClK P w K mg base 6 "goes_to" ["way", "index", "place"] ["place", "index", "way"] g3 g3 (SpOr (SpP (AWl K) fun m H v => Dt H v (goesD m)) (SpX (BadL K))) := mk_clK3 S.fun_goes_to S.glo_goes_to (fun F => fo_goes_to S F) (fun _ _ _ _ _ _ _ _ _ => rfl)
end
end K05
namespace K05
open PySem PySem.Spec PyProof.Rows L2 Evl WB
section
variable {P : Program} {w : World} {K : PySem.W.Frag} {mg : Str → Option Value} {base : Heap}
def c_source (ds : List PyData) (r : PyData) : Prop := ∃ (rs : List Rule) (s : WStep) (q : Rule), ds = [rulesD rs, stepD s] ∧ rs[s.2.1]? = some q ∧ r = .str (src q s.2.2)
theorem cl__law_w_source (S : Env P w K mg base) : Cl P w K mg base 1 "_law_w_source" ["rules", "step"] (SpD c_source) := mk_cl S.fun__law_w_source S.glo__law_w_source sc__law_w_source (fun _ _ _ _ _ _ us hl => match us, hl with | [_, _], _ => rfl) (SpD.len fun _ _ ⟨_, _, _, e, _⟩ => e ▸ rfl) fun cdv A outer s H vs Q E hr h => by
  have nd := sc__law_w_source.nd
  refine ⟨_, (pss_one (ps_ret (pe_ifExp (pt_cmpR op_eq (pe_ix (r := rIxT K) ix_tup (pv 1) pe_int (fun _ _ => rfl)) pe_str (nomark _)) (pe_ix (r := rIxT K) ix_tup (pe_ix (r := rIxL K) ix_list (pv 0) (pe_ix (r := rIxT K) ix_tup (pv 1) pe_int (fun _ _ => rfl)) (fun _ _ => rfl)) pe_int (fun _ _ => rfl)) (pe_ix (r := rIxT K) ix_tup (pe_ix (r := rIxL K) ix_list (pv 0) (pe_ix (r := rIxT K) ix_tup (pv 1) pe_int (fun _ _ => rfl)) (fun _ _ => rfl)) pe_int (fun _ _ => rfl))))), ?_⟩
  obtain ⟨F0, ds, r, e0, hd, hc, hQ⟩ := h
  have kn := Kn.start e0
  obtain ⟨rs, ⟨p, n, b⟩, q, rfl, hq, rfl⟩ := hc
  obtain ⟨x, y, rfl, hx, hy⟩ := da2_ hd
  refine k_fin (Q := Q) hQ kn (d_if (t_on (d_var rfl hy)) (fun e => ?_) fun e => ?_)
  · cases e
    exact d_ru0 (d_rul (d_var rfl hx) (d_var rfl hy) hq)
  · cases e
    exact d_ru1 (d_rul (d_var rfl hx) (d_var rfl hy) hq)
def c_goal (ds : List PyData) (r : PyData) : Prop := ∃ (rs : List Rule) (s : WStep) (q : Rule), ds = [rulesD rs, stepD s] ∧ rs[s.2.1]? = some q ∧ r = .str (gol q s.2.2)
theorem cl__law_w_goal (S : Env P w K mg base) : Cl P w K mg base 1 "_law_w_goal" ["rules", "step"] (SpD c_goal) := mk_cl S.fun__law_w_goal S.glo__law_w_goal sc__law_w_goal (fun _ _ _ _ _ _ us hl => match us, hl with | [_, _], _ => rfl) (SpD.len fun _ _ ⟨_, _, _, e, _⟩ => e ▸ rfl) fun cdv A outer s H vs Q E hr h => by
  have nd := sc__law_w_goal.nd
  refine ⟨_, (pss_one (ps_ret (pe_ifExp (pt_cmpR op_eq (pe_ix (r := rIxT K) ix_tup (pv 1) pe_int (fun _ _ => rfl)) pe_str (nomark _)) (pe_ix (r := rIxT K) ix_tup (pe_ix (r := rIxL K) ix_list (pv 0) (pe_ix (r := rIxT K) ix_tup (pv 1) pe_int (fun _ _ => rfl)) (fun _ _ => rfl)) pe_int (fun _ _ => rfl)) (pe_ix (r := rIxT K) ix_tup (pe_ix (r := rIxL K) ix_list (pv 0) (pe_ix (r := rIxT K) ix_tup (pv 1) pe_int (fun _ _ => rfl)) (fun _ _ => rfl)) pe_int (fun _ _ => rfl))))), ?_⟩
  obtain ⟨F0, ds, r, e0, hd, hc, hQ⟩ := h
  have kn := Kn.start e0
  obtain ⟨rs, ⟨p, n, b⟩, q, rfl, hq, rfl⟩ := hc
  obtain ⟨x, y, rfl, hx, hy⟩ := da2_ hd
  refine k_fin (Q := Q) hQ kn (d_if (t_on (d_var rfl hy)) (fun e => ?_) fun e => ?_)
  · cases e
    exact d_ru1 (d_rul (d_var rfl hx) (d_var rfl hy) hq)
  · cases e
    exact d_ru0 (d_rul (d_var rfl hx) (d_var rfl hy) hq)
def c_w_can (ds : List PyData) (r : PyData) : Prop := ∃ (rs : List Rule) (z : Str) (s : WStep) (q : Rule), ds = [rulesD rs, .str z, stepD s] ∧ z.length ≤ 100000 ∧ (src q s.2.2).length ≤ 1000 ∧ rs[s.2.1]? = some q ∧ r = .bool (canR q z s)
theorem cl__law_w_can (S : Env P w K mg base) : Cl P w K mg base 2 "_law_w_can" ["rules", "word", "step"] (SpD c_w_can) := mk_cl S.fun__law_w_can S.glo__law_w_can sc__law_w_can (fun _ _ _ _ _ _ us hl => match us, hl with | [_, _, _], _ => rfl) (SpD.len fun _ _ ⟨_, _, _, _, e, _⟩ => e ▸ rfl) fun cdv A outer s H vs Q E hr h => by
  have nd := sc__law_w_can.nd
  refine ⟨_, (pss_cons (ps_set (i := 3) nd rfl (by first | exact Or.inl rfl | exact Or.inr rfl) (pe_cl (cl__law_w_source S) hr (by decide) pass_none (by rfl) (pa_cons (pv 0) (pa_cons (pv 2) pa_nil))))
    (pss_one (ps_ret (pe_cmpR op_eq (pe_slice (r := rSlS) sl_str (pv 1) (po_some (pe_ix (r := rIxT K) ix_tup (pv 2) pe_int (fun _ _ => rfl))) (po_some (pe_op op_add (pe_ix (r := rIxT K) ix_tup (pv 2) pe_int (fun _ _ => rfl)) (pe_callB (r := rLenSQ) (id := "len") call_len_str (by rfl) S.free_len (by decide +kernel) (pa_cons (pv 3) pa_nil))))) (pv 3) (nomark _))))), ?_⟩
  obtain ⟨F0, ds, r, e0, hd, hc, hQ⟩ := h
  have kn := Kn.start e0
  obtain ⟨rs, z, ⟨p, n, b⟩, q, rfl, hz, hl, hq, rfl⟩ := hc
  obtain ⟨x, y, u, rfl, hx, hy, hu⟩ := da3_ hd
  refine q_asg kn (d_call (da_cons (d_var rfl hx) (da_cons (d_var rfl hu) da_nil)) ⟨_, _, _, rfl, hq, rfl⟩) fun v F1 H1 s1 hv => ?_
  have hy1 := hy.ex s1.ff
  have hu1 := hu.ex s1.ff
  have hl' : (src q b).length ≤ 1000 := hl
  exact k_fin (Q := Q) hQ s1.kn (d_eq (d_slS (d_var rfl hy1) (do_some (d_st0 (d_var rfl hu1))) (do_some (d_add (d_st0 (d_var rfl hu1)) (d_lenS (d_var rfl hv) (szS (Nat.le_trans hl' (by decide)))))) (szS hz)) (d_var rfl hv))
theorem cl__law_w_done (S : Env P w K mg base) : Cl P w K mg base 2 "_law_w_done" ["rules", "word", "step"] (SpD c_behind) := mk_cl S.fun__law_w_done S.glo__law_w_done sc__law_w_done (fun _ _ _ _ _ _ us hl => match us, hl with | [_, _, _], _ => rfl) (SpD.len fun _ _ ⟨_, _, _, _, e, _⟩ => e ▸ rfl) fun cdv A outer s H vs Q E hr h => by
  have nd := sc__law_w_done.nd
  refine ⟨_, (pss_one (ps_ret (pe_op op_add_str (pe_op op_add_str (pe_slice (r := rSlS) sl_str (pv 1) po_none (po_some (pe_ix (r := rIxT K) ix_tup (pv 2) pe_int (fun _ _ => rfl)))) (pe_cl (cl__law_w_goal S) hr (by decide) pass_none (by rfl) (pa_cons (pv 0) (pa_cons (pv 2) pa_nil)))) (pe_slice (r := rSlS) sl_str (pv 1) (po_some (pe_op op_add (pe_ix (r := rIxT K) ix_tup (pv 2) pe_int (fun _ _ => rfl)) (pe_callB (r := rLenSQ) (id := "len") call_len_str (by rfl) S.free_len (by decide +kernel) (pa_cons (pe_cl (cl__law_w_source S) hr (by decide) pass_none (by rfl) (pa_cons (pv 0) (pa_cons (pv 2) pa_nil))) pa_nil)))) po_none)))), ?_⟩
  obtain ⟨F0, ds, r, e0, hd, hc, hQ⟩ := h
  have kn := Kn.start e0
  obtain ⟨rs, z, ⟨p, n, b⟩, q, rfl, hz, hl, hg, hq, rfl⟩ := hc
  obtain ⟨x, y, u, rfl, hx, hy, hu⟩ := da3_ hd
  have c1 := cutS_len_le z none (some ((p : Nat) : Int)) hz
  have c2 := cutS_len_le z (some ((p : Nat) + ((src q b).length : Nat) : Int)) none hz
  have hg' : (gol q b).length ≤ 1000 := hg
  have hl' : (src q b).length ≤ 1000 := hl
  refine k_fin (Q := Q) hQ kn (d_cat (d_cat (d_slS (d_var rfl hy) do_none (do_some (d_st0 (d_var rfl hu))) (szS hz)) (d_call (da_cons (d_var rfl hx) (da_cons (d_var rfl hu) da_nil)) ⟨_, _, _, rfl, hq, rfl⟩) ?_) (d_slS (d_var rfl hy) (do_some (d_add (d_st0 (d_var rfl hu)) (d_lenS (d_call (da_cons (d_var rfl hx) (da_cons (d_var rfl hu) da_nil)) ⟨_, _, _, rfl, hq, rfl⟩) (szS (Nat.le_trans hl' (by decide)))))) do_none (szS hz)) ?_)
  · exact Nat.le_trans (Nat.add_le_add c1 hg') (by decide)
  · rw [app_len]
    exact Nat.le_trans (Nat.add_le_add (Nat.add_le_add c1 hg') c2) (by decide)
/-- the last word -/
def endW (rs : List Rule) : Str → List WStep → Str
  | z, [] => z
  | z, s :: r => match rs[s.2.1]? with
    | some q => endW rs (doneR q z s) r
    | none => endW rs z r
theorem endW_c {rs : List Rule} {z : Str} {s : WStep} {r : List WStep} {q : Rule} (h : rs[s.2.1]? = some q) : endW rs z (s :: r) = endW rs (doneR q z s) r := by
  show (match rs[s.2.1]? with | some q => endW rs (doneR q z s) r | none => endW rs z r) = _
  rw [h]
def c_w_end (ds : List PyData) (r : PyData) : Prop := ∃ (rs : List Rule) (z : Str) (ss : List WStep), ds = [rulesD rs, .str z, stepsD ss] ∧ BkOk rs ∧ WyOk rs z ss ∧ r = .str (endW rs z ss)
theorem cl__law_w_end (S : Env P w K mg base) : Cl P w K mg base 3 "_law_w_end" ["rules", "word", "steps"] (SpD c_w_end) := mk_cl S.fun__law_w_end S.glo__law_w_end sc__law_w_end (fun _ _ _ _ _ _ us hl => match us, hl with | [_, _, _], _ => rfl) (SpD.len fun _ _ ⟨_, _, _, e, _⟩ => e ▸ rfl) fun cdv A outer s H vs Q E hr h => by
  have nd := sc__law_w_end.nd
  refine ⟨_, (pss_cons (ps_for (passes_of rfl) rfl (pi_listK (K := K) rfl (pv 2)) (pg_name (i := 3) nd rfl (by first | exact Or.inl rfl | exact Or.inr rfl))
    (pss_one (ps_set (i := 1) nd rfl (by first | exact Or.inl rfl | exact Or.inr rfl) (pe_cl (cl__law_w_done S) hr (by decide) pass_none (by rfl) (pa_cons (pv 0) (pa_cons (pv 1) (pa_cons (pv 3) pa_nil)))))))
    (pss_one (ps_ret (pv 1)))), ?_⟩
  obtain ⟨F0, ds, r, e0, hd, hc, hQ⟩ := h
  have kn := Kn.start e0
  obtain ⟨rs, z, ss, rfl, ok, wok, rfl⟩ := hc
  obtain ⟨x, y, u, rfl, hx, hy, hu⟩ := da3_ hd
  cases hy.str_
  refine q_for kn (wk_list (d_var rfl hu)) (fun i σ' F' H' => (∃ (zi : Str) (y4 : Option V), σ' = [some x, some (.str zi), some u, y4] ∧ WyOk rs zi (ss.drop i) ∧ endW rs zi (ss.drop i) = endW rs z ss) ∧ Dt F' x (rulesD rs)) ?_ ?_ ?_ ?_
  · intro F1 H1 s1
    exact ⟨⟨z, none, rfl, wok, rfl⟩, hx.ex s1.ff⟩
  · rintro i σ' F' H' H2 ⟨hσ, g1⟩ kn' e
    exact ⟨hσ, g1.ex (kn'.step (H1 := H2) e).ff⟩
  · rintro i d y σ' F' H' hi kn' eF hd ⟨⟨zi, y4, rfl, wk, ew⟩, g1⟩ N hN
    obtain ⟨st, hst, rfl⟩ := map_at hi
    rw [drop_at hst] at wk ew
    obtain ⟨zl, q, hq, hcan, wk'⟩ := wk
    have rq := ok.at_ hq
    rw [endW_c hq] at ew
    refine k_asg kn' (d_call (da_cons (d_var rfl g1) (da_cons (d_var rfl (.str _)) (da_cons (d_var rfl hd) da_nil))) ⟨_, _, _, _, rfl, Nat.le_trans zl (by decide), rq.sl _, rq.gl _, hq, rfl⟩) fun v F1 H1 s1 hv => ?_
    cases hv.str_
    exact hN _ F1 H1 s1.kn s1.ff ⟨⟨_, _, rfl, wk', ew⟩, g1.ex s1.ff⟩
  · rintro σ' F' H' kn' eF ⟨⟨zi, y4, rfl, wk, ew⟩, g1⟩
    rw [List.length_map, List.drop_length] at ew
    have e : zi = endW rs z ss := ew
    subst e
    exact k_fin (Q := Q) hQ kn' (d_var rfl (.str _))
end
end K05
namespace K05
open PySem PySem.Spec PyProof.Rows L2 Evl WB
section
variable {P : Program} {w : World} {K : PySem.W.Frag} {mg : Str → Option Value} {base : Heap}
def labsD (ls : List Lab) : PyData := .list (ls.map labD)
def lrowD (m : WayM) (n : Nat) : PyData := labsD (rowAt m.rs m.z m.ss n)
def lrows (m : WayM) (n : Nat) : List PyData := (List.range n).map (lrowD m)
def lrowsD (m : WayM) : PyData := .list (lrows m (m.ss.length + 1))
theorem lrows_s (m : WayM) (n : Nat) : lrows m (n + 1) = lrows m n ++ [lrowD m n] := by
  unfold lrows
  rw [List.range_succ, List.map_append]
  rfl
theorem lrows_len (m : WayM) (n : Nat) : (lrows m n).length = n := by unfold lrows; rw [List.length_map, List.length_range]
theorem lrows_get {m : WayM} {n i : Nat} (h : i < n) : (lrows m n)[i]? = some (lrowD m i) := by
  unfold lrows
  rw [List.getElem?_map, List.getElem?_range h]
  rfl
theorem range_get' {α : Type} {n i : Nat} {f : Nat → α} {d : α} (h : ((List.range n).map f)[i]? = some d) : i < n ∧ d = f i := by
  obtain ⟨x, hx, rfl⟩ := map_at h
  obtain ⟨h1, h2⟩ := List.getElem?_eq_some_iff.mp hx
  rw [List.getElem_range] at h2
  rw [List.length_range] at h1
  exact ⟨h1, by rw [h2]⟩
abbrev mD (m : WayM) : List PyData := [rulesD m.rs, .str m.z, stepsD m.ss]
def c_labels (ds : List PyData) (r : PyData) : Prop := ∃ m : WayM, ds = mD m ∧ m.Ok ∧ r = lrowsD m
theorem cl__law_labels (S : Env P w K mg base) : Cl P w K mg base 2 "_law_labels" ["rules", "word", "steps"] (SpD c_labels) := mk_cl S.fun__law_labels S.glo__law_labels sc__law_labels (fun _ _ _ _ _ _ us hl => match us, hl with | [_, _, _], _ => rfl) (SpD.len fun _ _ ⟨_, e, _⟩ => e ▸ rfl) fun cdv A outer s H vs Q E hr h => by
  have nd := sc__law_labels.nd
  refine ⟨_, (pss_cons (ps_set (i := 4) nd rfl (by first | exact Or.inl rfl | exact Or.inr rfl) (pe_lst (pa_cons (pe_lc (own := [("place", 3)]) rfl nd (pi_range1 rfl S.free_range (pa_cons (pe_callB (r := rLenSQ) (id := "len") call_len_str (by rfl) S.free_len (by decide +kernel) (pa_cons (pv 1) pa_nil)) pa_nil)) (blkOk_by (N := ["rules", "word", "steps", "place", "rows", "number", "step", "row", "behind", "at", "given"]) (sc := defScope s__law_labels) (by decide +kernel)) (fun _ _ _ _ _ => (pg_name (i := 3) nd rfl (by first | exact Or.inl rfl | exact Or.inr rfl))) (fun _ _ _ _ _ => pts_nil) (fun _ _ _ _ _ => (pe_tup (pa_cons pe_non (pa_cons (pv 3) pa_nil))))) pa_nil)))
    (pss_cons (ps_for (passes_of rfl) rfl (pi_enumK (K := K) rfl rfl S.free_enumerate (pa_cons (pv 2) pa_nil)) (pg_tupK (K := K) (n := 2) rfl rfl (pgs_cons (pg_name (i := 5) nd rfl (by first | exact Or.inl rfl | exact Or.inr rfl)) (pgs_cons (pg_name (i := 6) nd rfl (by first | exact Or.inl rfl | exact Or.inr rfl)) pgs_nil)))
    (pss_cons (ps_par (i := 7) (j := 8) (by rfl) nd rfl rfl (by decide) rfl rfl (pa_cons (pe_ix (r := rIxL K) ix_list (pv 4) (pe_un un_neg pe_int) (fun _ _ => rfl)) (pa_cons (pe_op op_add (pe_ix (r := rIxT K) ix_tup (pv 6) pe_int (fun _ _ => rfl)) (pe_callB (r := rLenSQ) (id := "len") call_len_str (by rfl) S.free_len (by decide +kernel) (pa_cons (pe_cl (cl__law_w_source S) hr (by decide) pass_none (by rfl) (pa_cons (pv 0) (pa_cons (pv 6) pa_nil))) pa_nil))) pa_nil)) (by rfl))
    (pss_cons (ps_setLc (i := 10) (own := [("at", 9)]) rfl nd rfl rfl (sw_true rfl rfl rfl (by decide +kernel)) (pi_range1 rfl S.free_range (pa_cons (pe_callB (r := rLenSQ) (id := "len") call_len_str (by rfl) S.free_len (by decide +kernel) (pa_cons (pe_cl (cl__law_w_goal S) hr (by decide) pass_none (by rfl) (pa_cons (pv 0) (pa_cons (pv 6) pa_nil))) pa_nil)) pa_nil)) (blkOk_by (N := ["rules", "word", "steps", "place", "rows", "number", "step", "row", "behind", "at", "given"]) (sc := defScope s__law_labels) (by decide +kernel)) (fun _ _ _ _ _ => (pg_name (i := 9) nd rfl (by first | exact Or.inl rfl | exact Or.inr rfl))) (fun _ _ _ _ _ => pts_nil) (fun _ _ _ _ _ => (pe_tup (pa_cons (pv 5) (pa_cons (pv 9) pa_nil)))))
    (pss_one (ps_expr (pe_bmK (K := K) (r := rAppend) rfl PySem.F.plainAttrs_list PySem.F.slot_list_append PySem.F.type_list_append mt_append (pv 4) (pa_cons (pe_op op_cat (pe_op op_cat (pe_slice (r := rSlL K) sl_list (pv 7) po_none (po_some (pe_ix (r := rIxT K) ix_tup (pv 6) pe_int (fun _ _ => rfl)))) (pv 10)) (pe_slice (r := rSlL K) sl_list (pv 7) (po_some (pv 8)) po_none)) pa_nil)))))))
    (pss_one (ps_ret (pv 4))))), ?_⟩
  obtain ⟨F0, ds, r, e0, hd, hc, hQ⟩ := h
  have kn := Kn.start e0
  obtain ⟨m, rfl, ok, rfl⟩ := hc
  obtain ⟨x, y, u, rfl, hx, hy, hu⟩ := da3_ hd
  have zl := ok.s.len
  have nl : m.ss.length ≤ 1000 := ok.n
  refine q_newN kn (da_cons (d_lcm (wk_rng1 (n := ((m.z.length : Nat) : Int)) (da_cons (d_lenS (d_var rfl hy) (szS (Nat.le_trans zl (by decide)))) da_nil) ⟨by omega, by omega⟩) (rs := (rowAt m.rs m.z m.ss 0).map labD) (by rw [rngD_len]; omega) (by rw [rngD_len]; unfold rowAt; rw [List.length_map, List.length_map, List.length_range]; omega) fun i d r v F'' H'' hi hr _ _ hd Q hQ' => hQ' _ rfl ?_) da_nil) (by simp) fun l xs F2 H2 s2 hl0 hl1 hl hxs => ?_
  · rw [rngD_get (by have := (List.getElem?_eq_some_iff.mp hi).1; rw [rngD_len] at this; exact this)] at hi
    cases hi
    unfold rowAt at hr
    rw [List.map_map] at hr
    obtain ⟨_, rfl⟩ := range_get' hr
    rw [Int.zero_add] at hd
    exact d_tup (da_cons d_non (da_cons (d_var rfl hd) da_nil))
  have h0l : H l = none := hl1
  have hx2 := hx.ex s2.ff
  have hu2 := hu.ex s2.ff
  refine q_for s2.kn (wk_enum (da_cons (d_var rfl hu2) da_nil)) (fun i σ' F' H' => (∃ y3 y5 y6 y7 y8 y9 y10, σ' = [some x, some y, some u, y3, some (.ref l), y5, y6, y7, y8, y9, y10]) ∧ Dt F' x (rulesD m.rs) ∧ F' l = none ∧ ∃ vs, H' l = some (.lst vs) ∧ DtAll F' vs (lrows m (i + 1))) ?_ ?_ ?_ ?_
  · intro F6 H6 s6
    exact ⟨⟨none, none, none, none, none, none, none, rfl⟩, hx2.ex s6.ff, s6.fr _ _ hl hl0, xs, s6.ex _ _ hl, hxs.ex s6.ff⟩
  · rintro i σ' F' H' H2 ⟨hσ, g1, g2, vs, g5, g6⟩ kn' e
    have s := kn'.step (H1 := H2) e
    exact ⟨hσ, g1.ex s.ff, s.fr _ _ g5 g2, vs, e _ _ g5, g6.ex s.ff⟩
  · rintro i d yy σ' F' H' hi kn' eF hd ⟨⟨y3, y5, y6, y7, y8, y9, y10, rfl⟩, g1, g2, vs, g5, g6⟩ N hN
    have il : i < m.ss.length := by
      have z := (List.getElem?_eq_some_iff.mp hi).1
      rw [enumD_len, List.length_map] at z
      exact z
    obtain ⟨q, zi, zj, sa⟩ := ok.step (List.getElem?_eq_getElem il)
    generalize m.ss[i] = st at sa
    have rl := row_len ok sa.z
    rw [enumD_get (d := stepD st) (by rw [List.getElem?_map, sa.hs]; rfl)] at hi
    cases hi
    refine gt2 hd kn'.fh fun v1 v2 k1 k2 => ?_
    cases k1.int_
    have rd : atI (lrows m (i + 1)) (-1) = some (lrowD m i) := by rw [lrows_s]; exact atI_last _ _
    obtain ⟨vr, hvr, hvd⟩ := g6.atI rd
    have sl : (src q st.2.2).length ≤ sizeLine := szS (Nat.le_trans (sa.ok.sl _) (by decide))
    have gl : (gol q st.2.2).length ≤ sizeLine := szS (Nat.le_trans (sa.ok.gl _) (by decide))
    have gg : goL m.rs st ≤ 1000 := by rw [goL_eq sa.hq]; exact sa.ok.gl _
    refine q_parO (d2 := .int ((st.1 + srL m.rs st : Nat) : Int)) kn' g5 (ev_var rfl) (ev_un ev_c ru_neg) hvr ((d_add (d_st0 (d_var rfl k2)) (d_lenS (d_call (da_cons (d_var rfl g1) (da_cons (d_var rfl k2) da_nil)) ⟨_, _, _, rfl, sa.hq, rfl⟩) sl)).is (by rw [srL_eq sa.hq]; congr 1)) fun vb F7 H7 s7 hvb => ?_
    cases hvb.int_
    have g1' := g1.ex s7.ff
    have k2' := k2.ex s7.ff
    refine q_asg s7.kn (d := labsD (givenL m.rs i st)) (d_lcm (wk_rng1 (n := ((goL m.rs st : Nat) : Int)) (da_cons ((d_lenS (d_call (da_cons (d_var rfl g1') (da_cons (d_var rfl k2') da_nil)) ⟨_, _, _, rfl, sa.hq, rfl⟩) gl).is (by rw [goL_eq sa.hq])) da_nil) ⟨by omega, by omega⟩) (by rw [rngD_len]; omega) (by rw [rngD_len]; unfold givenL; rw [List.length_map, List.length_map, List.length_range]; omega) fun i' d r v F'' H'' hi hr e1 _ hd Q hQ' => hQ' _ rfl ?_) fun vg F8 H8 s8 hvg => ?_
    · rw [rngD_get (by have := (List.getElem?_eq_some_iff.mp hi).1; rw [rngD_len] at this; exact this)] at hi
      cases hi
      unfold givenL at hr
      rw [List.map_map] at hr
      obtain ⟨_, rfl⟩ := range_get' hr
      rw [Int.zero_add] at hd
      exact d_tup (da_cons (d_var rfl (.int _)) (da_cons (d_var rfl hd) da_nil))
    have t8 := s7.trans s8
    have vl : vs.length = i + 1 := by
      have := g6.len
      rw [lrows_len] at this
      exact this
    refine k_app s8.kn (t8.ex _ _ g5) (t8.fr _ _ g5 g2) h0l (ev_var rfl) ((d_catL (d_catL (d_slL (d_var rfl (hvd.ex t8.ff)) do_none (do_some (d_st0 (d_var rfl (k2.ex t8.ff))))) (d_var rfl hvg) ?_) (d_slL (d_var rfl (hvd.ex t8.ff)) (do_some (d_var rfl (.int _))) do_none) ?_).is (e := lrowD m (i + 1)) ?_) (by omega) fun v9 F9 H9 k9 ff9 fn9 r9 hl9 o9 fr9 => ?_
    · rw [cutD_lo, List.length_take, List.length_map, List.length_map]
      have := sa.zl
      unfold givenL
      rw [List.length_map, List.length_range]
      exact sz_of (by omega)
    · rw [cutD_lo, cutD_hi, List.length_append, List.length_take, List.length_drop, List.length_map, List.length_map]
      have := sa.zl
      unfold givenL
      rw [List.length_map, List.length_range]
      exact sz_of (by omega)
    · rw [cutD_lo, cutD_hi]
      unfold lrowD labsD
      rw [row_s sa.hs]
      unfold nextRow
      rw [List.map_append, List.map_append, List.map_take, List.map_drop]
    · have fa := t8.ff.trans ff9
      refine hN _ F9 H9 k9 fa ⟨⟨y3, some (.int (i : Nat)), some v2, some vr, some (.int ((st.1 + srL m.rs st : Nat) : Int)), y9, some vg, rfl⟩, g1.ex fa, fn9, vs ++ [v9], hl9, ?_⟩
      rw [lrows_s]
      exact (g6.ex fa).snoc r9
  · rintro σ' F' H' kn' eF ⟨⟨y3, y5, y6, y7, y8, y9, y10, rfl⟩, g1, g2, vs, g5, g6⟩
    rw [enumD_len, steps_len] at g6
    exact k_finL hQ kn' g5 g2 h0l g6 (ev_var rfl)
theorem lab_at0 {σ : L2.St} {F : Hp} {te : TE} {l : Lab} (h : EvD te σ F (labD l)) : EvD (tOp (rIxT K) te (tC (.int 0))) σ F (match l.1 with | none => .none | some n => .int (n : Nat)) := d_ixT h d_int rfl
theorem lab_at1 {σ : L2.St} {F : Hp} {te : TE} {l : Lab} (h : EvD te σ F (labD l)) : EvD (tOp (rIxT K) te (tC (.int 1))) σ F (.int (l.2 : Nat)) := d_ixT h d_int rfl
def c_number (ds : List PyData) (r : PyData) : Prop := ∃ (m : WayM) (l : Lab), ds = mD m ++ [labD l] ∧ m.Ok ∧ r = .int (numL m.rs m.z m.ss l : Nat)
theorem cast_sum : ∀ ns : List Nat, (ns.map fun (n : Nat) => (n : Int)).sum = ((ns.sum : Nat) : Int)
  | [] => rfl
  | n :: ns => by
    rw [List.map_cons, List.sum_cons, List.sum_cons, cast_sum ns]
    omega
theorem cl__law_number (S : Env P w K mg base) : Cl P w K mg base 2 "_law_number" ["rules", "word", "steps", "label"] (SpD c_number) := mk_cl S.fun__law_number S.glo__law_number sc__law_number (fun _ _ _ _ _ _ us hl => match us, hl with | [_, _, _, _], _ => rfl) (SpD.len fun _ _ ⟨_, _, e, _⟩ => e ▸ rfl) fun cdv A outer s H vs Q E hr h => by
  have nd := sc__law_number.nd
  refine ⟨_, (pss_cons (ps_if (pt_cmpR op_isN (pe_ix (r := rIxT K) ix_tup (pv 3) pe_int (fun _ _ => rfl)) pe_non (nomark _)) (pss_one (ps_ret (pe_ix (r := rIxT K) ix_tup (pv 3) pe_int (fun _ _ => rfl)))) pss_nil)
    (pss_one (ps_ret (pe_op op_add (pe_op op_add (pe_callB (r := rLenSQ) (id := "len") call_len_str (by rfl) S.free_len (by decide +kernel) (pa_cons (pv 1) pa_nil)) (pe_callB (r := rSum K) (id := "sum") (cr_sum rfl) (by rfl) S.free_sum (by decide +kernel) (pa_cons (pe_lc (own := [("step", 4)]) rfl nd (pi_listK (K := K) rfl (pe_slice (r := rSlL K) sl_list (pv 2) po_none (po_some (pe_ix (r := rIxT K) ix_tup (pv 3) pe_int (fun _ _ => rfl))))) (blkOk_by (N := ["rules", "word", "steps", "label", "step"]) (sc := defScope s__law_number) (by decide +kernel)) (fun _ _ _ _ _ => (pg_name (i := 4) nd rfl (by first | exact Or.inl rfl | exact Or.inr rfl))) (fun _ _ _ _ _ => pts_nil) (fun _ _ _ _ _ => (pe_callB (r := rLenSQ) (id := "len") call_len_str (by rfl) S.free_len (by decide +kernel) (pa_cons (pe_cl (cl__law_w_goal S) hr (by decide) pass_none (by rfl) (pa_cons (pv 0) (pa_cons (pv 4) pa_nil))) pa_nil)))) pa_nil))) (pe_ix (r := rIxT K) ix_tup (pv 3) pe_int (fun _ _ => rfl)))))), ?_⟩
  obtain ⟨F0, ds, r, e0, hd, hc, hQ⟩ := h
  have kn := Kn.start e0
  obtain ⟨m, ⟨o, j⟩, rfl, ok, rfl⟩ := hc
  obtain ⟨x, y, u, b, rfl, hx, hy, hu, hb⟩ := da4_ hd
  have zl := ok.s.len
  refine q_if kn (t_val (d_isN (lab_at0 (d_var rfl hb)))) (fun e F1 H1 s1 => ?_) fun e F1 H1 s1 => ?_
  · cases o with
    | some n => cases e
    | none => exact k_fin (Q := Q) hQ s1.kn (lab_at1 (d_var rfl (hb.ex s1.ff)))
  · cases o with
    | none => cases e
    | some n =>
      have hu1 := hu.ex s1.ff
      have hx1 := hx.ex s1.ff
      have hl : (cutD (m.ss.map stepD) none (some ((n : Nat) : Int))) = (m.ss.take n).map stepD := by rw [cutD_lo, List.map_take]
      refine k_fin (Q := Q) hQ s1.kn ((d_add (d_add (d_lenS (d_var rfl (hy.ex s1.ff)) (szS (Nat.le_trans zl (by decide)))) (d_sumL (ns := ((m.ss.take n).map (goL m.rs)).map fun (n : Nat) => (n : Int)) (d_lcn (wk_list ((d_slL (d_var rfl hu1) do_none (do_some (lab_at0 (l := (some n, j)) (d_var rfl (hb.ex s1.ff))))).is (congrArg PyData.list hl))) ?_ ?_ fun i d r v F'' hi hr e1 hd => ?_))) (lab_at1 (d_var rfl (hb.ex s1.ff)))).is ?_)
      · rw [List.length_map, List.length_take]
        have := ok.n
        omega
      · simp
      · obtain ⟨st, hst, rfl⟩ := map_at hi
        rw [List.map_map, List.map_map] at hr
        obtain ⟨st', hst', rfl⟩ := map_at hr
        rw [hst] at hst'
        cases hst'
        have hm : m.ss[i]? = some st := by
          rw [List.getElem?_take] at hst
          split at hst
          · exact hst
          · cases hst
        obtain ⟨q, zi, zj, sa⟩ := ok.step hm
        show EvD _ _ _ (PyData.int ((goL m.rs st : Nat) : Int))
        rw [goL_eq sa.hq]
        exact d_lenS (d_call (da_cons (d_var rfl (hx1.ex e1)) (da_cons (d_var rfl hd) da_nil)) ⟨_, _, _, rfl, sa.hq, rfl⟩) (szS (Nat.le_trans (sa.ok.gl _) (by decide)))
      · rw [cast_sum]
        unfold numL freshAt
        congr 1
def c_taken (ds : List PyData) (r : PyData) : Prop := ∃ (m : WayM) (n : Nat) (s : WStep), ds = [rulesD m.rs, lrowsD m, stepsD m.ss, .int (n : Nat)] ∧ m.Ok ∧ m.ss[n]? = some s ∧ r = labsD (takenL m.rs m.z m.ss n s)
theorem cl__law_taken (S : Env P w K mg base) : Cl P w K mg base 2 "_law_taken" ["rules", "rows", "steps", "number"] (SpD c_taken) := mk_cl S.fun__law_taken S.glo__law_taken sc__law_taken (fun _ _ _ _ _ _ us hl => match us, hl with | [_, _, _, _], _ => rfl) (SpD.len fun _ _ ⟨_, _, _, e, _⟩ => e ▸ rfl) fun cdv A outer s H vs Q E hr h => by
  have nd := sc__law_taken.nd
  refine ⟨_, (pss_cons (ps_set (i := 4) nd rfl (by first | exact Or.inl rfl | exact Or.inr rfl) (pe_ix (r := rIxL K) ix_list (pv 2) (pv 3) (fun _ _ => rfl)))
    (pss_one (ps_ret (pe_slice (r := rSlL K) sl_list (pe_ix (r := rIxL K) ix_list (pv 1) (pv 3) (fun _ _ => rfl)) (po_some (pe_ix (r := rIxT K) ix_tup (pv 4) pe_int (fun _ _ => rfl))) (po_some (pe_op op_add (pe_ix (r := rIxT K) ix_tup (pv 4) pe_int (fun _ _ => rfl)) (pe_callB (r := rLenSQ) (id := "len") call_len_str (by rfl) S.free_len (by decide +kernel) (pa_cons (pe_cl (cl__law_w_source S) hr (by decide) pass_none (by rfl) (pa_cons (pv 0) (pa_cons (pv 4) pa_nil))) pa_nil)))))))), ?_⟩
  obtain ⟨F0, ds, r, e0, hd, hc, hQ⟩ := h
  have kn := Kn.start e0
  obtain ⟨m, n, s', rfl, ok, hs, rfl⟩ := hc
  obtain ⟨x, y, u, b, rfl, hx, hy, hu, hb⟩ := da4_ hd
  obtain ⟨q, zi, zj, sa⟩ := ok.step hs
  have il : n < m.ss.length := (List.getElem?_eq_some_iff.mp hs).1
  refine q_asg kn (d_ixL (d_var rfl hu) (d_var rfl hb) (stD_at hs)) fun v F1 H1 s1 hv => ?_
  have sl : (src q s'.2.2).length ≤ sizeLine := szS (Nat.le_trans (sa.ok.sl _) (by decide))
  refine k_fin (Q := Q) hQ s1.kn ((d_slL (d_ixL (d_var rfl (hy.ex s1.ff)) (d_var rfl (hb.ex s1.ff)) (d := lrowD m n) (atI_nat (lrows_get (by omega)))) (do_some (d_st0 (d_var rfl hv))) (do_some (d_add (d_st0 (d_var rfl hv)) (d_lenS (d_call (da_cons (d_var rfl (hx.ex s1.ff)) (da_cons (d_var rfl hv) da_nil)) ⟨_, _, _, rfl, sa.hq, rfl⟩) sl)))).is ?_)
  unfold labsD takenL
  rw [show ((s'.1 : Nat) : Int) + ((src q s'.2.2).length : Nat) = ((s'.1 + srL m.rs s' : Nat) : Int) by rw [srL_eq sa.hq]; omega, cutD_nn, List.map_take, List.map_drop]
  congr 2
  omega
def c_goal_of (ds : List PyData) (r : PyData) : Prop := ∃ (m : WayM) (idx p : Nat) (l : Lab), ds = [rulesD m.rs, lrowsD m, stepsD m.ss, labD l] ∧ m.Ok ∧ idx ≤ m.ss.length ∧ (rowAt m.rs m.z m.ss idx)[p]? = some l ∧ r = labD (goesL m.rs idx (m.ss.drop idx) p)
theorem any_lab (ls : List Lab) (l : Lab) : ((ls.map labD).any fun z => PyData.eqv z (labD l)) = decide (l ∈ ls) := by
  rw [List.any_map]
  rw [Bool.eq_iff_iff, List.any_eq_true, decide_eq_true_iff]
  constructor
  · rintro ⟨x, hx, e⟩
    have e' : PyData.eqv (labD x) (labD l) = true := e
    rw [labD_eqv, decide_eq_true_iff] at e'
    rw [← e']
    exact hx
  · intro h
    exact ⟨l, h, by show PyData.eqv (labD l) (labD l) = true; rw [labD_eqv]; exact decide_eq_true rfl⟩
/-- l.index of a label, in a list of labels that are all different -/
theorem d_labIdx {σ : L2.St} {F : Hp} {ta tb : TE} {ls : List Lab} {l : Lab} {j : Nat} (ha : EvD ta σ F (labsD ls)) (hb : EvD tb σ F (labD l)) (hj : ls[j]? = some l) (hn : ∀ m, ls[m]? = some l → m = j) : EvD (tBM K "list" (rIndexD K) ta (tCons tb tNil)) σ F (.int (j : Nat)) :=
  d_idxD ha hb (labD_plain _) (labs_plain _) (labD_shaped _) (labs_shaped _) (z := labD l) (by rw [List.getElem?_map, hj]; rfl) (by rw [labD_eqv]; exact decide_eq_true rfl) fun m z' hm hz => by
    obtain ⟨l', hl', rfl⟩ := map_at hz
    rw [labD_eqv]
    refine decide_eq_false fun e => ?_
    rw [e] at hl'
    have := hn m hl'
    omega
theorem cl__law_goal_of (S : Env P w K mg base) : Cl P w K mg base 3 "_law_goal_of" ["rules", "rows", "steps", "label"] (SpD c_goal_of) := mk_cl S.fun__law_goal_of S.glo__law_goal_of sc__law_goal_of (fun _ _ _ _ _ _ us hl => match us, hl with | [_, _, _, _], _ => rfl) (SpD.len fun _ _ ⟨_, _, _, _, e, _⟩ => e ▸ rfl) fun cdv A outer s H vs Q E hr h => by
  have nd := sc__law_goal_of.nd
  refine ⟨_, (pss_cons (ps_for (passes_of rfl) rfl (pi_range1 rfl S.free_range (pa_cons (pe_callB (r := rLenQ K) (id := "len") call_len_seq (by rfl) S.free_len (by decide +kernel) (pa_cons (pv 2) pa_nil)) pa_nil)) (pg_name (i := 4) nd rfl (by first | exact Or.inl rfl | exact Or.inr rfl))
    (pss_cons (ps_set (i := 5) nd rfl (by first | exact Or.inl rfl | exact Or.inr rfl) (pe_cl (cl__law_taken S) hr (by decide) pass_none (by rfl) (pa_cons (pv 0) (pa_cons (pv 1) (pa_cons (pv 2) (pa_cons (pv 4) pa_nil))))))
    (pss_one (ps_if (pt_cmpR (r := rInD K) (op_inD (u65 hr)) (pv 3) (pv 5) (by rfl)) (pss_one (ps_ret (pe_tup (pa_cons (pv 4) (pa_cons (pe_bmK (K := K) (r := rIndexD K) rfl PySem.F.plainAttrs_list PySem.F.slot_list_index PySem.F.type_list_index (mt_indexD (u65 hr)) (pv 5) (pa_cons (pv 3) pa_nil)) pa_nil))))) pss_nil))))
    (pss_one (ps_ret (pe_tup (pa_cons pe_non (pa_cons (pe_bmK (K := K) (r := rIndexD K) rfl PySem.F.plainAttrs_list PySem.F.slot_list_index PySem.F.type_list_index (mt_indexD (u65 hr)) (pe_ix (r := rIxL K) ix_list (pv 1) (pe_un un_neg pe_int) (fun _ _ => rfl)) (pa_cons (pv 3) pa_nil)) pa_nil)))))), ?_⟩
  obtain ⟨F0, ds, r, e0, hd, hc, hQ⟩ := h
  have kn := Kn.start e0
  obtain ⟨m, idx, p, lab, rfl, ok, hidx, hp, rfl⟩ := hc
  obtain ⟨x, y, u, b, rfl, hx, hy, hu, hb⟩ := da4_ hd
  have nl : m.ss.length ≤ 1000 := ok.n
  generalize hres : goesL m.rs idx (m.ss.drop idx) p = res at hQ
  refine q_for kn (wk_rng1 (n := ((m.ss.length : Nat) : Int)) (da_cons ((d_lenL (d_var rfl hu)).is (by rw [steps_len])) da_nil) ⟨by omega, by omega⟩) (fun i σ' F' H' => (∃ y4 y5, σ' = [some x, some y, some u, some b, y4, y5]) ∧ Dt F' x (rulesD m.rs) ∧ Dt F' y (lrowsD m) ∧ Dt F' u (stepsD m.ss) ∧ Dt F' b (labD lab) ∧ ∃ at_, (rowAt m.rs m.z m.ss (max i idx))[at_]? = some lab ∧ goesL m.rs (max i idx) (m.ss.drop (max i idx)) at_ = res) ?_ ?_ ?_ ?_
  · intro F1 H1 s1
    exact ⟨⟨none, none, rfl⟩, hx.ex s1.ff, hy.ex s1.ff, hu.ex s1.ff, hb.ex s1.ff, p, by rw [Nat.zero_max]; exact hp, by rw [Nat.zero_max]; exact hres⟩
  · rintro i σ' F' H' H2 ⟨hσ, g1, g2, g3, g4, g5⟩ kn' e
    have s := kn'.step (H1 := H2) e
    exact ⟨hσ, g1.ex s.ff, g2.ex s.ff, g3.ex s.ff, g4.ex s.ff, g5⟩
  · rintro i d yy σ' F' H' hi kn' eF hd ⟨⟨y4, y5, rfl⟩, g1, g2, g3, g4, at_, g5, g6⟩ N hN
    have il : i < m.ss.length := by
      have z := (List.getElem?_eq_some_iff.mp hi).1
      rw [rngD_len] at z
      omega
    rw [rngD_get (by omega), Int.zero_add] at hi
    cases hi
    cases hd.int_
    obtain ⟨q, zi, zj, sa⟩ := ok.step (List.getElem?_eq_getElem il)
    generalize m.ss[i] = st at sa
    refine q_asg kn' (d_call (da_cons (d_var rfl g1) (da_cons (d_var rfl g2) (da_cons (d_var rfl g3) (da_cons (d_var rfl (.int _)) da_nil)))) ⟨_, _, _, rfl, ok, sa.hs, rfl⟩) fun vt F1 H1 s1 hvt => ?_
    have k4 := g4.ex s1.ff
    refine k_if s1.kn (t_val ((d_inD (d_var rfl k4) (d_var rfl hvt) (labD_plain _) (labs_plain _) (labD_shaped _) (labs_shaped _)).is (congrArg PyData.bool (any_lab _ _)))) (fun hm F2 H2 s2 => ?_) fun hm F2 H2 s2 => ?_
    · have hm := of_decide_eq_true hm
      have ge : idx ≤ i := Decidable.byContradiction fun z => by
        refine taken_gone m sa.hs hm (max i idx) (by omega) (by omega) ?_
        exact List.mem_of_getElem? g5
      rw [Nat.max_eq_left ge] at g5 g6
      obtain ⟨j, jl, hj⟩ := taken_at hm
      have nd := (row_ok m i (by omega)).nd
      have ej := nodup_at nd g5 hj
      subst ej
      rw [drop_at sa.hs] at g6
      unfold goesL at g6
      rw [if_neg (by omega), if_pos (by omega)] at g6
      subst g6
      refine k_fin (Q := Q) hQ s2.kn ((d_tup (da_cons (d_var rfl (.int _)) (da_cons (d_labIdx (j := j) (d_var rfl (hvt.ex s2.ff)) (d_var rfl (k4.ex s2.ff)) ?_ ?_) da_nil))).is ?_)
      · rw [taken_get j jl]
        exact hj
      · intro m' hm'
        have ml : m' < srL m.rs st := by
          have := (List.getElem?_eq_some_iff.mp hm').1
          rw [taken_len ok sa] at this
          exact this
        rw [taken_get m' ml] at hm'
        have := nodup_at nd hm' hj
        omega
      · unfold labD
        rw [show st.1 + j - st.1 = j by omega]
    · have hm := of_decide_eq_false hm
      refine hN _ F2 H2 s2.kn (s1.ff.trans s2.ff) ⟨⟨_, _, rfl⟩, (g1.ex s1.ff).ex s2.ff, (g2.ex s1.ff).ex s2.ff, (g3.ex s1.ff).ex s2.ff, k4.ex s2.ff, ?_⟩
      by_cases lt : i < idx
      · rw [show max (i + 1) idx = max i idx by omega]
        exact ⟨at_, g5, g6⟩
      · rw [show max i idx = i by omega] at g5 g6
        rw [show max (i + 1) idx = i + 1 by omega]
        have rl := row_len ok sa.z
        have cc := sa.c
        rw [drop_at sa.hs] at g6
        unfold goesL at g6
        rw [row_s sa.hs]
        by_cases c1 : at_ < st.1
        · rw [if_pos c1] at g6
          exact ⟨at_, by rw [next_get (by rw [rl]; omega), if_pos c1]; exact g5, g6⟩
        · rw [if_neg c1] at g6
          by_cases c2 : at_ < st.1 + srL m.rs st
          · exfalso
            apply hm
            have z := taken_get (rs := m.rs) (z := m.z) (ss := m.ss) (n := i) (s := st) (at_ - st.1) (by omega)
            rw [show st.1 + (at_ - st.1) = at_ by omega, g5] at z
            exact List.mem_of_getElem? z
          · rw [if_neg c2] at g6
            refine ⟨_, ?_, g6⟩
            rw [next_get (by rw [rl]; omega), if_neg (by omega), if_neg (by omega)]
            rw [show at_ - srL m.rs st + goL m.rs st - goL m.rs st + srL m.rs st = at_ by omega]
            exact g5
  · rintro σ' F' H' kn' eF ⟨⟨y4, y5, rfl⟩, g1, g2, g3, g4, at_, g5, g6⟩
    rw [rngD_len, show ((m.ss.length : Nat) : Int).toNat = m.ss.length by omega, Nat.max_eq_left hidx] at g5 g6
    rw [List.drop_length] at g6
    cases g6
    have rd : atI (lrows m (m.ss.length + 1)) (-1) = some (lrowD m m.ss.length) := by rw [lrows_s]; exact atI_last _ _
    refine k_fin (Q := Q) hQ kn' (d_tup (da_cons d_non (da_cons (d_labIdx (j := at_) (d_ixL (d_var rfl g2) (d_neg d_int) rd) (d_var rfl g4) g5 fun m' hm' => nodup_at (row_ok m _ (Nat.le_refl _)).nd hm' g5) da_nil)))
end
end K05
namespace K05
open PySem PySem.Spec PyProof.Rows L2 Evl WB
section
variable {P : Program} {w : World} {K : PySem.W.Frag} {mg : Str → Option Value} {base : Heap}
def stD (xs : List Int) (a b c : Int) : PyData := .list [.list (xs.map .int), .int a, .int b, .int c]
theorem m_len {α : Type} {k : α → Nat} {args : α → Hp → List V → Prop} {res : α → Hp → V → Prop} {n : Nat} (h : ∀ x F vs, args x F vs → vs.length = n) (vs : List V) (H : Hp) (Q : VK) (E : XK) (s : SpM k args res vs H Q E) : vs.length = n + 1 := by
  obtain ⟨F, x, l, s, m, r, rfl, _, _, _, _, _, h1, _⟩ := s
  rw [List.length_cons, h _ _ _ h1]
theorem st_dt {H : Hp} {l s : Addr} {xs : List Int} {a b c : Int} (h1 : H l = some (.lst [.ref s, .int a, .int b, .int c])) (h2 : H s = some (.lst (xs.map V.int))) : Dt H (.ref l) (stD xs a b c) := .lst h1 (.cons (.lst h2 (DtAll.ints xs)) (.cons (.int _) (.cons (.int _) (.cons (.int _) .nil))))
theorem ints_lay : ∀ xs : List Int, PyData.canLayAll0 (xs.map PyData.int) = true
  | [] => by simp [PyData.canLayAll0]
  | x :: xs => by simp [PyData.canLayAll0, PyData.canLay0, ints_lay xs]
theorem ints_depth : ∀ xs : List Int, PyData.depthAll (xs.map PyData.int) = 0
  | [] => by simp [PyData.depthAll]
  | x :: xs => by simp [PyData.depthAll, PyData.depth, ints_depth xs]
theorem ints_plain : ∀ xs : List Int, plainDs (xs.map PyData.int) = true
  | [] => rfl
  | x :: xs => by
    rw [List.map_cons]
    unfold plainDs
    rw [ints_plain xs]
    rfl
theorem ints_shaped (xs : List Int) : SeqAt.shaped (.list (xs.map PyData.int)) = true := by
  show (PyData.canLay0 (.list (xs.map PyData.int)) && decide (PyData.depth (.list (xs.map PyData.int)) ≤ 64)) = true
  rw [Bool.and_eq_true]
  refine ⟨by simp only [PyData.canLay0]; exact ints_lay xs, decide_eq_true ?_⟩
  simp only [PyData.depth, ints_depth]
  omega
section
variable {σ : L2.St} {H : Hp} {l s : Addr} {te : TE} {D : Ends} {rest : TS} {i j : Nat} {k z : Int} {vs : List V}
theorem k_stset (hσ : σ[i]? = some (some (.ref l))) (he : EvD te σ H (.int z)) (hl : H l = some (.lst vs)) (hj : ixN vs.length k = some j) (k' : ∀ H1, Ex H H1 → D.nx σ (upd H1 l (.lst (vs.set j (.int z))))) : tAsg te (gSub (tVar i) (tC (.int k)) rSetL) D σ H := he H (Ex.refl H) _ fun v H1 e hv => by
  cases hv.int_
  exact ⟨.ref l, hσ, l, vs, k, j, rfl, rfl, e _ _ hl, hj, k' H1 e⟩
theorem q_stset (hσ : σ[i]? = some (some (.ref l))) (he : EvD te σ H (.int z)) (hl : H l = some (.lst vs)) (hj : ixN vs.length k = some j) (k' : ∀ H1, Ex H H1 → rest D σ (upd H1 l (.lst (vs.set j (.int z))))) : tSeq (tAsg te (gSub (tVar i) (tC (.int k)) rSetL)) rest D σ H := k_stset (D := { D with nx := rest D }) hσ he hl hj k'
theorem q_asgE (he : EvD te σ H (.int z)) (k' : ∀ H1, Ex H H1 → rest D (σ.set i (some (.int z))) H1) : tSeq (tAsg te (gName i)) rest D σ H := he H (Ex.refl H) _ fun v H1 e hv => by
  cases hv.int_
  exact k' H1 e
theorem k_retE (he : EvD te σ H (.int z)) (k' : ∀ H1, Ex H H1 → D.rt (.int z) H1) : tRet te D σ H := he H (Ex.refl H) _ fun v H1 e hv => by
  cases hv.int_
  exact k' H1 e
theorem q_pop0 {x : V} (ha : Ev te σ H (.ref s)) (hs : H s = some (.lst (x :: vs))) (k' : ∀ H1, Ex H H1 → rest D (σ.set i (some x)) (upd H1 s (.lst vs))) : tSeq (tAsg (tBM K "list" rPopAt te (tCons (tC (.int 0)) tNil)) (gName i)) rest D σ H := ha H (Ex.refl H) _ fun H1 e =>
  ⟨Or.inl ⟨rfl, _, sq_of (e _ _ hs)⟩, s, x :: vs, 0, 0, x, rfl, rfl, e _ _ hs, by decide, by decide, by
    have z : seqIndex? 0 (x :: vs).length = some (0 : Int).toNat := seqIndex_of (by omega) (by simp)
    exact z, rfl, k' H1 e⟩
end
theorem fmod_in {i j : Int} (h : 0 < j) : 0 ≤ i.fmod j ∧ i.fmod j < j := by
  rw [Int.fmod_eq_emod_of_nonneg i (by omega)]
  exact ⟨Int.emod_nonneg _ (by omega), Int.emod_lt_of_pos _ h⟩
theorem exm_upd {l s a : Addr} {H H1 : Hp} {o : HO} (e : ExM (Ms l s) H H1) (ha : a = l ∨ a = s) (hh : H1 a ≠ none) : ExM (Ms l s) H (upd H1 a o) := ⟨fun b u n h => by
  rw [upd_ne fun z => n (by rw [z]; exact ha)]
  exact e.k b u n h, fun b h => by
  by_cases z : b = a
  · rw [z, upd_same] at h; cases h
  · rw [upd_ne z] at h; exact e.d b h⟩
abbrev ADr : Nat → Hp → List V → Prop := fun m H vs => 1 ≤ m ∧ m < 1073741824 ∧ vs = [.int (m : Nat)]
abbrev RDr : Nat → Hp → V → Prop := fun m _ v => ∃ d : Nat, v = .int (d : Nat) ∧ d < m
theorem cl__law_draw (S : Env P w K mg base) : Cl P w K mg base 1 "_law_draw" ["stream", "many"] (SpM (fun _ => 1) ADr RDr) := mk_cl S.fun__law_draw S.glo__law_draw sc__law_draw (fun _ _ _ _ _ _ us hl => match us, hl with | [_, _], _ => rfl) (m_len fun _ _ _ ⟨_, _, e⟩ => by rw [e]; rfl) fun cdv A outer s H vs Q E hr h => by
  have nd := sc__law_draw.nd
  refine ⟨_, (pss_cons (ps_asg (pe_op op_add (pe_ix (r := rIxL K) ix_list (pv 0) pe_int (fun _ _ => rfl)) pe_int) (pg_sub (pv 0) pe_int set_list))
    (pss_cons (ps_while (passes_of rfl) (PW.pt (pw_and (pt_cmpR op_eq (pe_ix (r := rIxL K) ix_list (pv 0) pe_int (fun _ _ => rfl)) pe_int (nomark _)) (pw_and1 (pt_cmpR (r := rNeD K) (op_neD hr.units) (pe_ix (r := rIxL K) ix_list (pv 0) pe_int (fun _ _ => rfl)) (pe_lst pa_nil) (nomark _)))))
    (pss_cons (ps_set (i := 2) nd rfl (by first | exact Or.inl rfl | exact Or.inr rfl) (pe_bmK (K := K) (r := rPopAt) rfl PySem.F.plainAttrs_list PySem.F.slot_list_pop PySem.F.type_list_pop mt_popAt (pe_ix (r := rIxL K) ix_list (pv 0) pe_int (fun _ _ => rfl)) (pa_cons pe_int pa_nil)))
    (pss_cons (ps_asg (pe_op op_modN (pe_callTy (r := rIntQ) (T := "int") call_int1 (by rfl) S.free_int (by decide +kernel) (pa_cons (pe_op op_add (pe_op op_add (pe_op op_mul (pe_ix (r := rIxL K) ix_list (pv 0) pe_int (fun _ _ => rfl)) pe_int) (pv 2)) pe_int) pa_nil)) pe_int) (pg_sub (pv 0) pe_int set_list))
    (pss_one (ps_asg (pe_ifExp (pt_cmpR op_ge (pv 2) (pe_op op_pow pe_int pe_int) (nomark _)) (pv 2) pe_int) (pg_sub (pv 0) pe_int set_list))))))
    (pss_cons (ps_if (pt_cmpR op_gt (pe_ix (r := rIxL K) ix_list (pv 0) pe_int (fun _ _ => rfl)) pe_int (nomark _)) (pss_cons (ps_set (i := 3) nd rfl (by first | exact Or.inl rfl | exact Or.inr rfl) (pe_op op_modN (pe_callTy (r := rIntQ) (T := "int") call_int1 (by rfl) S.free_int (by decide +kernel) (pa_cons (pe_ix (r := rIxL K) ix_list (pv 0) pe_int (fun _ _ => rfl)) pa_nil)) (pv 1)))
    (pss_cons (ps_asg (pe_op op_fdivN (pe_ix (r := rIxL K) ix_list (pv 0) pe_int (fun _ _ => rfl)) (pv 1)) (pg_sub (pv 0) pe_int set_list))
    (pss_one (ps_ret (pv 3))))) pss_nil)
    (pss_cons (ps_set (i := 4) nd rfl (by first | exact Or.inl rfl | exact Or.inr rfl) (pe_op op_modN (pe_callTy (r := rIntQ) (T := "int") call_int1 (by rfl) S.free_int (by decide +kernel) (pa_cons (pe_op op_pow (pe_op op_add (pe_op op_add (pe_ix (r := rIxL K) ix_list (pv 0) pe_int (fun _ _ => rfl)) (pe_op op_mul pe_int (pe_ix (r := rIxL K) ix_list (pv 0) pe_int (fun _ _ => rfl)))) pe_int) pe_int) pa_nil)) pe_int))
    (pss_one (ps_ret (pe_op op_modN (pe_op op_modN (pe_callTy (r := rIntQ) (T := "int") call_int1 (by rfl) S.free_int (by decide +kernel) (pa_cons (pe_op op_pow (pe_op op_add (pe_op op_add (pe_op op_mul (pv 4) pe_int) (pe_op op_mul pe_int (pe_ix (r := rIxL K) ix_list (pv 0) pe_int (fun _ _ => rfl)))) pe_int) pe_int) pa_nil)) pe_int) (pv 1)))))))), ?_⟩
  obtain ⟨F0, mm, l, s, n, r, rfl, e0, fl, fs, ⟨xs, a, b, c, hl, hs, ha, hb, hbn, hc, hc2⟩, hn, ⟨m1, m2, rfl⟩, hQ⟩ := h
  have ls : l ≠ s := fun z => by rw [z, hs] at hl; cases xs with
    | nil => cases hl
    | cons x r => cases hl
  refine q_stset (j := 2) (z := b + 1) rfl (d_add (d_ixL (d_var rfl (st_dt hl hs)) d_int rfl) d_int) hl rfl fun H1 e1 => ?_
  have hl1 : (upd H1 l (.lst [.ref s, .int a, .int (b + 1), .int c])) l = _ := upd_same
  have hs1 : (upd H1 l (.lst [.ref s, .int a, .int (b + 1), .int c])) s = some (.lst (xs.map V.int)) := by rw [upd_ne (Ne.symm ls)]; exact e1 _ _ hs
  have em1 : ExM (Ms l s) H (upd H1 l (.lst [.ref s, .int a, .int (b + 1), .int c])) := exm_upd (ExM.of e1) (.inl rfl) (by rw [e1 _ _ hl]; intro z; cases z)
  refine ⟨fun m σ' H' => ∃ (xs' : List Int) (a' c' : Int) (y2 : Option V), m = xs'.length ∧ σ' = [some (.ref l), some (.int (mm : Nat)), y2, none, none] ∧ H' l = some (.lst [.ref s, .int a', .int (b + 1), .int c']) ∧ H' s = some (.lst (xs'.map V.int)) ∧ 0 ≤ a' ∧ 0 ≤ c' ∧ c' < 2147483647 ∧ ExM (Ms l s) H H', ⟨_, xs, a, c, none, rfl, rfl, hl1, hs1, ha, hc, hc2, em1⟩, ?_⟩
  rintro m σ' H' ⟨xs', a', c', y2, rfl, rfl, gl, gs, ga, gc, gc2, em⟩
  have tst : ((decide (V.int a' = V.int 0)) && (!PyData.eqv (.list (xs'.map .int)) (.list []))) = decide (a' = 0 ∧ xs' ≠ []) := by
    have e : PyData.eqv (.list (xs'.map .int)) (.list []) = decide (xs' = []) := by
      cases xs' with
      | nil => simp [PyData.eqv, PyData.eqvAll]
      | cons x r => simp [PyData.eqv, PyData.eqvAll]
    rw [e]
    by_cases h : a' = 0
    · rw [h]
      by_cases h2 : xs' = []
      · rw [h2]; simp
      · simp [h2]
    · have : ¬ (V.int a' = V.int 0) := fun z => h (V.int.inj z)
      have e2 : ¬ (a' = 0 ∧ xs' ≠ []) := fun z => h z.1
      rw [decide_eq_false this, decide_eq_false e2]
      rfl
  refine et_is (et_and (et_test (EvD.evb (d_eq (x := .int a') (y := .int 0) (d_ixL (d_var rfl (st_dt gl gs)) d_int rfl) d_int))) (fun _ => et_test (EvD.evb (d_neD (d1 := .list (xs'.map .int)) (d2 := .list []) (d_ixL (d_var rfl (st_dt gl gs)) d_int rfl) (d_lst da_nil) (by unfold plainD; exact ints_plain _) rfl (ints_shaped _) (ints_shaped []))))) tst H' (Ex.refl H') _ fun H2 e2 => ?_
  have gl2 := e2 _ _ gl
  have gs2 := e2 _ _ gs
  have em2 := em.trans (ExM.of e2)
  by_cases hw : a' = 0 ∧ xs' ≠ []
  · rw [if_pos (decide_eq_true hw)]
    obtain ⟨rfl, hx⟩ := hw
    cases xs' with
    | nil => exact absurd rfl hx
    | cons x xr =>
      refine ⟨fun σ' H' => ∃ (xs' : List Int) (a' c' : Int) (y2 : Option V), xs'.length < (x :: xr).length ∧ σ' = [some (.ref l), some (.int (mm : Nat)), y2, none, none] ∧ H' l = some (.lst [.ref s, .int a', .int (b + 1), .int c']) ∧ H' s = some (.lst (xs'.map V.int)) ∧ 0 ≤ a' ∧ 0 ≤ c' ∧ c' < 2147483647 ∧ ExM (Ms l s) H H', fun σ' H' ⟨ys, a2, c2, y, q1, q2⟩ => ⟨_, q1, ys, a2, c2, y, rfl, q2⟩, ?_⟩
      refine q_pop0 (ev_op (ev_var rfl) ev_c (rv_ixL (SqL.of gl2) rfl)) gs2 fun H3 e3 => ?_
      have gl3 : (upd H3 s (.lst (xr.map V.int))) l = some (.lst [.ref s, .int 0, .int (b + 1), .int c']) := by rw [upd_ne ls]; exact e3 _ _ gl2
      have gs3 : (upd H3 s (.lst (xr.map V.int))) s = some (.lst (xr.map V.int)) := upd_same
      have em3 : ExM (Ms l s) H (upd H3 s (.lst (xr.map V.int))) := exm_upd (em2.trans (ExM.of e3)) (.inr rfl) (by rw [e3 _ _ gs2]; intro z; cases z)
      generalize upd H3 s (.lst (xr.map V.int)) = H3' at gl3 gs3 em3
      have cb := fmod_in (i := c' * 65599 + x + 7) (j := 2147483647) (by decide)
      refine q_stset (j := 3) (z := (c' * 65599 + x + 7).fmod 2147483647) rfl (d_opI (d_intI (d_add (d_add (d_opI (d_ixL (d_var rfl (st_dt gl3 gs3)) d_int rfl) d_int (.inr ⟨by decide, by decide⟩)) (d_var rfl (.int _))) d_int)) d_int (by decide)) gl3 rfl fun H4 e4 => ?_
      have gl4 : (upd H4 l (.lst [.ref s, .int 0, .int (b + 1), .int ((c' * 65599 + x + 7).fmod 2147483647)])) l = _ := upd_same
      have gs4 : (upd H4 l (.lst [.ref s, .int 0, .int (b + 1), .int ((c' * 65599 + x + 7).fmod 2147483647)])) s = some (.lst (xr.map V.int)) := by rw [upd_ne (Ne.symm ls)]; exact e4 _ _ gs3
      have em4 : ExM (Ms l s) H (upd H4 l (.lst [.ref s, .int 0, .int (b + 1), .int ((c' * 65599 + x + 7).fmod 2147483647)])) := exm_upd (em3.trans (ExM.of e4)) (.inl rfl) (by rw [e4 _ _ gl3]; intro z; cases z)
      show tAsg _ _ _ _ (upd H4 l (.lst [.ref s, .int 0, .int (b + 1), .int ((c' * 65599 + x + 7).fmod 2147483647)]))
      generalize upd H4 l (.lst [.ref s, .int 0, .int (b + 1), .int ((c' * 65599 + x + 7).fmod 2147483647)]) = H4' at gl4 gs4 em4
      have hz : 0 ≤ (if x ≥ 10 ^ 18 then x else 0) := by
        split
        · have : (0 : Int) ≤ 10 ^ 18 := by decide
          omega
        · exact Int.le_refl _
      refine k_stset (j := 1) (z := if x ≥ 10 ^ 18 then x else 0) rfl (d_if (t_val (d_cmp (d_var rfl (.int _)) ((d_opI d_int d_int ⟨by decide, by decide, by decide⟩).is (e := .int (10 ^ 18)) (congrArg PyData.int (by decide))))) (fun e => (d_var rfl (.int x)).is ?_) fun e => d_int.is ?_) gl4 rfl fun H5 e5 => ?_
      · rw [if_pos (of_decide_eq_true e)]
      · rw [if_neg (of_decide_eq_false e)]
      · refine ⟨xr, _, _, some (.int x), by simp, rfl, upd_same, ?_, hz, cb.1, cb.2, exm_upd (em4.trans (ExM.of e5)) (.inl rfl) (by rw [e5 _ _ gl4]; intro z; cases z)⟩
        rw [upd_ne (Ne.symm ls)]
        exact e5 _ _ gs4
  · rw [if_neg (by rw [decide_eq_false hw]; decide)]
    have mpos : (0 : Int) < (mm : Nat) := by omega
    have hn' : n + 1 ≤ 1000000 := hn
    have fin : ∀ (H' : Hp) (z : Int), ExM (Ms l s) H H' → (∃ xs a c, H' l = some (.lst [.ref s, .int a, .int (b + 1), .int c]) ∧ H' s = some (.lst ((xs : List Int).map V.int)) ∧ 0 ≤ a ∧ 0 ≤ c ∧ c < 2147483647) → 0 ≤ z → z < (mm : Nat) → Q (.int z) H' := fun H' z e ⟨xs, a, c, q1, q2, q3, q4, q5⟩ z0 z1 => by
      refine hQ _ H' e ⟨xs, a, b + 1, c, q1, q2, q3, by omega, by show (b + 1 : Int) ≤ ((n + 1 : Nat) : Int); omega, q4, q5⟩ ⟨z.toNat, ?_, by omega⟩
      rw [show ((z.toNat : Nat) : Int) = z by omega]
    show tSeq _ _ _ _ _
    refine t_val (d_cmp (d_ixL (d_var rfl (st_dt gl2 gs2)) d_int rfl) d_int) H2 (Ex.refl H2) _ fun H3 e3 => ?_
    have gl3 := e3 _ _ gl2
    have gs3 := e3 _ _ gs2
    have em3 := em2.trans (ExM.of e3)
    by_cases pos : a' > 0
    · rw [if_pos (decide_eq_true pos)]
      have db := fmod_in (i := a') mpos
      refine q_asgE (d_opI (d_intI (d_ixL (d_var rfl (st_dt gl3 gs3)) d_int rfl)) (d_var rfl (.int _)) (by omega)) fun H4 e4 => ?_
      have gl4 := e4 _ _ gl3
      have gs4 := e4 _ _ gs3
      refine q_stset (j := 1) rfl (d_opI (d_ixL (d_var rfl (st_dt gl4 gs4)) d_int rfl) (d_var rfl (.int _)) ⟨by omega, by omega⟩) gl4 rfl fun H5 e5 => ?_
      refine k_retE (d_var rfl (.int _)) fun H6 e6 => ?_
      refine fin H6 _ ((exm_upd ((em3.trans (ExM.of e4)).trans (ExM.of e5)) (.inl rfl) (by rw [e5 _ _ gl4]; intro z; cases z)).trans (ExM.of e6)) ⟨xs', _, c', e6 _ _ upd_same, e6 _ _ (by rw [upd_ne (Ne.symm ls)]; exact e5 _ _ gs4), ?_, gc, gc2⟩ db.1 db.2
      exact Int.fdiv_nonneg ga (by omega)
    · rw [if_neg (by rw [decide_eq_false pos]; decide)]
      have b6 : b + 1 ≤ 1000000 := by omega
      refine q_asgE (d_opI (d_intI (d_opI (d_add (d_add (d_ixL (d_var rfl (st_dt gl3 gs3)) d_int rfl) (d_opI d_int (d_ixL (d_var rfl (st_dt gl3 gs3)) d_int rfl) (.inl ⟨by decide, by decide⟩))) d_int) d_int ⟨by decide, by decide, by omega⟩)) d_int (by decide)) fun H4 e4 => ?_
      have gl4 := e4 _ _ gl3
      have gs4 := e4 _ _ gs3
      generalize hm : Int.fmod ((c' + 6151 * (b + 1) + 130003) ^ Int.toNat 5) 2147483629 = mx
      have mb : 0 ≤ mx ∧ mx < 2147483629 := by rw [← hm]; exact fmod_in (by decide)
      refine k_retE (d_opI (d_opI (d_intI (d_opI (d_add (d_add (d_opI (d_var rfl (.int _)) d_int (.inr ⟨by decide, by decide⟩)) (d_opI d_int (d_ixL (d_var rfl (st_dt gl4 gs4)) d_int rfl) (.inl ⟨by decide, by decide⟩))) d_int) d_int ⟨by decide, by decide, by omega⟩)) d_int (by decide)) (d_var rfl (.int _)) (by omega)) fun H5 e5 => ?_
      exact fin H5 _ ((em3.trans (ExM.of e4)).trans (ExM.of e5)) ⟨xs', a', c', e5 _ _ gl4, e5 _ _ gs4, ga, gc, gc2⟩ (fmod_in mpos).1 (fmod_in mpos).2
end
end K05
namespace K05
open PySem PySem.Spec PyProof.Rows L2 Evl WB
section
variable {P : Program} {w : World} {K : PySem.W.Frag} {mg : Str → Option Value} {base : Heap}
theorem pa_dr {σ : L2.St} {F : Hp} {te : TE} {m : Nat} (h : EvD te σ F (.int (m : Nat))) (h1 : 1 ≤ m) (h2 : m < 1073741824) : EvPA (tCons te tNil) σ F (ADr m) := fun H1 e _ q =>
  h H1 e _ fun x H2 e2 hx => by
    cases hx.int_
    exact q [.int m] H2 e2 ⟨h1, h2, rfl⟩
theorem mo_dr (m : Nat) : Mo (RDr m) := fun _ _ _ _ h => h
def itemsOf : PyData → List PyData
  | .list ds => ds
  | .tuple ds => ds
  | .str z => letsD z
  | _ => []
abbrev APk : PyData → Hp → List V → Prop := fun x H vs => itemsOf x ≠ [] ∧ (itemsOf x).length ≤ 100000 ∧ ∃ v, vs = [v] ∧ Dt H v x
abbrev RPk : PyData → Hp → V → Prop := fun x H v => ∃ d ∈ itemsOf x, Dt H v d
theorem mo_pk (x : PyData) : Mo (RPk x) := fun _ _ _ e ⟨d, h1, h2⟩ => ⟨d, h1, h2.ex e⟩
theorem d_lenA {σ : L2.St} {F : Hp} {te : TE} {x : PyData} (h : EvD te σ F x) (hn : itemsOf x ≠ []) (hl : (itemsOf x).length ≤ 100000) : EvD (tCB (rLenA K) (tCons te tNil)) σ F (.int ((itemsOf x).length : Nat)) := d_cb (da_cons h da_nil) (cb1 rfl fun H1 v hx Q q => by
  cases hx with
  | lst h2 h3 => exact .inl ⟨_, _, rfl, .inl (SqL.of h2), by rw [h3.len]; exact q⟩
  | tup h2 h3 => exact .inl ⟨_, _, rfl, .inr (SqT.of h2), by rw [h3.len]; exact q⟩
  | str z => exact .inr ⟨z, rfl, by
      have e : (itemsOf (.str z)).length = z.length := by
        show (letsD z).length = _
        unfold letsD
        rw [List.length_map]
        rfl
      rw [e] at hl
      exact sz_of hl, by
      have e : (itemsOf (.str z)).length = z.length := by
        show (letsD z).length = _
        unfold letsD
        rw [List.length_map]
        rfl
      rw [← e]
      exact q⟩
  | _ => exact absurd rfl hn)
theorem cl__law_pick (S : Env P w K mg base) : Cl P w K mg base 2 "_law_pick" ["stream", "some"] (SpM (fun _ => 1) APk RPk) := mk_cl S.fun__law_pick S.glo__law_pick sc__law_pick (fun _ _ _ _ _ _ us hl => match us, hl with | [_, _], _ => rfl) (m_len fun _ _ _ ⟨_, _, _, e, _⟩ => by rw [e]; rfl) fun cdv A outer s H vs Q E hr h => by
  have nd := sc__law_pick.nd
  refine ⟨_, (pss_one (ps_ret (pe_ix (r := rIxA K) ix_any (pv 1) (pe_cl (cl__law_draw S) hr (by decide) pass_none (by rfl) (pa_cons (pv 0) (pa_cons (pe_callB (r := rLenA K) (id := "len") call_len_any (by rfl) S.free_len (by decide +kernel) (pa_cons (pv 1) pa_nil)) pa_nil))) (fun _ _ => rfl)))), ?_⟩
  obtain ⟨F0, x, l, s, n, r, rfl, e0, fl, fs, st, hn, ⟨h1, h2, v, rfl, hv⟩, hQ⟩ := h
  have kn := Kn.startS e0 fl fs st
  have lp : 1 ≤ (itemsOf x).length := List.length_pos_iff.mpr h1
  refine wp_ret (wp_op ⟨v, rfl, wm_call (itemsOf x).length kn st hn rfl (pa_dr (d_lenA (d_var rfl hv) h1 h2) lp (by omega)) (mo_dr _) fun u F1 H1 s1 st1 ⟨d, hd, dl⟩ => ?_⟩)
  subst hd
  have hv1 := hv.ex s1.ff
  have di : (itemsOf x)[d]? = some (itemsOf x)[d] := List.getElem?_eq_getElem dl
  have dm : (itemsOf x)[d] ∈ itemsOf x := List.getElem_mem dl
  generalize (itemsOf x)[d] = dd at di dm
  cases hv1 with
  | lst h3 h4 =>
    obtain ⟨y, hy1, hy2⟩ := h4.get di
    exact .inl ⟨_, _, _, y, rfl, rfl, SqL.of (s1.kn.fh _ _ h3), atI_nat hy1, kM_done hQ (mo_pk _) s1.kn st1 ⟨dd, dm, hy2⟩⟩
  | tup h3 h4 =>
    obtain ⟨y, hy1, hy2⟩ := h4.get di
    exact .inr (.inl ⟨_, _, _, y, rfl, rfl, SqT.of (s1.kn.fh _ _ h3), atI_nat hy1, kM_done hQ (mo_pk _) s1.kn st1 ⟨dd, dm, hy2⟩⟩)
  | str z =>
    have e : (itemsOf (.str z)).length = z.length := by
      show (letsD z).length = _
      unfold letsD
      rw [List.length_map]
      rfl
    obtain ⟨c, hc, rfl⟩ := map_at (show (z.cps.toList.map fun c => PyData.str ⟨#[c]⟩)[d]? = some dd from di)
    exact .inr (.inr ⟨z, _, c, rfl, rfl, by rw [e] at h2; exact sz_of h2, atI_nat hc, kM_done hQ (mo_pk _) s1.kn st1 ⟨_, dm, .str _⟩⟩)
  | _ => exact absurd rfl h1
/-- one letter of z -/
def LetOf (z y : Str) : Prop := ∃ c ∈ z.cps.toList, y = ⟨#[c]⟩
abbrev AMx : Str → Hp → List V → Prop := fun z H vs => z.length ≤ 1000 ∧ vs = [.str z]
abbrev RMx : Str → Hp → V → Prop := fun z H v => ∃ zs : List Str, Dt H v (strsD zs) ∧ zs.length = z.length ∧ ∀ y ∈ zs, LetOf z y
theorem mo_mx (x : Str) : Mo (RMx x) := fun _ _ _ e ⟨d, h1, h2⟩ => ⟨d, h1.ex e, h2⟩
theorem eraseIdx_map_str : ∀ (l : List Str) (j : Nat), (l.map V.str).eraseIdx j = (l.eraseIdx j).map V.str
  | [], j => by simp
  | a :: r, 0 => by simp
  | a :: r, j + 1 => by
    have ih := eraseIdx_map_str r j
    simp [ih]
theorem cl__law_mixed (S : Env P w K mg base) : Cl P w K mg base 2 "_law_mixed" ["stream", "some"] (SpM (fun z : Str => z.length) AMx RMx) := mk_cl S.fun__law_mixed S.glo__law_mixed sc__law_mixed (fun _ _ _ _ _ _ us hl => match us, hl with | [_, _], _ => rfl) (m_len fun _ _ _ ⟨_, e⟩ => by rw [e]; rfl) fun cdv A outer s H vs Q E hr h => by
  have nd := sc__law_mixed.nd
  refine ⟨_, (pss_cons (ps_set (i := 2) nd rfl (by first | exact Or.inl rfl | exact Or.inr rfl) (pe_callTy (r := rListS) (T := "list") (call_list_txt rfl) (by rfl) S.free_list (by decide +kernel) (pa_cons (pv 1) pa_nil)))
    (pss_one (ps_ret (pe_lc (own := [("k", 3)]) rfl nd (pi_range1 rfl S.free_range (pa_cons (pe_callB (r := rLenQ K) (id := "len") call_len_seq (by rfl) S.free_len (by decide +kernel) (pa_cons (pv 2) pa_nil)) pa_nil)) (blkOk_by (N := ["stream", "some", "left", "k"]) (sc := defScope s__law_mixed) (by decide +kernel)) (fun _ _ _ _ _ => (pg_name (i := 3) nd rfl (by first | exact Or.inl rfl | exact Or.inr rfl))) (fun _ _ _ _ _ => pts_nil) (fun _ _ _ _ _ => (pe_bmK (K := K) (r := rPopAt) rfl PySem.F.plainAttrs_list PySem.F.slot_list_pop PySem.F.type_list_pop mt_popAt (pv 2) (pa_cons (pe_cl (cl__law_draw S) hr (by decide) pass_none (by rfl) (pa_cons (pv 0) (pa_cons (pe_callB (r := rLenQ K) (id := "len") call_len_seq (by rfl) S.free_len (by decide +kernel) (pa_cons (pv 2) pa_nil)) pa_nil))) pa_nil))))))), ?_⟩
  obtain ⟨F0, z, l, s, n, r, rfl, e0, fl, fs, st, hn, ⟨h1, rfl⟩, hQ⟩ := h
  have kn := Kn.startS e0 fl fs st
  refine wp_asg ⟨_, rfl, z, rfl, szS (Nat.le_trans h1 (by decide)), fun p hp => ?_⟩
  have Fp : F0 p = none := by
    cases q : F0 p with
    | none => rfl
    | some o => rw [e0 _ _ q] at hp; cases hp
  have kn1 : Kn (Ms l s) F0 H F0 (upd H p (.lst (letsV z))) := kn.upd_ Fp hp
  have st1 : StA l s n (upd H p (.lst (letsV z))) := st.ex (Ex.new hp)
  have hp1 : upd H p (.lst (letsV z)) p = some (.lst (letsV z)) := upd_same
  have zl : (letsV z).length = z.length := by unfold letsV; rw [List.length_map]; rfl
  have hMp : ∀ a, Ms l s a → a ≠ p := fun a m q => st.has a m (by rw [q]; exact hp)
  have emH : ExM (Ms l s) H (upd H p (.lst (letsV z))) := ExM.of (Ex.new hp)
  generalize upd H p (.lst (letsV z)) = H1 at kn1 st1 hp1 emH
  refine wp_ret (wp_lc (wp_rng1 (w_da (da_cons (d_lenL (d_var rfl (dt_own Fp (lets_dt z)))) da_nil) (ex_own kn1 hp1) fun vs H2 e2 hvs => ?_)))
  obtain ⟨x, rfl, hx⟩ := da1_ hvs
  cases hx.int_
  have zl2 : (letsD z).length = z.length := by unfold letsD; rw [List.length_map]; rfl
  have s2 := kn1.step e2
  refine ⟨_, rfl, by omega, by omega, ?_⟩
  rw [zl2]
  refine lc_turns (M2 := fun b => Ms l s b ∨ b = p) (m := z.length) s2.kn (by omega) (fun i acc F' H' => StA l s (n + i) H' ∧ F' p = none ∧ ∃ zs rem : List Str, acc = zs.map V.str ∧ H' p = some (.lst (rem.map V.str)) ∧ rem.length + i = z.length ∧ zs.length = i ∧ (∀ y ∈ zs, LetOf z y) ∧ ∀ y ∈ rem, LetOf z y) ?_ ?_ ?_ ?_ ?_
  · intro a m
    rcases m with m | m
    · exact (st1.ex e2).has a m
    · rw [m, e2 _ _ hp1]; intro z; cases z
  · refine ⟨st1.ex e2, s2.fr _ _ hp1 Fp, [], z.cps.toList.map fun c => ⟨#[c]⟩, rfl, ?_, ?_, rfl, (fun y h => by cases h), fun y h => ?_⟩
    · rw [e2 _ _ hp1, List.map_map]
      rfl
    · rw [List.length_map]; rfl
    · obtain ⟨c, hc, rfl⟩ := List.mem_map.mp h
      exact ⟨c, hc, rfl⟩
  · rintro i acc F' H' H'' ⟨g1, g2, zs, rem, g3, g4, g5⟩ hh
    have st2 := st1.ex e2
    refine ⟨g1.at_ (hh l (st2.has l (.inl rfl))) (hh s (st2.has s (.inr rfl))), g2, zs, rem, g3, ?_, g5⟩
    rw [hh p (by rw [e2 _ _ hp1]; intro z; cases z)]
    exact g4
  · rintro i acc F' H' il al kn' eF em ⟨g1, g2, zs, rem, rfl, g4, g5, g6, g7, g8⟩ Q' hQ'
    have n1 : n + z.length ≤ 1000000 := hn
    refine ⟨.ref p, rfl, Or.inl ⟨rfl, _, sq_of g4⟩, ?_⟩
    have rl : 1 ≤ rem.length := by omega
    refine wm_call1 rem.length kn' g1 (by show n + i + 1 ≤ _; omega) rfl (ex_own kn' g4) ((d_lenL (d_var rfl (dt_own g2 (strs_dt rem)))).is (e := .int (rem.length : Nat)) (by rw [List.length_map])) (fun H v hv F => ⟨rl, by omega, by rw [hv.int_]⟩) (mo_dr _) fun u F3 H3 s3 st3 ⟨d, hd, dl⟩ => ?_
    subst hd
    have ds : rem[d]? = some rem[d] := List.getElem?_eq_getElem dl
    have dm : rem[d] ∈ rem := List.getElem_mem dl
    generalize rem[d] = y at ds dm
    have g4' : H3 p = some (.lst (rem.map V.str)) := s3.hm.k p _ (fun m => hMp p m rfl) g4
    have g2' := s3.fr _ _ g4 g2
    refine ⟨p, rem.map V.str, (d : Nat), d, .str y, rfl, rfl, g4', by omega, by omega, ?_, by rw [List.getElem?_map, ds]; rfl, ?_⟩
    · have z : seqIndex? ((d : Nat) : Int) (rem.map V.str).length = some ((d : Nat) : Int).toNat := seqIndex_of (by omega) (by rw [List.length_map]; omega)
      rw [z]
      rfl
    · have em3 : ExM (fun b => Ms l s b ∨ b = p) H' (upd H3 p (.lst ((rem.map V.str).eraseIdx d))) := ⟨fun a o nm h => by
        rw [upd_ne fun z => nm (.inr z)]
        exact s3.hm.k a o (fun m => nm (.inl m)) h, fun a h => by
        by_cases z : a = p
        · rw [z, upd_same] at h; cases h
        · rw [upd_ne z] at h; exact s3.hm.d a h⟩
      refine hQ' _ F3 _ (s3.kn.upd_ g2' hp) s3.ff em3 s3.fr ⟨?_, g2', zs ++ [y], rem.eraseIdx d, by rw [List.map_append]; rfl, ?_, ?_, by rw [List.length_append, g6]; rfl, fun y' h => ?_, fun y' h => g8 y' (List.mem_of_mem_eraseIdx h)⟩
      · exact st3.at_ (upd_ne (hMp l (.inl rfl))) (upd_ne (hMp s (.inr rfl)))
      · rw [upd_same]
        congr 2
        exact eraseIdx_map_str _ _
      · rw [List.length_eraseIdx, if_pos dl]
        omega
      · rcases List.mem_append.mp h with q | q
        · exact g7 y' q
        · rw [List.mem_singleton.mp q]; exact g8 y dm
  · rintro D acc F' H' kn' eF em frr al ⟨g1, g2, zs, rem, rfl, g4, g5, g6, g7, g8⟩ hD hF hH
    have h0D : H D = none := (emH.trans (ExM.of e2)).d D hH
    exact kM_done hQ (mo_mx _) (kn'.know hF h0D hD) g1 ⟨zs, .lst upd_same (strs_dt zs), g6, g7⟩
end
end K05
namespace K05
open PySem PySem.Spec PyProof.Rows L2 Evl WB
section
variable {P : Program} {w : World} {K : PySem.W.Frag} {mg : Str → Option Value} {base : Heap}
section
variable {l s : Addr} {n : Nat} {F0 H0 F H : Hp} {σ : L2.St} {Q : VK} {E1 E2 : XK} {tm : TE}
theorem pa_pk {te : TE} {x : PyData} (h : EvD te σ F x) (h1 : itemsOf x ≠ []) (h2 : (itemsOf x).length ≤ 100000) : EvPA (tCons te tNil) σ F (APk x) := fun H1 e _ q =>
  h H1 e _ fun v H2 e2 hv => q [v] H2 e2 ⟨h1, h2, v, rfl, hv⟩
theorem pa_mx {te : TE} {z : Str} (h : EvD te σ F (.str z)) (hz : z.length ≤ 1000) : EvPA (tCons te tNil) σ F (AMx z) := fun H1 e _ q =>
  h H1 e _ fun v H2 e2 hv => by
    cases hv.str_
    exact q [.str z] H2 e2 ⟨hz, rfl⟩
/-- [pick(stream, some) for n in range(1 + draw(stream, most))] -/
theorem w_letters {sv : V} {so : List Str} {mo : Nat} (kn : Kn (Ms l s) F0 H0 F H) (st : StA l s n H) (hn : n + 9 ≤ 1000000) (h0 : σ[0]? = some (some (.ref l))) (h1 : σ[1]? = some (some sv)) (hsv : Dt F sv (strsD so)) (s0 : so ≠ []) (sl : so.length ≤ 100) (sL : ∀ y ∈ so, IsL y)
    (hm : EvD tm σ F (.int (mo : Nat))) (m1 : 1 ≤ mo) (m2 : mo ≤ 8)
    (w0 : ∀ x, (((wipe σ [5]).set 5 (some x)) : L2.St)[0]? = some (some (.ref l))) (w1 : ∀ x, (((wipe σ [5]).set 5 (some x)) : L2.St)[1]? = some (some sv)) (hw : ∀ x, wipe ((wipe σ [5]).set 5 (some x)) [5] = wipe σ [5])
    (k : ∀ D zs F1 H1, Kn (Ms l s) F0 H0 F1 H1 → Ex F F1 → ExM (Ms l s) H H1 → (∀ a o, H a = some o → F a = none → F1 a = none) → StA l s (n + 9) H1 → Dt F1 (.ref D) (strsD zs) → (∀ y ∈ zs, IsL y) → 1 ≤ zs.length → zs.length ≤ 8 → Q (.ref D) H1) :
    tLc (iRng1 (tCons (tOp (rI0 fun i j => .int (i + j)) (tC (.int 1)) (tCall (SpM (fun _ => 1) ADr RDr) [] E1 (tCons (tVar 0) (tCons tm tNil)))) tNil)) (gName 5) tYes (tCall (SpM (fun _ => 1) APk RPk) [] E2 (tCons (tVar 0) (tCons (tVar 1) tNil))) [5] σ H Q := by
  refine wp_lc (wp_rng1 (wp_cons (wp_op (wp_c (wm_call mo kn st (by show n + 1 ≤ _; omega) h0 (pa_dr hm m1 (by omega)) (mo_dr _) fun u F1 H1 s1 st1 ⟨d, hd, dl⟩ => ?_)))))
  subst hd
  refine ⟨1, d, rfl, rfl, ?_⟩
  show ∃ j : Int, _
  refine ⟨1 + (d : Int), rfl, by omega, by omega, ?_⟩
  have en : (1 + (d : Int)).toNat = d + 1 := by omega
  rw [en]
  refine lc_turns (M2 := Ms l s) (m := d + 1) s1.kn (by omega) (fun i acc F' H' => StA l s (n + 1 + i) H' ∧ Dt F' sv (strsD so) ∧ ∃ zs : List Str, acc = zs.map V.str ∧ zs.length = i ∧ ∀ y ∈ zs, IsL y) st1.has ⟨st1, hsv.ex s1.ff, [], rfl, rfl, fun y h => by cases h⟩ ?_ ?_ ?_ hw
  · rintro i acc F' H' H'' ⟨g1, g2⟩ hh
    exact ⟨g1.at_ (hh l (st1.has l (.inl rfl))) (hh s (st1.has s (.inr rfl))), g2⟩
  · rintro i acc F' H' il al kn' eF em ⟨g1, g2, zs, rfl, g3, g4⟩ Q' hQ'
    refine wm_call (strsD so) kn' g1 (by show n + 1 + i + 1 ≤ _; omega) (w0 _) (pa_pk (d_var (w1 _) g2) (by show so.map PyData.str ≠ []; simp [s0]) (by show (so.map PyData.str).length ≤ _; rw [List.length_map]; omega)) (mo_pk _) fun v F2 H2 s2 st2 ⟨d', hd', hv⟩ => ?_
    obtain ⟨y, hy, rfl⟩ := List.mem_map.mp (show d' ∈ so.map PyData.str from hd')
    cases hv.str_
    exact hQ' _ F2 H2 s2.kn s2.ff s2.hm s2.fr ⟨st2, g2.ex s2.ff, zs ++ [y], by rw [List.map_append]; rfl, by rw [List.length_append, g3]; rfl, fun y' h => by
      rcases List.mem_append.mp h with q | q
      · exact g4 y' q
      · rw [List.mem_singleton.mp q]; exact sL y hy⟩
  · rintro D acc F' H' kn' eF em frr al ⟨g1, g2, zs, rfl, g3, g4⟩ hD hF hH
    have h0D : H0 D = none := s1.kn.dm D hH
    refine k D zs _ H' (kn'.know hF h0D hD) ((s1.ff.trans eF).trans (ex_know hF)) (s1.hm.trans em) (fun a o ha hf => ?_) (g1.mono (by omega)) (.lst upd_same (strs_dt zs)) g4 (by omega) (by omega)
    have ne : a ≠ D := fun q => by
      have := s1.hm.d D hH
      rw [q, this] at ha
      cases ha
    rw [upd_ne ne]
    cases q : H1 a with
    | none => rw [s1.hm.d a q] at ha; cases ha
    | some o' => exact frr a o' q (s1.fr a o ha hf)
end
def abc : Str := "abcdefghijklmnopqrstuvwxyz"
theorem abc_w : isW abc = true := by decide +kernel
theorem abc_l : abc.length = 26 := by decide +kernel
/-- a rule with short sides; a book of few of them -/
def RuSm (r : Rule) : Prop := RuOk r ∧ r.1.length ≤ 8 ∧ r.2.length ≤ 8
structure BkSm (rs : List Rule) : Prop where
  r : ∀ q ∈ rs, RuSm q
  n : rs.length ≤ 14
theorem BkSm.ok {rs : List Rule} (h : BkSm rs) : BkOk rs := ⟨fun q hq => (h.r q hq).1, by have := h.n; omega⟩
abbrev RBk : Unit → Hp → V → Prop := fun _ H v => ∃ rs : List Rule, Dt H v (rulesD rs) ∧ BkSm rs
theorem mo_bk : Mo (RBk ()) := fun _ _ _ e ⟨d, h1, h2⟩ => ⟨d, h1.ex e, h2⟩
theorem pick7 {d : Nat} (h : d < 7) : ∃ k : Nat, k ≤ 12 ∧ ([.int 0, .int 1, .int 2, .int 2, .int 3, .int 4, .int 12] : List PyData)[d]? = some (.int (k : Nat)) := by
  have z : d = 0 ∨ d = 1 ∨ d = 2 ∨ d = 3 ∨ d = 4 ∨ d = 5 ∨ d = 6 := by omega
  rcases z with rfl | rfl | rfl | rfl | rfl | rfl | rfl
  · exact ⟨0, by omega, rfl⟩
  · exact ⟨1, by omega, rfl⟩
  · exact ⟨2, by omega, rfl⟩
  · exact ⟨2, by omega, rfl⟩
  · exact ⟨3, by omega, rfl⟩
  · exact ⟨4, by omega, rfl⟩
  · exact ⟨12, by omega, rfl⟩
theorem pick4 {d : Nat} (h : d < 4) : ∃ k : Nat, 1 ≤ k ∧ k ≤ 8 ∧ ([.int 2, .int 2, .int 3, .int 8] : List PyData)[d]? = some (.int (k : Nat)) := by
  have z : d = 0 ∨ d = 1 ∨ d = 2 ∨ d = 3 := by omega
  rcases z with rfl | rfl | rfl | rfl
  · exact ⟨2, by omega, by omega, rfl⟩
  · exact ⟨2, by omega, by omega, rfl⟩
  · exact ⟨3, by omega, by omega, rfl⟩
  · exact ⟨8, by omega, by omega, rfl⟩
theorem join_ok {zs : List Str} (h : ∀ y ∈ zs, IsL y) (h1 : 1 ≤ zs.length) (h8 : zs.length ≤ 8) : isW (Txt.join "" zs) = true ∧ (Txt.join "" zs).length ≠ 0 ∧ (Txt.join "" zs).length ≤ 8 := by
  have e : (Txt.join "" zs).length = zs.length := by rw [join_len, sum_ones fun y hy => (h y hy).2]
  exact ⟨join_w fun y hy => (h y hy).1, by omega, by omega⟩
theorem em_at {l s a : Addr} {H H1 : Hp} {o : HO} (e : ExM (Ms l s) H H1) (h : H a = some o) (h1 : a ≠ l) (h2 : a ≠ s) : H1 a = some o := e.k a o (fun m => by
  rcases m with q | q
  · exact h1 q
  · exact h2 q) h
/-- a book that grows in a list of one's own -/
def BkSt (l s q : Addr) (F0 H0 F H : Hp) (n len : Nat) (rs : List Rule) : Prop := Kn (Ms l s) F0 H0 F H ∧ F q = none ∧ H0 q = none ∧ StA l s n H ∧ q ≠ l ∧ q ≠ s ∧ rs.length ≤ len ∧ (∀ r ∈ rs, RuSm r) ∧ ∃ vs, H q = some (.lst vs) ∧ DtAll F vs (rs.map ruleD)
theorem if_draw {l s q : Addr} {n len m i : Nat} {F0 H0 F H : Hp} {σ : L2.St} {E : XK} {tu rest : TS} {D : Ends} {rs : List Rule} (b : BkSt l s q F0 H0 F H n len rs) (h0 : σ[0]? = some (some (.ref l))) (hi : σ[i]? = some (some (.ref q))) (m1 : 1 ≤ m) (m2 : m < 1073741824) (hn : n + 1 ≤ 1000000)
    (htu : ∀ (D' : Ends) (r : Rule) (rr : List Rule) F1 H1, BkSt l s q F0 H0 F1 H1 (n + 1) len (r :: rr) → (∀ F2 H2 rs2, BkSt l s q F0 H0 F2 H2 (n + 1) (len + 1) rs2 → D'.nx σ H2) → tu D' σ H1)
    (hn' : ∀ F2 H2 rs2, BkSt l s q F0 H0 F2 H2 (n + 1) (len + 1) rs2 → rest D σ H2) :
    tSeq (tIfS (tAnd (tTest (tOp (rNeD K) (tVar i) (tLst tNil))) (tTest (tOp rEq (tCall (SpM (fun _ => 1) ADr RDr) [] E (tCons (tVar 0) (tCons (tC (.int (m : Nat))) tNil))) (tC (.int 0))))) tu tNext) rest D σ H := by
  obtain ⟨kn, f, h0q, st, ql, qs, ll, ok, vs, x1, x2⟩ := b
  refine wp_if (wp_and (wp_t (et_test (EvD.evb (d_neD (d1 := rulesD rs) (d2 := .list []) (d_var hi (dt_own f x2)) (d_lst da_nil) (by unfold rulesD plainD; exact rules_plain _) rfl (rules_shaped _ fun q hq => ⟨(ok q hq).1.w1, (ok q hq).1.w2⟩) (ints_shaped [])))) (ex_own kn x1) fun H2 e2 => ?_))
  have s2 := kn.step e2
  have f2 := s2.fr _ _ x1 f
  rw [show PyData.eqv (rulesD rs) (.list []) = decide (rs = []) from eqv_nil ruleD rs]
  cases rs with
  | nil =>
    show rest D σ H2
    exact hn' _ H2 [] ⟨s2.kn, f2, h0q, (st.ex e2).mono (by omega), ql, qs, by simp, ok, vs, e2 _ _ x1, x2.ex s2.ff⟩
  | cons r rr =>
    rw [if_pos (by simp)]
    refine wp_test (wp_op (wm_call m s2.kn (st.ex e2) hn h0 (pa_dr d_int m1 m2) (mo_dr _) fun u F3 H3 s3 st3 ⟨d, hd, dl⟩ => ?_))
    subst hd
    have b3 : BkSt l s q F0 H0 F3 H3 (n + 1) len (r :: rr) := ⟨s3.kn, s3.fr _ _ (e2 _ _ x1) f2, h0q, st3, ql, qs, ll, ok, vs, em_at s3.hm (e2 _ _ x1) ql qs, (x2.ex s2.ff).ex s3.ff⟩
    refine wp_c ⟨rfl, _, rfl, ?_⟩
    by_cases z : V.int (d : Nat) = V.int 0
    · rw [decide_eq_true z]
      exact htu _ r rr F3 H3 b3 hn'
    · rw [decide_eq_false z]
      obtain ⟨c1, c2, c3, c4, c5, c6, c7, c8⟩ := b3
      exact hn' F3 H3 (r :: rr) ⟨c1, c2, c3, c4, c5, c6, by omega, c8⟩
theorem cl__law_a_book (S : Env P w K mg base) : Cl P w K mg base 3 "_law_a_book" ["stream"] (SpM (fun _ => 300) (fun (_ : Unit) _ vs => vs = []) RBk) := mk_cl S.fun__law_a_book S.glo__law_a_book sc__law_a_book (fun _ _ _ _ _ _ us hl => match us, hl with | [_], _ => rfl) (m_len fun _ _ _ e => by rw [e]; rfl) fun cdv A outer s H vs Q E hr h => by
  have nd := sc__law_a_book.nd
  refine ⟨_, (pss_cons (ps_asg (pe_tup (pa_cons (pe_slice (r := rSlL K) sl_list (pe_cl (cl__law_mixed S) hr (by decide) pass_none (by rfl) (pa_cons (pv 0) (pa_cons pe_str pa_nil))) po_none (po_some (pe_op op_add pe_int (pe_cl (cl__law_draw S) hr (by decide) pass_none (by rfl) (pa_cons (pv 0) (pa_cons pe_int pa_nil)))))) (pa_cons (pe_lst pa_nil) pa_nil))) (pg_tupK (K := K) (n := 2) rfl rfl (pgs_cons (pg_name (i := 1) nd rfl (by first | exact Or.inl rfl | exact Or.inr rfl)) (pgs_cons (pg_name (i := 2) nd rfl (by first | exact Or.inl rfl | exact Or.inr rfl)) pgs_nil))))
    (pss_cons (ps_for (passes_of rfl) rfl (pi_range1 rfl S.free_range (pa_cons (pe_ix (r := rIxL K) ix_list (pe_lst (pa_cons pe_int (pa_cons pe_int (pa_cons pe_int (pa_cons pe_int (pa_cons pe_int (pa_cons pe_int (pa_cons pe_int pa_nil)))))))) (pe_cl (cl__law_draw S) hr (by decide) pass_none (by rfl) (pa_cons (pv 0) (pa_cons pe_int pa_nil))) (fun _ _ => rfl)) pa_nil)) (pg_name (i := 3) nd rfl (by first | exact Or.inl rfl | exact Or.inr rfl))
    (pss_cons (ps_set (i := 4) nd rfl (by first | exact Or.inl rfl | exact Or.inr rfl) (pe_ix (r := rIxL K) ix_list (pe_lst (pa_cons pe_int (pa_cons pe_int (pa_cons pe_int (pa_cons pe_int pa_nil))))) (pe_cl (cl__law_draw S) hr (by decide) pass_none (by rfl) (pa_cons (pv 0) (pa_cons pe_int pa_nil))) (fun _ _ => rfl)))
    (pss_cons (ps_setLc (i := 6) (own := [("n", 5)]) rfl nd rfl rfl (sw_true rfl rfl rfl (by decide +kernel)) (pi_range1 rfl S.free_range (pa_cons (pe_op op_add pe_int (pe_cl (cl__law_draw S) hr (by decide) pass_none (by rfl) (pa_cons (pv 0) (pa_cons (pv 4) pa_nil)))) pa_nil)) (blkOk_by (N := ["stream", "some", "found", "k", "most", "n", "left", "right"]) (sc := defScope s__law_a_book) (by decide +kernel)) (fun _ _ _ _ _ => (pg_name (i := 5) nd rfl (by first | exact Or.inl rfl | exact Or.inr rfl))) (fun _ _ _ _ _ => pts_nil) (fun _ _ _ _ _ => (pe_cl (cl__law_pick S) hr (by decide) pass_none (by rfl) (pa_cons (pv 0) (pa_cons (pv 1) pa_nil)))))
    (pss_cons (ps_setLc (i := 7) (own := [("n", 5)]) rfl nd rfl rfl (sw_true rfl rfl rfl (by decide +kernel)) (pi_range1 rfl S.free_range (pa_cons (pe_op op_add pe_int (pe_cl (cl__law_draw S) hr (by decide) pass_none (by rfl) (pa_cons (pv 0) (pa_cons (pv 4) pa_nil)))) pa_nil)) (blkOk_by (N := ["stream", "some", "found", "k", "most", "n", "left", "right"]) (sc := defScope s__law_a_book) (by decide +kernel)) (fun _ _ _ _ _ => (pg_name (i := 5) nd rfl (by first | exact Or.inl rfl | exact Or.inr rfl))) (fun _ _ _ _ _ => pts_nil) (fun _ _ _ _ _ => (pe_cl (cl__law_pick S) hr (by decide) pass_none (by rfl) (pa_cons (pv 0) (pa_cons (pv 1) pa_nil)))))
    (pss_one (ps_expr (pe_bmK (K := K) (r := rAppend) rfl PySem.F.plainAttrs_list PySem.F.slot_list_append PySem.F.type_list_append mt_append (pv 2) (pa_cons (pe_tup (pa_cons (pe_bmK (K := K) (r := rJoinQ K) rfl PySem.F.plainAttrs_str PySem.F.slot_str_join PySem.F.type_str_join mt_join pe_str (pa_cons (pv 6) pa_nil)) (pa_cons (pe_bmK (K := K) (r := rJoinQ K) rfl PySem.F.plainAttrs_str PySem.F.slot_str_join PySem.F.type_str_join mt_join pe_str (pa_cons (pv 7) pa_nil)) pa_nil))) pa_nil))))))))
    (pss_cons (ps_if (PW.pt (pw_and (pt_cmpR (r := rNeD K) (op_neD hr.units) (pv 2) (pe_lst pa_nil) (nomark _)) (pw_and1 (pt_cmpR op_eq (pe_cl (cl__law_draw S) hr (by decide) pass_none (by rfl) (pa_cons (pv 0) (pa_cons pe_int pa_nil))) pe_int (nomark _))))) (pss_one (ps_expr (pe_bmK (K := K) (r := rAppend) rfl PySem.F.plainAttrs_list PySem.F.slot_list_append PySem.F.type_list_append mt_append (pv 2) (pa_cons (pe_ix (r := rIxL K) ix_list (pv 2) pe_int (fun _ _ => rfl)) pa_nil)))) pss_nil)
    (pss_cons (ps_if (PW.pt (pw_and (pt_cmpR (r := rNeD K) (op_neD hr.units) (pv 2) (pe_lst pa_nil) (nomark _)) (pw_and1 (pt_cmpR op_eq (pe_cl (cl__law_draw S) hr (by decide) pass_none (by rfl) (pa_cons (pv 0) (pa_cons pe_int pa_nil))) pe_int (nomark _))))) (pss_one (ps_expr (pe_bmK (K := K) (r := rAppend) rfl PySem.F.plainAttrs_list PySem.F.slot_list_append PySem.F.type_list_append mt_append (pv 2) (pa_cons (pe_tup (pa_cons (pe_ix (r := rIxT K) ix_tup (pe_ix (r := rIxL K) ix_list (pv 2) pe_int (fun _ _ => rfl)) pe_int (fun _ _ => rfl)) (pa_cons (pe_ix (r := rIxT K) ix_tup (pe_ix (r := rIxL K) ix_list (pv 2) pe_int (fun _ _ => rfl)) pe_int (fun _ _ => rfl)) pa_nil))) pa_nil)))) pss_nil)
    (pss_one (ps_ret (pv 2))))))), ?_⟩
  obtain ⟨F0, ⟨⟩, l, s, n, r, rfl, e0, fl, fs, st, hn, rfl, hQ⟩ := h
  have hn : n + 300 ≤ 1000000 := hn
  have kn := Kn.startS e0 fl fs st
  refine wp_asgG (wp_tup (wp_cons (wp_sl ?_)))
  refine wm_call abc kn st (by show n + abc.length ≤ _; rw [abc_l]; omega) rfl (pa_mx (z := abc) d_str (by rw [abc_l]; omega)) (mo_mx _) fun v1 F1 H1 s1 st1 ⟨zs, hzs, zl, zL⟩ => ?_
  refine wp_nopart ?_
  refine wp_part (wp_op (wp_c (wm_call 3 s1.kn st1 (by show n + abc.length + 1 ≤ _; rw [abc_l]; omega) rfl (pa_dr d_int (by omega) (by omega)) (mo_dr _) fun u F2 H2 s2 st2 ⟨d, hd, dl⟩ => ?_)))
  subst hd
  rw [abc_l] at st2 zl
  have hzs2 := hzs.ex s2.ff
  obtain ⟨a1, xs1, rfl, ha1, hxs1⟩ := hzs2.list_
  have ex1 := hxs1.strs_
  subst ex1
  refine ⟨1, (d : Nat), rfl, rfl, _, rfl, a1, _, rfl, SqL.of (s2.kn.fh _ _ ha1), fun p hp => ⟨by show (0 : Nat) ≤ _; exact Nat.zero_le _, fun q hq => ⟨by show 2 ≤ _; decide, fun pt hpt => ?_⟩⟩⟩
  have cv : cutV (zs.map V.str) none (some (1 + (d : Nat) : Int)) = (zs.take (d + 1)).map V.str := by
    unfold cutV
    rw [show (1 + (d : Nat) : Int) = ((d + 1 : Nat) : Int) by omega, HT.sIx_nat, HT.sIx_none, List.drop_zero, Nat.sub_zero, List.length_map, Nat.min_eq_left (by omega), List.map_take]
  rw [cv] at hq hpt ⊢
  refine g_two ?_
  have soL : ∀ y ∈ zs.take (d + 1), IsL y := fun y hy => lets_l abc_w (zL y (List.mem_of_mem_take hy))
  have sol : (zs.take (d + 1)).length = d + 1 := by rw [List.length_take]; omega
  generalize zs.take (d + 1) = so at hq hpt soL sol
  have so0 : so ≠ [] := fun z => by rw [z] at sol; simp at sol
  have k3 := kn_new (o := .lst (so.map V.str)) s2.kn hp
  have hsv : Dt (upd F2 p (.lst (so.map V.str))) (.ref p) (strsD so) := .lst upd_same (strs_dt so)
  obtain ⟨k4', Fq⟩ := kn_own (o := .lst []) k3 hq
  have k4 := (kn_own (o := .tup [.ref p, .ref q]) k4' hpt).1
  have st4 : StA l s (n + 28) (upd (upd (upd H2 p (.lst (so.map V.str))) q (.lst [])) pt (.tup [.ref p, .ref q])) := (((st2.ex (Ex.new hp)).ex (Ex.new hq)).ex (Ex.new hpt)).mono (by omega)
  have q4 : upd (upd (upd H2 p (.lst (so.map V.str))) q (.lst [])) pt (.tup [.ref p, .ref q]) q = some (.lst []) := Ex.new hpt _ _ upd_same
  have h0q : H q = none := k3.dm q hq
  generalize upd (upd (upd H2 p (.lst (so.map V.str))) q (.lst [])) pt (.tup [.ref p, .ref q]) = H4 at k4 st4 q4
  generalize upd F2 p (.lst (so.map V.str)) = F4 at k4 hsv Fq
  have ql : q ≠ l := fun z => by rw [z] at h0q; exact st.has l (.inl rfl) h0q
  have qs : q ≠ s := fun z => by rw [z] at h0q; exact st.has s (.inr rfl) h0q
  show tSeq _ _ _ _ _
  refine wp_for (wp_rng1 (wp_cons (wp_op (w_d (d := .list [.int 0, .int 1, .int 2, .int 2, .int 3, .int 4, .int 12]) (d_lst (da_cons d_int (da_cons d_int (da_cons d_int (da_cons d_int (da_cons d_int (da_cons d_int (da_cons d_int da_nil)))))))) k4.fh fun v5 H5 e5 hv5 => ?_))))
  have s5 := k4.step e5
  refine wm_call 7 s5.kn (st4.ex e5) (by show n + 28 + 1 ≤ _; omega) rfl (pa_dr d_int (by omega) (by omega)) (mo_dr _) fun u F6 H6 s6 st6 ⟨d7, hd7, dl7⟩ => ?_
  subst hd7
  obtain ⟨kk, kk12, hkk⟩ := pick7 dl7
  obtain ⟨a5, xs5, rfl, ha5, hxs5⟩ := (hv5.ex s6.ff).list_
  obtain ⟨y5, hy5, hyd⟩ := hxs5.get hkk
  cases hyd.int_
  refine ⟨a5, xs5, _, _, rfl, rfl, SqL.of (s6.kn.fh _ _ ha5), atI_nat hy5, _, rfl, by omega, by omega, ?_⟩
  have ek : ((kk : Nat) : Int).toNat = kk := by omega
  rw [ek]
  refine for_turnsQ (m := kk) s6.kn (fun i σ' F' H' => (∃ y3 y4 y5 y6 y7, σ' = [some (.ref l), some (.ref p), some (.ref q), y3, y4, y5, y6, y7]) ∧ Dt F' (.ref p) (strsD so) ∧ F' q = none ∧ StA l s (n + 29 + 19 * i) H' ∧ ∃ (vs : List V) (rs : List Rule), H' q = some (.lst vs) ∧ DtAll F' vs (rs.map ruleD) ∧ rs.length = i ∧ ∀ r ∈ rs, RuSm r) ?_ ?_ ?_
  · refine ⟨⟨none, none, none, none, none, rfl⟩, hsv.ex (s5.ff.trans s6.ff), s6.fr _ _ (e5 _ _ q4) (s5.fr _ _ q4 Fq), st6, [], [], em_at s6.hm (e5 _ _ q4) ql qs, .nil, rfl, fun r h => by cases h⟩
  · rintro i σ' F' H' il kn' eF ⟨⟨y3, y4, y5, y6, y7, rfl⟩, g1, g2, g3, vs, rs, g4, g5, g6, g7⟩ N hN
    refine wp_asg (wp_op (w_d (d := .list [.int 2, .int 2, .int 3, .int 8]) (d_lst (da_cons d_int (da_cons d_int (da_cons d_int (da_cons d_int da_nil))))) kn'.fh fun v7 H7 e7 hv7 => ?_))
    have s7 := kn'.step e7
    refine wm_call 4 s7.kn (g3.ex e7) (by show n + 29 + 19 * i + 1 ≤ _; omega) rfl (pa_dr d_int (by omega) (by omega)) (mo_dr _) fun u F8 H8 s8 st8 ⟨d8, hd8, dl8⟩ => ?_
    subst hd8
    obtain ⟨mo, mo1, mo8, hmo⟩ := pick4 dl8
    obtain ⟨a7, xs7, rfl, ha7, hxs7⟩ := (hv7.ex s8.ff).list_
    obtain ⟨y8, hy8, hyd8⟩ := hxs7.get hmo
    cases hyd8.int_
    refine ⟨a7, xs7, _, _, rfl, rfl, SqL.of (s8.kn.fh _ _ ha7), atI_nat hy8, ?_⟩
    have t8 := s7.toStp.trans s8
    refine wp_asg (w_letters (mo := mo) s8.kn st8 (by omega) rfl rfl (g1.ex t8.ff) so0 (by omega) soL (d_var rfl (.int _)) mo1 mo8 (fun _ => rfl) (fun _ => rfl) (fun _ => rfl) fun D9 z9 F9 H9 k9 e9 m9 fr9 st9 hz9 zL9 z91 z98 => ?_)
    refine wp_asg (w_letters (mo := mo) k9 st9 (by omega) rfl rfl ((g1.ex t8.ff).ex e9) so0 (by omega) soL (d_var rfl (.int _)) mo1 mo8 (fun _ => rfl) (fun _ => rfl) (fun _ => rfl) fun D10 z10 F10 H10 k10 e10 m10 fr10 st10 hz10 zL10 z101 z108 => ?_)
    have hq8 : H8 q = some (.lst vs) := em_at s8.hm (e7 _ _ g4) ql qs
    have hq9 : H9 q = some (.lst vs) := em_at m9 hq8 ql qs
    have hq10 : H10 q = some (.lst vs) := em_at m10 hq9 ql qs
    have fq8 : F8 q = none := t8.fr _ _ g4 g2
    have fq10 : F10 q = none := fr10 _ _ hq9 (fr9 _ _ hq8 fq8)
    have vl : vs.length = i := by rw [g5.len, List.length_map, g6]
    have hz9' := hz9.ex e10
    have j9 := join_ok zL9 z91 z98
    have j10 := join_ok zL10 z101 z108
    refine k_app k10 hq10 fq10 h0q (ev_var rfl) (d := ruleD (Txt.join "" z9, Txt.join "" z10)) (d_tup (da_cons (d_joinL d_str (d_var rfl hz9') ?_) (da_cons (d_joinL d_str (d_var rfl hz10) ?_) da_nil))) (by omega) fun v11 F11 H11 k11 e11 fn11 hv11 hl11 o11 fr11 => ?_
    · rw [sum_ones fun y hy => (zL9 y hy).2]
      show z9.length + z9.length * 0 ≤ _
      omega
    · rw [sum_ones fun y hy => (zL10 y hy).2]
      show z10.length + z10.length * 0 ≤ _
      omega
    · have fa : Ex F' F11 := ((t8.ff.trans e9).trans e10).trans e11
      refine hN _ F11 H11 k11 fa ⟨⟨_, _, _, _, _, rfl⟩, g1.ex fa, fn11, ?_, vs ++ [v11], rs ++ [(Txt.join "" z9, Txt.join "" z10)], hl11, ?_, by rw [List.length_append, g6]; rfl, fun r hr => ?_⟩
      · exact (st10.keep ql qs o11).mono (by omega)
      · rw [List.map_append]
        exact (g5.ex fa).snoc hv11
      · rcases List.mem_append.mp hr with z | z
        · exact g7 r z
        · rw [List.mem_singleton.mp z]
          exact ⟨⟨j9.1, j10.1, j9.2.1, j10.2.1, Nat.le_trans j9.2.2 (by decide), Nat.le_trans j10.2.2 (by decide)⟩, j9.2.2, j10.2.2⟩
  · rintro σ' F' H' kn' eF ⟨⟨y3, y4, y5, y6, y7, rfl⟩, g1, g2, g3, vs, rs, g4, g5, g6, g7⟩
    have b0 : BkSt l s q F0 H F' H' (n + 260) 12 rs := ⟨kn', g2, h0q, g3.mono (by omega), ql, qs, by omega, g7, vs, g4, g5⟩
    refine if_draw (m := 4) b0 rfl rfl (by omega) (by omega) (by omega) (fun D' r rr F1 H1 b1 nx => ?_) fun F1 H1 rs1 b1 => ?_
    · obtain ⟨kn1, f1, _, t1, _, _, l1, o1, vs1, x1, x2⟩ := b1
      obtain ⟨v, vv, rfl, xv1, xv2⟩ := x2.cons_
      have vl := xv2.len
      rw [List.length_map] at vl
      simp only [List.length_cons] at l1
      exact k_appV kn1 x1 f1 h0q (ev_var rfl) (ev_op (ev_var rfl) ev_c (rv_ixL (SqL.of x1) (atI_nat (xs := v :: vv) (j := 0) rfl))) (by simp only [List.length_cons]; omega) fun F2 H2 k2 e2 fn2 hl2 o2 fr2 => nx F2 H2 (r :: rr ++ [r]) ⟨k2, fn2, h0q, t1.keep ql qs o2, ql, qs, by simp only [List.length_append, List.length_cons, List.length_nil]; omega, fun y hy => o1 y (by
        rcases List.mem_append.mp hy with z | z
        · exact z
        · rw [List.mem_singleton.mp z]; exact List.mem_cons_self ..), _, hl2, by
        rw [List.map_append]
        exact DtAll.snoc (.cons (xv1.ex e2) (xv2.ex e2)) (xv1.ex e2)⟩
    refine if_draw (m := 5) b1 rfl rfl (by omega) (by omega) (by omega) (fun D' r rr F2 H2 b2 nx => ?_) fun F2 H2 rs2 b2 => ?_
    · obtain ⟨kn1, f1, _, t1, _, _, l1, o1, vs1, x1, x2⟩ := b2
      have x2' := x2
      obtain ⟨v, vv, rfl, xv1, xv2⟩ := x2.cons_
      have vl := xv2.len
      rw [List.length_map] at vl
      simp only [List.length_cons] at l1
      have rv : EvD _ _ _ (.str r.2) := d_ru1 (K := K) (d_ixL (K := K) (d_var (σ := [some (.ref l), some (.ref p), some (.ref q), y3, y4, y5, y6, y7]) (i := 2) rfl (dt_own f1 x2')) (d_int (i := 0)) (atI_nat (xs := (r :: rr).map ruleD) (j := 0) rfl))
      refine k_appG kn1 x1 f1 h0q (ev_var rfl) (ex_own kn1 x1) (d_tupS rv rv rfl rfl) (by simp only [List.length_cons]; omega) fun v2 F2 H2 k2 e2 fn2 hv2 hl2 o2 fr2 => nx F2 H2 (r :: rr ++ [(r.2, r.2)]) ⟨k2, fn2, h0q, t1.keep ql qs o2, ql, qs, by simp only [List.length_append, List.length_cons, List.length_nil]; omega, fun y hy => ?_, _, hl2, by
        rw [List.map_append]
        exact DtAll.snoc (.cons (xv1.ex e2) (xv2.ex e2)) hv2⟩
      rcases List.mem_append.mp hy with z | z
      · exact o1 y z
      · rw [List.mem_singleton.mp z]
        have ro := o1 r (List.mem_cons_self ..)
        exact ⟨⟨ro.1.w2, ro.1.w2, ro.1.n2, ro.1.n2, ro.1.l2, ro.1.l2⟩, ro.2.2, ro.2.2⟩
    · obtain ⟨kn1, f1, _, t1, _, _, l1, o1, vs1, x1, x2⟩ := b2
      refine wp_ret ⟨.ref q, rfl, kM_done hQ mo_bk (kn1.know f1 h0q x1) (t1.mono (by show n + 260 + 1 + 1 ≤ n + 300; omega)) ⟨rs2, .lst upd_same (x2.ex (ex_know f1)), ⟨o1, by omega⟩⟩⟩
end
end K05
namespace K05
open PySem PySem.Spec PyProof.Rows L2 Evl WB
section
variable {P : Program} {w : World} {K : PySem.W.Frag} {mg : Str → Option Value} {base : Heap}
/-- rules, how many, how long -/
abbrev AWd : (List Rule × Nat × Nat) → Hp → List V → Prop := fun x H vs => BkSm x.1 ∧ x.2.1 ≤ 100 ∧ x.2.2 ≤ 1000 ∧ ∃ v, vs = [v, .int (x.2.1 : Nat), .int (x.2.2 : Nat)] ∧ Dt H v (rulesD x.1)
abbrev RWd : (List Rule × Nat × Nat) → Hp → V → Prop := fun x _ v => ∃ z : Str, v = .str z ∧ isW z = true ∧ z.length ≤ x.2.2
theorem mo_wd (x : List Rule × Nat × Nat) : Mo (RWd x) := fun _ _ _ _ h => h
theorem sides_sum : ∀ rs : List Rule, (∀ r ∈ rs, RuSm r) → ((rs.map fun r => (r.1 ++ r.2 : Str)).map (·.length)).sum ≤ 16 * rs.length
  | [], _ => by simp
  | r :: rs, h => by
    have h1 := sides_sum rs fun q hq => h q (List.mem_cons_of_mem _ hq)
    have h2 := h r (List.mem_cons_self ..)
    have e := app_len r.1 r.2
    have l1 := h2.2.1
    have l2 := h2.2.2
    simp only [List.map_cons, List.sum_cons, List.length_cons]
    rw [e]
    omega
theorem lets_isL {z : Str} (hz : isW z = true) {d : PyData} (h : d ∈ letsD z) : ∃ y, d = .str y ∧ IsL y := by
  unfold letsD at h
  obtain ⟨c, hc, rfl⟩ := List.mem_map.mp h
  exact ⟨_, rfl, lets_l hz ⟨c, hc, rfl⟩⟩
theorem lets_len (z : Str) : (letsD z).length = z.length := by unfold letsD; rw [List.length_map]; rfl
theorem wp_asg' {σ : L2.St} {H : Hp} {te : TE} {D : Ends} {i : Nat} (h : te σ H fun v H1 => D.nx (σ.set i (some v)) H1) : tAsg te (gName i) D σ H := h
theorem w_add {l s : Addr} {n : Nat} {F0 H0 F H : Hp} {σ : L2.St} {E : XK} {te : TE} {D : Ends} {x : PyData} {z : Str} (kn : Kn (Ms l s) F0 H0 F H) (st : StA l s n H) (hn : n + 1 ≤ 1000000) (h0 : σ[0]? = some (some (.ref l))) (h7 : σ[7]? = some (some (.str z))) (hx : EvD te σ F x) (i0 : itemsOf x ≠ []) (il : (itemsOf x).length ≤ 100000) (zl : z.length ≤ 1000)
    (hi : ∀ d ∈ itemsOf x, ∃ y, d = .str y ∧ isW y = true ∧ y.length ≤ 8) (k : ∀ (y : Str) F1 H1, Stp (Ms l s) F0 H0 F H F1 H1 → StA l s (n + 1) H1 → (isW y = true ∧ y.length ≤ 8) → D.nx (σ.set 7 (some (.str (z ++ y)))) H1) :
    tAsg (tOp (fun x y H Q => ∃ i j, x = .str i ∧ y = .str j ∧ i.length + j.length ≤ sizeLine ∧ Q (.str (i ++ j)) H) (tVar 7) (tCall (SpM (fun _ => 1) APk RPk) [] E (tCons (tVar 0) (tCons te tNil)))) (gName 7) D σ H := by
  refine wp_asg' (wp_op ⟨_, h7, wm_call x kn st hn h0 (pa_pk hx i0 il) (mo_pk _) fun v F1 H1 s1 st1 ⟨d, hd, hv⟩ => ?_⟩)
  obtain ⟨y, rfl, yw, yl⟩ := hi d hd
  cases hv.str_
  exact ⟨z, y, rfl, rfl, sz_of (by omega), k y F1 H1 s1 st1 ⟨yw, yl⟩⟩
theorem cl__law_a_word (S : Env P w K mg base) : Cl P w K mg base 3 "_law_a_word" ["stream", "rules", "many", "most"] (SpM (fun _ => 400) AWd RWd) := mk_cl S.fun__law_a_word S.glo__law_a_word sc__law_a_word (fun _ _ _ _ _ _ us hl => match us, hl with | [_, _, _, _], _ => rfl) (m_len fun _ _ _ ⟨_, _, _, _, e, _⟩ => by rw [e]; rfl) fun cdv A outer s H vs Q E hr h => by
  have nd := sc__law_a_word.nd
  refine ⟨_, (pss_cons (ps_par (i := 6) (j := 7) (by rfl) nd rfl rfl (by decide) rfl rfl (pa_cons (pe_op op_add_str pe_str (pe_bmK (K := K) (r := rJoinQ K) rfl PySem.F.plainAttrs_str PySem.F.slot_str_join PySem.F.type_str_join mt_join pe_str (pa_cons (pe_lc (own := [("left", 4), ("right", 5)]) rfl nd (pi_listK (K := K) rfl (pv 1)) (blkOk_by (N := ["stream", "rules", "many", "most", "left", "right", "some", "found", "k"]) (sc := defScope s__law_a_word) (by decide +kernel)) (fun _ _ _ _ _ => (pg_tupK (K := K) (n := 2) rfl rfl (pgs_cons (pg_name (i := 4) nd rfl (by first | exact Or.inl rfl | exact Or.inr rfl)) (pgs_cons (pg_name (i := 5) nd rfl (by first | exact Or.inl rfl | exact Or.inr rfl)) pgs_nil)))) (fun _ _ _ _ _ => pts_nil) (fun _ _ _ _ _ => (pe_op op_add_str (pv 4) (pv 5)))) pa_nil))) (pa_cons pe_str pa_nil)) (by rfl))
    (pss_cons (ps_for (passes_of rfl) rfl (pi_range1 rfl S.free_range (pa_cons (pe_cl (cl__law_draw S) hr (by decide) pass_none (by rfl) (pa_cons (pv 0) (pa_cons (pe_op op_add (pv 2) pe_int) pa_nil))) pa_nil)) (pg_name (i := 8) nd rfl (by first | exact Or.inl rfl | exact Or.inr rfl))
    (pss_one (ps_if (PW.pt (pw_or (pt_cmpR (r := rEqD K) (op_eqD hr.units) (pv 1) (pe_lst pa_nil) (nomark _)) (pw_or1 (pt_cmpR op_eq (pe_cl (cl__law_draw S) hr (by decide) pass_none (by rfl) (pa_cons (pv 0) (pa_cons pe_int pa_nil))) pe_int (nomark _))))) (pss_one (ps_set (i := 7) nd rfl (by first | exact Or.inl rfl | exact Or.inr rfl) (pe_op op_add_str (pv 7) (pe_cl (cl__law_pick S) hr (by decide) pass_none (by rfl) (pa_cons (pv 0) (pa_cons (pv 6) pa_nil)))))) (pss_one (ps_set (i := 7) nd rfl (by first | exact Or.inl rfl | exact Or.inr rfl) (pe_op op_add_str (pv 7) (pe_cl (cl__law_pick S) hr (by decide) pass_none (by rfl) (pa_cons (pv 0) (pa_cons (pe_cl (cl__law_pick S) hr (by decide) pass_none (by rfl) (pa_cons (pv 0) (pa_cons (pv 1) pa_nil))) pa_nil)))))))))
    (pss_one (ps_ret (pe_slice (r := rSlS) sl_str (pv 7) po_none (po_some (pv 3))))))), ?_⟩
  obtain ⟨F0, ⟨rs, many, most⟩, l, s, n, r, rfl, e0, fl, fs, st, hn, ⟨ok, hm1, hm2, v, rfl, hv⟩, hQ⟩ := h
  have hn : n + 400 ≤ 1000000 := hn
  have hm1 : many ≤ 100 := hm1
  have hm2 : most ≤ 1000 := hm2
  have ok : BkSm rs := ok
  replace hv : Dt F0 v (rulesD rs) := hv
  have kn := Kn.startS e0 fl fs st
  have hss := sides_sum rs ok.r
  have jl : (Txt.join "" (rs.map fun r => (r.1 ++ r.2 : Str))).length ≤ 16 * rs.length := by rw [join_len]; exact hss
  have jw : isW (Txt.join "" (rs.map fun r => (r.1 ++ r.2 : Str))) = true := join_w fun y hy => by
    obtain ⟨q, hq, rfl⟩ := List.mem_map.mp hy
    exact isW_app (ok.r q hq).1.w1 (ok.r q hq).1.w2
  have nr := ok.n
  have abzl : ("abz" : Str).length = 3 := by decide +kernel
  refine q_par (d1 := .str ("abz" ++ Txt.join "" (rs.map fun r => (r.1 ++ r.2 : Str)))) (d2 := .str "") kn (d_cat d_str (d_joinL d_str (d_lcm (rs := (rs.map fun r => (r.1 ++ r.2 : Str)).map .str) (wk_list (d_var rfl hv)) (by rw [List.length_map]; omega) (by simp) fun i d r x F' H' hi hr e1 e2 hd Q hQ' => ?_) (by
    rw [List.length_map]
    show _ + rs.length * 0 ≤ _
    omega)) (by rw [abzl]; exact sz_of (by omega))) d_str fun x1 x2 F1 H1 s1 hx1 hx2 => ?_
  · obtain ⟨q, hq, rfl⟩ := map_at hi
    rw [List.map_map] at hr
    obtain ⟨q', hq', rfl⟩ := map_at hr
    rw [hq] at hq'
    cases hq'
    have qs := ok.r q (List.mem_of_getElem? hq)
    refine gt2 hd e2 fun y z hy hz => hQ' _ rfl (d_cat (d_var rfl hy) (d_var rfl hz) (sz_of (by have := qs.2.1; have := qs.2.2; omega)))
  cases hx1.str_
  cases hx2.str_
  have sw : isW ("abz" ++ Txt.join "" (rs.map fun r => (r.1 ++ r.2 : Str))) = true := isW_app (by decide +kernel) jw
  have sl : ("abz" ++ Txt.join "" (rs.map fun r => (r.1 ++ r.2 : Str))).length ≤ 300 := by rw [app_len, abzl]; omega
  have sl0 : ("abz" ++ Txt.join "" (rs.map fun r => (r.1 ++ r.2 : Str))).length ≠ 0 := by rw [app_len, abzl]; omega
  generalize ("abz" ++ Txt.join "" (rs.map fun r => (r.1 ++ r.2 : Str))) = so at sw sl sl0
  have st1 := st.ex s1.ex
  have hv1 := hv.ex s1.ff
  refine wp_for (wp_rng1 (wp_cons ?_))
  refine wm_call (many + 1) s1.kn st1 (by show n + 1 ≤ _; omega) rfl (pa_dr ((d_add (d_var rfl (.int _)) d_int).is (by congr 1)) (by omega) (by omega)) (mo_dr _) fun u F2 H2 s2 st2 ⟨d, hd, dl⟩ => ?_
  subst hd
  refine ⟨_, rfl, by omega, by omega, ?_⟩
  have ek : ((d : Nat) : Int).toNat = d := by omega
  rw [ek]
  refine for_turnsQ (m := d) s2.kn (fun i σ' F' H' => (∃ (z : Str) (y4 y5 y8 : Option V), σ' = [some (.ref l), some v, some (.int (many : Nat)), some (.int (most : Nat)), y4, y5, some (.str so), some (.str z), y8] ∧ isW z = true ∧ z.length ≤ 8 * i) ∧ Dt F' v (rulesD rs) ∧ StA l s (n + 1 + 3 * i) H') ?_ ?_ ?_
  · exact ⟨⟨"", none, none, none, rfl, isW_nil, Nat.zero_le _⟩, hv1.ex s2.ff, st2⟩
  · rintro i σ' F' H' il kn' eF ⟨⟨z, y4, y5, y8, rfl, zw, zl⟩, g1, g2⟩ N hN
    refine wp_ifE (wp_or (wp_t (et_test (EvD.evb (d_eqD (d1 := rulesD rs) (d2 := .list []) (d_var rfl g1) (d_lst da_nil) (by unfold rulesD plainD; exact rules_plain _) rfl (rules_shaped _ fun q hq => ⟨(ok.r q hq).1.w1, (ok.r q hq).1.w2⟩) (ints_shaped [])))) kn'.fh fun H3 e3 => ?_))
    have s3 := kn'.step e3
    rw [show PyData.eqv (rulesD rs) (.list []) = decide (rs = []) from eqv_nil ruleD rs]
    have zl' : z.length ≤ 800 := by omega
    have fin : ∀ (y : Str) F5 H5, Kn (Ms l s) F0 H F5 H5 → Ex F' F5 → StA l s (n + 1 + 3 * (i + 1)) H5 → isW y = true → y.length ≤ 8 → N [some (.ref l), some v, some (.int (many : Nat)), some (.int (most : Nat)), y4, y5, some (.str so), some (.str (z ++ y)), some (.int (0 + (i : Nat)))] H5 := fun y F5 H5 k5 e5 st5 yw yl => hN _ F5 H5 k5 e5 ⟨⟨z ++ y, y4, y5, _, rfl, isW_app zw yw, by rw [app_len]; omega⟩, g1.ex e5, st5⟩
    by_cases h0 : rs = []
    · rw [decide_eq_true h0, if_pos rfl, if_pos rfl]
      refine w_add (x := .str so) s3.kn (g2.ex e3) (by omega) rfl rfl (d_var rfl (.str _)) (by intro z; have := congrArg List.length z; rw [show itemsOf (.str so) = letsD so from rfl, lets_len] at this; exact sl0 this) (by rw [show itemsOf (.str so) = letsD so from rfl, lets_len]; omega) (by omega) (fun d hd => ?_) fun y F5 H5 s5 st5 hy => ?_
      · obtain ⟨y, rfl, hy⟩ := lets_isL sw hd
        exact ⟨y, rfl, hy.1, by rw [hy.2]; omega⟩
      · exact fin y F5 H5 s5.kn (s3.ff.trans s5.ff) (st5.mono (by omega)) hy.1 hy.2
    · rw [decide_eq_false h0, if_neg (by decide)]
      refine wp_test (wp_op (wm_call 3 s3.kn (g2.ex e3) (by show _ + 1 ≤ _; omega) rfl (pa_dr d_int (by omega) (by omega)) (mo_dr _) fun u F4 H4 s4 st4 ⟨d', hd', dl'⟩ => ?_))
      subst hd'
      have t4 := s3.toStp.trans s4
      refine wp_c ⟨rfl, _, rfl, ?_⟩
      by_cases zz : V.int (d' : Nat) = V.int 0
      · rw [decide_eq_true zz]
        show ite _ _ _
        rw [if_pos rfl]
        refine w_add (x := .str so) s4.kn st4 (by omega) rfl rfl (d_var rfl (.str _)) (by intro z; have := congrArg List.length z; rw [show itemsOf (.str so) = letsD so from rfl, lets_len] at this; exact sl0 this) (by rw [show itemsOf (.str so) = letsD so from rfl, lets_len]; omega) (by omega) (fun d hd => ?_) fun y F5 H5 s5 st5 hy => ?_
        · obtain ⟨y, rfl, hy⟩ := lets_isL sw hd
          exact ⟨y, rfl, hy.1, by rw [hy.2]; omega⟩
        · exact fin y F5 H5 s5.kn (t4.ff.trans s5.ff) (st5.mono (by omega)) hy.1 hy.2
      · rw [decide_eq_false zz]
        show ite _ _ _
        rw [if_neg (by decide)]
        refine wp_asg' (wp_op ⟨_, rfl, ?_⟩)
        refine ⟨_, rfl, ?_⟩
        refine wp_cons (wm_call (rulesD rs) s4.kn st4 (by show _ + 1 ≤ _; omega) rfl (pa_pk (d_var rfl (g1.ex t4.ff)) (by show rs.map ruleD ≠ []; simp [h0]) (by show (rs.map ruleD).length ≤ _; rw [List.length_map]; omega)) (mo_pk _) fun v5 F5 H5 s5 st5 ⟨dd, hdd, hv5⟩ => ?_)
        obtain ⟨q, hq, rfl⟩ := List.mem_map.mp (show dd ∈ rs.map ruleD from hdd)
        have qs := ok.r q hq
        show SpM (fun _ => 1) APk RPk [.ref l, v5] H5 _ (fun _ _ _ => False)
        refine ⟨F5, ruleD q, l, s, n + 1 + 3 * i + 1 + 1, [v5], rfl, s5.kn.fh, s5.kn.md l (.inl rfl), s5.kn.md s (.inr rfl), st5, by show n + 1 + 3 * i + 1 + 1 + 1 ≤ _; omega, ⟨(by intro z; cases z), (by show 2 ≤ _; omega), v5, rfl, hv5⟩, fun u H6 e6 st6 ⟨d, hd, hu⟩ => ?_⟩
        have s6 := s5.kn.stepM e6
        have fe : Ex F' (nw F5 H5 H6) := (t4.ff.trans s5.ff).trans s6.ff
        rcases List.mem_cons.mp (show d ∈ [PyData.str q.1, PyData.str q.2] from hd) with e | e
        · subst e
          cases hu.str_
          exact ⟨z, q.1, rfl, rfl, sz_of (by have := qs.2.1; omega), fin q.1 _ H6 s6.kn fe (st6.mono (by show n + 1 + 3 * i + 1 + 1 + 1 ≤ _; omega)) qs.1.w1 qs.2.1⟩
        · cases List.mem_singleton.mp e
          cases hu.str_
          exact ⟨z, q.2, rfl, rfl, sz_of (by have := qs.2.2; omega), fin q.2 _ H6 s6.kn fe (st6.mono (by show n + 1 + 3 * i + 1 + 1 + 1 ≤ _; omega)) qs.1.w2 qs.2.2⟩
  · rintro σ' F' H' kn' eF ⟨⟨z, y4, y5, y8, rfl, zw, zl⟩, g1, g2⟩
    have zl' : z.length ≤ 808 := by omega
    refine kM_fin (T := RWd (rs, many, most)) hQ (mo_wd _) kn' (g2.mono (by show _ ≤ n + 400; omega)) (EvP.imp (EvD.toP (d_slS (d_var rfl (.str z)) do_none (do_some (d_var rfl (.int _))) (szS (by omega)))) fun H v hv => ⟨_, hv.str_, isW_cut zw _ _, by rw [cutS_lo]; exact Nat.min_le_left _ _⟩)
end
end K05
namespace K05
open PySem PySem.Spec PyProof.Rows L2 Evl WB
section
variable {P : Program} {w : World} {K : PySem.W.Frag} {mg : Str → Option Value} {base : Heap}
def stAt (p r : Nat) : List WStep := [(p, r, true), (p, r, false)]
def canS (rs : List Rule) (z : Str) (s : WStep) : Bool := match rs[s.2.1]? with
  | some q => canR q z s
  | none => false
def cellS (rs : List Rule) (z : Str) (p r : Nat) : List WStep := (stAt p r).filter (canS rs z)
def rowS (rs : List Rule) (z : Str) (p n : Nat) : List WStep := (List.range n).flatMap (cellS rs z p)
def allS (rs : List Rule) (z : Str) (n : Nat) : List WStep := (List.range n).flatMap fun p => rowS rs z p rs.length
theorem flat_s {α : Type} (f : Nat → List α) (n : Nat) : (List.range (n + 1)).flatMap f = (List.range n).flatMap f ++ f n := by
  rw [List.range_succ, List.flatMap_append]
  simp
theorem cellS_len (rs : List Rule) (z : Str) (p r : Nat) : (cellS rs z p r).length ≤ 2 := by
  unfold cellS
  exact List.length_filter_le ..
theorem rowS_len (rs : List Rule) (z : Str) (p : Nat) : ∀ n, (rowS rs z p n).length ≤ 2 * n
  | 0 => Nat.zero_le _
  | n + 1 => by
    have h1 := rowS_len rs z p n
    have h2 := cellS_len rs z p n
    unfold rowS at h1 ⊢
    rw [flat_s, List.length_append]
    omega
theorem allS_len (rs : List Rule) (z : Str) : ∀ n, (allS rs z n).length ≤ 2 * rs.length * n
  | 0 => Nat.zero_le _
  | n + 1 => by
    have h1 := allS_len rs z n
    have h2 := rowS_len rs z n rs.length
    unfold allS at h1 ⊢
    rw [flat_s, List.length_append, Nat.mul_succ]
    omega
theorem allS_mem {rs : List Rule} {z : Str} {n : Nat} {s : WStep} (h : s ∈ allS rs z n) : ∃ q, rs[s.2.1]? = some q ∧ canR q z s = true := by
  unfold allS rowS cellS at h
  obtain ⟨p, _, h⟩ := List.mem_flatMap.mp h
  obtain ⟨r, _, h⟩ := List.mem_flatMap.mp h
  have c := (List.mem_filter.mp h).2
  unfold canS at c
  cases q : rs[s.2.1]? with
  | none => rw [q] at c; cases c
  | some q' => rw [q] at c; exact ⟨q', rfl, c⟩
def c_w_all (ds : List PyData) (r : PyData) : Prop := ∃ (rs : List Rule) (z : Str), ds = [rulesD rs, .str z] ∧ BkSm rs ∧ z.length ≤ 1000 ∧ r = stepsD (allS rs z z.length)
theorem cl__law_w_all (S : Env P w K mg base) : Cl P w K mg base 3 "_law_w_all" ["rules", "word"] (SpD c_w_all) := mk_cl S.fun__law_w_all S.glo__law_w_all sc__law_w_all (fun _ _ _ _ _ _ us hl => match us, hl with | [_, _], _ => rfl) (SpD.len fun _ _ ⟨_, _, e, _⟩ => e ▸ rfl) fun cdv A outer s H vs Q E hr h => by
  have nd := sc__law_w_all.nd
  refine ⟨_, (pss_cons (ps_set (i := 2) nd rfl (by first | exact Or.inl rfl | exact Or.inr rfl) (pe_lst pa_nil))
    (pss_cons (ps_for (passes_of rfl) rfl (pi_range1 rfl S.free_range (pa_cons (pe_callB (r := rLenSQ) (id := "len") call_len_str (by rfl) S.free_len (by decide +kernel) (pa_cons (pv 1) pa_nil)) pa_nil)) (pg_name (i := 3) nd rfl (by first | exact Or.inl rfl | exact Or.inr rfl))
    (pss_one (ps_for (passes_of rfl) rfl (pi_range1 rfl S.free_range (pa_cons (pe_callB (r := rLenQ K) (id := "len") call_len_seq (by rfl) S.free_len (by decide +kernel) (pa_cons (pv 0) pa_nil)) pa_nil)) (pg_name (i := 4) nd rfl (by first | exact Or.inl rfl | exact Or.inr rfl))
    (pss_cons (ps_setLc (i := 6) (own := [("turn", 5)]) rfl nd rfl rfl (sw_true rfl rfl rfl (by decide +kernel)) (pi_tupK (K := K) rfl (pe_tup (pa_cons pe_str (pa_cons pe_str pa_nil)))) (blkOk_by (N := ["rules", "word", "found", "place", "rule", "turn", "some", "step"]) (sc := defScope s__law_w_all) (by decide +kernel)) (fun _ _ _ _ _ => (pg_name (i := 5) nd rfl (by first | exact Or.inl rfl | exact Or.inr rfl))) (fun _ _ _ _ _ => pts_nil) (fun _ _ _ _ _ => (pe_tup (pa_cons (pv 3) (pa_cons (pv 4) (pa_cons (pv 5) pa_nil))))))
    (pss_one (ps_expr (pe_bmK (K := K) (r := rExtend) rfl PySem.F.plainAttrs_list PySem.F.slot_list_extend PySem.F.type_list_extend mt_extend (pv 2) (pa_cons (pe_lc (own := [("step", 7)]) rfl nd (pi_listK (K := K) rfl (pv 6)) (blkOk_by (N := ["rules", "word", "found", "place", "rule", "turn", "some", "step"]) (sc := defScope s__law_w_all) (by decide +kernel)) (fun _ _ _ _ _ => (pg_name (i := 7) nd rfl (by first | exact Or.inl rfl | exact Or.inr rfl))) (fun _ _ _ _ _ => pts_one (pt_val (pe_cl (cl__law_w_can S) hr (by decide) pass_none (by rfl) (pa_cons (pv 0) (pa_cons (pv 1) (pa_cons (pv 7) pa_nil)))))) (fun _ _ _ _ _ => (pv 7))) pa_nil))))))))
    (pss_one (ps_ret (pv 2))))), ?_⟩
  obtain ⟨F0, ds, r, e0, hd, hc, hQ⟩ := h
  have kn := Kn.start e0
  obtain ⟨rs, z, rfl, ok, zl, rfl⟩ := hc
  obtain ⟨x, y, rfl, hx, hy⟩ := da2_ hd
  cases hy.str_
  have nr := ok.n
  refine q_newN kn da_nil (by simp) fun l xs F1 H1 s1 hl0 hl1 hl hxs => ?_
  cases hxs.nil_
  have h0l : H l = none := hl1
  refine q_for s1.kn (wk_rng1 (n := ((z.length : Nat) : Int)) (da_cons (d_lenS (d_var rfl (.str _)) (szS (by omega))) da_nil) ⟨by omega, by omega⟩) (fun i σ' F' H' => (∃ y3 y4 y5 y6 y7, σ' = [some x, some (.str z), some (.ref l), y3, y4, y5, y6, y7]) ∧ Dt F' x (rulesD rs) ∧ F' l = none ∧ ∃ vs, H' l = some (.lst vs) ∧ DtAll F' vs ((allS rs z i).map stepD)) ?_ ?_ ?_ ?_
  · intro F6 H6 s6
    exact ⟨⟨none, none, none, none, none, rfl⟩, (hx.ex s1.ff).ex s6.ff, s6.fr _ _ hl hl0, [], s6.ex _ _ hl, .nil⟩
  · rintro i σ' F' H' H2 ⟨hσ, g1, g2, vs, g5, g6⟩ kn' e
    have s := kn'.step (H1 := H2) e
    exact ⟨hσ, g1.ex s.ff, s.fr _ _ g5 g2, vs, e _ _ g5, g6.ex s.ff⟩
  · rintro i d yy σ' F' H' hi kn' eF hd ⟨⟨y3, y4, y5, y6, y7, rfl⟩, g1, g2, vs, g5, g6⟩ N hN
    have il : i < z.length := by
      have zz := (List.getElem?_eq_some_iff.mp hi).1
      rw [rngD_len] at zz
      omega
    rw [rngD_get (by omega), Int.zero_add] at hi
    cases hi
    cases hd.int_
    have al := allS_len rs z i
    have al2 : 2 * rs.length * i ≤ 28 * i := Nat.mul_le_mul_right _ (by omega)
    refine k_for kn' (wk_rng1 (n := ((rs.length : Nat) : Int)) (da_cons ((d_lenL (d_var rfl g1)).is (by rw [List.length_map])) da_nil) ⟨by omega, by omega⟩) (fun j σ' F' H' => (∃ y4 y5 y6 y7, σ' = [some x, some (.str z), some (.ref l), some (.int (i : Nat)), y4, y5, y6, y7]) ∧ Dt F' x (rulesD rs) ∧ F' l = none ∧ ∃ vs, H' l = some (.lst vs) ∧ DtAll F' vs ((allS rs z i ++ rowS rs z i j).map stepD)) ?_ ?_ ?_ ?_
    · intro F6 H6 s6
      exact ⟨⟨_, _, _, _, rfl⟩, g1.ex s6.ff, s6.fr _ _ g5 g2, vs, s6.ex _ _ g5, by
        rw [show rowS rs z i 0 = [] from rfl, List.append_nil]
        exact g6.ex s6.ff⟩
    · rintro j σ' F' H' H2 ⟨hσ, g1, g2, vs, g5, g6⟩ kn' e
      have s := kn'.step (H1 := H2) e
      exact ⟨hσ, g1.ex s.ff, s.fr _ _ g5 g2, vs, e _ _ g5, g6.ex s.ff⟩
    · rintro j d2 yy2 σ' F2 H2 hj kn2 eF2 hd2 ⟨⟨y4, y5, y6, y7, rfl⟩, k1, k2, vs2, k5, k6⟩ N2 hN2
      have jl : j < rs.length := by
        have zz := (List.getElem?_eq_some_iff.mp hj).1
        rw [rngD_len] at zz
        omega
      rw [rngD_get (by omega), Int.zero_add] at hj
      cases hj
      cases hd2.int_
      have rl := rowS_len rs z i j
      refine q_asg (d := stepsD (stAt i j)) kn2 (d_lcn (wk_tup (ds := [.str "on", .str "back"]) (d_tup (da_cons d_str (da_cons d_str da_nil)))) (by simp) rfl fun ii d r v F'' hi' hr e1 hd' => ?_) fun va F3 H3 s3 hva => ?_
      · match ii, hi', hr with
        | 0, hi', hr =>
          cases hi'
          cases hr
          cases hd'.str_
          exact d_tup (da_cons (d_var rfl (.int _)) (da_cons (d_var rfl (.int _)) (da_cons (d_var rfl (.str _)) da_nil)))
        | 1, hi', hr =>
          cases hi'
          cases hr
          cases hd'.str_
          exact d_tup (da_cons (d_var rfl (.int _)) (da_cons (d_var rfl (.int _)) (da_cons (d_var rfl (.str _)) da_nil)))
        | _ + 2, hi', _ => simp at hi'
      · have rj : rs[j]? = some rs[j] := List.getElem?_eq_getElem jl
        have rq := (ok.r _ (List.mem_of_getElem? rj)).1
        generalize rs[j] = q at rj rq
        have k1' := k1.ex s3.ff
        have vl := k6.len
        rw [List.length_map, List.length_append] at vl
        refine k_ext s3.kn (s3.ex _ _ k5) (s3.fr _ _ k5 k2) h0l (ev_var rfl) (ds := (cellS rs z i j).map stepD) ((d_lc (wk_list (d_var rfl hva)) (by simp [stAt]) (fun i' => canS rs z ((stAt i j).getD i' (0, 0, true))) (fun i' => stepD ((stAt i j).getD i' (0, 0, true))) fun i' d v F'' H'' hi' e1 e2 hd' Q' hQ' => ?_).is ?_) (by
          have := cellS_len rs z i j
          rw [List.length_map]
          omega) fun zs F4 H4 k4 e4 fn4 hzs hl4 o4 fr4 => ?_
        · obtain ⟨st, hst, rfl⟩ := map_at hi'
          have eg : (stAt i j).getD i' (0, 0, true) = st := by rw [List.getD_eq_getElem?_getD, hst]; rfl
          have e2 : st.2.1 = j := by
            have := List.mem_of_getElem? hst
            unfold stAt at this
            rcases List.mem_cons.mp this with z | z
            · rw [z]
            · rw [List.mem_singleton.mp z]
          have rst : rs[st.2.1]? = some q := by rw [e2]; exact rj
          have ec : canS rs z st = canR q z st := by unfold canS; rw [rst]
          refine hQ' ((wipe _ _).set 7 (some v)) rfl (et_is (t_B (d_call (da_cons (d_var rfl (k1'.ex e1)) (da_cons (d_var rfl (.str _)) (da_cons (d_var rfl hd') da_nil))) ⟨_, _, _, _, rfl, by omega, rq.sl _, rst, rfl⟩)) (by show canR q z st = canS rs z ((stAt i j).getD i' (0, 0, true)); rw [eg, ec])) fun _ => (d_var rfl hd').is (by show stepD st = stepD ((stAt i j).getD i' (0, 0, true)); rw [eg])
        · have rf := range_filter_map stepD (fun i' => canS rs z ((stAt i j).getD i' (0, 0, true))) (canS rs z) (fun i' => stepD ((stAt i j).getD i' (0, 0, true))) (stAt i j) fun i' x hx => by
            have eg : (stAt i j).getD i' (0, 0, true) = x := by rw [List.getD_eq_getElem?_getD, hx]; rfl
            exact ⟨by rw [eg], by rw [eg]⟩
          rw [List.length_map, rf]
          rfl
        · refine hN2 _ F4 H4 k4 (s3.ff.trans e4) ⟨⟨_, _, _, _, rfl⟩, k1'.ex e4, fn4, vs2 ++ zs, hl4, ?_⟩
          have es : rowS rs z i (j + 1) = rowS rs z i j ++ cellS rs z i j := flat_s _ _
          rw [es, ← List.append_assoc, List.map_append]
          exact (k6.ex (s3.ff.trans e4)).app hzs
    · rintro σ' F2 H2 kn2 eF2 ⟨⟨y4, y5, y6, y7, rfl⟩, k1, k2, vs2, k5, k6⟩
      refine hN _ F2 H2 kn2 eF2 ⟨⟨_, _, _, _, _, rfl⟩, k1, k2, vs2, k5, ?_⟩
      rw [rngD_len, show ((rs.length : Nat) : Int).toNat = rs.length by omega] at k6
      have es : allS rs z (i + 1) = allS rs z i ++ rowS rs z i rs.length := flat_s _ _
      rw [es]
      exact k6
  · rintro σ' F' H' kn' eF ⟨⟨y3, y4, y5, y6, y7, rfl⟩, g1, g2, vs, g5, g6⟩
    rw [rngD_len, show ((z.length : Nat) : Int).toNat = z.length by omega] at g6
    exact k_finL hQ kn' g5 g2 h0l g6 (ev_var rfl)
end
end K05
namespace K05
open PySem PySem.Spec PyProof.Rows L2 Evl WB
section
variable {P : Program} {w : World} {K : PySem.W.Frag} {mg : Str → Option Value} {base : Heap}
theorem steps_plain : ∀ ss : List WStep, plainDs (ss.map stepD) = true
  | [] => rfl
  | r :: rs => by
    rw [List.map_cons]
    unfold plainDs
    rw [steps_plain rs]
    rfl
theorem step_lay (s : WStep) : (stepD s).canLay0 = true := by
  obtain ⟨p, r, b⟩ := s
  have h : (PyData.str (turnS b)).canLay0 = true := by
    cases b
    · exact isW_ok (z := "back") (by decide +kernel)
    · exact isW_ok (z := "on") (by decide +kernel)
  unfold stepD
  simp only [PyData.canLay0, PyData.canLayAll0] at h ⊢
  rw [h]
  rfl
theorem steps_lay : ∀ ss : List WStep, PyData.canLayAll0 (ss.map stepD) = true
  | [] => by simp [PyData.canLayAll0]
  | s :: ss => by simp [PyData.canLayAll0, step_lay s, steps_lay ss]
theorem steps_depth : ∀ ss : List WStep, PyData.depthAll (ss.map stepD) ≤ 1
  | [] => by simp [PyData.depthAll]
  | s :: ss => by
    have h1 := steps_depth ss
    have h2 : (stepD s).depth = 1 := by simp [stepD, PyData.depth, PyData.depthAll]
    simp only [List.map_cons, PyData.depthAll]
    omega
theorem steps_shaped (ss : List WStep) : SeqAt.shaped (.list (ss.map stepD)) = true := by
  have h1 := steps_depth ss
  have h2 : PyData.depth (.list (ss.map stepD)) ≤ 64 := by
    simp only [PyData.depth]
    omega
  show (PyData.canLay0 (.list (ss.map stepD)) && decide (PyData.depth (.list (ss.map stepD)) ≤ 64)) = true
  rw [Bool.and_eq_true]
  exact ⟨by simp only [PyData.canLay0]; exact steps_lay ss, decide_eq_true h2⟩
theorem wy_snoc {rs : List Rule} {q : Rule} {s : WStep} (hq : rs[s.2.1]? = some q) : ∀ {z : Str} {ss : List WStep}, WyOk rs z ss → canR q (endW rs z ss) s = true → (doneR q (endW rs z ss) s).length ≤ 1000 → WyOk rs z (ss ++ [s]) ∧ endW rs z (ss ++ [s]) = doneR q (endW rs z ss) s
  | z, [], h1, h2, h3 => ⟨⟨h1, q, hq, h2, h3⟩, endW_c hq⟩
  | z, t :: r, ⟨h1, q', hq', hc, hr⟩, h2, h3 => by
    rw [endW_c hq'] at h2 h3 ⊢
    obtain ⟨a, b⟩ := wy_snoc hq hr h2 h3
    refine ⟨⟨h1, q', hq', hc, a⟩, ?_⟩
    show endW rs z (t :: (r ++ [s])) = _
    rw [endW_c hq']
    exact b
def doneS (rs : List Rule) (z : Str) (s : WStep) : Str := match rs[s.2.1]? with
  | some q => doneR q z s
  | none => z
structure WayX where
  rs : List Rule
  z : Str
  many : Nat
  most : Nat
abbrev AWw : WayX → Hp → List V → Prop := fun x H vs => BkSm x.rs ∧ isW x.z = true ∧ x.z.length ≤ x.most ∧ x.most ≤ 1000 ∧ x.many ≤ 100 ∧ ∃ v, vs = [v, .str x.z, .int (x.many : Nat), .int (x.most : Nat)] ∧ Dt H v (rulesD x.rs)
abbrev RWw : WayX → Hp → V → Prop := fun x H v => ∃ ss : List WStep, Dt H v (stepsD ss) ∧ WyOk x.rs x.z ss ∧ ss.length ≤ x.many
theorem mo_ww (x : WayX) : Mo (RWw x) := fun _ _ _ e ⟨ss, h1, h2⟩ => ⟨ss, h1.ex e, h2⟩
theorem cl__law_w_way (S : Env P w K mg base) : Cl P w K mg base 4 "_law_w_way" ["stream", "rules", "word", "many", "most"] (SpM (fun _ => 100) AWw RWw) := mk_cl S.fun__law_w_way S.glo__law_w_way sc__law_w_way (fun _ _ _ _ _ _ us hl => match us, hl with | [_, _, _, _, _], _ => rfl) (m_len fun _ _ _ ⟨_, _, _, _, _, _, e, _⟩ => by rw [e]; rfl) fun cdv A outer s H vs Q E hr h => by
  have nd := sc__law_w_way.nd
  refine ⟨_, (pss_cons (ps_set (i := 5) nd rfl (by first | exact Or.inl rfl | exact Or.inr rfl) (pe_lst pa_nil))
    (pss_cons (ps_for (passes_of rfl) rfl (pi_range1 rfl S.free_range (pa_cons (pv 3) pa_nil)) (pg_name (i := 6) nd rfl (by first | exact Or.inl rfl | exact Or.inr rfl))
    (pss_cons (ps_set (i := 7) nd rfl (by first | exact Or.inl rfl | exact Or.inr rfl) (pe_cl (cl__law_w_end S) hr (by decide) pass_none (by rfl) (pa_cons (pv 1) (pa_cons (pv 2) (pa_cons (pv 5) pa_nil)))))
    (pss_cons (ps_setLc (i := 9) (own := [("step", 8)]) rfl nd rfl rfl (sw_true rfl rfl rfl (by decide +kernel)) (pi_listK (K := K) rfl (pe_cl (cl__law_w_all S) hr (by decide) pass_none (by rfl) (pa_cons (pv 1) (pa_cons (pv 7) pa_nil)))) (blkOk_by (N := ["stream", "rules", "word", "many", "most", "found", "k", "here", "step", "some"]) (sc := defScope s__law_w_way) (by decide +kernel)) (fun _ _ _ _ _ => (pg_name (i := 8) nd rfl (by first | exact Or.inl rfl | exact Or.inr rfl))) (fun _ _ _ _ _ => pts_one (pt_cmpR op_le (pe_callB (r := rLenSQ) (id := "len") call_len_str (by rfl) S.free_len (by decide +kernel) (pa_cons (pe_cl (cl__law_w_done S) hr (by decide) pass_none (by rfl) (pa_cons (pv 1) (pa_cons (pv 7) (pa_cons (pv 8) pa_nil)))) pa_nil)) (pv 4) (nomark _))) (fun _ _ _ _ _ => (pv 8)))
    (pss_one (ps_if (pt_cmpR (r := rNeD K) (op_neD hr.units) (pv 9) (pe_lst pa_nil) (nomark _)) (pss_one (ps_expr (pe_bmK (K := K) (r := rAppend) rfl PySem.F.plainAttrs_list PySem.F.slot_list_append PySem.F.type_list_append mt_append (pv 5) (pa_cons (pe_cl (cl__law_pick S) hr (by decide) pass_none (by rfl) (pa_cons (pv 0) (pa_cons (pv 9) pa_nil))) pa_nil)))) pss_nil)))))
    (pss_one (ps_ret (pv 5))))), ?_⟩
  obtain ⟨F0, ⟨rs, z, many, most⟩, l, s, n, r, rfl, e0, fl, fs, st, hn, ⟨ok, zw, hm1, hm2, hm3, v, rfl, hv⟩, hQ⟩ := h
  have hn : n + 100 ≤ 1000000 := hn
  have hm1 : z.length ≤ most := hm1
  have hm2 : most ≤ 1000 := hm2
  have hm3 : many ≤ 100 := hm3
  have ok : BkSm rs := ok
  replace zw : isW z = true := zw
  replace hv : Dt F0 v (rulesD rs) := hv
  have nr := ok.n
  have kn := Kn.startS e0 fl fs st
  refine q_newN kn da_nil (by simp) fun p xs F1 H1 s1 hp0 hp1 hp hxs => ?_
  cases hxs.nil_
  have st1 := st.ex s1.ex
  have pl : p ≠ l := fun z => by rw [z] at hp1; exact st.has l (.inl rfl) hp1
  have ps : p ≠ s := fun z => by rw [z] at hp1; exact st.has s (.inr rfl) hp1
  refine q_for s1.kn (wk_rng1 (n := ((many : Nat) : Int)) (da_cons (d_var rfl (.int _)) da_nil) ⟨by omega, by omega⟩) (fun i σ' F' H' => (∃ y6 y7 y8 y9, σ' = [some (.ref l), some v, some (.str z), some (.int (many : Nat)), some (.int (most : Nat)), some (.ref p), y6, y7, y8, y9]) ∧ Dt F' v (rulesD rs) ∧ F' p = none ∧ StA l s (n + i) H' ∧ ∃ (vs : List V) (ss : List WStep), H' p = some (.lst vs) ∧ DtAll F' vs (ss.map stepD) ∧ WyOk rs z ss ∧ (endW rs z ss).length ≤ most ∧ ss.length ≤ i) ?_ ?_ ?_ ?_
  · intro F6 H6 s6
    exact ⟨⟨none, none, none, none, rfl⟩, (hv.ex s1.ff).ex s6.ff, s6.fr _ _ hp hp0, st1.ex s6.ex, [], [], s6.ex _ _ hp, .nil, (by show z.length ≤ 1000; omega), hm1, Nat.le_refl _⟩
  · rintro i σ' F' H' H2 ⟨hσ, g1, g2, g3, vs, ss, g5, g6, g7⟩ kn' e
    have s := kn'.step (H1 := H2) e
    exact ⟨hσ, g1.ex s.ff, s.fr _ _ g5 g2, g3.ex e, vs, ss, e _ _ g5, g6.ex s.ff, g7⟩
  · rintro i d yy σ' F' H' hi kn' eF hd ⟨⟨y6, y7, y8, y9, rfl⟩, g1, g2, g3, vs, ss, g5, g6, g7, g8, g9⟩ N hN
    have il : i < many := by
      have zz := (List.getElem?_eq_some_iff.mp hi).1
      rw [rngD_len] at zz
      omega
    have kw : Ex F' (upd F' p (.lst vs)) := ex_know g2
    refine q_asgS kn' (ex_own kn' g5) (d_call (da_cons (d_var rfl (g1.ex kw)) (da_cons (d_var rfl (.str _)) (da_cons (d_var rfl (dt_own g2 g6)) da_nil))) ⟨_, _, _, rfl, ok.ok, g7, rfl⟩) rfl fun F2 H2 s2 => ?_
    generalize hz : endW rs z ss = here at g8 ⊢
    have g1' := g1.ex s2.ff
    have hl : here.length ≤ 1000 := by omega
    have al := allS_len rs here here.length
    have al2 : 2 * rs.length * here.length ≤ 28 * here.length := Nat.mul_le_mul_right _ (by omega)
    refine q_asg (d := stepsD ((allS rs here here.length).filter fun s => decide ((doneS rs here s).length ≤ most))) s2.kn ((d_lc (wk_list (d_call (d := stepsD (allS rs here here.length)) (da_cons (d_var rfl g1') (da_cons (d_var rfl (.str _)) da_nil)) ⟨_, _, rfl, ok, hl, rfl⟩)) (by rw [List.length_map]; omega) (fun i' => decide ((doneS rs here ((allS rs here here.length).getD i' (0, 0, true))).length ≤ most)) (fun i' => stepD ((allS rs here here.length).getD i' (0, 0, true))) fun i' d v F'' H'' hi' e1 e2 hd' Q' hQ' => ?_).is ?_) fun va F3 H3 s3 hva => ?_
    · obtain ⟨st', hst, rfl⟩ := map_at hi'
      obtain ⟨q, hq, hcan⟩ := allS_mem (List.mem_of_getElem? hst)
      have rq := ok.r q (List.mem_of_getElem? hq)
      have eg : (allS rs here here.length).getD i' (0, 0, true) = st' := by rw [List.getD_eq_getElem?_getD, hst]; rfl
      have ed : doneS rs here st' = doneR q here st' := by unfold doneS; rw [hq]
      have ci := can_in hcan (rq.1.s0 _)
      have dl := done_len ci
      have gg := rq.1.gl st'.2.2
      refine hQ' ((wipe _ _).set 8 (some _)) rfl (et_is (t_val (d_cmp (d_lenS (d_call (da_cons (d_var rfl (g1'.ex e1)) (da_cons (d_var rfl (.str _)) (da_cons (d_var rfl hd') da_nil))) ⟨_, _, _, _, rfl, by omega, rq.1.sl _, rq.1.gl _, hq, rfl⟩) (szS (by omega))) (d_var rfl (.int _)))) ?_) fun _ => (d_var rfl hd').is (by show stepD st' = stepD ((allS rs here here.length).getD i' (0, 0, true)); rw [eg])
      show decide _ = decide ((doneS rs here ((allS rs here here.length).getD i' (0, 0, true))).length ≤ most)
      rw [eg, ed]
      exact decide_eq_decide.mpr ⟨fun h => by omega, fun h => by omega⟩
    · rw [List.length_map, range_filter_map stepD _ (fun s => decide ((doneS rs here s).length ≤ most)) _ (allS rs here here.length) fun i' x hx => by
        have eg : (allS rs here here.length).getD i' (0, 0, true) = x := by rw [List.getD_eq_getElem?_getD, hx]; rfl
        exact ⟨by rw [eg], by rw [eg]⟩]
      rfl
    · have sm : ∀ s' ∈ (allS rs here here.length).filter (fun s => decide ((doneS rs here s).length ≤ most)), ∃ q, rs[s'.2.1]? = some q ∧ canR q here s' = true ∧ (doneR q here s').length ≤ most := fun s' hs' => by
        obtain ⟨m1, m2⟩ := List.mem_filter.mp hs'
        obtain ⟨q, hq, hcan⟩ := allS_mem m1
        have m2' := of_decide_eq_true m2
        unfold doneS at m2'
        rw [hq] at m2'
        exact ⟨q, hq, hcan, m2'⟩
      have sl : ((allS rs here here.length).filter fun s => decide ((doneS rs here s).length ≤ most)).length ≤ 28000 := Nat.le_trans (List.length_filter_le ..) (by omega)
      generalize (allS rs here here.length).filter (fun s => decide ((doneS rs here s).length ≤ most)) = so at hva sm sl
      have t3 := s2.trans s3
      have st3 := (g3.ex s2.ex).ex s3.ex
      have g5' := t3.ex _ _ g5
      have g2' := t3.fr _ _ g5 g2
      refine wp_ifE (wp_t (et_is (et_test (EvD.evb (d_neD (d1 := stepsD so) (d2 := .list []) (d_var rfl hva) (d_lst da_nil) (by unfold stepsD plainD; exact steps_plain _) rfl (steps_shaped _) (ints_shaped [])))) (congrArg (fun b => !b) (eqv_nil stepD so))) s3.kn.fh fun H4 e4 => ?_)
      have s4 := s3.kn.step e4
      have t4 := t3.trans s4
      have vl : vs.length = ss.length := by rw [g6.len, List.length_map]
      by_cases h0 : so = []
      · rw [decide_eq_true h0, if_neg (by decide)]
        exact hN _ _ H4 s4.kn t4.ff ⟨⟨_, _, _, _, rfl⟩, g1.ex t4.ff, s4.fr _ _ g5' g2', (st3.ex e4).mono (by omega), vs, ss, e4 _ _ g5', g6.ex t4.ff, g7, by rw [hz]; exact g8, by omega⟩
      · rw [decide_eq_false h0, if_pos (by decide)]
        refine ⟨.ref p, rfl, Or.inl ⟨rfl, _, sq_of (e4 _ _ g5')⟩, ?_⟩
        refine wm_call (stepsD so) s4.kn (st3.ex e4) (by show n + i + 1 ≤ _; omega) rfl (pa_pk (d_var rfl (hva.ex s4.ff)) (by show so.map stepD ≠ []; simp [h0]) (by show (so.map stepD).length ≤ _; rw [List.length_map]; omega)) (mo_pk _) fun u F5 H5 s5 st5 ⟨d, hd, hu⟩ => ?_
        obtain ⟨s', hs', rfl⟩ := List.mem_map.mp (show d ∈ so.map stepD from hd)
        obtain ⟨q, hq, hcan, hdl⟩ := sm s' hs'
        have g5'' := em_at s5.hm (e4 _ _ g5') pl ps
        have g2'' := s5.fr _ _ (e4 _ _ g5') (s4.fr _ _ g5' g2')
        have fe := t4.ff.trans s5.ff
        obtain ⟨w1, w2⟩ := wy_snoc hq g7 (by rw [hz]; exact hcan) (by rw [hz]; omega)
        refine ⟨p, vs, u, rfl, rfl, g5'', sz_lt (by omega), hN _ F5 _ (s5.kn.upd_ g2'' hp1) fe ⟨⟨_, _, _, _, rfl⟩, g1.ex fe, g2'', st5.keep pl ps fun a o ne ha => by rw [upd_ne ne]; exact ha, vs ++ [u], ss ++ [s'], upd_same, ?_, w1, by rw [w2, hz]; exact hdl, by rw [List.length_append, List.length_singleton]; omega⟩⟩
        rw [List.map_append]
        exact (g6.ex fe).snoc hu
  · rintro σ' F' H' kn' eF ⟨⟨y6, y7, y8, y9, rfl⟩, g1, g2, g3, vs, ss, g5, g6, g7, g8, g9⟩
    rw [rngD_len, show ((many : Nat) : Int).toNat = many by omega] at g3 g9
    exact wp_ret ⟨.ref p, rfl, kM_done hQ (mo_ww _) (kn'.know g2 hp1 g5) (g3.mono (by show _ ≤ n + 100; omega)) ⟨ss, .lst upd_same (g6.ex (ex_know g2)), g7, g9⟩⟩
end
end K05
namespace K05
open PySem PySem.Spec PyProof.Rows L2 Evl WB
section
variable {P : Program} {w : World} {K : PySem.W.Frag} {mg : Str → Option Value} {base : Heap}
theorem pa_wd {σ : L2.St} {F : Hp} {te tx ty : TE} {rs : List Rule} {a b : Nat} (h : EvD te σ F (rulesD rs)) (hx : EvD tx σ F (.int (a : Nat))) (hy : EvD ty σ F (.int (b : Nat))) (ok : BkSm rs) (h1 : a ≤ 100) (h2 : b ≤ 1000) : EvPA (tCons te (tCons tx (tCons ty tNil))) σ F (AWd (rs, a, b)) := fun H1 e _ q =>
  h H1 e _ fun x H2 e2 hx' => hx H2 (e.trans e2) _ fun y H3 e3 hy' => hy H3 ((e.trans e2).trans e3) _ fun u H4 e4 hu => by
    cases hy'.int_
    cases hu.int_
    exact q [x, .int a, .int b] H4 ((e2.trans e3).trans e4) ⟨ok, h1, h2, x, rfl, hx'.ex (nw_r (exexn (e3.trans e4)))⟩
abbrev ACs : (Nat × Nat) → Hp → List V → Prop := fun x H vs => x.1 ≤ 100 ∧ x.2 ≤ 1000 ∧ vs = [.int (x.1 : Nat), .int (x.2 : Nat)]
structure CaseOk (m : WayM) : Prop where
  ok : m.Ok
  b : BkSm m.rs
  n : m.ss.length ≤ 100
abbrev RCs : Hp → V → Prop := fun H v => ∃ m : WayM, CaseOk m ∧ Dt H v (.tuple (mD m))
theorem mo_cs : Mo RCs := fun _ _ _ e ⟨m, h1, h2⟩ => ⟨m, h1, h2.ex e⟩
theorem w_case {l s : Addr} {n : Nat} {F0 H0 F H : Hp} {σ : L2.St} {E1 E2 : XK} {tm tp tr tw : TE} {Q : VK} {rv : V} {rs : List Rule} {z : Str} {many most : Nat} (kn : Kn (Ms l s) F0 H0 F H) (st : StA l s n H) (hn : n + 101 ≤ 1000000) (h0 : σ[0]? = some (some (.ref l))) (hr : ∀ G, Ex F G → Ev tr σ G rv) (hrv : Dt F rv (rulesD rs)) (hw : ∀ G, Ev tw σ G (.str z)) (hm : EvD tm σ F (.int ((many : Int) + 1))) (hp : ∀ G, Ev tp σ G (.int (most : Nat)))
    (ok : BkSm rs) (zw : isW z = true) (zl : z.length ≤ most) (m1 : many ≤ 100) (m2 : most ≤ 1000)
    (k : ∀ v F1 H1, Stp (Ms l s) F0 H0 F H F1 H1 → StA l s (n + 101) H1 → RCs F1 v → Q v H1) :
    tTup (tCons tr (tCons tw (tCons (tCall (SpM (fun _ => 100) AWw RWw) [] E1 (tCons (tVar 0) (tCons tr (tCons tw (tCons (tCall (SpM (fun _ => 1) ADr RDr) [] E2 (tCons (tVar 0) (tCons tm tNil))) (tCons tp tNil)))))) tNil))) σ H Q := by
  refine wp_tup (wp_cons ?_)
  refine hr F (Ex.refl F) H kn.fh _ fun H1 e1 => ?_
  refine wp_cons ?_
  refine hw H1 H1 (Ex.refl _) _ fun H2 e2 => ?_
  refine wp_cons ?_
  refine ⟨.ref l, h0, ?_⟩
  have s2 := kn.step (e1.trans e2)
  refine wp_cons ?_
  refine hr _ s2.ff H2 s2.kn.fh _ fun H3 e3 => ?_
  refine wp_cons ?_
  refine hw H3 H3 (Ex.refl _) _ fun H4 e4 => ?_
  refine wp_cons ?_
  have s4 := s2.trans (s2.kn.step (e3.trans e4))
  have st4 := st.ex s4.ex
  refine wm_call (many + 1) s4.kn st4 (by show n + 1 ≤ _; omega) h0 (pa_dr ((hm.mono s4.ff).is (by congr 1)) (by omega) (by omega)) (mo_dr _) fun u F5 H5 s5 st5 ⟨d, hd, dl⟩ => ?_
  subst hd
  refine wp_cons ?_
  refine hp H5 H5 (Ex.refl _) _ fun H6 e6 => ?_
  have s6 := (s4.toStp.trans s5).trans (s5.kn.step e6).toStp
  show SpM (fun _ => 100) AWw RWw [.ref l, rv, .str z, .int (d : Nat), .int (most : Nat)] H6 _ E1
  refine ⟨_, ⟨rs, z, d, most⟩, l, s, n + 1, _, rfl, s6.kn.fh, s6.kn.md l (.inl rfl), s6.kn.md s (.inr rfl), st5.ex e6, by show n + 1 + 100 ≤ _; omega, ⟨ok, zw, zl, m2, by show d ≤ 100; omega, rv, rfl, hrv.ex s6.ff⟩, fun v H7 e7 st7 ⟨ss, hv, wok, sl⟩ => ?_⟩
  have s7 := s6.trans (s6.kn.stepM e7)
  refine ⟨by show 3 ≤ _; decide, fun p hpn => ?_⟩
  have k8 := kn_new (o := .tup [rv, .str z, v]) s7.kn hpn
  have e8 := know_ex (o := .tup [rv, .str z, v]) s7.kn hpn
  refine k (.ref p) _ _ ⟨k8, s7.ff.trans e8, s7.hm.trans (ExM.of (Ex.new hpn)), fun a o ha hf => ?_⟩ ((st7.mono (by show n + 1 + 100 ≤ _; omega)).ex (Ex.new hpn)) ⟨⟨rs, z, ss⟩, ⟨⟨ok.ok, zw, wok, Nat.le_trans sl (by show d ≤ 1000; omega)⟩, ok, Nat.le_trans sl (by show d ≤ 100; omega)⟩, .tup upd_same (.cons ((hrv.ex s7.ff).ex e8) (.cons (.str _) (.cons (hv.ex e8) .nil)))⟩
  rw [upd_ne fun q => by rw [q, s7.hm.d p hpn] at ha; cases ha]
  exact s7.fr a o ha hf
theorem cl__law_a_case (S : Env P w K mg base) : Cl P w K mg base 5 "_law_a_case" ["stream", "many", "most"] (SpM (fun _ => 801) ACs (fun _ => RCs)) := mk_cl S.fun__law_a_case S.glo__law_a_case sc__law_a_case (fun _ _ _ _ _ _ us hl => match us, hl with | [_, _, _], _ => rfl) (m_len fun _ _ _ ⟨_, _, e⟩ => by rw [e]; rfl) fun cdv A outer s H vs Q E hr h => by
  have nd := sc__law_a_case.nd
  refine ⟨_, (pss_cons (ps_set (i := 3) nd rfl (by first | exact Or.inl rfl | exact Or.inr rfl) (pe_cl (cl__law_a_book S) hr (by decide) pass_none (by rfl) (pa_cons (pv 0) pa_nil)))
    (pss_cons (ps_set (i := 4) nd rfl (by first | exact Or.inl rfl | exact Or.inr rfl) (pe_cl (cl__law_a_word S) hr (by decide) pass_none (by rfl) (pa_cons (pv 0) (pa_cons (pv 3) (pa_cons pe_int (pa_cons (pv 2) pa_nil))))))
    (pss_one (ps_ret (pe_tup (pa_cons (pv 3) (pa_cons (pv 4) (pa_cons (pe_cl (cl__law_w_way S) hr (by decide) pass_none (by rfl) (pa_cons (pv 0) (pa_cons (pv 3) (pa_cons (pv 4) (pa_cons (pe_cl (cl__law_draw S) hr (by decide) pass_none (by rfl) (pa_cons (pv 0) (pa_cons (pe_op op_add (pv 1) pe_int) pa_nil))) (pa_cons (pv 2) pa_nil)))))) pa_nil)))))))), ?_⟩
  obtain ⟨F0, ⟨many, most⟩, l, s, n, r, rfl, e0, fl, fs, st, hn, ⟨h1, h2, rfl⟩, hQ⟩ := h
  have hn : n + 801 ≤ 1000000 := hn
  have h1 : many ≤ 100 := h1
  have h2 : most ≤ 1000 := h2
  have kn := Kn.startS e0 fl fs st
  refine wp_asg ?_
  refine wm_call () kn st (by show n + 300 ≤ _; omega) rfl (fun H1 _ Q q => q [] H1 (Ex.refl _) rfl) mo_bk fun v F1 H1 s1 st1 ⟨rs, hv, ok⟩ => ?_
  refine wp_asg ?_
  refine wm_call (rs, 6, most) s1.kn st1 (by show n + 300 + 400 ≤ _; omega) rfl (pa_wd (d_var rfl hv) d_int (d_var rfl (.int _)) ok (by omega) h2) (mo_wd _) fun u F2 H2 s2 st2 ⟨z, hz, zw, zl⟩ => ?_
  subst hz
  refine wp_ret ?_
  refine w_case (many := many) (most := most) (z := z) s2.kn st2 (by show n + 300 + 400 + 101 ≤ _; omega) rfl (fun G _ => ev_var rfl) (hv.ex s2.ff) (fun G => ev_var rfl) (d_add (d_var rfl (.int _)) d_int) (fun G => ev_var rfl) ok zw zl h1 h2 fun v3 F3 H3 s3 st3 hr3 => kM_done hQ mo_cs s3.kn (st3.mono (by show n + 300 + 400 + 101 ≤ n + 801; omega)) hr3
abbrev AGr : Nat → Hp → List V → Prop := fun x H vs => x ≤ 100 ∧ vs = [.int (x : Nat)]
theorem cl__law_a_great (S : Env P w K mg base) : Cl P w K mg base 5 "_law_a_great" ["stream", "many"] (SpM (fun _ => 801) AGr (fun _ => RCs)) := mk_cl S.fun__law_a_great S.glo__law_a_great sc__law_a_great (fun _ _ _ _ _ _ us hl => match us, hl with | [_, _], _ => rfl) (m_len fun _ _ _ ⟨_, e⟩ => by rw [e]; rfl) fun cdv A outer s H vs Q E hr h => by
  have nd := sc__law_a_great.nd
  refine ⟨_, (pss_cons (ps_set (i := 2) nd rfl (by first | exact Or.inl rfl | exact Or.inr rfl) (pe_cl (cl__law_a_book S) hr (by decide) pass_none (by rfl) (pa_cons (pv 0) pa_nil)))
    (pss_cons (ps_set (i := 3) nd rfl (by first | exact Or.inl rfl | exact Or.inr rfl) (pe_cl (cl__law_a_word S) hr (by decide) pass_none (by rfl) (pa_cons (pv 0) (pa_cons (pv 2) (pa_cons pe_int (pa_cons pe_int pa_nil))))))
    (pss_one (ps_ret (pe_tup (pa_cons (pv 2) (pa_cons (pv 3) (pa_cons (pe_cl (cl__law_w_way S) hr (by decide) pass_none (by rfl) (pa_cons (pv 0) (pa_cons (pv 2) (pa_cons (pv 3) (pa_cons (pe_cl (cl__law_draw S) hr (by decide) pass_none (by rfl) (pa_cons (pv 0) (pa_cons (pe_op op_add (pv 1) pe_int) pa_nil))) (pa_cons pe_int pa_nil)))))) pa_nil)))))))), ?_⟩
  obtain ⟨F0, many, l, s, n, r, rfl, e0, fl, fs, st, hn, ⟨h1, rfl⟩, hQ⟩ := h
  have hn : n + 801 ≤ 1000000 := hn
  have kn := Kn.startS e0 fl fs st
  refine wp_asg ?_
  refine wm_call () kn st (by show n + 300 ≤ _; omega) rfl (fun H1 _ Q q => q [] H1 (Ex.refl _) rfl) mo_bk fun v F1 H1 s1 st1 ⟨rs, hv, ok⟩ => ?_
  refine wp_asg ?_
  refine wm_call (rs, 40, 58) s1.kn st1 (by show n + 300 + 400 ≤ _; omega) rfl (pa_wd (d_var rfl hv) d_int d_int ok (by omega) (by omega)) (mo_wd _) fun u F2 H2 s2 st2 ⟨z, hz, zw, zl⟩ => ?_
  subst hz
  replace zl : z.length ≤ 58 := zl
  refine wp_ret ?_
  refine w_case (many := many) (most := 70) (z := z) s2.kn st2 (by show n + 300 + 400 + 101 ≤ _; omega) rfl (fun G _ => ev_var rfl) (hv.ex s2.ff) (fun G => ev_var rfl) (d_add (d_var rfl (.int _)) d_int) (fun G => ev_c) ok zw (by omega) h1 (by omega) fun v3 F3 H3 s3 st3 hr3 => kM_done hQ mo_cs s3.kn (st3.mono (by show n + 300 + 400 + 101 ≤ n + 801; omega)) hr3
end
end K05
namespace K05
open PySem PySem.Spec PyProof.Rows L2 Evl WB
section
variable {P : Program} {w : World} {K : PySem.W.Frag} {mg : Str → Option Value} {base : Heap}
mutual
/-- lists of a length that goes, of numbers, None, lists, tuples -/
def lensD : PyData → Bool
  | .none | .int _ => true
  | .list ds => decide (ds.length ≤ 30000) && lensDs ds
  | .tuple ds => decide (ds.length ≤ 30000) && lensDs ds
  | _ => false
def lensDs : List PyData → Bool
  | [] => true
  | d :: ds => lensD d && lensDs ds
end
def isLst : PyData → Bool
  | .list _ => true
  | _ => false
theorem kq1 : kitB "NoneType" "dict" = some false := by decide +kernel
theorem kq2 : kitB "int" "dict" = some false := by decide +kernel
theorem kq3 : kitB "list" "dict" = some false := by decide +kernel
theorem kq4 : kitB "tuple" "dict" = some false := by decide +kernel
theorem kl1 : kitB "NoneType" "list" = some false := by decide +kernel
theorem kl2 : kitB "int" "list" = some false := by decide +kernel
theorem kl3 : kitB "list" "list" = some true := by decide +kernel
theorem kl4 : kitB "tuple" "list" = some false := by decide +kernel
section
variable {σ : L2.St} {F : Hp} {te : TE} {d : PyData}
theorem d_isDict (h : EvD te σ F d) (hd : lensD d = true) : EvD (tCB (rIsi K) (tCons te (tCons (tC (.ty "dict")) tNil))) σ F (.bool false) := by
  cases d with
  | none => exact d_isi h (ty_of rfl) (kit_ty kq1)
  | int i => exact d_isi h (ty_of rfl) (kit_ty kq2)
  | list ds => exact d_isi h (ty_of rfl) (kit_ty kq3)
  | tuple ds => exact d_isi h (ty_of rfl) (kit_ty kq4)
  | _ => cases hd
theorem d_isList (h : EvD te σ F d) (hd : lensD d = true) : EvD (tCB (rIsi K) (tCons te (tCons (tC (.ty "list")) tNil))) σ F (.bool (isLst d)) := by
  cases d with
  | none => exact d_isi h (ty_of rfl) (kit_ty kl1)
  | int i => exact d_isi h (ty_of rfl) (kit_ty kl2)
  | list ds => exact d_isi h (ty_of rfl) (kit_ty kl3)
  | tuple ds => exact d_isi h (ty_of rfl) (kit_ty kl4)
  | _ => cases hd
end
theorem lens_ins {d : PyData} (h : lensD d = true) : isIns d = false := by
  cases d with
  | dict k => cases h
  | _ => rfl
/-- the promise of spoiling, of data less deep than n -/
def SpSp (n : Nat) : Sp := fun vs H Q _ => ∃ v d as, vs = [v] ∧ Tr H v d as ∧ as.Nodup ∧ d.depth < n ∧ lensD d = true ∧ ∀ H', KeepBut as H H' → Dm H H' → Sl H' v d as → Q .non H'
theorem SpSp.len {n : Nat} (vs : List V) (H : Hp) (Q : VK) (E : XK) (h : SpSp n vs H Q E) : vs.length = 1 := by
  obtain ⟨v, d, as, rfl, _⟩ := h
  rfl
theorem keep_ex {as : List Addr} {H H1 H2 : Hp} (e : Ex H H1) (k : KeepBut as H1 H2) : KeepBut as H H2 := fun b o n h => k b o n (e b o h)
theorem keep_of {as : List Addr} {H H1 : Hp} (e : Ex H H1) : KeepBut as H H1 := fun b o _ h => e b o h
theorem kb_trans {as : List Addr} {H H1 H2 : Hp} (a : KeepBut as H H1) (b : KeepBut as H1 H2) : KeepBut as H H2 := fun c o n h => b c o n (a c o n h)
theorem kb_sub {as bs : List Addr} {H H1 : Hp} (a : KeepBut as H H1) (h : ∀ x ∈ as, x ∈ bs) : KeepBut bs H H1 := fun c o n z => a c o (fun m => n (h c m)) z
/-- the state within the loop over the parts -/
structure SpLoop (xs : List V) (ds : List PyData) (as : List Addr) (H0 : Hp) (i : Nat) (H' : Hp) : Prop where
  parts : ∃ xs1 xs2 ds1 ds2 as1 as2, xs = xs1 ++ xs2 ∧ ds = ds1 ++ ds2 ∧ as = as1 ++ as2 ∧ xs1.length = i ∧ SlAll H' xs1 ds1 as1 ∧ TrAll H' xs2 ds2 as2
  keep : KeepBut as H0 H'
  dm : Dm H0 H'
theorem SlAll.nil_ {H : Hp} {as : List Addr} {ds : List PyData} (h : SlAll H [] ds as) : ds = [] ∧ as = [] := by
  cases h
  exact ⟨rfl, rfl⟩
theorem slAll_snoc {H : Hp} : ∀ {xs : List V} {ds : List PyData} {as bs : List Addr} {v : V} {d : PyData}, SlAll H xs ds as → Sl H v d bs → SlAll H (xs ++ [v]) (ds ++ [d]) (as ++ bs)
  | _, _, _, bs, _, _, .nil, h => by
    have z := SlAll.cons h .nil
    rw [List.append_nil] at z
    exact z
  | _, _, _, bs, _, _, .cons g a, h => by
    rw [List.append_assoc]
    exact .cons g (slAll_snoc a h)
theorem depth_mem : ∀ {ds : List PyData} {d : PyData}, d ∈ ds → d.depth ≤ PyData.depthAll ds
  | e :: r, d, h => by
    simp only [PyData.depthAll]
    rcases List.mem_cons.mp h with q | q
    · rw [q]; omega
    · have := depth_mem q; omega
theorem lens_mem : ∀ {ds : List PyData} {d : PyData}, lensDs ds = true → d ∈ ds → lensD d = true
  | e :: r, d, h, m => by
    unfold lensDs at h
    obtain ⟨h1, h2⟩ := Bool.and_eq_true_iff.mp h
    rcases List.mem_cons.mp m with q | q
    · rw [q]; exact h1
    · exact lens_mem h2 q
theorem SpLoop.step {xs : List V} {ds : List PyData} {as : List Addr} {H0 H' : Hp} {i : Nat} {x : V} (h : SpLoop xs ds as H0 i H') (nd : as.Nodup) (hx : xs[i]? = some x) : ∃ d bs, d ∈ ds ∧ Tr H' x d bs ∧ bs.Nodup ∧ (∀ z ∈ bs, z ∈ as) ∧ ∀ H2, KeepBut bs H' H2 → Dm H' H2 → Sl H2 x d bs → SpLoop xs ds as H0 (i + 1) H2 := by
  obtain ⟨⟨xs1, xs2, ds1, ds2, as1, as2, e1, e2, e3, e4, h1, h2⟩, h3, h4⟩ := h
  rw [e1, List.getElem?_append_right (by omega), e4, Nat.sub_self] at hx
  cases h2 with
  | nil => simp at hx
  | @cons v vs d dr bs cs g a =>
    simp at hx
    subst hx
    rw [e3] at nd
    obtain ⟨n1, n2, n3⟩ := List.nodup_append.mp nd
    obtain ⟨n4, n5, n6⟩ := List.nodup_append.mp n2
    have sub : ∀ z ∈ bs, z ∈ as := fun z hz => by
      rw [e3]
      exact List.mem_append.mpr (.inr (List.mem_append.mpr (.inl hz)))
    refine ⟨d, bs, by rw [e2]; simp, g, n4, sub, fun H2 kb dm sl => ⟨⟨xs1 ++ [v], vs, ds1 ++ [d], dr, as1 ++ bs, cs, by rw [e1]; simp, by rw [e2]; simp, by rw [e3]; simp, by simp [e4], ?_, ?_⟩, kb_trans h3 (kb_sub kb sub), h4.trans dm⟩⟩
    · exact slAll_snoc (SlAll.keep kb (fun c hc => g.has c hc) h1 fun z hz hb => n3 z hz z (List.mem_append.mpr (.inl hb)) rfl) sl
    · exact TrAll.keep kb (fun c hc => g.has c hc) a fun z hz hb => n6 z hb z hz rfl
theorem SpLoop.done {xs : List V} {ds : List PyData} {as : List Addr} {H0 H' : Hp} (h : SpLoop xs ds as H0 xs.length H') : SlAll H' xs ds as := by
  obtain ⟨⟨xs1, xs2, ds1, ds2, as1, as2, e1, e2, e3, e4, h1, h2⟩, h3, h4⟩ := h
  have z : xs2 = [] := by
    have := congrArg List.length e1
    rw [List.length_append] at this
    exact List.eq_nil_of_length_eq_zero (by omega)
  subst z
  cases h2
  rw [List.append_nil] at e1 e2 e3
  rw [e1, e2, e3]
  exact h1
theorem wp_drop {σ : L2.St} {H : Hp} {te : TE} {D : Ends} (h : te σ H fun _ H1 => D.nx σ H1) : tDrop te D σ H := h
theorem w_sp {σ : L2.St} {H : Hp} {i n : Nat} {x : V} {E : XK} {Q : VK} (h : σ[i]? = some (some x)) (k : SpSp n [x] H Q E) : tCall (SpSp n) [] E (tCons (tVar i) tNil) σ H Q := ⟨x, h, k⟩
theorem st__law_spoilt (S : Env P w K mg base) (n : Nat) (ih : Cl P w K mg base (n + 1) "_law_spoilt" ["thing"] (SpSp n)) : Cl P w K mg base (n + 2) "_law_spoilt" ["thing"] (SpSp (n + 1)) := mk_cl S.fun__law_spoilt S.glo__law_spoilt sc__law_spoilt (fun _ _ _ _ _ _ us hl => match us, hl with | [_], _ => rfl) (SpSp.len) fun cdv A outer s H vs Q E hr h => by
  have nd := sc__law_spoilt.nd
  refine ⟨_, (pss_cons (ps_if (pt_val (pe_callB (r := rIsi K) (id := "isinstance") call_isi (by rfl) S.free_isinstance (by decide +kernel) (pa_cons (pv 0) (pa_cons (pe_bltn (v := V.ty "dict") (by rfl) S.free_dict (by decide +kernel) rfl) pa_nil)))) pss_dead pss_nil)
    (pss_cons (ps_if (pt_val (pe_callB (r := rIsiT K) (id := "isinstance") call_isiT (by rfl) S.free_isinstance (by decide +kernel) (pa_cons (pv 0) (pa_cons (pe_tup (pa_cons (pe_bltn (v := V.ty "list") (by rfl) S.free_list (by decide +kernel) rfl) (pa_cons (pe_bltn (v := V.ty "tuple") (by rfl) S.free_tuple (by decide +kernel) rfl) pa_nil))) pa_nil)))) (pss_one (ps_for (passes_of rfl) rfl (pi_anyK (K := K) rfl (pv 0)) (pg_name (i := 2) nd rfl (by first | exact Or.inl rfl | exact Or.inr rfl))
    (pss_one (ps_expr (pe_cl ih hr (Nat.le_refl _) pass_none (by rfl) (pa_cons (pv 2) pa_nil)))))) pss_nil)
    (pss_one (ps_if (pt_val (pe_callB (r := rIsi K) (id := "isinstance") call_isi (by rfl) S.free_isinstance (by decide +kernel) (pa_cons (pv 0) (pa_cons (pe_bltn (v := V.ty "list") (by rfl) S.free_list (by decide +kernel) rfl) pa_nil)))) (pss_one (ps_expr (pe_bmK (K := K) (r := rAppend) rfl PySem.F.plainAttrs_list PySem.F.slot_list_append PySem.F.type_list_append mt_append (pv 0) (pa_cons pe_str pa_nil)))) pss_nil)))), ?_⟩
  obtain ⟨v, d, as, rfl, ht, nd, dd, ld, hQ⟩ := h
  refine wp_if (wp_t (t_B (d_isDict (d_var rfl ht.dt) ld)) (Ex.refl H) fun H1 e1 => ?_)
  rw [if_neg (by decide)]
  refine wp_if (wp_t (t_B (d_isiT2 (d_var rfl (ht.ex e1).dt) (ty_of (lens_ins ld)) (row_kit d (lens_ins ld)))) (Ex.refl H1) fun H2 e2 => ?_)
  have e12 := e1.trans e2
  have ht2 := ht.ex e12
  clear ht
  cases ht2 with
  | non =>
    rw [if_neg (by decide)]
    refine wp_ifE (wp_t (t_B (d_isList (d_var rfl .non) rfl)) (Ex.refl H2) fun H3 e3 => ?_)
    rw [if_neg (by decide)]
    exact hQ H3 (keep_of (e12.trans e3)) (exdm (e12.trans e3)) .non
  | int i =>
    rw [if_neg (by intro z; cases z)]
    refine wp_ifE (wp_t (t_B (d_isList (d_var rfl (.int i)) rfl)) (Ex.refl H2) fun H3 e3 => ?_)
    rw [if_neg (by intro z; cases z)]
    exact hQ H3 (keep_of (e12.trans e3)) (exdm (e12.trans e3)) (.int i)
  | @lst a xs ds as' ha hx =>
    rw [if_pos (by rfl)]
    obtain ⟨na, nd'⟩ := List.nodup_cons.mp nd
    simp only [PyData.depth] at dd
    unfold lensD at ld
    obtain ⟨l1, l2⟩ := Bool.and_eq_true_iff.mp ld
    have l1 := of_decide_eq_true l1
    have xl := hx.dt.len
    refine Or.inl ⟨.ref a, rfl, a, rfl, ⟨xs, SqL.of ha⟩, ?_⟩
    refine for_items (rest := fun D => D.nx) (xs := xs) (fun σ' => ∃ y, σ' = [some (.ref a), none, y]) (fun i H' => SpLoop xs ds as' H2 i H' ∧ H' a = some (.lst xs)) (fun i H' x ⟨_, g⟩ hx' => ⟨xs, x, SqL.of g, hx'⟩) (fun i H' x H'' ⟨_, g⟩ y => ⟨y.1, fun _ => y.2 xs (SqL.of g)⟩) (fun i H' ⟨_, g⟩ hl => ⟨xs, SqL.of g, hl⟩) ⟨none, rfl⟩ ⟨⟨⟨[], xs, [], ds, [], as', rfl, rfl, rfl, rfl, .nil, hx⟩, fun _ _ _ h => h, Dm.refl _⟩, ha⟩ ?_ ?_
    · rintro i σ' H' x hxi ⟨y, rfl⟩ ⟨g1, g2⟩ N hN
      obtain ⟨d', bs, dm', tr', nd2, sub, nx⟩ := g1.step nd' hxi
      refine wp_drop (w_sp rfl ⟨x, d', bs, rfl, tr', nd2, by have := depth_mem dm'; omega, lens_mem l2 dm', fun H3 kb dm sl => ?_⟩)
      exact hN _ H3 ⟨_, rfl⟩ ⟨nx H3 kb dm sl, kb a _ (fun m => na (sub a m)) g2⟩
    · rintro σ' H' ⟨y, rfl⟩ ⟨g1, g2⟩
      have sa := g1.done
      refine wp_ifE (wp_t (t_B (d_isi (d := .list (lateDs ds)) (d_var rfl (.lst g2 sa.dt)) (ty_of rfl) (kit_ty kl3))) (Ex.refl H') fun H3 e3 => ?_)
      rw [if_pos rfl]
      have g3 := e3 _ _ g2
      refine wp_drop ⟨.ref a, rfl, Or.inl ⟨rfl, _, sq_of g3⟩, a, xs, .str "late9", rfl, rfl, g3, sz_lt (by omega), ?_⟩
      have kp : KeepBut (a :: as') H H3 := kb_trans (keep_of e12) (kb_trans (kb_sub g1.keep fun z hz => List.mem_cons_of_mem _ hz) (keep_of e3))
      refine hQ _ (fun b o n h => ?_) (fun b h => ?_) (.lst upd_same (SlAll.keep (cs := [a]) (fun b o n h => ?_) (fun c hc => ?_) sa fun z hz hb => ?_))
      · rw [upd_ne fun q => n (by rw [q]; exact List.mem_cons_self ..)]
        exact kp b o n h
      · by_cases q : b = a
        · rw [q, upd_same] at h; cases h
        · rw [upd_ne q] at h
          exact exdm e12 b (g1.dm b (exdm e3 b h))
      · rw [upd_ne fun q => n (by rw [q]; exact List.mem_singleton.mpr rfl)]
        exact e3 b o h
      · rw [List.mem_singleton.mp hc]
        exact ⟨xs, g2⟩
      · rw [List.mem_singleton.mp hb] at hz
        exact na hz
  | @tup a xs ds as ha hx =>
    rw [if_pos (by rfl)]
    simp only [PyData.depth] at dd
    unfold lensD at ld
    obtain ⟨l1, l2⟩ := Bool.and_eq_true_iff.mp ld
    refine Or.inr ⟨.ref a, rfl, a, rfl, ⟨xs, SqT.of ha⟩, ?_⟩
    have nal : a ∉ as := fun m => by
      obtain ⟨ys, z⟩ := hx.has a m
      rw [ha] at z
      cases z
    refine for_items (rest := fun D => D.nx) (xs := xs) (fun σ' => ∃ y, σ' = [some (.ref a), none, y]) (fun i H' => SpLoop xs ds as H2 i H' ∧ H' a = some (.tup xs)) (fun i H' x ⟨_, g⟩ hx' => ⟨xs, x, SqT.of g, hx'⟩) (fun i H' x H'' ⟨_, g⟩ y => ⟨y.1, fun _ => y.2 xs (SqT.of g)⟩) (fun i H' ⟨_, g⟩ hl => ⟨xs, SqT.of g, hl⟩) ⟨none, rfl⟩ ⟨⟨⟨[], xs, [], ds, [], as, rfl, rfl, rfl, rfl, .nil, hx⟩, fun _ _ _ h => h, Dm.refl _⟩, ha⟩ ?_ ?_
    · rintro i σ' H' x hxi ⟨y, rfl⟩ ⟨g1, g2⟩ N hN
      obtain ⟨d', bs, dm', tr', nd2, sub, nx⟩ := g1.step nd hxi
      refine wp_drop (w_sp rfl ⟨x, d', bs, rfl, tr', nd2, by have := depth_mem dm'; omega, lens_mem l2 dm', fun H3 kb dm sl => ?_⟩)
      exact hN _ H3 ⟨_, rfl⟩ ⟨nx H3 kb dm sl, kb a _ (fun m => nal (sub a m)) g2⟩
    · rintro σ' H' ⟨y, rfl⟩ ⟨g1, g2⟩
      have sa := g1.done
      refine wp_ifE (wp_t (t_B (d_isi (d := .tuple (lateDs ds)) (d_var rfl (.tup g2 sa.dt)) (ty_of rfl) (kit_ty kl4))) (Ex.refl H') fun H3 e3 => ?_)
      rw [if_neg (by decide)]
      exact hQ H3 (kb_trans (keep_of e12) (kb_trans g1.keep (keep_of e3))) (fun b h => exdm e12 b (g1.dm b (exdm e3 b h))) (.tup (e3 _ _ g2) (SlAll.keep (cs := []) (fun b o _ h => e3 b o h) (fun c hc => nomatch hc) sa fun z _ hb => nomatch hb))
theorem cl__law_spoilt (S : Env P w K mg base) : ∀ n, Cl P w K mg base (n + 1) "_law_spoilt" ["thing"] (SpSp n)
  | 0 => mk_cl S.fun__law_spoilt S.glo__law_spoilt sc__law_spoilt (fun _ _ _ _ _ _ us hl => match us, hl with | [_], _ => rfl) SpSp.len fun cdv A outer s H vs Q E hr h => by
    obtain ⟨v, d, as, _, _, _, z, _⟩ := h
    exact absurd z (Nat.not_lt_zero _)
  | n + 1 => st__law_spoilt S n (cl__law_spoilt S n)
end
end K05
namespace K05
open PySem PySem.Spec PyProof.Rows L2 Evl WB
section
variable {P : Program} {w : World} {K : PySem.W.Frag} {mg : Str → Option Value} {base : Heap}
abbrev late : PyData := .str "late9"
theorem wk_anyL {σ : L2.St} {F : Hp} {tl : TE} {ds : List PyData} (h : EvD tl σ F (.list ds)) : WkD (iAny K tl) σ F ds := fun H1 e R q => Or.inl (wk_list h H1 e R q)
theorem wk_anyT {σ : L2.St} {F : Hp} {tl : TE} {ds : List PyData} (h : EvD tl σ F (.tuple ds)) : WkD (iAny K tl) σ F ds := fun H1 e R q => Or.inr (wk_tup h H1 e R q)
/-- what is looked at: a part that was spoilt, or the thing more -/
def OnceE (n : Nat) (e : PyData) : Prop := (∃ d, e = lateD d ∧ lensD d = true ∧ d.depth < n ∧ d.depth ≤ 50) ∨ (e = late ∧ 0 < n)
theorem plainDs_app : ∀ (xs ys : List PyData), plainDs (xs ++ ys) = (plainDs xs && plainDs ys)
  | [], ys => by show plainDs ys = (true && plainDs ys); rw [Bool.true_and]
  | x :: xs, ys => by
    show (plainD x && plainDs (xs ++ ys)) = ((plainD x && plainDs xs) && plainDs ys)
    rw [plainDs_app xs ys, Bool.and_assoc]
theorem lay_app : ∀ (xs ys : List PyData), PyData.canLayAll0 (xs ++ ys) = (PyData.canLayAll0 xs && PyData.canLayAll0 ys)
  | [], ys => by simp [PyData.canLayAll0]
  | x :: xs, ys => by simp [PyData.canLayAll0, lay_app xs ys, Bool.and_assoc]
theorem depth_app : ∀ (xs ys : List PyData), PyData.depthAll (xs ++ ys) = max (PyData.depthAll xs) (PyData.depthAll ys)
  | [], ys => by simp [PyData.depthAll]
  | x :: xs, ys => by simp [PyData.depthAll, depth_app xs ys, Nat.max_assoc]
mutual
theorem late_lay : ∀ d : PyData, lensD d = true → (lateD d).canLay0 = true
  | .none, _ => by simp [lateD, PyData.canLay0]
  | .int _, _ => by simp [lateD, PyData.canLay0]
  | .list ds, h => by
    unfold lensD at h
    unfold lateD
    have z := lates_lay ds (Bool.and_eq_true_iff.mp h).2
    simp only [PyData.canLay0]
    rw [lay_app, z]
    decide +kernel
  | .tuple ds, h => by
    unfold lensD at h
    unfold lateD
    simp only [PyData.canLay0]
    exact lates_lay ds (Bool.and_eq_true_iff.mp h).2
  | .bool _, h => by cases h
  | .str _, h => by cases h
  | .dict _, h => by cases h
theorem lates_lay : ∀ ds : List PyData, lensDs ds = true → PyData.canLayAll0 (lateDs ds) = true
  | [], _ => by simp [lateDs, PyData.canLayAll0]
  | d :: ds, h => by
    unfold lensDs at h
    obtain ⟨h1, h2⟩ := Bool.and_eq_true_iff.mp h
    unfold lateDs
    simp only [PyData.canLayAll0]
    rw [late_lay d h1, lates_lay ds h2]
    rfl
end
mutual
theorem late_depth : ∀ d : PyData, (lateD d).depth = d.depth
  | .none => rfl
  | .int _ => rfl
  | .list ds => by
    unfold lateD
    simp only [PyData.depth]
    rw [depth_app, lates_depth ds]
    simp [PyData.depthAll, PyData.depth]
  | .tuple ds => by
    unfold lateD
    simp only [PyData.depth]
    rw [lates_depth ds]
  | .bool _ => rfl
  | .str _ => rfl
  | .dict _ => rfl
theorem lates_depth : ∀ ds : List PyData, PyData.depthAll (lateDs ds) = PyData.depthAll ds
  | [] => rfl
  | d :: ds => by
    unfold lateDs
    simp only [PyData.depthAll]
    rw [late_depth d, lates_depth ds]
end
theorem shaped_of {d : PyData} (h1 : d.canLay0 = true) (h2 : d.depth ≤ 64) : SeqAt.shaped d = true := by
  show (d.canLay0 && decide (d.depth ≤ 64)) = true
  rw [Bool.and_eq_true]
  exact ⟨h1, decide_eq_true h2⟩
theorem late_count : ∀ ds : List PyData, lensDs ds = true → (lateDs ds).countP (fun z => PyData.eqv z late) = 0
  | [], _ => rfl
  | d :: ds, h => by
    unfold lensDs at h
    obtain ⟨h1, h2⟩ := Bool.and_eq_true_iff.mp h
    unfold lateDs
    rw [List.countP_cons, late_count ds h2]
    have e : PyData.eqv (lateD d) late = false := by
      cases d with
      | none => simp [lateD, late, PyData.eqv]
      | int i => simp [lateD, late, PyData.eqv]
      | list l => simp [lateD, late, PyData.eqv]
      | tuple l => simp [lateD, late, PyData.eqv]
      | _ => cases h1
    rw [e]
    rfl
mutual
theorem late_plain : ∀ d : PyData, lensD d = true → plainD (lateD d) = true
  | .none, _ => rfl
  | .int _, _ => rfl
  | .list ds, h => by
    unfold lensD at h
    unfold lateD plainD
    have z := lates_plain ds (Bool.and_eq_true_iff.mp h).2
    rw [plainDs_app, z]
    rfl
  | .tuple ds, h => by
    unfold lensD at h
    unfold lateD plainD
    exact lates_plain ds (Bool.and_eq_true_iff.mp h).2
  | .bool _, h => by cases h
  | .str _, h => by cases h
  | .dict _, h => by cases h
theorem lates_plain : ∀ ds : List PyData, lensDs ds = true → plainDs (lateDs ds) = true
  | [], _ => rfl
  | d :: ds, h => by
    unfold lensDs at h
    obtain ⟨h1, h2⟩ := Bool.and_eq_true_iff.mp h
    unfold lateDs plainDs
    rw [late_plain d h1, lates_plain ds h2]
    rfl
end
def c_once (n : Nat) (ds : List PyData) (r : PyData) : Prop := ∃ e, ds = [e] ∧ OnceE n e ∧ r = .bool true
abbrev SpOn (n : Nat) : Sp := SpD (c_once n)
theorem SpOn_len {n : Nat} (vs : List V) (H : Hp) (Q : VK) (E : XK) (h : SpOn n vs H Q E) : vs.length = 1 := SpD.len (fun _ _ ⟨_, e, _⟩ => e ▸ rfl) vs H Q E h
theorem ks1 : kitB "str" "dict" = some false := by decide +kernel
theorem lates_mem : ∀ {ds : List PyData} {e : PyData}, e ∈ lateDs ds → ∃ d ∈ ds, e = lateD d
  | [], _, h => by cases h
  | d :: ds, e, h => by
    unfold lateDs at h
    rcases List.mem_cons.mp h with q | q
    · exact ⟨d, List.mem_cons_self .., q⟩
    · obtain ⟨d', h1, h2⟩ := lates_mem q
      exact ⟨d', List.mem_cons_of_mem _ h1, h2⟩
theorem lates_len : ∀ ds : List PyData, (lateDs ds).length = ds.length
  | [] => rfl
  | d :: ds => by
    unfold lateDs
    rw [List.length_cons, List.length_cons, lates_len ds]
theorem all_true (ds : List PyData) : ((ds.map fun _ => true).all id) = true := by
  rw [List.all_eq_true]
  intro x hx
  obtain ⟨_, _, rfl⟩ := List.mem_map.mp hx
  rfl
theorem st__law_is_once (S : Env P w K mg base) (n : Nat) (ih : Cl P w K mg base (n + 1) "_law_is_once" ["thing"] (SpOn n)) : Cl P w K mg base (n + 2) "_law_is_once" ["thing"] (SpOn (n + 1)) := mk_cl S.fun__law_is_once S.glo__law_is_once sc__law_is_once (fun _ _ _ _ _ _ us hl => match us, hl with | [_], _ => rfl) (SpOn_len) fun cdv A outer s H vs Q E hr h => by
  have nd := sc__law_is_once.nd
  refine ⟨_, (pss_cons (ps_if (pt_val (pe_callB (r := rIsi K) (id := "isinstance") call_isi (by rfl) S.free_isinstance (by decide +kernel) (pa_cons (pv 0) (pa_cons (pe_bltn (v := V.ty "dict") (by rfl) S.free_dict (by decide +kernel) rfl) pa_nil)))) pss_dead pss_nil)
    (pss_cons (ps_if (pt_val (pe_callB (r := rIsiT K) (id := "isinstance") call_isiT (by rfl) S.free_isinstance (by decide +kernel) (pa_cons (pv 0) (pa_cons (pe_tup (pa_cons (pe_bltn (v := V.ty "list") (by rfl) S.free_list (by decide +kernel) rfl) (pa_cons (pe_bltn (v := V.ty "tuple") (by rfl) S.free_tuple (by decide +kernel) rfl) pa_nil))) pa_nil)))) (pss_cons (ps_set (i := 2) nd rfl (by first | exact Or.inl rfl | exact Or.inr rfl) (pe_callTy (r := rIntQ) (T := "int") call_int1 (by rfl) S.free_int (by decide +kernel) (pa_cons (pe_callB (r := rIsi K) (id := "isinstance") call_isi (by rfl) S.free_isinstance (by decide +kernel) (pa_cons (pv 0) (pa_cons (pe_bltn (v := V.ty "list") (by rfl) S.free_list (by decide +kernel) rfl) pa_nil))) pa_nil)))
    (pss_one (ps_ret (pe_and (pe_cmpR op_eq (pe_bmK (K := K) (r := rCountD K) rfl PySem.F.plainAttrs_list PySem.F.slot_list_count PySem.F.type_list_count (mt_countD (u65 hr)) (pe_callTy (r := rListQ K) (T := "list") call_list_of (by rfl) S.free_list (by decide +kernel) (pa_cons (pv 0) pa_nil)) (pa_cons pe_str pa_nil)) (pv 2) (nomark _)) (pe_one (pe_callB (r := rAll K) (id := "all") (cr_all rfl) (by rfl) S.free_all (by decide +kernel) (pa_cons (pe_lc (own := [("part", 3)]) rfl nd (pi_anyK (K := K) rfl (pv 0)) (blkOk_by (N := ["thing", "key", "many", "part"]) (sc := defScope s__law_is_once) (by decide +kernel)) (fun _ _ _ _ _ => (pg_name (i := 3) nd rfl (by first | exact Or.inl rfl | exact Or.inr rfl))) (fun _ _ _ _ _ => pts_nil) (fun _ _ _ _ _ => (pe_cl ih hr (Nat.le_refl _) pass_none (by rfl) (pa_cons (pv 3) pa_nil)))) pa_nil))))))) pss_nil)
    (pss_one (ps_ret pe_bl)))), ?_⟩
  obtain ⟨F0, ds, r, e0, hd, ⟨e, rfl, he, rfl⟩, hQ⟩ := h
  obtain ⟨x, rfl, hx⟩ := da1_ hd
  have kn := Kn.start e0
  rcases he with ⟨d, rfl, ld, dd, d50⟩ | ⟨rfl, n0⟩
  · cases d with
    | none => exact q_ifF kn (t_B (d_isi (d_var rfl hx) (ty_of rfl) (kit_ty kq1))) rfl fun F1 H1 s1 => q_ifF s1.kn (t_B (d_isiT2 (d_var rfl (hx.ex s1.ff)) (ty_of rfl) (row_kit _ rfl))) rfl fun F2 H2 s2 => k_fin (Q := Q) (r := .bool true) hQ s2.kn d_bl
    | int i => exact q_ifF kn (t_B (d_isi (d_var rfl hx) (ty_of rfl) (kit_ty kq2))) rfl fun F1 H1 s1 => q_ifF s1.kn (t_B (d_isiT2 (d_var rfl (hx.ex s1.ff)) (ty_of rfl) (row_kit _ rfl))) rfl fun F2 H2 s2 => k_fin (Q := Q) (r := .bool true) hQ s2.kn d_bl
    | list ds =>
      replace hx : Dt F0 x (.list (lateDs ds ++ [late])) := hx
      simp only [PyData.depth] at dd d50
      unfold lensD at ld
      obtain ⟨l1, l2⟩ := Bool.and_eq_true_iff.mp ld
      have l1 := of_decide_eq_true l1
      refine q_ifF kn (t_B (d_isi (d_var rfl hx) (ty_of rfl) (kit_ty kq3))) rfl fun F1 H1 s1 => ?_
      refine q_ifT s1.kn (t_B (d_isiT2 (d_var rfl (hx.ex s1.ff)) (ty_of rfl) (row_kit _ rfl))) rfl fun F2 H2 s2 => ?_
      have t2 := s1.trans s2
      refine q_asg s2.kn (d_intB (d_isi (d_var rfl (hx.ex t2.ff)) (ty_of rfl) (kit_ty kl3))) fun v F3 H3 s3 hv => ?_
      have hx3 := (hx.ex t2.ff).ex s3.ff
      refine k_fin (Q := Q) hQ s3.kn ((d_and (d_eq (d_cntD (d_listL (d_var rfl hx3)) d_str rfl ?_ (shaped_of (by decide +kernel) (by decide +kernel)) (shaped_of ?_ ?_)) (d_var rfl hv)) fun _ => d_allL (bs := (lateDs ds ++ [late]).map fun _ => true) (d_lcn (wk_anyL (d_var rfl hx3)) ?_ (by simp) fun i d r v F'' hi hr e1 hd' => ?_)).is ?_)
      · rw [plainDs_app, lates_plain ds l2]
        rfl
      · simp only [PyData.canLay0]
        rw [lay_app, lates_lay ds l2]
        decide +kernel
      · simp only [PyData.depth]
        rw [depth_app, lates_depth ds]
        simp only [PyData.depthAll, PyData.depth]
        omega
      · rw [List.length_append, lates_len]
        show ds.length + 1 ≤ _
        omega
      · rw [List.map_map] at hr
        obtain ⟨_, _, rfl⟩ := map_at hr
        refine d_call (da_cons (d_var rfl hd') da_nil) ⟨_, rfl, ?_, rfl⟩
        rcases List.mem_append.mp (List.mem_of_getElem? hi) with m | m
        · obtain ⟨d', m', rfl⟩ := lates_mem m
          exact .inl ⟨d', rfl, lens_mem l2 m', by have := depth_mem m'; omega, by have := depth_mem m'; omega⟩
        · rw [List.mem_singleton.mp m]
          exact .inr ⟨rfl, by omega⟩
      · rw [all_true, List.countP_append, late_count ds l2]
        exact congrArg PyData.bool (by decide +kernel)
    | tuple ds =>
      replace hx : Dt F0 x (.tuple (lateDs ds)) := hx
      simp only [PyData.depth] at dd d50
      unfold lensD at ld
      obtain ⟨l1, l2⟩ := Bool.and_eq_true_iff.mp ld
      have l1 := of_decide_eq_true l1
      refine q_ifF kn (t_B (d_isi (d_var rfl hx) (ty_of rfl) (kit_ty kq4))) rfl fun F1 H1 s1 => ?_
      refine q_ifT s1.kn (t_B (d_isiT2 (d_var rfl (hx.ex s1.ff)) (ty_of rfl) (row_kit _ rfl))) rfl fun F2 H2 s2 => ?_
      have t2 := s1.trans s2
      refine q_asg s2.kn (d_intB (d_isi (d_var rfl (hx.ex t2.ff)) (ty_of rfl) (kit_ty kl4))) fun v F3 H3 s3 hv => ?_
      have hx3 := (hx.ex t2.ff).ex s3.ff
      refine k_fin (Q := Q) hQ s3.kn ((d_and (d_eq (d_cntD (d_listT (d_var rfl hx3)) d_str rfl ?_ (shaped_of (by decide +kernel) (by decide +kernel)) (shaped_of ?_ ?_)) (d_var rfl hv)) fun _ => d_allL (bs := (lateDs ds).map fun _ => true) (d_lcn (wk_anyT (d_var rfl hx3)) ?_ (by simp) fun i d r v F'' hi hr e1 hd' => ?_)).is ?_)
      · exact lates_plain ds l2
      · simp only [PyData.canLay0]
        exact lates_lay ds l2
      · simp only [PyData.depth]
        rw [lates_depth ds]
        omega
      · rw [lates_len]
        omega
      · rw [List.map_map] at hr
        obtain ⟨_, _, rfl⟩ := map_at hr
        refine d_call (da_cons (d_var rfl hd') da_nil) ⟨_, rfl, ?_, rfl⟩
        obtain ⟨d', m', rfl⟩ := lates_mem (List.mem_of_getElem? hi)
        exact .inl ⟨d', rfl, lens_mem l2 m', by have := depth_mem m'; omega, by have := depth_mem m'; omega⟩
      · rw [all_true, late_count ds l2]
        exact congrArg PyData.bool (by decide +kernel)
    | _ => cases ld
  · exact q_ifF kn (t_B (d_isi (d_var rfl hx) (ty_of rfl) (kit_ty ks1))) rfl fun F1 H1 s1 => q_ifF s1.kn (t_B (d_isiT2 (d_var rfl (hx.ex s1.ff)) (ty_of rfl) (row_kit _ rfl))) rfl fun F2 H2 s2 => k_fin (Q := Q) (r := .bool true) hQ s2.kn d_bl
theorem cl__law_is_once (S : Env P w K mg base) : ∀ n, Cl P w K mg base (n + 1) "_law_is_once" ["thing"] (SpOn n)
  | 0 => mk_cl S.fun__law_is_once S.glo__law_is_once sc__law_is_once (fun _ _ _ _ _ _ us hl => match us, hl with | [_], _ => rfl) SpOn_len fun cdv A outer s H vs Q E hr h => by
    obtain ⟨F, ds, r, _, _, ⟨e, _, z, _⟩, _⟩ := h
    rcases z with ⟨d, _, _, z, _⟩ | ⟨_, z⟩
    · exact absurd z (Nat.not_lt_zero _)
    · exact absurd z (Nat.not_lt_zero _)
  | n + 1 => st__law_is_once S n (cl__law_is_once S n)
/-- the promise of both: a tree of one's own, nothing else is written -/
def SpAp : Sp := fun vs H Q _ => ∃ F v d as, vs = [v] ∧ Ex F H ∧ (∀ a ∈ as, F a = none) ∧ Tr H v d as ∧ as.Nodup ∧ d.depth < 6 ∧ lensD d = true ∧ ∀ H', KeepBut as H H' → Dm H H' → Q (.bl true) H'
theorem SpAp_len (vs : List V) (H : Hp) (Q : VK) (E : XK) (h : SpAp vs H Q E) : vs.length = 1 := by
  obtain ⟨F, v, d, as, rfl, _⟩ := h
  rfl
theorem wp_dropQ {σ : L2.St} {H : Hp} {te : TE} {D : Ends} {rest : TS} (h : te σ H fun _ H1 => rest D σ H1) : tSeq (tDrop te) rest D σ H := h
theorem cl6_spoilt (S : Env P w K mg base) : Cl P w K mg base 7 "_law_spoilt" ["thing"] (SpSp 6) := cl__law_spoilt S 6
theorem cl6_once (S : Env P w K mg base) : Cl P w K mg base 7 "_law_is_once" ["thing"] (SpOn 6) := cl__law_is_once S 6
theorem cl__law_apart (S : Env P w K mg base) : Cl P w K mg base 8 "_law_apart" ["thing"] SpAp := mk_cl S.fun__law_apart S.glo__law_apart sc__law_apart (fun _ _ _ _ _ _ us hl => match us, hl with | [_], _ => rfl) (SpAp_len) fun cdv A outer s H vs Q E hr h => by
  have nd := sc__law_apart.nd
  refine ⟨_, (pss_cons (ps_expr (pe_cl (cl6_spoilt S) hr (by decide) pass_none (by rfl) (pa_cons (pv 0) pa_nil)))
    (pss_one (ps_ret (pe_cl (cl6_once S) hr (by decide) pass_none (by rfl) (pa_cons (pv 0) pa_nil))))), ?_⟩
  obtain ⟨F, v, d, as, rfl, e0, fa, ht, nd, dd, ld, hQ⟩ := h
  refine wp_dropQ (w_sp rfl ⟨v, d, as, rfl, ht, nd, dd, ld, fun H1 kb dm sl => ?_⟩)
  refine wp_ret ?_
  refine d_call (F := H1) (da_cons (d_var rfl sl.dt) da_nil) ⟨_, rfl, .inl ⟨d, rfl, ld, dd, by omega⟩, rfl⟩ H1 (Ex.refl _) _ fun u H2 e2 hu => ?_
  cases hu.bool_
  exact hQ H2 (kb_trans kb (keep_of e2)) (fun b h => dm b (exdm e2 b h))
end
end K05
namespace K05
open PySem PySem.Spec PyProof.Rows L2 Evl WB
section
variable {P : Program} {w : World} {K : PySem.W.Frag} {mg : Str → Option Value} {base : Heap}
/-- one Book without rules -/
abbrev RB (K : PySem.W.Frag) : Addr → Addr → Hp → Prop := fun a b H => a = b ∧ BookAt (CB K) [] H (.ref a)
abbrev rSame (K : PySem.W.Frag) : R2 := fun x y H Q => rEqD K x y H Q ∨ (fun x y H Q => rEqG (DIns (CB K) (RB K)) x y H Q ∨ rEq x y H Q) x y H Q
theorem mt_Book___eq__ (S : Env P w K mg base) : Mt P w K mg base 1 (He.ga K "Book") "__eq__" ["self", "other"] (spEq (RB K)) := mk_mt S.fun_Book___eq__ S.cls_Book S.meth_Book___eq__ sc_Book___eq__ (fun _ _ _ _ _ _ us hl => match us, hl with | [_, _], _ => rfl) (fun vs H Q E ⟨_, _, e, _⟩ => by rw [e]; rfl) fun cdv A outer s H vs Q E hr h => by
  have nd := sc_Book___eq__.nd
  refine ⟨_, (pss_one (ps_ret (pe_and (pe_callB (r := rIsi K) (id := "isinstance") call_isi (by rfl) S.free_isinstance (by decide +kernel) (pa_cons (pv 1) (pa_cons (pe_glob (v := V.ref (He.ga K "Book")) (by rfl) S.glo_Book rfl) pa_nil))) (pe_one (pe_cmpR (r := rEqD K) (op_eqD hr.units) (pe_fldK (K := K) rfl (pv 0)) (pe_fldK (K := K) rfl (pv 1)) (nomark _)))))), ?_⟩
  obtain ⟨a, b, rfl, ⟨rfl, hb⟩, hQ⟩ := h
  have kn := Kn.start (Ex.refl H)
  refine k_fin (Q := Q) (r := .bool true) (fun v H' e hv => ?_) kn ((d_and (p_isiO (p_var rfl hb (BookAt.mo _ _)) (bk_ty S) (BookAt.mo _ _) S.kit_Book_Book) fun _ => d_eqD (d1 := rulesD []) (d2 := rulesD []) (EvP.toD (p_fld S.cls_Book S.noat_Book__rules (p_var rfl hb (BookAt.mo _ _)) fun G v ⟨a, dx, l, e1, e2, e3⟩ => ⟨a, dx, _, _, e1, e2, rfl, e3⟩)) (EvP.toD (p_fld S.cls_Book S.noat_Book__rules (p_var rfl hb (BookAt.mo _ _)) fun G v ⟨a, dx, l, e1, e2, e3⟩ => ⟨a, dx, _, _, e1, e2, rfl, e3⟩)) rfl rfl (shaped_of (by decide +kernel) (by decide +kernel)) (shaped_of (by decide +kernel) (by decide +kernel))).is ?_)
  · cases hv.bool_
    exact hQ H' e
  · exact congrArg PyData.bool (by decide +kernel)
theorem rc_Book {X : Cx} (S : Env X.prog X.w X.K X.mg X.base) : RcG X 1 (DIns (CB X.K) (RB X.K)) := by
  obtain ⟨f, fd, F, hc, hm, hb⟩ := mt_Book___eq__ S
  exact rcG_ins (E := fun _ _ _ => False) F hm.at_ hm.fn hb pass_none
mutual
/-- what is compared: numbers, truths, texts, None, lists, tuples, the empty dict, one instance -/
def okD (C : Addr) (o : Option Addr) : PyData → Prop
  | .none | .bool _ | .int _ | .str _ => True
  | .list ds => ds.length ≤ 30000 ∧ okDs C o ds
  | .tuple ds => ds.length ≤ 30000 ∧ okDs C o ds
  | .dict kvs => kvs = [] ∨ ∃ a, o = some a ∧ kvs = [(.int (a : Nat), .int (C : Nat))]
def okDs (C : Addr) (o : Option Addr) : List PyData → Prop
  | [] => True
  | d :: ds => okD C o d ∧ okDs C o ds
end
mutual
def dpS : PyData → Nat
  | .none | .bool _ | .int _ | .str _ => 0
  | .list ds => dpSs ds + 1
  | .tuple ds => dpSs ds + 1
  | .dict _ => 2
def dpSs : List PyData → Nat
  | [] => 0
  | d :: ds => max (dpS d) (dpSs ds)
end
theorem okDs_mem {C : Addr} {o : Option Addr} : ∀ {ds : List PyData} {d : PyData}, okDs C o ds → d ∈ ds → okD C o d ∧ dpS d ≤ dpSs ds
  | [], _, _, h => by cases h
  | e :: r, d, ok, h => by
    unfold okDs at ok
    unfold dpSs
    rcases List.mem_cons.mp h with q | q
    · rw [q]; exact ⟨ok.1, Nat.le_max_left ..⟩
    · obtain ⟨h1, h2⟩ := okDs_mem ok.2 q
      exact ⟨h1, Nat.le_trans h2 (Nat.le_max_right ..)⟩
def isTup : PyData → Bool
  | .tuple _ => true
  | _ => false
def isDic : PyData → Bool
  | .dict [] => true
  | _ => false
theorem ok_ty (S : Env P w K mg base) {o : Option Addr} {d : PyData} (ok : okD (CB K) o d) : HasTy K d := by
  cases d with
  | dict kvs =>
    unfold okD at ok
    rcases ok with rfl | ⟨a, _, rfl⟩
    · exact ty_of rfl
    · exact ty_ins fun H dx fs h => S.ins_Book h
  | _ => exact ty_of rfl
structure Kits (K : PySem.W.Frag) (d : PyData) : Prop where
  l : PySem.W.kitOne K (tyD d) (.type "list") = some (isLst d)
  t : PySem.W.kitOne K (tyD d) (.type "tuple") = some (isTup d)
  dc : PySem.W.kitOne K (tyD d) (.type "dict") = some (isDic d)
  i : PySem.W.kitOne K (tyD d) (.type "int") = some (isIntB d)
  b : PySem.W.kitOne K (tyD d) (.type "bool") = some (isBl d)
theorem ok_kits (S : Env P w K mg base) {o : Option Addr} {d : PyData} (ok : okD (CB K) o d) : Kits K d := by
  cases d with
  | dict kvs =>
    unfold okD at ok
    rcases ok with rfl | ⟨a, _, rfl⟩
    · exact ⟨kit_ty (r := false) (by decide +kernel), kit_ty (r := false) (by decide +kernel), kit_ty (r := true) (by decide +kernel), kit_ty (r := false) (by decide +kernel), kit_ty (r := false) (by decide +kernel)⟩
    · exact ⟨S.kot_Book_list, S.kot_Book_tuple, S.kot_Book_dict, S.kot_Book_int, S.kot_Book_bool⟩
  | none => exact ⟨kit_ty (r := false) (by decide +kernel), kit_ty (r := false) (by decide +kernel), kit_ty (r := false) (by decide +kernel), kit_ty (r := false) (by decide +kernel), kit_ty (r := false) (by decide +kernel)⟩
  | bool _ => exact ⟨kit_ty (r := false) (by decide +kernel), kit_ty (r := false) (by decide +kernel), kit_ty (r := false) (by decide +kernel), kit_ty (r := true) (by decide +kernel), kit_ty (r := true) (by decide +kernel)⟩
  | int _ => exact ⟨kit_ty (r := false) (by decide +kernel), kit_ty (r := false) (by decide +kernel), kit_ty (r := false) (by decide +kernel), kit_ty (r := true) (by decide +kernel), kit_ty (r := false) (by decide +kernel)⟩
  | str _ => exact ⟨kit_ty (r := false) (by decide +kernel), kit_ty (r := false) (by decide +kernel), kit_ty (r := false) (by decide +kernel), kit_ty (r := false) (by decide +kernel), kit_ty (r := false) (by decide +kernel)⟩
  | list _ => exact ⟨kit_ty (r := true) (by decide +kernel), kit_ty (r := false) (by decide +kernel), kit_ty (r := false) (by decide +kernel), kit_ty (r := false) (by decide +kernel), kit_ty (r := false) (by decide +kernel)⟩
  | tuple _ => exact ⟨kit_ty (r := false) (by decide +kernel), kit_ty (r := true) (by decide +kernel), kit_ty (r := false) (by decide +kernel), kit_ty (r := false) (by decide +kernel), kit_ty (r := false) (by decide +kernel)⟩
theorem any1 {t : Value} {us : List Value} {n : String} {a r : Bool} (h : PySem.W.kitOne K t (.type n) = some a) (h2 : PySem.W.kitAny K t us = some r) : PySem.W.kitAny K t (.type n :: us) = some (a || r) := by
  cases a with
  | false => exact kitAny_cons (b := false) h (fun _ => h2) (fun z => nomatch z)
  | true => exact kitAny_cons (b := true) h (fun z => nomatch z) (fun _ => rfl)
theorem Kits.row {d : PyData} (k : Kits K d) : PySem.W.kitAny K (tyD d) [.type "list", .type "tuple"] = some (isLst d || (isTup d || false)) := any1 k.l (any1 k.t kitAny_nil)
theorem Kits.four {d : PyData} (k : Kits K d) : PySem.W.kitAny K (tyD d) [.type "int", .type "list", .type "tuple", .type "dict"] = some (isIntB d || (isLst d || (isTup d || (isDic d || false)))) := any1 k.i (any1 k.l (any1 k.t (any1 k.dc kitAny_nil)))
/-- the promise: data of one kind, less deep than n -/
def SpSm (K : PySem.W.Frag) (n : Nat) : Sp := fun vs H Q _ => ∃ F x y d o, vs = [x, y] ∧ Ex F H ∧ Dt F x d ∧ Dt F y d ∧ okD (CB K) o d ∧ (∀ a, o = some a → BookAt (CB K) [] F (.ref a)) ∧ dpS d < n ∧ ∀ H', Ex H H' → Q (.bl true) H'
theorem SpSm_len {n : Nat} (vs : List V) (H : Hp) (Q : VK) (E : XK) (h : SpSm K n vs H Q E) : vs.length = 2 := by
  obtain ⟨_, _, _, _, _, rfl, _⟩ := h
  rfl
section
variable {σ : L2.St} {F : Hp} {ta tb : TE} {d : PyData} {o : Option Addr} {n : Nat} {E : XK}
theorem d_same (ha : EvD ta σ F d) (hb : EvD tb σ F d) (ok : okD (CB K) o d) (ho : ∀ a, o = some a → BookAt (CB K) [] F (.ref a)) (hn : dpS d < n) : EvD (tCall (SpSm K n) [] E (tCons ta (tCons tb tNil))) σ F (.bool true) := fun H1 e Q q => da_cons ha (da_cons hb da_nil) H1 e _ fun vs H2 e2 hv => by
  obtain ⟨x, y, rfl, hx, hy⟩ := da2_ hv
  show SpSm K n ([x, y] ++ []) H2 Q E
  exact ⟨nw F H1 H2, x, y, d, o, rfl, nw_ex (e.trans e2), hx, hy, ok, fun a h => BookAt.mo _ _ _ _ _ (ex_nw e) (ho a h), hn, fun H' e3 => q _ H' (e2.trans e3) (.bl true)⟩
theorem d_lenAL {ds : List PyData} (h : EvD ta σ F (.list ds)) : EvD (tCB (rLenA K) (tCons ta tNil)) σ F (.int (ds.length : Int)) := d_cb (da_cons h da_nil) (cb1 rfl fun H1 v hx Q q => by
  obtain ⟨a, ys, rfl, h2, h3⟩ := hx.list_
  exact .inl ⟨a, ys, rfl, .inl (SqL.of h2), by rw [h3.len]; exact q⟩)
theorem d_lenAT {ds : List PyData} (h : EvD ta σ F (.tuple ds)) : EvD (tCB (rLenA K) (tCons ta tNil)) σ F (.int (ds.length : Int)) := d_cb (da_cons h da_nil) (cb1 rfl fun H1 v hx Q q => by
  obtain ⟨a, ys, rfl, h2, h3⟩ := hx.tuple_
  exact .inl ⟨a, ys, rfl, .inr (SqT.of h2), by rw [h3.len]; exact q⟩)
theorem d_eqS (ha : EvD ta σ F d) (hb : EvD tb σ F d) (p : plainD d = true) (s : SeqAt.shaped d = true) (h : PyData.eqv d d = true) : EvD (tOp (rSame K) ta tb) σ F (.bool true) :=
  d_op ha hb (opS rfl fun H1 x y hx hy Q q => Or.inl ⟨d, d, hx.dp p, hy.dp p, s, s, by rw [h]; exact q⟩)
theorem d_eqC {x : V} (ha : EvD ta σ F d) (hb : EvD tb σ F d) (e : sc d = some x) (h : scal x x = true) : EvD (tOp (rSame K) ta tb) σ F (.bool true) :=
  d_op ha hb (opS rfl fun H1 x' y' hx hy Q q => by
    cases dt_sc hx e
    cases dt_sc hy e
    exact Or.inr (Or.inr ⟨h, by rw [decide_eq_true rfl]; exact q⟩))
theorem d_eqI {a : Addr} (ha : EvD ta σ F (.dict [(.int (a : Nat), .int (CB K : Nat))])) (hb : EvD tb σ F (.dict [(.int (a : Nat), .int (CB K : Nat))])) (ho : BookAt (CB K) [] F (.ref a)) : EvD (tOp (rSame K) ta tb) σ F (.bool true) := fun H1 e Q q =>
  ha H1 e _ fun x H2 e2 hx => hb H2 (e.trans e2) _ fun y H3 e3 hy => by
    have z : ∀ {G : Hp} {v : V}, Dt G v (.dict [(.int (a : Nat), .int (CB K : Nat))]) → v = .ref a ∧ ∃ dx fs, G a = some (.ins (CB K) dx fs) := by
      intro G v h
      generalize q : PyData.dict [(.int (a : Nat), .int (CB K : Nat))] = dd at h
      cases h with
      | @ins a' C' dx fs h1 =>
        have e1 : (a : Int) = (a' : Nat) := by injection q with q; injection q with q _; injection q with q _; injection q
        have e2 : ((CB K : Nat) : Int) = (C' : Nat) := by injection q with q; injection q with q _; injection q with _ q; injection q
        have e3 : a = a' := Int.ofNat.inj e1
        have e4 : CB K = C' := Int.ofNat.inj e2
        subst e3 e4
        exact ⟨rfl, dx, fs, h1⟩
      | _ => cases q
    obtain ⟨rfl, dx, fs, h1⟩ := z hx
    obtain ⟨rfl, dy, gs, h2⟩ := z hy
    have ex : Ex F H3 := (e.trans e2).trans e3
    exact Or.inr (Or.inl ⟨⟨a, a, dx, dy, fs, gs, rfl, rfl, e3 _ _ (nw_ex (e.trans e2) _ _ h1), nw_ex ex _ _ h2, rfl, BookAt.mo _ _ _ _ _ ex ho⟩, fun H4 e4 => q _ H4 ((e2.trans e3).trans e4) (.bl true)⟩)
end
theorem zip_at {ds : List PyData} {i : Nat} {d : PyData} (h : (zipD ds ds)[i]? = some d) : ∃ x ∈ ds, d = .tuple [x, x] := by
  unfold zipD at h
  rw [List.getElem?_zipWith] at h
  cases z : ds[i]? with
  | none => rw [z] at h; cases h
  | some x => rw [z] at h; cases h; exact ⟨x, List.mem_of_getElem? z, rfl⟩
theorem zip_len (ds : List PyData) : (zipD ds ds).length = ds.length := by
  unfold zipD
  rw [List.length_zipWith, Nat.min_self]
theorem st__law_same (S : Env P w K mg base) (n : Nat) (ih : Cl P w K mg base (n + 1) "_law_same" ["found", "due"] ((SpSm K) n)) : Cl P w K mg base (n + 2) "_law_same" ["found", "due"] ((SpSm K) (n + 1)) := mk_cl S.fun__law_same S.glo__law_same sc__law_same (fun _ _ _ _ _ _ us hl => match us, hl with | [_, _], _ => rfl) (SpSm_len) fun cdv A outer s H vs Q E hr h => by
  have nd := sc__law_same.nd
  refine ⟨_, (pss_cons (ps_if (pt_val (pe_callB (r := rIsiT K) (id := "isinstance") call_isiT (by rfl) S.free_isinstance (by decide +kernel) (pa_cons (pv 1) (pa_cons (pe_tup (pa_cons (pe_bltn (v := V.ty "list") (by rfl) S.free_list (by decide +kernel) rfl) (pa_cons (pe_bltn (v := V.ty "tuple") (by rfl) S.free_tuple (by decide +kernel) rfl) pa_nil))) pa_nil)))) (pss_cons (ps_if (PW.pt (pw_or (pt_cmpR op_ne (pe_callB (r := rIsi K) (id := "isinstance") call_isi (by rfl) S.free_isinstance (by decide +kernel) (pa_cons (pv 0) (pa_cons (pe_bltn (v := V.ty "list") (by rfl) S.free_list (by decide +kernel) rfl) pa_nil))) (pe_callB (r := rIsi K) (id := "isinstance") call_isi (by rfl) S.free_isinstance (by decide +kernel) (pa_cons (pv 1) (pa_cons (pe_bltn (v := V.ty "list") (by rfl) S.free_list (by decide +kernel) rfl) pa_nil))) (nomark _)) (pw_or1 (pt_cmpR op_ne (pe_callB (r := rIsi K) (id := "isinstance") call_isi (by rfl) S.free_isinstance (by decide +kernel) (pa_cons (pv 0) (pa_cons (pe_bltn (v := V.ty "tuple") (by rfl) S.free_tuple (by decide +kernel) rfl) pa_nil))) (pe_callB (r := rIsi K) (id := "isinstance") call_isi (by rfl) S.free_isinstance (by decide +kernel) (pa_cons (pv 1) (pa_cons (pe_bltn (v := V.ty "tuple") (by rfl) S.free_tuple (by decide +kernel) rfl) pa_nil))) (nomark _))))) (pss_one (ps_ret pe_bl)) pss_nil)
    (pss_one (ps_ret (pe_and (pe_cmpR op_eq (pe_callB (r := rLenA K) (id := "len") call_len_any (by rfl) S.free_len (by decide +kernel) (pa_cons (pv 0) pa_nil)) (pe_callB (r := rLenA K) (id := "len") call_len_any (by rfl) S.free_len (by decide +kernel) (pa_cons (pv 1) pa_nil)) (nomark _)) (pe_one (pe_callB (r := rAll K) (id := "all") (cr_all rfl) (by rfl) S.free_all (by decide +kernel) (pa_cons (pe_lc (own := [("x", 2), ("y", 3)]) rfl nd (pi_zipAK (K := K) rfl rfl S.free_zip (pa_cons (pv 0) (pa_cons (pv 1) pa_nil))) (blkOk_by (N := ["found", "due", "x", "y"]) (sc := defScope s__law_same) (by decide +kernel)) (fun _ _ _ _ _ => (pg_tupK (K := K) (n := 2) rfl rfl (pgs_cons (pg_name (i := 2) nd rfl (by first | exact Or.inl rfl | exact Or.inr rfl)) (pgs_cons (pg_name (i := 3) nd rfl (by first | exact Or.inl rfl | exact Or.inr rfl)) pgs_nil)))) (fun _ _ _ _ _ => pts_nil) (fun _ _ _ _ _ => (pe_cl ih hr (Nat.le_refl _) pass_none (by rfl) (pa_cons (pv 2) (pa_cons (pv 3) pa_nil))))) pa_nil))))))) pss_nil)
    (pss_cons (ps_if (pt_val (pe_callB (r := rIsi K) (id := "isinstance") call_isi (by rfl) S.free_isinstance (by decide +kernel) (pa_cons (pv 1) (pa_cons (pe_bltn (v := V.ty "dict") (by rfl) S.free_dict (by decide +kernel) rfl) pa_nil)))) (pss_one (ps_ret (pe_and (pe_callB (r := rIsi K) (id := "isinstance") call_isi (by rfl) S.free_isinstance (by decide +kernel) (pa_cons (pv 0) (pa_cons (pe_bltn (v := V.ty "dict") (by rfl) S.free_dict (by decide +kernel) rfl) pa_nil))) (pe_one (pe_cl ih hr (Nat.le_refl _) pass_none (by rfl) (pa_cons (LiI.pe_listItems rfl (pv 0) (by rfl) S.free_list (by decide +kernel)) (pa_cons (LiI.pe_listItems rfl (pv 1) (by rfl) S.free_list (by decide +kernel)) pa_nil))))))) pss_nil)
    (pss_cons (ps_if (pt_val (pe_callB (r := rIsi K) (id := "isinstance") call_isi (by rfl) S.free_isinstance (by decide +kernel) (pa_cons (pv 1) (pa_cons (pe_bltn (v := V.ty "int") (by rfl) S.free_int (by decide +kernel) rfl) pa_nil)))) (pss_one (ps_ret (pe_and (pe_callB (r := rIsi K) (id := "isinstance") call_isi (by rfl) S.free_isinstance (by decide +kernel) (pa_cons (pv 0) (pa_cons (pe_bltn (v := V.ty "int") (by rfl) S.free_int (by decide +kernel) rfl) pa_nil))) (pe_and (pe_cmpR op_eq (pe_callB (r := rIsi K) (id := "isinstance") call_isi (by rfl) S.free_isinstance (by decide +kernel) (pa_cons (pv 0) (pa_cons (pe_bltn (v := V.ty "bool") (by rfl) S.free_bool (by decide +kernel) rfl) pa_nil))) (pe_callB (r := rIsi K) (id := "isinstance") call_isi (by rfl) S.free_isinstance (by decide +kernel) (pa_cons (pv 1) (pa_cons (pe_bltn (v := V.ty "bool") (by rfl) S.free_bool (by decide +kernel) rfl) pa_nil))) (nomark _)) (pe_one (pe_cmpR (r := rSame K) (op_or (op_eqD hr.units) (op_or (op_eqG (rc_Book S) (hr.mono (Nat.succ_le_succ (Nat.zero_le _)))) op_eq)) (pv 0) (pv 1) (nomark _))))))) pss_nil)
    (pss_one (ps_ret (pe_and (pe_not (pe_callB (r := rIsiT K) (id := "isinstance") call_isiT (by rfl) S.free_isinstance (by decide +kernel) (pa_cons (pv 0) (pa_cons (pe_tup (pa_cons (pe_bltn (v := V.ty "int") (by rfl) S.free_int (by decide +kernel) rfl) (pa_cons (pe_bltn (v := V.ty "list") (by rfl) S.free_list (by decide +kernel) rfl) (pa_cons (pe_bltn (v := V.ty "tuple") (by rfl) S.free_tuple (by decide +kernel) rfl) (pa_cons (pe_bltn (v := V.ty "dict") (by rfl) S.free_dict (by decide +kernel) rfl) pa_nil))))) pa_nil)))) (pe_one (pe_cmpR (r := rSame K) (op_or (op_eqD hr.units) (op_or (op_eqG (rc_Book S) (hr.mono (Nat.succ_le_succ (Nat.zero_le _)))) op_eq)) (pv 0) (pv 1) (nomark _))))))))), ?_⟩
  obtain ⟨F0, x, y, d, o, rfl, e0, hx, hy, ok, ho, hn, hQ⟩ := h
  have kn := Kn.start e0
  have ty := ok_ty S ok
  have ks := ok_kits S ok
  have fin : ∀ v H', Ex H H' → Dt (nw F0 H H') v (.bool true) → Q v H' := fun v H' e hv => by
    cases hv.bool_
    exact hQ H' e
  cases d with
  | list ds =>
    unfold okD at ok
    unfold dpS at hn
    refine q_ifT kn (t_B (d_isiT2 (d_var rfl hy) ty ks.row)) rfl fun F1 H1 s1 => ?_
    refine q_ifF s1.kn (et_or (t_val (d_ne (d_isi (d_var rfl (hx.ex s1.ff)) ty ks.l) (d_isi (d_var rfl (hy.ex s1.ff)) ty ks.l))) fun _ => t_val (d_ne (d_isi (d_var rfl (hx.ex s1.ff)) ty ks.t) (d_isi (d_var rfl (hy.ex s1.ff)) ty ks.t))) rfl fun F2 H2 s2 => ?_
    have t2 := s1.trans s2
    have hx2 := hx.ex t2.ff
    have hy2 := hy.ex t2.ff
    refine k_fin (Q := Q) fin s2.kn ((d_and (d_eq (d_lenAL (d_var rfl hx2)) (d_lenAL (d_var rfl hy2))) fun _ => d_allL (bs := ds.map fun _ => true) (d_lcm (wk_zipAL (da_cons (d_var rfl hx2) (da_cons (d_var rfl hy2) da_nil))) ?_ ?_ fun i d r x F' H' hi hr e1 e2 hd Q hQ' => ?_)).is ?_)
    · rw [zip_len]
      exact Nat.le_trans ok.1 (by decide)
    · rw [zip_len]
      simp
    · obtain ⟨z, zm, rfl⟩ := zip_at hi
      obtain ⟨o1, o2⟩ := okDs_mem ok.2 zm
      rw [List.map_map] at hr
      obtain ⟨_, _, rfl⟩ := map_at hr
      exact gt2 hd e2 fun y z hy hz => hQ' _ rfl (d_same (d_var rfl hy) (d_var rfl hz) o1 (fun a h => BookAt.mo _ _ _ _ _ (t2.ff.trans e1) (ho a h)) (by omega))
    · rw [all_true, decide_eq_true rfl]
      rfl
  | tuple ds =>
    unfold okD at ok
    unfold dpS at hn
    refine q_ifT kn (t_B (d_isiT2 (d_var rfl hy) ty ks.row)) rfl fun F1 H1 s1 => ?_
    refine q_ifF s1.kn (et_or (t_val (d_ne (d_isi (d_var rfl (hx.ex s1.ff)) ty ks.l) (d_isi (d_var rfl (hy.ex s1.ff)) ty ks.l))) fun _ => t_val (d_ne (d_isi (d_var rfl (hx.ex s1.ff)) ty ks.t) (d_isi (d_var rfl (hy.ex s1.ff)) ty ks.t))) rfl fun F2 H2 s2 => ?_
    have t2 := s1.trans s2
    have hx2 := hx.ex t2.ff
    have hy2 := hy.ex t2.ff
    refine k_fin (Q := Q) fin s2.kn ((d_and (d_eq (d_lenAT (d_var rfl hx2)) (d_lenAT (d_var rfl hy2))) fun _ => d_allL (bs := ds.map fun _ => true) (d_lcm (wk_zipAT (da_cons (d_var rfl hx2) (da_cons (d_var rfl hy2) da_nil))) ?_ ?_ fun i d r x F' H' hi hr e1 e2 hd Q hQ' => ?_)).is ?_)
    · rw [zip_len]
      exact Nat.le_trans ok.1 (by decide)
    · rw [zip_len]
      simp
    · obtain ⟨z, zm, rfl⟩ := zip_at hi
      obtain ⟨o1, o2⟩ := okDs_mem ok.2 zm
      rw [List.map_map] at hr
      obtain ⟨_, _, rfl⟩ := map_at hr
      exact gt2 hd e2 fun y z hy hz => hQ' _ rfl (d_same (d_var rfl hy) (d_var rfl hz) o1 (fun a h => BookAt.mo _ _ _ _ _ (t2.ff.trans e1) (ho a h)) (by omega))
    · rw [all_true, decide_eq_true rfl]
      rfl
  | int i =>
    refine q_ifF kn (t_B (d_isiT2 (d_var rfl hy) ty ks.row)) rfl fun F1 H1 s1 => ?_
    refine q_ifF s1.kn (t_B (d_isi (d_var rfl (hy.ex s1.ff)) ty ks.dc)) rfl fun F2 H2 s2 => ?_
    have t2 := s1.trans s2
    refine q_ifT s2.kn (t_B (d_isi (d_var rfl (hy.ex t2.ff)) ty ks.i)) rfl fun F3 H3 s3 => ?_
    have t3 := t2.trans s3
    refine k_fin (Q := Q) fin s3.kn ((d_and (d_isi (d_var rfl (hx.ex t3.ff)) ty ks.i) fun _ => d_and (d_eq (d_isi (d_var rfl (hx.ex t3.ff)) ty ks.b) (d_isi (d_var rfl (hy.ex t3.ff)) ty ks.b)) fun _ => d_eqS (d_var rfl (hx.ex t3.ff)) (d_var rfl (hy.ex t3.ff)) rfl (shaped_of (by simp [PyData.canLay0]) (by simp [PyData.depth])) (by simp [PyData.eqv])).is ?_)
    rw [decide_eq_true rfl]
    rfl
  | bool b =>
    refine q_ifF kn (t_B (d_isiT2 (d_var rfl hy) ty ks.row)) rfl fun F1 H1 s1 => ?_
    refine q_ifF s1.kn (t_B (d_isi (d_var rfl (hy.ex s1.ff)) ty ks.dc)) rfl fun F2 H2 s2 => ?_
    have t2 := s1.trans s2
    refine q_ifT s2.kn (t_B (d_isi (d_var rfl (hy.ex t2.ff)) ty ks.i)) rfl fun F3 H3 s3 => ?_
    have t3 := t2.trans s3
    refine k_fin (Q := Q) fin s3.kn ((d_and (d_isi (d_var rfl (hx.ex t3.ff)) ty ks.i) fun _ => d_and (d_eq (d_isi (d_var rfl (hx.ex t3.ff)) ty ks.b) (d_isi (d_var rfl (hy.ex t3.ff)) ty ks.b)) fun _ => d_eqS (d_var rfl (hx.ex t3.ff)) (d_var rfl (hy.ex t3.ff)) rfl (shaped_of (by simp [PyData.canLay0]) (by simp [PyData.depth])) (by simp [PyData.eqv])).is ?_)
    rw [decide_eq_true rfl]
    rfl
  | none =>
    refine q_ifF kn (t_B (d_isiT2 (d_var rfl hy) ty ks.row)) rfl fun F1 H1 s1 => ?_
    refine q_ifF s1.kn (t_B (d_isi (d_var rfl (hy.ex s1.ff)) ty ks.dc)) rfl fun F2 H2 s2 => ?_
    have t2 := s1.trans s2
    refine q_ifF s2.kn (t_B (d_isi (d_var rfl (hy.ex t2.ff)) ty ks.i)) rfl fun F3 H3 s3 => ?_
    have t3 := t2.trans s3
    exact k_fin (Q := Q) fin s3.kn ((d_and (d_not (d_isiT4 (d_var rfl (hx.ex t3.ff)) ty ks.four)) fun _ => d_eqS (d_var rfl (hx.ex t3.ff)) (d_var rfl (hy.ex t3.ff)) rfl (shaped_of (by simp [PyData.canLay0]) (by simp [PyData.depth])) (by simp [PyData.eqv])).is rfl)
  | str z =>
    refine q_ifF kn (t_B (d_isiT2 (d_var rfl hy) ty ks.row)) rfl fun F1 H1 s1 => ?_
    refine q_ifF s1.kn (t_B (d_isi (d_var rfl (hy.ex s1.ff)) ty ks.dc)) rfl fun F2 H2 s2 => ?_
    have t2 := s1.trans s2
    refine q_ifF s2.kn (t_B (d_isi (d_var rfl (hy.ex t2.ff)) ty ks.i)) rfl fun F3 H3 s3 => ?_
    have t3 := t2.trans s3
    exact k_fin (Q := Q) fin s3.kn ((d_and (d_not (d_isiT4 (d_var rfl (hx.ex t3.ff)) ty ks.four)) fun _ => d_eqC (d_var rfl (hx.ex t3.ff)) (d_var rfl (hy.ex t3.ff)) rfl rfl).is rfl)
  | dict kvs =>
    unfold okD at ok
    unfold dpS at hn
    rcases ok with rfl | ⟨a, ha, rfl⟩
    · refine q_ifF kn (t_B (d_isiT2 (d_var rfl hy) ty ks.row)) rfl fun F1 H1 s1 => ?_
      refine q_ifT s1.kn (t_B (d_isi (d_var rfl (hy.ex s1.ff)) ty ks.dc)) rfl fun F2 H2 s2 => ?_
      have t2 := s1.trans s2
      exact k_fin (Q := Q) fin s2.kn ((d_and (d_isi (d_var rfl (hx.ex t2.ff)) ty ks.dc) fun _ => d_same (o := none) (d_items0 (d_var rfl (hx.ex t2.ff))) (d_items0 (d_var rfl (hy.ex t2.ff))) (by unfold okD; exact ⟨Nat.zero_le _, by unfold okDs; trivial⟩) (fun a h => nomatch h) (by unfold dpS dpSs; omega)).is rfl)
    · refine q_ifF kn (t_B (d_isiT2 (d_var rfl hy) ty ks.row)) rfl fun F1 H1 s1 => ?_
      refine q_ifF s1.kn (t_B (d_isi (d_var rfl (hy.ex s1.ff)) ty ks.dc)) rfl fun F2 H2 s2 => ?_
      have t2 := s1.trans s2
      refine q_ifF s2.kn (t_B (d_isi (d_var rfl (hy.ex t2.ff)) ty ks.i)) rfl fun F3 H3 s3 => ?_
      have t3 := t2.trans s3
      exact k_fin (Q := Q) fin s3.kn ((d_and (d_not (d_isiT4 (d_var rfl (hx.ex t3.ff)) ty ks.four)) fun _ => d_eqI (d_var rfl (hx.ex t3.ff)) (d_var rfl (hy.ex t3.ff)) (BookAt.mo _ _ _ _ _ t3.ff (ho a ha))).is rfl)
theorem cl__law_same (S : Env P w K mg base) : ∀ n, Cl P w K mg base (n + 1) "_law_same" ["found", "due"] (SpSm K n)
  | 0 => mk_cl S.fun__law_same S.glo__law_same sc__law_same (fun _ _ _ _ _ _ us hl => match us, hl with | [_, _], _ => rfl) SpSm_len fun cdv A outer s H vs Q E hr h => by
    obtain ⟨F, x, y, d, o, _, _, _, _, _, _, z, _⟩ := h
    exact absurd z (Nat.not_lt_zero _)
  | n + 1 => st__law_same S n (cl__law_same S n)
end
end K05
namespace K05
open PySem PySem.Spec PyProof.Rows L2 Evl WB
section
variable {P : Program} {w : World} {K : PySem.W.Frag} {mg : Str → Option Value} {base : Heap}
theorem cl7_same (S : Env P w K mg base) : Cl P w K mg base 8 "_law_same" ["found", "due"] (SpSm K 7) := cl__law_same S 7
/-- a new stream of these numbers -/
def SpSt (K : PySem.W.Frag) : Sp := fun vs H Q _ => ∃ a xs, vs = [.ref a] ∧ SqL K H a ((xs : List Int).map V.int) ∧ ∀ l s H', Ex H H' → H l = none → H s = none → l ≠ s → StA l s 0 H' → Q (.ref l) H'
theorem SpSt_len (vs : List V) (H : Hp) (Q : VK) (E : XK) (h : SpSt K vs H Q E) : vs.length = 1 := by
  obtain ⟨_, _, rfl, _⟩ := h
  rfl
theorem cl__law_start (S : Env P w K mg base) : Cl P w K mg base 1 "_law_start" ["script"] (SpSt K) := mk_cl S.fun__law_start S.glo__law_start sc__law_start (fun _ _ _ _ _ _ us hl => match us, hl with | [_], _ => rfl) (SpSt_len) fun cdv A outer s H vs Q E hr h => by
  have nd := sc__law_start.nd
  refine ⟨_, (pss_one (ps_ret (pe_lst (pa_cons (pe_callTy (r := rListQ K) (T := "list") call_list_of (by rfl) S.free_list (by decide +kernel) (pa_cons (pv 0) pa_nil)) (pa_cons pe_int (pa_cons pe_int (pa_cons pe_int pa_nil))))))), ?_⟩
  obtain ⟨a, xs, rfl, ha, hQ⟩ := h
  refine wp_ret (wp_lst (wp_cons ?_))
  refine ⟨_, rfl, ?_⟩
  refine ⟨a, _, rfl, .inl ha, fun l hl => ?_⟩
  refine wp_cons (wp_c (wp_cons (wp_c (wp_cons (wp_c (wp_nil ⟨by show 4 ≤ sizeLine; decide, fun p hp => ?_⟩))))))
  have ne : l ≠ p := fun z => by
    rw [← z, upd_same] at hp
    cases hp
  have hp0 : H p = none := by rw [upd_ne (Ne.symm ne)] at hp; exact hp
  exact hQ p l _ ((Ex.new hl).trans (Ex.new hp)) hp0 hl (Ne.symm ne) ⟨xs, 0, 0, 19, upd_same, by rw [upd_ne ne, upd_same], by decide, by decide, by decide, by decide, by decide⟩
abbrev AWs (K : PySem.W.Frag) : WayM → Hp → List V → Prop := fun m H vs => m.rs.length ≤ 1000 ∧ m.ss.length ≤ 1000 ∧ ∃ v r z t, vs = [v, r, z, t] ∧ WayAt (CB K) (CW K) m H v ∧ Dt H r (rulesD m.rs) ∧ Dt H z (.str m.z) ∧ Dt H t (stepsD m.ss)
theorem dpSs_le {n : Nat} : ∀ {ds : List PyData}, (∀ d ∈ ds, dpS d ≤ n) → dpSs ds ≤ n
  | [], _ => Nat.zero_le _
  | d :: ds, h => by
    unfold dpSs
    exact Nat.max_le.mpr ⟨h d (List.mem_cons_self ..), dpSs_le fun e m => h e (List.mem_cons_of_mem _ m)⟩
theorem okDs_of {C : Addr} {o : Option Addr} : ∀ {ds : List PyData}, (∀ d ∈ ds, okD C o d) → okDs C o ds
  | [], _ => trivial
  | d :: ds, h => by
    unfold okDs
    exact ⟨h d (List.mem_cons_self ..), okDs_of fun e m => h e (List.mem_cons_of_mem _ m)⟩
theorem okList {C : Addr} {o : Option Addr} {ds : List PyData} (n : ds.length ≤ 30000) (h : ∀ d ∈ ds, okD C o d) : okD C o (.list ds) := by
  unfold okD
  exact ⟨n, okDs_of h⟩
theorem okTuple {C : Addr} {o : Option Addr} {ds : List PyData} (n : ds.length ≤ 30000) (h : ∀ d ∈ ds, okD C o d) : okD C o (.tuple ds) := by
  unfold okD
  exact ⟨n, okDs_of h⟩
theorem dpList {n : Nat} {ds : List PyData} (h : ∀ d ∈ ds, dpS d ≤ n) : dpS (.list ds) ≤ n + 1 := by
  unfold dpS
  exact Nat.succ_le_succ (dpSs_le h)
theorem dpTuple {n : Nat} {ds : List PyData} (h : ∀ d ∈ ds, dpS d ≤ n) : dpS (.tuple ds) ≤ n + 1 := by
  unfold dpS
  exact Nat.succ_le_succ (dpSs_le h)
theorem okRules {C : Addr} {o : Option Addr} {rs : List Rule} (h : rs.length ≤ 1000) : okD C o (rulesD rs) := okList (by rw [List.length_map]; omega) fun d m => by
  obtain ⟨r, _, rfl⟩ := List.mem_map.mp m
  unfold ruleD
  exact okTuple (by show 2 ≤ _; decide) fun d m => by
    simp only [List.mem_cons, List.not_mem_nil, or_false] at m
    rcases m with rfl | rfl <;> (unfold okD; trivial)
theorem dpRules (rs : List Rule) : dpS (rulesD rs) ≤ 2 := dpList fun d m => by
  obtain ⟨r, _, rfl⟩ := List.mem_map.mp m
  unfold ruleD
  exact dpTuple fun d m => by
    simp only [List.mem_cons, List.not_mem_nil, or_false] at m
    rcases m with rfl | rfl <;> (unfold dpS; exact Nat.le_refl _)
theorem okSteps {C : Addr} {o : Option Addr} {ss : List WStep} (h : ss.length ≤ 1000) : okD C o (stepsD ss) := okList (by rw [List.length_map]; omega) fun d m => by
  obtain ⟨r, _, rfl⟩ := List.mem_map.mp m
  unfold stepD
  exact okTuple (by show 3 ≤ _; decide) fun d m => by
    simp only [List.mem_cons, List.not_mem_nil, or_false] at m
    rcases m with rfl | rfl | rfl <;> (unfold okD; trivial)
theorem dpSteps (ss : List WStep) : dpS (stepsD ss) ≤ 2 := dpList fun d m => by
  obtain ⟨r, _, rfl⟩ := List.mem_map.mp m
  unfold stepD
  exact dpTuple fun d m => by
    simp only [List.mem_cons, List.not_mem_nil, or_false] at m
    rcases m with rfl | rfl | rfl <;> (unfold dpS; exact Nat.le_refl _)
theorem cl__law_w_is (S : Env P w K mg base) : Cl P w K mg base 9 "_law_w_is" ["way", "rules", "word", "steps"] (SpP (AWs K) fun _ H v => Dt H v (.bool true)) := mk_cl S.fun__law_w_is S.glo__law_w_is sc__law_w_is (fun _ _ _ _ _ _ us hl => match us, hl with | [_, _, _, _], _ => rfl) (wy_len fun _ _ _ ⟨_, _, _, _, _, _, e, _⟩ => by rw [e]; rfl) fun cdv A outer s H vs Q E hr h => by
  have nd := sc__law_w_is.nd
  refine ⟨_, (pss_cons (ps_if (PW.pt (pw_or (pt_not (pt_val (pe_callB (r := rIsi K) (id := "isinstance") call_isi (by rfl) S.free_isinstance (by decide +kernel) (pa_cons (pv 0) (pa_cons (pe_glob (v := V.ref (He.ga K "Way")) (by rfl) S.glo_Way rfl) pa_nil))))) (pw_or1 (pt_not (pt_val (pe_cl (cl7_same S) hr (by decide) pass_none (by rfl) (pa_cons (pe_mt0 (mt_Book_rules S) hr (by decide) pass_none (pe_mt0 (mt_Way_book S) hr (by decide) pass_none (pv 0))) (pa_cons (pv 1) pa_nil)))))))) (pss_one (ps_ret pe_bl)) pss_nil)
    (pss_one (ps_ret (pe_cl (cl7_same S) hr (by decide) pass_none (by rfl) (pa_cons (pe_lst (pa_cons (pe_mt0 (mt_Way_word S) hr (by decide) pass_none (pv 0)) (pa_cons (pe_mt0 (mt_Way_steps S) hr (by decide) pass_none (pv 0)) pa_nil))) (pa_cons (pe_lst (pa_cons (pv 2) (pa_cons (pv 3) pa_nil))) pa_nil)))))), ?_⟩
  obtain ⟨F0, m, e0, ⟨l1, l2, x, r, z, t, rfl, hx, hr', hz, ht⟩, hQ⟩ := h
  have kn := Kn.start e0
  refine q_ifF kn (et_or (et_not (t_B (p_isiO (p_var rfl hx (WayAt.mo _ _ _)) (wy_ty S) (WayAt.mo _ _ _) S.kit_Way_Way))) fun _ => et_not (t_B (d_same (o := none) (EvP.toD (bk_m (wy_m (p_var rfl hx (WayAt.mo _ _ _)) (fun _ _ _ => rfl) (BookAt.mo _ _)) (fun _ => rfl) (mo_dt _))) (d_var rfl hr') (okRules l1) (fun _ h => nomatch h) (by have := dpRules m.rs; omega)))) rfl fun F1 H1 s1 => ?_
  have hx1 := WayAt.mo _ _ _ _ _ _ s1.ff hx
  exact kp_fin hQ (mo_dt _) s1.kn (EvD.toP (d_same (o := none) (d := .list [.str m.z, stepsD m.ss]) (d_lst (da_cons (EvP.toD (wy_m (p_var rfl hx1 (WayAt.mo _ _ _)) (fun _ _ _ => rfl) (mo_dt _))) (da_cons (EvP.toD (wy_m (p_var rfl hx1 (WayAt.mo _ _ _)) (fun _ _ _ => rfl) (mo_dt _))) da_nil))) (d_lst (da_cons (d_var rfl (hz.ex s1.ff)) (da_cons (d_var rfl (ht.ex s1.ff)) da_nil))) (okList (by show 2 ≤ _; decide) fun d q => by
      simp only [List.mem_cons, List.not_mem_nil, or_false] at q
      rcases q with rfl | rfl
      · unfold okD; trivial
      · exact okSteps l2) (fun _ h => nomatch h) (Nat.lt_of_le_of_lt (dpList (n := 2) fun d q => by
      simp only [List.mem_cons, List.not_mem_nil, or_false] at q
      rcases q with rfl | rfl
      · unfold dpS; decide
      · exact dpSteps m.ss) (by decide))))
abbrev ATo (K : PySem.W.Frag) : PyData → Hp → List V → Prop := fun d H vs => ∃ (k : Int) (v : V), vs = [.int k, v] ∧ Dt H v d ∧ HasTy K d ∧ PySem.W.kitOne K (tyD d) (.ref (CW K)) = some false
theorem cl__law_told_or (S : Env P w K mg base) : Cl P w K mg base 7 "_law_told_or" ["which", "thing"] (SpP (ATo K) fun d H v => Dt H v (.tuple [.str "way", d])) := mk_cl S.fun__law_told_or S.glo__law_told_or sc__law_told_or (fun _ _ _ _ _ _ us hl => match us, hl with | [_, _], _ => rfl) (wy_len fun _ _ _ ⟨_, _, e, _⟩ => by rw [e]; rfl) fun cdv A outer s H vs Q E hr h => by
  have nd := sc__law_told_or.nd
  refine ⟨_, (pss_one (ps_try_ass (i := 2) rfl rfl nd rfl rfl takes0 (fun W pn xe tk own => (pss_one (ps_ret (pe_tup (pa_cons pe_str (pa_cons (pe_ifExp (pt_cmpR op_eq (pv 0) pe_int (nomark _)) (pe_clS (cl_wires S) hr (by decide) (fun σ => passAt tk σ) (by rfl) (pa_cons (pv 1) pa_nil)) (pe_clS (cl_wire_rows S) hr (by decide) (fun σ => passAt tk σ) (by rfl) (pa_cons (pv 1) pa_nil))) pa_nil)))))) (AsOk.cons ⟨by rfl, by decide, .inl S.glo_BadWay⟩ (fun a oe cls d pn hz hf => (pss_one (ps_ret (pe_tup (pa_cons pe_str (pa_cons (pe_xf (er_BadWay S).xf (er_BadWay S).no hz hf (pv 2)) pa_nil)))))) AsOk.nil))), ?_⟩
  obtain ⟨F0, d, e0, ⟨k, v, rfl, hd, ht, hk⟩, hQ⟩ := h
  refine wp_ret (wp_tup (wp_cons (wp_c (wp_cons (wp_ifX (wp_t (t_val (d_eq (d_var rfl (.int k)) d_int)) e0 fun H2 e2 => ?_))))))
  split
  all_goals
    exact x_callS (e0.trans e2) (pa_v1 rfl ⟨⟨v, rfl, ⟨d, hd, ht, hk⟩, rfl⟩, rfl, rfl⟩ badw_mo) fun dd H' e hdd => ⟨true, S.exm_BadWay_BadWay, fun _ a ha => wp_ret (wp_tup (wp_cons (wp_c (wp_cons ⟨.ref a, rfl, rfl, rfl, dd, _, v, rfl, hdd, rfl, wp_nil ⟨by show 2 ≤ sizeLine; decide, fun p hp => hQ _ _ ((e2.trans e).trans (Ex.new hp)) (tup_new e0 (e2.trans e) hp hd)⟩⟩)))), fun z => nomatch z⟩
abbrev AFo (K : PySem.W.Frag) : (Str × PyData) → Hp → List V → Prop := fun x H vs => ∃ (k : Int) (a v1 v2 : V) (C : Addr) (f : Str) (z : V), vs = [.int k, a, v1, v2] ∧ BadL K H [a, v1, v2] C f z ∧ Dt H z x.2 ∧ ((x.1 = "way" ∧ C = He.ga K "BadWay") ∨ (x.1 = "index" ∧ C = He.ga K "BadIndex") ∨ (x.1 = "number" ∧ C = He.ga K "BadNumber"))
theorem cl__law_found (S : Env P w K mg base) : Cl P w K mg base 7 "_law_found" ["which", "way", "index", "place"] (SpP (AFo K) fun x H v => Dt H v (.tuple [.str x.1, x.2])) := mk_cl S.fun__law_found S.glo__law_found sc__law_found (fun _ _ _ _ _ _ us hl => match us, hl with | [_, _, _, _], _ => rfl) (wy_len fun _ _ _ ⟨_, _, _, _, _, _, _, e, _⟩ => by rw [e]; rfl) fun cdv A outer s H vs Q E hr h => by
  have nd := sc__law_found.nd
  refine ⟨_, (pss_one (ps_try_ass (i := 4) rfl rfl nd rfl rfl takes0 (fun W pn xe tk own => (pss_one (ps_ret (pe_tup (pa_cons pe_str (pa_cons (pe_ifExp (pt_cmpR op_eq (pv 0) pe_int (nomark _)) (pe_clS (cl_comes_from S) hr (by decide) (fun σ => passAt tk σ) (by rfl) (pa_cons (pv 1) (pa_cons (pv 2) (pa_cons (pv 3) pa_nil)))) (pe_clS (cl_goes_to S) hr (by decide) (fun σ => passAt tk σ) (by rfl) (pa_cons (pv 1) (pa_cons (pv 2) (pa_cons (pv 3) pa_nil))))) pa_nil)))))) (AsOk.cons ⟨by rfl, by decide, .inl S.glo_BadWay⟩ (fun a oe cls d pn hz hf => (pss_one (ps_ret (pe_tup (pa_cons pe_str (pa_cons (pe_xf (er_BadWay S).xf (er_BadWay S).no hz hf (pv 4)) pa_nil)))))) (AsOk.cons ⟨by rfl, by decide, .inl S.glo_BadIndex⟩ (fun a oe cls d pn hz hf => (pss_one (ps_ret (pe_tup (pa_cons pe_str (pa_cons (pe_xf (er_BadIndex S).xf (er_BadIndex S).no hz hf (pv 4)) pa_nil)))))) (AsOk.cons ⟨by rfl, by decide, .inl S.glo_BadNumber⟩ (fun a oe cls d pn hz hf => (pss_one (ps_ret (pe_tup (pa_cons pe_str (pa_cons (pe_xf (er_BadNumber S).xf (er_BadNumber S).no hz hf (pv 4)) pa_nil)))))) AsOk.nil))))), ?_⟩
  obtain ⟨F0, ⟨nm, d⟩, e0, ⟨k, x, v1, v2, C, f, z, rfl, hb, hd, hc⟩, hQ⟩ := h
  have hf : f = "thing" := hb.1
  subst hf
  refine wp_ret (wp_tup (wp_cons (wp_c (wp_cons (wp_ifX (wp_t (t_val (d_eq (d_var rfl (.int k)) d_int)) e0 fun H2 e2 => ?_))))))
  split
  all_goals
    exact x_callS (e0.trans e2) (pa_v3 rfl rfl rfl hb badl_mo) fun dd H' e hdd => by
      rcases hc with ⟨rfl, rfl⟩ | ⟨rfl, rfl⟩ | ⟨rfl, rfl⟩
      · exact ⟨true, S.exm_BadWay_BadWay, fun _ a ha => wp_ret (wp_tup (wp_cons (wp_c (wp_cons ⟨.ref a, rfl, rfl, rfl, dd, _, z, rfl, hdd, rfl, wp_nil ⟨by show 2 ≤ sizeLine; decide, fun p hp => hQ _ _ ((e2.trans e).trans (Ex.new hp)) (tup_new e0 (e2.trans e) hp hd)⟩⟩)))), fun z => nomatch z⟩
      · exact ⟨false, S.exm_BadIndex_BadWay, (fun z => nomatch z), fun _ => ⟨true, S.exm_BadIndex_BadIndex, fun _ a ha => wp_ret (wp_tup (wp_cons (wp_c (wp_cons ⟨.ref a, rfl, rfl, rfl, dd, _, z, rfl, hdd, rfl, wp_nil ⟨by show 2 ≤ sizeLine; decide, fun p hp => hQ _ _ ((e2.trans e).trans (Ex.new hp)) (tup_new e0 (e2.trans e) hp hd)⟩⟩)))), fun z => nomatch z⟩⟩
      · exact ⟨false, S.exm_BadNumber_BadWay, (fun z => nomatch z), fun _ => ⟨false, S.exm_BadNumber_BadIndex, (fun z => nomatch z), fun _ => ⟨true, S.exm_BadNumber_BadNumber, fun _ a ha => wp_ret (wp_tup (wp_cons (wp_c (wp_cons ⟨.ref a, rfl, rfl, rfl, dd, _, z, rfl, hdd, rfl, wp_nil ⟨by show 2 ≤ sizeLine; decide, fun p hp => hQ _ _ ((e2.trans e).trans (Ex.new hp)) (tup_new e0 (e2.trans e) hp hd)⟩⟩)))), fun z => nomatch z⟩⟩⟩
end
end K05
namespace K05
open PySem PySem.Spec PyProof.Rows L2 Evl WB
section
variable {P : Program} {w : World} {K : PySem.W.Frag} {mg : Str → Option Value} {base : Heap}
theorem word_len {m : WayM} (ok : m.Ok) : ∀ {i : Nat}, i ≤ m.ss.length → ∃ z, (wordsOf m.rs m.z m.ss)[i]? = some z ∧ z.length ≤ 1000
  | 0, _ => ⟨_, wordsOf_0 .., ok.s.len⟩
  | i + 1, h => by
    obtain ⟨q, zi, zj, sa⟩ := ok.step (List.getElem?_eq_getElem (show i < m.ss.length by omega))
    exact ⟨zj, sa.z1, sa.zjl⟩
theorem ev_int {σ : L2.St} {F : Hp} {te : TE} {i : Int} (h : EvD te σ F (.int i)) : Ev te σ F (.int i) := fun H1 e Q q => h H1 e _ fun v H2 e2 hv => by
  cases hv.int_
  exact q H2 e2
/-- a call of _law_found that is refused -/
theorem d_found {σ : L2.St} {F : Hp} {t1 t2 t3 t4 : TE} {E : XK} {k : Int} {a v1 v2 z : V} {C : Addr} {f nm : Str} {d : PyData} (h1 : Ev t1 σ F (.int k)) (h2 : Ev t2 σ F a) (h3 : Ev t3 σ F v1) (h4 : Ev t4 σ F v2) (hb : BadL K F [a, v1, v2] C f z) (hd : Dt F z d)
    (hc : (nm = "way" ∧ C = He.ga K "BadWay") ∨ (nm = "index" ∧ C = He.ga K "BadIndex") ∨ (nm = "number" ∧ C = He.ga K "BadNumber")) :
    EvD (tCall (SpP (AFo K) fun x H v => Dt H v (.tuple [.str x.1, x.2])) [] E (tCons t1 (tCons t2 (tCons t3 (tCons t4 tNil))))) σ F (.tuple [.str nm, d]) :=
  EvP.toD (p_call (res := fun (x : Str × PyData) H v => Dt H v (.tuple [.str x.1, x.2])) (nm, d) (fun H1 e Q q => h1 H1 e _ fun H2 e2 => h2 H2 (e.trans e2) _ fun H3 e3 => h3 H3 ((e.trans e2).trans e3) _ fun H4 e4 => h4 H4 (((e.trans e2).trans e3).trans e4) _ fun H5 e5 =>
    q _ H5 (((e2.trans e3).trans e4).trans e5) ⟨k, a, v1, v2, C, f, z, rfl, badl_mo _ _ _ (ex_nw e) hb, hd.ex (ex_nw e), hc⟩) (mo_dt _))
theorem t_same {σ : L2.St} {F : Hp} {ta tb : TE} {E : XK} {nm : Str} {d : PyData} (ha : EvD ta σ F (.tuple [.str nm, d])) (hb : EvD tb σ F d) (ok : okD (CB K) none d) (dp : dpS d ≤ 5) : EvT (tNot (tB (tCall (SpSm K 7) [] E (tCons ta (tCons (tTup (tCons (tC (.str nm)) (tCons tb tNil))) tNil))))) σ F false :=
  et_not (t_B (d_same (o := none) ha (d_tup (da_cons d_str (da_cons hb da_nil))) (okTuple (by show 2 ≤ _; decide) fun d' q => by
    simp only [List.mem_cons, List.not_mem_nil, or_false] at q
    rcases q with rfl | rfl
    · unfold okD; trivial
    · exact ok) (fun _ h => nomatch h) (Nat.lt_of_le_of_lt (dpTuple (n := 5) fun d' q => by
    simp only [List.mem_cons, List.not_mem_nil, or_false] at q
    rcases q with rfl | rfl
    · unfold dpS; decide
    · exact dp) (by decide))))
def oddD : List PyData := [.none, .bool true, .bool false, .int (-1), .str "0", .list [], .tuple [.int 0], .int 999999999]
structure OddOk (K : PySem.W.Frag) (n : Nat) (d : PyData) : Prop where
  ok : okD (CB K) none d
  dp : dpS d ≤ 5
  ins : isIns d = false
  ix : NoIx n d
  way : PySem.W.kitOne K (tyD d) (.ref (CW K)) = some false
  pl : plainD d = true
  sh : SeqAt.shaped d = true
  place : PyData.eqv d (.int ((n + 1 : Nat) : Int)) = false → isNum d = false ∨ ∃ p : Nat, d = .int (p : Nat) ∧ 1000 < p
theorem odd_ok (S : Env P w K mg base) {n : Nat} (hn : n ≤ 1000) : ∀ d ∈ oddD ++ [.int ((n + 1 : Nat) : Int)], OddOk K n d := fun d m => by
  unfold oddD at m
  simp only [List.cons_append, List.nil_append, List.mem_cons, List.not_mem_nil, or_false] at m
  rcases m with rfl | rfl | rfl | rfl | rfl | rfl | rfl | rfl | rfl
  · exact ⟨by unfold okD; trivial, by unfold dpS; decide, rfl, ⟨rfl, .inl rfl⟩, S.kto_NoneType_Way, rfl, shaped_of (by decide +kernel) (by decide +kernel), fun _ => .inl rfl⟩
  · exact ⟨by unfold okD; trivial, by unfold dpS; decide, rfl, ⟨rfl, .inl rfl⟩, S.kto_bool_Way, rfl, shaped_of (by decide +kernel) (by decide +kernel), fun _ => .inl rfl⟩
  · exact ⟨by unfold okD; trivial, by unfold dpS; decide, rfl, ⟨rfl, .inl rfl⟩, S.kto_bool_Way, rfl, shaped_of (by decide +kernel) (by decide +kernel), fun _ => .inl rfl⟩
  · exact ⟨by unfold okD; trivial, by unfold dpS; decide, rfl, ⟨rfl, .inl rfl⟩, S.kto_int_Way, rfl, shaped_of (by decide +kernel) (by decide +kernel), fun _ => .inl rfl⟩
  · exact ⟨by unfold okD; trivial, by unfold dpS; decide, rfl, ⟨rfl, .inl rfl⟩, S.kto_str_Way, rfl, shaped_of (by decide +kernel) (by decide +kernel), fun _ => .inl rfl⟩
  · exact ⟨okList (by decide) (fun d m => nomatch m), Nat.le_trans (dpList (n := 0) (fun d m => nomatch m)) (by decide), rfl, ⟨rfl, .inl rfl⟩, S.kto_list_Way, rfl, shaped_of (by decide +kernel) (by decide +kernel), fun _ => .inl rfl⟩
  · exact ⟨okTuple (by decide) (fun d m => by rw [List.mem_singleton.mp m]; unfold okD; trivial), Nat.le_trans (dpTuple (n := 0) (fun d m => by rw [List.mem_singleton.mp m]; unfold dpS; decide)) (by decide), rfl, ⟨rfl, .inl rfl⟩, S.kto_tuple_Way, rfl, shaped_of (by decide +kernel) (by decide +kernel), fun _ => .inl rfl⟩
  · exact ⟨by unfold okD; trivial, by unfold dpS; decide, rfl, ⟨rfl, .inr ⟨999999999, rfl, by omega⟩⟩, S.kto_int_Way, rfl, shaped_of (by decide +kernel) (by decide +kernel), fun _ => .inr ⟨999999999, rfl, by decide⟩⟩
  · exact ⟨by unfold okD; trivial, by unfold dpS; decide, rfl, ⟨rfl, .inr ⟨n + 1, rfl, by omega⟩⟩, S.kto_int_Way, rfl, shaped_of (by simp [PyData.canLay0]) (by simp [PyData.depth]), fun z => by simp [PyData.eqv] at z⟩
abbrev ARr (K : PySem.W.Frag) : WayM → Hp → List V → Prop := fun m H vs => m.Ok ∧ ∃ v r, vs = [v, r] ∧ WayAt (CB K) (CW K) m H v ∧ Dt H r (lrowsD m)
theorem cl__law_refused_right (S : Env P w K mg base) : Cl P w K mg base 9 "_law_refused_right" ["way", "rows"] (SpP (ARr K) fun _ H v => Dt H v (.bool true)) := mk_cl S.fun__law_refused_right S.glo__law_refused_right sc__law_refused_right (fun _ _ _ _ _ _ us hl => match us, hl with | [_, _], _ => rfl) (wy_len fun _ _ _ ⟨_, _, _, e, _⟩ => by rw [e]; rfl) fun cdv A outer s H vs Q E hr h => by
  have nd := sc__law_refused_right.nd
  refine ⟨_, (pss_cons (ps_set (i := 2) nd rfl (by first | exact Or.inl rfl | exact Or.inr rfl) (pe_lst (pa_cons pe_non (pa_cons pe_bl (pa_cons pe_bl (pa_cons (pe_un un_neg pe_int) (pa_cons pe_str (pa_cons (pe_lst pa_nil) (pa_cons (pe_tup (pa_cons pe_int pa_nil)) (pa_cons pe_int pa_nil))))))))))
    (pss_cons (ps_for (passes_of rfl) rfl (pi_tupK (K := K) rfl (pe_tup (pa_cons pe_int (pa_cons pe_int pa_nil)))) (pg_name (i := 3) nd rfl (by first | exact Or.inl rfl | exact Or.inr rfl))
    (pss_cons (ps_for (passes_of rfl) rfl (pi_listK (K := K) rfl (pe_op op_cat (pv 2) (pe_lst (pa_cons (pe_callB (r := rLenQ K) (id := "len") call_len_seq (by rfl) S.free_len (by decide +kernel) (pa_cons (pv 1) pa_nil)) pa_nil)))) (pg_name (i := 4) nd rfl (by first | exact Or.inl rfl | exact Or.inr rfl))
    (pss_cons (ps_if (pt_not (pt_val (pe_cl (cl7_same S) hr (by decide) pass_none (by rfl) (pa_cons (pe_cl (cl__law_found S) hr (by decide) pass_none (by rfl) (pa_cons (pv 3) (pa_cons (pv 0) (pa_cons (pv 4) (pa_cons (pv 4) pa_nil))))) (pa_cons (pe_tup (pa_cons pe_str (pa_cons (pv 4) pa_nil))) pa_nil))))) (pss_one (ps_ret pe_bl)) pss_nil)
    (pss_cons (ps_if (PW.pt (pw_and (pt_cmpR (r := rNeD K) (op_neD hr.units) (pv 4) (pe_callB (r := rLenQ K) (id := "len") call_len_seq (by rfl) S.free_len (by decide +kernel) (pa_cons (pv 1) pa_nil)) (nomark _)) (pw_and1 (pt_not (pt_val (pe_cl (cl7_same S) hr (by decide) pass_none (by rfl) (pa_cons (pe_cl (cl__law_found S) hr (by decide) pass_none (by rfl) (pa_cons (pv 3) (pa_cons (pv 0) (pa_cons (pe_op op_sub (pe_callB (r := rLenQ K) (id := "len") call_len_seq (by rfl) S.free_len (by decide +kernel) (pa_cons (pv 1) pa_nil)) pe_int) (pa_cons (pv 4) pa_nil))))) (pa_cons (pe_tup (pa_cons pe_str (pa_cons (pv 4) pa_nil))) pa_nil)))))))) (pss_one (ps_ret pe_bl)) pss_nil)
    (pss_one (ps_if (pt_not (pt_val (pe_cl (cl7_same S) hr (by decide) pass_none (by rfl) (pa_cons (pe_cl (cl__law_found S) hr (by decide) pass_none (by rfl) (pa_cons (pv 3) (pa_cons (pv 4) (pa_cons (pv 4) (pa_cons pe_int pa_nil))))) (pa_cons (pe_tup (pa_cons pe_str (pa_cons (pv 4) pa_nil))) pa_nil))))) (pss_one (ps_ret pe_bl)) pss_nil)))))
    (pss_one (ps_for (passes_of rfl) rfl (pi_enumK (K := K) rfl rfl S.free_enumerate (pa_cons (pv 1) pa_nil)) (pg_tupK (K := K) (n := 2) rfl rfl (pgs_cons (pg_name (i := 5) nd rfl (by first | exact Or.inl rfl | exact Or.inr rfl)) (pgs_cons (pg_name (i := 6) nd rfl (by first | exact Or.inl rfl | exact Or.inr rfl)) pgs_nil)))
    (pss_one (ps_if (pt_not (pt_val (pe_cl (cl7_same S) hr (by decide) pass_none (by rfl) (pa_cons (pe_cl (cl__law_found S) hr (by decide) pass_none (by rfl) (pa_cons (pv 3) (pa_cons (pv 0) (pa_cons (pv 5) (pa_cons (pe_callB (r := rLenQ K) (id := "len") call_len_seq (by rfl) S.free_len (by decide +kernel) (pa_cons (pv 6) pa_nil)) pa_nil))))) (pa_cons (pe_tup (pa_cons pe_str (pa_cons (pe_callB (r := rLenQ K) (id := "len") call_len_seq (by rfl) S.free_len (by decide +kernel) (pa_cons (pv 6) pa_nil)) pa_nil))) pa_nil))))) (pss_one (ps_ret pe_bl)) pss_nil))))))
    (pss_one (ps_ret pe_bl)))), ?_⟩
  obtain ⟨F0, m, e0, ⟨ok, x, r, rfl, hx, hr'⟩, hQ⟩ := h
  have kn := Kn.start e0
  have nl : m.ss.length ≤ 1000 := ok.n
  obtain ⟨zn, hzn, zl⟩ : ∃ z, (wordsOf m.rs m.z m.ss)[m.ss.length]? = some z ∧ z.length ≤ 1000 := word_len ok (Nat.le_refl _)
  refine q_asg (d := .list oddD) kn (d_lst (ds := oddD) (da_cons d_non (da_cons d_bl (da_cons d_bl (da_cons (d_neg d_int) (da_cons d_str (da_cons (d_lst (ds := []) da_nil (by decide)) (da_cons (d_tup (ds := [.int 0]) (da_cons d_int da_nil) (by show 1 ≤ 100000; decide)) (da_cons d_int da_nil)))))))) (by show 8 ≤ 100000; decide)) fun od F1 H1 s1 hod => ?_
  have hx1 := WayAt.mo _ _ _ _ _ _ s1.ff hx
  have hr1 := hr'.ex s1.ff
  refine q_for s1.kn (wk_tup (d_tup (ds := [.int 0, .int 1]) (da_cons d_int (da_cons d_int da_nil)) (by show 2 ≤ 100000; decide))) (fun i σ' F' H' => (∃ y3 y4 y5 y6, σ' = [some x, some r, some od, y3, y4, y5, y6]) ∧ WayAt (CB K) (CW K) m F' x ∧ Dt F' r (lrowsD m) ∧ Dt F' od (.list oddD)) ?_ ?_ ?_ ?_
  · intro F2 H2 s2
    exact ⟨⟨_, _, _, _, rfl⟩, WayAt.mo _ _ _ _ _ _ s2.ff hx1, hr1.ex s2.ff, hod.ex s2.ff⟩
  · rintro i σ' F' H' H2 ⟨hσ, g1, g2, g3⟩ kn' e
    have s := kn'.step (H1 := H2) e
    exact ⟨hσ, WayAt.mo _ _ _ _ _ _ s.ff g1, g2.ex s.ff, g3.ex s.ff⟩
  · rintro i d y σ' F' H' hi kn' eF hd ⟨⟨y3, y4, y5, y6, rfl⟩, g1, g2, g3⟩ N hN
    obtain ⟨k, rfl⟩ : ∃ k : Int, d = .int k := by
      have q := List.mem_of_getElem? hi
      simp only [List.mem_cons, List.not_mem_nil, or_false] at q
      rcases q with rfl | rfl <;> exact ⟨_, rfl⟩
    cases hd.int_
    have lenr : ∀ {σ : L2.St} {F : Hp}, σ[1]? = some (some r) → Dt F r (lrowsD m) → EvD (tCB (rLenQ K) (tCons (tVar 1) tNil)) σ F (.int ((m.ss.length + 1 : Nat) : Int)) := fun h1 h2 => (d_lenL (d_var h1 h2)).is (by rw [lrows_len])
    refine q_for kn' (wk_list (d_catL (ds := oddD) (es := [.int ((m.ss.length + 1 : Nat) : Int)]) (d_var rfl g3) (d_lst (da_cons (lenr rfl g2) da_nil)) (by show 8 + 1 ≤ sizeLine; decide))) (fun i σ' F' H' => (∃ y4 y5 y6, σ' = [some x, some r, some od, some (.int k), y4, y5, y6]) ∧ WayAt (CB K) (CW K) m F' x ∧ Dt F' r (lrowsD m) ∧ Dt F' od (.list oddD)) ?_ ?_ ?_ ?_
    · intro F2 H2 s2
      exact ⟨⟨_, _, _, rfl⟩, WayAt.mo _ _ _ _ _ _ s2.ff g1, g2.ex s2.ff, g3.ex s2.ff⟩
    · rintro i σ' F' H' H2 ⟨hσ, g1, g2, g3⟩ kn' e
      have s := kn'.step (H1 := H2) e
      exact ⟨hσ, WayAt.mo _ _ _ _ _ _ s.ff g1, g2.ex s.ff, g3.ex s.ff⟩
    · rintro i d y σ' F' H' hi kn' eF hd ⟨⟨y4, y5, y6, rfl⟩, g1, g2, g3⟩ N hN
      have oo := odd_ok S nl d (List.mem_of_getElem? hi)
      refine q_ifF kn' (t_same (nm := "index") (d_found (z := y) (ev_var rfl) (ev_var rfl) (ev_var rfl) (ev_var rfl) ⟨rfl, x, y, y, rfl, .inr (.inl ⟨m, d, g1, hd, oo.ix, rfl, rfl⟩)⟩ hd (.inr (.inl ⟨rfl, rfl⟩))) (d_var rfl hd) oo.ok oo.dp) rfl fun F2 H2 s2 => ?_
      have g1' := WayAt.mo _ _ _ _ _ _ s2.ff g1
      have g2' := g2.ex s2.ff
      have hd' := hd.ex s2.ff
      refine q_ifF s2.kn (et_and (t_val (d_neD (d_var rfl hd') (lenr rfl g2') oo.pl rfl oo.sh (shaped_of (by simp [PyData.canLay0]) (by simp [PyData.depth])))) fun hne => t_same (nm := "number") (d_found (z := y) (ev_var rfl) (ev_var rfl) (ev_int (i := ((m.ss.length : Nat) : Int)) ((d_sub (lenr rfl g2') d_int).is ?_)) (ev_var rfl) ⟨rfl, x, _, y, rfl, .inr (.inr ⟨m, d, zn, m.ss.length, g1', rfl, hd', hzn, zl, oo.ins, ?_, rfl, rfl⟩)⟩ hd' (.inr (.inr ⟨rfl, rfl⟩))) (d_var rfl hd') oo.ok oo.dp) (Bool.and_false _) fun F3 H3 s3 => ?_
      · congr 1
        omega
      · have := oo.place (by cases q : PyData.eqv d (.int ((m.ss.length + 1 : Nat) : Int)) with
          | false => rfl
          | true => rw [q] at hne; cases hne)
        rcases this with q | ⟨p, q1, q2⟩
        · exact .inl q
        · exact .inr ⟨p, q1, by omega⟩
      have t3 := s2.trans s3
      have hd3 := hd.ex t3.ff
      refine k_ifF s3.kn (t_same (nm := "way") (d_found (z := y) (v2 := .int 0) (ev_var rfl) (ev_var rfl) (ev_var rfl) ev_c ⟨rfl, y, y, _, rfl, .inl ⟨⟨d, hd3, ty_of oo.ins, oo.way⟩, rfl, rfl⟩⟩ hd3 (.inl ⟨rfl, rfl⟩)) (d_var rfl hd3) oo.ok oo.dp) rfl fun F4 H4 s4 => ?_
      have t4 := t3.trans s4
      exact hN _ F4 H4 s4.kn t4.ff ⟨⟨_, _, _, rfl⟩, WayAt.mo _ _ _ _ _ _ t4.ff g1, g2.ex t4.ff, g3.ex t4.ff⟩
    · rintro σ' F' H' kn2 eF2 ⟨⟨y4, y5, y6, rfl⟩, g1, g2, g3⟩
      refine k_for kn2 (wk_enum (da_cons (d_var rfl g2) da_nil)) (fun i σ' F' H' => (∃ y4 y5 y6, σ' = [some x, some r, some od, some (.int k), y4, y5, y6]) ∧ WayAt (CB K) (CW K) m F' x ∧ Dt F' r (lrowsD m) ∧ Dt F' od (.list oddD)) ?_ ?_ ?_ ?_
      · intro F2 H2 s2
        exact ⟨⟨_, _, _, rfl⟩, WayAt.mo _ _ _ _ _ _ s2.ff g1, g2.ex s2.ff, g3.ex s2.ff⟩
      · rintro i σ' F' H' H2 ⟨hσ, g1, g2, g3⟩ kn' e
        have s := kn'.step (H1 := H2) e
        exact ⟨hσ, WayAt.mo _ _ _ _ _ _ s.ff g1, g2.ex s.ff, g3.ex s.ff⟩
      · rintro i d y σ' F' H' hi kn' eF hd ⟨⟨y4, y5, y6, rfl⟩, g1, g2, g3⟩ N' hN'
        have il : i < m.ss.length + 1 := by
          have z := (List.getElem?_eq_some_iff.mp hi).1
          rw [enumD_len, lrows_len] at z
          exact z
        rw [enumD_get (lrows_get il)] at hi
        cases hi
        obtain ⟨zi, hzi, zil⟩ : ∃ z, (wordsOf m.rs m.z m.ss)[i]? = some z ∧ z.length ≤ 1000 := word_len ok (by omega)
        have rl := row_len ok hzi
        refine gt2 hd kn'.fh fun v1 v2 h1 h2 => ?_
        cases h1.int_
        have lr : ∀ {σ : L2.St}, σ[6]? = some (some v2) → EvD (tCB (rLenQ K) (tCons (tVar 6) tNil)) σ F' (.int ((zi.length : Nat) : Int)) := fun h => (d_lenL (d_var h h2)).is (by rw [List.length_map, rl])
        refine k_ifF kn' (t_same (nm := "number") (d_found (z := .int ((zi.length : Nat) : Int)) (ev_var rfl) (ev_var rfl) (ev_var rfl) (ev_int (lr rfl)) ⟨rfl, x, _, _, rfl, .inr (.inr ⟨m, .int ((zi.length : Nat) : Int), zi, i, g1, rfl, .int _, hzi, zil, rfl, .inr ⟨zi.length, rfl, Nat.le_refl _⟩, rfl, rfl⟩)⟩ (.int _) (.inr (.inr ⟨rfl, rfl⟩))) (lr rfl) (by unfold okD; trivial) (by unfold dpS; decide)) rfl fun F4 H4 s4 => ?_
        exact hN' _ F4 H4 s4.kn s4.ff ⟨⟨_, _, _, rfl⟩, WayAt.mo _ _ _ _ _ _ s4.ff g1, g2.ex s4.ff, g3.ex s4.ff⟩
      · rintro σ' F' H' kn3 eF3 ⟨⟨y4, y5, y6, rfl⟩, g1, g2, g3⟩
        exact hN _ F' H' kn3 (eF2.trans eF3) ⟨⟨_, _, _, _, rfl⟩, g1, g2, g3⟩
  · rintro σ' F' H' kn' eF ⟨⟨y3, y4, y5, y6, rfl⟩, g1, g2, g3⟩
    exact kp_fin (T := DT (.bool true)) hQ (mo_dt _) kn' (EvD.toP d_bl)
end
end K05
namespace K05
open PySem PySem.Spec PyProof.Rows L2 Evl WB
section
variable {P : Program} {w : World} {K : PySem.W.Frag} {mg : Str → Option Value} {base : Heap}
section
variable {M : Addr → Prop} {F0 H0 F H H' : Hp} {as : List Addr} {l s : Addr} {n : Nat}
/-- nothing more is known behind it -/
theorem Kn.same (k : Kn M F0 H0 F H) (e : Ex H H') : Kn M F0 H0 F H' where
  f := k.f
  fh := k.fh.trans e
  h := fun a o m h => e _ _ (k.h a o m h)
  dm := fun a h => k.dm a (exdm e a h)
  nw := fun a o h => by
    have q := k.nw a o h
    cases q0 : H0 a with
    | none => rw [nw_n q0] at q ⊢; exact e _ _ q
    | some u0 => rw [nw_s q0] at q ⊢; exact q
  md := k.md
  mh := k.mh
/-- what is one's own, and not known, is written -/
theorem Kn.wrote (k : Kn M F0 H0 F H) (fa : ∀ a ∈ as, F a = none) (ha : ∀ a ∈ as, H0 a = none) (kb : KeepBut as H H') (dm : Dm H H') : Kn M F0 H0 F H' where
  f := k.f
  fh := fun a o h => kb a o (fun m => by rw [fa a m] at h; cases h) (k.fh a o h)
  h := fun a o n h => kb a o (fun m => by rw [ha a m] at h; cases h) (k.h a o n h)
  dm := fun a h => k.dm a (dm a h)
  nw := fun a o h => by
    have q := k.nw a o h
    cases q0 : H0 a with
    | none => rw [nw_n q0] at q ⊢; exact kb a o (fun m => by rw [fa a m] at h; cases h) q
    | some u0 => rw [nw_s q0] at q ⊢; exact q
  md := k.md
  mh := k.mh
theorem StA.wrote (st : StA l s n H) (hl : l ∉ as) (hs : s ∉ as) (kb : KeepBut as H H') : StA l s n H' := by
  obtain ⟨xs, a, b, c, h1, h2, h3⟩ := st
  exact ⟨xs, a, b, c, kb _ _ hl h1, kb _ _ hs h2, h3⟩
end
section
variable {σ : L2.St} {F : Hp} {tl : TE} {m : WayM} {x y u : V} {E E' : XK}
theorem d_nums {ls : List Lab} (ok : m.Ok) (hl : ls.length ≤ 40000) (h : EvD tl σ F (labsD ls)) (w1 : ∀ b, (((wipe σ [9]).set 9 (some b)) : L2.St)[1]? = some (some x)) (w2 : ∀ b, (((wipe σ [9]).set 9 (some b)) : L2.St)[2]? = some (some y)) (w3 : ∀ b, (((wipe σ [9]).set 9 (some b)) : L2.St)[3]? = some (some u)) (w9 : ∀ b, (((wipe σ [9]).set 9 (some b)) : L2.St)[9]? = some (some b)) (hw : ∀ b, wipe ((wipe σ [9]).set 9 (some b)) [9] = wipe σ [9])
    (hx : Dt F x (rulesD m.rs)) (hy : Dt F y (.str m.z)) (hu : Dt F u (stepsD m.ss)) : EvD (tLc (iList K tl) (gName 9) tYes (tCall (SpD c_number) [] E (tCons (tVar 1) (tCons (tVar 2) (tCons (tVar 3) (tCons (tVar 9) tNil))))) [9]) σ F (natsD (nums m ls)) :=
  d_lcn (j := 9) (rs := (nums m ls).map fun (n : Nat) => PyData.int (n : Int)) (wk_list h) (by rw [List.length_map]; exact hl) (by rw [List.length_map, List.length_map, nums_len]) (fun i d r b F' hi hr e1 hd => by
    obtain ⟨lab, hlab, rfl⟩ := map_at hi
    obtain ⟨k, hk, rfl⟩ := map_at hr
    obtain ⟨lab', hlab', rfl⟩ := map_at hk
    rw [hlab] at hlab'
    cases hlab'
    exact d_call (da_cons (d_var (w1 b) (hx.ex e1)) (da_cons (d_var (w2 b) (hy.ex e1)) (da_cons (d_var (w3 b) (hu.ex e1)) (da_cons (d_var (w9 b) hd) da_nil)))) ⟨m, lab, rfl, ok, rfl⟩) hw
theorem d_given {n : Nat} {st : WStep} (ok : m.Ok) (hs : m.ss[n]? = some st) (v1 : σ[1]? = some (some x)) (v3 : σ[3]? = some (some u)) (v6 : σ[6]? = some (some (.int (n : Nat)))) (w1 : ∀ b, (((wipe σ [10]).set 10 (some b)) : L2.St)[1]? = some (some x)) (w2 : ∀ b, (((wipe σ [10]).set 10 (some b)) : L2.St)[2]? = some (some y)) (w3 : ∀ b, (((wipe σ [10]).set 10 (some b)) : L2.St)[3]? = some (some u)) (w6 : ∀ b, (((wipe σ [10]).set 10 (some b)) : L2.St)[6]? = some (some (.int (n : Nat)))) (w10 : ∀ b, (((wipe σ [10]).set 10 (some b)) : L2.St)[10]? = some (some b)) (hw : ∀ b, wipe ((wipe σ [10]).set 10 (some b)) [10] = wipe σ [10])
    (hx : Dt F x (rulesD m.rs)) (hy : Dt F y (.str m.z)) (hu : Dt F u (stepsD m.ss)) :
    EvD (tLc (iRng1 (tCons (tCB rLenSQ (tCons (tCall (SpD c_goal) [] E (tCons (tVar 1) (tCons (tOp (rIxL K) (tVar 3) (tVar 6)) tNil))) tNil)) tNil)) (gName 10) tYes (tCall (SpD c_number) [] E' (tCons (tVar 1) (tCons (tVar 2) (tCons (tVar 3) (tCons (tTup (tCons (tVar 6) (tCons (tVar 10) tNil))) tNil))))) [10]) σ F (natsD (nums m (givenL m.rs n st))) := by
  obtain ⟨q, zi, zj, sa⟩ := ok.step hs
  have gl := sa.ok.gl st.2.2
  have ge := goL_eq sa.hq
  refine d_lcn (j := 10) (rs := (nums m (givenL m.rs n st)).map fun (n : Nat) => PyData.int (n : Int)) (wk_rng1 (n := ((goL m.rs st : Nat) : Int)) (da_cons ((d_lenS (d_call (da_cons (d_var v1 hx) (da_cons (d_ixL (d_var v3 hu) (d_var v6 (.int _)) (stD_at hs)) da_nil)) ⟨_, _, _, rfl, sa.hq, rfl⟩) (szS (Nat.le_trans gl (by decide)))).is (by rw [ge])) da_nil) ⟨by omega, by omega⟩) (by rw [rngD_len]; omega) ?_ (fun i d r b F' hi hr e1 hd => ?_) hw
  · rw [rngD_len, List.length_map, nums_len]
    unfold givenL
    rw [List.length_map, List.length_range]
    omega
  · have il : i < goL m.rs st := by
      have z := (List.getElem?_eq_some_iff.mp hi).1
      rw [rngD_len] at z
      omega
    rw [rngD_get (by omega), Int.zero_add] at hi
    cases hi
    obtain ⟨k, hk, rfl⟩ := map_at hr
    obtain ⟨lab, hlab, rfl⟩ := map_at hk
    unfold givenL at hlab
    obtain ⟨_, rfl⟩ := range_get' hlab
    exact d_call (da_cons (d_var (w1 b) (hx.ex e1)) (da_cons (d_var (w2 b) (hy.ex e1)) (da_cons (d_var (w3 b) (hu.ex e1)) (da_cons (d_tup (da_cons (d_var (w6 b) (.int _)) (da_cons (d_var (w10 b) hd) da_nil))) da_nil)))) ⟨m, (some n, i), rfl, ok, rfl⟩
end
/-! what is compared, what is spoilt: of a length and a depth that go -/
theorem okNats {C : Addr} {o : Option Addr} {ns : List Nat} (h : ns.length ≤ 30000) : okD C o (natsD ns) := okList (by rw [List.length_map]; exact h) fun d m => by
  obtain ⟨_, _, rfl⟩ := List.mem_map.mp m
  unfold okD
  trivial
theorem dpNats (ns : List Nat) : dpS (natsD ns) ≤ 1 := dpList fun d m => by
  obtain ⟨_, _, rfl⟩ := List.mem_map.mp m
  unfold dpS
  exact Nat.le_refl _
theorem pair_at {m : WayM} {n : Nat} {d : PyData} (h : d ∈ pairsD m n) (hn : n ≤ m.ss.length) (ok : m.Ok) : ∃ as bs : List Nat, d = .tuple [natsD as, natsD bs] ∧ as.length ≤ 1000 ∧ bs.length ≤ 1000 := by
  unfold pairsD at h
  obtain ⟨i, hi, rfl⟩ := List.mem_map.mp h
  have il := List.mem_range.mp hi
  obtain ⟨q, zi, zj, sa⟩ := ok.step (List.getElem?_eq_getElem (show i < m.ss.length by omega))
  refine ⟨_, _, by unfold pairAt; rw [sa.hs], ?_, ?_⟩
  · rw [nums_len, taken_len ok sa]
    have := sa.c
    have := sa.zl
    omega
  · rw [nums_len]
    unfold givenL
    rw [List.length_map, List.length_range, goL_eq sa.hq]
    exact sa.ok.gl _
theorem okWires {C : Addr} {o : Option Addr} {m : WayM} (ok : m.Ok) : okD C o (wiresD m) := okList (by rw [pairsD_len]; have := ok.n; omega) fun d h => by
  obtain ⟨as, bs, rfl, h1, h2⟩ := pair_at h (Nat.le_refl _) ok
  exact okTuple (by show 2 ≤ _; decide) fun d q => by
    simp only [List.mem_cons, List.not_mem_nil, or_false] at q
    rcases q with rfl | rfl
    · exact okNats (by omega)
    · exact okNats (by omega)
theorem dpWires {m : WayM} (ok : m.Ok) : dpS (wiresD m) ≤ 3 := dpList fun d h => by
  obtain ⟨as, bs, rfl, h1, h2⟩ := pair_at h (Nat.le_refl _) ok
  exact dpTuple fun d q => by
    simp only [List.mem_cons, List.not_mem_nil, or_false] at q
    rcases q with rfl | rfl
    · exact dpNats _
    · exact dpNats _
theorem row_at {m : WayM} {n : Nat} {d : PyData} (h : d ∈ rowsD m n) (hn : n ≤ m.ss.length + 1) (ok : m.Ok) : ∃ as : List Nat, d = natsD as ∧ as.length ≤ 1000 := by
  unfold rowsD at h
  obtain ⟨i, hi, rfl⟩ := List.mem_map.mp h
  have il := List.mem_range.mp hi
  obtain ⟨zi, hz, zl⟩ := word_len ok (show i ≤ m.ss.length by omega)
  exact ⟨_, rfl, by rw [nums_len, row_len ok hz]; exact zl⟩
theorem okWrows {C : Addr} {o : Option Addr} {m : WayM} (ok : m.Ok) : okD C o (wrowsD m) := okList (by rw [rowsD_len]; have := ok.n; omega) fun d h => by
  obtain ⟨as, rfl, h1⟩ := row_at h (Nat.le_refl _) ok
  exact okNats (by omega)
theorem dpWrows {m : WayM} (ok : m.Ok) : dpS (wrowsD m) ≤ 2 := dpList fun d h => by
  obtain ⟨as, rfl, h1⟩ := row_at h (Nat.le_refl _) ok
  exact dpNats _
abbrev bothD (m : WayM) : PyData := .list [wiresD m, wrowsD m]
theorem okBoth {C : Addr} {o : Option Addr} {m : WayM} (ok : m.Ok) : okD C o (bothD m) := okList (by show 2 ≤ _; decide) fun d q => by
  simp only [List.mem_cons, List.not_mem_nil, or_false] at q
  rcases q with rfl | rfl
  · exact okWires ok
  · exact okWrows ok
theorem dpBoth {m : WayM} (ok : m.Ok) : dpS (bothD m) < 7 := Nat.lt_of_le_of_lt (dpList (n := 3) fun d q => by
  simp only [List.mem_cons, List.not_mem_nil, or_false] at q
  rcases q with rfl | rfl
  · exact dpWires ok
  · exact Nat.le_trans (dpWrows ok) (by decide)) (by decide)
theorem lens_of : ∀ {ds : List PyData}, (∀ d ∈ ds, lensD d = true) → lensDs ds = true
  | [], _ => rfl
  | d :: ds, h => by
    unfold lensDs
    rw [h d (List.mem_cons_self ..), lens_of fun e m => h e (List.mem_cons_of_mem _ m)]
    rfl
theorem lensList {ds : List PyData} (n : ds.length ≤ 30000) (h : ∀ d ∈ ds, lensD d = true) : lensD (.list ds) = true := by
  unfold lensD
  rw [decide_eq_true n, lens_of h]
  rfl
theorem lensTuple {ds : List PyData} (n : ds.length ≤ 30000) (h : ∀ d ∈ ds, lensD d = true) : lensD (.tuple ds) = true := by
  unfold lensD
  rw [decide_eq_true n, lens_of h]
  rfl
theorem depth_le {n : Nat} : ∀ {ds : List PyData}, (∀ d ∈ ds, d.depth ≤ n) → PyData.depthAll ds ≤ n
  | [], _ => by simp [PyData.depthAll]
  | d :: ds, h => by
    simp only [PyData.depthAll]
    exact Nat.max_le.mpr ⟨h d (List.mem_cons_self ..), depth_le fun e m => h e (List.mem_cons_of_mem _ m)⟩
theorem depthList {n : Nat} {ds : List PyData} (h : ∀ d ∈ ds, d.depth ≤ n) : (PyData.list ds).depth ≤ n + 1 := by
  simp only [PyData.depth]
  have := depth_le h
  omega
theorem depthTuple {n : Nat} {ds : List PyData} (h : ∀ d ∈ ds, d.depth ≤ n) : (PyData.tuple ds).depth ≤ n + 1 := by
  simp only [PyData.depth]
  have := depth_le h
  omega
theorem lensNats {ns : List Nat} (h : ns.length ≤ 30000) : lensD (natsD ns) = true := lensList (by rw [List.length_map]; exact h) fun d m => by
  obtain ⟨_, _, rfl⟩ := List.mem_map.mp m
  rfl
theorem depthNats (ns : List Nat) : (natsD ns).depth ≤ 1 := depthList fun d m => by
  obtain ⟨_, _, rfl⟩ := List.mem_map.mp m
  simp [PyData.depth]
theorem lensBoth {m : WayM} (ok : m.Ok) : lensD (bothD m) = true := lensList (by show 2 ≤ _; decide) fun d q => by
  simp only [List.mem_cons, List.not_mem_nil, or_false] at q
  rcases q with rfl | rfl
  · refine lensList (by rw [pairsD_len]; have := ok.n; omega) fun d h => ?_
    obtain ⟨as, bs, rfl, h1, h2⟩ := pair_at h (Nat.le_refl _) ok
    exact lensTuple (by show 2 ≤ _; decide) fun d q => by
      simp only [List.mem_cons, List.not_mem_nil, or_false] at q
      rcases q with rfl | rfl
      · exact lensNats (by omega)
      · exact lensNats (by omega)
  · refine lensList (by rw [rowsD_len]; have := ok.n; omega) fun d h => ?_
    obtain ⟨as, rfl, h1⟩ := row_at h (Nat.le_refl _) ok
    exact lensNats (by omega)
theorem depthBoth {m : WayM} (ok : m.Ok) : (bothD m).depth < 6 := Nat.lt_of_le_of_lt (depthList (n := 3) fun d q => by
  simp only [List.mem_cons, List.not_mem_nil, or_false] at q
  rcases q with rfl | rfl
  · refine depthList (n := 2) fun d h => ?_
    obtain ⟨as, bs, rfl, h1, h2⟩ := pair_at h (Nat.le_refl _) ok
    exact depthTuple (n := 1) fun d q => by
      simp only [List.mem_cons, List.not_mem_nil, or_false] at q
      rcases q with rfl | rfl
      · exact depthNats _
      · exact depthNats _
  · refine Nat.le_trans (depthList (n := 1) fun d h => ?_) (by decide)
    obtain ⟨as, rfl, h1⟩ := row_at h (Nat.le_refl _) ok
    exact depthNats _) (by decide)
theorem okLab {C : Addr} {o : Option Addr} (l : Lab) : okD C o (labD l) := by
  unfold labD
  exact okTuple (by show 2 ≤ _; decide) fun d q => by
    simp only [List.mem_cons, List.not_mem_nil, or_false] at q
    rcases q with rfl | rfl
    · split <;> (unfold okD; trivial)
    · unfold okD; trivial
theorem dpLab (l : Lab) : dpS (labD l) ≤ 1 := by
  unfold labD
  exact dpTuple fun d q => by
    simp only [List.mem_cons, List.not_mem_nil, or_false] at q
    rcases q with rfl | rfl
    · split <;> (unfold dpS; exact Nat.le_refl _)
    · unfold dpS; exact Nat.le_refl _
theorem okTwo {C : Addr} {o : Option Addr} (a b : Lab) : okD C o (.list [labD a, labD b]) := okList (by show 2 ≤ _; decide) fun d q => by
  simp only [List.mem_cons, List.not_mem_nil, or_false] at q
  rcases q with rfl | rfl
  · exact okLab _
  · exact okLab _
theorem dpTwo (a b : Lab) : dpS (.list [labD a, labD b]) < 7 := Nat.lt_of_le_of_lt (dpList (n := 1) fun d q => by
  simp only [List.mem_cons, List.not_mem_nil, or_false] at q
  rcases q with rfl | rfl
  · exact dpLab _
  · exact dpLab _) (by decide)
end
end K05
namespace K05
open PySem PySem.Spec PyProof.Rows L2 Evl WB
section
variable {P : Program} {w : World} {K : PySem.W.Frag} {mg : Str → Option Value} {base : Heap}
section
variable {M : Addr → Prop} {F0 H0 F H : Hp} {σ : L2.St} {ta tb te : TE} {D : Ends} {rest : TS} {Q : VK} {E : XK} {T1 T2 : Hp → V → Prop} {m : WayM}
theorem q_two {i j : Nat} (kn : Kn M F0 H0 F H) (ha : EvP ta σ F T1) (m1 : Mo T1) (hb : EvP tb σ F T2) (m2 : Mo T2) (k : ∀ x y F1 H1, StpE M F0 H0 F H F1 H1 → T1 F1 x → T2 F1 y → rest D ((σ.set i (some x)).set j (some y)) H1) : tSeq (tAsg (tTup (tCons ta (tCons tb tNil))) (gTup K 2 (gCons (gName i) (gCons (gName j) gNil)))) rest D σ H := by
  refine wp_asgG ?_
  refine kp_ev kn (p_tup2 ha m1 hb m2) _ fun v F1 H1 s1 ⟨p, x, y, e, hp, t1, t2⟩ => ?_
  subst e
  exact ⟨p, _, rfl, SqT.of (s1.kn.fh _ _ hp), rfl, x, [y], rfl, y, [], rfl, rfl, k x y F1 H1 s1 t1 t2⟩
theorem pa_bk {rs : List Rule} (h : EvD te σ F (rulesD rs)) (ok : BkOk rs) : EvPA (tCons te tNil) σ F (BkArgs rs) := fun H1 e _ q => h H1 e _ fun x H2 e2 hx => q [x] H2 e2 ⟨ok, x, rfl, hx⟩
theorem pa_mk (h : EvP te σ F (BookAt (CB K) m.rs)) (hx : EvD ta σ F (.str m.z)) (hy : EvD tb σ F (stepsD m.ss)) (ok : m.Ok) : EvPA (tCons te (tCons ta (tCons tb tNil))) σ F (AWn K m) := fun H1 e _ q =>
  h H1 e _ fun x H2 e2 hb => hx H2 (e.trans e2) _ fun y H3 e3 hz => hy H3 ((e.trans e2).trans e3) _ fun u H4 e4 hu =>
    q [x, y, u] H4 ((e2.trans e3).trans e4) ⟨ok, x, y, u, rfl, BookAt.mo _ _ _ _ _ (nw_r (exexn (e3.trans e4))) hb, (hz.ex (nw_l e (exdm e2))).ex (nw_r (exexn e4)), hu.ex (nw_l e (exdm (e2.trans e3)))⟩
theorem r_callN {α : Type} {args : α → Hp → List V → Prop} {res : α → PyData} {b : Sp} {ta : TA} {gV : List V → List V → List V} (x : α) (h : EvPA ta σ F (fun G zs => args x G (gV [] zs))) : EvR (tCallN (SpOr (SpR args res) b) gV E ta) σ F F (res x) := fun H1 e Q q =>
  h H1 e _ fun xs H2 e2 hx => .inl ⟨nw F H1 H2, x, nw_ex (e.trans e2), hx, fun v H3 as e3 hv hn hf => q v H3 as (e2.trans e3) (hv.ex (nw_nw e2 e3)) hn fun a m => exdm e2 a (hf a m)⟩
theorem p_callN {α : Type} {args : α → Hp → List V → Prop} {res : α → Hp → V → Prop} {b : Sp} {ta : TA} {gV : List V → List V → List V} (x : α) (h : EvPA ta σ F (fun G zs => args x G (gV [] zs))) (mo : Mo (res x)) : EvP (tCallN (SpOr (SpP args res) b) gV E ta) σ F (res x) := fun H1 e Q q =>
  h H1 e _ fun xs H2 e2 hx => .inl ⟨nw F H1 H2, x, nw_ex (e.trans e2), hx, fun v H3 e3 hv => q v H3 (e2.trans e3) (mo _ _ _ (nw_nw e2 e3) hv)⟩
theorem pa_wkN (h : EvP te σ F (Wy K m)) (ok : m.Ok) : EvPA (tCons te tNil) σ F (fun G zs => AWk K m G (g1 [] zs)) := fun H1 e _ q => h H1 e _ fun x H2 e2 hx => q [x] H2 e2 ⟨ok, x, rfl, hx⟩
theorem pa_wlN {i p : Nat} (h : EvP te σ F (Wy K m)) (ok : m.Ok) (hi : ∃ z, (wordsOf m.rs m.z m.ss)[i]? = some z ∧ z.length ≤ 1000 ∧ p < z.length) : EvPA (tCons (tC (.int (p : Nat))) (tCons (tC (.int (i : Nat))) (tCons te tNil))) σ F (fun G zs => AWl K (m, i, p) G (g3 [] zs)) := fun H1 e _ q =>
  h H1 e _ fun x H2 e2 hx => q [.int (p : Nat), .int (i : Nat), x] H2 e2 ⟨ok, hi, x, rfl, hx⟩
theorem wp_ap {i : Nat} {v : V} {d : PyData} {as : List Addr} {Qb : Bool → Hp → Prop} (hv : σ[i]? = some (some v)) (e0 : Ex F H) (fa : ∀ a ∈ as, F a = none) (ht : Tr H v d as) (nd : as.Nodup) (dd : d.depth < 6) (ld : lensD d = true) (k : ∀ H', KeepBut as H H' → Dm H H' → Qb false H') : tNot (tB (tCall SpAp [] E (tCons (tVar i) tNil))) σ H Qb :=
  ⟨v, hv, F, v, d, as, rfl, e0, fa, ht, nd, dd, ld, fun H' kb dm => ⟨true, rfl, k H' kb dm⟩⟩
theorem wp_next {D : Ends} (h : D.nx σ H) : tNext D σ H := h
end
/-- the few places of a row -/
theorem w_few {l s : Addr} {n : Nat} {F0 H0 F H : Hp} {σ : L2.St} {E : XK} {v2 : V} {ls : List Lab} {Q : VK} (kn : Kn (Ms l s) F0 H0 F H) (st : StA l s n H) (hn : n + 3 ≤ 1000000) (h12 : σ[12]? = some (some v2)) (hv : Dt F v2 (labsD ls))
    (w0 : ∀ x, (((wipe σ [16]).set 16 (some x)) : L2.St)[0]? = some (some (.ref l))) (w12 : ∀ x, (((wipe σ [16]).set 16 (some x)) : L2.St)[12]? = some (some v2)) (hw : ∀ x, wipe ((wipe σ [16]).set 16 (some x)) [16] = wipe σ [16]) (hl : ls.length ≤ 1000)
    (k : ∀ fv ps F1 H1, Kn (Ms l s) F0 H0 F1 H1 → Ex F F1 → StA l s (n + 3) H1 → Dt F1 fv (natsD ps) → (∀ p ∈ ps, p < ls.length) → ps.length ≤ 1000 → Q fv H1) :
    tIf (tTest (tOp (rI0 fun i j => .bl (decide (j < i))) (tCB (rLenQ K) (tCons (tVar 12) tNil)) (tC (.int 20)))) (tLc (iRng1 (tCons (tC (.int 3)) tNil)) (gName 16) tYes (tCall (SpM (fun _ => 1) ADr RDr) [] E (tCons (tVar 0) (tCons (tCB (rLenQ K) (tCons (tVar 12) tNil)) tNil))) [16]) (tLstRg (tRg1 (tCB (rLenQ K) (tCons (tVar 12) tNil)))) σ H Q := by
  have len : ∀ {σ : L2.St} {F : Hp}, σ[12]? = some (some v2) → Dt F v2 (labsD ls) → EvD (tCB (rLenQ K) (tCons (tVar 12) tNil)) σ F (.int ((ls.length : Nat) : Int)) := fun h1 h2 => (d_lenL (d_var h1 h2)).is (by rw [List.length_map])
  refine wp_ifX (wp_t (t_val (d_cmp (len h12 hv) d_int)) kn.fh fun H1 e1 => ?_)
  have s1 := kn.step e1
  by_cases c : (20 : Int) < (ls.length : Nat)
  · rw [if_pos (decide_eq_true c)]
    refine wp_lc (wp_rng1 (wp_cons (wp_c (wp_nil ⟨3, rfl, by omega, by omega, ?_⟩))))
    refine lc_turns (M2 := Ms l s) (m := 3) s1.kn (by omega) (fun i acc F' H' => StA l s (n + i) H' ∧ Dt F' v2 (labsD ls) ∧ ∃ ps : List Nat, acc = natsV ps ∧ ps.length = i ∧ ∀ p ∈ ps, p < ls.length) (st.ex e1).has ⟨st.ex e1, hv.ex s1.ff, [], rfl, rfl, fun y h => by cases h⟩ ?_ ?_ ?_ hw
    · rintro i acc F' H' H'' ⟨g1, g2⟩ hh
      exact ⟨g1.at_ (hh l ((st.ex e1).has l (.inl rfl))) (hh s ((st.ex e1).has s (.inr rfl))), g2⟩
    · rintro i acc F' H' il al kn' eF em ⟨g1, g2, ps, rfl, g3, g4⟩ Q' hQ'
      refine wm_call ls.length kn' g1 (by show n + i + 1 ≤ _; omega) (w0 _) (pa_dr (len (w12 _) g2) (by omega) (by omega)) (mo_dr _) fun v F2 H2 s2 st2 ⟨d', hd', dl⟩ => ?_
      subst hd'
      exact hQ' _ F2 H2 s2.kn s2.ff s2.hm s2.fr ⟨st2, g2.ex s2.ff, ps ++ [d'], by unfold natsV; rw [List.map_append]; rfl, by rw [List.length_append, g3]; rfl, fun y' h => by
        rcases List.mem_append.mp h with q | q
        · exact g4 y' q
        · rw [List.mem_singleton.mp q]; exact dl⟩
    · rintro D acc F' H' kn' eF em frr al ⟨g1, g2, ps, rfl, g3, g4⟩ hD hF hH
      have h0D : H0 D = none := s1.kn.dm D hH
      exact k (.ref D) ps _ H' (kn'.know hF h0D hD) ((s1.ff.trans eF).trans (ex_know hF)) (g1.mono (by omega)) (.lst upd_same (nats_all ps).dt) g4 (by omega)
  · rw [if_neg (by rw [decide_eq_false c]; decide)]
    refine (er_rg1 (n := ls.length) (len h12 (hv.ex s1.ff)) (RgOk.of_le (by omega) (by omega) (by omega) (by omega))).toD H1 s1.kn.fh _ fun v H2 e2 hd => ?_
    have s2 := s1.kn.step e2
    exact k v (List.range ls.length) _ H2 s2.kn (s1.ff.trans s2.ff) (((st.ex e1).ex e2).mono (by omega)) hd (fun p hp => List.mem_range.mp hp) (by rw [List.length_range]; exact hl)
theorem str_pos {z : Str} (h : z ≠ "") : 0 < z.length := Nat.pos_of_ne_zero fun e => h (by
  obtain ⟨cps⟩ := z
  have : cps = #[] := Array.eq_empty_of_size_eq_zero e
  rw [this]
  rfl)
def takD (m : WayM) (i : Nat) : PyData := match m.ss[i]? with
  | some s => labsD (takenL m.rs m.z m.ss i s)
  | none => .none
abbrev AWr : WayM → Hp → List V → Prop := fun m H vs => CaseOk m ∧ ∃ r z t, vs = [r, z, t] ∧ Dt H r (rulesD m.rs) ∧ Dt H z (.str m.z) ∧ Dt H t (stepsD m.ss)
theorem cl__law_wires_right (S : Env P w K mg base) : Cl P w K mg base 10 "_law_wires_right" ["stream", "rules", "word", "steps"] (SpM (fun _ => 400) AWr fun _ H v => Dt H v (.bool true)) := mk_cl S.fun__law_wires_right S.glo__law_wires_right sc__law_wires_right (fun _ _ _ _ _ _ us hl => match us, hl with | [_, _, _, _], _ => rfl) (m_len fun _ _ _ ⟨_, _, _, _, e, _⟩ => by rw [e]; rfl) fun cdv A outer s H vs Q E hr h => by
  have nd := sc__law_wires_right.nd
  refine ⟨_, (pss_cons (ps_asg (pe_tup (pa_cons (pe_mc (mc_Way S) hr (by decide) pass_none (by rfl) (pa_cons (pe_mc (mc_Book S) hr (by decide) pass_none (by rfl) (pa_cons (pv 1) pa_nil)) (pa_cons (pv 2) (pa_cons (pv 3) pa_nil)))) (pa_cons (pe_cl (cl__law_labels S) hr (by decide) pass_none (by rfl) (pa_cons (pv 1) (pa_cons (pv 2) (pa_cons (pv 3) pa_nil)))) pa_nil))) (pg_tupK (K := K) (n := 2) rfl rfl (pgs_cons (pg_name (i := 4) nd rfl (by first | exact Or.inl rfl | exact Or.inr rfl)) (pgs_cons (pg_name (i := 5) nd rfl (by first | exact Or.inl rfl | exact Or.inr rfl)) pgs_nil))))
    (pss_cons (ps_setLc (i := 7) (own := [("number", 6)]) rfl nd rfl rfl (sw_true rfl rfl rfl (by decide +kernel)) (pi_range1 rfl S.free_range (pa_cons (pe_callB (r := rLenQ K) (id := "len") call_len_seq (by rfl) S.free_len (by decide +kernel) (pa_cons (pv 3) pa_nil)) pa_nil)) (blkOk_by (N := ["stream", "rules", "word", "steps", "way", "rows", "number", "taken", "some", "label", "at", "pairs", "row", "due", "found", "index", "k", "few", "place"]) (sc := defScope s__law_wires_right) (by decide +kernel)) (fun _ _ _ _ _ => (pg_name (i := 6) nd rfl (by first | exact Or.inl rfl | exact Or.inr rfl))) (fun _ _ _ _ _ => pts_nil) (fun _ _ _ _ _ => (pe_cl (cl__law_taken S) hr (by decide) pass_none (by rfl) (pa_cons (pv 1) (pa_cons (pv 5) (pa_cons (pv 3) (pa_cons (pv 6) pa_nil)))))))
    (pss_cons (ps_setLc (i := 11) (own := [("number", 6), ("some", 8)]) rfl nd rfl rfl (sw_true rfl rfl rfl (by decide +kernel)) (pi_enumK (K := K) rfl rfl S.free_enumerate (pa_cons (pv 7) pa_nil)) (blkOk_by (N := ["stream", "rules", "word", "steps", "way", "rows", "number", "taken", "some", "label", "at", "pairs", "row", "due", "found", "index", "k", "few", "place"]) (sc := defScope s__law_wires_right) (by decide +kernel)) (fun _ _ _ _ _ => (pg_tupK (K := K) (n := 2) rfl rfl (pgs_cons (pg_name (i := 6) nd rfl (by first | exact Or.inl rfl | exact Or.inr rfl)) (pgs_cons (pg_name (i := 8) nd rfl (by first | exact Or.inl rfl | exact Or.inr rfl)) pgs_nil)))) (fun _ _ _ _ _ => pts_nil) (fun _ _ _ _ _ => (pe_tup (pa_cons (pe_lc (own := [("label", 9)]) rfl nd (pi_listK (K := K) rfl (pv 8)) (blkOk_by (N := ["stream", "rules", "word", "steps", "way", "rows", "number", "taken", "some", "label", "at", "pairs", "row", "due", "found", "index", "k", "few", "place"]) (by kernel_rfl)) (fun _ _ _ _ _ => (pg_name (i := 9) nd rfl (by first | exact Or.inl rfl | exact Or.inr rfl))) (fun _ _ _ _ _ => pts_nil) (fun _ _ _ _ _ => (pe_cl (cl__law_number S) hr (by decide) pass_none (by rfl) (pa_cons (pv 1) (pa_cons (pv 2) (pa_cons (pv 3) (pa_cons (pv 9) pa_nil))))))) (pa_cons (pe_lc (own := [("at", 10)]) rfl nd (pi_range1 rfl S.free_range (pa_cons (pe_callB (r := rLenSQ) (id := "len") call_len_str (by rfl) S.free_len (by decide +kernel) (pa_cons (pe_cl (cl__law_w_goal S) hr (by decide) pass_none (by rfl) (pa_cons (pv 1) (pa_cons (pe_ix (r := rIxL K) ix_list (pv 3) (pv 6) (fun _ _ => rfl)) pa_nil))) pa_nil)) pa_nil)) (blkOk_by (N := ["stream", "rules", "word", "steps", "way", "rows", "number", "taken", "some", "label", "at", "pairs", "row", "due", "found", "index", "k", "few", "place"]) (by kernel_rfl)) (fun _ _ _ _ _ => (pg_name (i := 10) nd rfl (by first | exact Or.inl rfl | exact Or.inr rfl))) (fun _ _ _ _ _ => pts_nil) (fun _ _ _ _ _ => (pe_cl (cl__law_number S) hr (by decide) pass_none (by rfl) (pa_cons (pv 1) (pa_cons (pv 2) (pa_cons (pv 3) (pa_cons (pe_tup (pa_cons (pv 6) (pa_cons (pv 10) pa_nil))) pa_nil))))))) pa_nil)))))
    (pss_cons (ps_set (i := 13) nd rfl (by first | exact Or.inl rfl | exact Or.inr rfl) (pe_lst (pa_cons (pv 11) (pa_cons (pe_lc (own := [("row", 12)]) rfl nd (pi_listK (K := K) rfl (pv 5)) (blkOk_by (N := ["stream", "rules", "word", "steps", "way", "rows", "number", "taken", "some", "label", "at", "pairs", "row", "due", "found", "index", "k", "few", "place"]) (sc := defScope s__law_wires_right) (by decide +kernel)) (fun _ _ _ _ _ => (pg_name (i := 12) nd rfl (by first | exact Or.inl rfl | exact Or.inr rfl))) (fun _ _ _ _ _ => pts_nil) (fun _ _ _ _ _ => (pe_lc (own := [("label", 9)]) rfl nd (pi_listK (K := K) rfl (pv 12)) (blkOk_by (N := ["stream", "rules", "word", "steps", "way", "rows", "number", "taken", "some", "label", "at", "pairs", "row", "due", "found", "index", "k", "few", "place"]) (by kernel_rfl)) (fun _ _ _ _ _ => (pg_name (i := 9) nd rfl (by first | exact Or.inl rfl | exact Or.inr rfl))) (fun _ _ _ _ _ => pts_nil) (fun _ _ _ _ _ => (pe_cl (cl__law_number S) hr (by decide) pass_none (by rfl) (pa_cons (pv 1) (pa_cons (pv 2) (pa_cons (pv 3) (pa_cons (pv 9) pa_nil))))))))) pa_nil))))
    (pss_cons (ps_set (i := 14) nd rfl (by first | exact Or.inl rfl | exact Or.inr rfl) (pe_lst (pa_cons (pe_cl (cl_wires S) hr (by decide) pass_none (by rfl) (pa_cons (pv 4) pa_nil)) (pa_cons (pe_cl (cl_wire_rows S) hr (by decide) pass_none (by rfl) (pa_cons (pv 4) pa_nil)) pa_nil))))
    (pss_cons (ps_if (PW.pt (pw_or (pt_not (pt_val (pe_cl (cl7_same S) hr (by decide) pass_none (by rfl) (pa_cons (pv 14) (pa_cons (pv 13) pa_nil))))) (pw_or (pt_not (pt_val (pe_cl (cl__law_apart S) hr (by decide) pass_none (by rfl) (pa_cons (pv 14) pa_nil)))) (pw_or1 (pt_not (pt_val (pe_cl (cl7_same S) hr (by decide) pass_none (by rfl) (pa_cons (pe_lst (pa_cons (pe_clK (clk_wires S) hr (by decide) pass_none (by rfl) (pk_cons (pv 4) pk_nil)) (pa_cons (pe_clK (clk_wire_rows S) hr (by decide) pass_none (by rfl) (pk_cons (pv 4) pk_nil)) pa_nil))) (pa_cons (pv 13) pa_nil))))))))) (pss_one (ps_ret pe_bl)) pss_nil)
    (pss_cons (ps_for (passes_of rfl) rfl (pi_enumK (K := K) rfl rfl S.free_enumerate (pa_cons (pv 5) pa_nil)) (pg_tupK (K := K) (n := 2) rfl rfl (pgs_cons (pg_name (i := 15) nd rfl (by first | exact Or.inl rfl | exact Or.inr rfl)) (pgs_cons (pg_name (i := 12) nd rfl (by first | exact Or.inl rfl | exact Or.inr rfl)) pgs_nil)))
    (pss_cons (ps_set (i := 17) nd rfl (by first | exact Or.inl rfl | exact Or.inr rfl) (pe_ifExp (pt_cmpR op_gt (pe_callB (r := rLenQ K) (id := "len") call_len_seq (by rfl) S.free_len (by decide +kernel) (pa_cons (pv 12) pa_nil)) pe_int (nomark _)) (pe_lc (own := [("k", 16)]) rfl nd (pi_range1 rfl S.free_range (pa_cons pe_int pa_nil)) (blkOk_by (N := ["stream", "rules", "word", "steps", "way", "rows", "number", "taken", "some", "label", "at", "pairs", "row", "due", "found", "index", "k", "few", "place"]) (sc := defScope s__law_wires_right) (by decide +kernel)) (fun _ _ _ _ _ => (pg_name (i := 16) nd rfl (by first | exact Or.inl rfl | exact Or.inr rfl))) (fun _ _ _ _ _ => pts_nil) (fun _ _ _ _ _ => (pe_cl (cl__law_draw S) hr (by decide) pass_none (by rfl) (pa_cons (pv 0) (pa_cons (pe_callB (r := rLenQ K) (id := "len") call_len_seq (by rfl) S.free_len (by decide +kernel) (pa_cons (pv 12) pa_nil)) pa_nil))))) (pe_listRg rfl rfl S.free_list (prg_1 rfl S.free_range (pe_callB (r := rLenQ K) (id := "len") call_len_seq (by rfl) S.free_len (by decide +kernel) (pa_cons (pv 12) pa_nil))))))
    (pss_one (ps_for (passes_of rfl) rfl (pi_listK (K := K) rfl (pv 17)) (pg_name (i := 18) nd rfl (by first | exact Or.inl rfl | exact Or.inr rfl))
    (pss_cons (ps_set (i := 13) nd rfl (by first | exact Or.inl rfl | exact Or.inr rfl) (pe_lst (pa_cons (pe_ix (r := rIxL K) ix_list (pv 12) (pv 18) (fun _ _ => rfl)) (pa_cons (pe_cl (cl__law_goal_of S) hr (by decide) pass_none (by rfl) (pa_cons (pv 1) (pa_cons (pv 5) (pa_cons (pv 3) (pa_cons (pe_ix (r := rIxL K) ix_list (pv 12) (pv 18) (fun _ _ => rfl)) pa_nil))))) pa_nil))))
    (pss_one (ps_if (pt_not (pt_val (pe_cl (cl7_same S) hr (by decide) pass_none (by rfl) (pa_cons (pe_lst (pa_cons (pe_cl (cl_comes_from S) hr (by decide) pass_none (by rfl) (pa_cons (pv 4) (pa_cons (pv 15) (pa_cons (pv 18) pa_nil)))) (pa_cons (pe_cl (cl_goes_to S) hr (by decide) pass_none (by rfl) (pa_cons (pv 4) (pa_cons (pv 15) (pa_cons (pv 18) pa_nil)))) pa_nil))) (pa_cons (pv 13) pa_nil))))) (pss_one (ps_ret pe_bl)) pss_nil)))))))
    (pss_cons (ps_if (pt_cmpR op_ne (pv 2) pe_str (nomark _)) (pss_cons (ps_set (i := 8) nd rfl (by first | exact Or.inl rfl | exact Or.inr rfl) (pe_lst (pa_cons (pe_clK (clk_comes_from S) hr (by decide) pass_none (by rfl) (pk_cons pe_int (pk_cons pe_int (pk_cons (pv 4) pk_nil)))) (pa_cons (pe_clK (clk_goes_to S) hr (by decide) pass_none (by rfl) (pk_cons pe_int (pk_cons pe_int (pk_cons (pv 4) pk_nil)))) pa_nil))))
    (pss_one (ps_if (pt_not (pt_val (pe_cl (cl7_same S) hr (by decide) pass_none (by rfl) (pa_cons (pv 8) (pa_cons (pe_lst (pa_cons (pe_tup (pa_cons pe_non (pa_cons pe_int pa_nil))) (pa_cons (pe_cl (cl__law_goal_of S) hr (by decide) pass_none (by rfl) (pa_cons (pv 1) (pa_cons (pv 5) (pa_cons (pv 3) (pa_cons (pe_tup (pa_cons pe_non (pa_cons pe_int pa_nil))) pa_nil))))) pa_nil))) pa_nil))))) (pss_one (ps_ret pe_bl)) pss_nil))) pss_nil)
    (pss_one (ps_ret (pe_and (pe_cl (cl__law_refused_right S) hr (by decide) pass_none (by rfl) (pa_cons (pv 4) (pa_cons (pv 5) pa_nil))) (pe_one (pe_cl (cl__law_w_is S) hr (by decide) pass_none (by rfl) (pa_cons (pv 4) (pa_cons (pv 1) (pa_cons (pv 2) (pa_cons (pv 3) pa_nil))))))))))))))))), ?_⟩
  obtain ⟨F0, m, l, s, n, _, rfl, e0, fl, fs, st, hn, ⟨cs, r, z, t, rfl, hr', hz, ht⟩, hQ⟩ := h
  have hn : n + 400 ≤ 1000000 := hn
  have ok := cs.ok
  have nl : m.ss.length ≤ 100 := cs.n
  have kn := Kn.startS e0 fl fs st
  refine q_two (T1 := Wy K m) kn (p_make m (pa_mk (p_make m.rs (pa_bk (d_var rfl hr') ok.b) (BookAt.mo _ _)) (d_var rfl hz) (d_var rfl ht) ok) (WayAt.mo _ _ _)) (WayAt.mo _ _ _) (EvD.toP (d := lrowsD m) (d_call (da_cons (d_var rfl hr') (da_cons (d_var rfl hz) (da_cons (d_var rfl ht) da_nil))) ⟨m, rfl, ok, rfl⟩)) (mo_dt _) fun wv rv F1 H1 s1 hw hrw => ?_
  have hr1 := hr'.ex s1.ff
  have hz1 := hz.ex s1.ff
  have ht1 := ht.ex s1.ff
  refine q_asg s1.kn (d_lcn (j := 6) (rs := (List.range m.ss.length).map (takD m)) (wk_rng1 (n := ((m.ss.length : Nat) : Int)) (da_cons ((d_lenL (d_var rfl ht1)).is (by rw [steps_len])) da_nil) ⟨by omega, by omega⟩) (by rw [rngD_len]; omega) (by rw [rngD_len, List.length_map, List.length_range]; omega) fun i d r' b F' hi hr e1 hd => ?_) fun tk F2 H2 s2 htk => ?_
  · obtain ⟨il, rfl⟩ := range_get' hr
    rw [rngD_get (by omega), Int.zero_add] at hi
    cases hi
    have hs : m.ss[i]? = some m.ss[i] := List.getElem?_eq_getElem il
    unfold takD
    rw [hs]
    exact d_call (da_cons (d_var rfl (hr1.ex e1)) (da_cons (d_var rfl (hrw.ex e1)) (da_cons (d_var rfl (ht1.ex e1)) (da_cons (d_var rfl hd) da_nil)))) ⟨m, i, _, rfl, ok, hs, rfl⟩
  have t2 := s1.trans s2
  have hr2 := hr'.ex t2.ff
  have hz2 := hz.ex t2.ff
  have ht2 := ht.ex t2.ff
  refine q_asg (d := wiresD m) s2.kn (d_lcm (rs := pairsD m m.ss.length) (wk_enum (da_cons (d_var rfl htk) da_nil)) ?_ ?_ fun i d r' b F' H' hi hr e1 e2 hd Q hQ' => ?_) fun pv F3 H3 s3 hpv => ?_
  · rw [enumD_len, List.length_map, List.length_range]
    omega
  · rw [enumD_len, List.length_map, List.length_range, pairsD_len]
  · obtain ⟨il, rfl⟩ := range_get' hr
    have hs : m.ss[i]? = some m.ss[i] := List.getElem?_eq_getElem il
    obtain ⟨q, zi, zj, sa⟩ := ok.step hs
    rw [enumD_get (d := takD m i) (by rw [List.getElem?_map, List.getElem?_range il]; rfl)] at hi
    cases hi
    refine gt2 hd e2 fun v1 v2 h1 h2 => hQ' _ rfl ?_
    cases h1.int_
    unfold takD at h2
    unfold pairAt
    rw [hs] at h2 ⊢
    replace h2 : Dt F' v2 (labsD (takenL m.rs m.z m.ss i m.ss[i])) := h2
    show EvD _ _ F' (.tuple [natsD (nums m (takenL m.rs m.z m.ss i m.ss[i])), natsD (nums m (givenL m.rs i m.ss[i]))])
    exact d_tup (da_cons (d_nums ok (by rw [taken_len ok sa]; have := sa.c; have := sa.zl; omega) (d_var rfl h2) (fun _ => rfl) (fun _ => rfl) (fun _ => rfl) (fun _ => rfl) (fun _ => rfl) (hr2.ex e1) (hz2.ex e1) (ht2.ex e1)) (da_cons (d_given ok hs rfl rfl rfl (fun _ => rfl) (fun _ => rfl) (fun _ => rfl) (fun _ => rfl) (fun _ => rfl) (fun _ => rfl) (hr2.ex e1) (hz2.ex e1) (ht2.ex e1)) da_nil))
  have t3 := t2.trans s3
  have hr3 := hr'.ex t3.ff
  have hz3 := hz.ex t3.ff
  have ht3 := ht.ex t3.ff
  have hrw3 := hrw.ex (s2.ff.trans s3.ff)
  refine q_asg (d := bothD m) s3.kn (d_lst (da_cons (d_var rfl hpv) (da_cons (d_lcn (j := 12) (rs := rowsD m (m.ss.length + 1)) (wk_list (d_var rfl hrw3)) ?_ ?_ fun i d r' b F' hi hr e1 hd => ?_) da_nil)) (by show 2 ≤ 100000; decide)) fun dv F4 H4 s4 hdv => ?_
  · rw [lrows_len]
    omega
  · rw [rowsD_len, lrows_len]
  · obtain ⟨il, rfl⟩ := range_get' hr
    obtain ⟨zi, hzi, zil⟩ := word_len ok (show i ≤ m.ss.length by omega)
    rw [lrows_get il] at hi
    cases hi
    exact d_nums ok (by rw [row_len ok hzi]; omega) (d_var rfl hd) (fun _ => rfl) (fun _ => rfl) (fun _ => rfl) (fun _ => rfl) (fun _ => rfl) (hr3.ex e1) (hz3.ex e1) (ht3.ex e1)
  have t4 := t3.trans s4
  have hr4 := hr'.ex t4.ff
  have hz4 := hz.ex t4.ff
  have ht4 := ht.ex t4.ff
  have hrw4 := hrw3.ex s4.ff
  have hw4 := WayAt.mo _ _ _ _ _ _ ((s2.ff.trans s3.ff).trans s4.ff) hw
  refine wp_asg (wp_lst (wp_cons ?_))
  refine r_callL m (pa_wk (p_var rfl hw4 (WayAt.mo _ _ _)) ok) H4 s4.kn.fh _ fun v1 H5 as1 e5 q1 n1 f1 => wp_cons ?_
  refine r_callL m (pa_wk (p_var rfl hw4 (WayAt.mo _ _ _)) ok) H5 (s4.kn.fh.trans e5) _ fun v2 H6 as2 e6 q2 n2 f2 => ?_
  refine wp_nil ⟨by show 2 ≤ sizeLine; decide, fun lf hlf => ?_⟩
  have e56 := e5.trans e6
  have e7 : Ex H4 (upd H6 lf (.lst [v1, v2])) := e56.trans (Ex.new hlf)
  have kn7 := Kn.same s4.kn e7
  have st7 := st.ex (((s1.ex.trans s2.ex).trans (s3.ex.trans s4.ex)).trans e7)
  have p1 : Tr H5 v1 (wiresD m) as1 := q1.ex (nw_ex (s4.kn.fh.trans e5))
  have p2 : Tr H6 v2 (wrowsD m) as2 := q2.ex (nw_ex ((s4.kn.fh.trans e5).trans e6))
  have tr7 : Tr (upd H6 lf (.lst [v1, v2])) (.ref lf) (bothD m) (lf :: (as1 ++ (as2 ++ []))) := .lst upd_same (.cons ((p1.ex e6).ex (Ex.new hlf)) (.cons (p2.ex (Ex.new hlf)) .nil))
  rw [List.append_nil] at tr7
  have nd7 : (lf :: (as1 ++ as2)).Nodup := by
    refine List.nodup_cons.mpr ⟨fun h => ?_, List.nodup_append.mpr ⟨n1, n2, fun a ha b hb q => ?_⟩⟩
    · rcases List.mem_append.mp h with q | q
      · obtain ⟨xs, z⟩ := p1.has lf q
        rw [e6 _ _ z] at hlf
        cases hlf
      · obtain ⟨xs, z⟩ := p2.has lf q
        rw [z] at hlf
        cases hlf
    · obtain ⟨xs, z⟩ := p1.has a ha
      rw [q] at z
      rw [f2 b hb] at z
      cases z
  have n4 : ∀ a ∈ lf :: (as1 ++ as2), H4 a = none := fun a h => by
    rcases List.mem_cons.mp h with q | q
    · rw [q]; exact exdm e56 lf hlf
    · rcases List.mem_append.mp q with q | q
      · exact f1 a q
      · exact exdm e5 a (f2 a q)
  have fa : ∀ a ∈ lf :: (as1 ++ as2), F4 a = none := fun a h => by
    cases q : F4 a with
    | none => rfl
    | some o =>
      have z := n4 a h
      rw [s4.kn.fh _ _ q] at z
      cases z
  have ha0 : ∀ a ∈ lf :: (as1 ++ as2), H a = none := fun a h => s4.kn.dm a (n4 a h)
  have hl0 : l ∉ lf :: (as1 ++ as2) := fun h => st.has l (.inl rfl) (ha0 l h)
  have hs0 : s ∉ lf :: (as1 ++ as2) := fun h => st.has s (.inr rfl) (ha0 s h)
  generalize upd H6 lf (.lst [v1, v2]) = H7 at kn7 st7 tr7
  generalize lf :: (as1 ++ as2) = as at tr7 nd7 fa ha0 hl0 hs0
  refine wp_if (wp_or ?_)
  refine wp_t (et_not (t_B (d_same (o := none) (d_var rfl tr7.dt) (d_var rfl (hdv.ex kn7.fh)) (okBoth ok) (fun _ h => nomatch h) (dpBoth ok)))) (Ex.refl H7) fun H8 e8 => ?_
  rw [if_neg (by decide)]
  refine wp_or ?_
  refine wp_ap rfl (kn7.fh.trans e8) fa (tr7.ex e8) nd7 (depthBoth ok) (lensBoth ok) fun H9 kb dm => ?_
  rw [if_neg (by decide)]
  have kn9 := Kn.wrote (Kn.same kn7 e8) fa ha0 kb dm
  have st9 := StA.wrote (st7.ex e8) hl0 hs0 kb
  refine wp_t (et_not (t_B (d_same (o := none) (d_lst (da_cons (r_callN m (pa_wkN (p_var rfl hw4 (WayAt.mo _ _ _)) ok)).toD (da_cons (r_callN m (pa_wkN (p_var rfl hw4 (WayAt.mo _ _ _)) ok)).toD da_nil)) (by show 2 ≤ 100000; decide)) (d_var rfl hdv) (okBoth ok) (fun _ h => nomatch h) (dpBoth ok)))) kn9.fh fun H10 e10 => ?_
  rw [if_neg (by decide)]
  refine wp_next ?_
  have kn10 := Kn.same kn9 e10
  have st10 := st9.ex e10
  show tSeq _ _ _ _ H10
  refine q_for kn10 (wk_enum (da_cons (d_var rfl hrw4) da_nil)) (fun i σ' F' H' => (∃ y6 y7 y8 y9 y10 y11 y12 y13 y14 y15 y16 y17 y18, σ' = [some (.ref l), some r, some z, some t, some wv, some rv, y6, y7, y8, y9, y10, y11, y12, y13, y14, y15, y16, y17, y18]) ∧ (Dt F' r (rulesD m.rs) ∧ Dt F' z (.str m.z) ∧ Dt F' t (stepsD m.ss) ∧ WayAt (CB K) (CW K) m F' wv ∧ Dt F' rv (lrowsD m)) ∧ StA l s (n + 3 * i) H') ?_ ?_ ?_ ?_
  · intro F11 H11 s11
    exact ⟨⟨_, _, _, _, _, _, _, _, _, _, _, _, _, rfl⟩, ⟨hr4.ex s11.ff, hz4.ex s11.ff, ht4.ex s11.ff, WayAt.mo _ _ _ _ _ _ s11.ff hw4, hrw4.ex s11.ff⟩, st10.ex s11.ex⟩
  · rintro i σ' F' H' H2 ⟨hσ, ⟨g1, g2, g3, g4, g5⟩, g6⟩ kn' e
    have s' := kn'.step (H1 := H2) e
    exact ⟨hσ, ⟨g1.ex s'.ff, g2.ex s'.ff, g3.ex s'.ff, WayAt.mo _ _ _ _ _ _ s'.ff g4, g5.ex s'.ff⟩, g6.ex e⟩
  · rintro i d yy σ' F' H' hi kn' eF hd ⟨⟨y6, y7, y8, y9, y10, y11, y12, y13, y14, y15, y16, y17, y18, rfl⟩, ⟨g1, g2, g3, g4, g5⟩, g6⟩ N hN
    have il : i < m.ss.length + 1 := by
      have z := (List.getElem?_eq_some_iff.mp hi).1
      rw [enumD_len, lrows_len] at z
      exact z
    rw [enumD_get (lrows_get il)] at hi
    cases hi
    obtain ⟨zi, hzi, zil⟩ := word_len ok (show i ≤ m.ss.length by omega)
    have rl := row_len ok hzi
    refine gt2 hd kn'.fh fun u1 u2 h1 h2 => ?_
    cases h1.int_
    replace h2 : Dt F' u2 (labsD (rowAt m.rs m.z m.ss i)) := h2
    refine wp_asg (w_few kn' g6 (by omega) rfl h2 (fun _ => rfl) (fun _ => rfl) (fun _ => rfl) (by rw [rl]; exact zil) fun fv ps F12 H12 k12 e12 st12 hfv pl psl => ?_)
    refine k_for k12 (wk_list (d_var rfl hfv)) (fun j σ' F' H' => (∃ y6 y7 y8 y9 y10 y11 y13 y14 y16 y18, σ' = [some (.ref l), some r, some z, some t, some wv, some rv, y6, y7, y8, y9, y10, y11, some u2, y13, y14, some (.int (i : Nat)), y16, some fv, y18]) ∧ (Dt F' r (rulesD m.rs) ∧ Dt F' z (.str m.z) ∧ Dt F' t (stepsD m.ss) ∧ WayAt (CB K) (CW K) m F' wv ∧ Dt F' rv (lrowsD m)) ∧ Dt F' u2 (labsD (rowAt m.rs m.z m.ss i)) ∧ StA l s (n + 3 * i + 3) H') ?_ ?_ ?_ ?_
    · intro F13 H13 s13
      have ee := e12.trans s13.ff
      exact ⟨⟨_, _, _, _, _, _, _, _, _, _, rfl⟩, ⟨g1.ex ee, g2.ex ee, g3.ex ee, WayAt.mo _ _ _ _ _ _ ee g4, g5.ex ee⟩, h2.ex ee, st12.ex s13.ex⟩
    · rintro j σ' F' H' H2 ⟨hσ, ⟨g1, g2, g3, g4, g5⟩, g7, g6⟩ kn' e
      have s' := kn'.step (H1 := H2) e
      exact ⟨hσ, ⟨g1.ex s'.ff, g2.ex s'.ff, g3.ex s'.ff, WayAt.mo _ _ _ _ _ _ s'.ff g4, g5.ex s'.ff⟩, g7.ex s'.ff, g6.ex e⟩
    · rintro j d pv σ' F' H' hj kn' eF hd ⟨⟨y6, y7, y8, y9, y10, y11, y13, y14, y16, y18, rfl⟩, ⟨g1, g2, g3, g4, g5⟩, g7, g6⟩ N' hN'
      obtain ⟨p, hp, rfl⟩ := map_at hj
      have pL := pl p (List.mem_of_getElem? hp)
      cases hd.int_
      obtain ⟨lab, hlab⟩ : ∃ lab, (rowAt m.rs m.z m.ss i)[p]? = some lab := ⟨_, List.getElem?_eq_getElem pL⟩
      have cD : comesD (m, i, p) = labD lab := by
        show labD ((rowAt m.rs m.z m.ss i).getD p (none, 0)) = _
        rw [List.getD_eq_getElem?_getD, hlab]
        rfl
      have hwz : ∃ z, (wordsOf m.rs m.z m.ss)[i]? = some z ∧ z.length ≤ 1000 ∧ p < z.length := ⟨zi, hzi, zil, by rw [← rl]; exact pL⟩
      have at_ : ∀ {σ : L2.St}, σ[12]? = some (some u2) → σ[18]? = some (some (.int (p : Nat))) → EvD (tOp (rIxL K) (tVar 12) (tVar 18)) σ F' (labD lab) := fun q1 q2 => d_ixL (d_var q1 g7) (d_var q2 (.int _)) (atI_nat (by rw [List.getElem?_map, hlab]; rfl))
      refine q_asg (d := .list [labD lab, labD (goesL m.rs i (m.ss.drop i) p)]) kn' (d_lst (da_cons (at_ rfl rfl) (da_cons (d_call (da_cons (d_var rfl g1) (da_cons (d_var rfl g5) (da_cons (d_var rfl g3) (da_cons (at_ rfl rfl) da_nil)))) ⟨m, i, p, lab, rfl, ok, by omega, hlab, rfl⟩) da_nil)) (by show 2 ≤ 100000; decide)) fun dv2 F14 H14 s14 hdv2 => ?_
      have w14 := WayAt.mo _ _ _ _ _ _ s14.ff g4
      refine k_ifF s14.kn (et_not (t_B (d_same (o := none) ((d_lst (da_cons (EvP.toD (p_callL (m, i, p) (pa_wl (p_var rfl w14 (WayAt.mo _ _ _)) (d_var rfl (.int _)) (d_var rfl (.int _)) ok hwz) (mo_dt _))) (da_cons (EvP.toD (p_callL (m, i, p) (pa_wl (p_var rfl w14 (WayAt.mo _ _ _)) (d_var rfl (.int _)) (d_var rfl (.int _)) ok hwz) (mo_dt _))) da_nil)) (by show 2 ≤ 100000; decide)).is (by rw [cD])) (d_var rfl hdv2) (okTwo _ _) (fun _ h => nomatch h) (dpTwo _ _)))) rfl fun F15 H15 s15 => ?_
      have t15 := s14.trans s15
      exact hN' _ F15 H15 s15.kn t15.ff ⟨⟨_, _, _, _, _, _, _, _, _, _, rfl⟩, ⟨g1.ex t15.ff, g2.ex t15.ff, g3.ex t15.ff, WayAt.mo _ _ _ _ _ _ t15.ff g4, g5.ex t15.ff⟩, g7.ex t15.ff, g6.ex t15.ex⟩
    · rintro σ' F' H' kn2 eF2 ⟨⟨y6, y7, y8, y9, y10, y11, y13, y14, y16, y18, rfl⟩, gg, g7, g6⟩
      exact hN _ F' H' kn2 (e12.trans eF2) ⟨⟨_, _, _, _, _, _, _, _, _, _, _, _, _, rfl⟩, gg, g6.mono (by omega)⟩
  · rintro σ' F' H' kn' eF ⟨⟨y6, y7, y8, y9, y10, y11, y12, y13, y14, y15, y16, y17, y18, rfl⟩, ⟨g1, g2, g3, g4, g5⟩, g6⟩
    rw [enumD_len, lrows_len] at g6
    have fin : ∀ (σ : L2.St) (F2 H2 : Hp), Kn (Ms l s) F0 H F2 H2 → Ex F' F2 → StA l s (n + 3 * (m.ss.length + 1)) H2 → σ[1]? = some (some r) → σ[2]? = some (some z) → σ[3]? = some (some t) → σ[4]? = some (some wv) → σ[5]? = some (some rv) → tRet (tAndV (tCall (SpP (ARr K) fun x H v => Dt H v (.bool true)) [] (fun _ _ _ => False) (tCons (tVar 4) (tCons (tVar 5) tNil))) (tCall (SpP (AWs K) fun x H v => Dt H v (.bool true)) [] (fun _ _ _ => False) (tCons (tVar 4) (tCons (tVar 1) (tCons (tVar 2) (tCons (tVar 3) tNil)))))) { nx := fun _ H' => Q .non H', rt := Q } σ H2 := fun σ F2 H2 k2 e2 st2 q1 q2 q3 q4 q5 => by
      have w2 := WayAt.mo _ _ _ _ _ _ e2 g4
      refine kM_fin hQ (mo_dt _) k2 (st2.mono (by show _ ≤ n + 400; omega)) (EvD.toP ((d_and (a := true) (b := true) (EvP.toD (p_call m (fun H1 e Q' q => ?_) (mo_dt _))) fun _ => EvP.toD (p_call m (fun H1 e Q' q => ?_) (mo_dt _))).is rfl))
      · exact ⟨wv, q4, rv, q5, q _ H1 (Ex.refl _) ⟨ok, wv, rv, rfl, WayAt.mo _ _ _ _ _ _ (ex_nw e) w2, (g5.ex e2).ex (ex_nw e)⟩⟩
      · exact ⟨wv, q4, r, q1, z, q2, t, q3, q _ H1 (Ex.refl _) ⟨ok.b.n, ok.n, wv, r, z, t, rfl, WayAt.mo _ _ _ _ _ _ (ex_nw e) w2, (g1.ex e2).ex (ex_nw e), (g2.ex e2).ex (ex_nw e), (g3.ex e2).ex (ex_nw e)⟩⟩
    refine q_if kn' (t_val (d_ne (d_var rfl g2) d_str)) (fun hb F2 H2 s2 => ?_) fun hb F2 H2 s2 => fin _ F2 H2 s2.kn s2.ff (g6.ex s2.ex) rfl rfl rfl rfl rfl
    have z0 : 0 < m.z.length := str_pos fun q => by
      rw [q] at hb
      exact absurd hb (by decide)
    have h00 : (rowAt m.rs m.z m.ss 0)[0]? = some (none, 0) := by
      show ((List.range m.z.length).map fun p => ((none, p) : Lab))[0]? = _
      rw [List.getElem?_map, List.getElem?_range z0]
      rfl
    have cD : comesD (m, 0, 0) = labD (none, 0) := by
      show labD ((rowAt m.rs m.z m.ss 0).getD 0 (none, 0)) = _
      rw [List.getD_eq_getElem?_getD, h00]
      rfl
    have hwz : ∃ z, (wordsOf m.rs m.z m.ss)[0]? = some z ∧ z.length ≤ 1000 ∧ 0 < z.length := ⟨_, wordsOf_0 .., ok.s.len, z0⟩
    have w2 := WayAt.mo _ _ _ _ _ _ s2.ff g4
    refine q_asg (d := .list [labD (none, 0), labD (goesL m.rs 0 m.ss 0)]) s2.kn ((d_lst (da_cons (EvP.toD (p_callN (m, 0, 0) (pa_wlN (i := 0) (p := 0) (p_var rfl w2 (WayAt.mo _ _ _)) ok hwz) (mo_dt _))) (da_cons (EvP.toD (p_callN (m, 0, 0) (pa_wlN (i := 0) (p := 0) (p_var rfl w2 (WayAt.mo _ _ _)) ok hwz) (mo_dt _))) da_nil)) (by show 2 ≤ 100000; decide)).is (by rw [cD]; rfl)) fun sv F3 H3 s3 hsv => ?_
    have t3 := s2.trans s3
    refine k_ifF s3.kn (et_not (t_B (d_same (o := none) (d_var rfl hsv) (d_lst (da_cons ((d_tup (da_cons d_non (da_cons d_int da_nil))).is rfl) (da_cons (d_call (da_cons (d_var rfl (g1.ex t3.ff)) (da_cons (d_var rfl (g5.ex t3.ff)) (da_cons (d_var rfl (g3.ex t3.ff)) (da_cons ((d_tup (da_cons d_non (da_cons d_int da_nil))).is (e := labD (none, 0)) rfl) da_nil)))) ⟨m, 0, 0, (none, 0), rfl, ok, Nat.zero_le _, h00, rfl⟩) da_nil)) (by show 2 ≤ 100000; decide)) (okTwo _ _) (fun _ h => nomatch h) (dpTwo _ _)))) rfl fun F4 H4 s4 => ?_
    have t4 := t3.trans s4
    exact fin _ F4 H4 s4.kn t4.ff (g6.ex t4.ex) rfl rfl rfl rfl rfl
end
end K05
namespace K05
open PySem PySem.Spec PyProof.Rows L2 Evl WB
section
variable {P : Program} {w : World} {K : PySem.W.Frag} {mg : Str → Option Value} {base : Heap}
section
variable {M : Addr → Prop} {F0 H0 F H : Hp} {σ : L2.St} {ta tb te : TE} {g : TG} {tu rest : TS} {D : Ends} {Q : VK} {E E' : XK}
theorem wp_itup {R : It → Hp → Prop} (h : te σ H fun x H1 => ∃ a, x = .ref a ∧ (∃ xs, SqT K H1 a xs) ∧ R (Itt K a) H1) : iTup K te σ H R := h
theorem ItD.mono {J : It} {G G' : Hp} {items : List PyData} (e : Ex G G') (hj : ItD J G items) : ItD J G' items := ⟨fun i H x y => hj.go i H (e.trans x) y, fun i H x H' a b c => by
    obtain ⟨h1, h2⟩ := hj.yld i H x H' (e.trans a) b c
    exact ⟨h1, fun d hd => (h2 d hd).ex (nw_f e)⟩, fun i H x y => hj.stop i H (e.trans x) y⟩
/-- for, where the walk stands -/
theorem it_for {J : It} {items : List PyData} (kn : Kn M F0 H0 F H) (hj : ItD J F items) (I : Nat → L2.St → Hp → Hp → Prop)
    (h0 : ∀ F1 H1, StpE M F0 H0 F H F1 H1 → I 0 σ F1 H1)
    (hI : ∀ i σ' F' H' H2, I i σ' F' H' → Kn M F0 H0 F' H' → Ex H' H2 → I i σ' (nw F' H' H2) H2)
    (hs : ∀ i d x σ' F' H', items[i]? = some d → Kn M F0 H0 F' H' → Ex F F' → Dt F' x d → I i σ' F' H' →
      ∀ N : L2.St → Hp → Prop, (∀ σ2 F2 H2, Kn M F0 H0 F2 H2 → Ex F' F2 → I (i + 1) σ2 F2 H2 → N σ2 H2) → g x σ' H' fun σ2 H2 => tu { D with nx := N, ct := N, bk := rest D } σ2 H2)
    (hd : ∀ σ' F' H', Kn M F0 H0 F' H' → Ex F F' → I items.length σ' F' H' → rest D σ' H') :
    ∃ W : Nat → Nat → L2.St → Hp → Prop, (∃ m, W 0 m σ H) ∧ ∀ i m σ H, W i m σ H →
      (J.stop i H ∧ rest D σ H) ∨ (J.go i H ∧ ∃ N : L2.St → Hp → Prop, (∀ σ' H', N σ' H' → ∃ m', m' < m ∧ W (i + 1) m' σ' H') ∧ ∀ x H', J.yld i H x H' → g x σ H' fun σ2 H2 => tu { D with nx := N, ct := N, bk := rest D } σ2 H2) :=
  k_for (D := { D with nx := rest D }) (wi := fun _ H R => R J H) kn (fun H1 e R q => q J H1 (Ex.refl _) (ItD.mono (ex_nw e) hj)) I h0 hI hs hd
theorem w_great {l s : Addr} {n : Nat} {t : Int} (kn : Kn (Ms l s) F0 H0 F H) (st : StA l s n H) (hn : n + 1 ≤ 1000000) (h1 : σ[1]? = some (some (.ref l))) (h2 : σ[2]? = some (some (.int t)))
    (k : ∀ b F1 H1, Kn (Ms l s) F0 H0 F1 H1 → Ex F F1 → StA l s (n + 1) H1 → Q (.bl b) H1) : tAndV (tOp rEq (tVar 2) (tC (.int 2))) (tOp rEq (tCall (SpM (fun _ => 1) ADr RDr) [] E (tCons (tVar 1) (tCons (tC (.int 3)) tNil))) (tC (.int 0))) σ H Q := by
  refine d_eq (d_var h2 (.int t)) d_int (d1 := .int t) (d2 := .int 2) rfl rfl rfl H kn.fh _ fun v H1 e1 hv => ?_
  cases hv.bool_
  refine ⟨_, rfl, ?_⟩
  have s1 := kn.step e1
  split
  · refine wp_op (wm_call 3 s1.kn (st.ex e1) (by show n + 1 ≤ _; omega) h1 (pa_dr d_int (by omega) (by omega)) (mo_dr _) fun u F2 H2 s2 st2 ⟨d, hd, dl⟩ => ?_)
    subst hd
    refine wp_c ⟨rfl, ?_⟩
    exact k _ F2 H2 s2.kn (s1.ff.trans s2.ff) st2
  · exact k _ _ H1 s1.kn s1.ff ((st.ex e1).mono (by omega))
theorem w_caseOr {l s : Addr} {n : Nat} {b : Bool} (kn : Kn (Ms l s) F0 H0 F H) (st : StA l s n H) (hn : n + 801 ≤ 1000000) (h1 : σ[1]? = some (some (.ref l))) (h3 : σ[3]? = some (some (.bl b)))
    (k : ∀ v F1 H1, Kn (Ms l s) F0 H0 F1 H1 → Ex F F1 → StA l s (n + 801) H1 → RCs F1 v → Q v H1) :
    tIf (tB (tVar 3)) (tCall (SpM (fun _ => 801) AGr fun _ => RCs) [] E (tCons (tVar 1) (tCons (tC (.int 40)) tNil))) (tCall (SpM (fun _ => 801) ACs fun _ => RCs) [] E' (tCons (tVar 1) (tCons (tC (.int 14)) (tCons (tC (.int 16)) tNil)))) σ H Q := by
  refine wp_ifX ⟨.bl b, h3, b, rfl, ?_⟩
  show (if b = true then _ else _)
  split
  · exact wm_call (40 : Nat) kn st hn h1 (fun H1 e _ q => q [.int 40] H1 (Ex.refl _) ⟨by omega, rfl⟩) mo_cs fun v F1 H1 s1 st1 hv => k v F1 H1 s1.kn s1.ff st1 hv
  · exact wm_call ((14, 16) : Nat × Nat) kn st hn h1 (fun H1 e _ q => q [.int 14, .int 16] H1 (Ex.refl _) ⟨by show 14 ≤ 100; omega, by show 16 ≤ 1000; omega, rfl⟩) mo_cs fun v F1 H1 s1 st1 hv => k v F1 H1 s1.kn s1.ff st1 hv
end
/-- the things that are no Way -/
structure NoW (K : PySem.W.Frag) (o : Option Addr) (d : PyData) : Prop where
  ok : okD (CB K) o d
  dp : dpS d ≤ 4
  ty : HasTy K d
  way : PySem.W.kitOne K (tyD d) (.ref (CW K)) = some false
def thingsD (C b : Addr) : List PyData := [.none, .int 5, .str "a", .list [], .dict [], .bool true, .dict [(.int (b : Nat), .int (C : Nat))], .tuple [.str "a", .list []]]
theorem things_ok (S : Env P w K mg base) (b : Addr) : ∀ d ∈ thingsD (CB K) b, NoW K (some b) d := fun d m => by
  unfold thingsD at m
  simp only [List.mem_cons, List.not_mem_nil, or_false] at m
  have go : okD (CB K) (some b) d → dpS d ≤ 4 → PySem.W.kitOne K (tyD d) (.ref (CW K)) = some false → NoW K (some b) d := fun h1 h2 h3 => ⟨h1, h2, ok_ty S h1, h3⟩
  have l0 : okD (CB K) (some b) (.list []) := okList (by decide) (fun d m => nomatch m)
  have l1 : dpS (.list []) ≤ 1 := dpList (n := 0) (fun d m => nomatch m)
  rcases m with rfl | rfl | rfl | rfl | rfl | rfl | rfl | rfl
  · exact go (by unfold okD; trivial) (by unfold dpS; decide) S.kto_NoneType_Way
  · exact go (by unfold okD; trivial) (by unfold dpS; decide) S.kto_int_Way
  · exact go (by unfold okD; trivial) (by unfold dpS; decide) S.kto_str_Way
  · exact go l0 (by omega) S.kto_list_Way
  · exact go (by unfold okD; exact .inl rfl) (by unfold dpS; decide) S.kto_dict_Way
  · exact go (by unfold okD; trivial) (by unfold dpS; decide) S.kto_bool_Way
  · exact go (by unfold okD; exact .inr ⟨b, rfl, rfl⟩) (by unfold dpS; decide) S.kit_Book_Way
  · refine go (okTuple (by show 2 ≤ _; decide) fun d q => ?_) (Nat.le_trans (dpTuple (n := 1) fun d q => ?_) (by decide)) S.kto_tuple_Way
    · simp only [List.mem_cons, List.not_mem_nil, or_false] at q
      rcases q with rfl | rfl
      · unfold okD; trivial
      · exact l0
    · simp only [List.mem_cons, List.not_mem_nil, or_false] at q
      rcases q with rfl | rfl
      · unfold dpS; decide
      · exact l1
def spLaw (K : PySem.W.Frag) : Sp := fun vs H Q _ => ∃ (a : Addr) (ns : List Int), vs = [.ref a] ∧ SqL K H a (ns.map V.int) ∧ ∀ H', Q (.bl true) H'
theorem fo_law (S : Env P w K mg base) {fd : FuncData} (F : FunD K d_law.name d_law.qual d_law.params d_law.body d_law.scope [] [] (He.fAd K d_law.at_) fd) : FnOk P w K mg base (L2.CX P w) 11 (He.fAd K d_law.at_) fd ["script"] (spLaw K) := F.ok sc_law (fun vs H Q E ⟨_, _, e, _⟩ => by rw [e]; rfl) fun cdv A outer s H vs Q E hr h => by
  have nd := sc_law.nd
  refine ⟨_, (pss_cons (ps_set (i := 1) nd rfl (by first | exact Or.inl rfl | exact Or.inr rfl) (pe_cl (cl__law_start S) hr (by decide) pass_none (by rfl) (pa_cons (pv 0) pa_nil)))
    (pss_cons (ps_for (passes_of rfl) rfl (pi_range1 rfl S.free_range (pa_cons pe_int pa_nil)) (pg_name (i := 2) nd rfl (by first | exact Or.inl rfl | exact Or.inr rfl))
    (pss_cons (ps_set (i := 3) nd rfl (by first | exact Or.inl rfl | exact Or.inr rfl) (pe_and (pe_cmpR op_eq (pv 2) pe_int (nomark _)) (pe_one (pe_cmpR op_eq (pe_cl (cl__law_draw S) hr (by decide) pass_none (by rfl) (pa_cons (pv 1) (pa_cons pe_int pa_nil))) pe_int (nomark _)))))
    (pss_cons (ps_asg (pe_ifExp (pt_val (pv 3)) (pe_cl (cl__law_a_great S) hr (by decide) pass_none (by rfl) (pa_cons (pv 1) (pa_cons pe_int pa_nil))) (pe_cl (cl__law_a_case S) hr (by decide) pass_none (by rfl) (pa_cons (pv 1) (pa_cons pe_int (pa_cons pe_int pa_nil))))) (pg_tupK (K := K) (n := 3) rfl rfl (pgs_cons (pg_name (i := 4) nd rfl (by first | exact Or.inl rfl | exact Or.inr rfl)) (pgs_cons (pg_name (i := 5) nd rfl (by first | exact Or.inl rfl | exact Or.inr rfl)) (pgs_cons (pg_name (i := 6) nd rfl (by first | exact Or.inl rfl | exact Or.inr rfl)) pgs_nil)))))
    (pss_one (ps_if (pt_not (pt_val (pe_cl (cl__law_wires_right S) hr (by decide) pass_none (by rfl) (pa_cons (pv 1) (pa_cons (pv 4) (pa_cons (pv 5) (pa_cons (pv 6) pa_nil))))))) (pss_one (ps_ret pe_bl)) pss_nil)))))
    (pss_cons (ps_for (passes_of rfl) rfl (pi_tupK (K := K) rfl (pe_tup (pa_cons pe_non (pa_cons pe_int (pa_cons pe_str (pa_cons (pe_lst pa_nil) (pa_cons pe_dnewK (pa_cons pe_bl (pa_cons (pe_mc (mc_Book S) hr (by decide) pass_none (by rfl) (pa_cons (pe_lst pa_nil) pa_nil)) (pa_cons (pe_tup (pa_cons pe_str (pa_cons (pe_lst pa_nil) pa_nil))) pa_nil)))))))))) (pg_name (i := 7) nd rfl (by first | exact Or.inl rfl | exact Or.inr rfl))
    (pss_one (ps_if (pt_not (pt_val (pe_cl (cl7_same S) hr (by decide) pass_none (by rfl) (pa_cons (pe_lc (own := [("which", 8)]) rfl nd (pi_tupK (K := K) rfl (pe_tup (pa_cons pe_int (pa_cons pe_int pa_nil)))) (blkOk_by (N := ["script", "stream", "turn", "great", "rules", "word", "steps", "thing", "which"]) (sc := defScope s_law) (by decide +kernel)) (fun _ _ _ _ _ => (pg_name (i := 8) nd rfl (by first | exact Or.inl rfl | exact Or.inr rfl))) (fun _ _ _ _ _ => pts_nil) (fun _ _ _ _ _ => (pe_cl (cl__law_told_or S) hr (by decide) pass_none (by rfl) (pa_cons (pv 8) (pa_cons (pv 7) pa_nil))))) (pa_cons (pe_lst (pa_cons (pe_tup (pa_cons pe_str (pa_cons (pv 7) pa_nil))) (pa_cons (pe_tup (pa_cons pe_str (pa_cons (pv 7) pa_nil))) pa_nil))) pa_nil))))) (pss_one (ps_ret pe_bl)) pss_nil)))
    (pss_one (ps_ret pe_bl))))), ?_⟩
  obtain ⟨a, ns, rfl, hs, hQ⟩ := h
  refine wp_asg ?_
  refine ⟨_, rfl, a, ns, rfl, hs, fun l s H1 e1 hl hsn ne st => ?_⟩
  have kn : Kn (Ms l s) (fun _ => none) H1 (fun _ => none) H1 := Kn.startS (fun a o h => nomatch h) rfl rfl st
  refine q_for kn (wk_rng1 (n := 3) (da_cons d_int da_nil) ⟨by omega, by omega⟩) (fun i σ' F' H' => (∃ y2 y3 y4 y5 y6 y7 y8, σ' = [some (.ref a), some (.ref l), y2, y3, y4, y5, y6, y7, y8]) ∧ StA l s (1300 * i) H') ?_ ?_ ?_ ?_
  · intro F2 H2 s2
    exact ⟨⟨_, _, _, _, _, _, _, rfl⟩, st.ex s2.ex⟩
  · rintro i σ' F' H' H2 ⟨hσ, g⟩ kn' e
    exact ⟨hσ, g.ex e⟩
  · rintro i d y σ' F' H' hi kn' eF hd ⟨⟨y2, y3, y4, y5, y6, y7, y8, rfl⟩, g⟩ N hN
    replace hi : (rngD 0 3)[i]? = some d := hi
    have il : i < 3 := by
      have z := (List.getElem?_eq_some_iff.mp hi).1
      rw [rngD_len] at z
      exact z
    rw [rngD_get il, Int.zero_add] at hi
    cases hi
    cases hd.int_
    refine wp_asg (w_great kn' g (by omega) rfl rfl fun b F2 H2 k2 e2 st2 => ?_)
    refine wp_asgG (w_caseOr k2 st2 (by omega) rfl rfl fun v F3 H3 k3 e3 st3 ⟨m, cs, hv⟩ => ?_)
    obtain ⟨p, xs, rfl, hp, hxs⟩ := hv.tuple_
    obtain ⟨x1, x2, x3, rfl, h1, h2, h3⟩ := da3_ hxs
    refine ⟨p, _, rfl, SqT.of (k3.fh _ _ hp), rfl, x1, [x2, x3], rfl, x2, [x3], rfl, x3, [], rfl, rfl, ?_⟩
    refine wp_ifE ?_
    show tCall _ _ _ _ _ _ _
    refine wm_call m k3 st3 (by show 1300 * i + 1 + 801 + 400 ≤ _; omega) rfl (fun H4 e4 _ q => ⟨x1, rfl, x2, rfl, x3, rfl, q _ H4 (Ex.refl _) ⟨cs, x1, x2, x3, rfl, h1.ex (ex_nw e4), h2.ex (ex_nw e4), h3.ex (ex_nw e4)⟩⟩) (mo_dt _) fun u F5 H5 s5 st5 hu => ?_
    cases hu.bool_
    refine ⟨true, rfl, ?_⟩
    show (if (!true) = true then _ else _)
    rw [if_neg (by decide)]
    refine wp_next ?_
    exact hN _ F5 H5 s5.kn ((e2.trans e3).trans s5.ff) ⟨⟨_, _, _, _, _, _, _, rfl⟩, st5.mono (by show 1300 * i + 1 + 801 + 400 ≤ 1300 * (i + 1); omega)⟩
  · rintro σ' F' H' kn' eF ⟨⟨y2, y3, y4, y5, y6, y7, y8, rfl⟩, g⟩
    refine wp_for (wp_itup (wp_tup (wp_cons (wp_c (wp_cons (wp_c (wp_cons (wp_c (wp_cons (wp_lst (wp_nil ⟨by show 0 ≤ sizeLine; decide, fun p1 hp1 => wp_cons ?_⟩)))))))))))
    intro p2 hp2
    refine wp_cons (wp_c (wp_cons ?_))
    refine p_make (F := upd (upd H' p1 (.lst [])) p2 (.dK [])) [] (pa_bk (rs := []) (d_lst (ds := []) da_nil (by decide)) ⟨(fun q m => nomatch m), by decide⟩) (BookAt.mo _ _) _ (Ex.refl _) _ fun vb H3 e3 hb => ?_
    have hb3 := BookAt.mo _ _ _ _ _ (nw_ex e3) hb
    obtain ⟨b, dx, lb, rfl, hbi, _⟩ := id hb3
    refine wp_cons (wp_tup (wp_cons (wp_c (wp_cons (wp_lst (wp_nil ⟨by show 0 ≤ sizeLine; decide, fun p4 hp4 => wp_nil ⟨by show 2 ≤ sizeLine; decide, fun p5 hp5 => wp_nil ⟨by show 8 ≤ sizeLine; decide, fun p6 hp6 => ?_⟩⟩⟩))))))
    have x5 : Ex H3 (upd (upd H3 p4 (.lst [])) p5 (.tup [.str "a", .ref p4])) := (Ex.new hp4).trans (Ex.new hp5)
    have x6 := x5.trans (Ex.new (o := .tup [.non, .int 5, .str "a", .ref p1, .ref p2, .bl true, .ref b, .ref p5]) hp6)
    refine ⟨p6, rfl, ⟨_, SqT.of upd_same⟩, ?_⟩
    have q1 := x6 _ _ (e3 _ _ (Ex.new hp2 _ _ (upd_same (H := H') (a := p1) (o := .lst []))))
    have q2 := x6 _ _ (e3 _ _ (upd_same (H := upd H' p1 (.lst [])) (a := p2) (o := .dK [])))
    have q3 := x6 _ _ hbi
    have q4 := Ex.new (o := .tup [.non, .int 5, .str "a", .ref p1, .ref p2, .bl true, .ref b, .ref p5]) hp6 _ _ (Ex.new hp5 _ _ (upd_same (H := H3) (a := p4) (o := .lst [])))
    have q5 := Ex.new (o := .tup [.non, .int 5, .str "a", .ref p1, .ref p2, .bl true, .ref b, .ref p5]) hp6 _ _ (upd_same (H := upd H3 p4 (.lst [])) (a := p5) (o := .tup [.str "a", .ref p4]))
    have q6 : upd (upd (upd H3 p4 (.lst [])) p5 (.tup [.str "a", .ref p4])) p6 (.tup [.non, .int 5, .str "a", .ref p1, .ref p2, .bl true, .ref b, .ref p5]) p6 = _ := upd_same
    have bk6 := BookAt.mo _ _ _ _ _ x6 hb3
    generalize upd (upd (upd H3 p4 (.lst [])) p5 (.tup [.str "a", .ref p4])) p6 (.tup [.non, .int 5, .str "a", .ref p1, .ref p2, .bl true, .ref b, .ref p5]) = H6 at q1 q2 q3 q4 q5 q6 bk6
    have all : DtAll H6 [.non, .int 5, .str "a", .ref p1, .ref p2, .bl true, .ref b, .ref p5] (thingsD (CB K) b) := .cons .non (.cons (.int 5) (.cons (.str "a") (.cons (.lst q1 .nil) (.cons (.emp q2) (.cons (.bl true) (.cons (.ins q3) (.cons (.tup q5 (.cons (.str "a") (.cons (.lst q4 .nil) .nil))) .nil)))))))
    refine it_for (Kn.start (Ex.refl H6)) (itd_tup q6 all) (fun i σ' F' H' => ∃ y7 y8, σ' = [some (.ref a), some (.ref l), y2, y3, y4, y5, y6, y7, y8]) (fun F7 H7 s7 => ⟨_, _, rfl⟩) (fun i σ' F' H' H2 h _ _ => h) ?_ ?_
    · rintro i d x σ' F' H' hi kn2 eF2 hd ⟨y7, y8, rfl⟩ N hN
      have no := things_ok S b d (List.mem_of_getElem? hi)
      refine k_ifF kn2 (et_not (t_B (d_same (o := some b) (d := .list [.tuple [.str "way", d], .tuple [.str "way", d]]) (d_lcn (j := 8) (rs := [.tuple [.str "way", d], .tuple [.str "way", d]]) (wk_tup (d_tup (ds := [.int 0, .int 1]) (da_cons d_int (da_cons d_int da_nil)) (by show 2 ≤ 100000; decide))) (by show 2 ≤ 40000; decide) rfl fun i d' r x' F'' hi hr e1 hd' => ?_) (d_lst (da_cons (d_tup (da_cons d_str (da_cons (d_var rfl hd) da_nil))) (da_cons (d_tup (da_cons d_str (da_cons (d_var rfl hd) da_nil))) da_nil)) (by show 2 ≤ 100000; decide)) ?_ (fun a h => by cases h; exact BookAt.mo _ _ _ _ _ eF2 bk6) ?_))) rfl fun F8 H8 s8 => ?_
      · obtain ⟨k, rfl⟩ : ∃ k : Int, d' = .int k := by
          have q := List.mem_of_getElem? hi
          simp only [List.mem_cons, List.not_mem_nil, or_false] at q
          rcases q with rfl | rfl <;> exact ⟨_, rfl⟩
        have er : r = .tuple [.str "way", d] := by
          have q := List.mem_of_getElem? hr
          simp only [List.mem_cons, List.not_mem_nil, or_false] at q
          rcases q with rfl | rfl <;> rfl
        subst er
        cases hd'.int_
        exact EvP.toD (p_call (res := fun d H v => Dt H v (.tuple [.str "way", d])) d (fun H1 e Q' q => ⟨_, rfl, _, rfl, q _ H1 (Ex.refl _) ⟨k, x, rfl, (hd.ex e1).ex (ex_nw e), no.ty, no.way⟩⟩) (mo_dt _))
      · exact okList (by show 2 ≤ _; decide) fun d2 q => by
          have e : d2 = .tuple [.str "way", d] := by
            simp only [List.mem_cons, List.not_mem_nil, or_false] at q
            rcases q with rfl | rfl <;> rfl
          rw [e]
          exact okTuple (by show 2 ≤ _; decide) fun d3 q => by
            simp only [List.mem_cons, List.not_mem_nil, or_false] at q
            rcases q with rfl | rfl
            · unfold okD; trivial
            · exact no.ok
      · exact Nat.lt_of_le_of_lt (dpList (n := 5) fun d2 q => by
          have e : d2 = .tuple [.str "way", d] := by
            simp only [List.mem_cons, List.not_mem_nil, or_false] at q
            rcases q with rfl | rfl <;> rfl
          rw [e]
          exact dpTuple (n := 4) fun d3 q => by
            simp only [List.mem_cons, List.not_mem_nil, or_false] at q
            rcases q with rfl | rfl
            · unfold dpS; decide
            · exact no.dp) (by decide)
      · exact hN _ F8 H8 s8.kn s8.ff ⟨_, _, rfl⟩
    · rintro σ' F' H' kn2 eF2 ⟨y7, y8, rfl⟩
      exact wp_ret (wp_c (hQ H'))
end
end K05
namespace K05
open PySem PySem.Spec PyProof.Rows L2 Evl WB
abbrev R : PySem.W.OpenRow := PySem.W.OpenLaw.row PySem.Challenge.rw_waysback_k05_whole_wires
abbrev hk : PySem.W.Hook := He.hookX 6 fa fn [] [] ex
def ob (s : PySem.W.SharedT) : He.AlX := He.obsX 6 fa fn [] [] ex (HandSHeadRun.getT s)
theorem ob_eq (s : PySem.W.SharedT) : ob s = hk.obs s.abs := He.obsX_eq (HandSHeadRun.getT_eq s)
theorem run (w : World) : HandSHeadRun.RunEq R (PySem.W.view R.prog [66]) hk ob 20000 names w := by
  intro os
  kernel_rfl
end K05
namespace K05
open PySem PySem.Spec PyProof.Rows L2 Evl WB
/-- a promise that asks nothing of errors holds without them -/
theorem fn0 {P : Program} {w : World} {K : PySem.W.Frag} {mg : Str → Option Value} {base : Heap} {k : Nat} {f : Addr} {fd : FuncData} {ps : List Str} {sp : Sp} (F : FnOk P w K mg base (L2.CX P w) k f fd ps sp) (h : ∀ vs H Q E E', sp vs H Q E → sp vs H Q E') : FnOk P w K mg base CX0 k f fd ps sp :=
  ⟨F.len, fun A outer s H args us vs Q E r e0 b v hs => codeAny_mono (F.run A outer s H args us vs Q (fun _ _ _ => False) r e0 b v (h _ _ _ _ _ hs)) fun r s' hr => by
    cases r with
    | ok fl =>
      cases fl with
      | ret u => exact hr
      | next => exact hr
      | brk => exact hr
      | cont => exact hr
    | error e =>
      obtain ⟨_, _, _, _, _, _, _, _, _, _, _, _, z⟩ := hr
      exact z.elim⟩
theorem facts {P : Program} {w : World} {K : PySem.W.Frag} {h : Heap} {mg : Str → Option Value} {f : Addr} (X : K.In h) (G : h.Ns mainGlobals mg) (hfa : mg ("law" : Str) = some (.ref f)) (c : He.SaysD fa fn K) (e : ex K = true) :
    ∃ fd : FuncData, (∀ (s : Shared) (v : Value), BindsTo s fd ⟨[v], []⟩ [("script", v)]) ∧ ∀ base : Heap, K.In base → base.Ns mainGlobals mg → FnOk P w K mg base CX0 11 f fd ["script"] (spLaw K) := by
  have S : ∀ base : Heap, Env P w K mg base := fun base => ⟨⟨h, X, G⟩, c, e⟩
  obtain ⟨fd, F⟩ := (S h).fun_law
  have q := hfa.symm.trans (S h).glo_law
  cases q
  have b := FunD.bindsA (ps := ["script"]) F fun _ _ _ _ _ _ us hl => match us, hl with | [_], _ => rfl
  exact ⟨fd, fun s v => b s [v] rfl, fun base _ _ => fn0 (fo_law (S base) F) fun vs H Q E E' q => q⟩
end K05
open PySem PySem.W PySem.Calls PyProof.Rows
theorem PySem.Challenge.cw_waysback_k05_whole_wires_holds : PySem.Challenge.rw_waysback_k05_whole_wires.Holds := by
  w_on; o_law
  refine HandSHeadRun.head_any (r := OpenLaw.row PySem.Challenge.rw_waysback_k05_whole_wires) (q := view (OpenLaw.row PySem.Challenge.rw_waysback_k05_whole_wires).prog [66]) (H := K05.hk) (ob := K05.ob) (M := 20000) (loose := K05.names) (d := HandSHeadRun.topDef (OpenLaw.row PySem.Challenge.rw_waysback_k05_whole_wires).prog 66) (kwd := []) K05.ob_eq
    (by kernel_rfl) (fun s => by kernel_rfl) K05.run (by kernel_rfl) (by kernel_rfl) (by kernel_rfl) (by rfl) (by first | assumption | decide +kernel) (by decide +kernel) ⟨rfl, rfl, rfl, rfl, rfl, by decide +kernel⟩ ?hw ?hc
  case hw => w_witness2
  case hc =>
    refine L2.walk_ofE (l := PySem.Challenge.rw_waysback_k05_whole_wires) (n := 63) (k := 11) (x := "script") (CX := L2.CX0) rfl (by decide) (by kernel_rfl) ⟨rfl, by decide, by decide⟩ ?F (fun _ _ _ _ z => z)
    intro w mg fa h Y G hmg0
    obtain ⟨K, KX, c⟩ := Y
    have hmg : mg ("law" : PySem.Str) = some (.ref fa) := by
      have e : (HandSHeadRun.topDef (OpenLaw.row PySem.Challenge.rw_waysback_k05_whole_wires).prog 66).name = ("law" : PySem.Str) := by kernel_rfl
      rw [← e]
      exact hmg0
    obtain ⟨fd, hb, hF⟩ := K05.facts (P := (PySem.Challenge.rw_waysback_k05_whole_wires).prog) (w := w) KX G hmg c.t.d c.more
    exact ⟨K, fd, K05.spLaw K, KX, hb, fun H a ns hl _ hS => ⟨a, ns, rfl, hS, fun _ => rfl⟩, hF⟩
