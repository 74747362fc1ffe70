import PyProof.Rows.All
import Wide.All
import OpenK.AllK
import Wide.FinOn
import HandS.ForMost
import HandS.IsInst
import HandS.Wide
import PyProof.ReprRoads
import PyProof.StrReplace2
import PyProof.ToksMono
import HandS.Walk
import HandS.Replace
import PyProof.Rows.StrSplitAre
import PyProof.StrLawsChain
import PyProof.StrBlock2
import PyProof.Rows.StrSplitJoin
import PyProof.StrLawsReplace
import PyProof.Rows.StrItems
import HandS.Exc
import HandS.ExcInit
import HandS.ExcSuper
import KE.KExcSuper
import KE.KSuper
import KE.KExcMake
import PyProof.ExcBaseAll.LookupError
import HandS.ExcField
import KE.KExcIs
import HandS.Words
import HandS.Defaults
import HandS.Steps
import HandS.StrMore
import KE.KExcStr
import PyProof.ReprNest
import PyProof.ReprReads
import PyProof.Rows.IntBool
import PyProof.Rows.RegStrFacts
import PyProof.Rows.StrSplitCount
import PySem.Challenge.RW_termshelf_k01_marks_of_any_thing
set_option Elab.async false
set_option linter.all false
set_option maxRecDepth 100000
set_option maxHeartbeats 2000000
/-! The part that every law of the package shares: readings by steps, the bag of draws, repr, a def that may lean on the guards. -/
namespace Jg
open PySem PySem.Spec PyProof.Rows L2

/-! ### a def whose promise holds where no repr runs around it -/
structure FnG (P : Program) (w : World) (K : PySem.W.Frag) (mg : Str → Option Value) (base : Heap) (k : Nat) (f : Addr) (fd : FuncData) (ps : List Str) (sp : Sp) : Prop where
  many : ∀ vs H Q E, sp vs H Q E → vs.length = ps.length
  go : ∀ (A : Around) (outer : List Env) (s : Shared) (H : Hp) (args : Args) (us : List Value) (vs : List V) (Q : VK) (E : XK),
    Room k A → A.guards = some [] → Env0 P w K mg base A outer s H → BindsTo s fd args (ps.zip us) → Vals vs us → sp vs H Q E →
    codeAny (model P w) A (.call (.ref f) args) (CR CX0 outer P w H s Q E) s

theorem deeper_guards (A : Around) (env : Env) : (A.deeper env).guards = A.guards := rfl

section
variable {P : Program} {w : World} {K : PySem.W.Frag} {mg : Str → Option Value} {base : Heap}
/-- such a def by its body -/
theorem fnG_of {x qual : Str} {st : Stmt} {f : Addr} {fd : FuncData} {N ps : List Str} {k : Nat} {sp : Sp} (F : Fun K x qual st f fd) (S : FnScope N ps (defScope st))
    (len : ∀ vs H Q E, sp vs H Q E → vs.length = ps.length)
    (body : ∀ (cdv : Value) (A : Around) (outer : List Env) (s : Shared) (H : Hp) (vs : List V) (Q : VK) (E : XK),
      Room k (A.deeper (envOfC qual (defScope st) s.heap.objs.size f cdv)) → A.guards = some [] → sp vs H Q E →
      ∃ t, PSs (cxOf CX0 P w K mg base N qual (defScope st) f cdv A outer s H E).nox (defBody st) t ∧ t { nx := fun _ H' => Q .non H', rt := Q } (start N vs) H) :
    FnG P w K mg base (k + 1) f fd ps sp := by
  obtain ⟨oc, od, kV, doc, pm, an, cdv, ct, osl, efd, lk, hcd⟩ := F.ex
  subst efd
  refine ⟨len, fun A outer s H args us vs Q E room gua env bnd rel want => ?_⟩
  -- the promise at these guards alone, as one that any surroundings keep
  have hl := len _ _ _ _ want
  have kin : K.In s.heap := env.mod.kin.keeps fun b o e => (env.bs b o e).1
  have lim : s.heap.NoLimit := env.mod.nolimit.keeps fun b o e => (env.bs b o e).1
  have kinds : ∀ y ∈ ps.zip us, (defScope st).names.lookup y.1 = some .local ∨ ((defScope st).names.lookup y.1 = some .cell ∧ ((cellsFrom (s.heap.objs.size + 1) (defScope st).names []).lookup y.1).isSome = true) := by
    intro y hy
    obtain ⟨n, v⟩ := y
    have hp := S.par n (List.of_mem_zip hy).1
    cases hp with
    | inl q => exact Or.inl q
    | inr q => exact Or.inr ⟨q, PySem.W.cellsFrom_some _ _ _ (Or.inl q)⟩
  refine codeAny_call_function room.depth (kin _ _ lk) rfl S.co S.gen rfl (PySem.W.codeRec_of kin hcd) (bnd _ _ _ _ ?_)
  refine wpAny_newFunctionEnv_cells S.kind kinds ?_
  intro e2 he2 s1 x
  subst he2
  refine ⟨lim.keeps x.toInCall.keep, codeAny_func ?_⟩
  obtain ⟨t, ht, hq⟩ := body cdv A outer s H vs Q E (room.deeper _) gua want
  have I := inv_start (CX := CX0) (qual := qual) (f := f) (cd := cdv) (E := E) S room.hd env hl rel x
  refine wpAny_mono (ht.nox.run [] s1 (start N vs) H _ I hq) ?_ (fun e s' hs => hs)
  intro fl s' hs
  cases fl with
  | ret u =>
    obtain ⟨v, σ', H', J, rv, q⟩ := hs
    exact ⟨v, H', J.os, J.bare, J.base, J.hok, rv, q⟩
  | next =>
    obtain ⟨σ', H', J, q⟩ := hs
    exact ⟨V.non, H', J.os, J.bare, J.base, J.hok, rfl, q⟩
  | brk =>
    obtain ⟨σ', H', J, q⟩ := hs
    exact False.elim q
  | cont =>
    obtain ⟨σ', H', J, q⟩ := hs
    exact False.elim q
theorem FnG.of {k : Nat} {f : Addr} {fd : FuncData} {ps : List Str} {sp : Sp} (F : FnOk P w K mg base CX0 k f fd ps sp) : FnG P w K mg base k f fd ps sp :=
  ⟨F.len, fun A outer s H args us vs Q E room _ env bnd rel want => F.run A outer s H args us vs Q E room env bnd rel want⟩
end

section
variable {X : Cx} {k : Nat} {f : Addr} {fd : FuncData} {ps : List Str} {sp : Sp} {dvs : List V} {ds : List Value} {x : Str} {p pos : Pos} {e : Expr} {es : List Expr} {t : TA}
/-- f(..) of such a def -/
theorem pe_callG (F : FnG X.prog X.w X.K X.mg X.base k f fd ps sp) (room : Room k X.A) (gua : X.A.guards = some []) (hg : Gl X x) (hm : X.mg x = some (.ref f)) (hk : PySem.W.keepIn X.K (.ref f) = true)
    (hb : Binds X.K fd ps ds) (hd : Vals dvs ds) (args : PA X (e :: es) t) (hdb : (x == ("__debug__" : Str)) = false := by decide)
    (he : starEach (e :: es) X.env = (false, eval e X.env) :: starEach es X.env := by rfl) (hpl : (backTo pos (starEach es X.env)).any (·.1) = false := by rfl) :
    PE X (.Call (.Name x p) (e :: es) [] pos) (tCall sp dvs E0 t) := by
  constructor
  intro pins s σ H Q I h
  refine wpAny_Call_Name_kw (ld_glob I hg hm ?_ hdb)
  refine PySem.W.callWith_K (h₀ := X.base) I.ok.mod.kin hk (thn (args.run pos pins s σ H _ I h) ?_) he hpl
  rintro us s1 ⟨vs, H1, I1, rel, want⟩
  refine ⟨I1.kIn, ?_⟩
  have rel2 : Vals (vs ++ dvs) (us ++ ds) := rel.append hd
  have hl : (us ++ ds).length = ps.length := by
    rw [← rel2.length]
    exact F.many _ _ _ _ want
  refine wpAny_call (codeAny_mono (F.go X.A X.stack s1 H1 ⟨us, []⟩ (us ++ ds) (vs ++ dvs) Q E0 room gua I1.env0 (hb s1 us I1.kIn hl) rel2 want) ?_)
  intro r s' hq
  cases r with
  | error e => exact False.elim hq
  | ok fl =>
    cases fl with
    | ret u => exact I1.after hq
    | next => exact False.elim hq
    | brk => exact False.elim hq
    | cont => exact False.elim hq
end
end Jg
namespace Jg
open PySem PySem.Spec PyProof.Rows L2

theorem ns_hid {h : Heap} {H : Hp} {b : Addr} {m : Str → Option Value} (free : ∀ o es ep, h.get? b = some o → o.data = .dict es ep → H b = none) (n : h.Ns b m) : (hidT h H).Ns b m := by
  obtain ⟨o, es, ep, e, d, r⟩ := n
  exact ⟨o, es, ep, hidT_get e (free o es ep e d), d, r⟩
/-- the law's own call where the heap H speaks of the script alone -/
theorem call_at {P : Program} {w : World} {K : PySem.W.Frag} {mg mb : Str → Option Value} {k : Nat} {fa a : Addr} {fd : FuncData} {x : Str} {sp : Sp} {s : Shared} {items : Array Value} {H : Hp}
    (kin : K.In s.heap) (glob : s.heap.Ns mainGlobals mg) (bt : s.heap.Ns builtinsNs mb) (same : ∀ x : Str, x ≠ "__name__" → mb x = bootBuiltins x) (lim : s.heap.NoLimit) (gens : s.gens = #[])
    (scr : s.heap.get? a = some { cls := .type "list", data := .seq items }) (room : Room k callerA)
    (F : ∀ base : Heap, K.In base → base.Ns mainGlobals mg → FnG P w K mg base k fa fd [x] sp) (bnd : ∀ (s : Shared) (u : Value), BindsTo s fd ⟨[u], []⟩ [(x, u)])
    (only : Only H) (ok : HOk P w H s.heap) (here : ∀ b, H b ≠ none → b = a) (apart : H a ≠ none → K.lookup a = none)
    (want : sp [.ref a] H (fun v _ => v = .bl true) fun _ _ _ => False) :
    codeAny (model P w) callerA (.call (.ref fa) ⟨[.ref a], []⟩) (fun r s' => r = .ok (.ret (.bool true)) ∧ OldK s.heap s'.heap ∧ s'.os = s.os ∧ AllBare s'.gens) s := by
  have noDict : ∀ {b : Addr} {o : Obj} {es : Array DictEntry} {ep : Nat}, s.heap.get? b = some o → o.data = .dict es ep → H b = none := by
    intro b o es ep e d
    by_cases z : H b = none
    · exact z
    · have eb := here b z
      subst eb
      rw [scr] at e
      cases e
      cases d
  have base : Env0 P w K mg (hidT s.heap H) callerA [] s H := by
    refine ⟨rfl, ⟨?_, ns_hid (fun _ _ _ => noDict) glob, ⟨mb, ns_hid (fun _ _ _ => noDict) bt, same⟩, ?_⟩, fun b o e => of_hidT e, Nat.le_of_eq (hidT_size _ _), trivial, ?_, ok, .of_eq gens⟩
    · intro b o e
      refine hidT_get (kin b o e) ?_
      by_cases z : H b = none
      · exact z
      · have eb := here b z
        subst eb
        rw [apart z] at e
        cases e
    · obtain ⟨m, h1, h2⟩ := lim
      exact ⟨m, ns_hid (fun _ _ _ => noDict) h1, h2⟩
    · intro b hb
      exact absurd hb (List.not_mem_nil)
  refine codeAny_mono ((F _ base.mod.kin (ns_hid (fun _ _ _ => noDict) glob)).go callerA [] s H ⟨[.ref a], []⟩ [.ref a] [.ref a] _ _ room rfl base (bnd s (.ref a)) (.cons rfl .nil) want) ?_
  intro r s' h
  cases r with
  | error e => exact False.elim h
  | ok fl =>
    cases fl with
    | next => exact False.elim h
    | brk => exact False.elim h
    | cont => exact False.elim h
    | ret u =>
      obtain ⟨v, H', os, bare, un, ok', rel, q⟩ := h
      have q' : v = .bl true := q
      subst q'
      obtain rfl : u = Value.bool true := rel
      refine ⟨rfl, OldK.of_keep ?_, os, bare⟩
      intro b o e
      by_cases z : H b = none
      · exact un.keep b o e z (List.not_mem_nil) (List.not_mem_nil)
      · rcases only b with z2 | ⟨ob, xs, z2⟩
        · exact absurd z2 z
        · have z3 := un.frzs b ob _ z2
          have e1 := (ok b _ z2).1
          have e2 := (ok' b _ z3).1
          rw [e] at e1
          cases e1
          exact e2

theorem call_law {P : Program} {w : World} {K : PySem.W.Frag} {mg mb : Str → Option Value} {k : Nat} {fa a : Addr} {fd : FuncData} {x : Str} {sp : Sp} {s : Shared} {vs : List Value} {ns : List Int}
    (kin : K.In s.heap) (glob : s.heap.Ns mainGlobals mg) (bt : s.heap.Ns builtinsNs mb) (same : ∀ x : Str, x ≠ "__name__" → mb x = bootBuiltins x) (lim : s.heap.NoLimit) (gens : s.gens = #[])
    (scr : s.heap.get? a = some { cls := .type "list", data := .seq vs.toArray }) (hin : IntsAre vs ns) (len : ns.length ≤ sizeLine) (room : Room k callerA)
    (F : ∀ base : Heap, K.In base → base.Ns mainGlobals mg → FnG P w K mg base k fa fd [x] sp) (bnd : ∀ (s : Shared) (u : Value), BindsTo s fd ⟨[u], []⟩ [(x, u)])
    (want : ∀ H : Hp, Only H → SqL K H a (ns.map V.int) → sp [.ref a] H (fun v _ => v = .bl true) fun _ _ _ => False) :
    codeAny (model P w) callerA (.call (.ref fa) ⟨[.ref a], []⟩) (fun r s' => r = .ok (.ret (.bool true)) ∧ OldK s.heap s'.heap ∧ s'.os = s.os ∧ AllBare s'.gens) s := by
  have rel : Vals (ns.map V.int) vs := vals_ints hin
  have lenM : (ns.map V.int).length ≤ sizeLine := by
    rw [List.length_map]
    exact len
  by_cases hk : K.lookup a = none
  · let o : Obj := { cls := .type "list", data := .seq vs.toArray }
    let H : Hp := fun b => if b = a then some (.frz o (.lst (ns.map V.int))) else none
    have at_a : H a = some (.frz o (.lst (ns.map V.int))) := if_pos rfl
    have off : ∀ b, b ≠ a → H b = none := fun b hb => if_neg hb
    have on : Only H := by
      intro b
      by_cases hb : b = a
      · subst hb
        exact Or.inr ⟨_, _, at_a⟩
      · exact Or.inl (off b hb)
    have ok : HOk P w H s.heap := by
      intro b u e
      by_cases hb : b = a
      · subst hb
        rw [at_a] at e
        cases e
        exact ⟨scr, lenM, vs, _, rel, scr⟩
      · rw [off b hb] at e
        cases e
    have here : ∀ b, H b ≠ none → b = a := by
      intro b z
      by_cases hb : b = a
      · exact hb
      · exact absurd (off b hb) z
    exact call_at kin glob bt same lim gens scr room F bnd on ok here (fun _ => hk) (want H on (Or.inl (Or.inr ⟨o, at_a⟩)))
  · obtain ⟨o, ho⟩ := Option.ne_none_iff_exists'.mp hk
    have e := kin a o ho
    rw [scr] at e
    cases e
    let H : Hp := fun _ => none
    have on : Only H := fun _ => Or.inl rfl
    have ok : HOk P w H s.heap := fun b u e => by cases e
    have sq : SqL K H a (ns.map V.int) := Or.inr ⟨_, vs.toArray, _, ho, rfl, rfl, rfl, by rw [List.size_toArray, ← rel.length]; exact lenM, by simpa using rel⟩
    exact call_at kin glob bt same lim gens scr room F bnd on ok (fun b z => absurd rfl z) (fun z => absurd rfl z) (want H on sq)

/-- the goal behind the head, from the law's promise -/
theorem walkG {l : PySem.W.OpenLaw} {n k : Nat} {q : Program} {loose : List Str} {XP : (Str → Option Value) → Heap → Prop} {YP : World → Heap → Prop} {d : DefRec} {K : Params → PySem.W.Frag} {sp : PySem.W.Frag → Sp} {x : Str}
    (hn : l.most = some n) (hn2 : n ≤ sizeLine) (hdf : d.params.defaults = []) (room : Room k callerA)
    (hY : ∀ (w : World) (h : Heap), YP w h → (K w.params).In h)
    (F : ∀ (w : World) (mg : Str → Option Value) (fa : Addr) (h : Heap), (K w.params).In h → h.Ns mainGlobals mg → mg d.name = some (.ref fa) →
      ∃ fd : FuncData, (∀ (s : Shared) (u : Value), BindsTo s fd ⟨[u], []⟩ [(x, u)]) ∧
        ∀ base : Heap, (K w.params).In base → base.Ns mainGlobals mg → FnG l.prog w (K w.params) mg base k fa fd [x] (sp (K w.params)))
    (want : ∀ (K : PySem.W.Frag) (H : Hp) (a : Addr) (ns : List Int), ns.length ≤ n → Only H → SqL K H a (ns.map V.int) → sp K [.ref a] H (fun v _ => v = .bl true) fun _ _ _ => False) :
    PySem.W.WalkO q loose XP YP l.row.toRowW d [] (fun f vs => PySem.call f vs) := by
  refine Att.attach_call hn hdf ?_
  intro w s₀ s₁ mg mb fa o pm cd doc a vs ns G Y ho hd hcd hmg hobj hints hlen hg
  have kin := hY w _ Y
  obtain ⟨fd, hb, hF⟩ := F w mg fa _ kin G.T.g hmg
  exact call_law kin G.T.g G.T.b G.T.builtins G.T.nolimit hg hobj hints (Nat.le_trans hlen hn2) room hF hb fun H on sq => want (K w.params) H a ns hlen on sq
end Jg
namespace Jg
open PySem PySem.Spec PyProof.Rows L2
/-! ### repr of data -/
def rRepr (K : PySem.W.Frag) : List V → Hp → VK → Prop := fun xs H Q => ∃ x d, xs = [x] ∧ Dp K H x d ∧ d.showable = true ∧ d.hasDict = false ∧ d.depth ≤ 60 ∧ d.shown.length ≤ sizeLine ∧ Q (.str d.shown) H
theorem call_repr {X : Cx} {K : PySem.W.Frag} (gua : X.A.guards = some []) (hu : X.A.units + 64 < cLine) (hK : X.K = K := by rfl) : CallR X (.builtin "repr") (rRepr K) := by
  subst hK
  intro pins s σ H xs us Q I rel h
  obtain ⟨x, d, rfl, hd, sh, nd, dp, sz, q⟩ := h
  obtain ⟨u, rfl, ru⟩ := vals1 rel
  obtain ⟨as, rd⟩ := Dp.reads I d x u hd ru
  have leaf : ∀ tk, EP X pins σ Q (.str d.shown tk) { s with toks := s.toks + 1 } := fun tk => ⟨.str d.shown, H, I.tok _, ⟨tk, rfl⟩, q⟩
  cases u with
  | ref a =>
    refine repr_of_reads' rd sh (PyData.noDict_hsm nd) gua (by omega) (fun b o e => e) ?_ sz
    intro h' u tk keep
    exact ⟨.str d.shown, H, I.kept keep, ⟨u, rfl⟩, q⟩
  | none =>
    cases rd
    simp only [PyData.shown] at leaf sz
    exact PySem.P.repr_of_none (leaf _)
  | bool b =>
    cases rd
    simp only [PyData.shown] at leaf sz
    exact PySem.P.repr_of_bool (leaf _)
  | int i t =>
    cases rd
    simp only [PyData.shown] at leaf sz
    exact PySem.P.repr_of_int (by simpa [PyData.showable] using sh) (leaf _)
  | str z t =>
    cases rd
    simp only [PyData.shown] at leaf sz
    exact PySem.P.repr_of_str (leaf _) sz
  | _ => cases rd
end Jg
namespace Jg
open PySem PySem.Spec L2
/-! ### operations by name -/
def rAddS : R2 := fun x y H Q => ∃ i j, x = .str i ∧ y = .str j ∧ i.length + j.length ≤ sizeLine ∧ Q (.str (i ++ j)) H
theorem op_addS {X : Cx} : OpR X (binaryOp .Add) rAddS := op_add_str
def rLen (K : PySem.W.Frag) : List V → Hp → VK → Prop := fun xs H Q => ∃ x n, xs = [x] ∧ LenV K x H n ∧ Q (.int n) H
theorem call_lenV {X : Cx} {K : PySem.W.Frag} (hK : X.K = K := by rfl) : CallR X (.builtin "len") (rLen K) := by
  subst hK
  intro pins s σ H xs us Q I rel h
  obtain ⟨x, n, e, l, q⟩ := h
  exact call_len pins s σ H xs us Q I rel ⟨x, n, e, l, q⟩
def rMax : List V → Hp → VK → Prop := fun xs H Q => ∃ i j, xs = [.int i, .int j] ∧ Q (.int (if j > i then j else i)) H
theorem call_maxV {X : Cx} (hc : X.calm = true) : CallR X (.builtin "max") rMax := call_max2 hc
def rMin : List V → Hp → VK → Prop := fun xs H Q => ∃ i j, xs = [.int i, .int j] ∧ Q (.int (if j < i then j else i)) H
theorem call_minV {X : Cx} (hc : X.calm = true) : CallR X (.builtin "min") rMin := call_min2 hc
def rInt : List V → Hp → VK → Prop := fun xs H Q => (∃ i, xs = [.int i] ∧ Q (.int i) H) ∨ ∃ k, xs = [.bl k] ∧ Q (.int (if k then 1 else 0)) H
theorem call_intV {X : Cx} : CallR X (.type "int") rInt := call_int1
def rIs : R2 := fun x y H Q => y = .non ∧ Q (.bl (decide (x = .non))) H
theorem op_isV {X : Cx} : OpR X (compareOp .Is) rIs := op_isN
def rIsNot : R2 := fun x y H Q => y = .non ∧ Q (.bl (!decide (x = .non))) H
theorem op_isNotV {X : Cx} : OpR X (compareOp .IsNot) rIsNot := op_notN
def rJoin (K : PySem.W.Frag) : V → List V → Hp → VK → Prop := fun x xs H Q => ∃ a p, ∃ ys : List Str, x = .str a ∧ xs = [.ref p] ∧ (SqL K H p (ys.map V.str) ∨ SqT K H p (ys.map V.str)) ∧
  (ys.map (·.length)).sum + ys.length * a.length ≤ 16777216 ∧ Q (.str (Txt.join a ys)) H
theorem mt_joinV {X : Cx} {K : PySem.W.Frag} (hK : X.K = K := by rfl) : MtR X "str.join" (rJoin K) := by
  subst hK
  exact mt_join
theorem ix_listV {X : Cx} {K : PySem.W.Frag} (hK : X.K = K := by rfl) : IxR X (rIxL K) := by
  subst hK
  exact ix_list
theorem ix_tupV {X : Cx} {K : PySem.W.Frag} (hK : X.K = K := by rfl) : IxR X (rIxT K) := by
  subst hK
  exact ix_tup
theorem call_isiV {X : Cx} {K : PySem.W.Frag} (hK : X.K = K := by rfl) : CallR X (.builtin "isinstance") (rIsi K) := by
  subst hK
  exact call_isi
def rSplit : V → List V → Hp → VK → Prop := fun x xs H Q => ∃ a b, x = .str a ∧ xs = [.str b] ∧ (b.length == 0) = false ∧ a.length + 2 ≤ sizeLine ∧ rNewStrs (Txt.split a b) H Q
theorem mt_splitV {X : Cx} : MtR X "str.split" rSplit := mt_split
/-! ### readings, a step each -/
section
variable {σ : L2.St} {H : Hp} {Q : VK} {B : Bool → Hp → Prop} {R : List V → Hp → Prop} {D : Ends} {i : Nat} {v x y : V} {ta tb te : TE} {t u c : TT} {ts ts2 : TS} {tas : TA} {b : Bool} {g : TG} {r : R2} {K : PySem.W.Frag}
theorem g_var (e : σ[i]? = some (some v)) (q : Q v H) : tVar i σ H Q := ⟨v, e, q⟩
theorem g_c (q : Q v H) : tC v σ H Q := q
theorem g_op (q : ta σ H fun x H1 => tb σ H1 fun y H2 => r x y H2 Q) : tOp r ta tb σ H Q := q
theorem g_un {r : V → Hp → VK → Prop} (q : ta σ H fun x H1 => r x H1 Q) : tUn r ta σ H Q := q
theorem g_I0 {g : Int → Int → V} {a b : Int} (q : Q (g a b) H) : rI0 g (.int a) (.int b) H Q := ⟨a, b, rfl, rfl, q⟩
theorem g_I {C : Int → Int → Prop} {g : Int → Int → V} {a b : Int} (h : C a b) (q : Q (g a b) H) : rI C g (.int a) (.int b) H Q := ⟨a, b, rfl, rfl, h, q⟩
theorem g_addS {a b : Str} (h : a.length + b.length ≤ sizeLine) (q : Q (.str (a ++ b)) H) : rAddS (.str a) (.str b) H Q := ⟨a, b, rfl, rfl, h, q⟩
theorem g_eq (h : scal x y = true) (q : Q (.bl (decide (x = y))) H) : rEq x y H Q := ⟨h, q⟩
theorem g_ne (h : scal x y = true) (q : Q (.bl (!decide (x = y))) H) : rNe x y H Q := ⟨h, q⟩
theorem g_is (q : Q (.bl (decide (x = .non))) H) : rIs x .non H Q := ⟨rfl, q⟩
theorem g_isNot (q : Q (.bl (!decide (x = .non))) H) : rIsNot x .non H Q := ⟨rfl, q⟩
theorem g_test (q : ta σ H fun x H' => ∃ k, x = .bl k ∧ B k H') : tTest ta σ H B := q
theorem g_B (q : ta σ H fun x H' => ∃ k, x = .bl k ∧ B k H') : tB ta σ H B := q
theorem g_bl {B : Bool → Prop} (q : B b) : ∃ k, V.bl b = .bl k ∧ B k := ⟨b, rfl, q⟩
theorem g_not (q : t σ H fun c H1 => B (!c) H1) : tNot t σ H B := q
theorem g_and (q : t σ H fun c H1 => if c = true then u σ H1 B else B false H1) : tAnd t u σ H B := q
theorem g_or (q : t σ H fun c H1 => if c = true then B true H1 else u σ H1 B) : tOr t u σ H B := q
theorem g_notV (q : ta σ H fun x H1 => ∃ c, x = .bl c ∧ Q (.bl (!c)) H1) : tNotV ta σ H Q := q
theorem g_andV (q : ta σ H fun x H1 => ∃ c, x = .bl c ∧ if c = true then tb σ H1 Q else Q (.bl false) H1) : tAndV ta tb σ H Q := q
theorem g_orV (q : ta σ H fun x H1 => ∃ c, x = .bl c ∧ if c = true then Q (.bl true) H1 else tb σ H1 Q) : tOrV ta tb σ H Q := q
theorem g_if (q : t σ H fun c H1 => if c = true then ta σ H1 Q else tb σ H1 Q) : tIf t ta tb σ H Q := q
theorem g_nil (q : R [] H) : tNil σ H R := q
theorem g_cons (q : ta σ H fun x H1 => tas σ H1 fun xs H2 => R (x :: xs) H2) : tCons ta tas σ H R := q
theorem g_lst (q : tas σ H fun xs H1 => xs.length ≤ sizeLine ∧ ∀ p, H1 p = none → Q (.ref p) (upd H1 p (.lst xs))) : tLst tas σ H Q := q
theorem g_tup (q : tas σ H fun xs H1 => xs.length ≤ sizeLine ∧ ∀ p, H1 p = none → Q (.ref p) (upd H1 p (.tup xs))) : tTup tas σ H Q := q
theorem g_call {sp : Sp} {dvs : List V} {E : XK} (q : tas σ H fun vs H1 => sp (vs ++ dvs) H1 Q E) : tCall sp dvs E tas σ H Q := q
theorem g_CB {r : List V → Hp → VK → Prop} (q : tas σ H fun vs H1 => r vs H1 Q) : tCB r tas σ H Q := q
theorem g_int {a : Int} (q : Q (.int a) H) : rInt [.int a] H Q := Or.inl ⟨a, rfl, q⟩
theorem g_intB {k : Bool} (q : Q (.int (if k then 1 else 0)) H) : rInt [.bl k] H Q := Or.inr ⟨k, rfl, q⟩
theorem g_lenS {z : Str} (h : z.length ≤ sizeLine) (q : Q (.int z.length) H) : rLen K [.str z] H Q := ⟨_, z.length, rfl, ⟨h, rfl⟩, q⟩
theorem g_lenL {p : Addr} {xs : List V} (h : SqL K H p xs) (q : Q (.int xs.length) H) : rLen K [.ref p] H Q := ⟨_, xs.length, rfl, Or.inl ⟨xs, h, rfl⟩, q⟩
theorem g_lenT {p : Addr} {xs : List V} (h : SqT K H p xs) (q : Q (.int xs.length) H) : rLen K [.ref p] H Q := ⟨_, xs.length, rfl, Or.inr ⟨xs, h, rfl⟩, q⟩
theorem g_max {a b : Int} (q : Q (.int (if b > a then b else a)) H) : rMax [.int a, .int b] H Q := ⟨a, b, rfl, q⟩
theorem g_min {a b : Int} (q : Q (.int (if b < a then b else a)) H) : rMin [.int a, .int b] H Q := ⟨a, b, rfl, q⟩
theorem g_ixL {p : Addr} {xs : List V} {k : Int} (h : SqL K H p xs) (e : atI xs k = some v) (q : Q v H) : rIxL K (.ref p) (.int k) H Q := ⟨p, xs, k, v, rfl, rfl, h, e, q⟩
theorem g_ixT {p : Addr} {xs : List V} {k : Int} (h : SqT K H p xs) (e : atI xs k = some v) (q : Q v H) : rIxT K (.ref p) (.int k) H Q := ⟨p, xs, k, v, rfl, rfl, h, e, q⟩
theorem g_ixS {z : Str} {k : Int} {cp : Nat} (h : z.length ≤ sizeLine) (e : atI z.cps.toList k = some cp) (q : Q (.str ⟨#[cp]⟩) H) : rIxS (.str z) (.int k) H Q := ⟨z, k, cp, rfl, rfl, h, e, q⟩
theorem g_repr {d : PyData} (hd : Dp K H x d) (sh : d.showable = true) (nd : d.hasDict = false) (dp : d.depth ≤ 60) (sz : d.shown.length ≤ sizeLine) (q : Q (.str d.shown) H) : rRepr K [x] H Q := ⟨x, d, rfl, hd, sh, nd, dp, sz, q⟩
theorem g_isi {c : V} {ty k : Value} (kc : ClsV c k) (tx : TyX K H x ty) (e : PySem.W.kitOne K ty k = some b) (q : Q (.bl b) H) : rIsi K [x, c] H Q := ⟨x, c, ty, k, b, rfl, kc, tx, e, q⟩
/-! statements -/
theorem s_seq (q : ts { D with nx := ts2 D } σ H) : tSeq ts ts2 D σ H := q
theorem s_next (q : D.nx σ H) : tNext D σ H := q
theorem s_brk (q : D.bk σ H) : tBreak D σ H := q
theorem s_cont (q : D.ct σ H) : tCont D σ H := q
theorem s_drop (q : te σ H fun _ H1 => D.nx σ H1) : tDrop te D σ H := q
theorem s_ret (q : te σ H D.rt) : tRet te D σ H := q
theorem s_retN (q : D.rt .non H) : tRetN D σ H := q
theorem s_if (q : c σ H fun b H1 => if b = true then ts D σ H1 else ts2 D σ H1) : tIfS c ts ts2 D σ H := q
theorem s_asg (q : te σ H fun x H1 => g x σ H1 D.nx) : tAsg te g D σ H := q
theorem s_name {N : St → Hp → Prop} (q : N (σ.set i (some v)) H) : gName i v σ H N := q
theorem s_sub {to ti : TE} {t : TSet} {N : St → Hp → Prop} (q : to σ H fun o H1 => ti σ H1 fun i H2 => t o i v H2 fun H3 => N σ H3) : gSub to ti t v σ H N := q
theorem s_setL {p : Addr} {xs : List V} {k : Int} {j : Nat} {N : Hp → Prop} (h : H p = some (.lst xs)) (e : ixN xs.length k = some j) (q : N (upd H p (.lst (xs.set j v)))) : rSetL (.ref p) (.int k) v H N := ⟨p, xs, k, j, rfl, rfl, h, e, q⟩
theorem s_append {p : Addr} {xs : List V} (h : H p = some (.lst xs)) (l : xs.length < sizeLine) (q : Q .non (upd H p (.lst (xs ++ [v])))) : rAppend (.ref p) [v] H Q := ⟨p, xs, v, rfl, rfl, h, l, q⟩
theorem g_BM {T : String} {r : V → List V → Hp → VK → Prop} (q : ta σ H fun x H1 => tyV K T x H1 ∧ tas σ H1 fun xs H2 => r x xs H2 Q) : tBM K T r ta tas σ H Q := q
theorem g_M1 {r : V → List V → Hp → VK → Prop} (q : ta σ H fun x H1 => (∃ a, x = .str a) ∧ tb σ H1 fun y H2 => r x [y] H2 Q) : tM1 r ta tb σ H Q := q
theorem g_str {s : Str} {A : Prop} (q : A) : (∃ a, V.str s = .str a) ∧ A := ⟨⟨s, rfl⟩, q⟩
theorem g_sl {r : V → Option Int → Option Int → Hp → VK → Prop} {tl th : TO} (q : ta σ H fun x H1 => tl σ H1 fun l H2 => th σ H2 fun u H3 => r x l u H3 Q) : tSl r ta tl th σ H Q := q
theorem g_noPart {N : Option Int → Hp → Prop} (q : N none H) : tNoPart σ H N := q
theorem g_part {N : Option Int → Hp → Prop} (q : ta σ H fun x H1 => ∃ i, x = .int i ∧ N (some i) H1) : tPart ta σ H N := q
theorem g_ex {N : Int → Prop} {a : Int} (q : N a) : ∃ i, V.int a = .int i ∧ N i := ⟨a, rfl, q⟩
theorem g_slS {z : Str} {l h : Option Int} (hz : z.length ≤ sizeLine) (q : Q (.str (cutS z l h)) H) : rSlS (.str z) l h H Q := ⟨z, rfl, hz, q⟩
theorem g_true {A B : Prop} (q : A) : if true = true then A else B := by
  rw [if_pos rfl]
  exact q
theorem g_false {A B : Prop} (q : B) : if false = true then A else B := by
  rw [if_neg Bool.false_ne_true]
  exact q
theorem g_yes {c A B : Prop} [Decidable c] (h : c) (q : A) : if decide c = true then A else B := by
  rw [decide_eq_true h, if_pos rfl]
  exact q
theorem g_no {c A B : Prop} [Decidable c] (h : ¬ c) (q : B) : if decide c = true then A else B := by
  rw [decide_eq_false h, if_neg Bool.false_ne_true]
  exact q
theorem g_two {c A B : Prop} [Decidable c] (h1 : c → A) (h2 : ¬ c → B) : if decide c = true then A else B := by
  by_cases h : c
  · exact g_yes h (h1 h)
  · exact g_no h (h2 h)
theorem g_way {c : Bool} {A B : Prop} (h1 : c = true → A) (h2 : c = false → B) : if c = true then A else B := by
  cases c with
  | true => exact g_true (h1 rfl)
  | false => exact g_false (h2 rfl)
end
end Jg
namespace Jg
open PySem PySem.Spec L2
/-! ### the bag of draws -/
/-- a bag stands at p: what is left of the cell, its rest, how many were mixed, n at most -/
def Bg (H : Hp) (p : Addr) (n : Nat) : Prop := ∃ a b c : Int, H p = some (.lst [.int a, .int b, .int c]) ∧ 0 ≤ b ∧ b < 2147483629 ∧ 0 ≤ c ∧ c ≤ (n : Int)
theorem Bg.mono {H : Hp} {p : Addr} {n m : Nat} (B : Bg H p n) (h : n ≤ m) : Bg H p m := by
  obtain ⟨a, b, c, e, h1, h2, h3, h4⟩ := B
  exact ⟨a, b, c, e, h1, h2, h3, by omega⟩
/-- all but the bag is as it was -/
def Mv (p : Addr) (H H' : Hp) : Prop := ∀ b o, b ≠ p → H b = some o → H' b = some o
theorem Mv.refl (p : Addr) (H : Hp) : Mv p H H := fun _ _ _ h => h
theorem Mv.trans {p : Addr} {H H1 H2 : Hp} (a : Mv p H H1) (b : Mv p H1 H2) : Mv p H H2 := fun x o hx h => b x o hx (a x o hx h)
theorem Mv.upd (p : Addr) (H : Hp) (o : HO) : Mv p H (upd H p o) := fun b u hb h => by
  rw [upd_ne hb]
  exact h
theorem Mv.new {p q : Addr} {H : Hp} {o : HO} (h : H q = none) : Mv p H (L2.upd H q o) := fun b u hb e => by
  rw [upd_ne (ne_of_none e h)]
  exact e
theorem Bg.some {H : Hp} {p : Addr} {n : Nat} (B : Bg H p n) : ∃ o, H p = some o := by
  obtain ⟨a, b, c, e, _⟩ := B
  exact ⟨_, e⟩
theorem Bg.ne {H : Hp} {p q : Addr} {n : Nat} (B : Bg H p n) (h : H q = none) : q ≠ p := by
  obtain ⟨o, e⟩ := B.some
  exact (ne_of_none e h).symm
theorem Bg.new {H : Hp} {p q : Addr} {n : Nat} {o : HO} (B : Bg H p n) (h : H q = none) : Bg (L2.upd H q o) p n := by
  obtain ⟨a, b, c, e, r⟩ := B
  exact ⟨a, b, c, by rw [upd_ne (ne_of_none e h)]; exact e, r⟩
theorem Bg.off {H : Hp} {p q : Addr} {n : Nat} {o : HO} (B : Bg H p n) (h : q ≠ p) : Bg (L2.upd H q o) p n := by
  obtain ⟨a, b, c, e, r⟩ := B
  exact ⟨a, b, c, by rw [upd_ne h.symm]; exact e, r⟩
/-- what is free behind was free ahead -/
theorem Mv.free {p q : Addr} {H H' : Hp} {n : Nat} (m : Mv p H H') (B : Bg H' p n) (h : H' q = none) : H q = none := by
  have hq := B.ne h
  cases e : H q with
  | none => rfl
  | some o =>
    rw [m q o hq e] at h
    cases h
theorem Mv.sq {K : PySem.W.Frag} {p q : Addr} {H H' : Hp} {xs : List V} {n : Nat} (m : Mv p H H') (hq : q ≠ p) (h : SqL K H q xs) : SqL K H' q xs := by
  rcases h with (h | ⟨o, h⟩) | h
  · exact Or.inl (Or.inl (m _ _ hq h))
  · exact Or.inl (Or.inr ⟨o, m _ _ hq h⟩)
  · exact Or.inr h
end Jg
namespace Jg
open PySem PySem.Spec L2
/-! ### loops and comprehensions -/
/-- what a comprehension asks once its source stands -/
def lcB (g : TG) (tt : TT) (te : TE) (vs : List Nat) (σ : L2.St) (Q : VK) : It → Hp → Prop := fun J H1 => ∀ D, H1 D = none → ∃ W : Nat → Nat → Hp → Prop, (∃ m, W 0 m (upd H1 D (.lst []))) ∧ ∀ i m H, W i m H →
  (J.stop i H ∧ Q (.ref D) H) ∨ (J.go i H ∧ ∃ Nx : Hp → Prop, (∀ H', Nx H' → ∃ m', m' < m ∧ W (i + 1) m' H') ∧ ∀ x H', J.yld i H x H' → g x (wipe σ vs) H' fun σ2 H2 => wipe σ2 vs = wipe σ vs ∧ tt σ2 H2 fun b H3 =>
    if b = true then te σ2 H3 fun y H4 => ∃ acc, H4 D = some (.lst acc) ∧ acc.length < sizeLine ∧ Nx (upd H4 D (.lst (acc ++ [y]))) else Nx H3)
/-- what a for asks -/
def forB (g : TG) (tb : TS) (D : Ends) (σ : L2.St) : It → Hp → Prop := fun J H1 => ∃ W : Nat → Nat → L2.St → Hp → Prop, (∃ m, W 0 m σ H1) ∧ ∀ i m σ H, W i m σ H →
  (J.stop i H ∧ D.nx σ H) ∨ (J.go i H ∧ ∃ N : L2.St → Hp → Prop, (∀ σ' H', N σ' H' → ∃ m', m' < m ∧ W (i + 1) m' σ' H') ∧ ∀ x H', J.yld i H x H' → g x σ H' fun σ2 H2 => tb { D with nx := N, ct := N, bk := D.nx } σ2 H2)
section
variable {σ : L2.St} {H : Hp} {Q : VK} {D : Ends} {wi : TI} {g : TG} {tt : TT} {te : TE} {vs : List Nat} {tb : TS} {ta : TA} {tl : TE} {R : It → Hp → Prop} {K : PySem.W.Frag} {i : Nat}
theorem g_lc (q : wi σ H (lcB g tt te vs σ Q)) : tLc wi g tt te vs σ H Q := q
theorem s_for (q : wi σ H (forB g tb D σ)) : tFor wi g tb D σ H := q
theorem g_rng1 (q : ta σ H fun vs H1 => ∃ j : Int, vs = [.int j] ∧ -(2 ^ 62) ≤ j ∧ j < 2 ^ 62 ∧ R (Itr 0 j.toNat) H1) : iRng1 ta σ H R := q
theorem g_rngN {j : Int} (h : 0 ≤ j ∧ j < 2 ^ 62) (q : R (Itr 0 j.toNat) H) : ∃ j' : Int, [V.int j] = [.int j'] ∧ -(2 ^ 62) ≤ j' ∧ j' < 2 ^ 62 ∧ R (Itr 0 j'.toNat) H := ⟨j, rfl, by omega, h.2, q⟩
theorem g_iList (q : tl σ H fun x H1 => ∃ a, x = .ref a ∧ (∃ xs, SqL K H1 a xs) ∧ R (Itl K a) H1) : iList K tl σ H R := q
theorem g_iTup (q : tl σ H fun x H1 => ∃ a, x = .ref a ∧ (∃ xs, SqT K H1 a xs) ∧ R (Itt K a) H1) : iTup K tl σ H R := q
theorem g_itl {a : Addr} {xs : List V} (h : SqL K H a xs) (q : R (Itl K a) H) : ∃ a', V.ref a = .ref a' ∧ (∃ xs, SqL K H a' xs) ∧ R (Itl K a') H := ⟨a, rfl, ⟨xs, h⟩, q⟩
theorem g_itt {a : Addr} {xs : List V} (h : SqT K H a xs) (q : R (Itt K a) H) : ∃ a', V.ref a = .ref a' ∧ (∃ xs, SqT K H a' xs) ∧ R (Itt K a') H := ⟨a, rfl, ⟨xs, h⟩, q⟩
theorem g_iStr (q : tl σ H fun v H1 => ∃ x, v = .str x ∧ R (Its x) H1) : iStr tl σ H R := q
theorem g_its {z : Str} (q : R (Its z) H) : ∃ x, V.str z = .str x ∧ R (Its x) H := ⟨z, rfl, q⟩
theorem g_tyes {B : Bool → Hp → Prop} (q : B true H) : tYes σ H B := q
/-- [f x for x in xs], f without a trace: a new list of what comes -/
theorem lc_pure {a : Addr} {xs : List V} (f : V → V) (sq : SqL K H a xs) (hn : xs.length < sizeLine) (wv : ∀ x, wipe ((wipe σ [i]).set i (some x)) [i] = wipe σ [i])
    (hs : ∀ x ∈ xs, ∀ (H2 : Hp) (R : VK), Same H H2 → R (f x) H2 → te ((wipe σ [i]).set i (some x)) H2 R)
    (q : ∀ D, H D = none → Q (.ref D) (upd H D (.lst (xs.map f)))) : lcB (gName i) tYes te [i] σ Q (Itl K a) H := by
  intro D hD
  refine lc_list (xs := xs) (fun j H2 => H2 = upd H D (.lst ((xs.take j).map f))) (by rw [List.take_zero, List.map_nil]) ?_ ?_ ?_
  · rintro j H2 hj rfl
    rcases sq with (h | ⟨o, h⟩) | h
    · exact Or.inl (Or.inl (by rw [upd_ne (ne_of_none h hD)]; exact h))
    · exact Or.inl (Or.inr ⟨o, by rw [upd_ne (ne_of_none h hD)]; exact h⟩)
    · exact Or.inr h
  · rintro j x H2 hx rfl
    refine ⟨wv x, ?_⟩
    with_reducible refine g_tyes ?_
    with_reducible refine g_true ?_
    refine hs x (List.mem_of_getElem? hx) _ _ (fun b o e => by rw [upd_ne (ne_of_none e hD)]; exact e) ?_
    refine ⟨_, upd_same, ?_, ?_⟩
    · rw [List.length_map]
      exact Nat.lt_of_le_of_lt (List.length_take_le' _ _) hn
    · rw [upd_upd, List.take_add_one, hx, List.map_append]
      rfl
  · rintro H2 rfl
    rw [List.take_length]
    exact q D hD
/-- [f(bag) for k in range(n)]: the bag stands at p, each draw at most c -/
theorem lc_draw {p : Addr} {n b0 c : Nat} (E : V → Prop) (hn : n < sizeLine) (B : Bg H p b0) (wv : ∀ x, wipe ((wipe σ [i]).set i (some x)) [i] = wipe σ [i])
    (hs : ∀ (j : Nat) (H2 : Hp) (R : VK), j < n → Bg H2 p (b0 + j * c) → Mv p H H2 → (∀ y H3, E y → Bg H3 p (b0 + (j + 1) * c) → Mv p H2 H3 → R y H3) → te ((wipe σ [i]).set i (some (.int (0 + (j : Nat))))) H2 R)
    (q : ∀ D H' ys, H D = none → D ≠ p → ys.length = n → (∀ y ∈ ys, E y) → H' D = some (.lst ys) → Bg H' p (b0 + n * c) → Mv p H H' → Q (.ref D) H') : lcB (gName i) tYes te [i] σ Q (Itr 0 n) H := by
  intro D hD
  have nD := B.ne hD
  refine lc_range (lo := 0) (n := n) (fun j H2 => ∃ ys, ys.length = j ∧ (∀ y ∈ ys, E y) ∧ H2 D = some (.lst ys) ∧ Bg H2 p (b0 + j * c) ∧ Mv p H H2) ⟨[], rfl, by simp, upd_same, by simpa using B.new hD, Mv.new hD⟩ ?_ ?_
  · rintro j H2 hj ⟨ys, l, he, hd, B2, m⟩
    refine ⟨wv _, ?_⟩
    with_reducible refine g_tyes ?_
    with_reducible refine g_true ?_
    refine hs j H2 _ hj B2 m ?_
    intro y H3 ey B3 m3
    refine ⟨ys, m3 _ _ nD hd, by omega, ys ++ [y], by rw [List.length_append, l]; rfl, ?_, upd_same, B3.off nD, ?_⟩
    · intro z hz
      rcases List.mem_append.mp hz with h | h
      · exact he z h
      · rw [List.mem_singleton.mp h]
        exact ey
    · intro b o hb e
      rw [upd_ne (ne_of_none e hD)]
      exact m3 b o hb (m b o hb e)
  · rintro H2 ⟨ys, l, he, hd, B2, m⟩
    exact q D H2 ys hD nD l he hd B2 m
end
/-! ### signs -/
def rInC : R2 := fun x y H Q => ∃ c z, x = .str ⟨#[c]⟩ ∧ y = .str z ∧ Q (.bl (decide (c ∈ z.cps.toList))) H
theorem op_inC {X : Cx} : OpR X (compareOp .In) rInC := op_in_sign
theorem g_inC {H : Hp} {Q : VK} {c : Nat} {x z : Str} (e : x = ⟨#[c]⟩) (q : Q (.bl (decide (c ∈ z.cps.toList))) H) : rInC (.str x) (.str z) H Q := ⟨c, z, by rw [e], rfl, q⟩
def rInL (K : PySem.W.Frag) : R2 := rIn K false
theorem op_inL {X : Cx} {K : PySem.W.Frag} (hK : X.K = K := by rfl) : OpR X (compareOp .In) (rInL K) := by
  subst hK
  exact op_in_seq
theorem g_inL {K : PySem.W.Frag} {H : Hp} {Q : VK} {x : V} {p : Addr} {xs : List V} (h : SqL K H p xs) (fx : flatV x = true) (fs : xs.all flatV = true) (q : Q (.bl (inV x xs)) H) : rInL K x (.ref p) H Q := ⟨p, xs, rfl, Or.inl h, fx, fs, q⟩
def rAnyB (K : PySem.W.Frag) : List V → Hp → VK → Prop := fun xs H Q => ∃ (a : Addr) (bs : List Bool), xs = [.ref a] ∧ SqL K H a (bs.map V.bl) ∧ Q (.bl (bs.any id)) H
theorem call_any {X : Cx} {K : PySem.W.Frag} (hc : X.calm = true) (hK : X.K = K := by rfl) : CallR X (.builtin "any") (rAnyB K) := by
  subst hK
  exact cr_any hc
def rAllB (K : PySem.W.Frag) : List V → Hp → VK → Prop := fun xs H Q => ∃ (a : Addr) (bs : List Bool), xs = [.ref a] ∧ SqL K H a (bs.map V.bl) ∧ Q (.bl (bs.all id)) H
theorem call_all {X : Cx} {K : PySem.W.Frag} (hc : X.calm = true) (hK : X.K = K := by rfl) : CallR X (.builtin "all") (rAllB K) := by
  subst hK
  exact cr_all hc
theorem g_any {K : PySem.W.Frag} {H : Hp} {Q : VK} {a : Addr} {bs : List Bool} (h : SqL K H a (bs.map V.bl)) (q : Q (.bl (bs.any id)) H) : rAnyB K [.ref a] H Q := ⟨a, bs, rfl, h, q⟩
theorem g_all {K : PySem.W.Frag} {H : Hp} {Q : VK} {a : Addr} {bs : List Bool} (h : SqL K H a (bs.map V.bl)) (q : Q (.bl (bs.all id)) H) : rAllB K [.ref a] H Q := ⟨a, bs, rfl, h, q⟩
theorem g_join {K : PySem.W.Frag} {H : Hp} {Q : VK} {a : Str} {p : Addr} {ys : List Str} (h : SqL K H p (ys.map V.str)) (l : (ys.map (·.length)).sum + ys.length * a.length ≤ 16777216) (q : Q (.str (Txt.join a ys)) H) : rJoin K (.str a) [.ref p] H Q := ⟨a, p, ys, rfl, rfl, Or.inl h, l, q⟩
theorem g_split {H : Hp} {Q : VK} {a b : Str} (hb : (b.length == 0) = false) (l : a.length + 2 ≤ sizeLine) (q : ∀ p, H p = none → Q (.ref p) (upd H p (.lst ((Txt.split a b).map V.str)))) : rSplit (.str a) [.str b] H Q := ⟨a, b, rfl, rfl, hb, l, q⟩
theorem g_sz {xs : List V} {A : Prop} (h : xs.length ≤ sizeLine) (q : A) : xs.length ≤ sizeLine ∧ A := ⟨h, q⟩
theorem g_dnew {σ : L2.St} {H : Hp} {Q : VK} (q : ∀ p, H p = none → Q (.ref p) (upd H p (.dK []))) : tDNewK σ H Q := q
/-- {'k': v}, both written -/
theorem g_disp1 {σ : L2.St} {H : Hp} {Q : VK} {k : Str} {v : V} (q : ∀ p, H p = none → Q (.ref p) (upd H p (.dK [(Sum.inr k, v)]))) : tDisp [(tC (.str k), tC v)] σ H Q := by
  intro p hp
  refine ⟨upd_same, [(Sum.inr k, v)], rfl, Nat.le_of_ble_eq_true rfl, ?_⟩
  rw [upd_upd]
  exact q p hp
theorem ne_new {H : Hp} {a b : Addr} {o : HO} (h' : H b = none) (h : H a = some o) : a ≠ b := ne_of_none h h'
theorem atI_mem {xs : List V} {z : Int} (h0 : 0 ≤ z) (h1 : z < xs.length) : ∃ v ∈ xs, atI xs z = some v := by
  have hl : z.toNat < xs.length := by omega
  refine ⟨xs[z.toNat], List.getElem_mem hl, ?_⟩
  unfold atI ixN
  rw [if_pos h0, if_pos h1]
  show xs[z.toNat]? = _
  exact List.getElem?_eq_getElem hl
theorem atI_nat {α : Type} {xs : List α} {z : Int} (h0 : 0 ≤ z) (h1 : z < xs.length) : ∃ h : z.toNat < xs.length, atI xs z = some (xs[z.toNat]'h) := by
  have hl : z.toNat < xs.length := by omega
  refine ⟨hl, ?_⟩
  unfold atI ixN
  rw [if_pos h0, if_pos h1]
  exact List.getElem?_eq_getElem hl
theorem upd_keep {H : Hp} {a b : Addr} {o u : HO} (h' : H b = none) (h : H a = some o) : upd H b u a = some o := by
  rw [upd_ne (ne_of_none h h')]
  exact h
theorem mv_new {p q : Addr} {H0 H : Hp} {o : HO} (h : H q = none) (m : Mv p H0 H) : Mv p H0 (upd H q o) := m.trans (Mv.new h)
theorem ix_draw {K : PySem.W.Frag} {H : Hp} {l : Addr} {xs : List V} {z m : Int} (sq : H l = some (.lst xs)) (h0 : 0 ≤ z) (h1 : z < m) (hm : m = xs.length) : ∃ v ∈ xs, ∀ Q : VK, Q v H → rIxL K (.ref l) (.int z) H Q := by
  obtain ⟨v, hv, e⟩ := atI_mem h0 (by omega : z < xs.length)
  exact ⟨v, hv, fun Q q => g_ixL (Or.inl (Or.inl sq)) e q⟩
theorem g_nt {A B : Prop} (q : B) : if (!true) = true then A else B := by
  show if false = true then A else B
  rw [if_neg Bool.false_ne_true]
  exact q
theorem g_nf {A B : Prop} (q : A) : if (!false) = true then A else B := by
  show if true = true then A else B
  rw [if_pos rfl]
  exact q
theorem g_U {g : Int → V} {a : Int} {H : Hp} {Q : VK} (q : Q (g a) H) : rU g (.int a) H Q := ⟨a, rfl, q⟩
theorem ne_bag {H : Hp} {p q : Addr} {n : Nat} (h : H q = none) (B : Bg H p n) : q ≠ p := B.ne h
/-- two ways of one test on texts -/
theorem g_txt {x y : Str} {A B : Prop} (h1 : x = y → A) (h2 : x ≠ y → B) : if decide (V.str x = V.str y) = true then A else B := by
  by_cases e : x = y
  · exact g_yes (by rw [e]) (h1 e)
  · exact g_no (fun z => e (by cases z; rfl)) (h2 e)
theorem g_int2 {x y : Int} {A B : Prop} (h1 : x = y → A) (h2 : x ≠ y → B) : if decide (V.int x = V.int y) = true then A else B := by
  by_cases e : x = y
  · exact g_yes (by rw [e]) (h1 e)
  · exact g_no (fun z => e (by cases z; rfl)) (h2 e)

/-- a conditional expression by what both ways give -/
theorem g_cutIf {t : TT} {ta tb : TE} {σ : L2.St} {H : Hp} {Q : VK} (R : V → Hp → Prop) (h : ∀ Q : VK, (∀ v H', R v H' → Q v H') → tIf t ta tb σ H Q) (q : ∀ v H', R v H' → Q v H') : tIf t ta tb σ H Q := h Q q
theorem g_same {x : V} {A B : Prop} (q : B) : if (!decide (x = x)) = true then A else B := by
  rw [decide_eq_true rfl]
  exact g_nt q
theorem g_diff {x y : V} {A B : Prop} (h : x ≠ y) (q : A) : if (!decide (x = y)) = true then A else B := by
  rw [decide_eq_false h]
  exact g_nf q
theorem sq_same {K : PySem.W.Frag} {H H' : Hp} {a : Addr} {xs : List V} (s : Same H H') (h : SqL K H a xs) : SqL K H' a xs := s.seq h
end Jg
namespace Jg
open PySem PySem.Spec PyProof.Rows L2
/-! ### (l + r).replace(y, [z1, z2][i]) -/
def tReplIx (ta : TE) (m : Str) (tr : TE) (y z1 z2 : Str) (ti : TE) : TE := fun σ H Q => tOp rAddS ta (tC (.str m)) σ H fun a H1 => tr σ H1 fun b H2 => ∃ i j : Str, a = .str i ∧ b = .str j ∧ i.length + j.length ≤ 1000000 ∧
  ∀ (p : Addr) (o : Obj), H2 p = none → ti σ (upd H2 p (.frz o (.lst [.str z1, .str z2]))) fun w H3 => H3 p = some (.frz o (.lst [.str z1, .str z2])) ∧ ∃ k : Nat, w = .int (k : Int) ∧ k < 2 ∧
    ∀ z, (z = z1 ∨ z = z2) → Q (.str (Txt.replace (i ++ j) y z)) H3
theorem g_replIx {ta : TE} {m : Str} {tr : TE} {y z1 z2 : Str} {ti : TE} {σ : L2.St} {H : Hp} {Q : VK} (q : tOp rAddS ta (tC (.str m)) σ H fun a H1 => tr σ H1 fun b H2 => ∃ i j : Str, a = .str i ∧ b = .str j ∧ i.length + j.length ≤ 1000000 ∧
  ∀ (p : Addr) (o : Obj), H2 p = none → ti σ (upd H2 p (.frz o (.lst [.str z1, .str z2]))) fun w H3 => H3 p = some (.frz o (.lst [.str z1, .str z2])) ∧ ∃ k : Nat, w = .int (k : Int) ∧ k < 2 ∧
    ∀ z, (z = z1 ∨ z = z2) → Q (.str (Txt.replace (i ++ j) y z)) H3) : tReplIx ta m tr y z1 z2 ti σ H Q := q
/-- what the written part tells of the statics' space: no reader has booked a token -/
theorem noneBooked {K : PySem.W.Frag} {h : Heap} (kin : K.In h) (lim : h.NoLimit) (e : PySem.W.nsIn K cStatics sharingNotToldKey = some none) : NoneBooked h := by
  obtain ⟨mc, ns, _⟩ := lim
  refine ⟨mc, ns, ?_⟩
  obtain ⟨o, es, ep, ho, hd, _, look⟩ := ns
  unfold PySem.W.nsIn at e
  split at e
  case h_1 _ q =>
    have same := kin _ _ q
    rw [ho] at same
    cases same
    cases hd
    split at e
    case h_1 => cases e
    case h_2 he =>
      rw [← look]
      unfold nsFind findBy
      rw [← Array.find?_toList, he]
      rfl
  case h_2 => cases e
section
variable {X : Cx} {a r ei : Expr} {ta tr ti : TE} {m y z1 z2 : Str} {cm c j1 j2 : Nat} {cp c0 c1 c2 lp sp ap bp apos pos : Pos} {pins : List (Addr × Obj)} {s : Shared} {σ : L2.St} {H : Hp} {Q : VK}
/-- a + a written text: a token is out behind it -/
theorem run_addC (ha : PE X a ta) (I : L2.Inv X pins σ H s) (h : tOp rAddS ta (tC (.str m)) σ H Q) :
    wpAny (model X.prog X.w) X.A (eval (.BinOp a .Add (.Constant (.str m) cm cp) ap) X.env) (fun v s' => 1 ≤ s'.toks ∧ EP X pins σ Q v s') X.xe s := by
  refine wpAny_BinOp (thn (ha.run pins s σ H _ I h) ?_)
  rintro v s1 ⟨x, H1, I1, rx, q⟩
  refine Calls.Constant_str ?_
  refine wpAny_mono (PySem.wpAny_toks (op_addS pins _ σ H1 x (.str m) v _ Q (I1.tok _) rx ⟨_, rfl⟩ q)) ?_ (fun _ _ z => z.2)
  rintro u s2 ⟨le, e⟩
  exact ⟨Nat.le_trans (by omega : 1 ≤ s1.toks + 1) le, e⟩
theorem pe_replIx (ha : PE X a ta) (hr : PE X r tr) (hi : PE X ei ti) (l1 : z1.length ≤ 1) (l2 : z2.length ≤ 1)
    (nb : PySem.W.nsIn X.K cStatics sharingNotToldKey = some none) (hs : PlainIx ei)
    (hst : starEach [.Constant (.str y) c c0, .Subscript (.List [.Constant (.str z1) j1 c1, .Constant (.str z2) j2 c2] lp) ei sp] X.env =
      [(false, eval (.Constant (.str y) c c0) X.env), (false, eval (.Subscript (.List [.Constant (.str z1) j1 c1, .Constant (.str z2) j2 c2] lp) ei sp) X.env)] := by rfl)
    (hbase : attributeBase (.BinOp (.BinOp a .Add (.Constant (.str m) cm cp) ap) .Add r bp) "replace" X.env (eval (.BinOp (.BinOp a .Add (.Constant (.str m) cm cp) ap) .Add r bp) X.env) = eval (.BinOp (.BinOp a .Add (.Constant (.str m) cm cp) ap) .Add r bp) X.env := by rfl) (hline : (apos.endLine == pos.line) = true := by rfl) :
    PE X (.Call (.Attribute (.BinOp (.BinOp a .Add (.Constant (.str m) cm cp) ap) .Add r bp) "replace" apos) [.Constant (.str y) c c0, .Subscript (.List [.Constant (.str z1) j1 c1, .Constant (.str z2) j2 c2] lp) ei sp] [] pos) (tReplIx ta m tr y z1 z2 ti) := by
  constructor
  intro pins s σ H Q I h
  refine PySem.Call_method2 hbase hst hline (wpAny_BinOp (wpAny_mono (run_addC ha I h) ?_ (fun _ _ z => z)))
  rintro v s1 ⟨k1, av, H1, I1, ra, q1⟩
  refine wpAny_mono (PySem.wpAny_toks (hr.run pins s1 σ H1 _ I1 q1)) ?_ (fun _ _ z => z.2)
  rintro u s2 ⟨k2, bv, H2, I2, rb, i, j, rfl, rfl, len, q⟩
  obtain ⟨t, rfl⟩ := ra
  obtain ⟨t', rfl⟩ := rb
  have fit : i.length + j.length ≤ sizeLine := Nat.le_trans len (by decide)
  refine wpAny_mono (PySem.wpAny_toks (add_str (Q := fun v s' => ∃ t tk, v = Value.str (i ++ j) t ∧ s' = { s2 with toks := tk }) (fun t tk => ⟨t, tk, rfl, rfl⟩) fit)) ?_ (fun _ _ z => z.2)
  rintro w s3 ⟨k3, tw, tk, rfl, rfl⟩
  have pos3 : 1 ≤ tk := Nat.le_trans (Nat.le_trans k1 k2) k3
  refine ⟨"str", _, PySem.F.plainAttrs_str, PySem.F.slot_str_replace, PySem.F.type_str_replace, typeIs_str _ _ _, (fun _ e => nomatch e), Calls.callWith_builtin rfl (Calls.evalArgs_plain (Calls.spliced_cons ?_))⟩
  refine Calls.Constant_str (Calls.spliced_cons ?_)
  refine Subscript_ (wpAny_List_spliced ?_)
  show wpAny _ _ (spliced ((false, eval (.Constant (.str z1) j1 c1) X.env) :: backTo lp (starEach [.Constant (.str z2) j2 c2] X.env))) _ _ _
  refine Calls.spliced_cons (Calls.Constant_str ?_)
  show wpAny _ _ (spliced ((false, eval (.Constant (.str z2) j2 c2) X.env) :: backTo lp (starEach [] X.env))) _ _ _
  refine Calls.spliced_cons (Calls.Constant_str (Calls.spliced_nil ?_))
  have h2 : (2 : Nat) ≤ sizeLine := by decide
  refine ⟨h2, ?_⟩
  let o : Obj := { cls := .type "list", data := .seq #[.str z1 (tk + 1), .str z2 (tk + 1 + 1)] 0 }
  have fresh : H2 s2.heap.objs.size = none := I2.hok.fresh (Nat.le_refl _)
  have ok : ObjOk X.prog X.w (upd H2 s2.heap.objs.size (.frz o (.lst [.str z1, .str z2]))) (s2.heap.push o) s2.heap.objs.size (.frz o (.lst [.str z1, .str z2])) :=
    ⟨Heap.get?_push_size _ rfl, h2, [.str z1 _, .str z2 _], 0, .cons ⟨_, rfl⟩ (.cons ⟨_, rfl⟩ .nil), Heap.get?_push_size _ rfl⟩
  have I3 := I2.laid (a := s2.heap.objs.size) (t' := tk + 1 + 1 + 1) (fun b u e => Heap.get?_push_of_some _ e) (Nat.le_refl _) ok
  refine wpAny_mono (hi.run pins _ σ _ _ I3 (q _ o fresh)) ?_ (fun _ _ z => z)
  rintro iv s4 ⟨kv, H4, I4, r4, at4, k, rfl, hk, q4⟩
  obtain ⟨tki, rfl⟩ := r4
  obtain ⟨here, _⟩ := I4.hok _ _ at4
  have isl : s4.heap.IsList s2.heap.objs.size #[.str z1 (tk + 1), .str z2 (tk + 1 + 1)] := ⟨o, here, rfl, 0, rfl⟩
  have rep : ∀ (z : Str) (tz : Nat), z.length ≤ 1 → (z = z1 ∨ z = z2) → tz ≠ 0 → tk ≠ tz → wpAny (model X.prog X.w) X.A (spliced []) (fun vs s₁ => wpAny (model X.prog X.w) X.A (call (.builtin "str.replace") (.str (i ++ j) tw :: .str y tk :: .str z tz :: vs)) (EP X pins σ Q) X.xe s₁) X.xe s4 := by
    intro z tz lz ez nz dz
    refine Calls.spliced_nil ?_
    refine PySem.SC.replaceA (show tk ≠ 0 from Nat.pos_iff_ne_zero.mp pos3) nz dz ?_ (fun t' k => ⟨.str (Txt.replace (i ++ j) y z), H4, I4.tok k, ⟨t', rfl⟩, q4 z ez⟩) (noneBooked I4.kIn I4.nolimit nb)
    have el : (i ++ j).length = i.length + j.length := by rw [TL.len_tl, TL.tl_append, List.length_append, ← TL.len_tl, ← TL.len_tl]
    rw [el]
    have : (i.length + j.length + 1) * z.length ≤ (i.length + j.length + 1) * 1 := Nat.mul_le_mul_left _ lz
    omega
  have hkk : k = 0 ∨ k = 1 := by omega
  rcases hkk with rfl | rfl
  · exact item_listR isl (by decide) (by decide) rfl (rep z1 _ l1 (Or.inl rfl) (by omega) (by omega)) (hs _ _)
  · exact item_listR isl (by decide) (by decide) rfl (rep z2 _ l2 (Or.inr rfl) (by omega) (by omega)) (hs _ _)
end
end Jg
namespace Jg
open PySem PySem.Spec L2
/-! ### texts -/
/-- a text of at most n signs, each a sign -/
def Sg (z : Str) (n : Nat) : Prop := z.length ≤ n ∧ ∀ c ∈ TL.tl z, c < 1114112
theorem Sg.mono {z : Str} {n m : Nat} (h : Sg z n) (l : n ≤ m) : Sg z m := ⟨Nat.le_trans h.1 l, h.2⟩
theorem Sg.app {x y : Str} {n m : Nat} (a : Sg x n) (b : Sg y m) : Sg (x ++ y) (n + m) := by
  constructor
  · rw [TL.len_tl, TL.tl_append, List.length_append, ← TL.len_tl, ← TL.len_tl]
    exact Nat.add_le_add a.1 b.1
  · intro c hc
    rw [TL.tl_append] at hc
    rcases List.mem_append.mp hc with h | h
    · exact a.2 c h
    · exact b.2 c h
theorem Sg.cut {z : Str} {n : Nat} (h : Sg z n) (lo hi : Option Int) : Sg (cutS z lo hi) n :=
  ⟨Nat.le_trans (cutS_length z lo hi) h.1, fun c hc => h.2 c (List.mem_of_mem_drop (List.mem_of_mem_take hc))⟩
theorem Sg.of {z : Str} {n : Nat} (h : (decide (z.length ≤ n) && (TL.tl z).all (fun c => decide (c < 1114112))) = true) : Sg z n := by
  rw [Bool.and_eq_true, List.all_eq_true] at h
  exact ⟨of_decide_eq_true h.1, fun c hc => of_decide_eq_true (h.2 c hc)⟩
theorem Sg.sign {z : Str} {n : Nat} {k : Int} {c : Nat} (h : Sg z n) (e : atI z.cps.toList k = some c) : Sg ⟨#[c]⟩ 1 := by
  refine ⟨Nat.le_refl _, fun d hd => ?_⟩
  have : d = c := by simpa [TL.tl] using hd
  subst this
  refine h.2 d ?_
  unfold atI at e
  cases q : ixN z.cps.toList.length k with
  | none =>
    rw [q] at e
    cases e
  | some j =>
    rw [q] at e
    exact List.mem_of_getElem? e
theorem mem_joinL {S : List Nat} {c : Nat} : ∀ {ps : List (List Nat)}, c ∈ TL.joinL S ps → c ∈ S ∨ ∃ p ∈ ps, c ∈ p
  | [], h => by cases h
  | [p], h => Or.inr ⟨p, List.mem_singleton.mpr rfl, h⟩
  | p :: q :: r, h => by
    rcases List.mem_append.mp (show c ∈ p ++ (S ++ TL.joinL S (q :: r)) from h) with h | h
    · exact Or.inr ⟨p, List.mem_cons_self, h⟩
    · rcases List.mem_append.mp h with h | h
      · exact Or.inl h
      · rcases mem_joinL h with h | ⟨x, hx, h⟩
        · exact Or.inl h
        · exact Or.inr ⟨x, List.mem_cons_of_mem _ hx, h⟩
theorem joinL_mem {S : List Nat} {c : Nat} : ∀ {ps : List (List Nat)} {p : List Nat}, p ∈ ps → c ∈ p → c ∈ TL.joinL S ps
  | [], _, h, _ => by cases h
  | [x], p, h, hc => by
    rw [List.mem_singleton.mp h] at hc
    exact hc
  | x :: y :: r, p, h, hc => by
    show c ∈ x ++ (S ++ TL.joinL S (y :: r))
    rcases List.mem_cons.mp h with e | h
    · rw [e] at hc
      exact List.mem_append_left _ hc
    · exact List.mem_append_right _ (List.mem_append_right _ (joinL_mem h hc))
theorem tl_tjoin (y : Str) (ps : List Str) : TL.tl (Txt.join y ps) = TL.joinL (TL.tl y) (ps.map TL.tl) := by
  rw [TL.join_eq, TL.tl_join]
theorem joinL_len {S : List Nat} {n : Nat} (hS : S.length ≤ 1) : ∀ {ps : List (List Nat)}, (∀ p ∈ ps, p.length ≤ n) → (TL.joinL S ps).length ≤ ps.length * (n + 1)
  | [], _ => Nat.zero_le _
  | [p], h => by
    have := h p (List.mem_singleton.mpr rfl)
    show p.length ≤ 1 * (n + 1)
    omega
  | p :: q :: r, h => by
    have h1 := h p List.mem_cons_self
    have h2 := joinL_len (S := S) hS (ps := q :: r) (fun x hx => h x (List.mem_cons_of_mem _ hx))
    show (p ++ (S ++ TL.joinL S (q :: r))).length ≤ (q :: r).length.succ * (n + 1)
    rw [List.length_append, List.length_append, Nat.succ_mul]
    omega
/-- joined texts -/
theorem Sg.join {y : Str} {ps : List Str} {n k : Nat} (hy : Sg y 1) (hl : ps.length ≤ k) (h : ∀ p ∈ ps, Sg p n) : Sg (Txt.join y ps) (k * (n + 1)) := by
  constructor
  · rw [TL.len_tl, tl_tjoin]
    have l := joinL_len (S := TL.tl y) (n := n) (ps := ps.map TL.tl) (by rw [← TL.len_tl]; exact hy.1) (fun p hp => by
      obtain ⟨z, hz, rfl⟩ := List.mem_map.mp hp
      rw [← TL.len_tl]
      exact (h z hz).1)
    rw [List.length_map] at l
    exact Nat.le_trans l (Nat.mul_le_mul_right _ hl)
  · intro c hc
    rw [tl_tjoin] at hc
    rcases mem_joinL hc with hc | ⟨p, hp, hc⟩
    · exact hy.2 c hc
    · obtain ⟨z, hz, rfl⟩ := List.mem_map.mp hp
      exact (h z hz).2 c hc
/-- the parts of a text -/
theorem Sg.split {z : Str} {n m : Nat} (h : Sg z n) (hm : m < 256) : ∀ p ∈ Txt.split z ⟨#[m]⟩, Sg p n := by
  intro p hp
  have e := StrLaws.join_split z ⟨#[m]⟩
  constructor
  · exact Nat.le_trans (PyProof.Rows.part_short hp) h.1
  · intro c hc
    refine h.2 c ?_
    rw [← e, TL.tl_join]
    exact joinL_mem (List.mem_map.mpr ⟨p, hp, rfl⟩) hc

def rMulS : R2 := fun x y H Q => ∃ z n, x = .str z ∧ y = .int n ∧ MulOk z n ∧ Q (.str (Txt.mul z n)) H
theorem op_mulS {X : Cx} : OpR X (binaryOp .Mult) rMulS := by
  intro pins s σ H x y v u Q I rx ry h
  obtain ⟨z, n, rfl, rfl, ok, q⟩ := h
  obtain ⟨t, rfl⟩ := rx
  obtain ⟨t', rfl⟩ := ry
  exact PySem.SB.mul ok fun t' k => ⟨.str (Txt.mul z n), H, I.tok k, ⟨t', rfl⟩, q⟩
theorem g_mulS {z : Str} {n : Int} {H : Hp} {Q : VK} (ok : MulOk z n) (q : Q (.str (Txt.mul z n)) H) : rMulS (.str z) (.int n) H Q := ⟨z, n, rfl, rfl, ok, q⟩
theorem strs_of {P : Str → Prop} : ∀ {ys : List V}, (∀ y ∈ ys, ∃ z, y = .str z ∧ P z) → ∃ ws : List Str, ys = ws.map V.str ∧ ∀ z ∈ ws, P z
  | [], _ => ⟨[], rfl, by simp⟩
  | y :: ys, h => by
    obtain ⟨z, rfl, hz⟩ := h y List.mem_cons_self
    obtain ⟨ws, e, hw⟩ := strs_of (ys := ys) fun x hx => h x (List.mem_cons_of_mem _ hx)
    refine ⟨z :: ws, by rw [e]; rfl, ?_⟩
    intro x hx
    rcases List.mem_cons.mp hx with e | hx
    · rw [e]
      exact hz
    · exact hw x hx
theorem sum_le {n : Nat} : ∀ {ws : List Str}, (∀ z ∈ ws, z.length ≤ n) → (ws.map (·.length)).sum ≤ ws.length * n
  | [], _ => Nat.zero_le _
  | z :: ws, h => by
    have h1 := h z List.mem_cons_self
    have h2 := sum_le (ws := ws) fun x hx => h x (List.mem_cons_of_mem _ hx)
    show z.length + (ws.map (·.length)).sum ≤ (ws.length + 1) * n
    rw [Nat.succ_mul]
    omega
theorem cut_len (z : Str) (k : Nat) : (cutS z none (some (k : Int))).length ≤ k := by
  unfold cutS
  rw [TL.len_tl, TL.tl_mk, HT.sIx_none, HT.sIx_nat, List.length_take]
  omega
theorem joinL_len1 {S : List Nat} (hS : S.length ≤ 1) : ∀ ps : List (List Nat), (TL.joinL S ps).length ≤ (ps.map (·.length)).sum + ps.length
  | [] => Nat.zero_le _
  | [p] => by
    show p.length ≤ [p.length].sum + 1
    simp <;> omega
  | p :: q :: r => by
    have h2 := joinL_len1 hS (q :: r)
    show (p ++ (S ++ TL.joinL S (q :: r))).length ≤ p.length + ((q :: r).map (·.length)).sum + (q :: r).length.succ
    rw [List.length_append, List.length_append]
    omega
/-- one sign for another one -/
theorem Sg.repl {x z : Str} {n c : Nat} (h : Sg x n) (hz : Sg z 1) (hc : c < 256) : Sg (Txt.replace x ⟨#[c]⟩ z) (n + 1) := by
  rw [StrLaws.replace_one, ← TL.join_eq]
  constructor
  · rw [TL.len_tl, tl_tjoin]
    have l := joinL_len1 (S := TL.tl z) (by rw [← TL.len_tl]; exact hz.1) ((Txt.split x ⟨#[c]⟩).map TL.tl)
    have w := PyProof.Rows.split_weight x ⟨#[c]⟩ (Nat.le_refl 1)
    have e : ((Txt.split x ⟨#[c]⟩).map TL.tl).map (·.length) = (Txt.split x ⟨#[c]⟩).map (·.length) := by
      rw [List.map_map]
      exact List.map_congr_left fun y _ => (TL.len_tl y).symm
    rw [e, List.length_map] at l
    have := h.1
    omega
  · intro d hd
    rw [tl_tjoin] at hd
    rcases mem_joinL hd with hd | ⟨p, hp, hd⟩
    · exact hz.2 d hd
    · obtain ⟨y, hy, rfl⟩ := List.mem_map.mp hp
      exact (h.split hc y hy).2 d hd
end Jg
namespace JgX
open PySem PySem.W PySem.Calls PyProof.Rows
/-! ### an own exception whose __init__ says super().__init__('..') and stores what it is given -/
open Builtin Builtin.ObjectAttr in
/-- what is said of a base's __init__ -/
structure IniFacts (B i : String) : Prop where
  slot : Slot B "__init__" i
  entry : entryFor table i = some Builtin.«BaseException.__init__»
  kind : builtinKind i = some .slot
  row : Manifest.signature? i = some ⟨.positional, "*", B, .self, [⟨"args", .varPos, false⟩]⟩
  star : (B != "*") = true
theorem ini_of {B n i : String} (F : ExcCallFacts B n i) : IniFacts B i := ⟨F.init, F.initEntry, F.initKind, F.initRow, F.noStar⟩
theorem ini_key : IniFacts "KeyError" "KeyError.__init__" where
  slot := .of (owner := "KeyError") (n := "__init__")
    (by
      rw [typeLookup_type, builtinLookup_eq_fast]
      kernel_rfl)
    (by decide +kernel)
    (by decide +kernel)
    (by decide +kernel)
    (by
      first
        | exact .inl (by decide +kernel)
        | exact .inr (by decide +kernel))
    (by
      rw [isSubtype_type]
      kernel_rfl)
  entry := entryFor_alias (id' := "BaseException.__init__")
    (by
      rw [fastTable_eq_tree]
      kernel_rfl)
    (by
      first
        | rfl
        | decide +kernel)
    (by decide +kernel)
    (by
      rw [fastTable_eq_tree]
      kernel_rfl)
  kind := by kernel_rfl
  row := by kernel_rfl
  star := by decide +kernel
/-- what the base brings -/
structure XBase (B newId i : String) (bmB : List Value) : Prop where
  ini : IniFacts B i
  kf : KxsFacts B i
  pass : ∀ me : Value, refuseLoop me "__setattr__" bmB = pure ()
  obj : bmB.contains (.type "object") = true
theorem xValue : XBase "ValueError" "ValueError.__new__" "ValueError.__init__" [.type "ValueError", .type "Exception", .type "BaseException", .type "object"] :=
  ⟨ini_of F.excBase_ValueError.toExcCallFacts, kxs_ValueError, F.store_ValueError.passes, by decide +kernel⟩
theorem xLookup : XBase "LookupError" "LookupError.__new__" "LookupError.__init__" [.type "LookupError", .type "Exception", .type "BaseException", .type "object"] :=
  ⟨ini_of F.excBase_LookupError.toExcCallFacts, kxs_LookupError, F.store_LookupError.passes, by decide +kernel⟩
theorem xKey : XBase "KeyError" "LookupError.__new__" "KeyError.__init__" [.type "KeyError", .type "LookupError", .type "Exception", .type "BaseException", .type "object"] :=
  ⟨ini_key, ⟨by show builtinType _ = _; rw [builtinType_eq_fast]; kernel_rfl, by first | kernel_rfl | rfl⟩, fun me => by kernel_rfl, by decide +kernel⟩
section
variable {M : Model} {A : Around} {E : Value → Shared → Prop} {h : Heap} {g : Array GenState} {d : Drawn} {t : Nat} {os : OsState}
theorem ini_check {B i newId : String} (F : IniFacts B i) {nm q : Str} {C N e : Addr} {oe : Obj} {bs bm : List Value} {hdct : Bool} {sn : List Str} {sub : List Value} {ab : Bool} {col : Option Bool} {dd : Option Addr} {k0 k1 k2 k3 k5 : Option Value} {rest : List Value} {Q : Unit → Shared → Prop}
    (lk : h.get? C = some (excClassObj nm q C N bs bm hdct sn sub ab col dd k0 k1 k2 k3 k5 newId)) (he : h.get? e = some oe) (oc : oe.cls = .ref C) (z : Q () ⟨h, g, d, t, os⟩) :
    wpAny M A (checkBoundCall i ⟨.ref e :: rest, []⟩) Q E ⟨h, g, d, t, os⟩ := by
  have star := F.star
  simp only [checkBoundCall, F.kind, F.row]
  repeat (first
    | (with_reducible refine wpAny_loadPart_at he ?_; rw [oc])
    | with_reducible refine wpAny_loadPart_at lk ?_
    | wp_step)
  refine wpAny_onRaise ?_
  have free : ∀ (a b : String) (n : Nat), Bind.check ⟨.positional, "*", B, .self, [⟨"args", .varPos, false⟩]⟩ a b n (({ pos := Value.ref e :: rest } : Args).kw.map fun x => x.fst) = pure () := fun a b n => check_star_args _ _ _ _ _ _
  rw [free]
  exact wpAny_pure z
end
open Builtin Builtin.ObjectAttr
section
variable {prog : Program} {w : World} {A : Around} {E : Value → Shared → Prop} {R : Result → Shared → Prop} {hp : Heap} {g : Array GenState} {d : Drawn} {t : Nat} {os : OsState}
variable {B newId i : String} {bmB : List Value} {K : Frag} {C : Addr}
variable {nm q : Str} {N : Addr} {bs bm : List Value} {hdct : Bool} {sn : List Str} {sub : List Value} {ab : Bool} {col : Option Bool} {dd : Option Addr} {k0 k1 k2 k3 k5 : Option Value}
/-- the base's __init__, bound to the fresh exception at e -/
theorem call_wrap (X : XBase B newId i bmB) {u e t0 : Addr} {more : List Value} {Q : Value → Shared → Prop} (hC : hp.get? C = some (excClassObj nm q C N bs bm hdct sn sub ab col dd k0 k1 k2 k3 k5 newId))
    (he : hp.get? e = some (excObj C t0 none .none)) (hu : hp.get? u = some (kxs_mw i e)) (len : more.length ≤ sizeLine)
    (hq : ∀ h', (∀ b o, b ≠ e → hp.get? b = some o → h'.get? b = some o) → h'.get? e = some (excObj C hp.objs.size none .none) → h'.get? hp.objs.size = some (excTup more) → Q .none ⟨h', g, d, t, os⟩) :
    wpAny (model prog w) A (call (.ref u) more) Q E ⟨hp, g, d, t, os⟩ := by
  refine wpAny_call (codeAny_of_tree ?_)
  show wpAny _ A.in1 (callAny (.ref u) ⟨more, []⟩) _ _ _
  simp only [callAny]
  refine wpAny_bind (wpAny_load hu ?_)
  have kind : (Value.type "method-wrapper" == Value.type "method" || Value.type "method-wrapper" == Value.type "builtin_function_or_method" || Value.type "method-wrapper" == Value.type "method-wrapper") = true := by decide
  simp only [kxs_mw, kind, if_true]
  refine KFB.if_so (by decide) ?_
  refine wpAny_bind (ini_check X.ini hC he rfl ?_)
  refine wpAny_bind (wpAny_pure (wpAny_pure ⟨plainId_quiet X.ini.slot.plain _, codeAny_builtin X.ini.entry ?_⟩))
  exact exc_init_tree (cls := .ref C) (t0 := t0) (dv := none) (c2 := .none) (c3 := .none) (b4 := .bool false) he len hq
open Builtin Builtin.ObjectAttr in
/-- me.name = v, the first one -/
theorem set_first (X : XBase B newId i bmB) {name : Str} {v : Value} {e : Addr} {fv : Array Value} {cd : ClassData} {Q : Unit → Shared → Prop} (kin : K.In hp) (he : hp.get? e = some { cls := .ref C, data := .fields fv })
    (hcd : clsIn K C = some cd) (hm : cd.mro = .ref C :: bm) (ht : excTail bmB bm = true) (hh : cd.hasDict = true) (no : findIn K (.ref C) name = some none)
    (sa : findIn K (.ref C) "__setattr__" = some (some (.builtin "object.__setattr__")))
    (hq : ∀ h' tk dx, (∀ b o, b ≠ e → hp.get? b = some o → h'.get? b = some o) → hp.objs.size ≤ dx → dx ≠ e → h'.get? e = some { cls := .ref C, dict := some dx, data := .fields fv } →
      h'.Ns1 dx (fun y => if y = name then some v else none) → Q () ⟨h', g, d, tk, os⟩) :
    wpAny (model prog w) A (setAttr (.ref e) name v) Q E ⟨hp, g, d, t, os⟩ := by
  have at_e : InstAt hp e { cls := .ref C, data := .fields fv } C none := ⟨he, rfl, rfl, trivial⟩
  refine set_plain kin at_e sa ?_
  have SO := F.store_object
  have away : e ≠ hp.objs.size := Nat.ne_of_lt (Heap.lt_size he)
  have isObj : (Value.ref C :: bm).contains (.type "object") = true := by
    rw [List.contains_cons, excTail_contains "object" bm ht, X.obj, Bool.or_true]
  have inMro : mroIn K C (.type "object") = some true := by
    unfold mroIn
    rw [hcd, Option.bind_some, hm, if_neg (show ¬ (List.isEmpty (Value.ref C :: bm) = true) from Bool.false_ne_true), isObj]
  have isIn : Looks (model prog w) hp (isInstance (.ref e) (.type "object")) true := at_e.type.andThen (looks_mroIn kin inMro)
  refine codeAny_call_builtin SO.slot.plain SO.entry (@check_slot (model prog w) _ _ _ "object.__setattr__" "object" "__setattr__" (.ref e) [.str name t, v] [] _ SO.kind SO.split isIn (SO.args (.ref e) (.str name t) v) ?_)
  have lm : Looks (model prog w) hp (mroOf (.ref C)) cd.mro := (looks_clsIn kin hcd).andThen .now
  have lt : Looks (model prog w) hp (storeTaker? none) none := .now
  have lc : Looks (model prog w) hp (classData C) cd := looks_clsIn kin hcd
  have free : refuseLoop (.ref e) "__setattr__" cd.mro = pure () := by
    rw [hm, refuseLoop_ref]
    exact excTail_pass _ (X.pass _) bm ht
  rw [osa_eq, refuse_eq]
  refine wpAny_bind (wpAny_bind (at_e.type.at (wpAny_bind (lm.at ?_))))
  rw [free]
  refine wpAny_pure (wpAny_bind (at_e.type.at (wpAny_bind ((looks_findIn kin no).at (wpAny_bind (lt.at ?_))))))
  show wpAny _ _ (storeInOwnDict (.ref e) (.ref C) (.str name t) name v false) _ _ _
  obtain ⟨cn, cb, cm, cns, cq, hd, csn, csb, cab, ccol, cdel⟩ := cd
  dsimp only at hh
  subst hh
  unfold storeInOwnDict ownDictForStores
  repeat (first
    | with_reducible refine HandSPX.store_in_new ?_ ?_
    | with_reducible refine wpAny_loadPart_at he ?_
    | with_reducible refine lc.at ?_
    | wp_step)
  · exact ⟨_, #[], _, (Heap.get?_update_ne _ _ _ _ away.symm).trans (Heap.get?_push_at rfl rfl), rfl, fun e he => absurd he (by simp), fun _ => rfl⟩
  · intro h' tk hn' hs
    have later : (hp.push { cls := .type "dict", data := .dict #[] }).get? e = some { cls := .ref C, data := .fields fv } := Heap.get?_push_of_some _ he
    refine hq h' tk hp.objs.size ?_ (Nat.le_refl _) away.symm ?_ hn'
    · intro b o hb ho
      exact (hs.2 b (Nat.ne_of_lt (Heap.lt_size ho))).trans ((Heap.get?_update_ne _ _ _ _ hb).trans (Heap.get?_push_of_some _ ho))
    · exact (hs.2 e away).trans (Heap.get?_update_self _ later rfl)
end
end JgX
namespace JgX
open PySem PySem.W PySem.Calls PyProof.Rows PySem.Spec L2
/-! ### as what L2 tracks -/
theorem excLaid {P : Program} {w : World} {H : Hp} {hp h' : Heap} {fs : List Addr} {a C dx : Addr} {f : Str} {y : V} {u : Value} (hok : HOk P w H hp) (e : H a = some (exo a C none)) (ry : RelV y u)
    (dn : hp.objs.size ≤ dx) (dne : dx ≠ a) (k : ∀ b o, b ≠ a → hp.get? b = some o → h'.get? b = some o) {t1 : Addr} (hx : h'.get? a = some ({ cls := .ref C, dict := some dx, data := .fields #[.ref t1, .none, .none, .none, .bool false, .none] } : Obj))
    (hn : h'.Ns1 dx (fun z => if z = f then some u else none)) :
    Un fs [] H (upd (upd H dx (exd dx [(f, y)])) a (exo a C (some dx))) hp h' ∧ HOk P w (upd (upd H dx (exd dx [(f, y)])) a (exo a C (some dx))) h' := by
  have hnd : H dx = none := hok.fresh dn
  have nd : ∀ {b : Addr} {o : Obj}, hp.get? b = some o → b ≠ dx := fun {b o} q => Nat.ne_of_lt (Nat.lt_of_lt_of_le (Heap.lt_size q) dn)
  have na : ∀ {b : Addr}, H b = none → b ≠ a := fun {b} n z => by
    rw [z, e] at n
    cases n
  refine ⟨⟨fun b o q n _ _ => k b o (na n) q, fun b o q n _ _ => ⟨o.slots, k b o (na n) q⟩, fun b o q n _ => ?_, fun b o q _ => ?_, fun b xs q => ?_, fun b o v q => ?_, fun b ps q => ⟨#[], ?_⟩⟩, fun b o q => ?_⟩
  · rw [upd_ne (na n), upd_ne (nd q)]; exact n
  · by_cases hb : b = a
    · exact ⟨_, by rw [hb]; exact hx⟩
    · exact ⟨o, k b o hb q⟩
  · rw [upd_ne (at_ne e q exo_tup), upd_ne (ne_of_none q hnd)]; exact q
  · rw [upd_ne (at_ne e q exo_frz), upd_ne (ne_of_none q hnd)]; exact q
  · rw [upd_ne (at_ne e q exo_tbl), upd_ne (ne_of_none q hnd), q]; simp
  by_cases hb : b = a
  · subst hb
    rw [upd_same] at q
    cases q
    exact exo_ok hx
  rw [upd_ne hb] at q
  by_cases hd : b = dx
  · subst hd
    rw [upd_same] at q
    cases q
    exact exd_ok hn (relO_put (fs := []) ry fun g => True.intro)
  rw [upd_ne hd] at q
  refine (hok b o q).stay (fun c v hc z => k c v ?_ z) (fun c hc => by rw [upd_ne (at_ne e hc exo_own), upd_ne (ne_of_none hc hnd)]; exact hc) (fun c xs hc => by rw [upd_ne (at_ne e hc exo_tup), upd_ne (ne_of_none hc hnd)]; exact hc)
  rcases hc with hc | hc
  · rw [hc]
    exact hb
  · exact at_ne e hc exo_own

/-- what the written part says of such a class -/
structure XC (K : PySem.W.Frag) (C : Addr) (B newId i : String) (bmB : List Value) : Prop where
  cls : ∃ nm q N bs bm sn sub ab col dd k0 k1 k2 k3 k5, K.lookup C = some (excClassObj nm q C N bs bm true sn sub ab col dd k0 k1 k2 k3 k5 newId) ∧ excTail bmB bm = true
  sa : PySem.W.findIn K (.ref C) "__setattr__" = some (some (.builtin "object.__setattr__"))
  exC : PySem.W.subIn K (.ref C) (.type "BaseException") = some true
  tyC : PySem.W.typeIn K (.ref C) = some (.type "type")
  kC : PySem.W.keepIn K (.ref C) = true
  sup : PySem.W.ks_superIn K C C "__init__" = some (some (.builtin i))
  subB : PySem.W.subIn K (.ref C) (.type B) = some true
/-- its own __init__, as it stands in the written part -/
structure XFn (P : Program) (K : PySem.W.Frag) (C fI : Addr) (fd : FuncData) (qual : Str) (params : Arguments) (body : List Stmt) (scope : Scope) : Prop where
  ex : ∃ (nm : Str) (cc cda : Addr) (oc kV doc pm ct ccl cl : Value) (od an cdd cld : Option Addr) (osl ccs csl : Array (Option Value)) (vs : Array Value) (file : Str) (tf : Tok),
    fd = PySem.W.ksFn nm qual params body scope .none kV doc pm an (.ref cda) ct cc ∧ K.lookup fI = some ⟨oc, od, .func fd, osl⟩ ∧ PySem.W.codeIn K (.ref cda) qual = true ∧
    K.lookup cda = some ⟨ccl, cdd, .fields vs, ccs⟩ ∧ vs[2]? = some (.str file tf) ∧ ((P.main.file : Str) == file) = true ∧ K.lookup cc = some ⟨cl, cld, .cell (some (.ref C)), csl⟩
  iC : PySem.W.findIn K (.ref C) "__init__" = some (some (.ref fI))
  tI : PySem.W.typeIn K (.ref fI) = some (.type "function")
end JgX
namespace JgX
open PySem PySem.W PySem.Calls PyProof.Rows PySem.Spec L2
section
variable {P : Program} {w : World} {K : Frag} {mg : Str → Option Value} {base : Heap} {CX : CXT} {k : Nat} {B newId i : String} {bmB : List Value} {C fI : Addr} {fd : FuncData} {qual f par text : Str} {params : Arguments} {scope : Scope}
  {p0 p1 p2 p3 p4 p5 p6 p7 p8 : Pos} {j : Nat}
abbrev xBody (text f par : Str) (j : Nat) (p0 p1 p2 p3 p4 p5 p6 p7 p8 : Pos) : List Stmt :=
  [.Expr (.Call (.Attribute (.Call (.Name "super" p0) [] [] p1) "__init__" p2) [.Constant (.str text) j p3] [] p4) p4, .Assign [.Attribute (.Name "self" p5) f p6] (.Name par p7) p8]
/-- what __init__ promises: the exception gets its dict, with what was handed in under f -/
def xInit (C : Addr) (f : Str) : Sp := fun vs H Q _ => ∃ a y, vs = [.ref a, y] ∧ H a = some (exo a C none) ∧ ∀ dx, H dx = none → dx ≠ a → Q .non (upd (upd H dx (exd dx [(f, y)])) a (exo a C (some dx)))
theorem init_fn (X : XBase B newId i bmB) (T : XC K C B newId i bmB) (S : XFn P K C fI fd qual params (xBody text f par j p0 p1 p2 p3 p4 p5 p6 p7 p8) scope) (nf : findIn K (.ref C) f = some none)
    (opq : nsIn K cStatics "thirdparty.any" = some none) (msup : mg "super" = none) (htop : (P.main.scope.names.lookup ("super" : Str)).isSome = false)
    (hks : scope.names.lookup ("super" : Str) = some .globalImplicit) (hkc : scope.names.lookup ("__class__" : Str) = some .free) (hkS : scope.names.lookup ("self" : Str) = some .local) (hkP : scope.names.lookup par = some .local)
    (hk : scope.kind = .function) (hcell : ∀ x ∈ scope.names, x.2 ≠ .cell) (hco : scope.isCoroutine = false) (hgen : scope.isGenerator = false)
    (hpar : ∃ ar, (params.posonlyargs ++ params.args).head? = some ar ∧ ar.arg = ("self" : Str)) (hps : par ≠ ("self" : Str)) (hpd : (par == ("__debug__" : Str)) = false)
    (hev : ∀ en : Env, ∃ pl : Sem Bool, eval (.Call (.Attribute (.Call (.Name "super" p0) [] [] p1) "__init__" p2) [.Constant (.str text) j p3] [] p4) en = (do
      let ov ← attributeBase (.Call (.Name "super" p0) [] [] p1) "__init__" en (eval (.Call (.Name "super" p0) [] [] p1) en)
      standAt p2.atName
      let (f, first) ← holding [ov] (getMethod ov "__init__" pl)
      callWith p4 f first (backTo p4 (starEach [.Constant (.str text) j p3] en)) []))
    (hsx : ∀ en : Env, swapsWith (.Call (.Attribute (.Call (.Name "super" p0) [] [] p1) "__init__" p2) [.Constant (.str text) j p3] [] p4) none p4.line en = pure false)
    (hsw : ∀ env : Env, swapsWith (.Name par p7) (some (.Attribute (.Name "self" p5) f p6)) p8.line env = pure false) :
    FnOk P w K mg base CX (k + 1) fI fd [("self" : Str), par] (xInit C f) := by
  refine ⟨fun vs H Q E ⟨a, y, e, _⟩ => by rw [e]; rfl, fun A outer s H args us vs Q E room env bnd rel want => ?_⟩
  obtain ⟨a, y, rfl, ea, q⟩ := want
  obtain ⟨nm, cc, cda, oc, kV, doc, pm, ct, ccl, cl, od, an, cdd, cld, osl, ccs, csl, vs', file, tf, rfl, lk, hcd, lcd, hv2, hfile, lcc⟩ := S.ex
  obtain ⟨nmC, qC, NC, bsC, bmC, snC, sub, ab, col, dd, k0, k1, k2, k3, k5, hC, htail⟩ := T.cls
  obtain ⟨ar, har, harn⟩ := hpar
  cases rel with
  | @cons _ u0 _ ur ra rw' =>
  cases rw' with
  | @cons _ u _ ur' ru rz =>
  cases rz
  obtain rfl : u0 = Value.ref a := ra
  have bk : ∀ b o, base.get? b = some o → s.heap.get? b = some o := fun b o e => (env.bs b o e).1
  have kin : K.In s.heap := env.mod.kin.keeps bk
  obtain ⟨t1, hea⟩ := exo_at env.hok ea
  have clsC : clsIn K C = some { name := nmC, bases := bsC, mro := .ref C :: bmC, ns := NC, qualname := qC, hasDict := true, slotNames := snC, subclasses := sub, abstract := ab, collection := col, hasDel := false } := by
    unfold clsIn; rw [hC] <;> rfl
  have hsub : mroIn K C (.ref C) = some true := by
    unfold mroIn
    rw [clsC, Option.bind_some, if_neg (show ¬ (List.isEmpty (Value.ref C :: bmC) = true) from Bool.false_ne_true)]
    simp
  -- the heap without the exception
  have bh : ∀ b o, base.get? b = some o → (s.heap.hide a).get? b = some o := fun b o e =>
    (Heap.hide_ne s.heap fun z => by have n := (env.bs b o e).2; rw [z, ea] at n; cases n).trans (bk b o e)
  have kinH : K.In (s.heap.hide a) := env.mod.kin.keeps bh
  refine ks_codeAny_call_defAt (fd := ksFn nm qual params _ scope .none kV doc pm an (.ref cda) ct cc) (body := xBody text f par j p0 p1 p2 p3 p4 p5 p6 p7 p8) (binds := [(("self" : Str), Value.ref a), (par, u)]) room.depth (kin _ _ lk) rfl
    (env.mod.nolimit.keeps bk) (codeRec_of kin hcd) rfl bnd hcell (fun x hx => ?_) (fun h₁ hns hk₁ => ?_) hco hgen hk
  · rcases List.mem_cons.mp hx with rfl | hx
    · exact hkS
    · rcases List.mem_cons.mp hx with rfl | hx
      · exact hkP
      · cases hx
  have F1 : Fr (s.heap.hide a) s.heap.objs.size h₁ (fun y => [(("self" : Str), Value.ref a), (par, u)].reverse.lookup y) :=
    ⟨hns, fun b o e => hk₁ b o (Heap.of_hide e), Nat.le_of_eq (Heap.hide_size s.heap a)⟩
  have N1 : News (s.heap.hide a) s.heap.objs.size h₁ [(a, excObj C t1 none .none)] := fun p hp => by
    rcases List.mem_cons.mp hp with rfl | hp
    · exact ⟨hk₁ _ _ hea, Nat.ne_of_lt (Heap.lt_size hea), Heap.hide_self s.heap a⟩
    · cases hp
  have mself : (fun y => [(("self" : Str), Value.ref a), (par, u)].reverse.lookup y) ("self" : Str) = some (.ref a) := by
    have hb : (("self" : Str) == par) = false := by
      rw [beq_eq_false_iff_ne]; exact fun z => hps z.symm
    show List.lookup ("self" : Str) [(par, u), (("self" : Str), Value.ref a)] = _
    rw [List.lookup_cons, hb]
    simp [List.lookup_cons]
  have mpar : (fun y => [(("self" : Str), Value.ref a), (par, u)].reverse.lookup y) par = some u := by
    show List.lookup par [(par, u), (("self" : Str), Value.ref a)] = _
    simp [List.lookup_cons]
  have neA : ∀ {b : Addr} {o : Obj}, (s.heap.hide a).get? b = some o → b ≠ a := fun {b o} e z => by
    rw [z, Heap.hide_self] at e
    cases e
  obtain ⟨mb, hmb, hmbB⟩ := env.mod.blt
  have keep1 : ∀ b o, base.get? b = some o → h₁.get? b = some o := fun b o e => F1.keep b o (bh b o e)
  have kin1 : K.In h₁ := env.mod.kin.keeps keep1
  obtain ⟨pl, hev⟩ := hev (callEnv (ksFn nm qual params (xBody text f par j p0 p1 p2 p3 p4 p5 p6 p7 p8) scope .none kV doc pm an (.ref cda) ct cc) s.heap.objs.size fI)
  refine ks_wpAt_execs_cons (ks_wpAt_Expr_any (hi := by show (scope.kind == .module && _) = false; rw [hk]; rfl) (hs := hsx _) (ks_wpAt_MethodCall (pl := pl) (he := hev) (ks_wpAt_super_base (f := fI) (cc := cda) (ar := ar) (file := file) (tf := tf) hks hkc rfl rfl (kin1 _ _ lk) rfl har rfl (kin1 _ _ lcd) rfl hv2 hfile htop ?_)))
  refine ks_loadName_global hk hks (loadGlobal_builtin (mb := mb) (env.mod.glob.keeps keep1) msup (hmb.keeps keep1) ((hmbB _ (by decide)).trans (show bootBuiltins "super" = some (.type "super") by decide +kernel)) ⟨rfl, ?_⟩)
  refine wpAny_loadName_free hk hkc rfl ⟨_, kin1 _ _ lcc, rfl⟩ ?_
  rw [harn]
  refine wpAny_loadName_local hk hkS hns mself ?_
  refine ks_wpAny_isType_cls (kin1 _ _ hC) rfl ⟨rfl, ?_⟩
  refine ks_wpAny_call_super (kin1 _ _ hC) rfl (hk₁ _ _ hea) rfl (fun c z => by cases z) (looks_mroIn kin1 hsub) (fun h2 e2 keep2 => ?_)
  obtain ⟨F2, N2, l2⟩ := ks_newsPush (s := ⟨h₁, s.gens, s.drawn, s.toks + 2, s.os⟩) F1 N1 rfl e2 keep2
  refine kxs_method X.kf F2 kinH N2 (so := h₁.objs.size) (x := a) (C := C) (D := C) (by simp) (InstAt.of_exc0 (t := t1) (c2 := .none) N2 (by simp)) opq T.sup T.subB (by decide) (fun q3 h3 F3 N3 l3 => ?_)
  refine kxs_callWith1 (i := i) (x := a) N3 (by simp) (spliced_more (wpAny_Constant_str (spliced_none ⟨kxs_at N3 (by simp), ?_⟩)))
  have in3 : K.In h3 := kinH.keeps F3.keep
  refine call_wrap X (e := a) (t0 := t1) (in3 _ _ hC) (N3 (a, excObj C t1 none .none) (by simp)).1 (N3 (q3, kxs_mw i a) (by simp)).1 (by rw [sizeLine_eq]; simp) (fun h4 keep4 he4 _ => ?_)
  obtain ⟨oL, esL, epL, hL, restL⟩ := F3.ns
  have neL : s.heap.objs.size ≠ a := fun z => (N3 (a, excObj C t1 none .none) (by simp)).2.1 z.symm
  have hL4 : h4.Ns s.heap.objs.size (fun y => [(("self" : Str), Value.ref a), (par, u)].reverse.lookup y) := ⟨oL, esL, epL, keep4 _ _ neL hL, restL⟩
  have all4 : ∀ b o, b ≠ a → s.heap.get? b = some o → h4.get? b = some o := fun b o n e =>
    keep4 b o n (F3.keep b o ((Heap.hide_ne s.heap n).trans e))
  have in4 : K.In h4 := env.mod.kin.keeps fun b o e => all4 b o (neA (bh b o e)) (bk b o e)
  refine wpAt_of_wpAny (wpAny_execs_cons (plainObj_wpAny_Assign_Attribute ?_ (hsw _)))
  refine wpAny_Name (wpAny_loadName_local hk hkP hL4 mpar ?_) hpd
  refine wpAny_Name (wpAny_loadName_local hk hkS hL4 mself ?_)
  refine set_first X in4 he4 clsC rfl htail rfl nf T.sa (fun h5 tk dx keep5 hdx dne hx hn => wpAny_execs_nil ?_)
  have dn : s.heap.objs.size ≤ dx := Nat.le_trans (Nat.le_of_lt (Heap.lt_size (keep4 _ _ neL hL))) hdx
  obtain ⟨un, ok⟩ := excLaid (P := P) (w := w) (fs := frs outer) env.hok ea ru dn dne (fun b o n e => keep5 b o n (all4 b o n e)) hx hn
  exact ⟨.non, _, rfl, env.bare, un, ok, rfl, q dx (env.hok.fresh dn) dne⟩
end
end JgX
namespace JgX
open PySem PySem.W PySem.Calls PyProof.Rows PySem.Spec L2
/-! ### C(v) in a raise -/
abbrev mroV : List Value := [.type "ValueError", .type "Exception", .type "BaseException", .type "object"]
theorem refs_tail : ∀ {l : List Value}, excTail mroV l = true → HandSPX.refsVE l = true := by
  intro l
  induction l with
  | nil => intro h; exact absurd h (by decide +kernel)
  | cons a r ih =>
    intro h
    rcases excTail_cases _ h with ⟨c, r', e, h'⟩ | e
    · cases e
      exact ih h'
    · rw [e]
      decide +kernel
/-- the library's word for such a class, under ValueError -/
theorem XC.oex {K : Frag} {C : Addr} {B i : String} (T : XC K C B "ValueError.__new__" i mroV) : OexC K C := by
  obtain ⟨nm, q, N, bs, bm, sn, sub, ab, col, dd, k0, k1, k2, k3, k5, hC, ht⟩ := T.cls
  exact ⟨⟨nm, q, N, bs, bm, sn, sub, ab, col, dd, k0, k1, k2, k3, k5, hC, refs_tail ht⟩, T.sa, T.exC, T.tyC, T.kC⟩
section
variable {X : Cx} {CX : CXT} {x : Str} {C fI : Addr} {k : Nat} {fd : FuncData} {ps : List Str} {sp : Sp} {ds : List Value} {dvs : List V} {e : Expr} {es : List Expr} {ta : TA} {p pos : Pos} {B i : String}
theorem mk_x (XB : XBase B "ValueError.__new__" i mroV) (T : XC X.K C B "ValueError.__new__" i mroV) (iC : findIn X.K (.ref C) "__init__" = some (some (.ref fI))) (tI : typeIn X.K (.ref fI) = some (.type "function"))
    (F1 : FnOk X.prog X.w X.K X.mg X.base CX k fI fd ps sp) (hr : Room (k + 1) X.A) (hb : Binds X.K fd ps ds) (hd : Vals dvs ds) (hx : Passes CX X (fun _ _ _ => False)) (hg : Gl X x) (hm : X.mg x = some (.ref C)) (ha : PA X (e :: es) ta)
    (hdb : (x == ("__debug__" : Str)) = false := by decide) (he : starEach (e :: es) X.env = (false, eval e X.env) :: starEach es X.env := by rfl) (hpl : (backTo pos (starEach es X.env)).any (·.1) = false := by rfl) :
    PMk X (.Call (.Name x p) (e :: es) [] pos) (tMkO C sp dvs ta) := pmk_oex T.oex iC tI F1 hr hb hd hx hg hm ha hdb he hpl
end
end JgX
namespace JgX
open PySem PySem.W PySem.Calls PyProof.Rows PySem.Spec L2
/-! ### a tracked exception: isinstance, e.f -/
/-- what its class must have -/
structure XA (K : PySem.W.Frag) (C : Addr) : Prop where
  f : XfC K C
  cl : (clsIn K C).isSome = true
  ha : findIn K (.ref C) "__class__" = some (some (.builtin "object.__class__"))
  hn : specialIn K (.builtin "object.__class__") "__get__" = some (some (.builtin "getset_descriptor.__get__"))
  tk : takesIn K (.builtin "object.__class__") = some true
  hm : mroIn K C (.type "object") = some true
/-- a stands for an exception of the class at C with these fields -/
def Xe (H : Hp) (a C : Addr) (fs : List (Str × V)) : Prop := ∃ dx, H a = some (exo a C (some dx)) ∧ H dx = some (exd dx fs)
abbrev keptObj (C t1 dx : Addr) : Obj := { cls := .ref C, dict := some dx, data := .fields #[.ref t1, .none, .none, .none, .bool false, .none] }
/-- at a: an exception of the class at C, made with the text z -/
def Kx (H : Hp) (a C : Addr) (z : Str) : Prop := ∃ (t1 dx : Addr) (fs : List (Str × V)), H a = some (.frz (keptObj C t1 dx) (exo a C (some dx))) ∧ H dx = some (exd dx fs) ∧ H t1 = some (.tup [.str z])
/-- a stands for an exception of the class at C, made to be raised or kept -/
def Xin (H : Hp) (a C : Addr) : Prop := (∃ fs : List (Str × V), Xe H a C fs) ∨ ∃ z : Str, Kx H a C z
def rIsiX (K : PySem.W.Frag) : List V → Hp → VK → Prop := fun xs H Q => ∃ (a C : Addr) (c : V) (u : Value) (b : Bool), xs = [.ref a, c] ∧ ClsV c u ∧ Xin H a C ∧ XA K C ∧ kitOne K (.ref C) u = some b ∧ Q (.bl b) H
def rEith (r1 r2 : List V → Hp → VK → Prop) : List V → Hp → VK → Prop := fun xs H Q => r1 xs H Q ∨ r2 xs H Q
section
variable {X : Cx}
theorem call_eith {c : Value} {r1 r2 : List V → Hp → VK → Prop} (h1 : CallR X c r1) (h2 : CallR X c r2) : CallR X c (rEith r1 r2) := by
  intro pins s σ H xs us Q I r h
  rcases h with h | h
  · exact h1 pins s σ H xs us Q I r h
  · exact h2 pins s σ H xs us Q I r h
theorem Xe.inst {pins : List (Addr × Obj)} {σ : L2.St} {H : Hp} {s : Shared} {a C : Addr} {fs : List (Str × V)} (I : Inv X pins σ H s) (e : Xe H a C fs) : ∃ (oe od : Obj) (dx : Addr) (mA : Str → Option Value), InstAt s.heap a oe C (some od) ∧ (∃ vs, oe.data = .fields vs) ∧ oe.dict = some dx ∧ s.heap.Ns1 dx mA ∧ (∀ f, RelO (fs.lookup f) (mA f)) ∧ s.heap.get? dx = some od := by
  obtain ⟨dx, ea, ed⟩ := e
  obtain ⟨t1, ho⟩ := exo_at I.hok ea
  obtain ⟨mA, hns, rel⟩ := exd_at I.hok ed
  obtain ⟨od, hod, hl⟩ := lookIn_ns hns
  exact ⟨_, od, dx, mA, ⟨ho, rfl, rfl, hod⟩, ⟨_, rfl⟩, rfl, hns, rel, hod⟩
theorem Kx.inst {pins : List (Addr × Obj)} {σ : L2.St} {H : Hp} {s : Shared} {a C : Addr} {z : Str} (I : Inv X pins σ H s) (e : Kx H a C z) : ∃ (oe od : Obj), InstAt s.heap a oe C (some od) := by
  obtain ⟨t1, dx, fs, ea, ed, _⟩ := e
  have ho : s.heap.get? a = some (keptObj C t1 dx) := (I.hok a _ ea).1
  obtain ⟨mA, hns, rel⟩ := exd_at I.hok ed
  obtain ⟨od, hod, hl⟩ := lookIn_ns hns
  exact ⟨_, od, ho, rfl, rfl, hod⟩
theorem call_isiX : CallR X (.builtin "isinstance") (rIsiX X.K) := by
  intro pins s σ H xs us Q I r h
  obtain ⟨a, C, c, u, b, rfl, k, xe, T, e, q⟩ := h
  obtain ⟨u1, u2, rfl, r1, r2⟩ := vals2 r
  have e2 := k.eq r2
  subst e2
  cases (show u1 = Value.ref a from r1)
  have J : ∃ (oe od : Obj), InstAt s.heap a oe C (some od) := by
    rcases xe with ⟨fs, xe⟩ | ⟨z, xe⟩
    · obtain ⟨oe, od, dx, mA, J, _, _, _, _, _⟩ := xe.inst I
      exact ⟨oe, od, J⟩
    · exact xe.inst I
  obtain ⟨oe, od, J⟩ := J
  exact kia_one (kitx_exc T.cl T.f.ga T.f.gg T.f.exC T.ha T.hn T.tk T.hm) I.kIn J e (fun z => nomatch z) fun tk => ⟨.bl b, H, I.tok tk, rfl, q⟩
/-- isinstance of data or of an exception -/
theorem call_isiE {K : PySem.W.Frag} (hK : X.K = K := by rfl) : CallR X (.builtin "isinstance") (rEith (rIsi K) (rIsiX K)) := by
  subst hK
  exact call_eith call_isi call_isiX
/-- e.f of such -/
def tXg (K : PySem.W.Frag) (f : Str) (te : TE) : TE := fun σ H Q => te σ H fun x H1 => ∃ (a C : Addr) (fs : List (Str × V)) (v : V), x = .ref a ∧ Xe H1 a C fs ∧ XfC K C ∧ findIn K (.ref C) f = some none ∧ fs.lookup f = some v ∧ Q v H1
theorem pe_xg {K : PySem.W.Frag} {e : Expr} {te : TE} {pos : Pos} {n : Str} (he : PE X e te) (hb : attributeBase e n X.env (eval e X.env) = eval e X.env := by rfl) (hK : X.K = K := by rfl) : PE X (.Attribute e n pos) (tXg K n te) := by
  subst hK
  refine ⟨fun pins s σ H Q I h => ?_⟩
  refine attr_of hb (thn (he.run pins s σ H _ I h) fun u s1 hh => ?_)
  obtain ⟨x, H1, I1, rx, a, C, fs, v, ex, xe, T, hno, l, q⟩ := hh
  subst ex
  obtain rfl : u = Value.ref a := rx
  obtain ⟨oe, od, dx, mA, J, _, hdict, hns, rel, hod⟩ := xe.inst I1
  obtain ⟨od', ho', hl⟩ := lookIn_ns hns
  obtain rfl : od' = od := Option.some.inj (ho'.symm.trans hod)
  obtain ⟨u, hu, ru⟩ := RelO.some_of (v := v) (o := mA n) (by rw [← l]; exact rel n)
  exact HandSPX.exc_get I1.kIn J T.ga T.gg T.exC (findObj_own T.hdC hno rfl (by rw [hl, hu])) (handed_of ru) ⟨v, H1, I1.tok _, ru, q⟩
end

/-! ### facts of a class, from the text and from the written part -/
/-- what the text of such an __init__ is -/
structure XSt (st : Stmt) (f par : Str) : Prop where
  ex : ∃ (text : Str) (j : Nat) (p0 p1 p2 p3 p4 p5 p6 p7 p8 : Pos), defBody st = xBody text f par j p0 p1 p2 p3 p4 p5 p6 p7 p8 ∧
    (∀ en : Env, ∃ pl : Sem Bool, eval (.Call (.Attribute (.Call (.Name "super" p0) [] [] p1) "__init__" p2) [.Constant (.str text) j p3] [] p4) en = (do
      let ov ← attributeBase (.Call (.Name "super" p0) [] [] p1) "__init__" en (eval (.Call (.Name "super" p0) [] [] p1) en)
      standAt p2.atName
      let (f, first) ← holding [ov] (getMethod ov "__init__" pl)
      callWith p4 f first (backTo p4 (starEach [.Constant (.str text) j p3] en)) [])) ∧
    (∀ en : Env, swapsWith (.Call (.Attribute (.Call (.Name "super" p0) [] [] p1) "__init__" p2) [.Constant (.str text) j p3] [] p4) none p4.line en = pure false) ∧
    (∀ env : Env, swapsWith (.Name par p7) (some (.Attribute (.Name "self" p5) f p6)) p8.line env = pure false)
  ks : (defScope st).names.lookup ("super" : Str) = some .globalImplicit
  kc : (defScope st).names.lookup ("__class__" : Str) = some .free
  kself : (defScope st).names.lookup ("self" : Str) = some .local
  kpar : (defScope st).names.lookup par = some .local
  kind : (defScope st).kind = .function
  cell : ∀ x ∈ (defScope st).names, x.2 ≠ .cell
  co : (defScope st).isCoroutine = false
  gen : (defScope st).isGenerator = false
  par0 : ∃ ar, ((defArgs st).posonlyargs ++ (defArgs st).args).head? = some ar ∧ ar.arg = ("self" : Str)
  ps : par ≠ ("self" : Str)
  pd : (par == ("__debug__" : Str)) = false
theorem xc_mk {K : Frag} {C N : Addr} {B newId i : String} {bmB bs bm sub : List Value} {nm q : Str} {sn : List Str} {ab : Bool} {col : Option Bool} {dd : Option Addr} {k0 k1 k2 k3 k5 : Option Value}
    (l : K.lookup C = some (excClassObj nm q C N bs bm true sn sub ab col dd k0 k1 k2 k3 k5 newId)) (t : excTail bmB bm = true) (sa : findIn K (.ref C) "__setattr__" = some (some (.builtin "object.__setattr__"))) (exC : subIn K (.ref C) (.type "BaseException") = some true)
    (tyC : typeIn K (.ref C) = some (.type "type")) (kC : keepIn K (.ref C) = true) (sup : ks_superIn K C C "__init__" = some (some (.builtin i))) (subB : subIn K (.ref C) (.type B) = some true) : XC K C B newId i bmB :=
  ⟨⟨nm, q, N, bs, bm, sn, sub, ab, col, dd, k0, k1, k2, k3, k5, l, t⟩, sa, exC, tyC, kC, sup, subB⟩
theorem xa_mk {K : Frag} {C : Addr} {o : Obj} {cd : ClassData} (ga : findIn K (.ref C) "__getattribute__" = some (some (.builtin "BaseException.__getattribute__"))) (gg : findIn K (.ref C) "__getattr__" = some none) (exC : subIn K (.ref C) (.type "BaseException") = some true) (hd : hasDictIn K C = true)
    (cl : clsIn K C = some cd) (ha : findIn K (.ref C) "__class__" = some (some (.builtin "object.__class__"))) (hn : specialIn K (.builtin "object.__class__") "__get__" = some (some (.builtin "getset_descriptor.__get__"))) (tk : takesIn K (.builtin "object.__class__") = some true)
    (hm : mroIn K C (.type "object") = some true) : XA K C := ⟨⟨ga, gg, exC, hd⟩, by rw [cl]; rfl, ha, hn, tk, hm⟩
theorem xfn_mk {P : Program} {K : Frag} {C fI cc cda : Addr} {nm qual : Str} {st : Stmt} {oc kV doc pm ct ccl cl : Value} {od an cdd cld : Option Addr} {osl ccs csl : Array (Option Value)} {vs : Array Value} {file : Str} {tf : Tok}
    (l : K.lookup fI = some ⟨oc, od, .func (ksFn nm qual (defArgs st) (defBody st) (defScope st) .none kV doc pm an (.ref cda) ct cc), osl⟩) (hcd : codeIn K (.ref cda) qual = true) (lcd : K.lookup cda = some ⟨ccl, cdd, .fields vs, ccs⟩) (hv2 : vs[2]? = some (.str file tf))
    (hfile : ((P.main.file : Str) == file) = true) (lcc : K.lookup cc = some ⟨cl, cld, .cell (some (.ref C)), csl⟩) (iC : findIn K (.ref C) "__init__" = some (some (.ref fI))) (tI : typeIn K (.ref fI) = some (.type "function")) :
    XFn P K C fI (ksFn nm qual (defArgs st) (defBody st) (defScope st) .none kV doc pm an (.ref cda) ct cc) qual (defArgs st) (defBody st) (defScope st) :=
  ⟨⟨nm, cc, cda, oc, kV, doc, pm, ct, ccl, cl, od, an, cdd, cld, osl, ccs, csl, vs, file, tf, rfl, l, hcd, lcd, hv2, hfile, lcc⟩, iC, tI⟩
theorem init_st {P : Program} {w : World} {K : Frag} {mg : Str → Option Value} {base : Heap} {CX : CXT} {k : Nat} {B newId i : String} {bmB : List Value} {C fI : Addr} {fd : FuncData} {qual f par : Str} {st : Stmt} (X : XBase B newId i bmB) (T : XC K C B newId i bmB)
    (S : XFn P K C fI fd qual (defArgs st) (defBody st) (defScope st)) (Z : XSt st f par) (nf : findIn K (.ref C) f = some none) (opq : nsIn K cStatics "thirdparty.any" = some none) (msup : mg "super" = none)
    (htop : (P.main.scope.names.lookup ("super" : Str)).isSome = false) : FnOk P w K mg base CX (k + 1) fI fd [("self" : Str), par] (xInit C f) := by
  obtain ⟨text, j, p0, p1, p2, p3, p4, p5, p6, p7, p8, eb, hev, hsx, hsw⟩ := Z.ex
  rw [eb] at S
  exact init_fn X T S nf opq msup htop Z.ks Z.kc Z.kself Z.kpar Z.kind Z.cell Z.co Z.gen Z.par0 Z.ps Z.pd hev hsx hsw
theorem XFn.binds {P : Program} {K : Frag} {C fI : Addr} {fd : FuncData} {qual : Str} {params : Arguments} {body : List Stmt} {scope : Scope} {ps : List Str} (S : XFn P K C fI fd qual params body scope)
    (h : ∀ (nm : Str) (cc cda : Addr) (kV doc pm ct : Value) (an : Option Addr) (us : List Value), us.length = ps.length → bindArgs (ksFn nm qual params body scope .none kV doc pm an (.ref cda) ct cc) ⟨us, []⟩ = pure (ps.zip us)) : Binds K fd ps [] := by
  obtain ⟨nm, cc, cda, oc, kV, doc, pm, ct, ccl, cl, od, an, cdd, cld, osl, ccs, csl, vs, file, tf, rfl, _⟩ := S.ex
  exact .all (h nm cc cda kV doc pm ct an)
theorem g_mkO {C : Addr} {sp : Sp} {dvs : List V} {σ : L2.St} {H : Hp} {Q : XK} {ta : TA} (q : ta σ H fun vs H1 => vs.length ≤ 1000 ∧ ∀ a, H1 a = none → sp (.ref a :: (vs ++ dvs)) (upd H1 a (exo a C none))
    (fun v H2 => v = .non ∧ ∃ (d : Addr) (fs : List (Str × V)), H2 a = some (exo a C (some d)) ∧ H2 d = some (exd d fs) ∧ H1 d = none ∧ Q (.ref C) (some d) (upd (del H2 a) d (.xd fs))) (fun _ _ _ => False)) : tMkO C sp dvs ta σ H Q := q
/-- raise C(v) read: the dict that the exception gets is new -/
theorem g_mkX {C : Addr} {f : Str} {y : V} {H1 : Hp} {Q : XK} (q : ∀ dx, H1 dx = none → Q (.ref C) (some dx) (upd H1 dx (.xd [(f, y)]))) : [y].length ≤ 1000 ∧ ∀ a, H1 a = none → xInit C f (.ref a :: ([y] ++ [])) (upd H1 a (exo a C none))
    (fun v H2 => v = .non ∧ ∃ (d : Addr) (fs : List (Str × V)), H2 a = some (exo a C (some d)) ∧ H2 d = some (exd d fs) ∧ H1 d = none ∧ Q (.ref C) (some d) (upd (del H2 a) d (.xd fs))) (fun _ _ _ => False) := by
  refine ⟨by simp, fun a ha => ⟨a, y, rfl, upd_same, fun dx hd hne => ⟨rfl, dx, [(f, y)], upd_same, ?_, ?_, ?_⟩⟩⟩
  · rw [upd_ne hne, upd_same]
  · rw [upd_ne hne] at hd
    exact hd
  · rw [upd_ne hne] at hd
    have e : upd (del (upd (upd (upd H1 a (exo a C none)) dx (exd dx [(f, y)])) a (exo a C (some dx))) a) dx (.xd [(f, y)]) = upd H1 dx (.xd [(f, y)]) := by
      funext b
      by_cases h1 : b = dx
      · rw [h1, upd_same, upd_same]
      · rw [upd_ne h1, upd_ne h1]
        by_cases h2 : b = a
        · rw [h2, del_same, ha]
        · rw [del_ne h2, upd_ne h2, upd_ne h1, upd_ne h2]
    rw [e]
    exact q dx hd
end JgX
namespace Jg
open PySem PySem.Spec L2 JgX
/-! ### things of any kind, by what isinstance tells of them -/
def Isi (K : PySem.W.Frag) (H : Hp) (v : V) (T : String) (b : Bool) : Prop := ∀ Q : VK, Q (.bl b) H → rEith (rIsi K) (rIsiX K) [v, .ty T] H Q
section
variable {K : PySem.W.Frag} {H : Hp} {v : V} {T ty : String} {b : Bool} {Q : VK}
theorem Isi.of (h : TyX K H v (.type ty)) (k : kitB ty T = some b) : Isi K H v T b := fun Q q => Or.inl ⟨v, .ty T, .type ty, .type T, b, rfl, .ty T, h, kit_ty k, q⟩
theorem Isi.exc {a C : Addr} (e : Xin H a C) (x : XA K C) (k : PySem.W.kitOne K (.ref C) (.type T) = some b) : Isi K H (.ref a) T b := fun Q q => Or.inr ⟨a, C, .ty T, .type T, b, rfl, .ty T, e, x, k, q⟩
theorem g_isiE (h : Isi K H v T b) (q : Q (.bl b) H) : rEith (rIsi K) (rIsiX K) [v, .ty T] H Q := h Q q
theorem isi_s (z : Str) : Isi K H (.str z) "str" true := .of (.base (.str z)) (by decide +kernel)
theorem isi_si (z : Str) : Isi K H (.str z) "int" false := .of (.base (.str z)) (by decide +kernel)
theorem isi_i (z : Int) : Isi K H (.int z) "int" true := .of (.base (.int z)) (by decide +kernel)
theorem isi_ib (z : Int) : Isi K H (.int z) "bool" false := .of (.base (.int z)) (by decide +kernel)
theorem isi_b (z : Bool) : Isi K H (.bl z) "int" true := .of (.base (.bl z)) (by decide +kernel)
theorem isi_bb (z : Bool) : Isi K H (.bl z) "bool" true := .of (.base (.bl z)) (by decide +kernel)
end
/-- a thing: a number that isn't a truth, or none -/
def IsW (K : PySem.W.Frag) (H : Hp) (v : V) : Option Int → Prop
  | some i => v = .int i
  | none => (∃ b, v = .bl b) ∨ Isi K H v "int" false
/-- a thing: a text of at most n signs, or none -/
def IsS (K : PySem.W.Frag) (H : Hp) (n : Nat) (v : V) : Option Str → Prop
  | some z => v = .str z ∧ Sg z n
  | none => Isi K H v "str" false
/-- [f c for c in text] -/
theorem lc_strP {σ : L2.St} {H : Hp} {Q : VK} {te : TE} {i : Nat} {z : Str} (f : Nat → V) (hn : z.cps.size < sizeLine) (wv : ∀ x, wipe ((wipe σ [i]).set i (some x)) [i] = wipe σ [i])
    (hs : ∀ c ∈ z.cps.toList, ∀ (H2 : Hp) (R : VK), Same H H2 → R (f c) H2 → te ((wipe σ [i]).set i (some (.str ⟨#[c]⟩))) H2 R)
    (q : ∀ D, H D = none → Q (.ref D) (upd H D (.lst (z.cps.toList.map f)))) : lcB (gName i) tYes te [i] σ Q (Its z) H := by
  intro D hD
  refine lc_it (n := z.cps.size) walk_str (fun j H2 => H2 = upd H D (.lst ((z.cps.toList.take j).map f))) (by rw [List.take_zero, List.map_nil]) (fun _ _ _ _ => trivial) ?_ ?_
  · rintro j x H2 H3 hj rfl ⟨rfl, c, hc, rfl⟩
    have hc2 : z.cps.toList[j]? = some c := by simpa using hc
    refine ⟨wv _, ?_⟩
    with_reducible refine g_tyes ?_
    with_reducible refine g_true ?_
    refine hs c (List.mem_of_getElem? hc2) _ _ (fun b o e => by rw [upd_ne (ne_of_none e hD)]; exact e) ?_
    refine ⟨_, upd_same, ?_, ?_⟩
    · rw [List.length_map]
      exact Nat.lt_of_le_of_lt (List.length_take_le' _ _) (by rw [Array.length_toList]; exact hn)
    · rw [upd_upd, List.take_add_one, hc2, List.map_append]
      rfl
  · rintro H2 rfl
    rw [← Array.length_toList, List.take_length]
    exact q D hD
/-! ### plain numbers -/
def digit (c : Nat) : Bool := decide (48 ≤ c) && decide (c ≤ 57)
def plainT (z : Str) : Bool := decide (1 ≤ (TL.tl z).length) && decide ((TL.tl z).length ≤ 30) && (TL.tl z).all digit && (decide ((TL.tl z).head? ≠ some 48) || decide ((TL.tl z).length = 1))
def plainO : Option Str → Bool
  | some z => plainT z
  | none => false
def numT (z : Str) : Int := (NumText.digitsVal (TL.tl z) : Nat)
def numO (o : Option Str) (lo hi : Int) : Option Int := o.bind fun z => if plainT z = true then (if lo ≤ numT z ∧ numT z ≤ hi then some (numT z) else none) else none
def numV : Option Int → V
  | some i => .int i
  | none => .non
theorem figs (c : Nat) : decide (c ∈ (Str.ofString "0123456789").cps.toList) = digit c := by
  have : (Str.ofString "0123456789").cps.toList = [48, 49, 50, 51, 52, 53, 54, 55, 56, 57] := by decide +kernel
  rw [this]
  unfold digit
  rw [Bool.eq_iff_iff]
  simp only [List.mem_cons, List.not_mem_nil, or_false, decide_eq_true_eq, Bool.and_eq_true]
  omega
/-! ### a module's constants -/
theorem pe_globS {X : Cx} {x : Str} {z : Str} {pos : Pos} (hg : Gl X x) (h : ∃ t, X.mg x = some (.str z t)) (hd : (x == ("__debug__" : Str)) = false := by decide) : PE X (.Name x pos) (tC (.str z)) := by
  obtain ⟨t, e⟩ := h
  exact pe_glob hg e ⟨t, rfl⟩ hd
theorem pe_globI {X : Cx} {x : Str} {z : Int} {pos : Pos} (hg : Gl X x) (h : ∃ t, X.mg x = some (.int z t)) (hd : (x == ("__debug__" : Str)) = false := by decide) : PE X (.Name x pos) (tC (.int z)) := by
  obtain ⟨t, e⟩ := h
  exact pe_glob hg e ⟨t, rfl⟩ hd
theorem g_chain {r r' : R2} {ta tb tc : TE} {σ : L2.St} {H : Hp} {Q : VK} (q : ta σ H fun x H1 => tb σ H1 fun y H2 => r x y H2 fun z H3 => ∃ k, z = .bl k ∧ (if k = true then tc σ H3 fun w' H4 => r' y w' H4 Q else Q (.bl false) H3)) : tChain r r' ta tb tc σ H Q := q
def wholeB (lo hi : Int) : Option Int → Bool
  | some i => decide (lo ≤ i ∧ i ≤ hi)
  | none => false
theorem g_ntwo {c A B : Prop} [Decidable c] (h1 : c → B) (h2 : ¬ c → A) : if (!decide c) = true then A else B := by
  by_cases h : c
  · rw [decide_eq_true h]
    exact g_nt (h1 h)
  · rw [decide_eq_false h]
    exact g_nf (h2 h)
def rIntS : List V → Hp → VK → Prop := fun xs H Q => ∃ a n, xs = [.str a] ∧ PySem.intText? a = some n ∧ a.length ≤ 640 ∧ Q (.int n) H
theorem call_intS {X : Cx} : CallR X (.type "int") rIntS := call_int_str
theorem plain_num {z : Str} (h : plainT z = true) : PySem.intText? z = some (numT z) ∧ z.length ≤ 30 ∧ 1 ≤ z.length ∧ (TL.tl z).all digit = true := by
  unfold plainT at h
  rw [Bool.and_eq_true, Bool.and_eq_true, Bool.and_eq_true, decide_eq_true_eq, decide_eq_true_eq] at h
  obtain ⟨⟨⟨h1, h2⟩, h3⟩, _⟩ := h
  rw [TL.len_tl]
  refine ⟨PySem.intText_digits (x := z) (fun c hc => ?_) (fun e => ?_) (by rw [TL.len_tl]; omega), h2, h1, h3⟩
  · have z9 := List.all_eq_true.mp h3 c hc
    unfold digit at z9
    rw [Bool.and_eq_true, decide_eq_true_eq, decide_eq_true_eq] at z9
    exact z9
  · have : (TL.tl z).length = 0 := by
      rw [show TL.tl z = [] from e]
      rfl
    omega
theorem g_intS {z : Str} {H : Hp} {Q : VK} (h : plainT z = true) (q : Q (.int (numT z)) H) : rIntS [.str z] H Q := ⟨z, numT z, rfl, (plain_num h).1, Nat.le_trans (plain_num h).2.1 (by decide), q⟩
theorem g_callN {n m : Nat} {sp : Sp} {gV : List V → List V → List V} {E : XK} {t tk : TA} {σ : L2.St} {H : Hp} {Q : VK} (q : t σ H fun vs H1 => tk σ H1 fun zs H2 => vs.length = n ∧ zs.length = m ∧ sp (gV vs zs) H2 Q E) : tCallN n m sp gV E t tk σ H Q := q
theorem numV_some (o : Option Int) : (!decide (numV o = .non)) = o.isSome := by cases o <;> simp [numV]
theorem at_head {z : Str} {c : Nat} {r : List Nat} (h : TL.tl z = c :: r) : atI z.cps.toList 0 = some c := by
  show atI (TL.tl z) 0 = some c
  rw [h]
  unfold atI ixN
  rw [if_pos (by decide), if_pos (by rw [List.length_cons]; omega)]
  rfl
theorem tl_cons {z : Str} (h : 1 ≤ z.length) : ∃ c r, TL.tl z = c :: r := by
  rw [TL.len_tl] at h
  cases h9 : TL.tl z with
  | nil => rw [h9] at h; simp at h
  | cons c r => exact ⟨c, r, rfl⟩
theorem int_one (n : Nat) : decide (V.int (n : Int) = V.int 1) = decide (n = 1) := by
  rw [Bool.eq_iff_iff, decide_eq_true_eq, decide_eq_true_eq]
  constructor
  · intro h
    have h7 := V.int.inj h
    omega
  · intro h
    rw [h]
    rfl
/-! ### texts and what is none, standing through changes elsewhere -/
/-- a thing that is no text, by its class -/
def NoS (H : Hp) (v : V) : Prop := v = .non ∨ (∃ b, v = .bl b) ∨ (∃ i, v = .int i) ∨ ∃ q, v = .ref q ∧ ((∃ xs, H q = some (.lst xs)) ∨ (∃ xs, H q = some (.tup xs)) ∨ ∃ kvs, H q = some (.dK kvs))
/-- what a thing is: a text, or none -/
def IsT (H : Hp) (v : V) : Option Str → Prop
  | some z => v = .str z ∧ Sg z 2000
  | none => NoS H v
theorem NoS.isi {K : PySem.W.Frag} {H : Hp} {v : V} (h : NoS H v) : ∃ ty, TyX K H v (.type ty) ∧ PySem.W.kitOne K (.type ty) (.type "str") = some false := by
  rcases h with rfl | ⟨b, rfl⟩ | ⟨i, rfl⟩ | ⟨q, rfl, ⟨xs, e⟩ | ⟨xs, e⟩ | ⟨xs, e⟩⟩
  · exact ⟨_, .base .non, kit_ty (by decide +kernel)⟩
  · exact ⟨_, .base (.bl b), kit_ty (by decide +kernel)⟩
  · exact ⟨_, .base (.int i), kit_ty (by decide +kernel)⟩
  · exact ⟨_, .base (.lst e), kit_ty (by decide +kernel)⟩
  · exact ⟨_, .base (.tup e), kit_ty (by decide +kernel)⟩
  · exact ⟨_, .base (.dK e), kit_ty (by decide +kernel)⟩
theorem NoS.same {H H' : Hp} {v : V} (h : NoS H v) (s : Same H H') : NoS H' v := by
  rcases h with h | h | h | ⟨q, e, ⟨xs, h⟩ | ⟨xs, h⟩ | ⟨xs, h⟩⟩
  · exact Or.inl h
  · exact Or.inr (Or.inl h)
  · exact Or.inr (Or.inr (Or.inl h))
  · exact Or.inr (Or.inr (Or.inr ⟨q, e, Or.inl ⟨xs, s _ _ h⟩⟩))
  · exact Or.inr (Or.inr (Or.inr ⟨q, e, Or.inr (Or.inl ⟨xs, s _ _ h⟩)⟩))
  · exact Or.inr (Or.inr (Or.inr ⟨q, e, Or.inr (Or.inr ⟨xs, s _ _ h⟩)⟩))
theorem IsT.same {H H' : Hp} {v : V} {o : Option Str} (h : IsT H v o) (s : Same H H') : IsT H' v o := by
  cases o with
  | some z => exact h
  | none => exact NoS.same h s
theorem isi_str {K : PySem.W.Frag} {H : Hp} (z : Str) : TyX K H (.str z) (.type "str") ∧ PySem.W.kitOne K (.type "str") (.type "str") = some true := ⟨.base (.str z), kit_ty (by decide +kernel)⟩
theorem IsT.mv {p : Addr} {H H' : Hp} {v : V} {o : Option Str} (h : IsT H v o) (hp : ∀ q, v = .ref q → q ≠ p) (m : Mv p H H') : IsT H' v o := by
  cases o with
  | some z => exact h
  | none =>
    rcases h with h | h | h | ⟨q, e, ⟨xs, h⟩ | ⟨xs, h⟩ | ⟨xs, h⟩⟩
    · exact Or.inl h
    · exact Or.inr (Or.inl h)
    · exact Or.inr (Or.inr (Or.inl h))
    · exact Or.inr (Or.inr (Or.inr ⟨q, e, Or.inl ⟨xs, m _ _ (hp q e) h⟩⟩))
    · exact Or.inr (Or.inr (Or.inr ⟨q, e, Or.inr (Or.inl ⟨xs, m _ _ (hp q e) h⟩)⟩))
    · exact Or.inr (Or.inr (Or.inr ⟨q, e, Or.inr (Or.inr ⟨xs, m _ _ (hp q e) h⟩)⟩))
theorem IsT.iss {K : PySem.W.Frag} {H : Hp} {v : V} {o : Option Str} (h : IsT H v o) : IsS K H 2000 v o := by
  cases o with
  | some z => exact h
  | none =>
    obtain ⟨ty, h1, h2⟩ := NoS.isi (K := K) h
    exact fun Q q => Or.inl ⟨v, .ty "str", .type ty, .type "str", false, rfl, .ty "str", h1, h2, q⟩
def rSIdx : V → List V → Hp → VK → Prop := fun x xs H Q => ∃ a b i rest, x = .str a ∧ xs = [.str b] ∧ Builtin.Str.occurrences a b 0 a.length 1 = i :: rest ∧ Q (.int (i : Nat)) H
theorem mt_sidx {X : Cx} : MtR X "str.index" rSIdx := mt_sindex
theorem fig_at : ∀ c : Fin 58, 48 ≤ (c : Nat) → ∃ rest, Builtin.Str.occurrences (Str.ofString "0123456789") ⟨#[(c : Nat)]⟩ 0 (Str.ofString "0123456789").length 1 = ((c : Nat) - 48) :: rest := by
  have h : ∀ c : Fin 58, 48 ≤ (c : Nat) → (Builtin.Str.occurrences (Str.ofString "0123456789") ⟨#[(c : Nat)]⟩ 0 (Str.ofString "0123456789").length 1).head? = some ((c : Nat) - 48) := by decide +kernel
  intro c hc
  have e := h c hc
  cases q : Builtin.Str.occurrences (Str.ofString "0123456789") ⟨#[(c : Nat)]⟩ 0 (Str.ofString "0123456789").length 1 with
  | nil => rw [q] at e; cases e
  | cons x r => rw [q] at e; exact ⟨r, by rw [Option.some.inj e]⟩
theorem g_sidx {c : Nat} {H : Hp} {Q : VK} (h : digit c = true) (q : Q (.int ((c - 48 : Nat) : Int)) H) : rSIdx (.str (Str.ofString "0123456789")) [.str ⟨#[c]⟩] H Q := by
  unfold digit at h
  rw [Bool.and_eq_true, decide_eq_true_eq, decide_eq_true_eq] at h
  obtain ⟨r, e⟩ := fig_at ⟨c, by omega⟩ h.1
  exact ⟨_, _, c - 48, r, rfl, rfl, e, q⟩
theorem g_notInC {H : Hp} {Q : VK} {c : Nat} {x z : Str} (e : x = ⟨#[c]⟩) (q : Q (.bl (!decide (c ∈ z.cps.toList))) H) : rNotInS (.str x) (.str z) H Q := ⟨c, z, by rw [e], rfl, q⟩
/-- [f c for c in text if p c] -/
theorem lc_strF {σ : L2.St} {H : Hp} {Q : VK} {te : TE} {tt : TT} {i : Nat} {z : Str} (p : Nat → Bool) (f : Nat → V) (hn : z.cps.size < sizeLine) (wv : ∀ x, wipe ((wipe σ [i]).set i (some x)) [i] = wipe σ [i])
    (hp : ∀ c ∈ z.cps.toList, ∀ (H2 : Hp) (B : Bool → Hp → Prop), Same H H2 → B (p c) H2 → tt ((wipe σ [i]).set i (some (.str ⟨#[c]⟩))) H2 B)
    (hs : ∀ c ∈ z.cps.toList, ∀ (H2 : Hp) (R : VK), Same H H2 → R (f c) H2 → te ((wipe σ [i]).set i (some (.str ⟨#[c]⟩))) H2 R)
    (q : ∀ D, H D = none → Q (.ref D) (upd H D (.lst ((z.cps.toList.filter p).map f)))) : lcB (gName i) tt te [i] σ Q (Its z) H := by
  intro D hD
  refine lc_it (n := z.cps.size) walk_str (fun j H2 => H2 = upd H D (.lst (((z.cps.toList.take j).filter p).map f))) (by rw [List.take_zero, List.filter_nil, List.map_nil]) (fun _ _ _ _ => trivial) ?_ ?_
  · rintro j x H2 H3 hj rfl ⟨rfl, c, hc, rfl⟩
    have hc2 : z.cps.toList[j]? = some c := by simpa using hc
    have sm : Same H (upd H D (.lst (((z.cps.toList.take j).filter p).map f))) := fun b o e => by rw [upd_ne (ne_of_none e hD)]; exact e
    have mem := List.mem_of_getElem? hc2
    have step : (z.cps.toList.take (j + 1)).filter p = (z.cps.toList.take j).filter p ++ (if p c = true then [c] else []) := by
      rw [List.take_add_one, hc2, List.filter_append]
      congr 1
      cases hq : p c with
      | true => simp [hq]
      | false => simp [hq]
    refine ⟨wv _, ?_⟩
    refine hp c mem _ _ sm ?_
    by_cases hq : p c = true
    · rw [if_pos hq]
      refine hs c mem _ _ sm ?_
      refine ⟨_, upd_same, ?_, ?_⟩
      · rw [List.length_map]
        exact Nat.lt_of_le_of_lt (Nat.le_trans (List.length_filter_le _ _) (List.length_take_le' _ _)) (by rw [Array.length_toList]; exact hn)
      · rw [upd_upd, step, if_pos hq, List.map_append]
        rfl
    · rw [if_neg hq, step, if_neg hq, List.append_nil]
  · rintro H2 rfl
    rw [← Array.length_toList, List.take_length]
    exact q D hD
theorem dp_texts (K : PySem.W.Frag) (H : Hp) : ∀ ys : List Str, DpAll K H (ys.map V.str) (ys.map .str)
  | [] => .nil
  | y :: ys => .cons (.str y) (dp_texts K H ys)
theorem can_texts : ∀ {ys : List Str}, (∀ y ∈ ys, PyData.strOk y = true) → PyData.canLayAll0 (ys.map .str) = true ∧ PyData.depthAll (ys.map .str) = 0
  | [], _ => ⟨rfl, rfl⟩
  | y :: ys, h => by
    obtain ⟨h1, h2⟩ := can_texts (ys := ys) fun x hx => h x (List.mem_cons_of_mem _ hx)
    refine ⟨?_, ?_⟩
    · simp [PyData.canLayAll0, PyData.canLay0, h1, h y List.mem_cons_self]
    · simp [PyData.depthAll, PyData.depth, h2]
theorem shaped_texts {ys : List Str} (h : ∀ y ∈ ys, PyData.strOk y = true) : SeqAt.shaped (.list (ys.map .str)) = true := by
  obtain ⟨h1, h2⟩ := can_texts h
  unfold SeqAt.shaped
  simp [PyData.canLay0, PyData.depth, h1, h2]
/-- a list of texts isn't the empty one -/
theorem g_some {K : PySem.W.Frag} {H : Hp} {Q : VK} {p q : Addr} {ys : List Str} (h1 : H p = some (.lst (ys.map V.str))) (h2 : H q = some (.lst [])) (ok : ∀ y ∈ ys, PyData.strOk y = true) (r : Q (.bl (!ys.isEmpty)) H) : rNeD K (.ref p) (.ref q) H Q := by
  refine ⟨.list (ys.map .str), .list [], .lst (Or.inl (Or.inl h1)) (dp_texts K H ys), .lst (Or.inl (Or.inl h2)) .nil, shaped_texts ok, rfl, ?_⟩
  cases ys with
  | nil => exact r
  | cons y ys => exact r
theorem g_two2 {c A B : Prop} [Decidable c] (h2 : B) (h1 : B → c → A) : if decide c = true then A else B := g_two (h1 h2) (fun _ => h2)
theorem digits_snoc (l : List Nat) (c : Nat) : NumText.digitsVal (l ++ [c]) = NumText.digitsVal l * 10 + (c - 48) := by
  unfold NumText.digitsVal
  rw [List.foldl_append]
  rfl
theorem zero_only {z : Str} {r : List Nat} (h : TL.tl z = 48 :: r) : z = Str.ofString "0" ↔ z.length = 1 := by
  have e0 : TL.tl (Str.ofString "0") = [48] := by decide +kernel
  rw [TL.len_tl, h]
  constructor
  · intro e
    rw [e, e0] at h
    rw [← h]
    rfl
  · intro e
    have : r = [] := by
      cases r with
      | nil => rfl
      | cons x y => simp at e
    rw [this, ← e0] at h
    exact TL.ext_tl h
theorem digits_fold : ∀ (l : List Nat) (acc : Nat), l.all digit = true → l.foldl (fun a c => a * 10 + (c - 48)) acc + 1 ≤ (acc + 1) * 10 ^ l.length
  | [], acc, _ => by simp
  | c :: r, acc, h => by
    rw [List.all_cons, Bool.and_eq_true] at h
    obtain ⟨hc, hr⟩ := h
    unfold digit at hc
    rw [Bool.and_eq_true, decide_eq_true_eq, decide_eq_true_eq] at hc
    have ih := digits_fold r (acc * 10 + (c - 48)) hr
    have le : acc * 10 + (c - 48) + 1 ≤ (acc + 1) * 10 := by omega
    have := Nat.mul_le_mul_right (10 ^ r.length) le
    rw [List.foldl_cons, List.length_cons, Nat.pow_succ]
    have e : (acc + 1) * 10 * 10 ^ r.length = (acc + 1) * (10 ^ r.length * 10) := by rw [Nat.mul_assoc, Nat.mul_comm 10]
    omega
theorem digits_lt {l : List Nat} (h : l.all digit = true) : NumText.digitsVal l < 10 ^ l.length := by
  have := digits_fold l 0 h
  unfold NumText.digitsVal
  simp at this
  omega
theorem digits_take {l : List Nat} (h : l.all digit = true) (n : l.length ≤ 30) (i : Nat) : NumText.digitsVal (l.take i) < 1000000000000000000000000000000 := by
  have a : (l.take i).all digit = true := by
    rw [List.all_eq_true] at h ⊢
    exact fun x hx => h x (List.mem_of_mem_take hx)
  have b := digits_lt a
  have c : 10 ^ (l.take i).length ≤ 10 ^ 30 := Nat.pow_le_pow_right (by decide) (Nat.le_trans (List.length_take_le' _ _) n)
  have d : (10 : Nat) ^ 30 = 1000000000000000000000000000000 := by decide
  omega
theorem g_BM0 {K : PySem.W.Frag} {T : String} {r : V → List V → Hp → VK → Prop} {ta : TE} {σ : L2.St} {H : Hp} {Q : VK} (q : ta σ H fun x H1 => tyV K T x H1 ∧ r x [] H1 Q) : tBM0 K T r ta σ H Q := q
/-- f(k = v, ..): keywords alone -/
theorem pe_callN0 {X : Cx} {CX : CXT} {k : Nat} {f : Addr} {fd : FuncData} {ps ks : List Str} {sp : Sp} {E : XK} {x : Str} {p pos : Pos} {kws : List Keyword} {tk : TA} {g : List Value → List Value → List Value} {gV : List V → List V → List V}
    (F : FnOk X.prog X.w X.K X.mg X.base CX k f fd ps sp) (room : Room k X.A) (hg : Gl X x) (hm : X.mg x = some (.ref f)) (hk : PySem.W.keepIn X.K (.ref f) = true) (hb : KBn X.K fd ps 0 ks g gV) (hx : Passes CX X E) (words : PK X kws tk)
    (named : (backToKw pos (keywordEach kws X.env)).all (·.1.isSome) = true := by rfl) (hks : (backToKw pos (keywordEach kws X.env)).filterMap (·.1) = ks := by rfl) (hdb : (x == ("__debug__" : Str)) = false := by decide)
    (plain : ((backTo pos (starEach [] X.env)).any (·.1) || (backToKw pos (keywordEach kws X.env)).any (·.1.isNone)) = false := by rfl) : PE X (.Call (.Name x p) [] kws pos) (tCallN 0 ks.length sp gV E tNil tk) := by
  constructor
  intro pins s σ H Q I want
  refine wpAny_Call_Name_kw (ld_glob I hg hm ?_ hdb)
  refine PySem.W.callWith_KW0 (h₀ := X.base) I.ok.mod.kin hk named ?_ plain
  have told := words.run pos pins s σ H _ I want
  refine thn told ?_
  rintro ws s1 ⟨zs, H1, I1, rel, _, many, q⟩
  refine ⟨I1.kIn, ?_⟩
  rw [hks]
  exact run_fnN (us := []) (vs := []) F room hb hx I1 .nil rel rfl many q
end Jg
namespace Jg
open PySem PySem.Spec L2
/-! ### strip(marks): nothing is left just of a text of these alone -/
theorem strip_rest (g : Nat → Bool) (l : List Nat) : l.length - ((l.drop (l.takeWhile g).length).reverse.takeWhile g).length ≤ (l.takeWhile g).length ↔ l.all g = true := by
  have hd : l.drop (l.takeWhile g).length = l.dropWhile g := by
    conv => lhs; arg 2; rw [← List.takeWhile_append_dropWhile (p := g) (l := l)]
    rw [List.drop_left]
  have hl : (l.takeWhile g).length + (l.dropWhile g).length = l.length := by
    rw [← List.length_append, List.takeWhile_append_dropWhile]
  rw [hd]
  cases e : l.dropWhile g with
  | nil =>
    rw [e] at hl
    have ha : l.all g = true := by
      have := List.takeWhile_append_dropWhile (p := g) (l := l)
      rw [e, List.append_nil] at this
      rw [← this]
      exact List.all_takeWhile
    rw [ha]
    simp at hl ⊢
    omega
  | cons c r =>
    have hc : g c = false := by
      have := List.head?_dropWhile_not g l
      rw [e] at this
      simpa using this
    have hall : l.all g = false := by
      rw [List.all_eq_false]
      exact ⟨c, by
        have : c ∈ l.dropWhile g := by rw [e]; exact List.mem_cons_self
        exact (List.dropWhile_sublist g).subset this, by rw [hc]; decide⟩
    rw [hall]
    rw [e] at hl
    have hk : (((c :: r).reverse).takeWhile g).length ≤ r.length := by
      rw [List.reverse_cons, List.takeWhile_append]
      split
      · rw [List.length_append, List.length_reverse]
        simp [List.takeWhile, hc]
      · have := (List.takeWhile_sublist g (l := r.reverse)).length_le
        rw [List.length_reverse] at this
        exact this
    rw [List.length_cons] at hl
    constructor
    · intro h
      omega
    · intro h
      cases h
theorem strip_none (z m : Str) : (Txt.stripChars z m).cps.size = 0 ↔ ((TL.tl z).all fun c => decide (c ∈ m.cps.toList)) = true := by
  have eg : (fun c => m.cps.contains c) = fun c => decide (c ∈ m.cps.toList) := by
    funext c
    rw [Bool.eq_iff_iff]
    simp
  have h := strip_rest (fun c => m.cps.contains c) z.cps.toList
  rw [show (TL.tl z).all (fun c => decide (c ∈ m.cps.toList)) = z.cps.toList.all (fun c => m.cps.contains c) by rw [eg], ← h]
  show (Txt.stripBy m.cps.contains true true z).cps.size = 0 ↔ _
  rw [PySem.W.stripBy_eq]
  show (z.cps.extract _ _).size = 0 ↔ _
  rw [Array.size_extract]
  show min (z.length - _) z.cps.size - (z.cps.toList.takeWhile _).length = 0 ↔ _
  have e1 : z.length = z.cps.toList.length := by rw [Array.length_toList]; rfl
  rw [e1]
  have : (z.cps.toList.takeWhile m.cps.contains).length ≤ z.cps.toList.length := (List.takeWhile_sublist _).length_le
  have e2 : z.cps.size = z.cps.toList.length := by rw [Array.length_toList]
  rw [e2]
  show min (z.cps.toList.length - ((z.cps.toList.drop (z.cps.toList.takeWhile m.cps.contains).length).reverse.takeWhile m.cps.contains).length) z.cps.toList.length - (z.cps.toList.takeWhile m.cps.contains).length = 0 ↔ z.cps.toList.length - ((z.cps.toList.drop (z.cps.toList.takeWhile m.cps.contains).length).reverse.takeWhile m.cps.contains).length ≤ (z.cps.toList.takeWhile m.cps.contains).length
  omega
theorem strip_eq {z m e : Str} (he : e.cps.size = 0) : (Txt.stripChars z m == e) = (TL.tl z).all fun c => decide (c ∈ m.cps.toList) := by
  have e0 : e = ⟨#[]⟩ := by
    cases e with
    | mk a =>
      have : a = #[] := Array.eq_empty_of_size_eq_zero he
      rw [this]
  rw [Bool.eq_iff_iff, ← strip_none z m, beq_iff_eq, e0]
  constructor
  · intro h
    rw [h]
    rfl
  · intro h
    cases q : Txt.stripChars z m with
    | mk a =>
      rw [q] at h
      have : a = #[] := Array.eq_empty_of_size_eq_zero h
      rw [this]
theorem strip_dec {z m e : Str} (he : e.cps.size = 0) : decide (V.str (Txt.stripChars z m) = V.str e) = (TL.tl z).all fun c => decide (c ∈ m.cps.toList) := by
  rw [L2.dec_str]
  exact strip_eq he
end Jg
namespace JgX
open PySem PySem.W PySem.Calls PyProof.Rows PySem.Spec L2
/-! ### an exception that is kept as a value: what was said at its making stays -/
theorem frz_tup {o : Obj} {u : HO} {xs : List V} : HO.frz o u ≠ .tup xs := fun z => by cases z
theorem keptLaid {P : Program} {w : World} {H : Hp} {hp h' : Heap} {fs : List Addr} {a C dx t1 : Addr} {f : Str} {y : V} {u : Value} {z : Str} {tz : Tok} (hok : HOk P w H hp) (e : H a = some (exo a C none)) (ry : RelV y u)
    (dn : hp.objs.size ≤ dx) (dne : dx ≠ a) (tn : hp.objs.size ≤ t1) (tne : t1 ≠ a) (td : t1 ≠ dx) (k : ∀ b o, b ≠ a → hp.get? b = some o → h'.get? b = some o) (hx : h'.get? a = some (keptObj C t1 dx))
    (hn : h'.Ns1 dx (fun z => if z = f then some u else none)) (ht : h'.get? t1 = some (excTup [.str z tz])) :
    Un fs [] H (upd (upd (upd H t1 (.tup [.str z])) dx (exd dx [(f, y)])) a (.frz (keptObj C t1 dx) (exo a C (some dx)))) hp h' ∧
    HOk P w (upd (upd (upd H t1 (.tup [.str z])) dx (exd dx [(f, y)])) a (.frz (keptObj C t1 dx) (exo a C (some dx)))) h' := by
  have hnd : H dx = none := hok.fresh dn
  have hnt : H t1 = none := hok.fresh tn
  have nd : ∀ {b : Addr} {o : Obj}, hp.get? b = some o → b ≠ dx := fun {b o} q => Nat.ne_of_lt (Nat.lt_of_lt_of_le (Heap.lt_size q) dn)
  have nt : ∀ {b : Addr} {o : Obj}, hp.get? b = some o → b ≠ t1 := fun {b o} q => Nat.ne_of_lt (Nat.lt_of_lt_of_le (Heap.lt_size q) tn)
  have na : ∀ {b : Addr}, H b = none → b ≠ a := fun {b} n z => by
    rw [z, e] at n
    cases n
  -- what was tracked and isn't the exception stays tracked
  have st : ∀ {b : Addr} {o : HO}, H b = some o → b ≠ a → upd (upd (upd H t1 (.tup [.str z])) dx (exd dx [(f, y)])) a (.frz (keptObj C t1 dx) (exo a C (some dx))) b = some o := fun {b o} q hb => by
    rw [upd_ne hb, upd_ne (ne_of_none q hnd), upd_ne (ne_of_none q hnt)]
    exact q
  refine ⟨⟨fun b o q n _ _ => k b o (na n) q, fun b o q n _ _ => ⟨o.slots, k b o (na n) q⟩, fun b o q n _ => ?_, fun b o q _ => ?_, fun b xs q => st q (at_ne e q exo_tup), fun b o v q => st q (at_ne e q exo_frz), fun b ps q => ⟨#[], ?_⟩⟩, fun b o q => ?_⟩
  · rw [upd_ne (na n), upd_ne (nd q), upd_ne (nt q)]; exact n
  · by_cases hb : b = a
    · exact ⟨_, by rw [hb]; exact hx⟩
    · exact ⟨o, k b o hb q⟩
  · rw [st q (at_ne e q exo_tbl)]; simp
  by_cases hb : b = a
  · subst hb
    rw [upd_same] at q
    cases q
    exact ⟨hx, exo_ok hx⟩
  rw [upd_ne hb] at q
  by_cases hd : b = dx
  · subst hd
    rw [upd_same] at q
    cases q
    exact exd_ok hn (relO_put (fs := []) ry fun g => True.intro)
  rw [upd_ne hd] at q
  by_cases hb1 : b = t1
  · subst hb1
    rw [upd_same] at q
    cases q
    refine ⟨by rw [sizeLine_eq]; simp, [.str z tz], .cons ⟨tz, rfl⟩ .nil, _, ht, rfl, ⟨_, rfl⟩⟩
  rw [upd_ne hb1] at q
  refine (hok b o q).stay (fun c v hc z => k c v ?_ z) (fun c hc => st hc (at_ne e hc exo_own)) (fun c xs hc => st hc (at_ne e hc exo_tup))
  rcases hc with hc | hc
  · rw [hc]
    exact hb
  · exact at_ne e hc exo_own
end JgX
namespace JgX
open PySem PySem.W PySem.Calls PyProof.Rows PySem.Spec L2
section
variable {P : Program} {w : World} {K : Frag} {mg : Str → Option Value} {base : Heap} {CX : CXT} {k : Nat} {B newId i : String} {bmB : List Value} {C fI : Addr} {fd : FuncData} {qual f par text : Str} {params : Arguments} {scope : Scope}
  {p0 p1 p2 p3 p4 p5 p6 p7 p8 : Pos} {j : Nat}
/-- what such an __init__ promises where all of it is to be kept -/
def xKeep (C : Addr) (f : Str) (z : Str) : Sp := fun vs H Q _ => ∃ a y, vs = [.ref a, y] ∧ H a = some (exo a C none) ∧ ∀ dx t1, H dx = none → dx ≠ a → H t1 = none → t1 ≠ a → t1 ≠ dx →
  Q .non (upd (upd (upd H t1 (.tup [.str z])) dx (exd dx [(f, y)])) a (.frz (keptObj C t1 dx) (exo a C (some dx))))
theorem init_keep (X : XBase B newId i bmB) (T : XC K C B newId i bmB) (S : XFn P K C fI fd qual params (xBody text f par j p0 p1 p2 p3 p4 p5 p6 p7 p8) scope) (nf : findIn K (.ref C) f = some none)
    (opq : nsIn K cStatics "thirdparty.any" = some none) (msup : mg "super" = none) (htop : (P.main.scope.names.lookup ("super" : Str)).isSome = false)
    (hks : scope.names.lookup ("super" : Str) = some .globalImplicit) (hkc : scope.names.lookup ("__class__" : Str) = some .free) (hkS : scope.names.lookup ("self" : Str) = some .local) (hkP : scope.names.lookup par = some .local)
    (hk : scope.kind = .function) (hcell : ∀ x ∈ scope.names, x.2 ≠ .cell) (hco : scope.isCoroutine = false) (hgen : scope.isGenerator = false)
    (hpar : ∃ ar, (params.posonlyargs ++ params.args).head? = some ar ∧ ar.arg = ("self" : Str)) (hps : par ≠ ("self" : Str)) (hpd : (par == ("__debug__" : Str)) = false)
    (hev : ∀ en : Env, ∃ pl : Sem Bool, eval (.Call (.Attribute (.Call (.Name "super" p0) [] [] p1) "__init__" p2) [.Constant (.str text) j p3] [] p4) en = (do
      let ov ← attributeBase (.Call (.Name "super" p0) [] [] p1) "__init__" en (eval (.Call (.Name "super" p0) [] [] p1) en)
      standAt p2.atName
      let (f, first) ← holding [ov] (getMethod ov "__init__" pl)
      callWith p4 f first (backTo p4 (starEach [.Constant (.str text) j p3] en)) []))
    (hsx : ∀ en : Env, swapsWith (.Call (.Attribute (.Call (.Name "super" p0) [] [] p1) "__init__" p2) [.Constant (.str text) j p3] [] p4) none p4.line en = pure false)
    (hsw : ∀ env : Env, swapsWith (.Name par p7) (some (.Attribute (.Name "self" p5) f p6)) p8.line env = pure false) :
    FnOk P w K mg base CX (k + 1) fI fd [("self" : Str), par] (xKeep C f text) := by
  refine ⟨fun vs H Q E ⟨a, y, e, _⟩ => by rw [e]; rfl, fun A outer s H args us vs Q E room env bnd rel want => ?_⟩
  obtain ⟨a, y, rfl, ea, q⟩ := want
  obtain ⟨nm, cc, cda, oc, kV, doc, pm, ct, ccl, cl, od, an, cdd, cld, osl, ccs, csl, vs', file, tf, rfl, lk, hcd, lcd, hv2, hfile, lcc⟩ := S.ex
  obtain ⟨nmC, qC, NC, bsC, bmC, snC, sub, ab, col, dd, k0, k1, k2, k3, k5, hC, htail⟩ := T.cls
  obtain ⟨ar, har, harn⟩ := hpar
  cases rel with
  | @cons _ u0 _ ur ra rw' =>
  cases rw' with
  | @cons _ u _ ur' ru rz =>
  cases rz
  obtain rfl : u0 = Value.ref a := ra
  have bk : ∀ b o, base.get? b = some o → s.heap.get? b = some o := fun b o e => (env.bs b o e).1
  have kin : K.In s.heap := env.mod.kin.keeps bk
  obtain ⟨t1, hea⟩ := exo_at env.hok ea
  have clsC : clsIn K C = some { name := nmC, bases := bsC, mro := .ref C :: bmC, ns := NC, qualname := qC, hasDict := true, slotNames := snC, subclasses := sub, abstract := ab, collection := col, hasDel := false } := by
    unfold clsIn; rw [hC] <;> rfl
  have hsub : mroIn K C (.ref C) = some true := by
    unfold mroIn
    rw [clsC, Option.bind_some, if_neg (show ¬ (List.isEmpty (Value.ref C :: bmC) = true) from Bool.false_ne_true)]
    simp
  -- the heap without the exception
  have bh : ∀ b o, base.get? b = some o → (s.heap.hide a).get? b = some o := fun b o e =>
    (Heap.hide_ne s.heap fun z => by have n := (env.bs b o e).2; rw [z, ea] at n; cases n).trans (bk b o e)
  have kinH : K.In (s.heap.hide a) := env.mod.kin.keeps bh
  refine ks_codeAny_call_defAt (fd := ksFn nm qual params _ scope .none kV doc pm an (.ref cda) ct cc) (body := xBody text f par j p0 p1 p2 p3 p4 p5 p6 p7 p8) (binds := [(("self" : Str), Value.ref a), (par, u)]) room.depth (kin _ _ lk) rfl
    (env.mod.nolimit.keeps bk) (codeRec_of kin hcd) rfl bnd hcell (fun x hx => ?_) (fun h₁ hns hk₁ => ?_) hco hgen hk
  · rcases List.mem_cons.mp hx with rfl | hx
    · exact hkS
    · rcases List.mem_cons.mp hx with rfl | hx
      · exact hkP
      · cases hx
  have F1 : Fr (s.heap.hide a) s.heap.objs.size h₁ (fun y => [(("self" : Str), Value.ref a), (par, u)].reverse.lookup y) :=
    ⟨hns, fun b o e => hk₁ b o (Heap.of_hide e), Nat.le_of_eq (Heap.hide_size s.heap a)⟩
  have N1 : News (s.heap.hide a) s.heap.objs.size h₁ [(a, excObj C t1 none .none)] := fun p hp => by
    rcases List.mem_cons.mp hp with rfl | hp
    · exact ⟨hk₁ _ _ hea, Nat.ne_of_lt (Heap.lt_size hea), Heap.hide_self s.heap a⟩
    · cases hp
  have mself : (fun y => [(("self" : Str), Value.ref a), (par, u)].reverse.lookup y) ("self" : Str) = some (.ref a) := by
    have hb : (("self" : Str) == par) = false := by
      rw [beq_eq_false_iff_ne]; exact fun z => hps z.symm
    show List.lookup ("self" : Str) [(par, u), (("self" : Str), Value.ref a)] = _
    rw [List.lookup_cons, hb]
    simp [List.lookup_cons]
  have mpar : (fun y => [(("self" : Str), Value.ref a), (par, u)].reverse.lookup y) par = some u := by
    show List.lookup par [(par, u), (("self" : Str), Value.ref a)] = _
    simp [List.lookup_cons]
  have neA : ∀ {b : Addr} {o : Obj}, (s.heap.hide a).get? b = some o → b ≠ a := fun {b o} e z => by
    rw [z, Heap.hide_self] at e
    cases e
  obtain ⟨mb, hmb, hmbB⟩ := env.mod.blt
  have keep1 : ∀ b o, base.get? b = some o → h₁.get? b = some o := fun b o e => F1.keep b o (bh b o e)
  have kin1 : K.In h₁ := env.mod.kin.keeps keep1
  obtain ⟨pl, hev⟩ := hev (callEnv (ksFn nm qual params (xBody text f par j p0 p1 p2 p3 p4 p5 p6 p7 p8) scope .none kV doc pm an (.ref cda) ct cc) s.heap.objs.size fI)
  refine ks_wpAt_execs_cons (ks_wpAt_Expr_any (hi := by show (scope.kind == .module && _) = false; rw [hk]; rfl) (hs := hsx _) (ks_wpAt_MethodCall (pl := pl) (he := hev) (ks_wpAt_super_base (f := fI) (cc := cda) (ar := ar) (file := file) (tf := tf) hks hkc rfl rfl (kin1 _ _ lk) rfl har rfl (kin1 _ _ lcd) rfl hv2 hfile htop ?_)))
  refine ks_loadName_global hk hks (loadGlobal_builtin (mb := mb) (env.mod.glob.keeps keep1) msup (hmb.keeps keep1) ((hmbB _ (by decide)).trans (show bootBuiltins "super" = some (.type "super") by decide +kernel)) ⟨rfl, ?_⟩)
  refine wpAny_loadName_free hk hkc rfl ⟨_, kin1 _ _ lcc, rfl⟩ ?_
  rw [harn]
  refine wpAny_loadName_local hk hkS hns mself ?_
  refine ks_wpAny_isType_cls (kin1 _ _ hC) rfl ⟨rfl, ?_⟩
  refine ks_wpAny_call_super (kin1 _ _ hC) rfl (hk₁ _ _ hea) rfl (fun c z => by cases z) (looks_mroIn kin1 hsub) (fun h2 e2 keep2 => ?_)
  obtain ⟨F2, N2, l2⟩ := ks_newsPush (s := ⟨h₁, s.gens, s.drawn, s.toks + 2, s.os⟩) F1 N1 rfl e2 keep2
  refine kxs_method X.kf F2 kinH N2 (so := h₁.objs.size) (x := a) (C := C) (D := C) (by simp) (InstAt.of_exc0 (t := t1) (c2 := .none) N2 (by simp)) opq T.sup T.subB (by decide) (fun q3 h3 F3 N3 l3 => ?_)
  refine kxs_callWith1 (i := i) (x := a) N3 (by simp) (spliced_more (wpAny_Constant_str (spliced_none ⟨kxs_at N3 (by simp), ?_⟩)))
  have in3 : K.In h3 := kinH.keeps F3.keep
  refine call_wrap X (e := a) (t0 := t1) (in3 _ _ hC) (N3 (a, excObj C t1 none .none) (by simp)).1 (N3 (q3, kxs_mw i a) (by simp)).1 (by rw [sizeLine_eq]; simp) (fun h4 keep4 he4 tup4 => ?_)
  obtain ⟨oL, esL, epL, hL, restL⟩ := F3.ns
  have neL : s.heap.objs.size ≠ a := fun z => (N3 (a, excObj C t1 none .none) (by simp)).2.1 z.symm
  have hL4 : h4.Ns s.heap.objs.size (fun y => [(("self" : Str), Value.ref a), (par, u)].reverse.lookup y) := ⟨oL, esL, epL, keep4 _ _ neL hL, restL⟩
  have all4 : ∀ b o, b ≠ a → s.heap.get? b = some o → h4.get? b = some o := fun b o n e =>
    keep4 b o n (F3.keep b o ((Heap.hide_ne s.heap n).trans e))
  have in4 : K.In h4 := env.mod.kin.keeps fun b o e => all4 b o (neA (bh b o e)) (bk b o e)
  refine wpAt_of_wpAny (wpAny_execs_cons (plainObj_wpAny_Assign_Attribute ?_ (hsw _)))
  refine wpAny_Name (wpAny_loadName_local hk hkP hL4 mpar ?_) hpd
  refine wpAny_Name (wpAny_loadName_local hk hkS hL4 mself ?_)
  refine set_first X in4 he4 clsC rfl htail rfl nf T.sa (fun h5 tk dx keep5 hdx dne hx hn => wpAny_execs_nil ?_)
  have dn : s.heap.objs.size ≤ dx := Nat.le_trans (Nat.le_of_lt (Heap.lt_size (keep4 _ _ neL hL))) hdx
  have lt4 : h3.objs.size < h4.objs.size := Heap.lt_size tup4
  have t3n : s.heap.objs.size ≤ h3.objs.size := Nat.le_of_lt (Heap.lt_size hL)
  have t3a : h3.objs.size ≠ a := fun z => by
    have y : a < h3.objs.size := Heap.lt_size (N3 (a, excObj C t1 none .none) (by simp)).1
    exact Nat.lt_irrefl _ (z ▸ y)
  have t3d : h3.objs.size ≠ dx := Nat.ne_of_lt (Nat.lt_of_lt_of_le lt4 hdx)
  obtain ⟨un, ok⟩ := keptLaid (P := P) (w := w) (fs := frs outer) env.hok ea ru dn dne t3n t3a t3d (fun b o n e => keep5 b o n (all4 b o n e)) hx hn (keep5 _ _ t3a tup4)
  exact ⟨.non, _, rfl, env.bare, un, ok, rfl, q dx _ (env.hok.fresh dn) dne (env.hok.fresh t3n) t3a t3d⟩
end
end JgX
namespace JgX
open PySem PySem.W PySem.Calls PyProof.Rows PySem.Spec L2
/-- the text that such an __init__ says -/
def XSz (st : Stmt) (f par text : Str) : Prop := ∃ (j : Nat) (p0 p1 p2 p3 p4 p5 p6 p7 p8 : Pos), defBody st = xBody text f par j p0 p1 p2 p3 p4 p5 p6 p7 p8 ∧
    (∀ en : Env, ∃ pl : Sem Bool, eval (.Call (.Attribute (.Call (.Name "super" p0) [] [] p1) "__init__" p2) [.Constant (.str text) j p3] [] p4) en = (do
      let ov ← attributeBase (.Call (.Name "super" p0) [] [] p1) "__init__" en (eval (.Call (.Name "super" p0) [] [] p1) en)
      standAt p2.atName
      let (f, first) ← holding [ov] (getMethod ov "__init__" pl)
      callWith p4 f first (backTo p4 (starEach [.Constant (.str text) j p3] en)) [])) ∧
    (∀ en : Env, swapsWith (.Call (.Attribute (.Call (.Name "super" p0) [] [] p1) "__init__" p2) [.Constant (.str text) j p3] [] p4) none p4.line en = pure false) ∧
    (∀ env : Env, swapsWith (.Name par p7) (some (.Attribute (.Name "self" p5) f p6)) p8.line env = pure false)
theorem keep_st {P : Program} {w : World} {K : Frag} {mg : Str → Option Value} {base : Heap} {CX : CXT} {k : Nat} {B newId i : String} {bmB : List Value} {C fI : Addr} {fd : FuncData} {qual f par text : Str} {st : Stmt} (X : XBase B newId i bmB) (T : XC K C B newId i bmB)
    (S : XFn P K C fI fd qual (defArgs st) (defBody st) (defScope st)) (Z : XSt st f par) (Y : XSz st f par text) (nf : findIn K (.ref C) f = some none) (opq : nsIn K cStatics "thirdparty.any" = some none) (msup : mg "super" = none)
    (htop : (P.main.scope.names.lookup ("super" : Str)).isSome = false) : FnOk P w K mg base CX (k + 1) fI fd [("self" : Str), par] (xKeep C f text) := by
  obtain ⟨j, p0, p1, p2, p3, p4, p5, p6, p7, p8, eb, hev, hsx, hsw⟩ := Y
  rw [eb] at S
  exact init_keep X T S nf opq msup htop Z.ks Z.kc Z.kself Z.kpar Z.kind Z.cell Z.co Z.gen Z.par0 Z.ps Z.pd hev hsx hsw
/-- all that was tracked is tracked still -/
def All (H H' : Hp) : Prop := ∀ b o, H b = some o → H' b = some o
def tKx (C : Addr) (z : Str) (te : TE) : TE := fun σ H Q => te σ H fun y H1 => tNil σ H1 fun ys H2 => ∃ y2, y :: ys = [y2] ∧ ∀ a H3, H2 a = none → All H2 H3 → Kx H3 a C z → Q (.ref a) H3
section
variable {X : Cx} {x : Str} {C fI : Addr} {k : Nat} {fd : FuncData} {par f z : Str} {e : Expr} {te : TE} {p pos : Pos} {B i : String}
/-- C(v) as a value -/
theorem pe_kx (T : XC X.K C B "ValueError.__new__" i mroV) (iC : findIn X.K (.ref C) "__init__" = some (some (.ref fI))) (tI : typeIn X.K (.ref fI) = some (.type "function"))
    (F1 : FnOk X.prog X.w X.K X.mg X.base CX0 k fI fd [("self" : Str), par] (xKeep C f z)) (room : Room (k + 1) X.A) (hb : Binds X.K fd [("self" : Str), par] []) (hg : Gl X x) (hm : X.mg x = some (.ref C)) (he : PE X e te)
    (hdb : (x == ("__debug__" : Str)) = false := by decide) (hs : starEach [e] X.env = (false, eval e X.env) :: starEach [] X.env := by rfl) (hpl : (backTo pos (starEach [] X.env)).any (·.1) = false := by rfl) :
    PE X (.Call (.Name x p) [e] [] pos) (tKx C z te) := by
  constructor
  intro pins s σ H Q I h
  obtain ⟨nm, q, N, bs, bm, sn, sub, ab, col, dd, k0, k1, k2, k3, k5, hC, htail⟩ := T.cls
  have args : PA X [e] (tCons te tNil) := pa_cons he pa_nil hs
  refine wpAny_Call_Name_kw (ld_glob I hg hm ?_ hdb)
  refine PySem.W.callWith_K (h₀ := X.base) I.ok.mod.kin T.kC (thn (args.run pos pins s σ H (fun vs H1 => ∃ y, vs = [y] ∧ ∀ a H2, H1 a = none → All H1 H2 → Kx H2 a C z → Q (.ref a) H2) I h) ?_) hs hpl
  rintro us s1 ⟨vs, H1, I1, rel, y, rfl, q1⟩
  refine ⟨I1.kIn, ?_⟩
  show wpAny _ _ (call (.ref C) us) _ _ _
  obtain ⟨u, rfl, ru⟩ := vals1 rel
  obtain ⟨hp, g, dr, tk, os⟩ := s1
  have kk : ∀ b o, hp.get? b = some o → ((hp.push (PySem.W.kdv_tup [u])).push (PySem.HandSPX.excO C hp.objs.size)).get? b = some o := fun b o e =>
    Heap.get?_push_of_some _ (Heap.get?_push_of_some _ e)
  have fresh : H1 (hp.objs.size + 1) = none := I1.hok.fresh (Nat.le_succ _)
  have there : ((hp.push (PySem.W.kdv_tup [u])).push (PySem.HandSPX.excO C hp.objs.size)).get? (hp.objs.size + 1) = some (PySem.HandSPX.excO C hp.objs.size) := by heap_get
  have I2 : Inv X pins σ (upd H1 (hp.objs.size + 1) (exo (hp.objs.size + 1) C none)) ⟨(hp.push (PySem.W.kdv_tup [u])).push (PySem.HandSPX.excO C hp.objs.size), g, dr, tk, os⟩ :=
    I1.laid (t' := tk) kk (Nat.le_succ _) (exo_ok there)
  have want : xKeep C f z [V.ref (hp.objs.size + 1), y] (upd H1 (hp.objs.size + 1) (exo (hp.objs.size + 1) C none)) (fun v H3 => v = .non ∧ Q (.ref (hp.objs.size + 1)) H3) E0 := by
    refine ⟨_, y, rfl, upd_same, fun dx t1 hd hda ht hta htd => ⟨rfl, q1 _ _ fresh ?_ ?_⟩⟩
    · intro b o hbo
      have nb := ne_of_none hbo fresh
      rw [upd_ne hda] at hd
      rw [upd_ne hta] at ht
      rw [upd_ne nb, upd_ne (ne_of_none hbo hd), upd_ne (ne_of_none hbo ht), upd_ne nb]
      exact hbo
    · refine ⟨t1, dx, [(f, y)], upd_same, ?_, ?_⟩
      · rw [upd_ne hda, upd_same]
      · rw [upd_ne hta, upd_ne htd, upd_same]
  refine wpAny_call (PySem.HandSPX.call_own F.excBase_ValueError (fun Y => PySem.HandSPX.refsVE_contains Y bm (refs_tail htail)) (I1.kIn _ _ hC) (PySem.W.looks_findIn I1.kIn iC) (fun self => PySem.W.bind_fn I1.kIn self tI) (by rw [sizeLine_eq]; simp) ?_)
  have r2 : Vals [V.ref (hp.objs.size + 1), y] [Value.ref (hp.objs.size + 1), u] := .cons rfl (.cons ru .nil)
  refine codeAny_mono (F1.run _ X.stack _ _ ⟨[Value.ref (hp.objs.size + 1), u], []⟩ [Value.ref (hp.objs.size + 1), u] _ _ E0 (room.make C [u] []) (I2.env0.make C [u] []) ?_ r2 want) ?_
  · have b := hb _ [Value.ref (hp.objs.size + 1), u] I2.kIn (by simp)
    exact b
  intro r s' hq
  cases r with
  | error er => exact False.elim hq
  | ok fl =>
    cases fl with
    | ret v =>
      obtain ⟨v2, H2, J, rv, ev, q2⟩ := I2.after hq
      subst ev
      exact ⟨rv, V.ref (hp.objs.size + 1), H2, J, rfl, q2⟩
    | next => exact False.elim hq
    | brk => exact False.elim hq
    | cont => exact False.elim hq
end
end JgX
namespace JgX
open PySem PySem.W PySem.Calls PyProof.Rows PySem.Spec L2
theorem g_kx {C : Addr} {z : Str} {y : V} {σ : L2.St} {H : Hp} {Q : VK} (q : ∀ a H3, H a = none → All H H3 → Kx H3 a C z → Q (.ref a) H3) : tKx C z (tC y) σ H Q := ⟨_, rfl, q⟩
end JgX
namespace JgX
open PySem PySem.W PySem.Calls PyProof.Rows PySem.Spec
open Builtin Builtin.Str Builtin.BaseException Builtin.Exceptions
/-- what the written part says of such a class's text -/
structure XR (K : Frag) (C : Addr) (n : Str) : Prop where
  rp : findIn K (.ref C) "__repr__" = some (some (.builtin "BaseException.__repr__"))
  exC : subIn K (.ref C) (.type "BaseException") = some true
  cl : ∃ cd, clsIn K C = some cd ∧ cd.name = n
def kxHead (n : Str) : Str := Str.ofString ((n.toString.cutAt '.').getLastD "")
def kxText (n z : Str) : Str := kxHead n ++ Str.ofString "(" ++ reprText z ++ Str.ofString ")"
section
variable {prog : Program} {w : World} {A : Around} {E : Value → Shared → Prop} {s : Shared} {K : Frag} {C e t0 : Addr} {n z : Str} {tz : Tok}
theorem name_kx {Q : String → Shared → Prop} (x : ExcC K C e t0 s.heap) (R : XR K C n) (q : Q n.toString s) : wpAny (model prog w) A (typeNameOfWhole (.ref e)) Q E s := by
  obtain ⟨cd, hc, rfl⟩ := R.cl
  unfold typeNameOfWhole shownTypeOf
  refine wpAny_bind (wpAny_bind (x.LT.here ?_))
  rw [if_neg (show ¬ ((Value.ref C == Value.type "builtin_function_or_method") = true) by simp)]
  refine wpAny_pure ?_
  show wpAny _ _ (classData C >>= fun c => pure c.name.toString) _ _ _
  exact wpAny_bind ((looks_clsIn x.1 hc).here (wpAny_pure q))
theorem reprAt_kx (b : Nat) {Q : Fin → Shared → Prop} (x : ExcC K C e t0 s.heap) (R : XR K C n) (ht : s.heap.TupAt t0 [.str z tz]) (sz : b + (kxText n z).length ≤ sizeLine)
    (q : Q (.done (.ret (.str (kxText n z) (s.toks + 1)))) { s with toks := s.toks + 1 + 1 }) : wpAny (model prog w) A (Builtin.bexcReprAt b ⟨[.ref e], []⟩) Q E s := by
  have one : (Str.ofString "(").length = 1 := by rw [PySem.ofString_length]; rfl
  have l := sz
  unfold kxText kxHead at l
  rw [strLen_append, strLen_append, strLen_append, one] at l
  have l2 : (kxText n z).length ≤ sizeLine := by omega
  unfold kxText kxHead at l2
  have l3 : (reprText z).length ≤ sizeLine := by omega
  have l4 : b + ((Str.ofString ((n.toString.cutAt '.').getLastD "")).length + 1) ≤ sizeLine := by omega
  unfold Builtin.bexcReprAt
  repeat (first
    | with_reducible refine name_kx x R ?_
    | with_reducible refine bexcArgs_C x ht ?_
    | rw [pyReprUnder_leaf (v := .str z tz) l4 (by intro a; nofun)]
    | with_reducible refine wpAny_pyRepr_str ?_
    | wp_step)
  exact q
theorem special_by {M : Model} {last : Value → List Value → Sem Value} {v tp : Value} {name : Str} {i : String} {Q : Option Value → Shared → Prop} (hT : Looks M s.heap (typeOf v) tp) (hf : Looks M s.heap (typeLookup tp name) (some (.builtin i)))
    (hb : bindSpecial (.builtin i) v = pure (.builtin i, [v])) (run : wpAny M A (last (.builtin i) [v]) (fun r => Q (some r)) E s) : wpAny M A (callSpecialIfBoundBy? last v name) Q E s := by
  have ends : wpAny M A (last (.builtin i) [v] >>= fun r => pure (some r)) Q E s := wpAny_bind (wpAny_mono run (fun r s1 y => wpAny_pure y) fun _ _ y => y)
  unfold callSpecialIfBoundBy? bindSpecialIfBound? specialOf
  refine wpAny_holding (wpAny_bind (wpAny_bind (wpAny_bind (hT.here (hf.here ?_)))))
  simp only [hb]
  refine wpAny_bind (wpAny_askSetting (wpAny_ite ?_))
  split
  · exact wpAny_bind (wpAny_pure (wpAny_pure ends))
  · exact wpAny_tryCatch (wpAny_bind (wpAny_pure (wpAny_pure ends)))
theorem reprK_kx {h₀ : Heap} (kin : K.In h₀) (R : XR K C n) {o : Obj} {vs : Array Value} (he : h₀.get? e = some o) (hc : o.cls = .ref C) (hd : o.data = .fields vs) (h0 : vs[0]? = some (.ref t0)) (ht : h₀.TupAt t0 [.str z tz]) :
    ReprK prog w [] h₀ 1 (.ref e) (kxText n z) := by
  intro base sz A g E s Q hg hcl hu hk hQ
  have x : ExcC K C e t0 s.heap := ⟨kin.keeps hk, o, vs, hk _ _ he, hc, hd, h0⟩
  have ht2 : s.heap.TupAt t0 [.str z tz] := by
    obtain ⟨ot, k, hto, r⟩ := ht
    exact ⟨ot, k, hk _ _ hto, r⟩
  have hf : Looks (model prog w) s.heap (typeLookup (.ref C) "__repr__") (some (.builtin "BaseException.__repr__")) := looks_findIn x.1 R.rp
  refine wpAny_pyReprUnder_ref (by omega) ?_
  unfold pyReprObjUnder pyReprObjBy
  refine wpAny_bind (wpAny_cRoomFor (by omega) ?_)
  unfold specialOf
  refine wpAny_bind (wpAny_bind (x.LT.here ?_))
  refine hf.here ?_
  simp only [Option.isNone_some, Bool.false_eq_true, if_false]
  refine wpAny_bind (special_by x.LT hf (F.excStr_Exception.repr.bind _) ?_)
  show wpAny (model prog w) A (call (.builtin "BaseException.__repr__.under") [.ref e, rawInt ↑base]) _ _ _
  refine wpAny_call (codeAny_call_builtin F.plain_bexc_repr_under F.entry_bexc_repr_under ?_)
  rw [F.check_bexc_repr_under]
  refine wpAny_pure ?_
  unfold Builtin.«BaseException.__repr__.under»
  rw [reprTwin_eq]
  refine wpAny_bind (@PySem.W.check_slot (model prog w) _ _ s "BaseException.__repr__" "BaseException" "__repr__" (.ref e) [] [] _ (by decide +kernel) (by decide +kernel) (x.LI R.exC) (F.args_bexc_repr _) ?_)
  refine reprAt_kx base x R ht2 sz ?_
  show wpAny (model prog w) A _ _ _ _
  refine wpAny_bind (wpAny_isInstance (T := "str") (b := true) rfl isSubtype_str_str ?_)
  exact wpAny_pure ⟨_, _, rfl, hQ s.heap _ fun _ _ y => y⟩
end
end JgX
namespace JgX
open PySem PySem.W PySem.Calls PyProof.Rows PySem.Spec L2
/-! ### repr of a list that holds such -/
/-- data, or a dict of one text with a number, or none -/
def Dq (K : Frag) (H : Hp) (v : V) (d : PyData) : Prop := (Dp K H v d ∧ d.hasDict = false) ∨ ∃ a, v = .ref a ∧ ((H a = some (.dK []) ∧ d = .dict []) ∨ ∃ (x : Str) (i : Int), H a = some (.dK [(.inr x, .int i)]) ∧ d = .dict [(.str x, .int i)])
theorem Dq.reads {X : Cx} {pins : List (Addr × Obj)} {σ : L2.St} {H : Hp} {s : Shared} (I : Inv X pins σ H s) {v : V} {d : PyData} {u : Value} (h : Dq X.K H v d) (r : RelV v u) : ∃ as, Reads s.heap u d as ∧ (d.hasDict = true → sysModules ∉ as) := by
  rcases h with ⟨h, nd⟩ | ⟨a, rfl, h⟩
  · obtain ⟨as, q⟩ := Dp.reads I d v u h r
    exact ⟨as, q, fun z => by rw [nd] at z; cases z⟩
  obtain rfl : u = Value.ref a := r
  have away : ∀ kvs, H a = some (.dK kvs) → sysModules ∉ [a] := fun kvs e z => by
    have y := (I.hok a _ e).2.1
    rw [List.mem_singleton.mp z] at y
    simp at y
  rcases h with ⟨e, rfl⟩ | ⟨x, i, e, rfl⟩
  · obtain ⟨_, _, vs, kv, o, es, ep, ho, ⟨hc, _, _⟩, hd, _, pr, _⟩ := I.hok a _ e
    cases kv
    have ees : es.toList = [] := by
      cases hh : es.toList with
      | nil => rfl
      | cons y ys => rw [hh] at pr; cases pr
    refine ⟨[a], ?_, fun _ => away _ e⟩
    exact Reads.dict (as := []) (bs := []) ho hc hd (by rw [ees]; exact .nil) (by rw [ees]; exact .nil)
  · obtain ⟨_, _, vs, kv, o, es, ep, ho, ⟨hc, _, _⟩, hd, _, pr, _⟩ := I.hok a _ e
    cases kv with
    | @cons _ w0 _ ws h1 h2 =>
    cases h2
    obtain ⟨k1, w1⟩ := w0
    obtain ⟨e1, t, e2⟩ := h1
    have e1' : Sum.inr x = k1 := e1
    have e2' : w1 = Value.int i t := e2
    subst e1'
    subst e2'
    cases hh : es.toList with
    | nil => rw [hh] at pr; cases pr
    | cons y ys =>
      rw [hh] at pr
      cases pr with
      | cons p1 p2 p3 =>
      cases p3
      refine ⟨[a], ?_, fun _ => away _ e⟩
      rcases keyIs_shape (show keyIs (Sum.inr x) y.key = true from p1) with ⟨i', t', z, _⟩ | ⟨x', t', z, ek⟩
      · cases z
      · cases z
        refine Reads.dict (as := []) (bs := []) ho hc hd ?_ ?_
        · rw [hh]
          show ReadsAll s.heap [y.key] [.str x] []
          rw [ek]
          exact .cons (as := []) (bs := []) (.str _ _) .nil
        · rw [hh]
          show ReadsAll s.heap [y.val] [.int i] []
          rw [p2]
          exact .cons (as := []) (bs := []) (.int _ _) .nil
/-- what repr shows of it -/
def Sw (K : Frag) (H : Hp) (v : V) (t : Str) : Prop := (∃ d, Dq K H v d ∧ d.showable = true ∧ d.depth ≤ 20 ∧ d.shown = t ∧ t.length ≤ 100000) ∨ ∃ (a C : Addr) (n z : Str), v = .ref a ∧ Kx H a C z ∧ XR K C n ∧ kxText n z = t ∧ t.length ≤ 100000
theorem Sw.len {K : Frag} {H : Hp} {v : V} {t : Str} (h : Sw K H v t) : t.length ≤ 100000 := by
  rcases h with ⟨_, _, _, _, _, l⟩ | ⟨_, _, _, _, _, _, _, _, l⟩ <;> exact l
theorem deep_item {h : Heap} : ∀ {vs : List Value} {ds : List PyData} {as : List Addr}, ReadsAll h vs ds as → ∀ (i : Nat) (u : Value), vs[i]? = some u → ∃ d0 as0, Reads h u d0 as0 ∧ d0.depth ≤ PyData.depthAll ds
  | _, _, _, .nil, i, u, e => by simp at e
  | _, _, _, .cons (ds := ds) r rs, 0, u, e => by
    simp at e
    subst e
    exact ⟨_, _, r, by simp only [PyData.depthAll]; exact Nat.le_max_left _ _⟩
  | _, _, _, .cons (ds := ds) r rs, i + 1, u, e => by
    obtain ⟨d0, as0, q, l⟩ := deep_item rs i u (by simpa using e)
    exact ⟨d0, as0, q, Nat.le_trans l (by simp only [PyData.depthAll]; exact Nat.le_max_right _ _)⟩
theorem Sw.item {X : Cx} {pins : List (Addr × Obj)} {σ : L2.St} {H : Hp} {s : Shared} (I : Inv X pins σ H s) {p : Addr} {op : Obj} {its : List Value} {n : Nat} (hp : s.heap.get? p = some op) (hc : op.cls = .type "list") (hd : op.data = .seq its.toArray n)
    {i : Nat} {u : Value} {v : V} {t : Str} (mem : its[i]? = some u) (r : RelV v u) (h : Sw X.K H v t) : ∃ bs, p ∉ bs ∧ ReprK X.prog X.w bs s.heap 20 u t := by
  rcases h with ⟨d, h, sh, dep, rfl, l⟩ | ⟨a, C, nm, z, rfl, k, R, rfl, l⟩
  · obtain ⟨as, rd, no⟩ := h.reads I r
    obtain ⟨bs, rb, rk⟩ := ReprK.of_reads (prog := X.prog) (w := X.w) rd sh no (Nat.le_trans l (by decide))
    refine ⟨bs, fun hm => ?_, rk.level_le dep⟩
    obtain ⟨d2, as2, r2, l2⟩ := rb p hm
    cases r2 with
    | list q1 q2 q3 q4 =>
      rw [hp] at q1
      cases q1
      rw [hd] at q3
      cases q3
      obtain ⟨d0, as0, r0, l0⟩ := deep_item q4 i u (by simpa using mem)
      obtain ⟨ed, _⟩ := PyProof.Rows.reads_det (fun _ _ e _ => e) rd r0
      rw [ed] at l0
      simp only [PyData.depth] at l2
      omega
    | tuple q1 q2 q3 q4 =>
      rw [hp] at q1
      cases q1
      rw [hc] at q2
      injection q2 with z
      exact absurd z (by decide)
    | dict q1 q2 q3 q4 q5 =>
      rw [hp] at q1
      cases q1
      rw [hc] at q2
      injection q2 with z
      exact absurd z (by decide)
  · obtain rfl : u = Value.ref a := r
    obtain ⟨t1, dx, fs, ea, ed, et⟩ := k
    have ho : s.heap.get? a = some (keptObj C t1 dx) := (I.hok a _ ea).1
    obtain ⟨_, its2, vv, tu⟩ := I.hok t1 _ et
    cases vv with
    | cons v1 v2 =>
    cases v2
    obtain ⟨tz, rfl⟩ := v1
    obtain ⟨ot, hot, hct, nt, hdt⟩ := tu
    refine ⟨[], by simp, (reprK_kx I.kIn R ho rfl rfl rfl (tz := tz) ?_).level_le (by decide)⟩
    exact ⟨ot, nt, hot, hct, hdt⟩
def rShow (K : Frag) : List V → Hp → VK → Prop := fun xs H Q => ∃ (p : Addr) (v1 v2 v3 : V) (t1 t2 t3 : Str), xs = [.ref p] ∧ H p = some (.lst [v1, v2, v3]) ∧ Sw K H v1 t1 ∧ Sw K H v2 t2 ∧ Sw K H v3 t3 ∧ Q (.str (listText [t1, t2, t3])) H
theorem call_show {X : Cx} {K : Frag} (gua : X.A.guards = some []) (hu : X.A.units + 64 < cLine) (hK : X.K = K := by rfl) : CallR X (.builtin "repr") (rShow K) := by
  subst hK
  intro pins s σ H xs us Q I rel h
  obtain ⟨p, v1, v2, v3, t1, t2, t3, rfl, e, s1, s2, s3, q⟩ := h
  obtain ⟨u, rfl, ru⟩ := vals1 rel
  obtain rfl : u = Value.ref p := ru
  obtain ⟨_, its, n, vv, hp⟩ := I.hok p _ e
  cases vv with
  | @cons _ u1 _ _ r1 vv =>
  cases vv with
  | @cons _ u2 _ _ r2 vv =>
  cases vv with
  | @cons _ u3 _ _ r3 vv =>
  cases vv
  obtain ⟨b1, n1, k1⟩ := s1.item I hp rfl rfl (i := 0) rfl r1
  obtain ⟨b2, n2, k2⟩ := s2.item I hp rfl rfl (i := 1) rfl r2
  obtain ⟨b3, n3, k3⟩ := s3.item I hp rfl rfl (i := 2) rfl r3
  have sz : (listText [t1, t2, t3]).length ≤ sizeLine := by
    have a := listText_len_le [t1, t2, t3]
    have l1 := s1.len
    have l2 := s2.len
    have l3 := s3.len
    simp at a
    exact Nat.le_trans (show _ ≤ 400000 by omega) (by decide)
  have sub1 : ∀ b ∈ b1, b ∈ b1 ++ (b2 ++ b3) := fun b h => List.mem_append_left _ h
  have sub2 : ∀ b ∈ b2, b ∈ b1 ++ (b2 ++ b3) := fun b h => List.mem_append_right _ (List.mem_append_left _ h)
  have sub3 : ∀ b ∈ b3, b ∈ b1 ++ (b2 ++ b3) := fun b h => List.mem_append_right _ (List.mem_append_right _ h)
  have np : p ∉ b1 ++ (b2 ++ b3) := by
    simp only [List.mem_append, not_or]
    exact ⟨n1, n2, n3⟩
  refine call_repr_slot (by omega) ⟨_, hp, rfl⟩ F.slot_list_repr.toG ?_
  refine call_list_reprK (as := b1 ++ (b2 ++ b3)) (h₀ := s.heap) (d := 20) (ts := [t1, t2, t3]) hp rfl rfl np rfl ?_ gua (fun b _ => Clear.nil b) ?_ (fun _ _ y => y) ?_ sz
  · intro i y hy
    match i with
    | 0 => simp at hy; subst hy; exact ⟨t1, rfl, k1.more sub1⟩
    | 1 => simp at hy; subst hy; exact ⟨t2, rfl, k2.more sub2⟩
    | 2 => simp at hy; subst hy; exact ⟨t3, rfl, k3.more sub3⟩
    | i + 3 => simp at hy
  · show X.A.units + 1 + (20 + 1) < cLine
    omega
  · intro h' u tk keep
    exact ⟨_, _, rfl, .str (listText [t1, t2, t3]), H, I.kept keep, ⟨u, rfl⟩, q⟩
end JgX
namespace Jg
open PySem PySem.Spec L2 JgX
/-! ### things of any kind, standing while the bag at p is drawn from -/
mutual
/-- v is d there, by lists that aren't the bag -/
inductive Da (p : Addr) (H : Hp) : V → PyData → Prop
  | non : Da p H .non .none
  | bl (b : Bool) : Da p H (.bl b) (.bool b)
  | int (i : Int) : Da p H (.int i) (.int i)
  | str (z : Str) : Da p H (.str z) (.str z)
  | lst {a : Addr} {xs : List V} {ds : List PyData} : a ≠ p → H a = some (.lst xs) → DaAll p H xs ds → Da p H (.ref a) (.list ds)
  | tup {a : Addr} {xs : List V} {ds : List PyData} : a ≠ p → H a = some (.tup xs) → DaAll p H xs ds → Da p H (.ref a) (.tuple ds)
inductive DaAll (p : Addr) (H : Hp) : List V → List PyData → Prop
  | nil : DaAll p H [] []
  | cons {v : V} {vs : List V} {d : PyData} {ds : List PyData} : Da p H v d → DaAll p H vs ds → DaAll p H (v :: vs) (d :: ds)
end
mutual
theorem Da.mv {p : Addr} {H H' : Hp} (m : Mv p H H') : ∀ {v : V} {d : PyData}, Da p H v d → Da p H' v d
  | _, _, .non => .non
  | _, _, .bl b => .bl b
  | _, _, .int i => .int i
  | _, _, .str z => .str z
  | _, _, .lst n e r => .lst n (m _ _ n e) (DaAll.mv m r)
  | _, _, .tup n e r => .tup n (m _ _ n e) (DaAll.mv m r)
theorem DaAll.mv {p : Addr} {H H' : Hp} (m : Mv p H H') : ∀ {vs : List V} {ds : List PyData}, DaAll p H vs ds → DaAll p H' vs ds
  | _, _, .nil => .nil
  | _, _, .cons a r => .cons (Da.mv m a) (DaAll.mv m r)
end
mutual
theorem Da.dp {p : Addr} {H : Hp} (K : PySem.W.Frag) : ∀ {v : V} {d : PyData}, Da p H v d → Dp K H v d
  | _, _, .non => .non
  | _, _, .bl b => .bl b
  | _, _, .int i => .int i
  | _, _, .str z => .str z
  | _, _, .lst n e r => .lst (Or.inl (Or.inl e)) (DaAll.dp K r)
  | _, _, .tup n e r => .tup (Or.inl (Or.inl e)) (DaAll.dp K r)
theorem DaAll.dp {p : Addr} {H : Hp} (K : PySem.W.Frag) : ∀ {vs : List V} {ds : List PyData}, DaAll p H vs ds → DpAll K H vs ds
  | _, _, .nil => .nil
  | _, _, .cons a r => .cons (Da.dp K a) (DaAll.dp K r)
end
mutual
theorem Da.plain {p : Addr} {H : Hp} : ∀ {v : V} {d : PyData}, Da p H v d → d.hasDict = false
  | _, _, .non => by simp only [PyData.hasDict]
  | _, _, .bl b => by simp only [PyData.hasDict]
  | _, _, .int i => by simp only [PyData.hasDict]
  | _, _, .str z => by simp only [PyData.hasDict]
  | _, _, .lst n e r => by simp only [PyData.hasDict]; exact DaAll.plain r
  | _, _, .tup n e r => by simp only [PyData.hasDict]; exact DaAll.plain r
theorem DaAll.plain {p : Addr} {H : Hp} : ∀ {vs : List V} {ds : List PyData}, DaAll p H vs ds → PyData.hasDictAll ds = false
  | _, _, .nil => by simp only [PyData.hasDictAll]
  | _, _, .cons a r => by simp only [PyData.hasDictAll, Da.plain a, DaAll.plain r, Bool.or_self]
end
theorem DaAll.length {p : Addr} {H : Hp} : ∀ {vs : List V} {ds : List PyData}, DaAll p H vs ds → vs.length = ds.length
  | _, _, .nil => rfl
  | _, _, .cons _ r => by rw [List.length_cons, List.length_cons, DaAll.length r]
theorem DaAll.get {p : Addr} {H : Hp} : ∀ {vs : List V} {ds : List PyData}, DaAll p H vs ds → ∀ (i : Nat) (v : V), vs[i]? = some v → ∃ d, ds[i]? = some d ∧ Da p H v d
  | _, _, .nil, i, v, e => by simp at e
  | _, _, .cons a _, 0, v, e => by
    simp at e
    subst e
    exact ⟨_, rfl, a⟩
  | _, _, .cons _ r, i + 1, v, e => by
    obtain ⟨d, h1, h2⟩ := DaAll.get r i v (by simpa using e)
    exact ⟨d, by simpa using h1, h2⟩
theorem DaAll.app {p : Addr} {H : Hp} : ∀ {vs ws : List V} {ds es : List PyData}, DaAll p H vs ds → DaAll p H ws es → DaAll p H (vs ++ ws) (ds ++ es)
  | _, _, _, _, .nil, b => b
  | _, _, _, _, .cons a r, b => .cons a (DaAll.app r b)
theorem DaAll.cut {p : Addr} {H : Hp} : ∀ {vs : List V} {ds : List PyData} (n : Nat), DaAll p H vs ds → DaAll p H (vs.take n) (ds.take n) ∧ DaAll p H (vs.drop n) (ds.drop n)
  | _, _, 0, h => ⟨.nil, h⟩
  | _, _, n + 1, .nil => ⟨.nil, .nil⟩
  | _, _, n + 1, .cons a r => ⟨.cons a (DaAll.cut n r).1, (DaAll.cut n r).2⟩
/-- what is said of a class of exceptions: none of these kinds -/
structure Nk (K : PySem.W.Frag) (C : Addr) : Prop where
  xa : XA K C
  ki : PySem.W.kitOne K (.ref C) (.type "int") = some false
  ks : PySem.W.kitOne K (.ref C) (.type "str") = some false
  kt : PySem.W.kitOne K (.ref C) (.type "tuple") = some false
inductive Thing
  | dat (d : PyData)
  | exc (C : Addr) (n z : Str)
def Thing.who : Thing → Option Int
  | .dat (.int i) => some i
  | _ => none
def Thing.st : Thing → Option Str
  | .dat (.str z) => some z
  | _ => none
def Thing.tp : Thing → Option (List PyData)
  | .dat (.tuple ds) => some ds
  | _ => none
def Thing.txt : Thing → Str
  | .dat d => d.shown
  | .exc C n z => kxText n z
/-- not too many parts, none a dict, none too deep -/
def Fit (ds : List PyData) : Prop := ds.length ≤ 100 ∧ ∀ x ∈ ds, x.canLay0 = true ∧ x.depth ≤ 5
/-- a dict of one text with a number, or none -/
def Dd (H : Hp) (v : V) (d : PyData) : Prop := ∃ a, v = .ref a ∧ ((H a = some (.dK []) ∧ d = .dict []) ∨ ∃ (x : Str) (i : Int), H a = some (.dK [(.inr x, .int i)]) ∧ d = .dict [(.str x, .int i)])
def TgR (K : PySem.W.Frag) (p : Addr) (H : Hp) (v : V) : Thing → Prop
  | .dat d => (Da p H v d ∨ Dd H v d) ∧ d.showable = true ∧ d.depth ≤ 20 ∧ d.shown.length ≤ 100000 ∧ (∀ z, d = .str z → Sg z 2000) ∧ (∀ ds, d = .tuple ds → Fit ds)
  | .exc C n z => ∃ a, v = .ref a ∧ Kx H a C z ∧ (kxText n z).length ≤ 100000 ∧ Nk K C ∧ XR K C n
theorem bg_no {H : Hp} {p q : Addr} {n : Nat} {o : HO} (B : Bg H p n) (h : H q = some o) (d : ∀ xs, o ≠ HO.lst xs) : q ≠ p := fun z => by
  obtain ⟨a, b, c, e, _⟩ := B
  rw [z, e] at h
  cases h
  exact d _ rfl
theorem no_dK {kvs : List (Key × V)} : ∀ xs, HO.dK kvs ≠ HO.lst xs := fun xs z => by cases z
theorem no_tup {ys : List V} : ∀ xs, HO.tup ys ≠ HO.lst xs := fun xs z => by cases z
theorem no_frz {o : Obj} {u : HO} : ∀ xs, HO.frz o u ≠ HO.lst xs := fun xs z => by cases z
theorem no_exd {dx : Addr} {fs : List (Str × V)} : ∀ xs, exd dx fs ≠ HO.lst xs := fun xs z => by
  have z' : HO.ext _ = HO.lst xs := z
  cases z'
theorem TgR.mv {K : PySem.W.Frag} {p : Addr} {H H' : Hp} {v : V} {t : Thing} {n : Nat} (B : Bg H p n) (m : Mv p H H') (h : TgR K p H v t) : TgR K p H' v t := by
  cases t with
  | dat d =>
    refine ⟨?_, h.2⟩
    rcases h.1 with h | ⟨a, e, h⟩
    · exact Or.inl (h.mv m)
    · refine Or.inr ⟨a, e, ?_⟩
      rcases h with ⟨h, e2⟩ | ⟨x, i, h, e2⟩
      · exact Or.inl ⟨m _ _ (bg_no B h no_dK) h, e2⟩
      · exact Or.inr ⟨x, i, m _ _ (bg_no B h no_dK) h, e2⟩
  | exc C nm z =>
    obtain ⟨a, e, ⟨t1, dx, fs, h1, h2, h3⟩, r⟩ := h
    exact ⟨a, e, ⟨t1, dx, fs, m _ _ (bg_no B h1 no_frz) h1, m _ _ (bg_no B h2 no_exd) h2, m _ _ (bg_no B h3 no_tup) h3⟩, r⟩
theorem TgR.sw {K : PySem.W.Frag} {p : Addr} {H : Hp} {v : V} {t : Thing} (h : TgR K p H v t) : Sw K H v t.txt := by
  cases t with
  | dat d =>
    obtain ⟨h, h1, h2, h3, _⟩ := h
    refine Or.inl ⟨d, ?_, h1, h2, rfl, h3⟩
    rcases h with h | h
    · exact Or.inl ⟨h.dp K, h.plain⟩
    · exact Or.inr h
  | exc C nm z =>
    obtain ⟨a, e, k, l, _, r⟩ := h
    exact Or.inr ⟨a, C, nm, z, e, k, r, rfl, l⟩
def kindT : PyData → String
  | .none => "NoneType"
  | .bool _ => "bool"
  | .int _ => "int"
  | .str _ => "str"
  | .list _ => "list"
  | .tuple _ => "tuple"
  | .dict _ => "dict"
/-- by what each kind is an instance of -/
def kinds (T : String) : String → Bool := fun k => decide (k = T) || (decide (k = "bool") && decide (T = "int"))
theorem kindT_kit {T : String} {b : Bool} (d : PyData) (h : ((if T = "int" ∨ T = "str" ∨ T = "tuple" then kinds T (kindT d) else !b) = b)) : kitB (kindT d) T = some b := by
  by_cases c : T = "int" ∨ T = "str" ∨ T = "tuple"
  · rw [if_pos c] at h
    rw [← h]
    rcases c with rfl | rfl | rfl <;> cases d <;> (simp only [kindT]; decide +kernel)
  · rw [if_neg c] at h
    cases b <;> cases h
theorem TgR.kind {K : PySem.W.Frag} {p : Addr} {H : Hp} {v : V} {d : PyData} (h : Da p H v d ∨ Dd H v d) : ∃ ty, TyX K H v (.type ty) ∧ ty = kindT d := by
  rcases h with h | ⟨a, rfl, h⟩
  · cases h with
    | non => exact ⟨_, .base .non, rfl⟩
    | bl b => exact ⟨_, .base (.bl b), rfl⟩
    | int i => exact ⟨_, .base (.int i), rfl⟩
    | str z => exact ⟨_, .base (.str z), rfl⟩
    | lst n e r => exact ⟨_, .base (.lst e), rfl⟩
    | tup n e r => exact ⟨_, .base (.tup e), rfl⟩
  · rcases h with ⟨e, rfl⟩ | ⟨x, i, e, rfl⟩
    · exact ⟨_, .base (.dK e), rfl⟩
    · exact ⟨_, .base (.dK e), rfl⟩
theorem TgR.isW {K : PySem.W.Frag} {p : Addr} {H : Hp} {v : V} {t : Thing} (h : TgR K p H v t) : IsW K H v t.who := by
  cases t with
  | exc C n z =>
    obtain ⟨a, rfl, k, _, nk, _⟩ := h
    exact Or.inr (Isi.exc (Or.inr ⟨z, k⟩) nk.xa nk.ki)
  | dat d =>
    obtain ⟨ty, ht, e⟩ := TgR.kind (K := K) h.1
    cases d with
    | int i =>
      rcases h.1 with h | ⟨a, _, ⟨_, z⟩ | ⟨_, _, _, z⟩⟩
      · cases h; exact rfl
      · cases z
      · cases z
    | bool b =>
      rcases h.1 with h | ⟨a, _, ⟨_, z⟩ | ⟨_, _, _, z⟩⟩
      · cases h; exact Or.inl ⟨b, rfl⟩
      · cases z
      · cases z
    | none => subst e; exact Or.inr (Isi.of ht (kindT_kit _ (by rfl)))
    | str z => subst e; exact Or.inr (Isi.of ht (kindT_kit _ (by rfl)))
    | list ds => subst e; exact Or.inr (Isi.of ht (kindT_kit _ (by rfl)))
    | tuple ds => subst e; exact Or.inr (Isi.of ht (kindT_kit _ (by rfl)))
    | dict ds => subst e; exact Or.inr (Isi.of ht (kindT_kit _ (by rfl)))
theorem TgR.isS {K : PySem.W.Frag} {p : Addr} {H : Hp} {v : V} {t : Thing} (h : TgR K p H v t) : IsS K H 2000 v t.st := by
  cases t with
  | exc C n z =>
    obtain ⟨a, rfl, k, _, nk, _⟩ := h
    exact Isi.exc (Or.inr ⟨z, k⟩) nk.xa nk.ks
  | dat d =>
    obtain ⟨ty, ht, e⟩ := TgR.kind (K := K) h.1
    cases d with
    | str z =>
      have sg := h.2.2.2.2.1 z rfl
      rcases h.1 with h | ⟨a, _, ⟨_, z⟩ | ⟨_, _, _, z⟩⟩
      · cases h; exact ⟨rfl, sg⟩
      · cases z
      · cases z
    | int i => subst e; exact Isi.of ht (kindT_kit _ (by rfl))
    | bool b => subst e; exact Isi.of ht (kindT_kit _ (by rfl))
    | none => subst e; exact Isi.of ht (kindT_kit _ (by rfl))
    | list ds => subst e; exact Isi.of ht (kindT_kit _ (by rfl))
    | tuple ds => subst e; exact Isi.of ht (kindT_kit _ (by rfl))
    | dict ds => subst e; exact Isi.of ht (kindT_kit _ (by rfl))
/-- a tuple, or none -/
def IsP (K : PySem.W.Frag) (p : Addr) (H : Hp) (v : V) : Option (List PyData) → Prop
  | some ds => ∃ a xs, v = .ref a ∧ a ≠ p ∧ H a = some (.tup xs) ∧ DaAll p H xs ds ∧ Fit ds ∧ Isi K H v "tuple" true
  | none => Isi K H v "tuple" false
theorem TgR.isP {K : PySem.W.Frag} {p : Addr} {H : Hp} {v : V} {t : Thing} (h : TgR K p H v t) : IsP K p H v t.tp := by
  cases t with
  | exc C n z =>
    obtain ⟨a, rfl, k, _, nk, _⟩ := h
    exact Isi.exc (Or.inr ⟨z, k⟩) nk.xa nk.kt
  | dat d =>
    obtain ⟨ty, ht, e⟩ := TgR.kind (K := K) h.1
    cases d with
    | tuple ds =>
      have l := h.2.2.2.2.2 ds rfl
      rcases h.1 with h | ⟨a, _, ⟨_, z⟩ | ⟨_, _, _, z⟩⟩
      · cases h with
        | tup n e2 r => subst e; exact ⟨_, _, rfl, n, e2, r, l, Isi.of ht (kindT_kit _ (by rfl))⟩
      · cases z
      · cases z
    | str z => subst e; exact Isi.of ht (kindT_kit _ (by rfl))
    | int i => subst e; exact Isi.of ht (kindT_kit _ (by rfl))
    | bool b => subst e; exact Isi.of ht (kindT_kit _ (by rfl))
    | none => subst e; exact Isi.of ht (kindT_kit _ (by rfl))
    | list ds => subst e; exact Isi.of ht (kindT_kit _ (by rfl))
    | dict ds => subst e; exact Isi.of ht (kindT_kit _ (by rfl))
/-- each thing of a list by what it is as a number -/
theorem Da.isW {K : PySem.W.Frag} {p : Addr} {H : Hp} {v : V} {d : PyData} (h : Da p H v d) : IsW K H v (Thing.who (.dat d)) := by
  obtain ⟨ty, ht, e⟩ := TgR.kind (K := K) (Or.inl h)
  cases h with
  | int i => exact rfl
  | bl b => exact Or.inl ⟨b, rfl⟩
  | non => subst e; exact Or.inr (Isi.of ht (kindT_kit _ (by rfl)))
  | str z => subst e; exact Or.inr (Isi.of ht (kindT_kit _ (by rfl)))
  | lst _ _ _ => subst e; exact Or.inr (Isi.of ht (kindT_kit _ (by rfl)))
  | tup _ _ _ => subst e; exact Or.inr (Isi.of ht (kindT_kit _ (by rfl)))
def rNotInT (K : PySem.W.Frag) : R2 := rIn K true
theorem op_notInTV {X : Cx} {K : PySem.W.Frag} (hK : X.K = K := by rfl) : OpR X (compareOp .NotIn) (rNotInT K) := by
  subst hK
  exact op_notIn_seq
theorem Fit.shaped {ds es : List PyData} (h : Fit ds) (s : ∀ x ∈ es, x ∈ ds) : SeqAt.shaped (.list es) = true := by
  have key : ∀ l : List PyData, (∀ x ∈ l, x.canLay0 = true ∧ x.depth ≤ 5) → PyData.canLayAll0 l = true ∧ PyData.depthAll l ≤ 5 := by
    intro l
    induction l with
    | nil => exact fun _ => ⟨rfl, by simp [PyData.depthAll]⟩
    | cons y ys ih =>
      intro q
      obtain ⟨h1, h2⟩ := ih fun x hx => q x (List.mem_cons_of_mem _ hx)
      obtain ⟨h3, h4⟩ := q y List.mem_cons_self
      refine ⟨by simp [PyData.canLayAll0, h1, h3], ?_⟩
      simp only [PyData.depthAll]
      omega
  obtain ⟨h1, h2⟩ := key es fun x hx => h.2 x (s x hx)
  unfold SeqAt.shaped
  rw [Bool.and_eq_true, decide_eq_true_eq]
  refine ⟨by simp [PyData.canLay0, h1], ?_⟩
  simp only [PyData.depth]
  omega
end Jg
namespace Jg
open PySem PySem.Spec L2 JgX
/-! ### comprehensions over a tuple or a list, whose parts may lay new things -/
def sel (P : Nat → Bool) (F : Nat → V) (n : Nat) : List V := ((List.range n).filter P).map F
theorem sel_zero (P : Nat → Bool) (F : Nat → V) : sel P F 0 = [] := rfl
theorem sel_succ (P : Nat → Bool) (F : Nat → V) (n : Nat) : sel P F (n + 1) = sel P F n ++ (if P n = true then [F n] else []) := by
  unfold sel
  rw [List.range_succ, List.filter_append, List.map_append]
  congr 1
  cases h : P n <;> simp [h]
theorem sel_len (P : Nat → Bool) (F : Nat → V) (n : Nat) : (sel P F n).length ≤ n := by
  unfold sel
  rw [List.length_map]
  exact Nat.le_trans (List.length_filter_le _ _) (by simp)
section
variable {K : PySem.W.Frag} {σ : L2.St} {H : Hp} {Q : VK} {te : TE} {tt : TT} {i : Nat} {a : Addr} {xs : List V}
theorem lc_tupG (P : Nat → Bool) (F : Nat → V) (sq : H a = some (.tup xs)) (hn : xs.length < sizeLine) (wv : ∀ x, wipe ((wipe σ [i]).set i (some x)) [i] = wipe σ [i])
    (hp : ∀ (j : Nat) (x : V) (H2 : Hp) (B : Bool → Hp → Prop), xs[j]? = some x → Same H H2 → (∀ H3, Same H2 H3 → B (P j) H3) → tt ((wipe σ [i]).set i (some x)) H2 B)
    (hs : ∀ (j : Nat) (x : V) (H2 : Hp) (R : VK), xs[j]? = some x → Same H H2 → (∀ H3, Same H2 H3 → R (F j) H3) → te ((wipe σ [i]).set i (some x)) H2 R)
    (q : ∀ D H', H D = none → Same H H' → H' D = some (.lst (sel P F xs.length)) → Q (.ref D) H') : lcB (gName i) tt te [i] σ Q (Itt K a) H := by
  intro D hD
  refine lc_it (n := xs.length) (walk_tup (xs := xs)) (fun j H2 => Same H H2 ∧ (∃ more, H2 D = some (.lst more) ∧ more = sel P F j)) ⟨fun b o e => by rw [upd_ne (ne_of_none e hD)]; exact e, _, upd_same, rfl⟩ (fun j H2 hj h => Or.inl (Or.inl (h.1 _ _ sq))) ?_ ?_
  · rintro j x H2 H3 hj ⟨sm, more, hm, rfl⟩ ⟨rfl, hx⟩
    have hx2 : xs[j]? = some x := hx
    refine ⟨wv x, ?_⟩
    refine hp j x _ _ hx2 sm (fun H4 s4 => ?_)
    by_cases c : P j = true
    · rw [if_pos c]
      refine hs j x _ _ hx2 (fun b o e => s4 _ _ (sm _ _ e)) (fun H5 s5 => ?_)
      have hD5 := s5 _ _ (s4 _ _ hm)
      refine ⟨_, hD5, Nat.lt_of_le_of_lt (sel_len P F j) (Nat.lt_trans hj hn), ?_, _, upd_same, ?_⟩
      · intro b o e
        rw [upd_ne (ne_of_none e hD)]
        exact s5 _ _ (s4 _ _ (sm _ _ e))
      · rw [sel_succ, if_pos c]
    · rw [if_neg c]
      refine ⟨fun b o e => s4 _ _ (sm _ _ e), _, s4 _ _ hm, ?_⟩
      rw [sel_succ, if_neg c, List.append_nil]
  · rintro H2 ⟨sm, more, hm, rfl⟩
    exact q D H2 hD sm hm
end
end Jg
namespace Jg
open PySem PySem.Spec L2 JgX
theorem g_notInT {K : PySem.W.Frag} {H : Hp} {Q : VK} {x : V} {p : Addr} {xs : List V} (h : SqT K H p xs) (fx : flatV x = true) (fs : xs.all flatV = true) (q : Q (.bl (!inV x xs)) H) : rNotInT K x (.ref p) H Q := ⟨p, xs, rfl, Or.inr h, fx, fs, q⟩
/-- [f(k) for k in range(n)], nothing laid -/
theorem lc_rngF {σ : L2.St} {H : Hp} {Q : VK} {te : TE} {i n : Nat} (F : Nat → V) (hn : n < sizeLine) (wv : ∀ x, wipe ((wipe σ [i]).set i (some x)) [i] = wipe σ [i])
    (hs : ∀ (j : Nat) (H2 : Hp) (R : VK), j < n → Same H H2 → R (F j) H2 → te ((wipe σ [i]).set i (some (.int (0 + (j : Nat))))) H2 R)
    (q : ∀ D, H D = none → Q (.ref D) (upd H D (.lst ((List.range n).map F)))) : lcB (gName i) tYes te [i] σ Q (Itr 0 n) H := by
  intro D hD
  refine lc_it (n := n) walk_range (fun j H2 => H2 = upd H D (.lst ((List.range j).map F))) rfl (fun _ _ _ _ => trivial) ?_ ?_
  · rintro j x H2 H3 hj rfl ⟨rfl, rfl⟩
    refine ⟨wv _, ?_⟩
    with_reducible refine g_tyes ?_
    with_reducible refine g_true ?_
    refine hs j _ _ hj (fun b o e => by rw [upd_ne (ne_of_none e hD)]; exact e) ?_
    refine ⟨_, upd_same, by simp; omega, ?_⟩
    rw [upd_upd, List.range_succ, List.map_append]
    rfl
  · rintro H2 rfl
    exact q D hD
/-- a list of texts, held against the empty one -/
theorem g_texts0 {K : PySem.W.Frag} {H : Hp} {Q : VK} {p q : Addr} {ys : List Str} (h1 : H p = some (.lst (ys.map V.str))) (h2 : H q = some (.lst [])) (ok : ∀ y ∈ ys, PyData.strOk y = true) (r : Q (.bl ys.isEmpty) H) : rEqD K (.ref p) (.ref q) H Q := by
  refine ⟨.list (ys.map .str), .list [], .lst (Or.inl (Or.inl h1)) (dp_texts K H ys), .lst (Or.inl (Or.inl h2)) .nil, shaped_texts ok, rfl, ?_⟩
  cases ys with
  | nil => exact r
  | cons y ys => exact r
/-- parts of a list, held against the empty one -/
theorem g_data0 {K : PySem.W.Frag} {H : Hp} {Q : VK} {p q : Addr} {xs : List V} {es : List PyData} (h1 : H p = some (.lst xs)) (h2 : H q = some (.lst [])) (d : DpAll K H xs es) (sh : SeqAt.shaped (.list es) = true) (r : Q (.bl xs.isEmpty) H) : rEqD K (.ref p) (.ref q) H Q := by
  refine ⟨.list es, .list [], .lst (Or.inl (Or.inl h1)) d, .lst (Or.inl (Or.inl h2)) .nil, sh, rfl, ?_⟩
  cases d with
  | nil => exact r
  | cons a b => exact r
end Jg
namespace Jg
open PySem PySem.Spec L2 JgX
theorem all_bg {H H' : Hp} {p : Addr} {n : Nat} (s : All H H') (B : Bg H p n) : Bg H' p n := by
  obtain ⟨a, b, c, e, r⟩ := B
  exact ⟨a, b, c, s _ _ e, r⟩
theorem all_mv {H H' : Hp} (p : Addr) (s : All H H') : Mv p H H' := fun b o _ e => s b o e
end Jg
namespace Jg
open PySem PySem.Spec L2 JgX
section
variable {K : PySem.W.Frag} {H : Hp} {Q : VK}
theorem g_slL {a : Addr} {xs : List V} {l h : Option Int} (sq : H a = some (.lst xs)) (q : ∀ p, H p = none → Q (.ref p) (upd H p (.lst (cutV xs l h)))) : rSlL K (.ref a) l h H Q := ⟨a, xs, rfl, Or.inl (Or.inl sq), q⟩
theorem g_cat {a b : Addr} {xs zs : List V} (h1 : H a = some (.lst xs)) (h2 : H b = some (.lst zs)) (hz : xs.length + zs.length ≤ sizeLine) (q : ∀ p, H p = none → Q (.ref p) (upd H p (.lst (xs ++ zs)))) : rCat (.ref a) (.ref b) H Q := ⟨a, b, xs, zs, rfl, rfl, h1, h2, hz, q⟩
theorem g_tupOf {a : Addr} {xs : List V} (sq : H a = some (.lst xs)) (q : ∀ l, H l = none → Q (.ref l) (upd H l (.tup xs))) : ∃ p ys, [V.ref a] = [.ref p] ∧ ((SqL K H p ys ∧ ∀ l, H l = none → Q (.ref l) (upd H l (.tup ys))) ∨ (SqT K H p ys ∧ Q (.ref p) H)) := ⟨a, xs, rfl, Or.inl ⟨Or.inl (Or.inl sq), q⟩⟩
end
theorem cutV_sub {xs : List V} {l h : Option Int} : (∀ v ∈ cutV xs l h, v ∈ xs) ∧ (cutV xs l h).length ≤ xs.length := by
  unfold cutV
  refine ⟨fun v hv => List.mem_of_mem_drop (List.mem_of_mem_take hv), ?_⟩
  rw [List.length_take, List.length_drop]
  omega
/-- a small thing: what stands in a spot -/
def smD (d : PyData) : Bool := d.showable && decide (d.depth ≤ 2) && decide (d.shown.length ≤ 40) && d.canLay0
def SmV (p : Addr) (H : Hp) (v : V) : Prop := ∃ d, Da p H v d ∧ smD d = true
theorem SmV.mv {p : Addr} {H H' : Hp} {v : V} (m : Mv p H H') (h : SmV p H v) : SmV p H' v := by
  obtain ⟨d, a, b⟩ := h
  exact ⟨d, a.mv m, b⟩
theorem sm_all {p : Addr} {H : Hp} : ∀ {vs : List V}, (∀ v ∈ vs, SmV p H v) → ∃ ds, DaAll p H vs ds ∧ (∀ d ∈ ds, smD d = true) ∧ ds.length = vs.length
  | [], _ => ⟨[], .nil, by simp, rfl⟩
  | v :: vs, h => by
    obtain ⟨d, h1, h2⟩ := h v List.mem_cons_self
    obtain ⟨ds, h3, h4, h5⟩ := sm_all fun v hv => h v (List.mem_cons_of_mem _ hv)
    refine ⟨d :: ds, .cons h1 h3, fun x hx => ?_, by simp [h5]⟩
    rcases List.mem_cons.mp hx with rfl | hx
    · exact h2
    · exact h4 _ hx
theorem sm_shown : ∀ {ds : List PyData}, (∀ d ∈ ds, smD d = true) → PyData.showableAll ds = true ∧ PyData.depthAll ds ≤ 2 ∧ ((PyData.shownAll ds).map (·.length)).sum ≤ ds.length * 40 ∧ (PyData.shownAll ds).length = ds.length
  | [], _ => ⟨rfl, by simp [PyData.depthAll], by simp [PyData.shownAll], rfl⟩
  | d :: ds, h => by
    obtain ⟨h1, h2, h3, h4⟩ := sm_shown fun v hv => h v (List.mem_cons_of_mem _ hv)
    have h5 := h d List.mem_cons_self
    unfold smD at h5
    rw [Bool.and_eq_true, Bool.and_eq_true, Bool.and_eq_true, decide_eq_true_eq, decide_eq_true_eq] at h5
    obtain ⟨⟨⟨a1, a2⟩, a3⟩, a4⟩ := h5
    refine ⟨by simp only [PyData.showableAll, a1, h1, Bool.and_self], ?_, ?_, by simp only [PyData.shownAll, List.length_cons, h4]⟩
    · simp only [PyData.depthAll]
      exact Nat.max_le.mpr ⟨a2, h2⟩
    · simp only [PyData.shownAll, List.map_cons, List.sum_cons, List.length_cons]
      omega
/-- what is told of data at once -/
theorem sm_tup {K : PySem.W.Frag} {p a : Addr} {H : Hp} {vs : List V} (n : a ≠ p) (e : H a = some (.tup vs)) (h : ∀ v ∈ vs, SmV p H v) (l : vs.length ≤ 60) : ∃ t, TgR K p H (.ref a) t := by
  obtain ⟨ds, h1, h2, h3⟩ := sm_all h
  obtain ⟨h4, h5, h6, h7⟩ := sm_shown h2
  have h8 := tupleText_len_le (PyData.shownAll ds)
  refine ⟨.dat (.tuple ds), Or.inl (.tup n e h1), by simpa only [PyData.showable] using h4, by simp only [PyData.depth]; omega, ?_, fun z hz => by (cases hz), fun es he => ?_⟩
  · show (tupleText (PyData.shownAll ds)).length ≤ _
    omega
  · cases he
    refine ⟨by omega, fun x hx => ?_⟩
    have := h2 x hx
    unfold smD at this
    rw [Bool.and_eq_true, Bool.and_eq_true, Bool.and_eq_true, decide_eq_true_eq, decide_eq_true_eq] at this
    exact ⟨this.2, by omega⟩
theorem sm_lst {K : PySem.W.Frag} {p a : Addr} {H : Hp} {vs : List V} (n : a ≠ p) (e : H a = some (.lst vs)) (h : ∀ v ∈ vs, SmV p H v) (l : vs.length ≤ 60) : ∃ t, TgR K p H (.ref a) t := by
  obtain ⟨ds, h1, h2, h3⟩ := sm_all h
  obtain ⟨h4, h5, h6, h7⟩ := sm_shown h2
  have h8 := listText_len_le (PyData.shownAll ds)
  refine ⟨.dat (.list ds), Or.inl (.lst n e h1), by simpa only [PyData.showable] using h4, by simp only [PyData.depth]; omega, ?_, fun z hz => by (cases hz), fun es he => by (cases he)⟩
  show (listText (PyData.shownAll ds)).length ≤ _
  omega
/-! ### a number or a truth and a number -/
def IntB (x : V) (i : Int) : Prop := x = .int i ∨ ∃ b : Bool, x = .bl b ∧ i = if b = true then 1 else 0
def rAddA : R2 := fun x y H Q => ∃ i j, IntB x i ∧ y = .int j ∧ Q (.int (i + j)) H
theorem op_addA {X : Cx} : OpR X (binaryOp .Add) rAddA := by
  intro pins s σ H x y v u Q I rx ry h
  obtain ⟨i, j, hx, rfl, q⟩ := h
  obtain ⟨t, rfl⟩ := ry
  rcases hx with rfl | ⟨b, rfl, rfl⟩
  · obtain ⟨t2, rfl⟩ := rx
    exact PyProof.Rows.add_int ⟨.int (i + j), H, I.tok _, ⟨_, rfl⟩, q⟩
  · cases rx
    exact PySem.IntBool.add_bool_int ⟨.int ((if b = true then 1 else 0) + j), H, I.tok _, ⟨_, rfl⟩, q⟩
theorem g_addA {x : V} {i j : Int} {H : Hp} {Q : VK} (h : IntB x i) (q : Q (.int (i + j)) H) : rAddA x (.int j) H Q := ⟨i, j, h, rfl, q⟩
theorem TgR.isI {K : PySem.W.Frag} {p : Addr} {H : Hp} {v : V} {t : Thing} (h : TgR K p H v t) : ∃ b, Isi K H v "int" b ∧ (b = true → ∃ i, IntB v i) := by
  have w := h.isW
  cases e : t.who with
  | some i =>
    rw [e] at w
    have w : v = .int i := w
    subst w
    exact ⟨true, isi_i i, fun _ => ⟨i, Or.inl rfl⟩⟩
  | none =>
    rw [e] at w
    rcases w with ⟨b, rfl⟩ | w
    · exact ⟨true, isi_b b, fun _ => ⟨_, Or.inr ⟨b, rfl, rfl⟩⟩⟩
    · exact ⟨false, w, fun z => by cases z⟩
theorem tg_int {K : PySem.W.Frag} {p : Addr} {H : Hp} {z : Int} (h0 : -1000000000000000000000000000000 ≤ z) (h1 : z ≤ 1000000000000000000000000000000) : TgR K p H (.int z) (.dat (.int z)) := by
  have lg : z.natAbs.log2 < 1920 := by
    have a : z.natAbs ≤ 1000000000000000000000000000000 := by omega
    by_cases c : z.natAbs = 0
    · rw [c]
      decide
    · rw [Nat.log2_lt c]
      exact Nat.lt_of_le_of_lt a (by decide +kernel)
  refine ⟨Or.inl (.int z), by simpa only [PyData.showable, decide_eq_true_eq] using lg, by simp only [PyData.depth]; omega, ?_, fun y hy => by (cases hy), fun y hy => by (cases hy)⟩
  exact Nat.le_trans (PyProof.Rows.int_text_len_1921 lg) (by decide : 1921 ≤ 100000)
theorem tg_str {K : PySem.W.Frag} {p : Addr} {H : Hp} {z : Str} (h : Sg z 200) : TgR K p H (.str z) (.dat (.str z)) := by
  refine ⟨Or.inl (.str z), by simp only [PyData.showable], by simp only [PyData.depth]; omega, ?_, fun y hy => by (cases hy; exact h.mono (by decide)), fun y hy => by (cases hy)⟩
  have l := StrLaws.reprText_len z fun c hc => Nat.lt_trans (h.2 c hc) (by decide)
  have l2 := h.1
  show (reprText z).length ≤ _
  omega
/-- one of two, by a truth -/
theorem g_ite {c : Bool} {x y : V} {H : Hp} {Q : VK} (q : Q (if c = true then x else y) H) : if c = true then Q x H else Q y H := by
  cases c
  · exact q
  · exact q
theorem g_iteV {c : Bool} {i : Nat} {σ : L2.St} {v y : V} {H : Hp} {Q : VK} (e : σ[i]? = some (some v)) (q : Q (if c = true then v else y) H) : if c = true then tVar i σ H Q else tC y σ H Q := by
  cases c
  · exact q
  · exact ⟨v, e, q⟩
theorem g_cut {te : TE} {σ : L2.St} {H : Hp} {Q : VK} (R : V → Hp → Prop) (h : ∀ Q : VK, (∀ v H', R v H' → Q v H') → te σ H Q) (q : ∀ v H', R v H' → Q v H') : te σ H Q := h Q q
theorem same_mv {H H' : Hp} (p : Addr) (s : Same H H') : Mv p H H' := fun b o _ e => s b o e
end Jg
namespace K01
open PySem PySem.Spec L2 Jg
def top (i : Nat) : Stmt := PySem.Challenge.pw_termshelf_k01_marks_of_any_thing.main.body.getD i (.Pass ⟨0, 0, 0, 0⟩)
abbrev s_law_cell : Stmt := top 19
abbrev n_law_cell : List Str := ["_law_script", "_law_k"]
theorem sc_law_cell : FnScope n_law_cell ["_law_script", "_law_k"] (defScope s_law_cell) := ⟨rfl, rfl, rfl, by decide +kernel, rfl, by decide +kernel, by decide +kernel⟩
abbrev s_law_bag : Stmt := top 20
abbrev n_law_bag : List Str := ["_law_cell_here"]
theorem sc_law_bag : FnScope n_law_bag ["_law_cell_here"] (defScope s_law_bag) := ⟨rfl, rfl, rfl, by decide +kernel, rfl, by decide +kernel, by decide +kernel⟩
abbrev s_law_take : Stmt := top 21
abbrev n_law_take : List Str := ["_law_bag_here", "_law_many", "_law_digit", "_law_number_here"]
theorem sc_law_take : FnScope n_law_take ["_law_bag_here", "_law_many"] (defScope s_law_take) := ⟨rfl, rfl, rfl, by decide +kernel, rfl, by decide +kernel, by decide +kernel⟩
abbrev s_is_whole : Stmt := top 12
abbrev n_is_whole : List Str := ["thing", "low", "high"]
theorem sc_is_whole : FnScope n_is_whole ["thing", "low", "high"] (defScope s_is_whole) := ⟨rfl, rfl, rfl, by decide +kernel, rfl, by decide +kernel, by decide +kernel⟩
abbrev s_consists_of : Stmt := top 13
abbrev n_consists_of : List Str := ["text", "marks"]
theorem sc_consists_of : FnScope n_consists_of ["text", "marks"] (defScope s_consists_of) := ⟨rfl, rfl, rfl, by decide +kernel, rfl, by decide +kernel, by decide +kernel⟩
abbrev s_is_figures : Stmt := top 16
abbrev n_is_figures : List Str := ["text"]
theorem sc_is_figures : FnScope n_is_figures ["text"] (defScope s_is_figures) := ⟨rfl, rfl, rfl, by decide +kernel, rfl, by decide +kernel, by decide +kernel⟩
abbrev s_law_whole : Stmt := top 22
abbrev n_law_whole : List Str := ["_law_thing"]
theorem sc_law_whole : FnScope n_law_whole ["_law_thing"] (defScope s_law_whole) := ⟨rfl, rfl, rfl, by decide +kernel, rfl, by decide +kernel, by decide +kernel⟩
abbrev s_is_name : Stmt := top 14
abbrev n_is_name : List Str := ["thing"]
theorem sc_is_name : FnScope n_is_name ["thing"] (defScope s_is_name) := ⟨rfl, rfl, rfl, by decide +kernel, rfl, by decide +kernel, by decide +kernel⟩
abbrev s_is_letter : Stmt := top 15
abbrev n_is_letter : List Str := ["thing"]
theorem sc_is_letter : FnScope n_is_letter ["thing"] (defScope s_is_letter) := ⟨rfl, rfl, rfl, by decide +kernel, rfl, by decide +kernel, by decide +kernel⟩
abbrev s_is_spot : Stmt := top 17
abbrev n_is_spot : List Str := ["thing", "number"]
theorem sc_is_spot : FnScope n_is_spot ["thing"] (defScope s_is_spot) := ⟨rfl, rfl, rfl, by decide +kernel, rfl, by decide +kernel, by decide +kernel⟩
abbrev s_law_is : Stmt := top 32
abbrev n_law_is : List Str := ["_law_found", "_law_due"]
theorem sc_law_is : FnScope n_law_is ["_law_found", "_law_due"] (defScope s_law_is) := ⟨rfl, rfl, rfl, by decide +kernel, rfl, by decide +kernel, by decide +kernel⟩
abbrev s_law_number : Stmt := top 24
abbrev n_law_number : List Str := ["_law_bag_here", "_law_some"]
theorem sc_law_number : FnScope n_law_number ["_law_bag_here"] (defScope s_law_number) := ⟨rfl, rfl, rfl, by decide +kernel, rfl, by decide +kernel, by decide +kernel⟩
abbrev s_law_is_name : Stmt := top 29
abbrev n_law_is_name : List Str := ["_law_thing", "_law_small", "_law_sign"]
theorem sc_law_is_name : FnScope n_law_is_name ["_law_thing"] (defScope s_law_is_name) := ⟨rfl, rfl, rfl, by decide +kernel, rfl, by decide +kernel, by decide +kernel⟩
abbrev s_law_is_letter : Stmt := top 30
abbrev n_law_is_letter : List Str := ["_law_thing", "_law_number_here"]
theorem sc_law_is_letter : FnScope n_law_is_letter ["_law_thing"] (defScope s_law_is_letter) := ⟨rfl, rfl, rfl, by decide +kernel, rfl, by decide +kernel, by decide +kernel⟩
abbrev s_law_is_spot : Stmt := top 31
abbrev n_law_is_spot : List Str := ["_law_thing", "_law_one"]
theorem sc_law_is_spot : FnScope n_law_is_spot ["_law_thing"] (defScope s_law_is_spot) := ⟨rfl, rfl, rfl, by decide +kernel, rfl, by decide +kernel, by decide +kernel⟩
abbrev s_law_spoilt : Stmt := top 25
abbrev n_law_spoilt : List Str := ["_law_bag_here", "_law_text_here", "_law_signs", "_law_sign", "_law_at", "_law_way"]
theorem sc_law_spoilt : FnScope n_law_spoilt ["_law_bag_here", "_law_text_here"] (defScope s_law_spoilt) := ⟨rfl, rfl, rfl, by decide +kernel, rfl, by decide +kernel, by decide +kernel⟩
abbrev s_law_text : Stmt := top 26
abbrev n_law_text : List Str := ["_law_bag_here", "_law_small", "_law_k", "_law_letter", "_law_number_here"]
theorem sc_law_text : FnScope n_law_text ["_law_bag_here"] (defScope s_law_text) := ⟨rfl, rfl, rfl, by decide +kernel, rfl, by decide +kernel, by decide +kernel⟩
abbrev s_law_odd : Stmt := top 28
abbrev n_law_odd : List Str := ["_law_bag_here"]
theorem sc_law_odd : FnScope n_law_odd ["_law_bag_here"] (defScope s_law_odd) := ⟨rfl, rfl, rfl, by decide +kernel, rfl, by decide +kernel, by decide +kernel⟩
abbrev s_law_any : Stmt := top 23
abbrev n_law_any : List Str := ["_law_bag_here", "_law_some"]
theorem sc_law_any : FnScope n_law_any ["_law_bag_here"] (defScope s_law_any) := ⟨rfl, rfl, rfl, by decide +kernel, rfl, by decide +kernel, by decide +kernel⟩
abbrev s_law_spot : Stmt := top 27
abbrev n_law_spot : List Str := ["_law_bag_here", "_law_found", "_law_k", "_law_at", "_law_odd_here"]
theorem sc_law_spot : FnScope n_law_spot ["_law_bag_here"] (defScope s_law_spot) := ⟨rfl, rfl, rfl, by decide +kernel, rfl, by decide +kernel, by decide +kernel⟩
abbrev s_law_right : Stmt := top 33
abbrev n_law_right : List Str := ["_law_bag_here", "_law_thing", "_law_base", "_law_low", "_law_high", "_law_due", "_law_text_here", "_law_spot_here", "_law_kept", "_law_turn", "_law_one"]
theorem sc_law_right : FnScope n_law_right ["_law_bag_here"] (defScope s_law_right) := ⟨rfl, rfl, rfl, by decide +kernel, rfl, by decide +kernel, by decide +kernel⟩
abbrev s_law : Stmt := top 34
abbrev n_law : List Str := ["_law_script", "_law_k"]
theorem sc_law : FnScope n_law ["_law_script"] (defScope s_law) := ⟨rfl, rfl, rfl, by decide +kernel, rfl, by decide +kernel, by decide +kernel⟩
abbrev xs_NoLetter : Stmt := inClass (top 2) 0
theorem zx_NoLetter : JgX.XSt xs_NoLetter "found" "found" := ⟨⟨_, _, _, _, _, _, _, _, _, _, _, rfl, fun _ => ⟨_, rfl⟩, fun _ => rfl, fun _ => rfl⟩, rfl, rfl, rfl, rfl, rfl, by decide +kernel, rfl, rfl, ⟨_, rfl, rfl⟩, by decide, by decide⟩
theorem zy_NoLetter : JgX.XSz xs_NoLetter "found" "found" "no letter" := ⟨_, _, _, _, _, _, _, _, _, _, rfl, fun _ => ⟨_, rfl⟩, fun _ => rfl, fun _ => rfl⟩
abbrev xs_NoNumber : Stmt := inClass (top 3) 0
theorem zx_NoNumber : JgX.XSt xs_NoNumber "found" "found" := ⟨⟨_, _, _, _, _, _, _, _, _, _, _, rfl, fun _ => ⟨_, rfl⟩, fun _ => rfl, fun _ => rfl⟩, rfl, rfl, rfl, rfl, rfl, by decide +kernel, rfl, rfl, ⟨_, rfl, rfl⟩, by decide, by decide⟩
theorem zy_NoNumber : JgX.XSz xs_NoNumber "found" "found" "no number" := ⟨_, _, _, _, _, _, _, _, _, _, rfl, fun _ => ⟨_, rfl⟩, fun _ => rfl, fun _ => rfl⟩

open JgX
def figT (z : Str) : Bool := (TL.tl z).all digit && (decide ((TL.tl z).head? ≠ some 48) || decide ((TL.tl z).length = 1))
theorem plain_fig (z : Str) : plainT z = (decide (1 ≤ (TL.tl z).length) && decide ((TL.tl z).length ≤ 30) && figT z) := by
  unfold plainT figT
  simp [Bool.and_assoc]

def nameQ (z : Str) : Bool := decide (1 ≤ z.length) && decide (z.length ≤ 8) && (TL.tl z).all fun c => decide (97 ≤ c) && decide (c ≤ 122)
def nameO : Option Str → Bool
  | some z => nameQ z
  | none => false
def capH (z : Str) : Bool := match (TL.tl z).head? with | some c => decide (65 ≤ c) && decide (c ≤ 90) | none => false
def letQ (z : Str) : Bool := decide (1 ≤ z.length) && decide (z.length ≤ 3) && (capH z && (decide (z.length = 1) || figT (cutS z (some 1) none)))
def letO : Option Str → Bool
  | some z => letQ z
  | none => false
def spotQ (ds : List PyData) : Bool := decide (ds.length ≤ 16) && ds.all fun d => wholeB 0 3 (Thing.who (.dat d))
def spotO : Option (List PyData) → Bool
  | some ds => spotQ ds
  | none => false
theorem cap_head {z : Str} {c : Nat} {r : List Nat} (h : TL.tl z = c :: r) : capH z = (decide (65 ≤ c) && decide (c ≤ 90)) := by
  unfold capH
  rw [h]
  rfl
def atD (f : PyData → Bool) (ds : List PyData) (j : Nat) : Bool := match ds[j]? with | some d => f d | none => false
theorem range_at (f : PyData → Bool) (ds : List PyData) : (List.range ds.length).map (atD f ds) = ds.map f := by
  refine List.ext_getElem (by simp) fun i h1 h2 => ?_
  simp at h1
  simp [atD, h1]
theorem cut1_len {z : Str} (h : 1 ≤ z.length) : (cutS z (some 1) none).length = z.length - 1 ∧ TL.tl (cutS z (some 1) none) = (TL.tl z).drop 1 := by
  have e : TL.tl (cutS z (some 1) none) = (TL.tl z).drop 1 := by
    unfold cutS
    rw [TL.tl_mk, HT.sIx_none, show (1 : Int) = ((1 : Nat) : Int) from rfl, HT.sIx_nat]
    rw [TL.len_tl] at h ⊢
    show (List.drop (min 1 (TL.tl z).length) (TL.tl z)).take _ = _
    rw [Nat.min_eq_left h]
    exact List.take_of_length_le (by rw [List.length_drop]; exact Nat.le_refl _)
  refine ⟨?_, e⟩
  rw [TL.len_tl, e, List.length_drop, TL.len_tl]
theorem smalls (c : Nat) : decide (c ∈ (Str.ofString "abcdefghijklmnopqrstuvwxyz").cps.toList) = (decide (97 ≤ c) && decide (c ≤ 122)) := by
  have : (Str.ofString "abcdefghijklmnopqrstuvwxyz").cps.toList = [97, 98, 99, 100, 101, 102, 103, 104, 105, 106, 107, 108, 109, 110, 111, 112, 113, 114, 115, 116, 117, 118, 119, 120, 121, 122] := by decide +kernel
  rw [this, Bool.eq_iff_iff]
  simp only [List.mem_cons, List.not_mem_nil, or_false, decide_eq_true_eq, Bool.and_eq_true]
  omega
theorem caps (c : Nat) : decide (c ∈ (Str.ofString "ABCDEFGHIJKLMNOPQRSTUVWXYZ").cps.toList) = (decide (65 ≤ c) && decide (c ≤ 90)) := by
  have : (Str.ofString "ABCDEFGHIJKLMNOPQRSTUVWXYZ").cps.toList = [65, 66, 67, 68, 69, 70, 71, 72, 73, 74, 75, 76, 77, 78, 79, 80, 81, 82, 83, 84, 85, 86, 87, 88, 89, 90] := by decide +kernel
  rw [this, Bool.eq_iff_iff]
  simp only [List.mem_cons, List.not_mem_nil, or_false, decide_eq_true_eq, Bool.and_eq_true]
  omega
def fig2 (l : List Nat) : Bool := l.all digit && (decide (l.head? ≠ some 48) || decide (l.length = 1))
theorem fig_fig2 (z : Str) : figT z = fig2 (TL.tl z) := rfl
def numsL : List (List Nat) := (List.range 10).map (fun a => [48 + a]) ++ (List.range 90).map (fun k => [48 + (k + 10) / 10, 48 + (k + 10) % 10])
theorem nums_eq : (List.range 100).map (fun n => TL.tl (Str.ofString (toString ((0 : Int) + (n : Nat))))) = numsL := by decide +kernel
theorem mem_nums (l : List Nat) : (decide (l = []) || (numsL.any fun y => decide (y = l))) = (decide (l.length ≤ 2) && (decide (l = []) || fig2 l)) := by
  rw [Bool.eq_iff_iff]
  simp only [numsL, List.any_append, List.any_map, Bool.or_eq_true, List.any_eq_true, List.mem_range, Function.comp, decide_eq_true_eq, Bool.and_eq_true]
  match l with
  | [] => simp
  | [c] =>
    simp [fig2, digit]
    constructor
    · rintro ⟨x, hx, e⟩
      omega
    · intro h
      exact ⟨c - 48, by omega, by omega⟩
  | [c, d] =>
    simp [fig2, digit]
    constructor
    · rintro ⟨x, hx, e1, e2⟩
      omega
    · intro h
      exact ⟨(c - 48) * 10 + (d - 48) - 10, by omega, by omega, by omega⟩
  | c :: d :: e :: r => simp
theorem letter_due {z : Str} {c : Nat} {r : List Nat} (h : TL.tl z = c :: r) (hc : (decide (65 ≤ c) && decide (c ≤ 90)) = true) : letQ z = (decide (TL.tl (cutS z (some 1) none) = []) || numsL.any fun y => decide (y = TL.tl (cutS z (some 1) none))) := by
  have l : z.length = r.length + 1 := by rw [TL.len_tl, h]; rfl
  have e : TL.tl (cutS z (some 1) none) = r := by rw [(cut1_len (by omega)).2, h]; rfl
  rw [mem_nums, e]
  unfold letQ
  rw [cap_head h, hc, Bool.true_and, fig_fig2, e, decide_eq_true (show 1 ≤ z.length by omega), Bool.true_and, l]
  have a : decide (r.length + 1 ≤ 3) = decide (r.length ≤ 2) := by rw [Bool.eq_iff_iff, decide_eq_true_eq, decide_eq_true_eq]; omega
  have b : decide (r.length + 1 = 1) = decide (r = []) := by rw [Bool.eq_iff_iff, decide_eq_true_eq, decide_eq_true_eq]; cases r <;> simp
  rw [a, b]
theorem str_tl {x y : Str} : x = y ↔ TL.tl x = TL.tl y := ⟨fun h => by rw [h], TL.ext_tl⟩
theorem inV_nums (w : Str) : inV (.str w) ((List.range 100).map fun j => V.str (Str.ofString (toString ((0 : Int) + (j : Nat))))) = numsL.any fun y => decide (y = TL.tl w) := by
  unfold inV
  rw [← nums_eq, List.any_map, List.any_map]
  congr 1
  funext j
  show decide (Str.ofString (toString ((0 : Int) + (j : Nat))) = w) = decide (TL.tl (Str.ofString (toString ((0 : Int) + (j : Nat)))) = TL.tl w)
  rw [Bool.eq_iff_iff, decide_eq_true_eq, decide_eq_true_eq]
  exact str_tl
theorem dp_pick {K : PySem.W.Frag} {p : Addr} {H : Hp} {xs : List V} {ds : List PyData} (da : DaAll p H xs ds) : ∀ l : List Nat, (∀ j ∈ l, j < xs.length) → DpAll K H (l.map fun j => xs.getD j .non) (l.map fun j => ds.getD j .none)
  | [], _ => .nil
  | j :: l, h => by
    have hj := h j List.mem_cons_self
    have e : xs[j]? = some xs[j] := by simp [hj]
    obtain ⟨d, hd, dd⟩ := da.get j _ e
    refine .cons ?_ (dp_pick da l fun i hi => h i (List.mem_cons_of_mem _ hi))
    show Dp K H (xs.getD j .non) (ds.getD j .none)
    rw [List.getD_eq_getElem?_getD, List.getD_eq_getElem?_getD, e, hd]
    exact dd.dp K
theorem none_left (f : PyData → Bool) (ds : List PyData) : ((List.range ds.length).filter fun j => !atD f ds j).isEmpty = ds.all f := by
  have e := range_at f ds
  rw [Bool.eq_iff_iff, List.isEmpty_iff, List.filter_eq_nil_iff, List.all_eq_true]
  constructor
  · intro h x hx
    obtain ⟨j, hj, rfl⟩ := List.getElem_of_mem hx
    have := h j (List.mem_range.mpr hj)
    simpa [atD, hj] using this
  · intro h j hj
    have hj := List.mem_range.mp hj
    have := h _ (List.getElem_mem hj)
    simp [atD, hj, this]
theorem up_small : ∀ c : Fin 123, 97 ≤ (c : Nat) → Txt.upper ⟨#[(c : Nat)]⟩ = ⟨#[(c : Nat) - 32]⟩ := by decide +kernel
theorem sg_num : ∀ n : Fin 121, Sg (Str.ofString (toString ((n : Nat) : Int))) 3 := by
  have h : ∀ n : Fin 121, (decide ((Str.ofString (toString ((n : Nat) : Int))).length ≤ 3) && (TL.tl (Str.ofString (toString ((n : Nat) : Int)))).all (fun c => decide (c < 1114112))) = true := by decide +kernel
  exact fun n => Sg.of (h n)
/-- what is told of data at once -/
def okD (d : PyData) : Bool := d.showable && decide (d.depth ≤ 20) && decide (d.shown.length ≤ 100000) && (match d with
  | .str z => decide (z.length ≤ 2000) && (TL.tl z).all (fun c => decide (c < 1114112))
  | .tuple ds => decide (ds.length ≤ 100) && ds.all (fun x => x.canLay0 && decide (x.depth ≤ 5))
  | _ => true)
theorem okD_R {K : PySem.W.Frag} {p : Addr} {H : Hp} {v : V} {d : PyData} (h : Da p H v d ∨ Dd H v d) (e : okD d = true) : TgR K p H v (.dat d) := by
  unfold okD at e
  rw [Bool.and_eq_true, Bool.and_eq_true, Bool.and_eq_true, decide_eq_true_eq, decide_eq_true_eq] at e
  obtain ⟨⟨⟨e1, e2⟩, e3⟩, e4⟩ := e
  refine ⟨h, e1, e2, e3, fun z hz => ?_, fun ds hd => ?_⟩
  · subst hz
    exact Sg.of e4
  · subst hd
    have e5 : (decide (ds.length ≤ 100) && ds.all (fun x => x.canLay0 && decide (x.depth ≤ 5))) = true := e4
    rw [Bool.and_eq_true, decide_eq_true_eq, List.all_eq_true] at e5
    refine ⟨e5.1, fun x hx => ?_⟩
    have := e5.2 x hx
    rw [Bool.and_eq_true, decide_eq_true_eq] at this
    exact this
theorem plainR {K : PySem.W.Frag} {p : Addr} {H : Hp} {v : V} {d : PyData} (h : Da p H v d) (_ : true = true) (e : okD d = true) : TgR K p H v (.dat d) := okD_R (Or.inl h) e
theorem dictR {K : PySem.W.Frag} {p : Addr} {H : Hp} {v : V} {d : PyData} (h : Dd H v d) (_ : true = true) (e : okD d = true) : TgR K p H v (.dat d) := okD_R (Or.inr h) e
def sp_law_cell (K : PySem.W.Frag) : Sp := fun vs H Q E =>
  ∃ (a : Addr) (ns : List Int) (k : Nat), vs = [.ref a, .int (k : Int)] ∧ SqL K H a (ns.map V.int) ∧ k ≤ 63 ∧ ∀ z : Int, Q (.int z) H
def sp_law_bag (K : PySem.W.Frag) : Sp := fun vs H Q E =>
  ∃ (z : Int), vs = [.int z] ∧ ∀ p H', H p = none → Same H H' → Bg H' p 0 → Q (.ref p) H'
def sp_law_take (K : PySem.W.Frag) : Sp := fun vs H Q E =>
  ∃ (p : Addr) (m : Int) (n : Nat), vs = [.ref p, .int m] ∧ 0 < m ∧ m < 2 ^ 120 ∧ n ≤ 1000000 ∧ Bg H p n ∧ ∀ (z : Int) (H' : Hp), 0 ≤ z → z < m → Bg H' p (n + 1) → Mv p H H' → Q (.int z) H'
def sp_is_whole (K : PySem.W.Frag) : Sp := fun vs H Q E =>
  ∃ (v : V) (o : Option Int) (lo hi : Int), vs = [v, .int lo, .int hi] ∧ IsW K H v o ∧ Q (.bl (wholeB lo hi o)) H
def sp_consists_of (K : PySem.W.Frag) : Sp := fun vs H Q E =>
  ∃ (z m : Str), vs = [.str z, .str m] ∧ Sg z 2000 ∧ ∀ H', Same H H' → Q (.bl ((TL.tl z).all fun c => decide (c ∈ m.cps.toList))) H'
def sp_is_figures (K : PySem.W.Frag) : Sp := fun vs H Q E =>
  ∃ (z : Str), vs = [.str z] ∧ Sg z 2000 ∧ 1 ≤ z.length ∧ ∀ H', Same H H' → Q (.bl (figT z)) H'
def sp_law_whole (K : PySem.W.Frag) : Sp := fun vs H Q E =>
  ∃ (v : V) (o : Option Int), vs = [v] ∧ IsW K H v o ∧ Q (.bl o.isSome) H
def sp_is_name (K : PySem.W.Frag) : Sp := fun vs H Q E =>
  ∃ (v : V) (o : Option Str), vs = [v] ∧ IsS K H 2000 v o ∧ ∀ H', Same H H' → Q (.bl (nameO o)) H'
def sp_is_letter (K : PySem.W.Frag) : Sp := fun vs H Q E =>
  ∃ (v : V) (o : Option Str), vs = [v] ∧ IsS K H 2000 v o ∧ ∀ H', Same H H' → Q (.bl (letO o)) H'
def sp_is_spot (K : PySem.W.Frag) : Sp := fun vs H Q E =>
  ∃ (p : Addr) (v : V) (o : Option (List PyData)), vs = [v] ∧ IsP K p H v o ∧ ∀ H', Same H H' → Q (.bl (spotO o)) H'
def sp_law_is (K : PySem.W.Frag) : Sp := fun vs H Q E =>
  ∃ (b : Bool), vs = [.bl b, .bl b] ∧ Q (.bl true) H
def sp_law_number (K : PySem.W.Frag) : Sp := fun vs H Q E =>
  ∃ (p : Addr) (n : Nat), vs = [.ref p] ∧ n ≤ 900000 ∧ Bg H p n ∧ ∀ z H', -1000000000000000000000000000000 ≤ z → z ≤ 1000000000000000000000000000000 → Bg H' p (n + 4) → Mv p H H' → Q (.int z) H'
def sp_law_is_name (K : PySem.W.Frag) : Sp := fun vs H Q E =>
  ∃ (v : V) (o : Option Str), vs = [v] ∧ IsS K H 2000 v o ∧ ∀ H', Same H H' → Q (.bl (nameO o)) H'
def sp_law_is_letter (K : PySem.W.Frag) : Sp := fun vs H Q E =>
  ∃ (v : V) (o : Option Str), vs = [v] ∧ IsS K H 2000 v o ∧ ∀ H', Same H H' → Q (.bl (letO o)) H'
def sp_law_is_spot (K : PySem.W.Frag) : Sp := fun vs H Q E =>
  ∃ (p : Addr) (v : V) (o : Option (List PyData)), vs = [v] ∧ IsP K p H v o ∧ ∀ H', Same H H' → Q (.bl (spotO o)) H'
def sp_law_spoilt (K : PySem.W.Frag) : Sp := fun vs H Q E =>
  ∃ (p : Addr) (z : Str) (n m : Nat), vs = [.ref p, .str z] ∧ n ≤ 900000 ∧ Bg H p n ∧ Sg z m ∧ m ≤ 900 ∧ ∀ z' H', Sg z' (2 * m + 1) → Bg H' p (n + 3) → Mv p H H' → Q (.str z') H'
def sp_law_text (K : PySem.W.Frag) : Sp := fun vs H Q E =>
  ∃ (p : Addr) (n : Nat), vs = [.ref p] ∧ n ≤ 800000 ∧ Bg H p n ∧ ∀ z H', Sg z 200 → Bg H' p (n + 30) → Mv p H H' → Q (.str z) H'
def sp_law_odd (K : PySem.W.Frag) : Sp := fun vs H Q E =>
  ∃ (p : Addr) (n : Nat), vs = [.ref p] ∧ n ≤ 900000 ∧ Bg H p n ∧ ∀ v t H', TgR K p H' v t → Bg H' p (n + 5) → Mv p H H' → Q v H'
def sp_law_any (K : PySem.W.Frag) : Sp := fun vs H Q E =>
  ∃ (p : Addr) (n : Nat), vs = [.ref p] ∧ n ≤ 999999 ∧ Bg H p n ∧ ∀ v t H', TgR K p H' v t → Bg H' p (n + 1) → Mv p H H' → Q v H'
def sp_law_spot (K : PySem.W.Frag) : Sp := fun vs H Q E =>
  ∃ (p : Addr) (n : Nat), vs = [.ref p] ∧ n ≤ 800000 ∧ Bg H p n ∧ ∀ v t H', TgR K p H' v t → Bg H' p (n + 30) → Mv p H H' → Q v H'
def sp_law_right (K : PySem.W.Frag) : Sp := fun vs H Q E =>
  ∃ (p : Addr) (n : Nat), vs = [.ref p] ∧ n ≤ 500000 ∧ Bg H p n ∧ ∀ H', Mv p H H' → Q (.bl true) H'
def sp_law (K : PySem.W.Frag) : Sp := fun vs H Q E =>
  ∃ (a : Addr) (ns : List Int), vs = [.ref a] ∧ SqL K H a (ns.map V.int) ∧ ns.length ≤ 63 ∧ ∀ H', Q (.bl true) H'
structure Txt (P : Program) (K : PySem.W.Frag) (mg : Str → Option Value) (f : Nat → Addr) (d : Nat → FuncData) : Prop where
  F_law_cell : Fun K "_law_cell" "_law_cell" s_law_cell (f 0) (d 0)
  m__law_cell : mg "_law_cell" = some (.ref (f 0))
  k__law_cell : PySem.W.keepIn K (.ref (f 0)) = true
  b__law_cell : Binds K (d 0) ["_law_script", "_law_k"] []
  F_law_bag : Fun K "_law_bag" "_law_bag" s_law_bag (f 1) (d 1)
  m__law_bag : mg "_law_bag" = some (.ref (f 1))
  k__law_bag : PySem.W.keepIn K (.ref (f 1)) = true
  b__law_bag : Binds K (d 1) ["_law_cell_here"] []
  F_law_take : Fun K "_law_take" "_law_take" s_law_take (f 2) (d 2)
  m__law_take : mg "_law_take" = some (.ref (f 2))
  k__law_take : PySem.W.keepIn K (.ref (f 2)) = true
  b__law_take : Binds K (d 2) ["_law_bag_here", "_law_many"] []
  F_is_whole : Fun K "is_whole" "is_whole" s_is_whole (f 3) (d 3)
  m_is_whole : mg "is_whole" = some (.ref (f 3))
  k_is_whole : PySem.W.keepIn K (.ref (f 3)) = true
  b_is_whole : Binds K (d 3) ["thing", "low", "high"] []
  F_consists_of : Fun K "_consists_of" "_consists_of" s_consists_of (f 4) (d 4)
  m__consists_of : mg "_consists_of" = some (.ref (f 4))
  k__consists_of : PySem.W.keepIn K (.ref (f 4)) = true
  b__consists_of : Binds K (d 4) ["text", "marks"] []
  F_is_figures : Fun K "_is_figures" "_is_figures" s_is_figures (f 5) (d 5)
  m__is_figures : mg "_is_figures" = some (.ref (f 5))
  k__is_figures : PySem.W.keepIn K (.ref (f 5)) = true
  b__is_figures : Binds K (d 5) ["text"] []
  F_law_whole : Fun K "_law_whole" "_law_whole" s_law_whole (f 6) (d 6)
  m__law_whole : mg "_law_whole" = some (.ref (f 6))
  k__law_whole : PySem.W.keepIn K (.ref (f 6)) = true
  b__law_whole : Binds K (d 6) ["_law_thing"] []
  F_is_name : Fun K "is_name" "is_name" s_is_name (f 7) (d 7)
  m_is_name : mg "is_name" = some (.ref (f 7))
  k_is_name : PySem.W.keepIn K (.ref (f 7)) = true
  b_is_name : Binds K (d 7) ["thing"] []
  F_is_letter : Fun K "is_letter" "is_letter" s_is_letter (f 8) (d 8)
  m_is_letter : mg "is_letter" = some (.ref (f 8))
  k_is_letter : PySem.W.keepIn K (.ref (f 8)) = true
  b_is_letter : Binds K (d 8) ["thing"] []
  F_is_spot : Fun K "is_spot" "is_spot" s_is_spot (f 9) (d 9)
  m_is_spot : mg "is_spot" = some (.ref (f 9))
  k_is_spot : PySem.W.keepIn K (.ref (f 9)) = true
  b_is_spot : Binds K (d 9) ["thing"] []
  F_law_is : Fun K "_law_is" "_law_is" s_law_is (f 10) (d 10)
  m__law_is : mg "_law_is" = some (.ref (f 10))
  k__law_is : PySem.W.keepIn K (.ref (f 10)) = true
  b__law_is : Binds K (d 10) ["_law_found", "_law_due"] []
  F_law_number : Fun K "_law_number" "_law_number" s_law_number (f 11) (d 11)
  m__law_number : mg "_law_number" = some (.ref (f 11))
  k__law_number : PySem.W.keepIn K (.ref (f 11)) = true
  b__law_number : Binds K (d 11) ["_law_bag_here"] []
  F_law_is_name : Fun K "_law_is_name" "_law_is_name" s_law_is_name (f 12) (d 12)
  m__law_is_name : mg "_law_is_name" = some (.ref (f 12))
  k__law_is_name : PySem.W.keepIn K (.ref (f 12)) = true
  b__law_is_name : Binds K (d 12) ["_law_thing"] []
  F_law_is_letter : Fun K "_law_is_letter" "_law_is_letter" s_law_is_letter (f 13) (d 13)
  m__law_is_letter : mg "_law_is_letter" = some (.ref (f 13))
  k__law_is_letter : PySem.W.keepIn K (.ref (f 13)) = true
  b__law_is_letter : Binds K (d 13) ["_law_thing"] []
  F_law_is_spot : Fun K "_law_is_spot" "_law_is_spot" s_law_is_spot (f 14) (d 14)
  m__law_is_spot : mg "_law_is_spot" = some (.ref (f 14))
  k__law_is_spot : PySem.W.keepIn K (.ref (f 14)) = true
  b__law_is_spot : Binds K (d 14) ["_law_thing"] []
  F_law_spoilt : Fun K "_law_spoilt" "_law_spoilt" s_law_spoilt (f 15) (d 15)
  m__law_spoilt : mg "_law_spoilt" = some (.ref (f 15))
  k__law_spoilt : PySem.W.keepIn K (.ref (f 15)) = true
  b__law_spoilt : Binds K (d 15) ["_law_bag_here", "_law_text_here"] []
  F_law_text : Fun K "_law_text" "_law_text" s_law_text (f 16) (d 16)
  m__law_text : mg "_law_text" = some (.ref (f 16))
  k__law_text : PySem.W.keepIn K (.ref (f 16)) = true
  b__law_text : Binds K (d 16) ["_law_bag_here"] []
  F_law_odd : Fun K "_law_odd" "_law_odd" s_law_odd (f 17) (d 17)
  m__law_odd : mg "_law_odd" = some (.ref (f 17))
  k__law_odd : PySem.W.keepIn K (.ref (f 17)) = true
  b__law_odd : Binds K (d 17) ["_law_bag_here"] []
  F_law_any : Fun K "_law_any" "_law_any" s_law_any (f 18) (d 18)
  m__law_any : mg "_law_any" = some (.ref (f 18))
  k__law_any : PySem.W.keepIn K (.ref (f 18)) = true
  b__law_any : Binds K (d 18) ["_law_bag_here"] []
  F_law_spot : Fun K "_law_spot" "_law_spot" s_law_spot (f 19) (d 19)
  m__law_spot : mg "_law_spot" = some (.ref (f 19))
  k__law_spot : PySem.W.keepIn K (.ref (f 19)) = true
  b__law_spot : Binds K (d 19) ["_law_bag_here"] []
  F_law_right : Fun K "_law_right" "_law_right" s_law_right (f 20) (d 20)
  m__law_right : mg "_law_right" = some (.ref (f 20))
  k__law_right : PySem.W.keepIn K (.ref (f 20)) = true
  b__law_right : Binds K (d 20) ["_law_bag_here"] []
  F_law : Fun K "law" "law" s_law (f 21) (d 21)
  m_law : mg "law" = some (.ref (f 21))
  k_law : PySem.W.keepIn K (.ref (f 21)) = true
  b_law : Binds K (d 21) ["_law_script"] []
  x_NoLetter : JgX.XC K (f 100) "ValueError" "ValueError.__new__" "ValueError.__init__" [.type "ValueError", .type "Exception", .type "BaseException", .type "object"]
  y_NoLetter : JgX.XFn P K (f 100) (f 101) (d 100) "NoLetter.__init__" (defArgs xs_NoLetter) (defBody xs_NoLetter) (defScope xs_NoLetter)
  n_NoLetter : PySem.W.findIn K (.ref (f 100)) "found" = some none
  e_NoLetter : PySem.W.nsIn K mainGlobals "NoLetter" = some (some (.ref (f 100)))
  c_NoLetter : mg "NoLetter" = some (.ref (f 100))
  x_NoNumber : JgX.XC K (f 102) "ValueError" "ValueError.__new__" "ValueError.__init__" [.type "ValueError", .type "Exception", .type "BaseException", .type "object"]
  y_NoNumber : JgX.XFn P K (f 102) (f 103) (d 102) "NoNumber.__init__" (defArgs xs_NoNumber) (defBody xs_NoNumber) (defScope xs_NoNumber)
  n_NoNumber : PySem.W.findIn K (.ref (f 102)) "found" = some none
  e_NoNumber : PySem.W.nsIn K mainGlobals "NoNumber" = some (some (.ref (f 102)))
  c_NoNumber : mg "NoNumber" = some (.ref (f 102))
  a_NoLetter : Jg.Nk K (f 100)
  r_NoLetter : JgX.XR K (f 100) "NoLetter"
  a_NoNumber : Jg.Nk K (f 102)
  r_NoNumber : JgX.XR K (f 102) "NoNumber"
  z_super : mg "super" = none
  opq : PySem.W.nsIn K cStatics "thirdparty.any" = some none
  tp : (P.main.scope.names.lookup ("super" : Str)).isSome = false
  z_all : mg "all" = none
  z_bool : mg "bool" = none
  z_int : mg "int" = none
  z_isinstance : mg "isinstance" = none
  z_len : mg "len" = none
  z_max : mg "max" = none
  z_min : mg "min" = none
  z_range : mg "range" = none
  z_repr : mg "repr" = none
  z_str : mg "str" = none
  z_tuple : mg "tuple" = none
  c__FIGURES : ∃ t, mg "_FIGURES" = some (.str (Str.ofString "0123456789") t)
  c__CAPITALS : ∃ t, mg "_CAPITALS" = some (.str (Str.ofString "ABCDEFGHIJKLMNOPQRSTUVWXYZ") t)
  c__SMALL : ∃ t, mg "_SMALL" = some (.str (Str.ofString "abcdefghijklmnopqrstuvwxyz") t)
  c__MOST_NAME : ∃ t, mg "_MOST_NAME" = some (.int 8 t)
  c__MOST_LETTER : ∃ t, mg "_MOST_LETTER" = some (.int 3 t)
  c__MOST_SPOT : ∃ t, mg "_MOST_SPOT" = some (.int 16 t)
  c__MOST_PART : ∃ t, mg "_MOST_PART" = some (.int 3 t)
local macro_rules | `(tactic| walk_at "ne") => `(tactic| first | (with_reducible assumption) | ((with_reducible apply Ne.symm); (with_reducible assumption)) | exact ne_new (by with_reducible assumption) (by walk_at "hx") | exact (ne_new (by with_reducible assumption) (by walk_at "hx")).symm)
local macro_rules | `(tactic| walk_at "bg") => `(tactic| first | (with_reducible assumption) | ((with_reducible refine Bg.new ?_ (by with_reducible assumption)); walk_at "bg") | ((with_reducible refine Bg.off ?_ (by walk_at "ne")); walk_at "bg"))
local macro_rules | `(tactic| walk_at "hx") => `(tactic| first | (with_reducible assumption) | (with_reducible exact upd_same) | ((with_reducible refine upd_keep (by with_reducible assumption) ?_); walk_at "hx") | ((with_reducible refine Eq.trans (upd_ne (by walk_at "ne")) ?_); walk_at "hx"))
local macro_rules | `(tactic| walk_at "mv") => `(tactic| first | (with_reducible exact Mv.refl _ _) | (with_reducible assumption) | ((with_reducible refine mv_new (by with_reducible assumption) ?_); walk_at "mv"))
local macro_rules | `(tactic| walk_at "sq") => `(tactic| first | assumption | exact Or.inl (Or.inl (by walk_at "hx")))
local macro_rules | `(tactic| walk_at "side") => `(tactic| first | ((try dsimp only); omega) | exact Or.inl ⟨by omega, by omega⟩ | exact ⟨by omega, by omega, by omega⟩ | exact wide_div (b := 128) (by omega) (by omega) (by omega) (by omega) | decide)
local macro_rules | `(tactic| walk_at "go1") => `(tactic| first
  | ((with_reducible apply g_var); (exact rfl))
  | with_reducible refine g_op ?_
  | with_reducible refine g_c ?_
  | with_reducible refine g_I0 ?_
  | with_reducible refine g_test ?_
  | with_reducible refine g_B ?_
  | with_reducible refine g_bl ?_
  | with_reducible refine g_cons ?_
  | with_reducible refine g_nil ?_
  | with_reducible refine g_call ?_
  | with_reducible refine g_CB ?_
  | with_reducible refine s_seq ?_
  | with_reducible refine s_next ?_
  | with_reducible refine s_asg ?_
  | with_reducible refine s_name ?_
  | with_reducible refine s_if ?_
  | with_reducible refine s_ret ?_
  | with_reducible refine s_retN ?_
  | with_reducible refine s_drop ?_
  | with_reducible refine s_sub ?_
  | with_reducible refine s_brk ?_
  | with_reducible refine s_cont ?_
  | with_reducible refine g_not ?_
  | with_reducible refine g_and ?_
  | with_reducible refine g_or ?_
  | with_reducible refine g_if ?_
  | with_reducible refine g_notV ?_
  | with_reducible refine g_andV ?_
  | with_reducible refine g_orV ?_
  | with_reducible refine g_un ?_
  | with_reducible refine g_is ?_
  | with_reducible refine g_isNot ?_
  | ((with_reducible apply g_eq); (exact rfl))
  | ((with_reducible apply g_ne); (exact rfl))
  | ((with_reducible apply g_ixL); (walk_at "sq"); (exact rfl))
  | ((with_reducible apply g_I); (walk_at "side"))
  | ((with_reducible apply s_setL); (walk_at "hx"); (exact rfl))
  | ((with_reducible apply g_lenL); (walk_at "sq"))
  | ((with_reducible apply g_lenS); (first | assumption | exact Nat.le_trans (by assumption) (by decide)))
  | with_reducible refine g_int ?_
  | with_reducible refine g_intB ?_
  | with_reducible refine g_max ?_
  | with_reducible refine g_min ?_
  | with_reducible refine g_lst ?_
  | with_reducible refine g_tup ?_
  | ((with_reducible apply g_slS); (first | assumption | exact Nat.le_trans (by assumption) (by decide)))
  | with_reducible refine g_BM ?_
  | with_reducible refine g_M1 ?_
  | with_reducible refine g_str ?_
  | with_reducible refine g_sl ?_
  | with_reducible refine g_noPart ?_
  | with_reducible refine g_part ?_
  | with_reducible refine g_ex ?_
  | with_reducible refine g_true ?_
  | with_reducible refine g_false ?_
  | ((with_reducible apply g_sz); (exact Nat.le_of_ble_eq_true rfl); intro _ _)
  | ((with_reducible refine g_dnew ?_); intro _ _)
  | ((with_reducible refine g_disp1 ?_); intro _ _)
  | with_reducible refine g_U ?_
  | with_reducible refine g_replIx ?_
  | with_reducible refine g_same ?_
  | with_reducible refine g_nt ?_
  | with_reducible refine g_nf ?_
  | with_reducible refine g_chain ?_
  | with_reducible refine g_callN ?_
  | with_reducible refine g_lc ?_
  | with_reducible refine s_for ?_
  | with_reducible refine g_rng1 ?_
  | ((with_reducible apply g_rngN); (omega))
  | with_reducible refine g_iList ?_
  | with_reducible refine g_iStr ?_
  | with_reducible refine g_its ?_
  | ((with_reducible apply g_itl); (walk_at "sq"))
  | ((with_reducible apply g_yes); (first | omega | decide))
  | ((with_reducible apply g_no); (first | omega | decide)))
local macro_rules | `(tactic| walk_at "go") => `(tactic| repeat (walk_at "go1"))
local macro_rules | `(tactic| walk_at "st") => `(tactic| repeat (first | with_reducible refine s_seq ?_ | with_reducible refine s_next ?_ | with_reducible refine s_asg ?_ | with_reducible refine s_name ?_ | with_reducible refine s_drop ?_ | with_reducible refine s_ret ?_))

section
variable {P : Program} {w : World} {K : PySem.W.Frag} {mg : Str → Option Value} {base : Heap} {f : Nat → Addr} {d : Nat → FuncData}
theorem ok_law_cell (T : Txt P K mg f d) : FnOk P w K mg base CX0 1 (f 0) (d 0) ["_law_script", "_law_k"] (sp_law_cell K) := by
  refine T.F_law_cell.ok sc_law_cell (fun vs H Q E h => ?_) (fun cdv A outer s H vs Q E hr h => ?_)
  · obtain ⟨a, ns, k, rfl, hs, hk, q⟩ := h
    rfl
  · obtain ⟨a, ns, k, rfl, hs, hk, q⟩ := h
    refine ⟨_, (pss_cons (ps_if (pt_cmpR op_lt (pv 1) (pe_callB (call_lenV (K := K)) (by rfl) T.z_len (by decide +kernel) (pa_cons (pv 0) pa_nil)) (nomark _)) (pss_one (ps_ret (pe_ix (ix_listV (K := K)) (pv 0) (pv 1) (fun _ _ => rfl)))) pss_nil)
      (pss_one (ps_ret (pe_op op_add (pe_op op_mul pe_int (pv 1)) pe_int)))), ?_⟩
    walk_at "go"
    refine g_two (fun h => ?_) (fun h => ?_)
    · walk_at "go"
      rw [List.length_map] at h
      have hkl : k < ns.length := by omega
      refine g_ixL hs (v := .int (ns[k]'hkl)) ?_ (q _)
      unfold atI ixN
      rw [List.length_map, if_pos (by omega), if_pos (by omega)]
      simp [hkl]
    · walk_at "go"
      exact q _
end
section
variable {P : Program} {w : World} {K : PySem.W.Frag} {mg : Str → Option Value} {base : Heap} {f : Nat → Addr} {d : Nat → FuncData}
theorem ok_law_bag (T : Txt P K mg f d) : FnOk P w K mg base CX0 1 (f 1) (d 1) ["_law_cell_here"] (sp_law_bag K) := by
  refine T.F_law_bag.ok sc_law_bag (fun vs H Q E h => ?_) (fun cdv A outer s H vs Q E hr h => ?_)
  · obtain ⟨z, rfl, q⟩ := h
    rfl
  · obtain ⟨z, rfl, q⟩ := h
    refine ⟨_, (pss_one (ps_ret (pe_lst (pa_cons (pe_callB (call_maxV rfl) (by rfl) T.z_max (by decide +kernel) (pa_cons pe_int (pa_cons (pe_op op_sub (pv 0) (pe_op op_pow pe_int pe_int)) pa_nil))) (pa_cons (pe_op op_mod (pv 0) pe_int) (pa_cons pe_int pa_nil)))))), ?_⟩
    walk_at "go"
    rename_i p hp
    refine q p _ hp (fun b o e => ?_) ⟨_, _, _, upd_same, ?_, ?_, ?_, ?_⟩
    · rw [upd_ne (ne_of_none e hp)]
      exact e
    all_goals omega
end
section
variable {P : Program} {w : World} {K : PySem.W.Frag} {mg : Str → Option Value} {base : Heap} {f : Nat → Addr} {d : Nat → FuncData}
theorem ok_law_take (T : Txt P K mg f d) : FnOk P w K mg base CX0 1 (f 2) (d 2) ["_law_bag_here", "_law_many"] (sp_law_take K) := by
  refine T.F_law_take.ok sc_law_take (fun vs H Q E h => ?_) (fun cdv A outer s H vs Q E hr h => ?_)
  · obtain ⟨p, m, n, rfl, hm, hM, hn, ⟨a, b, c, hp, hb0, hb1, hc0, hc1⟩, q⟩ := h
    rfl
  · obtain ⟨p, m, n, rfl, hm, hM, hn, ⟨a, b, c, hp, hb0, hb1, hc0, hc1⟩, q⟩ := h
    refine ⟨_, (pss_cons (ps_if (pt_cmpR op_gt (pe_ix (ix_listV (K := K)) (pv 0) pe_int (fun _ _ => rfl)) pe_int (nomark _)) (pss_cons (ps_set (i := 2) sc_law_take.nd rfl (.inl rfl) (pe_op op_mod (pe_ix (ix_listV (K := K)) (pv 0) pe_int (fun _ _ => rfl)) (pv 1)))
      (pss_cons (ps_asg (pe_op op_fdivW (pe_ix (ix_listV (K := K)) (pv 0) pe_int (fun _ _ => rfl)) (pv 1)) (pg_sub (pv 0) pe_int set_list))
      (pss_one (ps_ret (pv 2))))) pss_nil)
      (pss_cons (ps_asg (pe_op op_add (pe_ix (ix_listV (K := K)) (pv 0) pe_int (fun _ _ => rfl)) pe_int) (pg_sub (pv 0) pe_int set_list))
      (pss_cons (ps_set (i := 3) sc_law_take.nd rfl (.inl rfl) (pe_op op_mod (pe_op op_pow (pe_op op_add (pe_op op_add (pe_ix (ix_listV (K := K)) (pv 0) pe_int (fun _ _ => rfl)) (pe_op op_mul pe_int (pe_ix (ix_listV (K := K)) (pv 0) pe_int (fun _ _ => rfl)))) pe_int) pe_int) pe_int))
      (pss_cons (ps_set (i := 3) sc_law_take.nd rfl (.inl rfl) (pe_op op_mod (pe_op op_pow (pe_op op_add (pv 3) (pe_op op_mul pe_int (pe_ix (ix_listV (K := K)) (pv 0) pe_int (fun _ _ => rfl)))) pe_int) pe_int))
      (pss_one (ps_ret (pe_op op_mod (pe_op op_fdivW (pv 3) pe_int) (pv 1)))))))), ?_⟩
    walk_at "go"
    refine g_two (fun h => ?_) (fun h => ?_)
    · walk_at "go"
      refine q _ _ (Int.emod_nonneg _ (by omega)) (Int.emod_lt_of_pos _ hm) ⟨_, _, _, upd_same, hb0, hb1, hc0, by omega⟩ (Mv.upd p H _)
    · walk_at "go"
      refine q _ _ (Int.emod_nonneg _ (by omega)) (Int.emod_lt_of_pos _ hm) ⟨_, _, _, upd_same, hb0, hb1, by omega, by omega⟩ (Mv.upd p H _)
end
section
variable {P : Program} {w : World} {K : PySem.W.Frag} {mg : Str → Option Value} {base : Heap} {f : Nat → Addr} {d : Nat → FuncData}
theorem ok_is_whole (T : Txt P K mg f d) : FnOk P w K mg base CX0 1 (f 3) (d 3) ["thing", "low", "high"] (sp_is_whole K) := by
  refine T.F_is_whole.ok sc_is_whole (fun vs H Q E h => ?_) (fun cdv A outer s H vs Q E hr h => ?_)
  · obtain ⟨v, o, lo, hi, rfl, hv, q⟩ := h
    rfl
  · obtain ⟨v, o, lo, hi, rfl, hv, q⟩ := h
    refine ⟨_, (pss_one (ps_ret (pe_and (pe_callB (JgX.call_isiE (K := K)) (by rfl) T.z_isinstance (by decide +kernel) (pa_cons (pv 0) (pa_cons (pe_bltn (v := .ty "int") (by rfl) T.z_int (by decide +kernel) rfl) pa_nil))) (pe_and (pe_not (pe_callB (JgX.call_isiE (K := K)) (by rfl) T.z_isinstance (by decide +kernel) (pa_cons (pv 0) (pa_cons (pe_bltn (v := .ty "bool") (by rfl) T.z_bool (by decide +kernel) rfl) pa_nil)))) (pe_one (pe_chain op_le op_le (pv 1) (pv 0) (pv 2))))))), ?_⟩
    walk_at "go"
    cases o with
    | none =>
      rcases hv with ⟨b, rfl⟩ | h
      · refine g_isiE (isi_b b) ?_
        walk_at "go"
        refine g_isiE (isi_bb b) ?_
        walk_at "go"
        exact q
      · refine g_isiE h ?_
        walk_at "go"
        exact q
    | some i =>
      cases hv
      refine g_isiE (isi_i i) ?_
      walk_at "go"
      refine g_isiE (isi_ib i) ?_
      walk_at "go"
      refine g_two (fun h => ?_) (fun h => ?_)
      · walk_at "go"
        have e : wholeB lo hi (some i) = decide (i ≤ hi) := by simp [wholeB, h]
        rw [e] at q
        exact q
      · have e : wholeB lo hi (some i) = false := by simp [wholeB, h]
        rw [e] at q
        exact q
end
section
variable {P : Program} {w : World} {K : PySem.W.Frag} {mg : Str → Option Value} {base : Heap} {f : Nat → Addr} {d : Nat → FuncData}
theorem ok_consists_of (T : Txt P K mg f d) : FnOk P w K mg base CX0 1 (f 4) (d 4) ["text", "marks"] (sp_consists_of K) := by
  refine T.F_consists_of.ok sc_consists_of (fun vs H Q E h => ?_) (fun cdv A outer s H vs Q E hr h => ?_)
  · obtain ⟨z, m, rfl, hz, q⟩ := h
    rfl
  · obtain ⟨z, m, rfl, hz, q⟩ := h
    refine ⟨_, (pss_one (ps_ret (pe_cmpR op_eq (pe_bm PySem.F.plainAttrs_str PySem.F.slot_str_strip PySem.F.type_str_strip mt_stripChars (pv 0) (pa_cons (pv 1) pa_nil)) pe_str (nomark _)))), ?_⟩
    walk_at "go"
    refine ⟨rfl, ?_⟩
    walk_at "go"
    refine ⟨z, m, rfl, rfl, Nat.le_trans hz.1 (by decide), ?_⟩
    walk_at "go"
    rw [strip_dec (by rfl)]
    exact q _ (Same.refl H)
end
section
variable {P : Program} {w : World} {K : PySem.W.Frag} {mg : Str → Option Value} {base : Heap} {f : Nat → Addr} {d : Nat → FuncData}
theorem ok_is_figures (T : Txt P K mg f d) : FnOk P w K mg base CX0 2 (f 5) (d 5) ["text"] (sp_is_figures K) := by
  refine T.F_is_figures.ok sc_is_figures (fun vs H Q E h => ?_) (fun cdv A outer s H vs Q E hr h => ?_)
  · obtain ⟨z, rfl, hz, hl, q⟩ := h
    rfl
  · obtain ⟨z, rfl, hz, hl, q⟩ := h
    refine ⟨_, (pss_one (ps_ret (pe_and (pe_call (ok_consists_of T) (hr.mono (by decide)) rfl T.m__consists_of T.k__consists_of T.b__consists_of .nil pass0 (pa_cons (pv 0) (pa_cons (pe_globS rfl T.c__FIGURES) pa_nil))) (pe_one (pe_or (pe_cmpR op_ne (pe_ix ix_str (pv 0) pe_int (fun _ _ => rfl)) pe_str (nomark _)) (pe_one (pe_cmpR op_eq (pe_callB (call_lenV (K := K)) (by rfl) T.z_len (by decide +kernel) (pa_cons (pv 0) pa_nil)) pe_int (nomark _)))))))), ?_⟩
    have hzl : z.length ≤ 2000 := hz.1
    walk_at "go"
    refine ⟨z, _, rfl, hz, fun H1 same => ?_⟩
    have ea : ((TL.tl z).all fun c => decide (c ∈ (Str.ofString "0123456789").cps.toList)) = (TL.tl z).all digit := by
      congr 1
      funext c
      exact figs c
    rw [ea]
    have q1 := q H1 same
    obtain ⟨c, r, hcr⟩ := tl_cons hl
    have hh : (TL.tl z).head? = some c := by rw [hcr]; rfl
    unfold figT at q1
    rw [hh] at q1
    cases hb : (TL.tl z).all digit with
    | false =>
      rw [hb] at q1
      walk_at "go"
      exact q1
    | true =>
      rw [hb, Bool.true_and] at q1
      walk_at "go"
      refine g_ixS (Nat.le_trans hzl (by decide)) (at_head hcr) ?_
      walk_at "go"
      have e0 : Str.ofString "0" = ⟨#[48]⟩ := by decide +kernel
      refine g_ntwo (fun h3 => ?_) (fun h3 => ?_)
      · have hc48 : c = 48 := by
          rw [e0] at h3
          have := congrArg TL.tl (V.str.inj h3)
          simpa [TL.tl] using this
        subst hc48
        walk_at "go"
        rw [int_one, TL.len_tl]
        simpa using q1
      · have hc48 : c ≠ 48 := fun z9 => h3 (by rw [z9, e0])
        walk_at "go"
        have d3 : decide (some c ≠ some 48) = true := decide_eq_true (fun z9 => hc48 (Option.some.inj z9))
        rw [d3] at q1
        exact q1
end
section
variable {P : Program} {w : World} {K : PySem.W.Frag} {mg : Str → Option Value} {base : Heap} {f : Nat → Addr} {d : Nat → FuncData}
theorem ok_law_whole (T : Txt P K mg f d) : FnOk P w K mg base CX0 1 (f 6) (d 6) ["_law_thing"] (sp_law_whole K) := by
  refine T.F_law_whole.ok sc_law_whole (fun vs H Q E h => ?_) (fun cdv A outer s H vs Q E hr h => ?_)
  · obtain ⟨v, o, rfl, hv, q⟩ := h
    rfl
  · obtain ⟨v, o, rfl, hv, q⟩ := h
    refine ⟨_, (pss_one (ps_ret (pe_and (pe_callB (JgX.call_isiE (K := K)) (by rfl) T.z_isinstance (by decide +kernel) (pa_cons (pv 0) (pa_cons (pe_bltn (v := .ty "int") (by rfl) T.z_int (by decide +kernel) rfl) pa_nil))) (pe_one (pe_not (pe_callB (JgX.call_isiE (K := K)) (by rfl) T.z_isinstance (by decide +kernel) (pa_cons (pv 0) (pa_cons (pe_bltn (v := .ty "bool") (by rfl) T.z_bool (by decide +kernel) rfl) pa_nil)))))))), ?_⟩
    walk_at "go"
    cases o with
    | none =>
      rcases hv with ⟨b, rfl⟩ | h
      · refine g_isiE (isi_b b) ?_
        walk_at "go"
        refine g_isiE (isi_bb b) ?_
        walk_at "go"
        exact q
      · refine g_isiE h ?_
        walk_at "go"
        exact q
    | some i =>
      cases hv
      refine g_isiE (isi_i i) ?_
      walk_at "go"
      refine g_isiE (isi_ib i) ?_
      walk_at "go"
      exact q
end
section
variable {P : Program} {w : World} {K : PySem.W.Frag} {mg : Str → Option Value} {base : Heap} {f : Nat → Addr} {d : Nat → FuncData}
theorem ok_is_name (T : Txt P K mg f d) : FnOk P w K mg base CX0 2 (f 7) (d 7) ["thing"] (sp_is_name K) := by
  refine T.F_is_name.ok sc_is_name (fun vs H Q E h => ?_) (fun cdv A outer s H vs Q E hr h => ?_)
  · obtain ⟨v, o, rfl, hv, q⟩ := h
    rfl
  · obtain ⟨v, o, rfl, hv, q⟩ := h
    refine ⟨_, (pss_one (ps_ret (pe_and (pe_callB (JgX.call_isiE (K := K)) (by rfl) T.z_isinstance (by decide +kernel) (pa_cons (pv 0) (pa_cons (pe_bltn (v := .ty "str") (by rfl) T.z_str (by decide +kernel) rfl) pa_nil))) (pe_and (pe_chain op_le op_le pe_int (pe_callB (call_lenV (K := K)) (by rfl) T.z_len (by decide +kernel) (pa_cons (pv 0) pa_nil)) (pe_globI rfl T.c__MOST_NAME)) (pe_one (pe_call (ok_consists_of T) (hr.mono (by decide)) rfl T.m__consists_of T.k__consists_of T.b__consists_of .nil pass0 (pa_cons (pv 0) (pa_cons (pe_globS rfl T.c__SMALL) pa_nil)))))))), ?_⟩
    walk_at "go"
    cases o with
    | none =>
      refine g_isiE hv ?_
      walk_at "go"
      exact q _ (Same.refl H)
    | some z =>
      obtain ⟨rfl, hz⟩ := hv
      have hzl : z.length ≤ 2000 := hz.1
      refine g_isiE (isi_s z) ?_
      walk_at "go"
      refine g_two (fun h => ?_) (fun h => ?_)
      · walk_at "go"
        refine g_two (fun h2 => ?_) (fun h2 => ?_)
        · walk_at "go"
          refine ⟨z, _, rfl, hz, fun H1 same => ?_⟩
          have q1 : Q (.bl (nameQ z)) H1 := q H1 same
          unfold nameQ at q1
          rw [decide_eq_true (show 1 ≤ z.length by omega), decide_eq_true (show z.length ≤ 8 by omega), Bool.and_self, Bool.true_and] at q1
          have ea : ((TL.tl z).all fun c => decide (c ∈ (Str.ofString "abcdefghijklmnopqrstuvwxyz").cps.toList)) = (TL.tl z).all fun c => decide (97 ≤ c) && decide (c ≤ 122) := by
            congr 1
            funext c
            exact smalls c
          rw [ea]
          exact q1
        · have q1 : Q (.bl (nameQ z)) H := q H (Same.refl H)
          unfold nameQ at q1
          rw [decide_eq_false (show ¬ z.length ≤ 8 by omega), Bool.and_false, Bool.false_and] at q1
          walk_at "go"
          exact q1
      · have q1 : Q (.bl (nameQ z)) H := q H (Same.refl H)
        unfold nameQ at q1
        rw [decide_eq_false (show ¬ 1 ≤ z.length by omega), Bool.false_and, Bool.false_and] at q1
        walk_at "go"
        exact q1
end
section
variable {P : Program} {w : World} {K : PySem.W.Frag} {mg : Str → Option Value} {base : Heap} {f : Nat → Addr} {d : Nat → FuncData}
theorem ok_is_letter (T : Txt P K mg f d) : FnOk P w K mg base CX0 3 (f 8) (d 8) ["thing"] (sp_is_letter K) := by
  refine T.F_is_letter.ok sc_is_letter (fun vs H Q E h => ?_) (fun cdv A outer s H vs Q E hr h => ?_)
  · obtain ⟨v, o, rfl, hv, q⟩ := h
    rfl
  · obtain ⟨v, o, rfl, hv, q⟩ := h
    refine ⟨_, (pss_cons (ps_if (PW.pt (pw_or (pt_not (pt_val (pe_callB (JgX.call_isiE (K := K)) (by rfl) T.z_isinstance (by decide +kernel) (pa_cons (pv 0) (pa_cons (pe_bltn (v := .ty "str") (by rfl) T.z_str (by decide +kernel) rfl) pa_nil))))) (pw_or (pt_not (pt_chain op_le op_le pe_int (pe_callB (call_lenV (K := K)) (by rfl) T.z_len (by decide +kernel) (pa_cons (pv 0) pa_nil)) (pe_globI rfl T.c__MOST_LETTER))) (pw_or1 (pt_cmpR op_notInS (pe_ix ix_str (pv 0) pe_int (fun _ _ => rfl)) (pe_globS rfl T.c__CAPITALS) rfl))))) (pss_one (ps_ret pe_bl)) pss_nil)
      (pss_one (ps_ret (pe_or (pe_cmpR op_eq (pe_callB (call_lenV (K := K)) (by rfl) T.z_len (by decide +kernel) (pa_cons (pv 0) pa_nil)) pe_int (nomark _)) (pe_one (pe_call (ok_is_figures T) (hr.mono (by decide)) rfl T.m__is_figures T.k__is_figures T.b__is_figures .nil pass0 (pa_cons (pe_slice sl_str (pv 0) (po_some pe_int) po_none) pa_nil))))))), ?_⟩
    walk_at "go"
    cases o with
    | none =>
      refine g_isiE hv ?_
      walk_at "go"
      exact q _ (Same.refl H)
    | some z =>
      obtain ⟨rfl, hz⟩ := hv
      have hzl : z.length ≤ 2000 := hz.1
      refine g_isiE (isi_s z) ?_
      walk_at "go"
      refine g_two (fun h => ?_) (fun h => ?_)
      · walk_at "go"
        refine g_ntwo (fun h2 => ?_) (fun h2 => ?_)
        · walk_at "go"
          obtain ⟨c, r, hcr⟩ := tl_cons (z := z) (by omega)
          have e : letQ z = ((decide (65 ≤ c) && decide (c ≤ 90)) && (decide (z.length = 1) || figT (cutS z (some 1) none))) := by
            unfold letQ
            rw [decide_eq_true (show 1 ≤ z.length by omega), decide_eq_true (show z.length ≤ 3 by omega), cap_head hcr, Bool.and_self, Bool.true_and]
          refine g_ixS (Nat.le_trans hzl (by decide)) (at_head hcr) ?_
          walk_at "go"
          refine g_notInC rfl ?_
          rw [caps c]
          cases hb : (decide (65 ≤ c) && decide (c ≤ 90)) with
          | false =>
            have q1 : Q (.bl (letQ z)) H := q H (Same.refl H)
            rw [e, hb, Bool.false_and] at q1
            walk_at "go"
            exact q1
          | true =>
            rw [hb, Bool.true_and] at e
            walk_at "go"
            rw [int_one]
            refine g_two (fun h3 => ?_) (fun h3 => ?_)
            · have q1 : Q (.bl (letQ z)) H := q H (Same.refl H)
              rw [e, decide_eq_true h3, Bool.true_or] at q1
              exact q1
            · rw [decide_eq_false h3, Bool.false_or] at e
              walk_at "go"
              refine ⟨_, rfl, hz.cut _ _, ?_, fun H2 same2 => ?_⟩
              · rw [(cut1_len (by omega)).1]
                omega
              have q1 : Q (.bl (letQ z)) H2 := q H2 same2
              rw [e] at q1
              exact q1
        · have q1 : Q (.bl (letQ z)) H := q H (Same.refl H)
          unfold letQ at q1
          rw [decide_eq_false (show ¬ z.length ≤ 3 by omega), Bool.and_false, Bool.false_and] at q1
          walk_at "go"
          exact q1
      · have q1 : Q (.bl (letQ z)) H := q H (Same.refl H)
        unfold letQ at q1
        rw [decide_eq_false (show ¬ 1 ≤ z.length by omega), Bool.false_and, Bool.false_and] at q1
        walk_at "go"
        exact q1
end
section
variable {P : Program} {w : World} {K : PySem.W.Frag} {mg : Str → Option Value} {base : Heap} {f : Nat → Addr} {d : Nat → FuncData}
theorem ok_is_spot (T : Txt P K mg f d) : FnOk P w K mg base CX0 2 (f 9) (d 9) ["thing"] (sp_is_spot K) := by
  refine T.F_is_spot.ok sc_is_spot (fun vs H Q E h => ?_) (fun cdv A outer s H vs Q E hr h => ?_)
  · obtain ⟨p, v, o, rfl, hv, q⟩ := h
    rfl
  · obtain ⟨p, v, o, rfl, hv, q⟩ := h
    refine ⟨_, (pss_cons (ps_if (PW.pt (pw_or (pt_not (pt_val (pe_callB (JgX.call_isiE (K := K)) (by rfl) T.z_isinstance (by decide +kernel) (pa_cons (pv 0) (pa_cons (pe_bltn (v := .ty "tuple") (by rfl) T.z_tuple (by decide +kernel) rfl) pa_nil))))) (pw_or1 (pt_cmpR op_gt (pe_callB (call_lenV (K := K)) (by rfl) T.z_len (by decide +kernel) (pa_cons (pv 0) pa_nil)) (pe_globI rfl T.c__MOST_SPOT) (nomark _))))) (pss_one (ps_ret pe_bl)) pss_nil)
      (pss_one (ps_ret (pe_callB (call_all (K := K) rfl) (by rfl) T.z_all (by decide +kernel) (pa_cons (pe_lc (own := [("number", 1)]) (g := gName 1) (tt := tYes) rfl sc_is_spot.nd (pi_tup (pv 0)) (blkOk_by (own := [("number", 1)]) (N := n_is_spot) (sc := defScope s_is_spot) (by decide +kernel)) (fun _ _ _ _ _ => pg_name (i := 1) sc_is_spot.nd rfl (Or.inl rfl)) (fun _ _ _ _ _ => pts_nil) (fun _ _ _ _ _ => (pe_call (ok_is_whole T) (hr.mono (by decide)) rfl T.m_is_whole T.k_is_whole T.b_is_whole .nil pass0 (pa_cons (pv 1) (pa_cons pe_int (pa_cons (pe_globI rfl T.c__MOST_PART) pa_nil)))))) pa_nil))))), ?_⟩
    walk_at "go"
    cases o with
    | none =>
      refine g_isiE hv ?_
      walk_at "go"
      exact q _ (Same.refl H)
    | some ds =>
      obtain ⟨a, xs, rfl, np, ea, da, dl, isi⟩ := hv
      refine g_isiE isi ?_
      walk_at "go"
      refine g_lenT (Or.inl (Or.inl ea)) ?_
      walk_at "go"
      have len := da.length
      refine g_two (fun h => ?_) (fun h => ?_)
      · walk_at "go"
        have q1 : Q (.bl (spotQ ds)) H := q H (Same.refl H)
        unfold spotQ at q1
        rw [decide_eq_false (show ¬ ds.length ≤ 16 by omega), Bool.false_and] at q1
        exact q1
      · walk_at "go"
        refine g_iTup ?_
        walk_at "go"
        refine g_itt (Or.inl (Or.inl ea)) ?_
        refine lc_tupG (fun _ => true) (fun j => .bl (atD (fun d => wholeB 0 3 (Thing.who (.dat d))) ds j)) ea (Nat.lt_of_le_of_lt (show xs.length ≤ 16 by omega) (by decide)) (fun _ => rfl) ?_ ?_ ?_
        · intro j x H2 B hx s2 r
          with_reducible refine g_tyes ?_
          exact r H2 (Same.refl _)
        · intro j x H2 R hx s2 r
          obtain ⟨d, hd, dd⟩ := da.get j x hx
          walk_at "go"
          refine ⟨x, _, 0, 3, rfl, (dd.mv (p := p) (H' := H2) (fun b o _ e => s2 b o e)).isW, ?_⟩
          have e : atD (fun d => wholeB 0 3 (Thing.who (.dat d))) ds j = wholeB 0 3 (Thing.who (.dat d)) := by
            unfold atD
            rw [hd]
          rw [← e]
          exact r H2 (Same.refl _)
        · intro D H2 hD s2 eD
          walk_at "go"
          have sb : sel (fun _ => true) (fun j => .bl (atD (fun d => wholeB 0 3 (Thing.who (.dat d))) ds j)) xs.length = ((List.range ds.length).map (atD (fun d => wholeB 0 3 (Thing.who (.dat d))) ds)).map V.bl := by
            unfold sel
            rw [len, List.filter_eq_self.mpr (fun _ _ => rfl), List.map_map]
            rfl
          rw [sb, range_at] at eD
          refine g_all (K := K) (bs := ds.map fun d => wholeB 0 3 (Thing.who (.dat d))) (Or.inl (Or.inl eD)) ?_
          walk_at "go"
          have q1 : Q (.bl (spotQ ds)) H2 := q H2 s2
          unfold spotQ at q1
          rw [decide_eq_true (show ds.length ≤ 16 by omega), Bool.true_and] at q1
          rw [List.all_map]
          exact q1
end
section
variable {P : Program} {w : World} {K : PySem.W.Frag} {mg : Str → Option Value} {base : Heap} {f : Nat → Addr} {d : Nat → FuncData}
theorem ok_law_is (T : Txt P K mg f d) : FnOk P w K mg base CX0 1 (f 10) (d 10) ["_law_found", "_law_due"] (sp_law_is K) := by
  refine T.F_law_is.ok sc_law_is (fun vs H Q E h => ?_) (fun cdv A outer s H vs Q E hr h => ?_)
  · obtain ⟨b, rfl, q⟩ := h
    rfl
  · obtain ⟨b, rfl, q⟩ := h
    refine ⟨_, (pss_one (ps_ret (pe_and (pe_callB (JgX.call_isiE (K := K)) (by rfl) T.z_isinstance (by decide +kernel) (pa_cons (pv 0) (pa_cons (pe_bltn (v := .ty "bool") (by rfl) T.z_bool (by decide +kernel) rfl) pa_nil))) (pe_one (pe_cmpR op_eq (pv 0) (pv 1) (nomark _)))))), ?_⟩
    walk_at "go"
    refine g_isiE (isi_bb b) ?_
    walk_at "go"
    rw [decide_eq_true rfl]
    exact q
end
section
variable {P : Program} {w : World} {K : PySem.W.Frag} {mg : Str → Option Value} {base : Heap} {f : Nat → Addr} {d : Nat → FuncData}
theorem ok_law_number (T : Txt P K mg f d) : FnOk P w K mg base CX0 2 (f 11) (d 11) ["_law_bag_here"] (sp_law_number K) := by
  refine T.F_law_number.ok sc_law_number (fun vs H Q E h => ?_) (fun cdv A outer s H vs Q E hr h => ?_)
  · obtain ⟨p, n, rfl, hn, B, q⟩ := h
    rfl
  · obtain ⟨p, n, rfl, hn, B, q⟩ := h
    refine ⟨_, (pss_cons (ps_set (i := 1) sc_law_number.nd rfl (.inl rfl) (pe_lst (pa_cons pe_int (pa_cons pe_int (pa_cons (pe_op op_sub pe_int pe_int) (pa_cons (pe_call (ok_law_take T) (hr.mono (by decide)) rfl T.m__law_take T.k__law_take T.b__law_take .nil pass0 (pa_cons (pv 0) (pa_cons (pe_op op_sub (pe_op op_pow pe_int pe_int) pe_int) pa_nil))) (pa_cons (pe_op op_sub pe_int (pe_call (ok_law_take T) (hr.mono (by decide)) rfl T.m__law_take T.k__law_take T.b__law_take .nil pass0 (pa_cons (pv 0) (pa_cons (pe_op op_pow pe_int pe_int) pa_nil)))) (pa_cons (pe_op op_sub (pe_call (ok_law_take T) (hr.mono (by decide)) rfl T.m__law_take T.k__law_take T.b__law_take .nil pass0 (pa_cons (pv 0) (pa_cons pe_int pa_nil))) pe_int) pa_nil))))))))
      (pss_one (ps_ret (pe_ix (ix_listV (K := K)) (pv 1) (pe_call (ok_law_take T) (hr.mono (by decide)) rfl T.m__law_take T.k__law_take T.b__law_take .nil pass0 (pa_cons (pv 0) (pa_cons pe_int pa_nil))) (fun _ _ => rfl))))), ?_⟩
    walk_at "go"
    refine ⟨p, _, n, rfl, by decide, by decide, by omega, B, fun r1 H1 a0 a1 B1 M1 => ?_⟩
    walk_at "go"
    refine ⟨p, _, _, rfl, by decide, by decide, by omega, B1, fun r2 H2 b0 b1 B2 M2 => ?_⟩
    walk_at "go"
    refine ⟨p, 100, _, rfl, by decide, by decide, by omega, B2, fun r3 H3 c0 c1 B3 M3 => ?_⟩
    walk_at "go"
    rename_i l hl
    have nl := B3.ne hl
    refine ⟨p, 6, _, rfl, by decide, by decide, by omega, B3.new hl, fun z H4 z0 z1 B4 M4 => ?_⟩
    walk_at "go"
    obtain ⟨v, hv, ix⟩ := ix_draw (K := K) (M4 l _ nl upd_same) z0 z1 rfl
    refine ix _ ?_
    have M04 : Mv p H H4 := M1.trans (M2.trans (M3.trans ((Mv.new hl).trans M4)))
    have ea : (10 : Int) ^ Int.toNat 30 = 1000000000000000000000000000000 := by decide
    rw [ea] at a1 b1
    simp only [List.mem_cons, List.not_mem_nil, or_false] at hv
    rcases hv with rfl | rfl | rfl | rfl | rfl | rfl
    all_goals exact q _ H4 (by omega) (by omega) (B4.mono (by omega)) M04
end
section
variable {P : Program} {w : World} {K : PySem.W.Frag} {mg : Str → Option Value} {base : Heap} {f : Nat → Addr} {d : Nat → FuncData}
theorem ok_law_is_name (T : Txt P K mg f d) : FnOk P w K mg base CX0 1 (f 12) (d 12) ["_law_thing"] (sp_law_is_name K) := by
  refine T.F_law_is_name.ok sc_law_is_name (fun vs H Q E h => ?_) (fun cdv A outer s H vs Q E hr h => ?_)
  · obtain ⟨v, o, rfl, hv, q⟩ := h
    rfl
  · obtain ⟨v, o, rfl, hv, q⟩ := h
    refine ⟨_, (pss_cons (ps_set (i := 1) sc_law_is_name.nd rfl (.inr rfl) pe_str)
      (pss_one (ps_ret (pe_and (pe_callB (JgX.call_isiE (K := K)) (by rfl) T.z_isinstance (by decide +kernel) (pa_cons (pv 0) (pa_cons (pe_bltn (v := .ty "str") (by rfl) T.z_str (by decide +kernel) rfl) pa_nil))) (pe_and (pe_chain op_lt op_lt pe_int (pe_callB (call_lenV (K := K)) (by rfl) T.z_len (by decide +kernel) (pa_cons (pv 0) pa_nil)) pe_int) (pe_one (pe_cmpR (op_eqD hr.units) (pe_lc (own := [("_law_sign", 2)]) (g := gName 2) (tt := _) rfl sc_law_is_name.nd (pi_str (pv 0)) (blkOk_by (own := [("_law_sign", 2)]) (N := n_law_is_name) (sc := defScope s_law_is_name) (by decide +kernel)) (fun _ _ _ _ _ => pg_name (i := 2) sc_law_is_name.nd rfl (Or.inl rfl)) (fun _ _ _ _ _ => pts_one (pt_cmpR op_notInS (pv 2) (pv 1) rfl)) (fun _ _ _ _ _ => (pv 2))) (pe_lst pa_nil) (nomark _)))))))), ?_⟩
    walk_at "go"
    cases o with
    | none =>
      refine g_isiE hv ?_
      walk_at "go"
      exact q _ (Same.refl H)
    | some z =>
      obtain ⟨rfl, hz⟩ := hv
      have hzl : z.length ≤ 2000 := hz.1
      refine g_isiE (isi_s z) ?_
      walk_at "go"
      refine g_two (fun h => ?_) (fun h => ?_)
      · walk_at "go"
        refine g_two (fun h2 => ?_) (fun h2 => ?_)
        · walk_at "go"
          refine lc_strF (fun c => !decide (c ∈ (Str.ofString "abcdefghijklmnopqrstuvwxyz").cps.toList)) (fun c => .str ⟨#[c]⟩) (Nat.lt_of_le_of_lt hz.1 (by decide)) (fun _ => rfl) ?_ ?_ ?_
          · intro c hc H2 B same r
            walk_at "go"
            exact g_notInC rfl ⟨_, rfl, r⟩
          · intro c hc H2 R same r
            walk_at "go"
            exact r
          · intro D hD
            walk_at "go"
            rename_i p9 hp9
            refine g_texts0 (ys := (z.cps.toList.filter fun c => !decide (c ∈ (Str.ofString "abcdefghijklmnopqrstuvwxyz").cps.toList)).map fun c => (⟨#[c]⟩ : Str)) (upd_keep hp9 (by rw [upd_same, List.map_map]; rfl)) upd_same (fun y hy => ?_) ?_
            · obtain ⟨c, hc, rfl⟩ := List.mem_map.mp hy
              have := hz.2 c (List.mem_filter.mp hc).1
              simp [PyData.strOk]
              omega
            have eb : ((z.cps.toList.filter fun c => !decide (c ∈ (Str.ofString "abcdefghijklmnopqrstuvwxyz").cps.toList)).map fun c => (⟨#[c]⟩ : Str)).isEmpty = nameQ z := by
              unfold nameQ
              rw [decide_eq_true (show 1 ≤ z.length by omega), decide_eq_true (show z.length ≤ 8 by omega), Bool.and_self, Bool.true_and]
              rw [Bool.eq_iff_iff, List.isEmpty_iff, List.map_eq_nil_iff, List.filter_eq_nil_iff, List.all_eq_true]
              constructor
              · intro h c hc
                have := h c hc
                rw [smalls] at this
                simpa using this
              · intro h c hc
                rw [smalls, h c hc]
                simp
            rw [eb]
            exact q _ (fun b o e => upd_keep hp9 (upd_keep hD e))
        · have q1 : Q (.bl (nameQ z)) H := q H (Same.refl H)
          unfold nameQ at q1
          rw [decide_eq_false (show ¬ z.length ≤ 8 by omega), Bool.and_false, Bool.false_and] at q1
          walk_at "go"
          exact q1
      · have q1 : Q (.bl (nameQ z)) H := q H (Same.refl H)
        unfold nameQ at q1
        rw [decide_eq_false (show ¬ 1 ≤ z.length by omega), Bool.false_and, Bool.false_and] at q1
        walk_at "go"
        exact q1
end
section
variable {P : Program} {w : World} {K : PySem.W.Frag} {mg : Str → Option Value} {base : Heap} {f : Nat → Addr} {d : Nat → FuncData}
theorem ok_law_is_letter (T : Txt P K mg f d) : FnOk P w K mg base CX0 1 (f 13) (d 13) ["_law_thing"] (sp_law_is_letter K) := by
  refine T.F_law_is_letter.ok sc_law_is_letter (fun vs H Q E h => ?_) (fun cdv A outer s H vs Q E hr h => ?_)
  · obtain ⟨v, o, rfl, hv, q⟩ := h
    rfl
  · obtain ⟨v, o, rfl, hv, q⟩ := h
    refine ⟨_, (pss_cons (ps_if (PW.pt (pw_or (pt_not (pt_val (pe_callB (JgX.call_isiE (K := K)) (by rfl) T.z_isinstance (by decide +kernel) (pa_cons (pv 0) (pa_cons (pe_bltn (v := .ty "str") (by rfl) T.z_str (by decide +kernel) rfl) pa_nil))))) (pw_or (pt_cmpR op_eq (pv 0) pe_str (nomark _)) (pw_or1 (pt_cmpR op_notInS (pe_ix ix_str (pv 0) pe_int (fun _ _ => rfl)) pe_str rfl))))) (pss_one (ps_ret pe_bl)) pss_nil)
      (pss_one (ps_ret (pe_or (pe_cmpR op_eq (pe_slice sl_str (pv 0) (po_some pe_int) po_none) pe_str (nomark _)) (pe_one (pe_cmpR (op_inL (K := K)) (pe_slice sl_str (pv 0) (po_some pe_int) po_none) (pe_lc (own := [("_law_number_here", 1)]) (g := gName 1) (tt := tYes) rfl sc_law_is_letter.nd (pi_range1 (by rfl) T.z_range (pa_cons pe_int pa_nil)) (blkOk_by (own := [("_law_number_here", 1)]) (N := n_law_is_letter) (sc := defScope s_law_is_letter) (by decide +kernel)) (fun _ _ _ _ _ => pg_name (i := 1) sc_law_is_letter.nd rfl (Or.inl rfl)) (fun _ _ _ _ _ => pts_nil) (fun _ _ _ _ _ => (pe_callTy call_str_int (by rfl) T.z_str (by decide +kernel) (pa_cons (pv 1) pa_nil)))) rfl)))))), ?_⟩
    walk_at "go"
    cases o with
    | none =>
      refine g_isiE hv ?_
      walk_at "go"
      exact q _ (Same.refl H)
    | some z =>
      obtain ⟨rfl, hz⟩ := hv
      have hzl : z.length ≤ 2000 := hz.1
      refine g_isiE (isi_s z) ?_
      walk_at "go"
      refine g_txt (fun h => ?_) (fun h => ?_)
      · walk_at "go"
        have q1 : Q (.bl (letQ z)) H := q H (Same.refl H)
        rw [h, show letQ (Str.ofString "") = false by decide +kernel] at q1
        exact q1
      · have h1 : 1 ≤ z.length := by
          rw [TL.len_tl]
          cases e : TL.tl z with
          | nil => exact absurd (TL.ext_tl (by rw [e]; decide +kernel)) h
          | cons c r => simp
        obtain ⟨c, r, hcr⟩ := tl_cons (z := z) h1
        walk_at "go"
        refine g_ixS (Nat.le_trans hzl (by decide)) (at_head hcr) ?_
        walk_at "go"
        refine g_notInC rfl ?_
        rw [caps c]
        cases hb : (decide (65 ≤ c) && decide (c ≤ 90)) with
        | false =>
          have q1 : Q (.bl (letQ z)) H := q H (Same.refl H)
          unfold letQ at q1
          rw [cap_head hcr, hb, Bool.false_and, Bool.and_false] at q1
          walk_at "go"
          exact q1
        | true =>
          have e := letter_due hcr hb
          walk_at "go"
          refine g_txt (fun h2 => ?_) (fun h2 => ?_)
          · have q1 : Q (.bl (letQ z)) H := q H (Same.refl H)
            rw [e, h2, show TL.tl (Str.ofString "") = [] by decide +kernel, decide_eq_true rfl, Bool.true_or] at q1
            exact q1
          · have nn : TL.tl (cutS z (some 1) none) ≠ [] := fun y => h2 (TL.ext_tl (by rw [y]; decide +kernel))
            rw [decide_eq_false nn, Bool.false_or] at e
            walk_at "go"
            refine lc_rngF (fun j => .str (Str.ofString (toString ((0 : Int) + (j : Nat))))) (by decide) (fun _ => rfl) ?_ ?_
            · intro j H2 R hj s2 r2
              walk_at "go"
              refine ⟨_, rfl, ?_, r2⟩
              have s2 : ∀ n : Fin 100, ((0 : Int) + ((n : Nat) : Int)).natAbs.log2 < 1920 := by decide +kernel
              exact s2 ⟨j, hj⟩
            · intro D hD
              refine g_inL (K := K) (Or.inl (Or.inl upd_same)) rfl ?_ ?_
              · rw [List.all_map]
                exact List.all_eq_true.mpr fun _ _ => rfl
              have en : (Int.toNat 100) = 100 := rfl
              rw [en, inV_nums, ← e]
              exact q _ (fun b o e => upd_keep hD e)
end
section
variable {P : Program} {w : World} {K : PySem.W.Frag} {mg : Str → Option Value} {base : Heap} {f : Nat → Addr} {d : Nat → FuncData}
theorem ok_law_is_spot (T : Txt P K mg f d) : FnOk P w K mg base CX0 2 (f 14) (d 14) ["_law_thing"] (sp_law_is_spot K) := by
  refine T.F_law_is_spot.ok sc_law_is_spot (fun vs H Q E h => ?_) (fun cdv A outer s H vs Q E hr h => ?_)
  · obtain ⟨p, v, o, rfl, hv, q⟩ := h
    rfl
  · obtain ⟨p, v, o, rfl, hv, q⟩ := h
    refine ⟨_, (pss_cons (ps_if (PW.pt (pw_or (pt_not (pt_val (pe_callB (JgX.call_isiE (K := K)) (by rfl) T.z_isinstance (by decide +kernel) (pa_cons (pv 0) (pa_cons (pe_bltn (v := .ty "tuple") (by rfl) T.z_tuple (by decide +kernel) rfl) pa_nil))))) (pw_or1 (pt_cmpR op_gt (pe_callB (call_lenV (K := K)) (by rfl) T.z_len (by decide +kernel) (pa_cons (pv 0) pa_nil)) pe_int (nomark _))))) (pss_one (ps_ret pe_bl)) pss_nil)
      (pss_one (ps_ret (pe_cmpR (op_eqD hr.units) (pe_lc (own := [("_law_one", 1)]) (g := gName 1) (tt := _) rfl sc_law_is_spot.nd (pi_tup (pv 0)) (blkOk_by (own := [("_law_one", 1)]) (N := n_law_is_spot) (sc := defScope s_law_is_spot) (by decide +kernel)) (fun _ _ _ _ _ => pg_name (i := 1) sc_law_is_spot.nd rfl (Or.inl rfl)) (fun _ _ _ _ _ => pts_one (PW.pt (pw_or (pt_not (pt_val (pe_call (ok_law_whole T) (hr.mono (by decide)) rfl T.m__law_whole T.k__law_whole T.b__law_whole .nil pass0 (pa_cons (pv 1) pa_nil)))) (pw_or1 (pt_cmpR (op_notInTV (K := K)) (pv 1) (pe_tup (pa_cons pe_int (pa_cons pe_int (pa_cons pe_int (pa_cons pe_int pa_nil))))) rfl))))) (fun _ _ _ _ _ => (pv 1))) (pe_lst pa_nil) (nomark _))))), ?_⟩
    walk_at "go"
    cases o with
    | none =>
      refine g_isiE hv ?_
      walk_at "go"
      exact q _ (Same.refl H)
    | some ds =>
      obtain ⟨a, xs, rfl, np, ea, da, fit, isi⟩ := hv
      refine g_isiE isi ?_
      walk_at "go"
      refine g_lenT (Or.inl (Or.inl ea)) ?_
      walk_at "go"
      have len := da.length
      refine g_two (fun h => ?_) (fun h => ?_)
      · walk_at "go"
        have q1 : Q (.bl (spotQ ds)) H := q H (Same.refl H)
        unfold spotQ at q1
        rw [decide_eq_false (show ¬ ds.length ≤ 16 by omega), Bool.false_and] at q1
        exact q1
      · walk_at "go"
        refine g_iTup ?_
        walk_at "go"
        refine g_itt (Or.inl (Or.inl ea)) ?_
        refine lc_tupG (fun j => !atD (fun d => wholeB 0 3 (Thing.who (.dat d))) ds j) (fun j => xs.getD j .non) ea (Nat.lt_of_le_of_lt (show xs.length ≤ 16 by omega) (by decide)) (fun _ => rfl) ?_ ?_ ?_
        · intro j x H2 B hx s2 r
          obtain ⟨d1, hd, dd⟩ := da.get j x hx
          have e : atD (fun d => wholeB 0 3 (Thing.who (.dat d))) ds j = wholeB 0 3 (Thing.who (.dat d1)) := by
            unfold atD
            rw [hd]
          rw [e] at r
          have w := (dd.mv (p := p) (H' := H2) (fun b o _ e => s2 b o e)).isW (K := K)
          walk_at "go"
          refine ⟨x, _, rfl, w, ?_⟩
          walk_at "go"
          cases hw : Thing.who (.dat d1) with
          | none =>
            rw [hw] at r
            exact r H2 (Same.refl _)
          | some i =>
            rw [hw] at r w
            obtain rfl : x = .int i := w
            rw [show (some i : Option Int).isSome = true from rfl]
            walk_at "go"
            rename_i pt hpt
            refine g_notInT (Or.inl (Or.inl upd_same)) rfl rfl ?_
            have ei : inV (.int i) [V.int 0, V.int 1, V.int 2, V.int 3] = wholeB 0 3 (some i) := by
              show ((decide ((0 : Int) = i)) || (decide ((1 : Int) = i) || (decide ((2 : Int) = i) || (decide ((3 : Int) = i) || false)))) = decide (0 ≤ i ∧ i ≤ 3)
              rw [Bool.eq_iff_iff]
              simp only [Bool.or_eq_true, decide_eq_true_eq, Bool.false_eq_true, or_false]
              omega
            rw [ei]
            exact ⟨_, rfl, r _ (fun b o e => upd_keep hpt e)⟩
        · intro j x H2 R hx s2 r
          walk_at "go"
          have e : xs.getD j .non = x := by rw [List.getD_eq_getElem?_getD, hx]; rfl
          rw [e] at r
          exact r H2 (Same.refl _)
        · intro D H2 hD s2 eD
          walk_at "go"
          rename_i pe hpe
          have da2 := da.mv (H' := upd H2 pe (.lst [])) (fun b o _ e => upd_keep hpe (s2 b o e))
          refine g_data0 (upd_keep hpe eD) upd_same (dp_pick da2 _ (fun j hj => List.mem_range.mp (List.mem_filter.mp hj).1)) (fit.shaped fun y hy => ?_) ?_
          · obtain ⟨j, hj, rfl⟩ := List.mem_map.mp hy
            have hj := List.mem_range.mp (List.mem_filter.mp hj).1
            rw [len] at hj
            rw [List.getD_eq_getElem?_getD, List.getElem?_eq_getElem hj]
            exact List.getElem_mem hj
          · have e : (sel (fun j => !atD (fun d => wholeB 0 3 (Thing.who (.dat d))) ds j) (fun j => xs.getD j .non) xs.length).isEmpty = spotQ ds := by
              unfold sel spotQ
              rw [decide_eq_true (show ds.length ≤ 16 by omega), Bool.true_and, ← none_left, len]
              cases (List.range ds.length).filter fun j => !atD (fun d => wholeB 0 3 (Thing.who (.dat d))) ds j <;> rfl
            show Q (.bl (sel _ _ _).isEmpty) _
            rw [e]
            exact q _ (fun b o e => upd_keep hpe (s2 b o e))
end
section
variable {P : Program} {w : World} {K : PySem.W.Frag} {mg : Str → Option Value} {base : Heap} {f : Nat → Addr} {d : Nat → FuncData}
theorem ok_law_spoilt (T : Txt P K mg f d) : FnOk P w K mg base CX0 2 (f 15) (d 15) ["_law_bag_here", "_law_text_here"] (sp_law_spoilt K) := by
  refine T.F_law_spoilt.ok sc_law_spoilt (fun vs H Q E h => ?_) (fun cdv A outer s H vs Q E hr h => ?_)
  · obtain ⟨p, z, n, m, rfl, hn, B, hJ, hm, q⟩ := h
    rfl
  · obtain ⟨p, z, n, m, rfl, hn, B, hJ, hm, q⟩ := h
    refine ⟨_, (pss_cons (ps_set (i := 2) sc_law_spoilt.nd rfl (.inl rfl) pe_str)
      (pss_cons (ps_set (i := 3) sc_law_spoilt.nd rfl (.inl rfl) (pe_ix ix_str (pv 2) (pe_call (ok_law_take T) (hr.mono (by decide)) rfl T.m__law_take T.k__law_take T.b__law_take .nil pass0 (pa_cons (pv 0) (pa_cons pe_int pa_nil))) (fun _ _ => rfl)))
      (pss_cons (ps_set (i := 4) sc_law_spoilt.nd rfl (.inl rfl) (pe_call (ok_law_take T) (hr.mono (by decide)) rfl T.m__law_take T.k__law_take T.b__law_take .nil pass0 (pa_cons (pv 0) (pa_cons (pe_op op_add (pe_callB (call_lenV (K := K)) (by rfl) T.z_len (by decide +kernel) (pa_cons (pv 1) pa_nil)) pe_int) pa_nil))))
      (pss_cons (ps_set (i := 5) sc_law_spoilt.nd rfl (.inl rfl) (pe_call (ok_law_take T) (hr.mono (by decide)) rfl T.m__law_take T.k__law_take T.b__law_take .nil pass0 (pa_cons (pv 0) (pa_cons pe_int pa_nil))))
      (pss_cons (ps_if (pt_cmpR op_eq (pv 5) pe_int (nomark _)) (pss_one (ps_ret (pe_op op_addS (pe_op op_addS (pe_slice sl_str (pv 1) po_none (po_some (pv 4))) (pv 3)) (pe_slice sl_str (pv 1) (po_some (pv 4)) po_none)))) pss_nil)
      (pss_cons (ps_if (pt_cmpR op_eq (pv 5) pe_int (nomark _)) (pss_one (ps_ret (pe_op op_addS (pe_slice sl_str (pv 1) po_none (po_some (pv 4))) (pe_slice sl_str (pv 1) (po_some (pe_op op_add (pv 4) pe_int)) po_none)))) pss_nil)
      (pss_cons (ps_if (pt_cmpR op_eq (pv 5) pe_int (nomark _)) (pss_one (ps_ret (pe_op op_addS (pe_op op_addS (pe_slice sl_str (pv 1) po_none (po_some (pv 4))) (pv 3)) (pe_slice sl_str (pv 1) (po_some (pe_op op_add (pv 4) pe_int)) po_none)))) pss_nil)
      (pss_one (ps_ret (pv 1)))))))))), ?_⟩
    walk_at "go"
    generalize eS : Str.ofString "abzAZN0159 _-.\n{" = S
    have hS : Sg S 16 := by
      rw [← eS]
      exact Sg.of (by decide +kernel)
    have hL : S.length = 16 := by
      rw [← eS]
      decide +kernel
    have hSl : S.length ≤ sizeLine := by
      rw [hL]
      decide
    refine ⟨p, 16, n, rfl, by decide, by decide, by omega, B, fun r H1 r0 r1 B1 M1 => ?_⟩
    walk_at "go"
    obtain ⟨hz, e⟩ := atI_nat (xs := S.cps.toList) r0 (by rw [← show S.length = S.cps.toList.length from TL.len_tl S, hL]; exact r1)
    have hN := hS.sign e
    refine g_ixS hSl e ?_
    generalize (⟨#[S.cps.toList[r.toNat]]⟩ : Str) = C at hN
    have hJz : z.length ≤ sizeLine := Nat.le_trans hJ.1 (Nat.le_trans hm (by decide))
    have hJ9 := hJ.1
    walk_at "go"
    refine ⟨p, (z.length : Int) + 1, _, rfl, by omega, by omega, by omega, B1, fun t H3 s0 s1 B3 M3 => ?_⟩
    walk_at "go"
    refine ⟨p, 6, _, rfl, by decide, by decide, by omega, B3, fun way H5 w0 w1 B5 M5 => ?_⟩
    have M05 : Mv p H H5 := M1.trans (M3.trans M5)
    have hA := hJ.cut none (some t)
    have hC := hJ.cut (some t) none
    have hD2 := hJ.cut (some (t + 1)) none
    have big : 2 * m + 1 ≤ sizeLine := Nat.le_trans (by omega : 2 * m + 1 ≤ 2000) (by decide)
    walk_at "go"
    refine g_int2 (fun h => ?_) (fun h => ?_)
    · walk_at "go"
      refine g_addS (Nat.le_trans (Nat.add_le_add hA.1 hN.1) (by omega)) ?_
      walk_at "go"
      refine g_addS (Nat.le_trans (Nat.add_le_add (hA.app hN).1 hC.1) (by omega)) ?_
      exact q _ _ (((hA.app hN).app hC).mono (by omega)) (B5.mono (by omega)) M05
    walk_at "go"
    refine g_int2 (fun h => ?_) (fun h => ?_)
    · walk_at "go"
      refine g_addS (Nat.le_trans (Nat.add_le_add hA.1 hD2.1) (by omega)) ?_
      exact q _ _ ((hA.app hD2).mono (by omega)) (B5.mono (by omega)) M05
    walk_at "go"
    refine g_int2 (fun h => ?_) (fun h => ?_)
    · walk_at "go"
      refine g_addS (Nat.le_trans (Nat.add_le_add hA.1 hN.1) (by omega)) ?_
      walk_at "go"
      refine g_addS (Nat.le_trans (Nat.add_le_add (hA.app hN).1 hD2.1) (by omega)) ?_
      exact q _ _ (((hA.app hN).app hD2).mono (by omega)) (B5.mono (by omega)) M05
    · walk_at "go"
      exact q _ _ (hJ.mono (by omega)) (B5.mono (by omega)) M05
end
section
variable {P : Program} {w : World} {K : PySem.W.Frag} {mg : Str → Option Value} {base : Heap} {f : Nat → Addr} {d : Nat → FuncData}
theorem ok_law_text (T : Txt P K mg f d) : FnOk P w K mg base CX0 3 (f 16) (d 16) ["_law_bag_here"] (sp_law_text K) := by
  refine T.F_law_text.ok sc_law_text (fun vs H Q E h => ?_) (fun cdv A outer s H vs Q E hr h => ?_)
  · obtain ⟨p, n, rfl, hn, B, q⟩ := h
    rfl
  · obtain ⟨p, n, rfl, hn, B, q⟩ := h
    refine ⟨_, (pss_cons (ps_set (i := 1) sc_law_text.nd rfl (.inr rfl) pe_str)
      (pss_cons (ps_if (pt_cmpR op_eq (pe_call (ok_law_take T) (hr.mono (by decide)) rfl T.m__law_take T.k__law_take T.b__law_take .nil pass0 (pa_cons (pv 0) (pa_cons pe_int pa_nil))) pe_int (nomark _)) (pss_one (ps_ret (pe_call (ok_law_spoilt T) (hr.mono (by decide)) rfl T.m__law_spoilt T.k__law_spoilt T.b__law_spoilt .nil pass0 (pa_cons (pv 0) (pa_cons (pe_bm PySem.F.plainAttrs_str PySem.F.slot_str_join PySem.F.type_str_join (mt_joinV (K := K)) pe_str (pa_cons (pe_lc (own := [("_law_k", 2)]) (g := gName 2) (tt := tYes) rfl sc_law_text.nd (pi_range1 (by rfl) T.z_range (pa_cons (pe_op op_add pe_int (pe_call (ok_law_take T) (hr.mono (by decide)) rfl T.m__law_take T.k__law_take T.b__law_take .nil pass0 (pa_cons (pv 0) (pa_cons pe_int pa_nil)))) pa_nil)) (blkOk_by (own := [("_law_k", 2)]) (N := n_law_text) (sc := defScope s_law_text) (by decide +kernel)) (fun _ _ _ _ _ => pg_name (i := 2) sc_law_text.nd rfl (Or.inl rfl)) (fun _ _ _ _ _ => pts_nil) (fun _ _ _ _ _ => (pe_ix ix_str (pv 1) (pe_call (ok_law_take T) (hr.mono (by decide)) rfl T.m__law_take T.k__law_take T.b__law_take .nil pass0 (pa_cons (pv 0) (pa_cons pe_int pa_nil))) (fun _ _ => rfl)))) pa_nil)) pa_nil))))) pss_nil)
      (pss_cons (ps_set (i := 3) sc_law_text.nd rfl (.inl rfl) (pe_bm0 PySem.F.plainAttrs_str PySem.F.slot_str_upper PySem.F.type_str_upper mt_upper (pe_ix ix_str (pv 1) (pe_call (ok_law_take T) (hr.mono (by decide)) rfl T.m__law_take T.k__law_take T.b__law_take .nil pass0 (pa_cons (pv 0) (pa_cons pe_int pa_nil))) (fun _ _ => rfl))))
      (pss_cons (ps_set (i := 4) sc_law_text.nd rfl (.inl rfl) (pe_ix (ix_listV (K := K)) (pe_lst (pa_cons pe_str (pa_cons (pe_callTy call_str_int (by rfl) T.z_str (by decide +kernel) (pa_cons (pe_call (ok_law_take T) (hr.mono (by decide)) rfl T.m__law_take T.k__law_take T.b__law_take .nil pass0 (pa_cons (pv 0) (pa_cons pe_int pa_nil))) pa_nil)) (pa_cons pe_str (pa_cons pe_str (pa_cons pe_str (pa_cons pe_str pa_nil))))))) (pe_call (ok_law_take T) (hr.mono (by decide)) rfl T.m__law_take T.k__law_take T.b__law_take .nil pass0 (pa_cons (pv 0) (pa_cons pe_int pa_nil))) (fun _ _ => rfl)))
      (pss_one (ps_ret (pe_call (ok_law_spoilt T) (hr.mono (by decide)) rfl T.m__law_spoilt T.k__law_spoilt T.b__law_spoilt .nil pass0 (pa_cons (pv 0) (pa_cons (pe_op op_addS (pv 3) (pv 4)) pa_nil))))))))), ?_⟩
    walk_at "go"
    generalize eS : Str.ofString "abcdefghijklmnopqrstuvwxyz" = S
    have hS : Sg S 26 := by
      rw [← eS]
      exact Sg.of (by decide +kernel)
    have hL : S.length = 26 := by
      rw [← eS]
      decide +kernel
    have hSl : S.length ≤ sizeLine := by
      rw [hL]
      decide
    refine ⟨p, 2, n, rfl, by decide, by decide, by omega, B, fun r0 H1 a0 a1 B1 M1 => ?_⟩
    walk_at "go"
    refine g_int2 (fun h => ?_) (fun h => ?_)
    · walk_at "go"
      refine ⟨rfl, ?_⟩
      walk_at "go"
      refine ⟨p, 9, _, rfl, by decide, by decide, by omega, B1, fun r H2 r0 r1 B2 M2 => ?_⟩
      walk_at "go"
      refine lc_draw (p := p) (b0 := n + 2) (c := 1) (fun v => ∃ z, v = .str z ∧ Sg z 1) (Nat.lt_of_le_of_lt (by omega : (1 + r).toNat ≤ 9) (by decide)) (B2.mono (by omega)) (fun _ => rfl) ?_ ?_
      · intro j H3 R hj B3 M3 k
        walk_at "go"
        refine ⟨p, 26, n + 2 + j * 1, rfl, by decide, by decide, by omega, B3, fun z H4 z0 z1 B4 M4 => ?_⟩
        walk_at "go"
        obtain ⟨hz, e⟩ := atI_nat (xs := S.cps.toList) z0 (by rw [← show S.length = S.cps.toList.length from TL.len_tl S, hL]; exact z1)
        refine g_ixS hSl e ?_
        exact k _ H4 ⟨_, rfl, hS.sign e⟩ (B4.mono (by omega)) M4
      · intro D H3 ys hD nD ly hys eD B3 M3
        obtain ⟨ws, rfl, hw⟩ := strs_of hys
        rw [List.length_map] at ly
        have ly9 : ws.length ≤ 9 := by omega
        walk_at "go"
        have sm := sum_le (n := 1) fun z hz => (hw z hz).1
        refine g_join (K := K) (Or.inl (Or.inl eD)) (by rw [show (Str.ofString "").length = 0 from by decide +kernel]; omega) ?_
        have hJ : Sg (Txt.join (Str.ofString "") ws) 93 := (Sg.join (y := Str.ofString "") (n := 1) (k := 9) (Sg.of (by decide +kernel)) ly9 hw).mono (by decide)
        generalize Txt.join (Str.ofString "") ws = J at hJ
        walk_at "go"
        refine ⟨p, J, _, 93, rfl, by omega, B3, hJ, by decide, fun z' H5 hz' B5 M5 => ?_⟩
        exact q _ _ (hz'.mono (by decide)) (B5.mono (by omega)) (M1.trans (M2.trans (M3.trans M5)))
    · walk_at "go"
      refine g_BM0 ?_
      walk_at "go"
      refine ⟨p, 26, _, rfl, by decide, by decide, by omega, B1, fun r H2 r0 r1 B2 M2 => ?_⟩
      walk_at "go"
      obtain ⟨hz, e⟩ := atI_nat (xs := S.cps.toList) r0 (by rw [← show S.length = S.cps.toList.length from TL.len_tl S, hL]; exact r1)
      have hc : 97 ≤ S.cps.toList[r.toNat] ∧ S.cps.toList[r.toNat] ≤ 122 := by
        have mem := List.getElem_mem hz
        have all : ∀ x ∈ (Str.ofString "abcdefghijklmnopqrstuvwxyz").cps.toList, 97 ≤ x ∧ x ≤ 122 := by decide +kernel
        rw [eS] at all
        exact all _ mem
      refine g_ixS hSl e ?_
      generalize S.cps.toList[r.toNat] = c at hc
      refine ⟨rfl, _, rfl, rfl, (by decide : 1 ≤ 5592405), ?_⟩
      rw [up_small ⟨c, by omega⟩ hc.1]
      have hU : Sg ⟨#[c - 32]⟩ 1 := by
        refine ⟨Nat.le_refl _, fun d hd => ?_⟩
        have : d = c - 32 := by simpa [TL.tl] using hd
        omega
      walk_at "go"
      refine ⟨p, 121, _, rfl, by decide, by decide, by omega, B2, fun m H3 m0 m1 B3 M3 => ?_⟩
      walk_at "go"
      obtain ⟨k, rfl⟩ : ∃ k : Fin 121, m = ((k : Nat) : Int) := ⟨⟨m.toNat, by omega⟩, by show m = ((m.toNat : Nat) : Int); omega⟩
      have lg : ∀ n : Fin 121, (((n : Nat) : Int)).natAbs.log2 < 1920 := by decide +kernel
      refine ⟨_, rfl, lg k, ?_⟩
      have hM := sg_num k
      walk_at "go"
      rename_i l hl
      have nl := B3.ne hl
      refine ⟨p, 6, _, rfl, by decide, by decide, by omega, B3.new hl, fun z H4 z0 z1 B4 M4 => ?_⟩
      walk_at "go"
      obtain ⟨v, hv, ix⟩ := ix_draw (K := K) (M4 l _ nl upd_same) z0 z1 rfl
      refine ix _ ?_
      obtain ⟨w, rfl, hw⟩ : ∃ w, v = .str w ∧ Sg w 3 := by
        simp only [List.mem_cons, List.not_mem_nil, or_false] at hv
        rcases hv with rfl | rfl | rfl | rfl | rfl | rfl
        · exact ⟨_, rfl, Sg.of (by decide +kernel)⟩
        · exact ⟨_, rfl, hM⟩
        · exact ⟨_, rfl, Sg.of (by decide +kernel)⟩
        · exact ⟨_, rfl, Sg.of (by decide +kernel)⟩
        · exact ⟨_, rfl, Sg.of (by decide +kernel)⟩
        · exact ⟨_, rfl, Sg.of (by decide +kernel)⟩
      walk_at "go"
      refine g_addS (Nat.le_trans (Nat.add_le_add hU.1 hw.1) (by decide)) ?_
      have hJ := hU.app hw
      walk_at "go"
      refine ⟨p, _, _, 4, rfl, by omega, B4, hJ, by decide, fun z' H5 hz' B5 M5 => ?_⟩
      exact q _ _ (hz'.mono (by decide)) (B5.mono (by omega)) (M1.trans (M2.trans (M3.trans ((Mv.new hl).trans (M4.trans M5)))))
end
section
variable {P : Program} {w : World} {K : PySem.W.Frag} {mg : Str → Option Value} {base : Heap} {f : Nat → Addr} {d : Nat → FuncData}
theorem ok_law_any (T : Txt P K mg f d) : FnOk P w K mg base CX0 2 (f 18) (d 18) ["_law_bag_here"] (sp_law_any K) := by
  refine T.F_law_any.ok sc_law_any (fun vs H Q E h => ?_) (fun cdv A outer s H vs Q E hr h => ?_)
  · obtain ⟨p, n, rfl, hn, B, q⟩ := h
    rfl
  · obtain ⟨p, n, rfl, hn, B, q⟩ := h
    refine ⟨_, (pss_cons (ps_set (i := 1) sc_law_any.nd rfl (.inl rfl) (pe_lst (pa_cons pe_non (pa_cons pe_bl (pa_cons pe_bl (pa_cons (pe_op op_sub pe_int pe_int) (pa_cons (pe_op op_pow pe_int pe_int) (pa_cons pe_str (pa_cons pe_str (pa_cons pe_str (pa_cons (pe_lst pa_nil) (pa_cons (pe_lst (pa_cons pe_str pa_nil)) (pa_cons (pe_tup (pa_cons pe_str pa_nil)) (pa_cons (pe_tup pa_nil) (pa_cons pe_dnewK (pa_cons (pe_disp (pps_cons pe_str pe_int pps_nil) (by rfl) (by rfl) (fun z => by cases z) (by decide)) (pa_cons (pe_lst (pa_cons (pe_lst (pa_cons pe_int pa_nil)) pa_nil)) pa_nil)))))))))))))))))
      (pss_one (ps_ret (pe_ix (ix_listV (K := K)) (pv 1) (pe_call (ok_law_take T) (hr.mono (by decide)) rfl T.m__law_take T.k__law_take T.b__law_take .nil pass0 (pa_cons (pv 0) (pa_cons pe_int pa_nil))) (fun _ _ => rfl))))), ?_⟩
    walk_at "go"
    rename_i a1 h1 a2 h2 a3 h3 a4 h4 a5 h5 a6 h6 a7 h7 a8 h8 a9 h9
    have n1 : a1 ≠ p := ne_bag h1 B
    have n2 : a2 ≠ p := ne_bag h2 (n := n) (by walk_at "bg")
    have n3 : a3 ≠ p := ne_bag h3 (n := n) (by walk_at "bg")
    have n4 : a4 ≠ p := ne_bag h4 (n := n) (by walk_at "bg")
    have n5 : a5 ≠ p := ne_bag h5 (n := n) (by walk_at "bg")
    have n6 : a6 ≠ p := ne_bag h6 (n := n) (by walk_at "bg")
    have n7 : a7 ≠ p := ne_bag h7 (n := n) (by walk_at "bg")
    have n8 : a8 ≠ p := ne_bag h8 (n := n) (by walk_at "bg")
    have n9 : a9 ≠ p := ne_bag h9 (n := n) (by walk_at "bg")
    refine ⟨p, 15, n, rfl, by decide, by decide, by omega, by walk_at "bg", fun z H1 z0 z1 B1 M1 => ?_⟩
    walk_at "go"
    obtain ⟨v, hv, ix⟩ := ix_draw (K := K) (M1 a9 _ n9 upd_same) z0 z1 rfl
    refine ix _ ?_
    have M0 : Mv p H H1 := Mv.trans (by walk_at "mv") M1
    have e1 := M1 a1 _ n1 (by walk_at "hx")
    have e2 := M1 a2 _ n2 (by walk_at "hx")
    have e3 := M1 a3 _ n3 (by walk_at "hx")
    have e4 := M1 a4 _ n4 (by walk_at "hx")
    have e5 := M1 a5 _ n5 (by walk_at "hx")
    have e6 := M1 a6 _ n6 (by walk_at "hx")
    have e7 := M1 a7 _ n7 (by walk_at "hx")
    have e8 := M1 a8 _ n8 (by walk_at "hx")
    suffices h : ∃ t, TgR K p H1 v t from h.elim fun t ht => q v t H1 ht B1 M0
    simp only [List.mem_cons, List.not_mem_nil, or_false] at hv
    rcases hv with rfl | rfl | rfl | rfl | rfl | rfl | rfl | rfl | rfl | rfl | rfl | rfl | rfl | rfl | rfl
    · exact ⟨.dat .none, plainR .non rfl (by decide +kernel)⟩
    · exact ⟨.dat (.bool true), plainR (.bl _) rfl (by decide +kernel)⟩
    · exact ⟨.dat (.bool false), plainR (.bl _) rfl (by decide +kernel)⟩
    · exact ⟨.dat (.int _), plainR (.int _) rfl (by decide +kernel)⟩
    · exact ⟨.dat (.int _), plainR (.int _) rfl (by decide +kernel)⟩
    · exact ⟨.dat (.str _), plainR (.str _) rfl (by decide +kernel)⟩
    · exact ⟨.dat (.str _), plainR (.str _) rfl (by decide +kernel)⟩
    · exact ⟨.dat (.str _), plainR (.str _) rfl (by decide +kernel)⟩
    · exact ⟨.dat (.list []), plainR (.lst n1 e1 .nil) rfl (by decide +kernel)⟩
    · exact ⟨.dat (.list [.str _]), plainR (.lst n2 e2 (.cons (.str _) .nil)) rfl (by decide +kernel)⟩
    · exact ⟨.dat (.tuple [.str _]), plainR (.tup n3 e3 (.cons (.str _) .nil)) rfl (by decide +kernel)⟩
    · exact ⟨.dat (.tuple []), plainR (.tup n4 e4 .nil) rfl (by decide +kernel)⟩
    · exact ⟨.dat (.dict []), dictR ⟨_, rfl, Or.inl ⟨e5, rfl⟩⟩ rfl (by decide +kernel)⟩
    · exact ⟨.dat (.dict [(.str _, .int _)]), dictR ⟨_, rfl, Or.inr ⟨_, _, e6, rfl⟩⟩ rfl (by decide +kernel)⟩
    · exact ⟨.dat (.list [.list [.int _]]), plainR (.lst n8 e8 (.cons (.lst n7 e7 (.cons (.int _) .nil)) .nil)) rfl (by decide +kernel)⟩
end
section
variable {P : Program} {w : World} {K : PySem.W.Frag} {mg : Str → Option Value} {base : Heap} {f : Nat → Addr} {d : Nat → FuncData}
theorem ok_law_odd (T : Txt P K mg f d) : FnOk P w K mg base CX0 3 (f 17) (d 17) ["_law_bag_here"] (sp_law_odd K) := by
  refine T.F_law_odd.ok sc_law_odd (fun vs H Q E h => ?_) (fun cdv A outer s H vs Q E hr h => ?_)
  · obtain ⟨p, n, rfl, hn, B, q⟩ := h
    rfl
  · obtain ⟨p, n, rfl, hn, B, q⟩ := h
    refine ⟨_, (pss_one (ps_ret (pe_ix (ix_listV (K := K)) (pe_lst (pa_cons (pe_call (ok_law_any T) (hr.mono (by decide)) rfl T.m__law_any T.k__law_any T.b__law_any .nil pass0 (pa_cons (pv 0) pa_nil)) (pa_cons (JgX.pe_kx T.x_NoLetter T.y_NoLetter.iC T.y_NoLetter.tI (JgX.keep_st (k := 0) (CX := CX0) JgX.xValue T.x_NoLetter T.y_NoLetter zx_NoLetter zy_NoLetter T.n_NoLetter T.opq T.z_super T.tp) (hr.mono (by decide)) (T.y_NoLetter.binds fun _ _ _ _ _ _ _ _ us hl => match us, hl with | [_, _], _ => rfl) rfl T.c_NoLetter pe_str) (pa_cons (JgX.pe_kx T.x_NoNumber T.y_NoNumber.iC T.y_NoNumber.tI (JgX.keep_st (k := 0) (CX := CX0) JgX.xValue T.x_NoNumber T.y_NoNumber zx_NoNumber zy_NoNumber T.n_NoNumber T.opq T.z_super T.tp) (hr.mono (by decide)) (T.y_NoNumber.binds fun _ _ _ _ _ _ _ _ us hl => match us, hl with | [_, _], _ => rfl) rfl T.c_NoNumber pe_int) pa_nil)))) (pe_op op_mod (pe_op op_fdivW (pe_call (ok_law_take T) (hr.mono (by decide)) rfl T.m__law_take T.k__law_take T.b__law_take .nil pass0 (pa_cons (pv 0) (pa_cons pe_int pa_nil))) pe_int) pe_int) (fun _ _ => rfl)))), ?_⟩
    walk_at "go"
    refine ⟨p, n, rfl, by omega, B, fun v t H1 ht B1 M1 => ?_⟩
    walk_at "go"
    refine JgX.g_kx fun a H2 ha al1 k1 => ?_
    walk_at "go"
    refine JgX.g_kx fun b H3 hb al2 k2 => ?_
    have B3 : Bg H3 p (n + 1) := all_bg al2 (all_bg al1 B1)
    walk_at "go"
    rename_i l hl
    have nl := B3.ne hl
    refine ⟨p, 6, _, rfl, by decide, by decide, by omega, B3.new hl, fun z H4 z0 z1 B4 M4 => ?_⟩
    walk_at "go"
    obtain ⟨x, hx, ix⟩ := ix_draw (K := K) (M4 l _ nl upd_same) (m := 3) (z := z / 2 % 3) (by omega) (by omega) rfl
    refine ix _ ?_
    have Mx : Mv p H1 H4 := (all_mv p al1).trans ((all_mv p al2).trans ((Mv.new hl).trans M4))
    have My : Mv p H2 H4 := (all_mv p al2).trans ((Mv.new hl).trans M4)
    have Mz : Mv p H3 H4 := (Mv.new hl).trans M4
    suffices h : ∃ t, TgR K p H4 x t from h.elim fun t ht => q x t H4 ht (B4.mono (by omega)) (M1.trans Mx)
    simp only [List.mem_cons, List.not_mem_nil, or_false] at hx
    rcases hx with rfl | rfl | rfl
    · exact ⟨t, ht.mv B1 Mx⟩
    · have h : TgR K p H2 (.ref a) (.exc (f 100) "NoLetter" "no letter") := ⟨a, rfl, k1, by decide +kernel, T.a_NoLetter, T.r_NoLetter⟩
      exact ⟨_, h.mv (all_bg al1 B1) My⟩
    · have h : TgR K p H3 (.ref b) (.exc (f 102) "NoNumber" "no number") := ⟨b, rfl, k2, by decide +kernel, T.a_NoNumber, T.r_NoNumber⟩
      exact ⟨_, h.mv B3 Mz⟩
end
section
variable {P : Program} {w : World} {K : PySem.W.Frag} {mg : Str → Option Value} {base : Heap} {f : Nat → Addr} {d : Nat → FuncData}
theorem ok_law_spot (T : Txt P K mg f d) : FnOk P w K mg base CX0 2 (f 19) (d 19) ["_law_bag_here"] (sp_law_spot K) := by
  refine T.F_law_spot.ok sc_law_spot (fun vs H Q E h => ?_) (fun cdv A outer s H vs Q E hr h => ?_)
  · obtain ⟨p, n, rfl, hn, B, q⟩ := h
    rfl
  · obtain ⟨p, n, rfl, hn, B, q⟩ := h
    refine ⟨_, (pss_cons (ps_setLc (i := 1) (own := [("_law_k", 2)]) (g := gName 2) (tt := tYes) rfl sc_law_spot.nd rfl rfl (sw_true rfl rfl rfl (by decide +kernel)) (pi_range1 (by rfl) T.z_range (pa_cons (pe_call (ok_law_take T) (hr.mono (by decide)) rfl T.m__law_take T.k__law_take T.b__law_take .nil pass0 (pa_cons (pv 0) (pa_cons (pe_ix (ix_listV (K := K)) (pe_lst (pa_cons pe_int (pa_cons pe_int pa_nil))) (pe_call (ok_law_take T) (hr.mono (by decide)) rfl T.m__law_take T.k__law_take T.b__law_take .nil pass0 (pa_cons (pv 0) (pa_cons pe_int pa_nil))) (fun _ _ => rfl)) pa_nil))) pa_nil)) (blkOk_by (own := [("_law_k", 2)]) (N := n_law_spot) (sc := defScope s_law_spot) (by decide +kernel)) (fun _ _ _ _ _ => pg_name (i := 2) sc_law_spot.nd rfl (Or.inl rfl)) (fun _ _ _ _ _ => pts_nil) (fun _ _ _ _ _ => (pe_call (ok_law_take T) (hr.mono (by decide)) rfl T.m__law_take T.k__law_take T.b__law_take .nil pass0 (pa_cons (pv 0) (pa_cons pe_int pa_nil)))))
      (pss_cons (ps_set (i := 3) sc_law_spot.nd rfl (.inl rfl) (pe_call (ok_law_take T) (hr.mono (by decide)) rfl T.m__law_take T.k__law_take T.b__law_take .nil pass0 (pa_cons (pv 0) (pa_cons (pe_op op_add (pe_callB (call_lenV (K := K)) (by rfl) T.z_len (by decide +kernel) (pa_cons (pv 1) pa_nil)) pe_int) pa_nil))))
      (pss_cons (ps_set (i := 4) sc_law_spot.nd rfl (.inl rfl) (pe_ix (ix_listV (K := K)) (pe_lst (pa_cons pe_int (pa_cons (pe_op op_sub pe_int pe_int) (pa_cons pe_bl (pa_cons pe_non (pa_cons pe_str (pa_cons (pe_tup (pa_cons pe_int pa_nil)) (pa_cons (pe_op op_pow pe_int pe_int) pa_nil)))))))) (pe_call (ok_law_take T) (hr.mono (by decide)) rfl T.m__law_take T.k__law_take T.b__law_take .nil pass0 (pa_cons (pv 0) (pa_cons pe_int pa_nil))) (fun _ _ => rfl)))
      (pss_cons (ps_if (pt_cmpR op_eq (pe_call (ok_law_take T) (hr.mono (by decide)) rfl T.m__law_take T.k__law_take T.b__law_take .nil pass0 (pa_cons (pv 0) (pa_cons pe_int pa_nil))) pe_int (nomark _)) (pss_one (ps_set (i := 1) sc_law_spot.nd rfl (.inl rfl) (pe_op op_cat (pe_op op_cat (pe_slice sl_list (pv 1) po_none (po_some (pv 3))) (pe_lst (pa_cons (pv 4) pa_nil))) (pe_slice sl_list (pv 1) (po_some (pv 3)) po_none)))) pss_nil)
      (pss_one (ps_ret (pe_ix (ix_listV (K := K)) (pe_lst (pa_cons (pe_callTy call_tuple_of (by rfl) T.z_tuple (by decide +kernel) (pa_cons (pv 1) pa_nil)) (pa_cons (pe_callTy call_tuple_of (by rfl) T.z_tuple (by decide +kernel) (pa_cons (pv 1) pa_nil)) (pa_cons (pe_callTy call_tuple_of (by rfl) T.z_tuple (by decide +kernel) (pa_cons (pv 1) pa_nil)) (pa_cons (pv 1) pa_nil))))) (pe_call (ok_law_take T) (hr.mono (by decide)) rfl T.m__law_take T.k__law_take T.b__law_take .nil pass0 (pa_cons (pv 0) (pa_cons pe_int pa_nil))) (fun _ _ => rfl)))))))), ?_⟩
    walk_at "go"
    rename_i l0 hl0
    have nl0 := B.ne hl0
    refine ⟨p, 2, _, rfl, by decide, by decide, by omega, B.new hl0, fun z H1 z0 z1 B1 M1 => ?_⟩
    walk_at "go"
    obtain ⟨x, hx, ix⟩ := ix_draw (K := K) (M1 l0 _ nl0 upd_same) z0 z1 rfl
    refine ix _ ?_
    obtain ⟨w, rfl, w0, w1⟩ : ∃ w : Int, x = .int w ∧ 0 < w ∧ w ≤ 19 := by
      simp only [List.mem_cons, List.not_mem_nil, or_false] at hx
      rcases hx with rfl | rfl
      · exact ⟨_, rfl, by decide, by decide⟩
      · exact ⟨_, rfl, by decide, by decide⟩
    walk_at "go"
    refine ⟨p, w, _, rfl, w0, by omega, by omega, B1, fun m H2 m0 m1 B2 M2 => ?_⟩
    have M02 : Mv p H H2 := (Mv.new hl0).trans (M1.trans M2)
    walk_at "go"
    obtain ⟨k, rfl⟩ : ∃ k : Nat, m = (k : Int) := ⟨m.toNat, by omega⟩
    have lt18 : k ≤ 18 := by omega
    refine lc_draw (c := 1) (n := (k : Int).toNat) (fun v => ∃ i : Int, v = .int i ∧ 0 ≤ i ∧ i < 4) (by rw [Int.toNat_natCast]; exact Nat.lt_of_le_of_lt lt18 (by decide)) B2 (fun _ => rfl) ?_ ?_
    · intro j H3 R hj B3 M3 kq
      walk_at "go"
      refine ⟨p, 4, _, rfl, by decide, by decide, by omega, B3, fun z2 H4 y0 y1 B4 M4 => ?_⟩
      exact kq _ _ ⟨_, rfl, y0, y1⟩ (B4.mono (by omega)) M4
    · intro D H3 ys hD nD ly hys eD B3 M3
      rw [Int.toNat_natCast] at ly B3
      have M03 := M02.trans M3
      walk_at "go"
      refine ⟨p, _, _, rfl, by omega, by omega, by omega, B3, fun a H4 a0 a1 B4 M4 => ?_⟩
      have eD4 := M4 _ _ nD eD
      have M04 := M03.trans M4
      walk_at "go"
      rename_i t0 ht0 l1 hl1
      have nt0 := B4.ne ht0
      have nl1 := (B4.new ht0).ne hl1
      refine ⟨p, 7, _, rfl, by decide, by decide, by omega, (B4.new ht0).new hl1, fun b H5 b0 b1 B6 M5 => ?_⟩
      have M45 : Mv p H4 H5 := (Mv.new ht0).trans ((Mv.new hl1).trans M5)
      have M05 := M04.trans M45
      have eD5 := M45 _ _ nD eD4
      walk_at "go"
      obtain ⟨v, hv, ix2⟩ := ix_draw (K := K) (M5 l1 _ nl1 upd_same) b0 b1 rfl
      refine ix2 _ ?_
      have et0 : H5 t0 = some (.tup [.int 0]) := M5 _ _ nt0 (by walk_at "hx")
      have sv : SmV p H5 v := by
        simp only [List.mem_cons, List.not_mem_nil, or_false] at hv
        rcases hv with rfl | rfl | rfl | rfl | rfl | rfl | rfl
        · exact ⟨_, .int _, by decide +kernel⟩
        · exact ⟨_, .int _, by decide +kernel⟩
        · exact ⟨_, .bl _, by decide +kernel⟩
        · exact ⟨_, .non, by decide +kernel⟩
        · exact ⟨_, .str _, by decide +kernel⟩
        · exact ⟨.tuple [.int 0], .tup nt0 et0 (.cons (.int _) .nil), by decide +kernel⟩
        · exact ⟨_, .int _, by decide +kernel⟩
      have sy : ∀ y ∈ ys, SmV p H5 y := by
        intro y hy
        obtain ⟨i, rfl, i0, i1⟩ := hys y hy
        have four : ∀ n : Fin 4, smD (.int ((n : Nat) : Int)) = true := by decide +kernel
        obtain ⟨n, rfl⟩ : ∃ n : Fin 4, i = ((n : Nat) : Int) := ⟨⟨i.toNat, by omega⟩, by show i = ((i.toNat : Nat) : Int); omega⟩
        exact ⟨_, .int _, four n⟩
      clear hv ix2 hys
      walk_at "go"
      refine ⟨p, 3, _, rfl, by decide, by decide, by omega, B6, fun c H6 c0 c1 B7 M6 => ?_⟩
      have eD6 := M6 _ _ nD eD5
      have M06 := M05.trans M6
      replace sv := sv.mv M6
      replace sy : ∀ y ∈ ys, SmV p H6 y := fun y hy => (sy y hy).mv M6
      walk_at "go"
      refine g_two (fun hc => ?_) (fun hc => ?_)
      · walk_at "go"
        refine g_slL (K := K) eD6 ?_
        intro m1 k1
        walk_at "go"
        rename_i m2 k2
        have sub1 := @cutV_sub ys none (some a)
        have sub2 := @cutV_sub ys (some a) none
        refine g_cat (by walk_at "hx") upd_same (Nat.le_trans (Nat.add_le_add sub1.2 (Nat.le_refl _)) (by rw [ly]; exact Nat.le_trans (Nat.add_le_add_right lt18 _) (by show 18 + 1 ≤ sizeLine; decide))) ?_
        intro m3 k3
        walk_at "go"
        refine g_slL (K := K) (a := D) (xs := ys) (by walk_at "hx") ?_
        intro m4 k4
        walk_at "go"
        refine g_cat (xs := cutV ys none (some a) ++ [v]) (zs := cutV ys (some a) none) (by walk_at "hx") upd_same (Nat.le_trans (Nat.add_le_add (by rw [List.length_append]; exact Nat.add_le_add sub1.2 (Nat.le_refl _)) sub2.2) (by rw [ly]; exact Nat.le_trans (Nat.add_le_add (Nat.add_le_add_right lt18 _) lt18) (by show 18 + 1 + 18 ≤ sizeLine; decide))) ?_
        intro m5 k5
        have C1 := B7.new (o := .lst (cutV ys none (some a))) k1
        have C2 := C1.new (o := .lst [v]) k2
        have C3 := C2.new (o := .lst (cutV ys none (some a) ++ [v])) k3
        have C4 := C3.new (o := .lst (cutV ys (some a) none)) k4
        have nm := C4.ne k5
        have C5 := C4.new (o := .lst ((cutV ys none (some a) ++ [v]) ++ cutV ys (some a) none)) k5
        have NM : Mv p H6 _ := (Mv.new (o := .lst (cutV ys none (some a))) k1).trans ((Mv.new (o := .lst [v]) k2).trans ((Mv.new (o := .lst (cutV ys none (some a) ++ [v])) k3).trans ((Mv.new (o := .lst (cutV ys (some a) none)) k4).trans (Mv.new (o := .lst ((cutV ys none (some a) ++ [v]) ++ cutV ys (some a) none)) k5))))
        have eF := @upd_same (upd (upd (upd (upd H6 m1 (.lst (cutV ys none (some a)))) m2 (.lst [v])) m3 (.lst (cutV ys none (some a) ++ [v]))) m4 (.lst (cutV ys (some a) none))) m5 (.lst ((cutV ys none (some a) ++ [v]) ++ cutV ys (some a) none))
        have sz : ∀ y ∈ (cutV ys none (some a) ++ [v]) ++ cutV ys (some a) none, SmV p H6 y := by
          intro y hy
          rcases List.mem_append.mp hy with hy | hy
          · rcases List.mem_append.mp hy with hy | hy
            · exact sy y (sub1.1 y hy)
            · rw [List.mem_singleton.mp hy]
              exact sv
          · exact sy y (sub2.1 y hy)
        have lz : ((cutV ys none (some a) ++ [v]) ++ cutV ys (some a) none).length ≤ 60 := by
          have e : (cutV ys none (some a)).length + (cutV ys (some a) none).length ≤ 36 := by
            have e1 := sub1.2
            have e2 := sub2.2
            omega
          rw [List.length_append, List.length_append]
          show _ + 1 + _ ≤ _
          omega
        generalize (cutV ys none (some a) ++ [v]) ++ cutV ys (some a) none = zs at *
        generalize upd (upd (upd (upd (upd H6 m1 (.lst (cutV ys none (some a)))) m2 (.lst [v])) m3 (.lst (cutV ys none (some a) ++ [v]))) m4 (.lst (cutV ys (some a) none))) m5 (.lst zs) = H7 at *
        have M07 := M06.trans NM
        replace sz : ∀ y ∈ zs, SmV p H7 y := fun y hy => (sz y hy).mv NM
        walk_at "go"
        refine ⟨_, zs, rfl, Or.inl ⟨Or.inl (Or.inl eF), ?_⟩⟩
        intro l1 h1
        walk_at "go"
        refine ⟨_, zs, rfl, Or.inl ⟨Or.inl (Or.inl (by walk_at "hx")), ?_⟩⟩
        intro l2 h2
        walk_at "go"
        refine ⟨_, zs, rfl, Or.inl ⟨Or.inl (Or.inl (by walk_at "hx")), ?_⟩⟩
        intro l3 h3
        walk_at "go"
        rename_i l4 h4
        have n1 := C5.ne h1
        have n2 := (C5.new h1).ne h2
        have n3 := ((C5.new h1).new h2).ne h3
        have n4 := (((C5.new h1).new h2).new h3).ne h4
        refine ⟨p, 4, _, rfl, by decide, by decide, by omega, (((C5.new h1).new h2).new h3).new h4, fun e H8 e0 e1 B8 M8 => ?_⟩
        walk_at "go"
        obtain ⟨v, hv, ix⟩ := ix_draw (K := K) (M8 l4 _ n4 upd_same) e0 e1 rfl
        refine ix _ ?_
        have f1 := M8 l1 _ n1 (by walk_at "hx")
        have f2 := M8 l2 _ n2 (by walk_at "hx")
        have f3 := M8 l3 _ n3 (by walk_at "hx")
        have f4 := M8 _ _ nm (by walk_at "hx")
        have MF : Mv p H7 H8 := (Mv.new h1).trans ((Mv.new h2).trans ((Mv.new h3).trans ((Mv.new h4).trans M8)))
        have sv : ∀ y ∈ zs, SmV p H8 y := fun y hy => (sz y hy).mv MF
        suffices h : ∃ t, TgR K p H8 v t from h.elim fun t ht => q v t H8 ht (B8.mono (by omega)) (M07.trans MF)
        simp only [List.mem_cons, List.not_mem_nil, or_false] at hv
        rcases hv with rfl | rfl | rfl | rfl
        · exact sm_tup n1 f1 sv lz
        · exact sm_tup n2 f2 sv lz
        · exact sm_tup n3 f3 sv lz
        · exact sm_lst nm f4 sv lz
      · walk_at "go"
        walk_at "go"
        refine ⟨_, ys, rfl, Or.inl ⟨Or.inl (Or.inl eD6), ?_⟩⟩
        intro l1 h1
        walk_at "go"
        refine ⟨_, ys, rfl, Or.inl ⟨Or.inl (Or.inl (by walk_at "hx")), ?_⟩⟩
        intro l2 h2
        walk_at "go"
        refine ⟨_, ys, rfl, Or.inl ⟨Or.inl (Or.inl (by walk_at "hx")), ?_⟩⟩
        intro l3 h3
        walk_at "go"
        rename_i l4 h4
        have n1 := B7.ne h1
        have n2 := (B7.new h1).ne h2
        have n3 := ((B7.new h1).new h2).ne h3
        have n4 := (((B7.new h1).new h2).new h3).ne h4
        refine ⟨p, 4, _, rfl, by decide, by decide, by omega, (((B7.new h1).new h2).new h3).new h4, fun e H8 e0 e1 B8 M8 => ?_⟩
        walk_at "go"
        obtain ⟨v, hv, ix⟩ := ix_draw (K := K) (M8 l4 _ n4 upd_same) e0 e1 rfl
        refine ix _ ?_
        have f1 := M8 l1 _ n1 (by walk_at "hx")
        have f2 := M8 l2 _ n2 (by walk_at "hx")
        have f3 := M8 l3 _ n3 (by walk_at "hx")
        have f4 := M8 _ _ nD (by walk_at "hx")
        have MF : Mv p H6 H8 := (Mv.new h1).trans ((Mv.new h2).trans ((Mv.new h3).trans ((Mv.new h4).trans M8)))
        have sv : ∀ y ∈ ys, SmV p H8 y := fun y hy => (sy y hy).mv MF
        suffices h : ∃ t, TgR K p H8 v t from h.elim fun t ht => q v t H8 ht (B8.mono (by omega)) (M06.trans MF)
        simp only [List.mem_cons, List.not_mem_nil, or_false] at hv
        rcases hv with rfl | rfl | rfl | rfl
        · exact sm_tup n1 f1 sv (by omega)
        · exact sm_tup n2 f2 sv (by omega)
        · exact sm_tup n3 f3 sv (by omega)
        · exact sm_lst nD f4 sv (by omega)
end
section
variable {P : Program} {w : World} {K : PySem.W.Frag} {mg : Str → Option Value} {base : Heap} {f : Nat → Addr} {d : Nat → FuncData}
theorem ok_law_right (T : Txt P K mg f d) : FnG P w K mg base 4 (f 20) (d 20) ["_law_bag_here"] (sp_law_right K) := by
  refine fnG_of T.F_law_right sc_law_right (fun vs H Q E h => ?_) (fun cdv A outer s H vs Q E hr gua h => ?_)
  · obtain ⟨p, n, rfl, hn, B, q⟩ := h
    rfl
  · obtain ⟨p, n, rfl, hn, B, q⟩ := h
    refine ⟨_, (pss_cons (ps_set (i := 1) sc_law_right.nd rfl (.inl rfl) (pe_ix (ix_listV (K := K)) (pe_lst (pa_cons (pe_call (ok_law_number T) (hr.mono (by decide)) rfl T.m__law_number T.k__law_number T.b__law_number .nil pass0 (pa_cons (pv 0) pa_nil)) (pa_cons (pe_call (ok_law_odd T) (hr.mono (by decide)) rfl T.m__law_odd T.k__law_odd T.b__law_odd .nil pass0 (pa_cons (pv 0) pa_nil)) pa_nil))) (pe_callTy call_intV (by rfl) T.z_int (by decide +kernel) (pa_cons (pe_cmpR op_eq (pe_call (ok_law_take T) (hr.mono (by decide)) rfl T.m__law_take T.k__law_take T.b__law_take .nil pass0 (pa_cons (pv 0) (pa_cons pe_int pa_nil))) pe_int (nomark _)) pa_nil)) (fun _ _ => rfl)))
      (pss_cons (ps_set (i := 2) sc_law_right.nd rfl (.inl rfl) (pe_ifExp (pt_val (pe_callB (JgX.call_isiE (K := K)) (by rfl) T.z_isinstance (by decide +kernel) (pa_cons (pv 1) (pa_cons (pe_bltn (v := .ty "int") (by rfl) T.z_int (by decide +kernel) rfl) pa_nil)))) (pv 1) pe_int))
      (pss_cons (ps_set (i := 3) sc_law_right.nd rfl (.inl rfl) (pe_op op_sub (pe_op op_addA (pe_ix (ix_listV (K := K)) (pe_lst (pa_cons (pv 2) (pa_cons (pe_call (ok_law_number T) (hr.mono (by decide)) rfl T.m__law_number T.k__law_number T.b__law_number .nil pass0 (pa_cons (pv 0) pa_nil)) pa_nil))) (pe_call (ok_law_take T) (hr.mono (by decide)) rfl T.m__law_take T.k__law_take T.b__law_take .nil pass0 (pa_cons (pv 0) (pa_cons pe_int pa_nil))) (fun _ _ => rfl)) (pe_call (ok_law_take T) (hr.mono (by decide)) rfl T.m__law_take T.k__law_take T.b__law_take .nil pass0 (pa_cons (pv 0) (pa_cons pe_int pa_nil)))) pe_int))
      (pss_cons (ps_set (i := 4) sc_law_right.nd rfl (.inl rfl) (pe_op op_sub (pe_op op_addA (pe_ix (ix_listV (K := K)) (pe_lst (pa_cons (pv 2) (pa_cons (pe_call (ok_law_number T) (hr.mono (by decide)) rfl T.m__law_number T.k__law_number T.b__law_number .nil pass0 (pa_cons (pv 0) pa_nil)) pa_nil))) (pe_call (ok_law_take T) (hr.mono (by decide)) rfl T.m__law_take T.k__law_take T.b__law_take .nil pass0 (pa_cons (pv 0) (pa_cons pe_int pa_nil))) (fun _ _ => rfl)) (pe_call (ok_law_take T) (hr.mono (by decide)) rfl T.m__law_take T.k__law_take T.b__law_take .nil pass0 (pa_cons (pv 0) (pa_cons pe_int pa_nil)))) pe_int))
      (pss_cons (ps_set (i := 5) sc_law_right.nd rfl (.inl rfl) (pe_and (pe_call (ok_law_whole T) (hr.mono (by decide)) rfl T.m__law_whole T.k__law_whole T.b__law_whole .nil pass0 (pa_cons (pv 1) pa_nil)) (pe_one (pe_chain op_le op_le (pv 3) (pv 1) (pv 4)))))
      (pss_cons (ps_set (i := 6) sc_law_right.nd rfl (.inl rfl) (pe_ix (ix_listV (K := K)) (pe_lst (pa_cons (pe_call (ok_law_text T) (hr.mono (by decide)) rfl T.m__law_text T.k__law_text T.b__law_text .nil pass0 (pa_cons (pv 0) pa_nil)) (pa_cons (pe_call (ok_law_odd T) (hr.mono (by decide)) rfl T.m__law_odd T.k__law_odd T.b__law_odd .nil pass0 (pa_cons (pv 0) pa_nil)) pa_nil))) (pe_callTy call_intV (by rfl) T.z_int (by decide +kernel) (pa_cons (pe_cmpR op_eq (pe_call (ok_law_take T) (hr.mono (by decide)) rfl T.m__law_take T.k__law_take T.b__law_take .nil pass0 (pa_cons (pv 0) (pa_cons pe_int pa_nil))) pe_int (nomark _)) pa_nil)) (fun _ _ => rfl)))
      (pss_cons (ps_set (i := 7) sc_law_right.nd rfl (.inl rfl) (pe_ix (ix_listV (K := K)) (pe_lst (pa_cons (pe_call (ok_law_spot T) (hr.mono (by decide)) rfl T.m__law_spot T.k__law_spot T.b__law_spot .nil pass0 (pa_cons (pv 0) pa_nil)) (pa_cons (pe_call (ok_law_odd T) (hr.mono (by decide)) rfl T.m__law_odd T.k__law_odd T.b__law_odd .nil pass0 (pa_cons (pv 0) pa_nil)) pa_nil))) (pe_callTy call_intV (by rfl) T.z_int (by decide +kernel) (pa_cons (pe_cmpR op_eq (pe_call (ok_law_take T) (hr.mono (by decide)) rfl T.m__law_take T.k__law_take T.b__law_take .nil pass0 (pa_cons (pv 0) (pa_cons pe_int pa_nil))) pe_int (nomark _)) pa_nil)) (fun _ _ => rfl)))
      (pss_cons (ps_set (i := 8) sc_law_right.nd rfl (.inl rfl) (pe_callB (JgX.call_show (K := K) gua hr.units) (by rfl) T.z_repr (by decide +kernel) (pa_cons (pe_lst (pa_cons (pv 1) (pa_cons (pv 6) (pa_cons (pv 7) pa_nil)))) pa_nil)))
      (pss_cons (ps_for PassesOwn.never rfl (pi_range1 (by rfl) T.z_range (pa_cons pe_int pa_nil)) (pg_name (i := 9) sc_law_right.nd rfl (.inl rfl)) (pss_cons (ps_if (PW.pt (pw_or (pt_not (pt_val (pe_call (ok_law_is T) (hr.mono (by decide)) rfl T.m__law_is T.k__law_is T.b__law_is .nil pass0 (pa_cons (pe_call (ok_is_whole T) (hr.mono (by decide)) rfl T.m_is_whole T.k_is_whole T.b_is_whole .nil pass0 (pa_cons (pv 1) (pa_cons (pv 3) (pa_cons (pv 4) pa_nil)))) (pa_cons (pv 5) pa_nil))))) (pw_or1 (pt_not (pt_val (pe_call (ok_law_is T) (hr.mono (by decide)) rfl T.m__law_is T.k__law_is T.b__law_is .nil pass0 (pa_cons (pe_call (ok_is_spot T) (hr.mono (by decide)) rfl T.m_is_spot T.k_is_spot T.b_is_spot .nil pass0 (pa_cons (pv 7) pa_nil)) (pa_cons (pe_call (ok_law_is_spot T) (hr.mono (by decide)) rfl T.m__law_is_spot T.k__law_is_spot T.b__law_is_spot .nil pass0 (pa_cons (pv 7) pa_nil)) pa_nil)))))))) (pss_one (ps_ret pe_bl)) pss_nil)
      (pss_one (ps_for PassesOwn.never rfl (pi_list (pe_lst (pa_cons (pv 6) (pa_cons (pv 7) (pa_cons (pv 1) pa_nil))))) (pg_name (i := 10) sc_law_right.nd rfl (.inl rfl)) (pss_one (ps_if (PW.pt (pw_or (pt_not (pt_val (pe_call (ok_law_is T) (hr.mono (by decide)) rfl T.m__law_is T.k__law_is T.b__law_is .nil pass0 (pa_cons (pe_call (ok_is_name T) (hr.mono (by decide)) rfl T.m_is_name T.k_is_name T.b_is_name .nil pass0 (pa_cons (pv 10) pa_nil)) (pa_cons (pe_call (ok_law_is_name T) (hr.mono (by decide)) rfl T.m__law_is_name T.k__law_is_name T.b__law_is_name .nil pass0 (pa_cons (pv 10) pa_nil)) pa_nil))))) (pw_or1 (pt_not (pt_val (pe_call (ok_law_is T) (hr.mono (by decide)) rfl T.m__law_is T.k__law_is T.b__law_is .nil pass0 (pa_cons (pe_call (ok_is_letter T) (hr.mono (by decide)) rfl T.m_is_letter T.k_is_letter T.b_is_letter .nil pass0 (pa_cons (pv 10) pa_nil)) (pa_cons (pe_call (ok_law_is_letter T) (hr.mono (by decide)) rfl T.m__law_is_letter T.k__law_is_letter T.b__law_is_letter .nil pass0 (pa_cons (pv 10) pa_nil)) pa_nil)))))))) (pss_one (ps_ret pe_bl)) pss_nil))))))
      (pss_one (ps_ret (pe_cmpR op_eq (pe_callB (JgX.call_show (K := K) gua hr.units) (by rfl) T.z_repr (by decide +kernel) (pa_cons (pe_lst (pa_cons (pv 1) (pa_cons (pv 6) (pa_cons (pv 7) pa_nil)))) pa_nil)) (pv 8) (nomark _))))))))))))), ?_⟩
    walk_at "go"
    refine ⟨p, n, rfl, by omega, B, fun z H1 z0 z1 B1 M1 => ?_⟩
    walk_at "go"
    refine ⟨p, _, rfl, by omega, B1, fun v1 t1 H2 h1 B2 M2 => ?_⟩
    walk_at "go"
    rename_i la hla
    have nla := B2.ne hla
    refine ⟨p, 5, _, rfl, by decide, by decide, by omega, B2.new hla, fun ca H3 c0a c1a Ba Ma => ?_⟩
    walk_at "go"
    have hka : 0 ≤ (if decide (V.int ca = V.int 0) = true then (1 : Int) else 0) ∧ (if decide (V.int ca = V.int 0) = true then (1 : Int) else 0) < 2 := by split <;> decide
    obtain ⟨va, hva, ixa⟩ := ix_draw (K := K) (Ma la _ nla upd_same) hka.1 hka.2 rfl
    refine ixa _ ?_
    have Na : Mv p H2 H3 := (Mv.new hla).trans Ma
    obtain ⟨t, ht⟩ : ∃ t, TgR K p H3 va t := by
      simp only [List.mem_cons, List.not_mem_nil, or_false] at hva
      rcases hva with rfl | rfl
      · exact ⟨_, tg_int z0 z1⟩
      · exact ⟨t1, h1.mv B2 Na⟩
    clear hva ixa h1
    have M03 : Mv p H H3 := M1.trans (M2.trans Na)
    obtain ⟨isb, hisi, hib⟩ := ht.isI
    walk_at "go"
    refine g_isiE hisi ?_
    walk_at "go"
    refine g_iteV (v := va) rfl ?_
    have hx : ∃ i, IntB (if isb = true then va else .int 0) i := by
      cases isb
      · exact ⟨0, Or.inl rfl⟩
      · exact hib rfl
    generalize (if isb = true then va else V.int 0) = x at hx ⊢
    obtain ⟨bi, hx⟩ := hx
    walk_at "go"
    refine ⟨p, _, rfl, by omega, Ba, fun zb H4b z0b z1b B4b M4b => ?_⟩
    walk_at "go"
    rename_i lb hlb
    have nlb := B4b.ne hlb
    refine ⟨p, 2, _, rfl, by decide, by decide, by omega, B4b.new hlb, fun cb H5b c0b c1b B5b M5b => ?_⟩
    walk_at "go"
    obtain ⟨vb, hvb, ixb⟩ := ix_draw (K := K) (M5b lb _ nlb upd_same) c0b c1b rfl
    refine ixb _ ?_
    obtain ⟨jb, hjb⟩ : ∃ j, IntB vb j := by
      simp only [List.mem_cons, List.not_mem_nil, or_false] at hvb
      rcases hvb with rfl | rfl
      · exact ⟨_, hx⟩
      · exact ⟨_, Or.inl rfl⟩
    clear hvb ixb
    walk_at "go"
    refine ⟨p, 3, _, rfl, by decide, by decide, by omega, B5b, fun db HL d0b d1b B6b M6b => ?_⟩
    walk_at "go"
    refine g_addA hjb ?_
    have Nb : Mv p H3 HL := M4b.trans ((Mv.new hlb).trans (M5b.trans M6b))
    walk_at "go"
    refine ⟨p, _, rfl, by omega, B6b, fun zc H4c z0c z1c B4c M4c => ?_⟩
    walk_at "go"
    rename_i lc hlc
    have nlc := B4c.ne hlc
    refine ⟨p, 2, _, rfl, by decide, by decide, by omega, B4c.new hlc, fun cc H5c c0c c1c B5c M5c => ?_⟩
    walk_at "go"
    obtain ⟨vc, hvc, ixc⟩ := ix_draw (K := K) (M5c lc _ nlc upd_same) c0c c1c rfl
    refine ixc _ ?_
    obtain ⟨jc, hjc⟩ : ∃ j, IntB vc j := by
      simp only [List.mem_cons, List.not_mem_nil, or_false] at hvc
      rcases hvc with rfl | rfl
      · exact ⟨_, hx⟩
      · exact ⟨_, Or.inl rfl⟩
    clear hvc ixc
    walk_at "go"
    refine ⟨p, 3, _, rfl, by decide, by decide, by omega, B5c, fun dc HM d0c d1c B6c M6c => ?_⟩
    walk_at "go"
    refine g_addA hjc ?_
    have Nc : Mv p HL HM := M4c.trans ((Mv.new hlc).trans (M5c.trans M6c))
    refine g_c ?_
    refine g_I0 ?_
    walk_at "st"
    generalize jb + db - 1 = lo
    generalize jc + dc - 1 = hi
    have M0M : Mv p H HM := M03.trans (Nb.trans Nc)
    have htM : TgR K p HM va t := ht.mv Ba (Nb.trans Nc)
    refine g_cut (fun v H' => v = .bl (wholeB lo hi t.who) ∧ H' = HM) ?_ ?_
    · intro Q2 k
      walk_at "go"
      refine ⟨va, t.who, rfl, htM.isW, ?_⟩
      have w := htM.isW
      cases e : t.who with
      | none =>
        walk_at "go"
        exact k _ _ ⟨by rw [e]; rfl, rfl⟩
      | some i =>
        rw [e] at w
        have w : va = .int i := w
        subst w
        walk_at "go"
        refine g_true ?_
        walk_at "go"
        refine g_two (fun h1 => ?_) (fun h1 => ?_)
        · walk_at "go"
          refine k _ _ ⟨?_, rfl⟩
          rw [e]
          unfold wholeB
          congr 1
          rw [Bool.eq_iff_iff, decide_eq_true_eq, decide_eq_true_eq]
          exact ⟨fun h2 => ⟨h1, h2⟩, fun h2 => h2.2⟩
        · walk_at "go"
          refine k _ _ ⟨?_, rfl⟩
          rw [e]
          show V.bl false = V.bl (decide (lo ≤ i ∧ i ≤ hi))
          rw [decide_eq_false (fun z : lo ≤ i ∧ i ≤ hi => h1 z.1)]
    rintro u HN ⟨rfl, rfl⟩
    walk_at "go"
    refine ⟨p, _, rfl, by omega, B6c, fun y HA sy BA MA => ?_⟩
    walk_at "go"
    refine ⟨p, _, rfl, by omega, BA, fun w1 s1 HB hw BB MB => ?_⟩
    walk_at "go"
    rename_i ld hld
    have nld := BB.ne hld
    refine ⟨p, 6, _, rfl, by decide, by decide, by omega, BB.new hld, fun cd HC c0d c1d Bd Md => ?_⟩
    walk_at "go"
    have hkd : 0 ≤ (if decide (V.int cd = V.int 0) = true then (1 : Int) else 0) ∧ (if decide (V.int cd = V.int 0) = true then (1 : Int) else 0) < 2 := by split <;> decide
    obtain ⟨vd, hvd, ixd⟩ := ix_draw (K := K) (Md ld _ nld upd_same) hkd.1 hkd.2 rfl
    refine ixd _ ?_
    have Nd : Mv p HB HC := (Mv.new hld).trans Md
    obtain ⟨tt, htt⟩ : ∃ t, TgR K p HC vd t := by
      simp only [List.mem_cons, List.not_mem_nil, or_false] at hvd
      rcases hvd with rfl | rfl
      · exact ⟨_, tg_str sy⟩
      · exact ⟨s1, hw.mv BB Nd⟩
    clear hvd ixd hw
    walk_at "go"
    refine ⟨p, _, rfl, by omega, Bd, fun w2 s2 HD hw2 BD MD => ?_⟩
    walk_at "go"
    refine ⟨p, _, rfl, by omega, BD, fun w3 s3 HE hw3 BE ME => ?_⟩
    walk_at "go"
    rename_i le hle
    have nle := BE.ne hle
    refine ⟨p, 6, _, rfl, by decide, by decide, by omega, BE.new hle, fun ce HF c0e c1e Be Me => ?_⟩
    walk_at "go"
    have hke : 0 ≤ (if decide (V.int ce = V.int 0) = true then (1 : Int) else 0) ∧ (if decide (V.int ce = V.int 0) = true then (1 : Int) else 0) < 2 := by split <;> decide
    obtain ⟨ve, hve, ixe⟩ := ix_draw (K := K) (Me le _ nle upd_same) hke.1 hke.2 rfl
    refine ixe _ ?_
    have Ne : Mv p HE HF := (Mv.new hle).trans Me
    obtain ⟨ts, hts⟩ : ∃ t, TgR K p HF ve t := by
      simp only [List.mem_cons, List.not_mem_nil, or_false] at hve
      rcases hve with rfl | rfl
      · exact ⟨s2, hw2.mv BD (ME.trans Ne)⟩
      · exact ⟨s3, hw3.mv BE Ne⟩
    clear hve ixe hw2 hw3
    have MCF : Mv p HC HF := MD.trans (ME.trans Ne)
    have MNF : Mv p HN HF := MA.trans (MB.trans (Nd.trans MCF))
    have M0F : Mv p H HF := M0M.trans MNF
    have g1 : TgR K p HF va t := htM.mv B6c MNF
    have g2 : TgR K p HF vd tt := htt.mv Bd MCF
    walk_at "go"
    rename_i lk hlk
    have K1 : Mv p HF (upd HF lk (.lst [va, vd, ve])) := Mv.new hlk
    refine ⟨_, va, vd, ve, _, _, _, rfl, upd_same, (g1.mv Be K1).sw, (g2.mv Be K1).sw, (hts.mv Be K1).sw, ?_⟩
    have BK := Be.new (o := .lst [va, vd, ve]) hlk
    replace g1 := g1.mv Be K1
    replace g2 := g2.mv Be K1
    have g3 := hts.mv Be K1
    have M0K := M0F.trans K1
    clear hts htt htM
    generalize upd HF lk (.lst [va, vd, ve]) = HK at *
    walk_at "go"
    generalize hkept : listText [t.txt, tt.txt, ts.txt] = kept
    refine for_it (n := _) walk_range (fun _ σ H' => ∃ w9 w10, σ = [some (.ref p), some va, some x, some (.int lo), some (.int hi), some (.bl (wholeB lo hi t.who)), some vd, some ve, some (.str kept), w9, w10] ∧ Same HK H')
      ⟨_, _, rfl, Same.refl _⟩ (fun _ _ _ _ _ => trivial) ?_ ?_
    · rintro i x9 σ H8 H8' hi8 ⟨w9, w10, rfl, s8⟩ ⟨rfl, rfl⟩
      walk_at "go"
      refine ⟨va, t.who, lo, hi, rfl, (g1.mv BK (same_mv p s8)).isW, ?_⟩
      walk_at "go"
      refine ⟨_, rfl, ?_⟩
      walk_at "go"
      refine ⟨p, ve, ts.tp, rfl, (g3.mv BK (same_mv p s8)).isP, fun H9 s9 => ?_⟩
      walk_at "go"
      have s89 := s8.trans s9
      refine ⟨p, ve, ts.tp, rfl, (g3.mv BK (same_mv p s89)).isP, fun H10 s10 => ?_⟩
      walk_at "go"
      refine ⟨_, rfl, ?_⟩
      walk_at "go"
      rename_i L hL
      have s8a := s89.trans s10
      refine for_it (n := 3) (walk_list (K := K) (a := L) (xs := [vd, ve, va])) (fun j σ H' => ∃ w10, σ = [some (.ref p), some va, some x, some (.int lo), some (.int hi), some (.bl (wholeB lo hi t.who)), some vd, some ve, some (.str kept), some (.int (0 + (i : Int))), w10] ∧ Same HK H' ∧ H' L = some (.lst [vd, ve, va]))
        ⟨_, rfl, fun b o e => upd_keep hL (s8a b o e), upd_same⟩ (fun _ _ _ _ h => by obtain ⟨_, _, _, h⟩ := h; exact Or.inl (Or.inl h)) ?_ ?_
      · rintro j x σ H14 H14' hj ⟨y10, rfl, s14, eL⟩ ⟨rfl, hx⟩
        have mem : x ∈ [vd, ve, va] := List.mem_of_getElem? hx
        obtain ⟨tx, gx⟩ : ∃ tx, TgR K p HK x tx := by
          simp only [List.mem_cons, List.not_mem_nil, or_false] at mem
          rcases mem with rfl | rfl | rfl
          · exact ⟨_, g2⟩
          · exact ⟨_, g3⟩
          · exact ⟨_, g1⟩
        walk_at "go"
        refine ⟨x, tx.st, rfl, (gx.mv BK (same_mv p s14)).isS, fun H15 s15 => ?_⟩
        walk_at "go"
        have s15a := s14.trans s15
        refine ⟨x, tx.st, rfl, (gx.mv BK (same_mv p s15a)).isS, fun H16 s16 => ?_⟩
        walk_at "go"
        refine ⟨_, rfl, ?_⟩
        walk_at "go"
        have s16a := s15a.trans s16
        refine ⟨x, tx.st, rfl, (gx.mv BK (same_mv p s16a)).isS, fun H17 s17 => ?_⟩
        walk_at "go"
        have s17a := s16a.trans s17
        refine ⟨x, tx.st, rfl, (gx.mv BK (same_mv p s17a)).isS, fun H18 s18 => ?_⟩
        walk_at "go"
        refine ⟨_, rfl, ?_⟩
        walk_at "go"
        exact ⟨_, rfl, s17a.trans s18, s18 _ _ (s17 _ _ (s16 _ _ (s15 _ _ eL)))⟩
      · rintro σ H14 ⟨y10, rfl, s14, eL⟩
        walk_at "go"
        exact ⟨_, _, rfl, s14⟩
    · rintro σ H8 ⟨w9, w10, rfl, s8⟩
      walk_at "go"
      rename_i L hL
      have K8 : Mv p HK (upd H8 L (.lst [va, vd, ve])) := (same_mv p s8).trans (Mv.new hL)
      refine ⟨_, va, vd, ve, _, _, _, rfl, upd_same, (g1.mv BK K8).sw, (g2.mv BK K8).sw, (g3.mv BK K8).sw, ?_⟩
      rw [hkept]
      walk_at "go"
      rw [decide_eq_true (rfl : V.str kept = V.str kept)]
      exact q _ (M0K.trans K8)
end
section
variable {P : Program} {w : World} {K : PySem.W.Frag} {mg : Str → Option Value} {base : Heap} {f : Nat → Addr} {d : Nat → FuncData}
theorem ok_law (T : Txt P K mg f d) : FnG P w K mg base 5 (f 21) (d 21) ["_law_script"] (sp_law K) := by
  refine fnG_of T.F_law sc_law (fun vs H Q E h => ?_) (fun cdv A outer s H vs Q E hr gua h => ?_)
  · obtain ⟨a, ns, rfl, hS, hlen, q⟩ := h
    rfl
  · obtain ⟨a, ns, rfl, hS, hlen, q⟩ := h
    refine ⟨_, (pss_cons (ps_for PassesOwn.never rfl (pi_range1 (by rfl) T.z_range (pa_cons (pe_callB (call_maxV rfl) (by rfl) T.z_max (by decide +kernel) (pa_cons pe_int (pa_cons (pe_callB (call_minV rfl) (by rfl) T.z_min (by decide +kernel) (pa_cons pe_int (pa_cons (pe_callB (call_lenV (K := K)) (by rfl) T.z_len (by decide +kernel) (pa_cons (pv 0) pa_nil)) pa_nil))) pa_nil))) pa_nil)) (pg_name (i := 1) sc_law.nd rfl (.inl rfl)) (pss_one (ps_if (pt_not (pt_val (pe_callG (ok_law_right T) (hr.mono (by decide)) gua rfl T.m__law_right T.k__law_right T.b__law_right .nil (pa_cons (pe_call (ok_law_bag T) (hr.mono (by decide)) rfl T.m__law_bag T.k__law_bag T.b__law_bag .nil pass0 (pa_cons (pe_call (ok_law_cell T) (hr.mono (by decide)) rfl T.m__law_cell T.k__law_cell T.b__law_cell .nil pass0 (pa_cons (pv 0) (pa_cons (pv 1) pa_nil))) pa_nil)) pa_nil)))) (pss_one (ps_ret pe_bl)) pss_nil)))
      (pss_one (ps_ret pe_bl))), ?_⟩
    walk_at "go"
    refine for_it (n := _) walk_range (fun i σ H' => ∃ v1, σ = [some (.ref a), v1] ∧ SqL K H' a (ns.map V.int))
      ⟨none, rfl, hS⟩ (fun _ _ _ _ _ => trivial) ?_ ?_
    · rintro i x σ H1 H2 hi ⟨v1, rfl, hS1⟩ ⟨rfl, rfl⟩
      have hi' : i ≤ 63 := by
        revert hi
        split <;> split <;> omega
      walk_at "go"
      refine ⟨a, ns, i, by simp, hS1, hi', fun z => ?_⟩
      walk_at "go"
      refine ⟨z, rfl, fun p H3 hp s3 B3 => ?_⟩
      walk_at "go"
      refine ⟨p, 0, rfl, by decide, B3, fun H4 M4 => ?_⟩
      walk_at "go"
      exact ⟨_, rfl, sq_same (fun b o e => M4 b o (ne_of_none e hp) (s3 b o e)) hS1⟩
    · rintro σ H1 ⟨v1, rfl, hS1⟩
      walk_at "go"
      exact q _
end
theorem all_mk {l : PySem.W.OpenLaw} {w : World} {K : PySem.W.Frag} {h : Heap} {mg : Str → Option Value} {fa f0 f1 f2 f3 f4 f5 f6 f7 f8 f9 f10 f11 f12 f13 f14 f15 f16 f17 f18 f19 f20 f21 : Addr} (X : K.In h) (G : h.Ns mainGlobals mg) (hfa : mg "law" = some (.ref fa))
    {od0 an0 : Option Addr} {sl0 : Array (Option Value)} {oc0 kV0 dc0 pm0 cd0 ct0 : Value}
    (a0 : PySem.W.nsIn K mainGlobals "_law_cell" = some (some (.ref f0))) (l0 : K.lookup f0 = some ⟨oc0, od0, .func (PySem.W.fnOf "_law_cell" "_law_cell" (defArgs s_law_cell) (defBody s_law_cell) (defScope s_law_cell) .none kV0 dc0 pm0 an0 cd0 ct0), sl0⟩) (c0 : PySem.W.codeIn K cd0 "_law_cell" = true) (k0 : PySem.W.keepIn K (.ref f0) = true)
    {od1 an1 : Option Addr} {sl1 : Array (Option Value)} {oc1 kV1 dc1 pm1 cd1 ct1 : Value}
    (a1 : PySem.W.nsIn K mainGlobals "_law_bag" = some (some (.ref f1))) (l1 : K.lookup f1 = some ⟨oc1, od1, .func (PySem.W.fnOf "_law_bag" "_law_bag" (defArgs s_law_bag) (defBody s_law_bag) (defScope s_law_bag) .none kV1 dc1 pm1 an1 cd1 ct1), sl1⟩) (c1 : PySem.W.codeIn K cd1 "_law_bag" = true) (k1 : PySem.W.keepIn K (.ref f1) = true)
    {od2 an2 : Option Addr} {sl2 : Array (Option Value)} {oc2 kV2 dc2 pm2 cd2 ct2 : Value}
    (a2 : PySem.W.nsIn K mainGlobals "_law_take" = some (some (.ref f2))) (l2 : K.lookup f2 = some ⟨oc2, od2, .func (PySem.W.fnOf "_law_take" "_law_take" (defArgs s_law_take) (defBody s_law_take) (defScope s_law_take) .none kV2 dc2 pm2 an2 cd2 ct2), sl2⟩) (c2 : PySem.W.codeIn K cd2 "_law_take" = true) (k2 : PySem.W.keepIn K (.ref f2) = true)
    {od3 an3 : Option Addr} {sl3 : Array (Option Value)} {oc3 kV3 dc3 pm3 cd3 ct3 : Value}
    (a3 : PySem.W.nsIn K mainGlobals "is_whole" = some (some (.ref f3))) (l3 : K.lookup f3 = some ⟨oc3, od3, .func (PySem.W.fnOf "is_whole" "is_whole" (defArgs s_is_whole) (defBody s_is_whole) (defScope s_is_whole) .none kV3 dc3 pm3 an3 cd3 ct3), sl3⟩) (c3 : PySem.W.codeIn K cd3 "is_whole" = true) (k3 : PySem.W.keepIn K (.ref f3) = true)
    {od4 an4 : Option Addr} {sl4 : Array (Option Value)} {oc4 kV4 dc4 pm4 cd4 ct4 : Value}
    (a4 : PySem.W.nsIn K mainGlobals "_consists_of" = some (some (.ref f4))) (l4 : K.lookup f4 = some ⟨oc4, od4, .func (PySem.W.fnOf "_consists_of" "_consists_of" (defArgs s_consists_of) (defBody s_consists_of) (defScope s_consists_of) .none kV4 dc4 pm4 an4 cd4 ct4), sl4⟩) (c4 : PySem.W.codeIn K cd4 "_consists_of" = true) (k4 : PySem.W.keepIn K (.ref f4) = true)
    {od5 an5 : Option Addr} {sl5 : Array (Option Value)} {oc5 kV5 dc5 pm5 cd5 ct5 : Value}
    (a5 : PySem.W.nsIn K mainGlobals "_is_figures" = some (some (.ref f5))) (l5 : K.lookup f5 = some ⟨oc5, od5, .func (PySem.W.fnOf "_is_figures" "_is_figures" (defArgs s_is_figures) (defBody s_is_figures) (defScope s_is_figures) .none kV5 dc5 pm5 an5 cd5 ct5), sl5⟩) (c5 : PySem.W.codeIn K cd5 "_is_figures" = true) (k5 : PySem.W.keepIn K (.ref f5) = true)
    {od6 an6 : Option Addr} {sl6 : Array (Option Value)} {oc6 kV6 dc6 pm6 cd6 ct6 : Value}
    (a6 : PySem.W.nsIn K mainGlobals "_law_whole" = some (some (.ref f6))) (l6 : K.lookup f6 = some ⟨oc6, od6, .func (PySem.W.fnOf "_law_whole" "_law_whole" (defArgs s_law_whole) (defBody s_law_whole) (defScope s_law_whole) .none kV6 dc6 pm6 an6 cd6 ct6), sl6⟩) (c6 : PySem.W.codeIn K cd6 "_law_whole" = true) (k6 : PySem.W.keepIn K (.ref f6) = true)
    {od7 an7 : Option Addr} {sl7 : Array (Option Value)} {oc7 kV7 dc7 pm7 cd7 ct7 : Value}
    (a7 : PySem.W.nsIn K mainGlobals "is_name" = some (some (.ref f7))) (l7 : K.lookup f7 = some ⟨oc7, od7, .func (PySem.W.fnOf "is_name" "is_name" (defArgs s_is_name) (defBody s_is_name) (defScope s_is_name) .none kV7 dc7 pm7 an7 cd7 ct7), sl7⟩) (c7 : PySem.W.codeIn K cd7 "is_name" = true) (k7 : PySem.W.keepIn K (.ref f7) = true)
    {od8 an8 : Option Addr} {sl8 : Array (Option Value)} {oc8 kV8 dc8 pm8 cd8 ct8 : Value}
    (a8 : PySem.W.nsIn K mainGlobals "is_letter" = some (some (.ref f8))) (l8 : K.lookup f8 = some ⟨oc8, od8, .func (PySem.W.fnOf "is_letter" "is_letter" (defArgs s_is_letter) (defBody s_is_letter) (defScope s_is_letter) .none kV8 dc8 pm8 an8 cd8 ct8), sl8⟩) (c8 : PySem.W.codeIn K cd8 "is_letter" = true) (k8 : PySem.W.keepIn K (.ref f8) = true)
    {od9 an9 : Option Addr} {sl9 : Array (Option Value)} {oc9 kV9 dc9 pm9 cd9 ct9 : Value}
    (a9 : PySem.W.nsIn K mainGlobals "is_spot" = some (some (.ref f9))) (l9 : K.lookup f9 = some ⟨oc9, od9, .func (PySem.W.fnOf "is_spot" "is_spot" (defArgs s_is_spot) (defBody s_is_spot) (defScope s_is_spot) .none kV9 dc9 pm9 an9 cd9 ct9), sl9⟩) (c9 : PySem.W.codeIn K cd9 "is_spot" = true) (k9 : PySem.W.keepIn K (.ref f9) = true)
    {od10 an10 : Option Addr} {sl10 : Array (Option Value)} {oc10 kV10 dc10 pm10 cd10 ct10 : Value}
    (a10 : PySem.W.nsIn K mainGlobals "_law_is" = some (some (.ref f10))) (l10 : K.lookup f10 = some ⟨oc10, od10, .func (PySem.W.fnOf "_law_is" "_law_is" (defArgs s_law_is) (defBody s_law_is) (defScope s_law_is) .none kV10 dc10 pm10 an10 cd10 ct10), sl10⟩) (c10 : PySem.W.codeIn K cd10 "_law_is" = true) (k10 : PySem.W.keepIn K (.ref f10) = true)
    {od11 an11 : Option Addr} {sl11 : Array (Option Value)} {oc11 kV11 dc11 pm11 cd11 ct11 : Value}
    (a11 : PySem.W.nsIn K mainGlobals "_law_number" = some (some (.ref f11))) (l11 : K.lookup f11 = some ⟨oc11, od11, .func (PySem.W.fnOf "_law_number" "_law_number" (defArgs s_law_number) (defBody s_law_number) (defScope s_law_number) .none kV11 dc11 pm11 an11 cd11 ct11), sl11⟩) (c11 : PySem.W.codeIn K cd11 "_law_number" = true) (k11 : PySem.W.keepIn K (.ref f11) = true)
    {od12 an12 : Option Addr} {sl12 : Array (Option Value)} {oc12 kV12 dc12 pm12 cd12 ct12 : Value}
    (a12 : PySem.W.nsIn K mainGlobals "_law_is_name" = some (some (.ref f12))) (l12 : K.lookup f12 = some ⟨oc12, od12, .func (PySem.W.fnOf "_law_is_name" "_law_is_name" (defArgs s_law_is_name) (defBody s_law_is_name) (defScope s_law_is_name) .none kV12 dc12 pm12 an12 cd12 ct12), sl12⟩) (c12 : PySem.W.codeIn K cd12 "_law_is_name" = true) (k12 : PySem.W.keepIn K (.ref f12) = true)
    {od13 an13 : Option Addr} {sl13 : Array (Option Value)} {oc13 kV13 dc13 pm13 cd13 ct13 : Value}
    (a13 : PySem.W.nsIn K mainGlobals "_law_is_letter" = some (some (.ref f13))) (l13 : K.lookup f13 = some ⟨oc13, od13, .func (PySem.W.fnOf "_law_is_letter" "_law_is_letter" (defArgs s_law_is_letter) (defBody s_law_is_letter) (defScope s_law_is_letter) .none kV13 dc13 pm13 an13 cd13 ct13), sl13⟩) (c13 : PySem.W.codeIn K cd13 "_law_is_letter" = true) (k13 : PySem.W.keepIn K (.ref f13) = true)
    {od14 an14 : Option Addr} {sl14 : Array (Option Value)} {oc14 kV14 dc14 pm14 cd14 ct14 : Value}
    (a14 : PySem.W.nsIn K mainGlobals "_law_is_spot" = some (some (.ref f14))) (l14 : K.lookup f14 = some ⟨oc14, od14, .func (PySem.W.fnOf "_law_is_spot" "_law_is_spot" (defArgs s_law_is_spot) (defBody s_law_is_spot) (defScope s_law_is_spot) .none kV14 dc14 pm14 an14 cd14 ct14), sl14⟩) (c14 : PySem.W.codeIn K cd14 "_law_is_spot" = true) (k14 : PySem.W.keepIn K (.ref f14) = true)
    {od15 an15 : Option Addr} {sl15 : Array (Option Value)} {oc15 kV15 dc15 pm15 cd15 ct15 : Value}
    (a15 : PySem.W.nsIn K mainGlobals "_law_spoilt" = some (some (.ref f15))) (l15 : K.lookup f15 = some ⟨oc15, od15, .func (PySem.W.fnOf "_law_spoilt" "_law_spoilt" (defArgs s_law_spoilt) (defBody s_law_spoilt) (defScope s_law_spoilt) .none kV15 dc15 pm15 an15 cd15 ct15), sl15⟩) (c15 : PySem.W.codeIn K cd15 "_law_spoilt" = true) (k15 : PySem.W.keepIn K (.ref f15) = true)
    {od16 an16 : Option Addr} {sl16 : Array (Option Value)} {oc16 kV16 dc16 pm16 cd16 ct16 : Value}
    (a16 : PySem.W.nsIn K mainGlobals "_law_text" = some (some (.ref f16))) (l16 : K.lookup f16 = some ⟨oc16, od16, .func (PySem.W.fnOf "_law_text" "_law_text" (defArgs s_law_text) (defBody s_law_text) (defScope s_law_text) .none kV16 dc16 pm16 an16 cd16 ct16), sl16⟩) (c16 : PySem.W.codeIn K cd16 "_law_text" = true) (k16 : PySem.W.keepIn K (.ref f16) = true)
    {od17 an17 : Option Addr} {sl17 : Array (Option Value)} {oc17 kV17 dc17 pm17 cd17 ct17 : Value}
    (a17 : PySem.W.nsIn K mainGlobals "_law_odd" = some (some (.ref f17))) (l17 : K.lookup f17 = some ⟨oc17, od17, .func (PySem.W.fnOf "_law_odd" "_law_odd" (defArgs s_law_odd) (defBody s_law_odd) (defScope s_law_odd) .none kV17 dc17 pm17 an17 cd17 ct17), sl17⟩) (c17 : PySem.W.codeIn K cd17 "_law_odd" = true) (k17 : PySem.W.keepIn K (.ref f17) = true)
    {od18 an18 : Option Addr} {sl18 : Array (Option Value)} {oc18 kV18 dc18 pm18 cd18 ct18 : Value}
    (a18 : PySem.W.nsIn K mainGlobals "_law_any" = some (some (.ref f18))) (l18 : K.lookup f18 = some ⟨oc18, od18, .func (PySem.W.fnOf "_law_any" "_law_any" (defArgs s_law_any) (defBody s_law_any) (defScope s_law_any) .none kV18 dc18 pm18 an18 cd18 ct18), sl18⟩) (c18 : PySem.W.codeIn K cd18 "_law_any" = true) (k18 : PySem.W.keepIn K (.ref f18) = true)
    {od19 an19 : Option Addr} {sl19 : Array (Option Value)} {oc19 kV19 dc19 pm19 cd19 ct19 : Value}
    (a19 : PySem.W.nsIn K mainGlobals "_law_spot" = some (some (.ref f19))) (l19 : K.lookup f19 = some ⟨oc19, od19, .func (PySem.W.fnOf "_law_spot" "_law_spot" (defArgs s_law_spot) (defBody s_law_spot) (defScope s_law_spot) .none kV19 dc19 pm19 an19 cd19 ct19), sl19⟩) (c19 : PySem.W.codeIn K cd19 "_law_spot" = true) (k19 : PySem.W.keepIn K (.ref f19) = true)
    {od20 an20 : Option Addr} {sl20 : Array (Option Value)} {oc20 kV20 dc20 pm20 cd20 ct20 : Value}
    (a20 : PySem.W.nsIn K mainGlobals "_law_right" = some (some (.ref f20))) (l20 : K.lookup f20 = some ⟨oc20, od20, .func (PySem.W.fnOf "_law_right" "_law_right" (defArgs s_law_right) (defBody s_law_right) (defScope s_law_right) .none kV20 dc20 pm20 an20 cd20 ct20), sl20⟩) (c20 : PySem.W.codeIn K cd20 "_law_right" = true) (k20 : PySem.W.keepIn K (.ref f20) = true)
    {od21 an21 : Option Addr} {sl21 : Array (Option Value)} {oc21 kV21 dc21 pm21 cd21 ct21 : Value}
    (a21 : PySem.W.nsIn K mainGlobals "law" = some (some (.ref f21))) (l21 : K.lookup f21 = some ⟨oc21, od21, .func (PySem.W.fnOf "law" "law" (defArgs s_law) (defBody s_law) (defScope s_law) .none kV21 dc21 pm21 an21 cd21 ct21), sl21⟩) (c21 : PySem.W.codeIn K cd21 "law" = true) (k21 : PySem.W.keepIn K (.ref f21) = true)
    (z_all : PySem.W.nsIn K mainGlobals "all" = some none)
    (z_bool : PySem.W.nsIn K mainGlobals "bool" = some none)
    (z_int : PySem.W.nsIn K mainGlobals "int" = some none)
    (z_isinstance : PySem.W.nsIn K mainGlobals "isinstance" = some none)
    (z_len : PySem.W.nsIn K mainGlobals "len" = some none)
    (z_max : PySem.W.nsIn K mainGlobals "max" = some none)
    (z_min : PySem.W.nsIn K mainGlobals "min" = some none)
    (z_range : PySem.W.nsIn K mainGlobals "range" = some none)
    (z_repr : PySem.W.nsIn K mainGlobals "repr" = some none)
    (z_str : PySem.W.nsIn K mainGlobals "str" = some none)
    (z_tuple : PySem.W.nsIn K mainGlobals "tuple" = some none)
    {ck0 : Tok} (cv0 : PySem.W.nsIn K mainGlobals "_FIGURES" = some (some (.str (Str.ofString "0123456789") ck0)))
    {ck1 : Tok} (cv1 : PySem.W.nsIn K mainGlobals "_CAPITALS" = some (some (.str (Str.ofString "ABCDEFGHIJKLMNOPQRSTUVWXYZ") ck1)))
    {ck2 : Tok} (cv2 : PySem.W.nsIn K mainGlobals "_SMALL" = some (some (.str (Str.ofString "abcdefghijklmnopqrstuvwxyz") ck2)))
    {ck3 : Tok} (cv3 : PySem.W.nsIn K mainGlobals "_MOST_NAME" = some (some (.int 8 ck3)))
    {ck4 : Tok} (cv4 : PySem.W.nsIn K mainGlobals "_MOST_LETTER" = some (some (.int 3 ck4)))
    {ck5 : Tok} (cv5 : PySem.W.nsIn K mainGlobals "_MOST_SPOT" = some (some (.int 16 ck5)))
    {ck6 : Tok} (cv6 : PySem.W.nsIn K mainGlobals "_MOST_PART" = some (some (.int 3 ck6)))
    {C0 I0 cc0 cda0 N0 : Addr} {nm0 q0 fl0 : Str} {oc_0 kv_0 dc_0 pm_0 ct_0 cl_0 cw_0 : Value} {od_0 an_0 cdd0 cld0 : Option Addr} {osl0 ccs0 csl0 : Array (Option Value)} {vs0 : Array Value} {tf0 : Tok} {bs0 bm0 sub0 : List Value} {sn0 : List Str} {ab0 : Bool} {col0 : Option Bool} {dd0 : Option Addr} {kx0_0 kx1_0 kx2_0 kx3_0 kx5_0 : Option Value} {cld_0 : ClassData}
    (xm0 : PySem.W.nsIn K mainGlobals "NoLetter" = some (some (.ref C0)))
    (xl0 : K.lookup C0 = some (PySem.excClassObj nm0 q0 C0 N0 bs0 bm0 true sn0 sub0 ab0 col0 dd0 kx0_0 kx1_0 kx2_0 kx3_0 kx5_0 "ValueError.__new__"))
    (xt0 : PySem.W.excTail [.type "ValueError", .type "Exception", .type "BaseException", .type "object"] bm0 = true)
    (xsa0 : PySem.W.findIn K (.ref C0) "__setattr__" = some (some (.builtin "object.__setattr__")))
    (xex0 : PySem.W.subIn K (.ref C0) (.type "BaseException") = some true)
    (xty0 : PySem.W.typeIn K (.ref C0) = some (.type "type"))
    (xkC0 : PySem.W.keepIn K (.ref C0) = true)
    (xsu0 : PySem.W.ks_superIn K C0 C0 "__init__" = some (some (.builtin "ValueError.__init__")))
    (xsb0 : PySem.W.subIn K (.ref C0) (.type "ValueError") = some true)
    (xiC0 : PySem.W.findIn K (.ref C0) "__init__" = some (some (.ref I0)))
    (xlI0 : K.lookup I0 = some ⟨oc_0, od_0, .func (PySem.W.ksFn "__init__" "NoLetter.__init__" (defArgs xs_NoLetter) (defBody xs_NoLetter) (defScope xs_NoLetter) .none kv_0 dc_0 pm_0 an_0 (.ref cda0) ct_0 cc0), osl0⟩)
    (xhc0 : PySem.W.codeIn K (.ref cda0) "NoLetter.__init__" = true)
    (xlc0 : K.lookup cda0 = some ⟨cl_0, cdd0, .fields vs0, ccs0⟩)
    (xhv0 : vs0[2]? = some (.str fl0 tf0))
    (xhf0 : ((l.prog.main.file : Str) == fl0) = true)
    (xlz0 : K.lookup cc0 = some ⟨cw_0, cld0, .cell (some (.ref C0)), csl0⟩)
    (xtI0 : PySem.W.typeIn K (.ref I0) = some (.type "function"))
    (xnf0 : PySem.W.findIn K (.ref C0) "found" = some none)
    (xga0 : PySem.W.findIn K (.ref C0) "__getattribute__" = some (some (.builtin "BaseException.__getattribute__")))
    (xgg0 : PySem.W.findIn K (.ref C0) "__getattr__" = some none)
    (xhd0 : PySem.W.hasDictIn K C0 = true)
    (xcl0 : PySem.W.clsIn K C0 = some cld_0)
    (xha0 : PySem.W.findIn K (.ref C0) "__class__" = some (some (.builtin "object.__class__")))
    (xhn0 : PySem.W.specialIn K (.builtin "object.__class__") "__get__" = some (some (.builtin "getset_descriptor.__get__")))
    (xtk0 : PySem.W.takesIn K (.builtin "object.__class__") = some true)
    (xhm0 : PySem.W.mroIn K C0 (.type "object") = some true)
    (xcn0 : cld_0.name = "NoLetter")
    (xrp0 : PySem.W.findIn K (.ref C0) "__repr__" = some (some (.builtin "BaseException.__repr__")))
    (xki0 : PySem.W.kitOne K (.ref C0) (.type "int") = some false)
    (xks0 : PySem.W.kitOne K (.ref C0) (.type "str") = some false)
    (xkt0 : PySem.W.kitOne K (.ref C0) (.type "tuple") = some false)
    {C1 I1 cc1 cda1 N1 : Addr} {nm1 q1 fl1 : Str} {oc_1 kv_1 dc_1 pm_1 ct_1 cl_1 cw_1 : Value} {od_1 an_1 cdd1 cld1 : Option Addr} {osl1 ccs1 csl1 : Array (Option Value)} {vs1 : Array Value} {tf1 : Tok} {bs1 bm1 sub1 : List Value} {sn1 : List Str} {ab1 : Bool} {col1 : Option Bool} {dd1 : Option Addr} {kx0_1 kx1_1 kx2_1 kx3_1 kx5_1 : Option Value} {cld_1 : ClassData}
    (xm1 : PySem.W.nsIn K mainGlobals "NoNumber" = some (some (.ref C1)))
    (xl1 : K.lookup C1 = some (PySem.excClassObj nm1 q1 C1 N1 bs1 bm1 true sn1 sub1 ab1 col1 dd1 kx0_1 kx1_1 kx2_1 kx3_1 kx5_1 "ValueError.__new__"))
    (xt1 : PySem.W.excTail [.type "ValueError", .type "Exception", .type "BaseException", .type "object"] bm1 = true)
    (xsa1 : PySem.W.findIn K (.ref C1) "__setattr__" = some (some (.builtin "object.__setattr__")))
    (xex1 : PySem.W.subIn K (.ref C1) (.type "BaseException") = some true)
    (xty1 : PySem.W.typeIn K (.ref C1) = some (.type "type"))
    (xkC1 : PySem.W.keepIn K (.ref C1) = true)
    (xsu1 : PySem.W.ks_superIn K C1 C1 "__init__" = some (some (.builtin "ValueError.__init__")))
    (xsb1 : PySem.W.subIn K (.ref C1) (.type "ValueError") = some true)
    (xiC1 : PySem.W.findIn K (.ref C1) "__init__" = some (some (.ref I1)))
    (xlI1 : K.lookup I1 = some ⟨oc_1, od_1, .func (PySem.W.ksFn "__init__" "NoNumber.__init__" (defArgs xs_NoNumber) (defBody xs_NoNumber) (defScope xs_NoNumber) .none kv_1 dc_1 pm_1 an_1 (.ref cda1) ct_1 cc1), osl1⟩)
    (xhc1 : PySem.W.codeIn K (.ref cda1) "NoNumber.__init__" = true)
    (xlc1 : K.lookup cda1 = some ⟨cl_1, cdd1, .fields vs1, ccs1⟩)
    (xhv1 : vs1[2]? = some (.str fl1 tf1))
    (xhf1 : ((l.prog.main.file : Str) == fl1) = true)
    (xlz1 : K.lookup cc1 = some ⟨cw_1, cld1, .cell (some (.ref C1)), csl1⟩)
    (xtI1 : PySem.W.typeIn K (.ref I1) = some (.type "function"))
    (xnf1 : PySem.W.findIn K (.ref C1) "found" = some none)
    (xga1 : PySem.W.findIn K (.ref C1) "__getattribute__" = some (some (.builtin "BaseException.__getattribute__")))
    (xgg1 : PySem.W.findIn K (.ref C1) "__getattr__" = some none)
    (xhd1 : PySem.W.hasDictIn K C1 = true)
    (xcl1 : PySem.W.clsIn K C1 = some cld_1)
    (xha1 : PySem.W.findIn K (.ref C1) "__class__" = some (some (.builtin "object.__class__")))
    (xhn1 : PySem.W.specialIn K (.builtin "object.__class__") "__get__" = some (some (.builtin "getset_descriptor.__get__")))
    (xtk1 : PySem.W.takesIn K (.builtin "object.__class__") = some true)
    (xhm1 : PySem.W.mroIn K C1 (.type "object") = some true)
    (xcn1 : cld_1.name = "NoNumber")
    (xrp1 : PySem.W.findIn K (.ref C1) "__repr__" = some (some (.builtin "BaseException.__repr__")))
    (xki1 : PySem.W.kitOne K (.ref C1) (.type "int") = some false)
    (xks1 : PySem.W.kitOne K (.ref C1) (.type "str") = some false)
    (xkt1 : PySem.W.kitOne K (.ref C1) (.type "tuple") = some false)
    (xopq : PySem.W.nsIn K cStatics "thirdparty.any" = some none) (xsup : PySem.W.nsIn K mainGlobals "super" = some none) (xtop : (l.prog.main.scope.names.lookup ("super" : Str)).isSome = false)
    : ∃ fd : FuncData, (∀ (s : Shared) (v : Value), BindsTo s fd ⟨[v], []⟩ [("_law_script", v)]) ∧ ∀ base : Heap, K.In base → base.Ns mainGlobals mg → FnG l.prog w K mg base 5 fa fd ["_law_script"] (sp_law K) := by
  have e := hfa.symm.trans (PySem.W.mg_of X G a21)
  cases e
  have F0 := fun_mk (st := s_law_cell) l0 c0 k0
  have b0 := F0.binds (ps := ["_law_script", "_law_k"]) fun _ _ _ _ _ _ us hl => match us, hl with | [_, _], _ => rfl
  have F1 := fun_mk (st := s_law_bag) l1 c1 k1
  have b1 := F1.binds (ps := ["_law_cell_here"]) fun _ _ _ _ _ _ us hl => match us, hl with | [_], _ => rfl
  have F2 := fun_mk (st := s_law_take) l2 c2 k2
  have b2 := F2.binds (ps := ["_law_bag_here", "_law_many"]) fun _ _ _ _ _ _ us hl => match us, hl with | [_, _], _ => rfl
  have F3 := fun_mk (st := s_is_whole) l3 c3 k3
  have b3 := F3.binds (ps := ["thing", "low", "high"]) fun _ _ _ _ _ _ us hl => match us, hl with | [_, _, _], _ => rfl
  have F4 := fun_mk (st := s_consists_of) l4 c4 k4
  have b4 := F4.binds (ps := ["text", "marks"]) fun _ _ _ _ _ _ us hl => match us, hl with | [_, _], _ => rfl
  have F5 := fun_mk (st := s_is_figures) l5 c5 k5
  have b5 := F5.binds (ps := ["text"]) fun _ _ _ _ _ _ us hl => match us, hl with | [_], _ => rfl
  have F6 := fun_mk (st := s_law_whole) l6 c6 k6
  have b6 := F6.binds (ps := ["_law_thing"]) fun _ _ _ _ _ _ us hl => match us, hl with | [_], _ => rfl
  have F7 := fun_mk (st := s_is_name) l7 c7 k7
  have b7 := F7.binds (ps := ["thing"]) fun _ _ _ _ _ _ us hl => match us, hl with | [_], _ => rfl
  have F8 := fun_mk (st := s_is_letter) l8 c8 k8
  have b8 := F8.binds (ps := ["thing"]) fun _ _ _ _ _ _ us hl => match us, hl with | [_], _ => rfl
  have F9 := fun_mk (st := s_is_spot) l9 c9 k9
  have b9 := F9.binds (ps := ["thing"]) fun _ _ _ _ _ _ us hl => match us, hl with | [_], _ => rfl
  have F10 := fun_mk (st := s_law_is) l10 c10 k10
  have b10 := F10.binds (ps := ["_law_found", "_law_due"]) fun _ _ _ _ _ _ us hl => match us, hl with | [_, _], _ => rfl
  have F11 := fun_mk (st := s_law_number) l11 c11 k11
  have b11 := F11.binds (ps := ["_law_bag_here"]) fun _ _ _ _ _ _ us hl => match us, hl with | [_], _ => rfl
  have F12 := fun_mk (st := s_law_is_name) l12 c12 k12
  have b12 := F12.binds (ps := ["_law_thing"]) fun _ _ _ _ _ _ us hl => match us, hl with | [_], _ => rfl
  have F13 := fun_mk (st := s_law_is_letter) l13 c13 k13
  have b13 := F13.binds (ps := ["_law_thing"]) fun _ _ _ _ _ _ us hl => match us, hl with | [_], _ => rfl
  have F14 := fun_mk (st := s_law_is_spot) l14 c14 k14
  have b14 := F14.binds (ps := ["_law_thing"]) fun _ _ _ _ _ _ us hl => match us, hl with | [_], _ => rfl
  have F15 := fun_mk (st := s_law_spoilt) l15 c15 k15
  have b15 := F15.binds (ps := ["_law_bag_here", "_law_text_here"]) fun _ _ _ _ _ _ us hl => match us, hl with | [_, _], _ => rfl
  have F16 := fun_mk (st := s_law_text) l16 c16 k16
  have b16 := F16.binds (ps := ["_law_bag_here"]) fun _ _ _ _ _ _ us hl => match us, hl with | [_], _ => rfl
  have F17 := fun_mk (st := s_law_odd) l17 c17 k17
  have b17 := F17.binds (ps := ["_law_bag_here"]) fun _ _ _ _ _ _ us hl => match us, hl with | [_], _ => rfl
  have F18 := fun_mk (st := s_law_any) l18 c18 k18
  have b18 := F18.binds (ps := ["_law_bag_here"]) fun _ _ _ _ _ _ us hl => match us, hl with | [_], _ => rfl
  have F19 := fun_mk (st := s_law_spot) l19 c19 k19
  have b19 := F19.binds (ps := ["_law_bag_here"]) fun _ _ _ _ _ _ us hl => match us, hl with | [_], _ => rfl
  have F20 := fun_mk (st := s_law_right) l20 c20 k20
  have b20 := F20.binds (ps := ["_law_bag_here"]) fun _ _ _ _ _ _ us hl => match us, hl with | [_], _ => rfl
  have F21 := fun_mk (st := s_law) l21 c21 k21
  have b21 := F21.binds (ps := ["_law_script"]) fun _ _ _ _ _ _ us hl => match us, hl with | [_], _ => rfl
  let f : Nat → Addr := fun i => if i < 100 then [f0, f1, f2, f3, f4, f5, f6, f7, f8, f9, f10, f11, f12, f13, f14, f15, f16, f17, f18, f19, f20, fa].getD i 0 else [C0, I0, C1, I1].getD (i - 100) 0
  let d : Nat → FuncData := fun i => match i with | 0 => PySem.W.fnOf "_law_cell" "_law_cell" (defArgs s_law_cell) (defBody s_law_cell) (defScope s_law_cell) .none kV0 dc0 pm0 an0 cd0 ct0 | 1 => PySem.W.fnOf "_law_bag" "_law_bag" (defArgs s_law_bag) (defBody s_law_bag) (defScope s_law_bag) .none kV1 dc1 pm1 an1 cd1 ct1 | 2 => PySem.W.fnOf "_law_take" "_law_take" (defArgs s_law_take) (defBody s_law_take) (defScope s_law_take) .none kV2 dc2 pm2 an2 cd2 ct2 | 3 => PySem.W.fnOf "is_whole" "is_whole" (defArgs s_is_whole) (defBody s_is_whole) (defScope s_is_whole) .none kV3 dc3 pm3 an3 cd3 ct3 | 4 => PySem.W.fnOf "_consists_of" "_consists_of" (defArgs s_consists_of) (defBody s_consists_of) (defScope s_consists_of) .none kV4 dc4 pm4 an4 cd4 ct4 | 5 => PySem.W.fnOf "_is_figures" "_is_figures" (defArgs s_is_figures) (defBody s_is_figures) (defScope s_is_figures) .none kV5 dc5 pm5 an5 cd5 ct5 | 6 => PySem.W.fnOf "_law_whole" "_law_whole" (defArgs s_law_whole) (defBody s_law_whole) (defScope s_law_whole) .none kV6 dc6 pm6 an6 cd6 ct6 | 7 => PySem.W.fnOf "is_name" "is_name" (defArgs s_is_name) (defBody s_is_name) (defScope s_is_name) .none kV7 dc7 pm7 an7 cd7 ct7 | 8 => PySem.W.fnOf "is_letter" "is_letter" (defArgs s_is_letter) (defBody s_is_letter) (defScope s_is_letter) .none kV8 dc8 pm8 an8 cd8 ct8 | 9 => PySem.W.fnOf "is_spot" "is_spot" (defArgs s_is_spot) (defBody s_is_spot) (defScope s_is_spot) .none kV9 dc9 pm9 an9 cd9 ct9 | 10 => PySem.W.fnOf "_law_is" "_law_is" (defArgs s_law_is) (defBody s_law_is) (defScope s_law_is) .none kV10 dc10 pm10 an10 cd10 ct10 | 11 => PySem.W.fnOf "_law_number" "_law_number" (defArgs s_law_number) (defBody s_law_number) (defScope s_law_number) .none kV11 dc11 pm11 an11 cd11 ct11 | 12 => PySem.W.fnOf "_law_is_name" "_law_is_name" (defArgs s_law_is_name) (defBody s_law_is_name) (defScope s_law_is_name) .none kV12 dc12 pm12 an12 cd12 ct12 | 13 => PySem.W.fnOf "_law_is_letter" "_law_is_letter" (defArgs s_law_is_letter) (defBody s_law_is_letter) (defScope s_law_is_letter) .none kV13 dc13 pm13 an13 cd13 ct13 | 14 => PySem.W.fnOf "_law_is_spot" "_law_is_spot" (defArgs s_law_is_spot) (defBody s_law_is_spot) (defScope s_law_is_spot) .none kV14 dc14 pm14 an14 cd14 ct14 | 15 => PySem.W.fnOf "_law_spoilt" "_law_spoilt" (defArgs s_law_spoilt) (defBody s_law_spoilt) (defScope s_law_spoilt) .none kV15 dc15 pm15 an15 cd15 ct15 | 16 => PySem.W.fnOf "_law_text" "_law_text" (defArgs s_law_text) (defBody s_law_text) (defScope s_law_text) .none kV16 dc16 pm16 an16 cd16 ct16 | 17 => PySem.W.fnOf "_law_odd" "_law_odd" (defArgs s_law_odd) (defBody s_law_odd) (defScope s_law_odd) .none kV17 dc17 pm17 an17 cd17 ct17 | 18 => PySem.W.fnOf "_law_any" "_law_any" (defArgs s_law_any) (defBody s_law_any) (defScope s_law_any) .none kV18 dc18 pm18 an18 cd18 ct18 | 19 => PySem.W.fnOf "_law_spot" "_law_spot" (defArgs s_law_spot) (defBody s_law_spot) (defScope s_law_spot) .none kV19 dc19 pm19 an19 cd19 ct19 | 20 => PySem.W.fnOf "_law_right" "_law_right" (defArgs s_law_right) (defBody s_law_right) (defScope s_law_right) .none kV20 dc20 pm20 an20 cd20 ct20 | 21 => PySem.W.fnOf "law" "law" (defArgs s_law) (defBody s_law) (defScope s_law) .none kV21 dc21 pm21 an21 cd21 ct21 | 100 => PySem.W.ksFn "__init__" "NoLetter.__init__" (defArgs xs_NoLetter) (defBody xs_NoLetter) (defScope xs_NoLetter) .none kv_0 dc_0 pm_0 an_0 (.ref cda0) ct_0 cc0 | 102 => PySem.W.ksFn "__init__" "NoNumber.__init__" (defArgs xs_NoNumber) (defBody xs_NoNumber) (defScope xs_NoNumber) .none kv_1 dc_1 pm_1 an_1 (.ref cda1) ct_1 cc1 | _ => PySem.W.fnOf "law" "law" (defArgs s_law) (defBody s_law) (defScope s_law) .none kV21 dc21 pm21 an21 cd21 ct21
  have Xc0 := JgX.xc_mk xl0 xt0 xsa0 xex0 xty0 xkC0 xsu0 xsb0
  have Xf0 := JgX.xfn_mk (P := l.prog) (st := xs_NoLetter) xlI0 xhc0 xlc0 xhv0 xhf0 xlz0 xiC0 xtI0
  have Xa0 := JgX.xa_mk (o := ⟨.none, none, .fields #[], #[]⟩) xga0 xgg0 xex0 xhd0 xcl0 xha0 xhn0 xtk0 xhm0
  have Xn0 : Jg.Nk K C0 := ⟨JgX.xa_mk (o := ⟨.none, none, .fields #[], #[]⟩) xga0 xgg0 xex0 xhd0 xcl0 xha0 xhn0 xtk0 xhm0, xki0, xks0, xkt0⟩
  have Xr0 : JgX.XR K C0 "NoLetter" := ⟨xrp0, xex0, _, xcl0, xcn0⟩
  have Xc1 := JgX.xc_mk xl1 xt1 xsa1 xex1 xty1 xkC1 xsu1 xsb1
  have Xf1 := JgX.xfn_mk (P := l.prog) (st := xs_NoNumber) xlI1 xhc1 xlc1 xhv1 xhf1 xlz1 xiC1 xtI1
  have Xa1 := JgX.xa_mk (o := ⟨.none, none, .fields #[], #[]⟩) xga1 xgg1 xex1 xhd1 xcl1 xha1 xhn1 xtk1 xhm1
  have Xn1 : Jg.Nk K C1 := ⟨JgX.xa_mk (o := ⟨.none, none, .fields #[], #[]⟩) xga1 xgg1 xex1 xhd1 xcl1 xha1 xhn1 xtk1 xhm1, xki1, xks1, xkt1⟩
  have Xr1 : JgX.XR K C1 "NoNumber" := ⟨xrp1, xex1, _, xcl1, xcn1⟩
  have T : Txt l.prog K mg f d := {
    F_law_cell := F0, m__law_cell := PySem.W.mg_of X G a0, k__law_cell := k0, b__law_cell := b0,
    F_law_bag := F1, m__law_bag := PySem.W.mg_of X G a1, k__law_bag := k1, b__law_bag := b1,
    F_law_take := F2, m__law_take := PySem.W.mg_of X G a2, k__law_take := k2, b__law_take := b2,
    F_is_whole := F3, m_is_whole := PySem.W.mg_of X G a3, k_is_whole := k3, b_is_whole := b3,
    F_consists_of := F4, m__consists_of := PySem.W.mg_of X G a4, k__consists_of := k4, b__consists_of := b4,
    F_is_figures := F5, m__is_figures := PySem.W.mg_of X G a5, k__is_figures := k5, b__is_figures := b5,
    F_law_whole := F6, m__law_whole := PySem.W.mg_of X G a6, k__law_whole := k6, b__law_whole := b6,
    F_is_name := F7, m_is_name := PySem.W.mg_of X G a7, k_is_name := k7, b_is_name := b7,
    F_is_letter := F8, m_is_letter := PySem.W.mg_of X G a8, k_is_letter := k8, b_is_letter := b8,
    F_is_spot := F9, m_is_spot := PySem.W.mg_of X G a9, k_is_spot := k9, b_is_spot := b9,
    F_law_is := F10, m__law_is := PySem.W.mg_of X G a10, k__law_is := k10, b__law_is := b10,
    F_law_number := F11, m__law_number := PySem.W.mg_of X G a11, k__law_number := k11, b__law_number := b11,
    F_law_is_name := F12, m__law_is_name := PySem.W.mg_of X G a12, k__law_is_name := k12, b__law_is_name := b12,
    F_law_is_letter := F13, m__law_is_letter := PySem.W.mg_of X G a13, k__law_is_letter := k13, b__law_is_letter := b13,
    F_law_is_spot := F14, m__law_is_spot := PySem.W.mg_of X G a14, k__law_is_spot := k14, b__law_is_spot := b14,
    F_law_spoilt := F15, m__law_spoilt := PySem.W.mg_of X G a15, k__law_spoilt := k15, b__law_spoilt := b15,
    F_law_text := F16, m__law_text := PySem.W.mg_of X G a16, k__law_text := k16, b__law_text := b16,
    F_law_odd := F17, m__law_odd := PySem.W.mg_of X G a17, k__law_odd := k17, b__law_odd := b17,
    F_law_any := F18, m__law_any := PySem.W.mg_of X G a18, k__law_any := k18, b__law_any := b18,
    F_law_spot := F19, m__law_spot := PySem.W.mg_of X G a19, k__law_spot := k19, b__law_spot := b19,
    F_law_right := F20, m__law_right := PySem.W.mg_of X G a20, k__law_right := k20, b__law_right := b20,
    F_law := F21, m_law := PySem.W.mg_of X G a21, k_law := k21, b_law := b21,
    z_all := PySem.W.mg_none_of X G z_all,
    z_bool := PySem.W.mg_none_of X G z_bool,
    z_int := PySem.W.mg_none_of X G z_int,
    z_isinstance := PySem.W.mg_none_of X G z_isinstance,
    z_len := PySem.W.mg_none_of X G z_len,
    z_max := PySem.W.mg_none_of X G z_max,
    z_min := PySem.W.mg_none_of X G z_min,
    z_range := PySem.W.mg_none_of X G z_range,
    z_repr := PySem.W.mg_none_of X G z_repr,
    z_str := PySem.W.mg_none_of X G z_str,
    z_tuple := PySem.W.mg_none_of X G z_tuple,
    c__FIGURES := ⟨_, PySem.W.mg_of X G cv0⟩,
    c__CAPITALS := ⟨_, PySem.W.mg_of X G cv1⟩,
    c__SMALL := ⟨_, PySem.W.mg_of X G cv2⟩,
    c__MOST_NAME := ⟨_, PySem.W.mg_of X G cv3⟩,
    c__MOST_LETTER := ⟨_, PySem.W.mg_of X G cv4⟩,
    c__MOST_SPOT := ⟨_, PySem.W.mg_of X G cv5⟩,
    c__MOST_PART := ⟨_, PySem.W.mg_of X G cv6⟩,
    x_NoLetter := Xc0, y_NoLetter := Xf0, n_NoLetter := xnf0, e_NoLetter := xm0, c_NoLetter := PySem.W.mg_of X G xm0,
    a_NoLetter := Xn0, r_NoLetter := Xr0,
    x_NoNumber := Xc1, y_NoNumber := Xf1, n_NoNumber := xnf1, e_NoNumber := xm1, c_NoNumber := PySem.W.mg_of X G xm1,
    a_NoNumber := Xn1, r_NoNumber := Xr1,
    z_super := PySem.W.mg_none_of X G xsup, opq := xopq, tp := xtop }
  exact ⟨PySem.W.fnOf "law" "law" (defArgs s_law) (defBody s_law) (defScope s_law) .none kV21 dc21 pm21 an21 cd21 ct21, fun s v => .of_eq rfl, fun base _ _ => ok_law T⟩
theorem walk {l : PySem.W.OpenLaw} {q : Program} {loose : List Str} {XP : (Str → Option Value) → Heap → Prop} {YP : World → Heap → Prop} {d : DefRec} {K : Params → PySem.W.Frag} (hn : l.most = some 63) (hdf : d.params.defaults = [])
    (hY : ∀ (w : World) (h : Heap), YP w h → (K w.params).In h)
    (F : ∀ (w : World) (mg : Str → Option Value) (fa : Addr) (h : Heap), (K w.params).In h → h.Ns mainGlobals mg → mg d.name = some (.ref fa) →
      ∃ fd : FuncData, (∀ (s : Shared) (u : Value), BindsTo s fd ⟨[u], []⟩ [("_law_script", u)]) ∧ ∀ base : Heap, (K w.params).In base → base.Ns mainGlobals mg → FnG l.prog w (K w.params) mg base 5 fa fd ["_law_script"] (sp_law (K w.params))) :
    PySem.W.WalkO q loose XP YP l.row.toRowW d [] (fun f vs => PySem.call f vs) :=
  Jg.walkG (n := 63) (k := 5) (x := "_law_script") (sp := sp_law) hn (by decide) hdf ⟨rfl, by decide, by decide⟩ hY F fun K H a ns hl _ hS => ⟨a, ns, rfl, hS, hl, fun _ => rfl⟩
end K01
open PySem PySem.W PyProof.Rows
set_option maxRecDepth 100000 in
set_option maxHeartbeats 0 in
theorem PySem.Challenge.cw_termshelf_k01_marks_of_any_thing_holds : PySem.Challenge.rw_termshelf_k01_marks_of_any_thing.Holds := by
  w_on; o_law; k_head; (case hw => w_witness2)
  k_fill
  refine K01.walk (l := PySem.Challenge.rw_termshelf_k01_marks_of_any_thing) rfl rfl (fun w h Y => PySem.W.kIn_of Y) ?F
  case F =>
    intro w mg fa h KX G hmg
    refine' K01.all_mk KX G hmg ?qa0 ?ql0 ?qc0 ?qk0 ?qa1 ?ql1 ?qc1 ?qk1 ?qa2 ?ql2 ?qc2 ?qk2 ?qa3 ?ql3 ?qc3 ?qk3 ?qa4 ?ql4 ?qc4 ?qk4 ?qa5 ?ql5 ?qc5 ?qk5 ?qa6 ?ql6 ?qc6 ?qk6 ?qa7 ?ql7 ?qc7 ?qk7 ?qa8 ?ql8 ?qc8 ?qk8 ?qa9 ?ql9 ?qc9 ?qk9 ?qa10 ?ql10 ?qc10 ?qk10 ?qa11 ?ql11 ?qc11 ?qk11 ?qa12 ?ql12 ?qc12 ?qk12 ?qa13 ?ql13 ?qc13 ?qk13 ?qa14 ?ql14 ?qc14 ?qk14 ?qa15 ?ql15 ?qc15 ?qk15 ?qa16 ?ql16 ?qc16 ?qk16 ?qa17 ?ql17 ?qc17 ?qk17 ?qa18 ?ql18 ?qc18 ?qk18 ?qa19 ?ql19 ?qc19 ?qk19 ?qa20 ?ql20 ?qc20 ?qk20 ?qa21 ?ql21 ?qc21 ?qk21 ?qz_all ?qz_bool ?qz_int ?qz_isinstance ?qz_len ?qz_max ?qz_min ?qz_range ?qz_repr ?qz_str ?qz_tuple  ?q_cv0 ?q_cv1 ?q_cv2 ?q_cv3 ?q_cv4 ?q_cv5 ?q_cv6 ?q_xm0 ?q_xl0 ?q_xt0 ?q_xsa0 ?q_xex0 ?q_xty0 ?q_xkC0 ?q_xsu0 ?q_xsb0 ?q_xiC0 ?q_xlI0 ?q_xhc0 ?q_xlc0 ?q_xhv0 ?q_xhf0 ?q_xlz0 ?q_xtI0 ?q_xnf0 ?q_xga0 ?q_xgg0 ?q_xhd0 ?q_xcl0 ?q_xha0 ?q_xhn0 ?q_xtk0 ?q_xhm0 ?q_xcn0 ?q_xrp0 ?q_xki0 ?q_xks0 ?q_xkt0 ?q_xm1 ?q_xl1 ?q_xt1 ?q_xsa1 ?q_xex1 ?q_xty1 ?q_xkC1 ?q_xsu1 ?q_xsb1 ?q_xiC1 ?q_xlI1 ?q_xhc1 ?q_xlc1 ?q_xhv1 ?q_xhf1 ?q_xlz1 ?q_xtI1 ?q_xnf1 ?q_xga1 ?q_xgg1 ?q_xhd1 ?q_xcl1 ?q_xha1 ?q_xhn1 ?q_xtk1 ?q_xhm1 ?q_xcn1 ?q_xrp1 ?q_xki1 ?q_xks1 ?q_xkt1 ?q_xopq ?q_xsup ?q_xtop
    (case qa0 => k_is); (case ql0 => k_is); (case qc0 => k_is); (case qk0 => k_is)
    (case qa1 => k_is); (case ql1 => k_is); (case qc1 => k_is); (case qk1 => k_is)
    (case qa2 => k_is); (case ql2 => k_is); (case qc2 => k_is); (case qk2 => k_is)
    (case qa3 => k_is); (case ql3 => k_is); (case qc3 => k_is); (case qk3 => k_is)
    (case qa4 => k_is); (case ql4 => k_is); (case qc4 => k_is); (case qk4 => k_is)
    (case qa5 => k_is); (case ql5 => k_is); (case qc5 => k_is); (case qk5 => k_is)
    (case qa6 => k_is); (case ql6 => k_is); (case qc6 => k_is); (case qk6 => k_is)
    (case qa7 => k_is); (case ql7 => k_is); (case qc7 => k_is); (case qk7 => k_is)
    (case qa8 => k_is); (case ql8 => k_is); (case qc8 => k_is); (case qk8 => k_is)
    (case qa9 => k_is); (case ql9 => k_is); (case qc9 => k_is); (case qk9 => k_is)
    (case qa10 => k_is); (case ql10 => k_is); (case qc10 => k_is); (case qk10 => k_is)
    (case qa11 => k_is); (case ql11 => k_is); (case qc11 => k_is); (case qk11 => k_is)
    (case qa12 => k_is); (case ql12 => k_is); (case qc12 => k_is); (case qk12 => k_is)
    (case qa13 => k_is); (case ql13 => k_is); (case qc13 => k_is); (case qk13 => k_is)
    (case qa14 => k_is); (case ql14 => k_is); (case qc14 => k_is); (case qk14 => k_is)
    (case qa15 => k_is); (case ql15 => k_is); (case qc15 => k_is); (case qk15 => k_is)
    (case qa16 => k_is); (case ql16 => k_is); (case qc16 => k_is); (case qk16 => k_is)
    (case qa17 => k_is); (case ql17 => k_is); (case qc17 => k_is); (case qk17 => k_is)
    (case qa18 => k_is); (case ql18 => k_is); (case qc18 => k_is); (case qk18 => k_is)
    (case qa19 => k_is); (case ql19 => k_is); (case qc19 => k_is); (case qk19 => k_is)
    (case qa20 => k_is); (case ql20 => k_is); (case qc20 => k_is); (case qk20 => k_is)
    (case qa21 => k_is); (case ql21 => k_is); (case qc21 => k_is); (case qk21 => k_is)
    (case qz_all => k_is)
    (case qz_bool => k_is)
    (case qz_int => k_is)
    (case qz_isinstance => k_is)
    (case qz_len => k_is)
    (case qz_max => k_is)
    (case qz_min => k_is)
    (case qz_range => k_is)
    (case qz_repr => k_is)
    (case qz_str => k_is)
    (case qz_tuple => k_is)
    (case q_cv0 => k_is)
    (case q_cv1 => k_is)
    (case q_cv2 => k_is)
    (case q_cv3 => k_is)
    (case q_cv4 => k_is)
    (case q_cv5 => k_is)
    (case q_cv6 => k_is)
    (case q_xm0 => k_is)
    (case q_xl0 => k_is)
    (case q_xt0 => rfl)
    (case q_xsa0 => first | k_is | kx_is)
    (case q_xex0 => first | k_is | kx_is)
    (case q_xty0 => first | k_is | kx_is)
    (case q_xkC0 => first | k_is | kx_is)
    (case q_xsu0 => ks_is)
    (case q_xsb0 => first | k_is | kx_is)
    (case q_xiC0 => first | k_is | kx_is)
    (case q_xlI0 => first | k_is | kx_is)
    (case q_xhc0 => first | k_is | kx_is)
    (case q_xlc0 => first | k_is | kx_is)
    (case q_xhv0 => rfl)
    (case q_xhf0 => first | rfl | decide +kernel)
    (case q_xlz0 => first | k_is | kx_is)
    (case q_xtI0 => first | k_is | kx_is)
    (case q_xnf0 => first | k_is | kx_is)
    (case q_xga0 => first | k_is | kx_is)
    (case q_xgg0 => first | k_is | kx_is)
    (case q_xhd0 => first | k_is | kx_is)
    (case q_xcl0 => first | k_is | kx_is)
    (case q_xha0 => first | k_is | kx_is)
    (case q_xhn0 => first | k_is | kx_is)
    (case q_xtk0 => first | k_is | kx_is)
    (case q_xhm0 => first | k_is | kx_is)
    (case q_xcn0 => first | rfl | decide +kernel)
    (case q_xrp0 => first | k_is | kx_is)
    (case q_xki0 => first | kit_is | k_is | kx_is)
    (case q_xks0 => first | kit_is | k_is | kx_is)
    (case q_xkt0 => first | kit_is | k_is | kx_is)
    (case q_xm1 => k_is)
    (case q_xl1 => k_is)
    (case q_xt1 => rfl)
    (case q_xsa1 => first | k_is | kx_is)
    (case q_xex1 => first | k_is | kx_is)
    (case q_xty1 => first | k_is | kx_is)
    (case q_xkC1 => first | k_is | kx_is)
    (case q_xsu1 => ks_is)
    (case q_xsb1 => first | k_is | kx_is)
    (case q_xiC1 => first | k_is | kx_is)
    (case q_xlI1 => first | k_is | kx_is)
    (case q_xhc1 => first | k_is | kx_is)
    (case q_xlc1 => first | k_is | kx_is)
    (case q_xhv1 => rfl)
    (case q_xhf1 => first | rfl | decide +kernel)
    (case q_xlz1 => first | k_is | kx_is)
    (case q_xtI1 => first | k_is | kx_is)
    (case q_xnf1 => first | k_is | kx_is)
    (case q_xga1 => first | k_is | kx_is)
    (case q_xgg1 => first | k_is | kx_is)
    (case q_xhd1 => first | k_is | kx_is)
    (case q_xcl1 => first | k_is | kx_is)
    (case q_xha1 => first | k_is | kx_is)
    (case q_xhn1 => first | k_is | kx_is)
    (case q_xtk1 => first | k_is | kx_is)
    (case q_xhm1 => first | k_is | kx_is)
    (case q_xcn1 => first | rfl | decide +kernel)
    (case q_xrp1 => first | k_is | kx_is)
    (case q_xki1 => first | kit_is | k_is | kx_is)
    (case q_xks1 => first | kit_is | k_is | kx_is)
    (case q_xkt1 => first | kit_is | k_is | kx_is)
    (case q_xopq => first | k_is | kx_is)
    (case q_xsup => first | k_is | kx_is)
    (case q_xtop => first | rfl | decide +kernel)
