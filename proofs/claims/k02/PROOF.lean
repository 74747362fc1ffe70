import PyProof.Rows.All
import Wide.All
import OpenK.AllK
import Wide.FinOn
import HandS.ForMost
import HandS.IsInst
import HandS.Wide
import PyProof.ReprRoads
import PyProof.StrReplace2
import PyProof.ToksMono
import HandS.Walk
import HandS.Replace
import PyProof.Rows.StrSplitAre
import PyProof.StrLawsChain
import PyProof.StrBlock2
import PyProof.Rows.StrSplitJoin
import PyProof.StrLawsReplace
import PyProof.Rows.StrItems
import HandS.Exc
import HandS.ExcInit
import HandS.ExcSuper
import KE.KExcSuper
import KE.KSuper
import KE.KExcMake
import PyProof.ExcBaseAll.LookupError
import HandS.ExcField
import KE.KExcIs
import HandS.Words
import HandS.Defaults
import HandS.Steps
import HandS.StrMore
import KE.KExcStr
import PyProof.ReprNest
import PyProof.ReprReads
import HandS.TupLe
import HandS.HotCalls
import HandS.Zip
import HandS.ExcCtx
import KE.KTryMore
import HandS.WordsExc
import HandS.MakeKwOnly
import HandS.FStr
import PyProof.Rows.StrSplitCount
import PyProof.Rows.StrJoinMade
import PyProof.Rows.ReprOcc
import PySem.Challenge.RW_termshelf_k02_letters_and_numbers
set_option Elab.async false
set_option linter.all false
set_option maxRecDepth 100000
set_option maxHeartbeats 2000000
/-! The part that every law of the package shares: readings by steps, the bag of draws, repr, a def that may lean on the guards. -/
namespace Jg
open PySem PySem.Spec PyProof.Rows L2

/-! ### a def whose promise holds where no repr runs around it -/
structure FnG (P : Program) (w : World) (K : PySem.W.Frag) (mg : Str → Option Value) (base : Heap) (k : Nat) (f : Addr) (fd : FuncData) (ps : List Str) (sp : Sp) : Prop where
  many : ∀ vs H Q E, sp vs H Q E → vs.length = ps.length
  go : ∀ (A : Around) (outer : List Env) (s : Shared) (H : Hp) (args : Args) (us : List Value) (vs : List V) (Q : VK) (E : XK),
    Room k A → A.guards = some [] → Env0 P w K mg base A outer s H → BindsTo s fd args (ps.zip us) → Vals vs us → sp vs H Q E →
    codeAny (model P w) A (.call (.ref f) args) (CR CX0 outer P w H s Q E) s

theorem deeper_guards (A : Around) (env : Env) : (A.deeper env).guards = A.guards := rfl

section
variable {P : Program} {w : World} {K : PySem.W.Frag} {mg : Str → Option Value} {base : Heap}
/-- such a def by its body -/
theorem fnG_of {x qual : Str} {st : Stmt} {f : Addr} {fd : FuncData} {N ps : List Str} {k : Nat} {sp : Sp} (F : Fun K x qual st f fd) (S : FnScope N ps (defScope st))
    (len : ∀ vs H Q E, sp vs H Q E → vs.length = ps.length)
    (body : ∀ (cdv : Value) (A : Around) (outer : List Env) (s : Shared) (H : Hp) (vs : List V) (Q : VK) (E : XK),
      Room k (A.deeper (envOfC qual (defScope st) s.heap.objs.size f cdv)) → A.guards = some [] → sp vs H Q E →
      ∃ t, PSs (cxOf CX0 P w K mg base N qual (defScope st) f cdv A outer s H E).nox (defBody st) t ∧ t { nx := fun _ H' => Q .non H', rt := Q } (start N vs) H) :
    FnG P w K mg base (k + 1) f fd ps sp := by
  obtain ⟨oc, od, kV, doc, pm, an, cdv, ct, osl, efd, lk, hcd⟩ := F.ex
  subst efd
  refine ⟨len, fun A outer s H args us vs Q E room gua env bnd rel want => ?_⟩
  -- the promise at these guards alone, as one that any surroundings keep
  have hl := len _ _ _ _ want
  have kin : K.In s.heap := env.mod.kin.keeps fun b o e => (env.bs b o e).1
  have lim : s.heap.NoLimit := env.mod.nolimit.keeps fun b o e => (env.bs b o e).1
  have kinds : ∀ y ∈ ps.zip us, (defScope st).names.lookup y.1 = some .local ∨ ((defScope st).names.lookup y.1 = some .cell ∧ ((cellsFrom (s.heap.objs.size + 1) (defScope st).names []).lookup y.1).isSome = true) := by
    intro y hy
    obtain ⟨n, v⟩ := y
    have hp := S.par n (List.of_mem_zip hy).1
    cases hp with
    | inl q => exact Or.inl q
    | inr q => exact Or.inr ⟨q, PySem.W.cellsFrom_some _ _ _ (Or.inl q)⟩
  refine codeAny_call_function room.depth (kin _ _ lk) rfl S.co S.gen rfl (PySem.W.codeRec_of kin hcd) (bnd _ _ _ _ ?_)
  refine wpAny_newFunctionEnv_cells S.kind kinds ?_
  intro e2 he2 s1 x
  subst he2
  refine ⟨lim.keeps x.toInCall.keep, codeAny_func ?_⟩
  obtain ⟨t, ht, hq⟩ := body cdv A outer s H vs Q E (room.deeper _) gua want
  have I := inv_start (CX := CX0) (qual := qual) (f := f) (cd := cdv) (E := E) S room.hd env hl rel x
  refine wpAny_mono (ht.nox.run [] s1 (start N vs) H _ I hq) ?_ (fun e s' hs => hs)
  intro fl s' hs
  cases fl with
  | ret u =>
    obtain ⟨v, σ', H', J, rv, q⟩ := hs
    exact ⟨v, H', J.os, J.bare, J.base, J.hok, rv, q⟩
  | next =>
    obtain ⟨σ', H', J, q⟩ := hs
    exact ⟨V.non, H', J.os, J.bare, J.base, J.hok, rfl, q⟩
  | brk =>
    obtain ⟨σ', H', J, q⟩ := hs
    exact False.elim q
  | cont =>
    obtain ⟨σ', H', J, q⟩ := hs
    exact False.elim q
theorem FnG.of {k : Nat} {f : Addr} {fd : FuncData} {ps : List Str} {sp : Sp} (F : FnOk P w K mg base CX0 k f fd ps sp) : FnG P w K mg base k f fd ps sp :=
  ⟨F.len, fun A outer s H args us vs Q E room _ env bnd rel want => F.run A outer s H args us vs Q E room env bnd rel want⟩
end

section
variable {X : Cx} {k : Nat} {f : Addr} {fd : FuncData} {ps : List Str} {sp : Sp} {dvs : List V} {ds : List Value} {x : Str} {p pos : Pos} {e : Expr} {es : List Expr} {t : TA}
/-- f(..) of such a def -/
theorem pe_callG (F : FnG X.prog X.w X.K X.mg X.base k f fd ps sp) (room : Room k X.A) (gua : X.A.guards = some []) (hg : Gl X x) (hm : X.mg x = some (.ref f)) (hk : PySem.W.keepIn X.K (.ref f) = true)
    (hb : Binds X.K fd ps ds) (hd : Vals dvs ds) (args : PA X (e :: es) t) (hdb : (x == ("__debug__" : Str)) = false := by decide)
    (he : starEach (e :: es) X.env = (false, eval e X.env) :: starEach es X.env := by rfl) (hpl : (backTo pos (starEach es X.env)).any (·.1) = false := by rfl) :
    PE X (.Call (.Name x p) (e :: es) [] pos) (tCall sp dvs E0 t) := by
  constructor
  intro pins s σ H Q I h
  refine wpAny_Call_Name_kw (ld_glob I hg hm ?_ hdb)
  refine PySem.W.callWith_K (h₀ := X.base) I.ok.mod.kin hk (thn (args.run pos pins s σ H _ I h) ?_) he hpl
  rintro us s1 ⟨vs, H1, I1, rel, want⟩
  refine ⟨I1.kIn, ?_⟩
  have rel2 : Vals (vs ++ dvs) (us ++ ds) := rel.append hd
  have hl : (us ++ ds).length = ps.length := by
    rw [← rel2.length]
    exact F.many _ _ _ _ want
  refine wpAny_call (codeAny_mono (F.go X.A X.stack s1 H1 ⟨us, []⟩ (us ++ ds) (vs ++ dvs) Q E0 room gua I1.env0 (hb s1 us I1.kIn hl) rel2 want) ?_)
  intro r s' hq
  cases r with
  | error e => exact False.elim hq
  | ok fl =>
    cases fl with
    | ret u => exact I1.after hq
    | next => exact False.elim hq
    | brk => exact False.elim hq
    | cont => exact False.elim hq
end
end Jg
namespace Jg
open PySem PySem.Spec PyProof.Rows L2

theorem ns_hid {h : Heap} {H : Hp} {b : Addr} {m : Str → Option Value} (free : ∀ o es ep, h.get? b = some o → o.data = .dict es ep → H b = none) (n : h.Ns b m) : (hidT h H).Ns b m := by
  obtain ⟨o, es, ep, e, d, r⟩ := n
  exact ⟨o, es, ep, hidT_get e (free o es ep e d), d, r⟩
/-- the law's own call where the heap H speaks of the script alone -/
theorem call_at {P : Program} {w : World} {K : PySem.W.Frag} {mg mb : Str → Option Value} {k : Nat} {fa a : Addr} {fd : FuncData} {x : Str} {sp : Sp} {s : Shared} {items : Array Value} {H : Hp}
    (kin : K.In s.heap) (glob : s.heap.Ns mainGlobals mg) (bt : s.heap.Ns builtinsNs mb) (same : ∀ x : Str, x ≠ "__name__" → mb x = bootBuiltins x) (lim : s.heap.NoLimit) (gens : s.gens = #[])
    (scr : s.heap.get? a = some { cls := .type "list", data := .seq items }) (room : Room k callerA)
    (F : ∀ base : Heap, K.In base → base.Ns mainGlobals mg → FnG P w K mg base k fa fd [x] sp) (bnd : ∀ (s : Shared) (u : Value), BindsTo s fd ⟨[u], []⟩ [(x, u)])
    (only : Only H) (ok : HOk P w H s.heap) (here : ∀ b, H b ≠ none → b = a) (apart : H a ≠ none → K.lookup a = none)
    (want : sp [.ref a] H (fun v _ => v = .bl true) fun _ _ _ => False) :
    codeAny (model P w) callerA (.call (.ref fa) ⟨[.ref a], []⟩) (fun r s' => r = .ok (.ret (.bool true)) ∧ OldK s.heap s'.heap ∧ s'.os = s.os ∧ AllBare s'.gens) s := by
  have noDict : ∀ {b : Addr} {o : Obj} {es : Array DictEntry} {ep : Nat}, s.heap.get? b = some o → o.data = .dict es ep → H b = none := by
    intro b o es ep e d
    by_cases z : H b = none
    · exact z
    · have eb := here b z
      subst eb
      rw [scr] at e
      cases e
      cases d
  have base : Env0 P w K mg (hidT s.heap H) callerA [] s H := by
    refine ⟨rfl, ⟨?_, ns_hid (fun _ _ _ => noDict) glob, ⟨mb, ns_hid (fun _ _ _ => noDict) bt, same⟩, ?_⟩, fun b o e => of_hidT e, Nat.le_of_eq (hidT_size _ _), trivial, ?_, ok, .of_eq gens⟩
    · intro b o e
      refine hidT_get (kin b o e) ?_
      by_cases z : H b = none
      · exact z
      · have eb := here b z
        subst eb
        rw [apart z] at e
        cases e
    · obtain ⟨m, h1, h2⟩ := lim
      exact ⟨m, ns_hid (fun _ _ _ => noDict) h1, h2⟩
    · intro b hb
      exact absurd hb (List.not_mem_nil)
  refine codeAny_mono ((F _ base.mod.kin (ns_hid (fun _ _ _ => noDict) glob)).go callerA [] s H ⟨[.ref a], []⟩ [.ref a] [.ref a] _ _ room rfl base (bnd s (.ref a)) (.cons rfl .nil) want) ?_
  intro r s' h
  cases r with
  | error e => exact False.elim h
  | ok fl =>
    cases fl with
    | next => exact False.elim h
    | brk => exact False.elim h
    | cont => exact False.elim h
    | ret u =>
      obtain ⟨v, H', os, bare, un, ok', rel, q⟩ := h
      have q' : v = .bl true := q
      subst q'
      obtain rfl : u = Value.bool true := rel
      refine ⟨rfl, OldK.of_keep ?_, os, bare⟩
      intro b o e
      by_cases z : H b = none
      · exact un.keep b o e z (List.not_mem_nil) (List.not_mem_nil)
      · rcases only b with z2 | ⟨ob, xs, z2⟩
        · exact absurd z2 z
        · have z3 := un.frzs b ob _ z2
          have e1 := (ok b _ z2).1
          have e2 := (ok' b _ z3).1
          rw [e] at e1
          cases e1
          exact e2

theorem call_law {P : Program} {w : World} {K : PySem.W.Frag} {mg mb : Str → Option Value} {k : Nat} {fa a : Addr} {fd : FuncData} {x : Str} {sp : Sp} {s : Shared} {vs : List Value} {ns : List Int}
    (kin : K.In s.heap) (glob : s.heap.Ns mainGlobals mg) (bt : s.heap.Ns builtinsNs mb) (same : ∀ x : Str, x ≠ "__name__" → mb x = bootBuiltins x) (lim : s.heap.NoLimit) (gens : s.gens = #[])
    (scr : s.heap.get? a = some { cls := .type "list", data := .seq vs.toArray }) (hin : IntsAre vs ns) (len : ns.length ≤ sizeLine) (room : Room k callerA)
    (F : ∀ base : Heap, K.In base → base.Ns mainGlobals mg → FnG P w K mg base k fa fd [x] sp) (bnd : ∀ (s : Shared) (u : Value), BindsTo s fd ⟨[u], []⟩ [(x, u)])
    (want : ∀ H : Hp, Only H → SqL K H a (ns.map V.int) → sp [.ref a] H (fun v _ => v = .bl true) fun _ _ _ => False) :
    codeAny (model P w) callerA (.call (.ref fa) ⟨[.ref a], []⟩) (fun r s' => r = .ok (.ret (.bool true)) ∧ OldK s.heap s'.heap ∧ s'.os = s.os ∧ AllBare s'.gens) s := by
  have rel : Vals (ns.map V.int) vs := vals_ints hin
  have lenM : (ns.map V.int).length ≤ sizeLine := by
    rw [List.length_map]
    exact len
  by_cases hk : K.lookup a = none
  · let o : Obj := { cls := .type "list", data := .seq vs.toArray }
    let H : Hp := fun b => if b = a then some (.frz o (.lst (ns.map V.int))) else none
    have at_a : H a = some (.frz o (.lst (ns.map V.int))) := if_pos rfl
    have off : ∀ b, b ≠ a → H b = none := fun b hb => if_neg hb
    have on : Only H := by
      intro b
      by_cases hb : b = a
      · subst hb
        exact Or.inr ⟨_, _, at_a⟩
      · exact Or.inl (off b hb)
    have ok : HOk P w H s.heap := by
      intro b u e
      by_cases hb : b = a
      · subst hb
        rw [at_a] at e
        cases e
        exact ⟨scr, lenM, vs, _, rel, scr⟩
      · rw [off b hb] at e
        cases e
    have here : ∀ b, H b ≠ none → b = a := by
      intro b z
      by_cases hb : b = a
      · exact hb
      · exact absurd (off b hb) z
    exact call_at kin glob bt same lim gens scr room F bnd on ok here (fun _ => hk) (want H on (Or.inl (Or.inr ⟨o, at_a⟩)))
  · obtain ⟨o, ho⟩ := Option.ne_none_iff_exists'.mp hk
    have e := kin a o ho
    rw [scr] at e
    cases e
    let H : Hp := fun _ => none
    have on : Only H := fun _ => Or.inl rfl
    have ok : HOk P w H s.heap := fun b u e => by cases e
    have sq : SqL K H a (ns.map V.int) := Or.inr ⟨_, vs.toArray, _, ho, rfl, rfl, rfl, by rw [List.size_toArray, ← rel.length]; exact lenM, by simpa using rel⟩
    exact call_at kin glob bt same lim gens scr room F bnd on ok (fun b z => absurd rfl z) (fun z => absurd rfl z) (want H on sq)

/-- the goal behind the head, from the law's promise -/
theorem walkG {l : PySem.W.OpenLaw} {n k : Nat} {q : Program} {loose : List Str} {XP : (Str → Option Value) → Heap → Prop} {YP : World → Heap → Prop} {d : DefRec} {K : Params → PySem.W.Frag} {sp : PySem.W.Frag → Sp} {x : Str}
    (hn : l.most = some n) (hn2 : n ≤ sizeLine) (hdf : d.params.defaults = []) (room : Room k callerA)
    (hY : ∀ (w : World) (h : Heap), YP w h → (K w.params).In h)
    (F : ∀ (w : World) (mg : Str → Option Value) (fa : Addr) (h : Heap), (K w.params).In h → h.Ns mainGlobals mg → mg d.name = some (.ref fa) →
      ∃ fd : FuncData, (∀ (s : Shared) (u : Value), BindsTo s fd ⟨[u], []⟩ [(x, u)]) ∧
        ∀ base : Heap, (K w.params).In base → base.Ns mainGlobals mg → FnG l.prog w (K w.params) mg base k fa fd [x] (sp (K w.params)))
    (want : ∀ (K : PySem.W.Frag) (H : Hp) (a : Addr) (ns : List Int), ns.length ≤ n → Only H → SqL K H a (ns.map V.int) → sp K [.ref a] H (fun v _ => v = .bl true) fun _ _ _ => False) :
    PySem.W.WalkO q loose XP YP l.row.toRowW d [] (fun f vs => PySem.call f vs) := by
  refine Att.attach_call hn hdf ?_
  intro w s₀ s₁ mg mb fa o pm cd doc a vs ns G Y ho hd hcd hmg hobj hints hlen hg
  have kin := hY w _ Y
  obtain ⟨fd, hb, hF⟩ := F w mg fa _ kin G.T.g hmg
  exact call_law kin G.T.g G.T.b G.T.builtins G.T.nolimit hg hobj hints (Nat.le_trans hlen hn2) room hF hb fun H on sq => want (K w.params) H a ns hlen on sq
end Jg
namespace Jg
open PySem PySem.Spec PyProof.Rows L2
/-! ### repr of data -/
def rRepr (K : PySem.W.Frag) : List V → Hp → VK → Prop := fun xs H Q => ∃ x d, xs = [x] ∧ Dp K H x d ∧ d.showable = true ∧ d.hasDict = false ∧ d.depth ≤ 60 ∧ d.shown.length ≤ sizeLine ∧ Q (.str d.shown) H
theorem call_repr {X : Cx} {K : PySem.W.Frag} (gua : X.A.guards = some []) (hu : X.A.units + 64 < cLine) (hK : X.K = K := by rfl) : CallR X (.builtin "repr") (rRepr K) := by
  subst hK
  intro pins s σ H xs us Q I rel h
  obtain ⟨x, d, rfl, hd, sh, nd, dp, sz, q⟩ := h
  obtain ⟨u, rfl, ru⟩ := vals1 rel
  obtain ⟨as, rd⟩ := Dp.reads I d x u hd ru
  have leaf : ∀ tk, EP X pins σ Q (.str d.shown tk) { s with toks := s.toks + 1 } := fun tk => ⟨.str d.shown, H, I.tok _, ⟨tk, rfl⟩, q⟩
  cases u with
  | ref a =>
    refine repr_of_reads' rd sh (PyData.noDict_hsm nd) gua (by omega) (fun b o e => e) ?_ sz
    intro h' u tk keep
    exact ⟨.str d.shown, H, I.kept keep, ⟨u, rfl⟩, q⟩
  | none =>
    cases rd
    simp only [PyData.shown] at leaf sz
    exact PySem.P.repr_of_none (leaf _)
  | bool b =>
    cases rd
    simp only [PyData.shown] at leaf sz
    exact PySem.P.repr_of_bool (leaf _)
  | int i t =>
    cases rd
    simp only [PyData.shown] at leaf sz
    exact PySem.P.repr_of_int (by simpa [PyData.showable] using sh) (leaf _)
  | str z t =>
    cases rd
    simp only [PyData.shown] at leaf sz
    exact PySem.P.repr_of_str (leaf _) sz
  | _ => cases rd
end Jg
namespace Jg
open PySem PySem.Spec L2
/-! ### operations by name -/
def rAddS : R2 := fun x y H Q => ∃ i j, x = .str i ∧ y = .str j ∧ i.length + j.length ≤ sizeLine ∧ Q (.str (i ++ j)) H
theorem op_addS {X : Cx} : OpR X (binaryOp .Add) rAddS := op_add_str
def rLen (K : PySem.W.Frag) : List V → Hp → VK → Prop := fun xs H Q => ∃ x n, xs = [x] ∧ LenV K x H n ∧ Q (.int n) H
theorem call_lenV {X : Cx} {K : PySem.W.Frag} (hK : X.K = K := by rfl) : CallR X (.builtin "len") (rLen K) := by
  subst hK
  intro pins s σ H xs us Q I rel h
  obtain ⟨x, n, e, l, q⟩ := h
  exact call_len pins s σ H xs us Q I rel ⟨x, n, e, l, q⟩
def rMax : List V → Hp → VK → Prop := fun xs H Q => ∃ i j, xs = [.int i, .int j] ∧ Q (.int (if j > i then j else i)) H
theorem call_maxV {X : Cx} (hc : X.calm = true) : CallR X (.builtin "max") rMax := call_max2 hc
def rMin : List V → Hp → VK → Prop := fun xs H Q => ∃ i j, xs = [.int i, .int j] ∧ Q (.int (if j < i then j else i)) H
theorem call_minV {X : Cx} (hc : X.calm = true) : CallR X (.builtin "min") rMin := call_min2 hc
def rInt : List V → Hp → VK → Prop := fun xs H Q => (∃ i, xs = [.int i] ∧ Q (.int i) H) ∨ ∃ k, xs = [.bl k] ∧ Q (.int (if k then 1 else 0)) H
theorem call_intV {X : Cx} : CallR X (.type "int") rInt := call_int1
def rIs : R2 := fun x y H Q => y = .non ∧ Q (.bl (decide (x = .non))) H
theorem op_isV {X : Cx} : OpR X (compareOp .Is) rIs := op_isN
def rIsNot : R2 := fun x y H Q => y = .non ∧ Q (.bl (!decide (x = .non))) H
theorem op_isNotV {X : Cx} : OpR X (compareOp .IsNot) rIsNot := op_notN
def rJoin (K : PySem.W.Frag) : V → List V → Hp → VK → Prop := fun x xs H Q => ∃ a p, ∃ ys : List Str, x = .str a ∧ xs = [.ref p] ∧ (SqL K H p (ys.map V.str) ∨ SqT K H p (ys.map V.str)) ∧
  (ys.map (·.length)).sum + ys.length * a.length ≤ 16777216 ∧ Q (.str (Txt.join a ys)) H
theorem mt_joinV {X : Cx} {K : PySem.W.Frag} (hK : X.K = K := by rfl) : MtR X "str.join" (rJoin K) := by
  subst hK
  exact mt_join
theorem ix_listV {X : Cx} {K : PySem.W.Frag} (hK : X.K = K := by rfl) : IxR X (rIxL K) := by
  subst hK
  exact ix_list
theorem ix_tupV {X : Cx} {K : PySem.W.Frag} (hK : X.K = K := by rfl) : IxR X (rIxT K) := by
  subst hK
  exact ix_tup
theorem call_isiV {X : Cx} {K : PySem.W.Frag} (hK : X.K = K := by rfl) : CallR X (.builtin "isinstance") (rIsi K) := by
  subst hK
  exact call_isi
def rSplit : V → List V → Hp → VK → Prop := fun x xs H Q => ∃ a b, x = .str a ∧ xs = [.str b] ∧ (b.length == 0) = false ∧ a.length + 2 ≤ sizeLine ∧ rNewStrs (Txt.split a b) H Q
theorem mt_splitV {X : Cx} : MtR X "str.split" rSplit := mt_split
/-! ### readings, a step each -/
section
variable {σ : L2.St} {H : Hp} {Q : VK} {B : Bool → Hp → Prop} {R : List V → Hp → Prop} {D : Ends} {i : Nat} {v x y : V} {ta tb te : TE} {t u c : TT} {ts ts2 : TS} {tas : TA} {b : Bool} {g : TG} {r : R2} {K : PySem.W.Frag}
theorem g_var (e : σ[i]? = some (some v)) (q : Q v H) : tVar i σ H Q := ⟨v, e, q⟩
theorem g_c (q : Q v H) : tC v σ H Q := q
theorem g_op (q : ta σ H fun x H1 => tb σ H1 fun y H2 => r x y H2 Q) : tOp r ta tb σ H Q := q
theorem g_un {r : V → Hp → VK → Prop} (q : ta σ H fun x H1 => r x H1 Q) : tUn r ta σ H Q := q
theorem g_I0 {g : Int → Int → V} {a b : Int} (q : Q (g a b) H) : rI0 g (.int a) (.int b) H Q := ⟨a, b, rfl, rfl, q⟩
theorem g_I {C : Int → Int → Prop} {g : Int → Int → V} {a b : Int} (h : C a b) (q : Q (g a b) H) : rI C g (.int a) (.int b) H Q := ⟨a, b, rfl, rfl, h, q⟩
theorem g_addS {a b : Str} (h : a.length + b.length ≤ sizeLine) (q : Q (.str (a ++ b)) H) : rAddS (.str a) (.str b) H Q := ⟨a, b, rfl, rfl, h, q⟩
theorem g_eq (h : scal x y = true) (q : Q (.bl (decide (x = y))) H) : rEq x y H Q := ⟨h, q⟩
theorem g_ne (h : scal x y = true) (q : Q (.bl (!decide (x = y))) H) : rNe x y H Q := ⟨h, q⟩
theorem g_is (q : Q (.bl (decide (x = .non))) H) : rIs x .non H Q := ⟨rfl, q⟩
theorem g_isNot (q : Q (.bl (!decide (x = .non))) H) : rIsNot x .non H Q := ⟨rfl, q⟩
theorem g_test (q : ta σ H fun x H' => ∃ k, x = .bl k ∧ B k H') : tTest ta σ H B := q
theorem g_B (q : ta σ H fun x H' => ∃ k, x = .bl k ∧ B k H') : tB ta σ H B := q
theorem g_bl {B : Bool → Prop} (q : B b) : ∃ k, V.bl b = .bl k ∧ B k := ⟨b, rfl, q⟩
theorem g_not (q : t σ H fun c H1 => B (!c) H1) : tNot t σ H B := q
theorem g_and (q : t σ H fun c H1 => if c = true then u σ H1 B else B false H1) : tAnd t u σ H B := q
theorem g_or (q : t σ H fun c H1 => if c = true then B true H1 else u σ H1 B) : tOr t u σ H B := q
theorem g_notV (q : ta σ H fun x H1 => ∃ c, x = .bl c ∧ Q (.bl (!c)) H1) : tNotV ta σ H Q := q
theorem g_andV (q : ta σ H fun x H1 => ∃ c, x = .bl c ∧ if c = true then tb σ H1 Q else Q (.bl false) H1) : tAndV ta tb σ H Q := q
theorem g_orV (q : ta σ H fun x H1 => ∃ c, x = .bl c ∧ if c = true then Q (.bl true) H1 else tb σ H1 Q) : tOrV ta tb σ H Q := q
theorem g_if (q : t σ H fun c H1 => if c = true then ta σ H1 Q else tb σ H1 Q) : tIf t ta tb σ H Q := q
theorem g_nil (q : R [] H) : tNil σ H R := q
theorem g_cons (q : ta σ H fun x H1 => tas σ H1 fun xs H2 => R (x :: xs) H2) : tCons ta tas σ H R := q
theorem g_lst (q : tas σ H fun xs H1 => xs.length ≤ sizeLine ∧ ∀ p, H1 p = none → Q (.ref p) (upd H1 p (.lst xs))) : tLst tas σ H Q := q
theorem g_tup (q : tas σ H fun xs H1 => xs.length ≤ sizeLine ∧ ∀ p, H1 p = none → Q (.ref p) (upd H1 p (.tup xs))) : tTup tas σ H Q := q
theorem g_call {sp : Sp} {dvs : List V} {E : XK} (q : tas σ H fun vs H1 => sp (vs ++ dvs) H1 Q E) : tCall sp dvs E tas σ H Q := q
theorem g_CB {r : List V → Hp → VK → Prop} (q : tas σ H fun vs H1 => r vs H1 Q) : tCB r tas σ H Q := q
theorem g_int {a : Int} (q : Q (.int a) H) : rInt [.int a] H Q := Or.inl ⟨a, rfl, q⟩
theorem g_intB {k : Bool} (q : Q (.int (if k then 1 else 0)) H) : rInt [.bl k] H Q := Or.inr ⟨k, rfl, q⟩
theorem g_lenS {z : Str} (h : z.length ≤ sizeLine) (q : Q (.int z.length) H) : rLen K [.str z] H Q := ⟨_, z.length, rfl, ⟨h, rfl⟩, q⟩
theorem g_lenL {p : Addr} {xs : List V} (h : SqL K H p xs) (q : Q (.int xs.length) H) : rLen K [.ref p] H Q := ⟨_, xs.length, rfl, Or.inl ⟨xs, h, rfl⟩, q⟩
theorem g_lenT {p : Addr} {xs : List V} (h : SqT K H p xs) (q : Q (.int xs.length) H) : rLen K [.ref p] H Q := ⟨_, xs.length, rfl, Or.inr ⟨xs, h, rfl⟩, q⟩
theorem g_max {a b : Int} (q : Q (.int (if b > a then b else a)) H) : rMax [.int a, .int b] H Q := ⟨a, b, rfl, q⟩
theorem g_min {a b : Int} (q : Q (.int (if b < a then b else a)) H) : rMin [.int a, .int b] H Q := ⟨a, b, rfl, q⟩
theorem g_ixL {p : Addr} {xs : List V} {k : Int} (h : SqL K H p xs) (e : atI xs k = some v) (q : Q v H) : rIxL K (.ref p) (.int k) H Q := ⟨p, xs, k, v, rfl, rfl, h, e, q⟩
theorem g_ixT {p : Addr} {xs : List V} {k : Int} (h : SqT K H p xs) (e : atI xs k = some v) (q : Q v H) : rIxT K (.ref p) (.int k) H Q := ⟨p, xs, k, v, rfl, rfl, h, e, q⟩
theorem g_ixS {z : Str} {k : Int} {cp : Nat} (h : z.length ≤ sizeLine) (e : atI z.cps.toList k = some cp) (q : Q (.str ⟨#[cp]⟩) H) : rIxS (.str z) (.int k) H Q := ⟨z, k, cp, rfl, rfl, h, e, q⟩
theorem g_repr {d : PyData} (hd : Dp K H x d) (sh : d.showable = true) (nd : d.hasDict = false) (dp : d.depth ≤ 60) (sz : d.shown.length ≤ sizeLine) (q : Q (.str d.shown) H) : rRepr K [x] H Q := ⟨x, d, rfl, hd, sh, nd, dp, sz, q⟩
theorem g_isi {c : V} {ty k : Value} (kc : ClsV c k) (tx : TyX K H x ty) (e : PySem.W.kitOne K ty k = some b) (q : Q (.bl b) H) : rIsi K [x, c] H Q := ⟨x, c, ty, k, b, rfl, kc, tx, e, q⟩
/-! statements -/
theorem s_seq (q : ts { D with nx := ts2 D } σ H) : tSeq ts ts2 D σ H := q
theorem s_next (q : D.nx σ H) : tNext D σ H := q
theorem s_brk (q : D.bk σ H) : tBreak D σ H := q
theorem s_cont (q : D.ct σ H) : tCont D σ H := q
theorem s_drop (q : te σ H fun _ H1 => D.nx σ H1) : tDrop te D σ H := q
theorem s_ret (q : te σ H D.rt) : tRet te D σ H := q
theorem s_retN (q : D.rt .non H) : tRetN D σ H := q
theorem s_if (q : c σ H fun b H1 => if b = true then ts D σ H1 else ts2 D σ H1) : tIfS c ts ts2 D σ H := q
theorem s_asg (q : te σ H fun x H1 => g x σ H1 D.nx) : tAsg te g D σ H := q
theorem s_name {N : St → Hp → Prop} (q : N (σ.set i (some v)) H) : gName i v σ H N := q
theorem s_sub {to ti : TE} {t : TSet} {N : St → Hp → Prop} (q : to σ H fun o H1 => ti σ H1 fun i H2 => t o i v H2 fun H3 => N σ H3) : gSub to ti t v σ H N := q
theorem s_setL {p : Addr} {xs : List V} {k : Int} {j : Nat} {N : Hp → Prop} (h : H p = some (.lst xs)) (e : ixN xs.length k = some j) (q : N (upd H p (.lst (xs.set j v)))) : rSetL (.ref p) (.int k) v H N := ⟨p, xs, k, j, rfl, rfl, h, e, q⟩
theorem s_append {p : Addr} {xs : List V} (h : H p = some (.lst xs)) (l : xs.length < sizeLine) (q : Q .non (upd H p (.lst (xs ++ [v])))) : rAppend (.ref p) [v] H Q := ⟨p, xs, v, rfl, rfl, h, l, q⟩
theorem g_BM {T : String} {r : V → List V → Hp → VK → Prop} (q : ta σ H fun x H1 => tyV K T x H1 ∧ tas σ H1 fun xs H2 => r x xs H2 Q) : tBM K T r ta tas σ H Q := q
theorem g_M1 {r : V → List V → Hp → VK → Prop} (q : ta σ H fun x H1 => (∃ a, x = .str a) ∧ tb σ H1 fun y H2 => r x [y] H2 Q) : tM1 r ta tb σ H Q := q
theorem g_str {s : Str} {A : Prop} (q : A) : (∃ a, V.str s = .str a) ∧ A := ⟨⟨s, rfl⟩, q⟩
theorem g_sl {r : V → Option Int → Option Int → Hp → VK → Prop} {tl th : TO} (q : ta σ H fun x H1 => tl σ H1 fun l H2 => th σ H2 fun u H3 => r x l u H3 Q) : tSl r ta tl th σ H Q := q
theorem g_noPart {N : Option Int → Hp → Prop} (q : N none H) : tNoPart σ H N := q
theorem g_part {N : Option Int → Hp → Prop} (q : ta σ H fun x H1 => ∃ i, x = .int i ∧ N (some i) H1) : tPart ta σ H N := q
theorem g_ex {N : Int → Prop} {a : Int} (q : N a) : ∃ i, V.int a = .int i ∧ N i := ⟨a, rfl, q⟩
theorem g_slS {z : Str} {l h : Option Int} (hz : z.length ≤ sizeLine) (q : Q (.str (cutS z l h)) H) : rSlS (.str z) l h H Q := ⟨z, rfl, hz, q⟩
theorem g_true {A B : Prop} (q : A) : if true = true then A else B := by
  rw [if_pos rfl]
  exact q
theorem g_false {A B : Prop} (q : B) : if false = true then A else B := by
  rw [if_neg Bool.false_ne_true]
  exact q
theorem g_yes {c A B : Prop} [Decidable c] (h : c) (q : A) : if decide c = true then A else B := by
  rw [decide_eq_true h, if_pos rfl]
  exact q
theorem g_no {c A B : Prop} [Decidable c] (h : ¬ c) (q : B) : if decide c = true then A else B := by
  rw [decide_eq_false h, if_neg Bool.false_ne_true]
  exact q
theorem g_two {c A B : Prop} [Decidable c] (h1 : c → A) (h2 : ¬ c → B) : if decide c = true then A else B := by
  by_cases h : c
  · exact g_yes h (h1 h)
  · exact g_no h (h2 h)
theorem g_way {c : Bool} {A B : Prop} (h1 : c = true → A) (h2 : c = false → B) : if c = true then A else B := by
  cases c with
  | true => exact g_true (h1 rfl)
  | false => exact g_false (h2 rfl)
end
end Jg
namespace Jg
open PySem PySem.Spec L2
/-! ### the bag of draws -/
/-- a bag stands at p: what is left of the cell, its rest, how many were mixed, n at most -/
def Bg (H : Hp) (p : Addr) (n : Nat) : Prop := ∃ a b c : Int, H p = some (.lst [.int a, .int b, .int c]) ∧ 0 ≤ b ∧ b < 2147483629 ∧ 0 ≤ c ∧ c ≤ (n : Int)
theorem Bg.mono {H : Hp} {p : Addr} {n m : Nat} (B : Bg H p n) (h : n ≤ m) : Bg H p m := by
  obtain ⟨a, b, c, e, h1, h2, h3, h4⟩ := B
  exact ⟨a, b, c, e, h1, h2, h3, by omega⟩
/-- all but the bag is as it was -/
def Mv (p : Addr) (H H' : Hp) : Prop := ∀ b o, b ≠ p → H b = some o → H' b = some o
theorem Mv.refl (p : Addr) (H : Hp) : Mv p H H := fun _ _ _ h => h
theorem Mv.trans {p : Addr} {H H1 H2 : Hp} (a : Mv p H H1) (b : Mv p H1 H2) : Mv p H H2 := fun x o hx h => b x o hx (a x o hx h)
theorem Mv.upd (p : Addr) (H : Hp) (o : HO) : Mv p H (upd H p o) := fun b u hb h => by
  rw [upd_ne hb]
  exact h
theorem Mv.new {p q : Addr} {H : Hp} {o : HO} (h : H q = none) : Mv p H (L2.upd H q o) := fun b u hb e => by
  rw [upd_ne (ne_of_none e h)]
  exact e
theorem Bg.some {H : Hp} {p : Addr} {n : Nat} (B : Bg H p n) : ∃ o, H p = some o := by
  obtain ⟨a, b, c, e, _⟩ := B
  exact ⟨_, e⟩
theorem Bg.ne {H : Hp} {p q : Addr} {n : Nat} (B : Bg H p n) (h : H q = none) : q ≠ p := by
  obtain ⟨o, e⟩ := B.some
  exact (ne_of_none e h).symm
theorem Bg.new {H : Hp} {p q : Addr} {n : Nat} {o : HO} (B : Bg H p n) (h : H q = none) : Bg (L2.upd H q o) p n := by
  obtain ⟨a, b, c, e, r⟩ := B
  exact ⟨a, b, c, by rw [upd_ne (ne_of_none e h)]; exact e, r⟩
theorem Bg.off {H : Hp} {p q : Addr} {n : Nat} {o : HO} (B : Bg H p n) (h : q ≠ p) : Bg (L2.upd H q o) p n := by
  obtain ⟨a, b, c, e, r⟩ := B
  exact ⟨a, b, c, by rw [upd_ne h.symm]; exact e, r⟩
/-- what is free behind was free ahead -/
theorem Mv.free {p q : Addr} {H H' : Hp} {n : Nat} (m : Mv p H H') (B : Bg H' p n) (h : H' q = none) : H q = none := by
  have hq := B.ne h
  cases e : H q with
  | none => rfl
  | some o =>
    rw [m q o hq e] at h
    cases h
theorem Mv.sq {K : PySem.W.Frag} {p q : Addr} {H H' : Hp} {xs : List V} {n : Nat} (m : Mv p H H') (hq : q ≠ p) (h : SqL K H q xs) : SqL K H' q xs := by
  rcases h with (h | ⟨o, h⟩) | h
  · exact Or.inl (Or.inl (m _ _ hq h))
  · exact Or.inl (Or.inr ⟨o, m _ _ hq h⟩)
  · exact Or.inr h
end Jg
namespace Jg
open PySem PySem.Spec L2
/-! ### loops and comprehensions -/
/-- what a comprehension asks once its source stands -/
def lcB (g : TG) (tt : TT) (te : TE) (vs : List Nat) (σ : L2.St) (Q : VK) : It → Hp → Prop := fun J H1 => ∀ D, H1 D = none → ∃ W : Nat → Nat → Hp → Prop, (∃ m, W 0 m (upd H1 D (.lst []))) ∧ ∀ i m H, W i m H →
  (J.stop i H ∧ Q (.ref D) H) ∨ (J.go i H ∧ ∃ Nx : Hp → Prop, (∀ H', Nx H' → ∃ m', m' < m ∧ W (i + 1) m' H') ∧ ∀ x H', J.yld i H x H' → g x (wipe σ vs) H' fun σ2 H2 => wipe σ2 vs = wipe σ vs ∧ tt σ2 H2 fun b H3 =>
    if b = true then te σ2 H3 fun y H4 => ∃ acc, H4 D = some (.lst acc) ∧ acc.length < sizeLine ∧ Nx (upd H4 D (.lst (acc ++ [y]))) else Nx H3)
/-- what a for asks -/
def forB (g : TG) (tb : TS) (D : Ends) (σ : L2.St) : It → Hp → Prop := fun J H1 => ∃ W : Nat → Nat → L2.St → Hp → Prop, (∃ m, W 0 m σ H1) ∧ ∀ i m σ H, W i m σ H →
  (J.stop i H ∧ D.nx σ H) ∨ (J.go i H ∧ ∃ N : L2.St → Hp → Prop, (∀ σ' H', N σ' H' → ∃ m', m' < m ∧ W (i + 1) m' σ' H') ∧ ∀ x H', J.yld i H x H' → g x σ H' fun σ2 H2 => tb { D with nx := N, ct := N, bk := D.nx } σ2 H2)
section
variable {σ : L2.St} {H : Hp} {Q : VK} {D : Ends} {wi : TI} {g : TG} {tt : TT} {te : TE} {vs : List Nat} {tb : TS} {ta : TA} {tl : TE} {R : It → Hp → Prop} {K : PySem.W.Frag} {i : Nat}
theorem g_lc (q : wi σ H (lcB g tt te vs σ Q)) : tLc wi g tt te vs σ H Q := q
theorem s_for (q : wi σ H (forB g tb D σ)) : tFor wi g tb D σ H := q
theorem g_rng1 (q : ta σ H fun vs H1 => ∃ j : Int, vs = [.int j] ∧ -(2 ^ 62) ≤ j ∧ j < 2 ^ 62 ∧ R (Itr 0 j.toNat) H1) : iRng1 ta σ H R := q
theorem g_rngN {j : Int} (h : 0 ≤ j ∧ j < 2 ^ 62) (q : R (Itr 0 j.toNat) H) : ∃ j' : Int, [V.int j] = [.int j'] ∧ -(2 ^ 62) ≤ j' ∧ j' < 2 ^ 62 ∧ R (Itr 0 j'.toNat) H := ⟨j, rfl, by omega, h.2, q⟩
theorem g_iList (q : tl σ H fun x H1 => ∃ a, x = .ref a ∧ (∃ xs, SqL K H1 a xs) ∧ R (Itl K a) H1) : iList K tl σ H R := q
theorem g_iTup (q : tl σ H fun x H1 => ∃ a, x = .ref a ∧ (∃ xs, SqT K H1 a xs) ∧ R (Itt K a) H1) : iTup K tl σ H R := q
theorem g_itl {a : Addr} {xs : List V} (h : SqL K H a xs) (q : R (Itl K a) H) : ∃ a', V.ref a = .ref a' ∧ (∃ xs, SqL K H a' xs) ∧ R (Itl K a') H := ⟨a, rfl, ⟨xs, h⟩, q⟩
theorem g_itt {a : Addr} {xs : List V} (h : SqT K H a xs) (q : R (Itt K a) H) : ∃ a', V.ref a = .ref a' ∧ (∃ xs, SqT K H a' xs) ∧ R (Itt K a') H := ⟨a, rfl, ⟨xs, h⟩, q⟩
theorem g_iStr (q : tl σ H fun v H1 => ∃ x, v = .str x ∧ R (Its x) H1) : iStr tl σ H R := q
theorem g_its {z : Str} (q : R (Its z) H) : ∃ x, V.str z = .str x ∧ R (Its x) H := ⟨z, rfl, q⟩
theorem g_tyes {B : Bool → Hp → Prop} (q : B true H) : tYes σ H B := q
/-- [f x for x in xs], f without a trace: a new list of what comes -/
theorem lc_pure {a : Addr} {xs : List V} (f : V → V) (sq : SqL K H a xs) (hn : xs.length < sizeLine) (wv : ∀ x, wipe ((wipe σ [i]).set i (some x)) [i] = wipe σ [i])
    (hs : ∀ x ∈ xs, ∀ (H2 : Hp) (R : VK), Same H H2 → R (f x) H2 → te ((wipe σ [i]).set i (some x)) H2 R)
    (q : ∀ D, H D = none → Q (.ref D) (upd H D (.lst (xs.map f)))) : lcB (gName i) tYes te [i] σ Q (Itl K a) H := by
  intro D hD
  refine lc_list (xs := xs) (fun j H2 => H2 = upd H D (.lst ((xs.take j).map f))) (by rw [List.take_zero, List.map_nil]) ?_ ?_ ?_
  · rintro j H2 hj rfl
    rcases sq with (h | ⟨o, h⟩) | h
    · exact Or.inl (Or.inl (by rw [upd_ne (ne_of_none h hD)]; exact h))
    · exact Or.inl (Or.inr ⟨o, by rw [upd_ne (ne_of_none h hD)]; exact h⟩)
    · exact Or.inr h
  · rintro j x H2 hx rfl
    refine ⟨wv x, ?_⟩
    with_reducible refine g_tyes ?_
    with_reducible refine g_true ?_
    refine hs x (List.mem_of_getElem? hx) _ _ (fun b o e => by rw [upd_ne (ne_of_none e hD)]; exact e) ?_
    refine ⟨_, upd_same, ?_, ?_⟩
    · rw [List.length_map]
      exact Nat.lt_of_le_of_lt (List.length_take_le' _ _) hn
    · rw [upd_upd, List.take_add_one, hx, List.map_append]
      rfl
  · rintro H2 rfl
    rw [List.take_length]
    exact q D hD
/-- [f(bag) for k in range(n)]: the bag stands at p, each draw at most c -/
theorem lc_draw {p : Addr} {n b0 c : Nat} (E : V → Prop) (hn : n < sizeLine) (B : Bg H p b0) (wv : ∀ x, wipe ((wipe σ [i]).set i (some x)) [i] = wipe σ [i])
    (hs : ∀ (j : Nat) (H2 : Hp) (R : VK), j < n → Bg H2 p (b0 + j * c) → Mv p H H2 → (∀ y H3, E y → Bg H3 p (b0 + (j + 1) * c) → Mv p H2 H3 → R y H3) → te ((wipe σ [i]).set i (some (.int (0 + (j : Nat))))) H2 R)
    (q : ∀ D H' ys, H D = none → D ≠ p → ys.length = n → (∀ y ∈ ys, E y) → H' D = some (.lst ys) → Bg H' p (b0 + n * c) → Mv p H H' → Q (.ref D) H') : lcB (gName i) tYes te [i] σ Q (Itr 0 n) H := by
  intro D hD
  have nD := B.ne hD
  refine lc_range (lo := 0) (n := n) (fun j H2 => ∃ ys, ys.length = j ∧ (∀ y ∈ ys, E y) ∧ H2 D = some (.lst ys) ∧ Bg H2 p (b0 + j * c) ∧ Mv p H H2) ⟨[], rfl, by simp, upd_same, by simpa using B.new hD, Mv.new hD⟩ ?_ ?_
  · rintro j H2 hj ⟨ys, l, he, hd, B2, m⟩
    refine ⟨wv _, ?_⟩
    with_reducible refine g_tyes ?_
    with_reducible refine g_true ?_
    refine hs j H2 _ hj B2 m ?_
    intro y H3 ey B3 m3
    refine ⟨ys, m3 _ _ nD hd, by omega, ys ++ [y], by rw [List.length_append, l]; rfl, ?_, upd_same, B3.off nD, ?_⟩
    · intro z hz
      rcases List.mem_append.mp hz with h | h
      · exact he z h
      · rw [List.mem_singleton.mp h]
        exact ey
    · intro b o hb e
      rw [upd_ne (ne_of_none e hD)]
      exact m3 b o hb (m b o hb e)
  · rintro H2 ⟨ys, l, he, hd, B2, m⟩
    exact q D H2 ys hD nD l he hd B2 m
end
/-! ### signs -/
def rInC : R2 := fun x y H Q => ∃ c z, x = .str ⟨#[c]⟩ ∧ y = .str z ∧ Q (.bl (decide (c ∈ z.cps.toList))) H
theorem op_inC {X : Cx} : OpR X (compareOp .In) rInC := op_in_sign
theorem g_inC {H : Hp} {Q : VK} {c : Nat} {x z : Str} (e : x = ⟨#[c]⟩) (q : Q (.bl (decide (c ∈ z.cps.toList))) H) : rInC (.str x) (.str z) H Q := ⟨c, z, by rw [e], rfl, q⟩
def rInL (K : PySem.W.Frag) : R2 := rIn K false
theorem op_inL {X : Cx} {K : PySem.W.Frag} (hK : X.K = K := by rfl) : OpR X (compareOp .In) (rInL K) := by
  subst hK
  exact op_in_seq
theorem g_inL {K : PySem.W.Frag} {H : Hp} {Q : VK} {x : V} {p : Addr} {xs : List V} (h : SqL K H p xs) (fx : flatV x = true) (fs : xs.all flatV = true) (q : Q (.bl (inV x xs)) H) : rInL K x (.ref p) H Q := ⟨p, xs, rfl, Or.inl h, fx, fs, q⟩
def rAnyB (K : PySem.W.Frag) : List V → Hp → VK → Prop := fun xs H Q => ∃ (a : Addr) (bs : List Bool), xs = [.ref a] ∧ SqL K H a (bs.map V.bl) ∧ Q (.bl (bs.any id)) H
theorem call_any {X : Cx} {K : PySem.W.Frag} (hc : X.calm = true) (hK : X.K = K := by rfl) : CallR X (.builtin "any") (rAnyB K) := by
  subst hK
  exact cr_any hc
def rAllB (K : PySem.W.Frag) : List V → Hp → VK → Prop := fun xs H Q => ∃ (a : Addr) (bs : List Bool), xs = [.ref a] ∧ SqL K H a (bs.map V.bl) ∧ Q (.bl (bs.all id)) H
theorem call_all {X : Cx} {K : PySem.W.Frag} (hc : X.calm = true) (hK : X.K = K := by rfl) : CallR X (.builtin "all") (rAllB K) := by
  subst hK
  exact cr_all hc
theorem g_any {K : PySem.W.Frag} {H : Hp} {Q : VK} {a : Addr} {bs : List Bool} (h : SqL K H a (bs.map V.bl)) (q : Q (.bl (bs.any id)) H) : rAnyB K [.ref a] H Q := ⟨a, bs, rfl, h, q⟩
theorem g_all {K : PySem.W.Frag} {H : Hp} {Q : VK} {a : Addr} {bs : List Bool} (h : SqL K H a (bs.map V.bl)) (q : Q (.bl (bs.all id)) H) : rAllB K [.ref a] H Q := ⟨a, bs, rfl, h, q⟩
theorem g_join {K : PySem.W.Frag} {H : Hp} {Q : VK} {a : Str} {p : Addr} {ys : List Str} (h : SqL K H p (ys.map V.str)) (l : (ys.map (·.length)).sum + ys.length * a.length ≤ 16777216) (q : Q (.str (Txt.join a ys)) H) : rJoin K (.str a) [.ref p] H Q := ⟨a, p, ys, rfl, rfl, Or.inl h, l, q⟩
theorem g_split {H : Hp} {Q : VK} {a b : Str} (hb : (b.length == 0) = false) (l : a.length + 2 ≤ sizeLine) (q : ∀ p, H p = none → Q (.ref p) (upd H p (.lst ((Txt.split a b).map V.str)))) : rSplit (.str a) [.str b] H Q := ⟨a, b, rfl, rfl, hb, l, q⟩
theorem g_sz {xs : List V} {A : Prop} (h : xs.length ≤ sizeLine) (q : A) : xs.length ≤ sizeLine ∧ A := ⟨h, q⟩
theorem g_dnew {σ : L2.St} {H : Hp} {Q : VK} (q : ∀ p, H p = none → Q (.ref p) (upd H p (.dK []))) : tDNewK σ H Q := q
/-- {'k': v}, both written -/
theorem g_disp1 {σ : L2.St} {H : Hp} {Q : VK} {k : Str} {v : V} (q : ∀ p, H p = none → Q (.ref p) (upd H p (.dK [(Sum.inr k, v)]))) : tDisp [(tC (.str k), tC v)] σ H Q := by
  intro p hp
  refine ⟨upd_same, [(Sum.inr k, v)], rfl, Nat.le_of_ble_eq_true rfl, ?_⟩
  rw [upd_upd]
  exact q p hp
theorem ne_new {H : Hp} {a b : Addr} {o : HO} (h' : H b = none) (h : H a = some o) : a ≠ b := ne_of_none h h'
theorem atI_mem {xs : List V} {z : Int} (h0 : 0 ≤ z) (h1 : z < xs.length) : ∃ v ∈ xs, atI xs z = some v := by
  have hl : z.toNat < xs.length := by omega
  refine ⟨xs[z.toNat], List.getElem_mem hl, ?_⟩
  unfold atI ixN
  rw [if_pos h0, if_pos h1]
  show xs[z.toNat]? = _
  exact List.getElem?_eq_getElem hl
theorem atI_nat {α : Type} {xs : List α} {z : Int} (h0 : 0 ≤ z) (h1 : z < xs.length) : ∃ h : z.toNat < xs.length, atI xs z = some (xs[z.toNat]'h) := by
  have hl : z.toNat < xs.length := by omega
  refine ⟨hl, ?_⟩
  unfold atI ixN
  rw [if_pos h0, if_pos h1]
  exact List.getElem?_eq_getElem hl
theorem upd_keep {H : Hp} {a b : Addr} {o u : HO} (h' : H b = none) (h : H a = some o) : upd H b u a = some o := by
  rw [upd_ne (ne_of_none h h')]
  exact h
theorem mv_new {p q : Addr} {H0 H : Hp} {o : HO} (h : H q = none) (m : Mv p H0 H) : Mv p H0 (upd H q o) := m.trans (Mv.new h)
theorem ix_draw {K : PySem.W.Frag} {H : Hp} {l : Addr} {xs : List V} {z m : Int} (sq : H l = some (.lst xs)) (h0 : 0 ≤ z) (h1 : z < m) (hm : m = xs.length) : ∃ v ∈ xs, ∀ Q : VK, Q v H → rIxL K (.ref l) (.int z) H Q := by
  obtain ⟨v, hv, e⟩ := atI_mem h0 (by omega : z < xs.length)
  exact ⟨v, hv, fun Q q => g_ixL (Or.inl (Or.inl sq)) e q⟩
theorem g_nt {A B : Prop} (q : B) : if (!true) = true then A else B := by
  show if false = true then A else B
  rw [if_neg Bool.false_ne_true]
  exact q
theorem g_nf {A B : Prop} (q : A) : if (!false) = true then A else B := by
  show if true = true then A else B
  rw [if_pos rfl]
  exact q
theorem g_U {g : Int → V} {a : Int} {H : Hp} {Q : VK} (q : Q (g a) H) : rU g (.int a) H Q := ⟨a, rfl, q⟩
theorem ne_bag {H : Hp} {p q : Addr} {n : Nat} (h : H q = none) (B : Bg H p n) : q ≠ p := B.ne h
/-- two ways of one test on texts -/
theorem g_txt {x y : Str} {A B : Prop} (h1 : x = y → A) (h2 : x ≠ y → B) : if decide (V.str x = V.str y) = true then A else B := by
  by_cases e : x = y
  · exact g_yes (by rw [e]) (h1 e)
  · exact g_no (fun z => e (by cases z; rfl)) (h2 e)
theorem g_int2 {x y : Int} {A B : Prop} (h1 : x = y → A) (h2 : x ≠ y → B) : if decide (V.int x = V.int y) = true then A else B := by
  by_cases e : x = y
  · exact g_yes (by rw [e]) (h1 e)
  · exact g_no (fun z => e (by cases z; rfl)) (h2 e)

/-- a conditional expression by what both ways give -/
theorem g_cutIf {t : TT} {ta tb : TE} {σ : L2.St} {H : Hp} {Q : VK} (R : V → Hp → Prop) (h : ∀ Q : VK, (∀ v H', R v H' → Q v H') → tIf t ta tb σ H Q) (q : ∀ v H', R v H' → Q v H') : tIf t ta tb σ H Q := h Q q
theorem g_same {x : V} {A B : Prop} (q : B) : if (!decide (x = x)) = true then A else B := by
  rw [decide_eq_true rfl]
  exact g_nt q
theorem g_diff {x y : V} {A B : Prop} (h : x ≠ y) (q : A) : if (!decide (x = y)) = true then A else B := by
  rw [decide_eq_false h]
  exact g_nf q
theorem sq_same {K : PySem.W.Frag} {H H' : Hp} {a : Addr} {xs : List V} (s : Same H H') (h : SqL K H a xs) : SqL K H' a xs := s.seq h
end Jg
namespace Jg
open PySem PySem.Spec PyProof.Rows L2
/-! ### (l + r).replace(y, [z1, z2][i]) -/
def tReplIx (ta : TE) (m : Str) (tr : TE) (y z1 z2 : Str) (ti : TE) : TE := fun σ H Q => tOp rAddS ta (tC (.str m)) σ H fun a H1 => tr σ H1 fun b H2 => ∃ i j : Str, a = .str i ∧ b = .str j ∧ i.length + j.length ≤ 1000000 ∧
  ∀ (p : Addr) (o : Obj), H2 p = none → ti σ (upd H2 p (.frz o (.lst [.str z1, .str z2]))) fun w H3 => H3 p = some (.frz o (.lst [.str z1, .str z2])) ∧ ∃ k : Nat, w = .int (k : Int) ∧ k < 2 ∧
    ∀ z, (z = z1 ∨ z = z2) → Q (.str (Txt.replace (i ++ j) y z)) H3
theorem g_replIx {ta : TE} {m : Str} {tr : TE} {y z1 z2 : Str} {ti : TE} {σ : L2.St} {H : Hp} {Q : VK} (q : tOp rAddS ta (tC (.str m)) σ H fun a H1 => tr σ H1 fun b H2 => ∃ i j : Str, a = .str i ∧ b = .str j ∧ i.length + j.length ≤ 1000000 ∧
  ∀ (p : Addr) (o : Obj), H2 p = none → ti σ (upd H2 p (.frz o (.lst [.str z1, .str z2]))) fun w H3 => H3 p = some (.frz o (.lst [.str z1, .str z2])) ∧ ∃ k : Nat, w = .int (k : Int) ∧ k < 2 ∧
    ∀ z, (z = z1 ∨ z = z2) → Q (.str (Txt.replace (i ++ j) y z)) H3) : tReplIx ta m tr y z1 z2 ti σ H Q := q
/-- what the written part tells of the statics' space: no reader has booked a token -/
theorem noneBooked {K : PySem.W.Frag} {h : Heap} (kin : K.In h) (lim : h.NoLimit) (e : PySem.W.nsIn K cStatics sharingNotToldKey = some none) : NoneBooked h := by
  obtain ⟨mc, ns, _⟩ := lim
  refine ⟨mc, ns, ?_⟩
  obtain ⟨o, es, ep, ho, hd, _, look⟩ := ns
  unfold PySem.W.nsIn at e
  split at e
  case h_1 _ q =>
    have same := kin _ _ q
    rw [ho] at same
    cases same
    cases hd
    split at e
    case h_1 => cases e
    case h_2 he =>
      rw [← look]
      unfold nsFind findBy
      rw [← Array.find?_toList, he]
      rfl
  case h_2 => cases e
section
variable {X : Cx} {a r ei : Expr} {ta tr ti : TE} {m y z1 z2 : Str} {cm c j1 j2 : Nat} {cp c0 c1 c2 lp sp ap bp apos pos : Pos} {pins : List (Addr × Obj)} {s : Shared} {σ : L2.St} {H : Hp} {Q : VK}
/-- a + a written text: a token is out behind it -/
theorem run_addC (ha : PE X a ta) (I : L2.Inv X pins σ H s) (h : tOp rAddS ta (tC (.str m)) σ H Q) :
    wpAny (model X.prog X.w) X.A (eval (.BinOp a .Add (.Constant (.str m) cm cp) ap) X.env) (fun v s' => 1 ≤ s'.toks ∧ EP X pins σ Q v s') X.xe s := by
  refine wpAny_BinOp (thn (ha.run pins s σ H _ I h) ?_)
  rintro v s1 ⟨x, H1, I1, rx, q⟩
  refine Calls.Constant_str ?_
  refine wpAny_mono (PySem.wpAny_toks (op_addS pins _ σ H1 x (.str m) v _ Q (I1.tok _) rx ⟨_, rfl⟩ q)) ?_ (fun _ _ z => z.2)
  rintro u s2 ⟨le, e⟩
  exact ⟨Nat.le_trans (by omega : 1 ≤ s1.toks + 1) le, e⟩
theorem pe_replIx (ha : PE X a ta) (hr : PE X r tr) (hi : PE X ei ti) (l1 : z1.length ≤ 1) (l2 : z2.length ≤ 1)
    (nb : PySem.W.nsIn X.K cStatics sharingNotToldKey = some none) (hs : PlainIx ei)
    (hst : starEach [.Constant (.str y) c c0, .Subscript (.List [.Constant (.str z1) j1 c1, .Constant (.str z2) j2 c2] lp) ei sp] X.env =
      [(false, eval (.Constant (.str y) c c0) X.env), (false, eval (.Subscript (.List [.Constant (.str z1) j1 c1, .Constant (.str z2) j2 c2] lp) ei sp) X.env)] := by rfl)
    (hbase : attributeBase (.BinOp (.BinOp a .Add (.Constant (.str m) cm cp) ap) .Add r bp) "replace" X.env (eval (.BinOp (.BinOp a .Add (.Constant (.str m) cm cp) ap) .Add r bp) X.env) = eval (.BinOp (.BinOp a .Add (.Constant (.str m) cm cp) ap) .Add r bp) X.env := by rfl) (hline : (apos.endLine == pos.line) = true := by rfl) :
    PE X (.Call (.Attribute (.BinOp (.BinOp a .Add (.Constant (.str m) cm cp) ap) .Add r bp) "replace" apos) [.Constant (.str y) c c0, .Subscript (.List [.Constant (.str z1) j1 c1, .Constant (.str z2) j2 c2] lp) ei sp] [] pos) (tReplIx ta m tr y z1 z2 ti) := by
  constructor
  intro pins s σ H Q I h
  refine PySem.Call_method2 hbase hst hline (wpAny_BinOp (wpAny_mono (run_addC ha I h) ?_ (fun _ _ z => z)))
  rintro v s1 ⟨k1, av, H1, I1, ra, q1⟩
  refine wpAny_mono (PySem.wpAny_toks (hr.run pins s1 σ H1 _ I1 q1)) ?_ (fun _ _ z => z.2)
  rintro u s2 ⟨k2, bv, H2, I2, rb, i, j, rfl, rfl, len, q⟩
  obtain ⟨t, rfl⟩ := ra
  obtain ⟨t', rfl⟩ := rb
  have fit : i.length + j.length ≤ sizeLine := Nat.le_trans len (by decide)
  refine wpAny_mono (PySem.wpAny_toks (add_str (Q := fun v s' => ∃ t tk, v = Value.str (i ++ j) t ∧ s' = { s2 with toks := tk }) (fun t tk => ⟨t, tk, rfl, rfl⟩) fit)) ?_ (fun _ _ z => z.2)
  rintro w s3 ⟨k3, tw, tk, rfl, rfl⟩
  have pos3 : 1 ≤ tk := Nat.le_trans (Nat.le_trans k1 k2) k3
  refine ⟨"str", _, PySem.F.plainAttrs_str, PySem.F.slot_str_replace, PySem.F.type_str_replace, typeIs_str _ _ _, (fun _ e => nomatch e), Calls.callWith_builtin rfl (Calls.evalArgs_plain (Calls.spliced_cons ?_))⟩
  refine Calls.Constant_str (Calls.spliced_cons ?_)
  refine Subscript_ (wpAny_List_spliced ?_)
  show wpAny _ _ (spliced ((false, eval (.Constant (.str z1) j1 c1) X.env) :: backTo lp (starEach [.Constant (.str z2) j2 c2] X.env))) _ _ _
  refine Calls.spliced_cons (Calls.Constant_str ?_)
  show wpAny _ _ (spliced ((false, eval (.Constant (.str z2) j2 c2) X.env) :: backTo lp (starEach [] X.env))) _ _ _
  refine Calls.spliced_cons (Calls.Constant_str (Calls.spliced_nil ?_))
  have h2 : (2 : Nat) ≤ sizeLine := by decide
  refine ⟨h2, ?_⟩
  let o : Obj := { cls := .type "list", data := .seq #[.str z1 (tk + 1), .str z2 (tk + 1 + 1)] 0 }
  have fresh : H2 s2.heap.objs.size = none := I2.hok.fresh (Nat.le_refl _)
  have ok : ObjOk X.prog X.w (upd H2 s2.heap.objs.size (.frz o (.lst [.str z1, .str z2]))) (s2.heap.push o) s2.heap.objs.size (.frz o (.lst [.str z1, .str z2])) :=
    ⟨Heap.get?_push_size _ rfl, h2, [.str z1 _, .str z2 _], 0, .cons ⟨_, rfl⟩ (.cons ⟨_, rfl⟩ .nil), Heap.get?_push_size _ rfl⟩
  have I3 := I2.laid (a := s2.heap.objs.size) (t' := tk + 1 + 1 + 1) (fun b u e => Heap.get?_push_of_some _ e) (Nat.le_refl _) ok
  refine wpAny_mono (hi.run pins _ σ _ _ I3 (q _ o fresh)) ?_ (fun _ _ z => z)
  rintro iv s4 ⟨kv, H4, I4, r4, at4, k, rfl, hk, q4⟩
  obtain ⟨tki, rfl⟩ := r4
  obtain ⟨here, _⟩ := I4.hok _ _ at4
  have isl : s4.heap.IsList s2.heap.objs.size #[.str z1 (tk + 1), .str z2 (tk + 1 + 1)] := ⟨o, here, rfl, 0, rfl⟩
  have rep : ∀ (z : Str) (tz : Nat), z.length ≤ 1 → (z = z1 ∨ z = z2) → tz ≠ 0 → tk ≠ tz → wpAny (model X.prog X.w) X.A (spliced []) (fun vs s₁ => wpAny (model X.prog X.w) X.A (call (.builtin "str.replace") (.str (i ++ j) tw :: .str y tk :: .str z tz :: vs)) (EP X pins σ Q) X.xe s₁) X.xe s4 := by
    intro z tz lz ez nz dz
    refine Calls.spliced_nil ?_
    refine PySem.SC.replaceA (show tk ≠ 0 from Nat.pos_iff_ne_zero.mp pos3) nz dz ?_ (fun t' k => ⟨.str (Txt.replace (i ++ j) y z), H4, I4.tok k, ⟨t', rfl⟩, q4 z ez⟩) (noneBooked I4.kIn I4.nolimit nb)
    have el : (i ++ j).length = i.length + j.length := by rw [TL.len_tl, TL.tl_append, List.length_append, ← TL.len_tl, ← TL.len_tl]
    rw [el]
    have : (i.length + j.length + 1) * z.length ≤ (i.length + j.length + 1) * 1 := Nat.mul_le_mul_left _ lz
    omega
  have hkk : k = 0 ∨ k = 1 := by omega
  rcases hkk with rfl | rfl
  · exact item_listR isl (by decide) (by decide) rfl (rep z1 _ l1 (Or.inl rfl) (by omega) (by omega)) (hs _ _)
  · exact item_listR isl (by decide) (by decide) rfl (rep z2 _ l2 (Or.inr rfl) (by omega) (by omega)) (hs _ _)
end
end Jg
namespace Jg
open PySem PySem.Spec L2
/-! ### texts -/
/-- a text of at most n signs, each a sign -/
def Sg (z : Str) (n : Nat) : Prop := z.length ≤ n ∧ ∀ c ∈ TL.tl z, c < 1114112
theorem Sg.mono {z : Str} {n m : Nat} (h : Sg z n) (l : n ≤ m) : Sg z m := ⟨Nat.le_trans h.1 l, h.2⟩
theorem Sg.app {x y : Str} {n m : Nat} (a : Sg x n) (b : Sg y m) : Sg (x ++ y) (n + m) := by
  constructor
  · rw [TL.len_tl, TL.tl_append, List.length_append, ← TL.len_tl, ← TL.len_tl]
    exact Nat.add_le_add a.1 b.1
  · intro c hc
    rw [TL.tl_append] at hc
    rcases List.mem_append.mp hc with h | h
    · exact a.2 c h
    · exact b.2 c h
theorem Sg.cut {z : Str} {n : Nat} (h : Sg z n) (lo hi : Option Int) : Sg (cutS z lo hi) n :=
  ⟨Nat.le_trans (cutS_length z lo hi) h.1, fun c hc => h.2 c (List.mem_of_mem_drop (List.mem_of_mem_take hc))⟩
theorem Sg.of {z : Str} {n : Nat} (h : (decide (z.length ≤ n) && (TL.tl z).all (fun c => decide (c < 1114112))) = true) : Sg z n := by
  rw [Bool.and_eq_true, List.all_eq_true] at h
  exact ⟨of_decide_eq_true h.1, fun c hc => of_decide_eq_true (h.2 c hc)⟩
theorem Sg.sign {z : Str} {n : Nat} {k : Int} {c : Nat} (h : Sg z n) (e : atI z.cps.toList k = some c) : Sg ⟨#[c]⟩ 1 := by
  refine ⟨Nat.le_refl _, fun d hd => ?_⟩
  have : d = c := by simpa [TL.tl] using hd
  subst this
  refine h.2 d ?_
  unfold atI at e
  cases q : ixN z.cps.toList.length k with
  | none =>
    rw [q] at e
    cases e
  | some j =>
    rw [q] at e
    exact List.mem_of_getElem? e
theorem mem_joinL {S : List Nat} {c : Nat} : ∀ {ps : List (List Nat)}, c ∈ TL.joinL S ps → c ∈ S ∨ ∃ p ∈ ps, c ∈ p
  | [], h => by cases h
  | [p], h => Or.inr ⟨p, List.mem_singleton.mpr rfl, h⟩
  | p :: q :: r, h => by
    rcases List.mem_append.mp (show c ∈ p ++ (S ++ TL.joinL S (q :: r)) from h) with h | h
    · exact Or.inr ⟨p, List.mem_cons_self, h⟩
    · rcases List.mem_append.mp h with h | h
      · exact Or.inl h
      · rcases mem_joinL h with h | ⟨x, hx, h⟩
        · exact Or.inl h
        · exact Or.inr ⟨x, List.mem_cons_of_mem _ hx, h⟩
theorem joinL_mem {S : List Nat} {c : Nat} : ∀ {ps : List (List Nat)} {p : List Nat}, p ∈ ps → c ∈ p → c ∈ TL.joinL S ps
  | [], _, h, _ => by cases h
  | [x], p, h, hc => by
    rw [List.mem_singleton.mp h] at hc
    exact hc
  | x :: y :: r, p, h, hc => by
    show c ∈ x ++ (S ++ TL.joinL S (y :: r))
    rcases List.mem_cons.mp h with e | h
    · rw [e] at hc
      exact List.mem_append_left _ hc
    · exact List.mem_append_right _ (List.mem_append_right _ (joinL_mem h hc))
theorem tl_tjoin (y : Str) (ps : List Str) : TL.tl (Txt.join y ps) = TL.joinL (TL.tl y) (ps.map TL.tl) := by
  rw [TL.join_eq, TL.tl_join]
theorem joinL_len {S : List Nat} {n : Nat} (hS : S.length ≤ 1) : ∀ {ps : List (List Nat)}, (∀ p ∈ ps, p.length ≤ n) → (TL.joinL S ps).length ≤ ps.length * (n + 1)
  | [], _ => Nat.zero_le _
  | [p], h => by
    have := h p (List.mem_singleton.mpr rfl)
    show p.length ≤ 1 * (n + 1)
    omega
  | p :: q :: r, h => by
    have h1 := h p List.mem_cons_self
    have h2 := joinL_len (S := S) hS (ps := q :: r) (fun x hx => h x (List.mem_cons_of_mem _ hx))
    show (p ++ (S ++ TL.joinL S (q :: r))).length ≤ (q :: r).length.succ * (n + 1)
    rw [List.length_append, List.length_append, Nat.succ_mul]
    omega
/-- joined texts -/
theorem Sg.join {y : Str} {ps : List Str} {n k : Nat} (hy : Sg y 1) (hl : ps.length ≤ k) (h : ∀ p ∈ ps, Sg p n) : Sg (Txt.join y ps) (k * (n + 1)) := by
  constructor
  · rw [TL.len_tl, tl_tjoin]
    have l := joinL_len (S := TL.tl y) (n := n) (ps := ps.map TL.tl) (by rw [← TL.len_tl]; exact hy.1) (fun p hp => by
      obtain ⟨z, hz, rfl⟩ := List.mem_map.mp hp
      rw [← TL.len_tl]
      exact (h z hz).1)
    rw [List.length_map] at l
    exact Nat.le_trans l (Nat.mul_le_mul_right _ hl)
  · intro c hc
    rw [tl_tjoin] at hc
    rcases mem_joinL hc with hc | ⟨p, hp, hc⟩
    · exact hy.2 c hc
    · obtain ⟨z, hz, rfl⟩ := List.mem_map.mp hp
      exact (h z hz).2 c hc
/-- the parts of a text -/
theorem Sg.split {z : Str} {n m : Nat} (h : Sg z n) (hm : m < 256) : ∀ p ∈ Txt.split z ⟨#[m]⟩, Sg p n := by
  intro p hp
  have e := StrLaws.join_split z ⟨#[m]⟩
  constructor
  · exact Nat.le_trans (PyProof.Rows.part_short hp) h.1
  · intro c hc
    refine h.2 c ?_
    rw [← e, TL.tl_join]
    exact joinL_mem (List.mem_map.mpr ⟨p, hp, rfl⟩) hc

def rMulS : R2 := fun x y H Q => ∃ z n, x = .str z ∧ y = .int n ∧ MulOk z n ∧ Q (.str (Txt.mul z n)) H
theorem op_mulS {X : Cx} : OpR X (binaryOp .Mult) rMulS := by
  intro pins s σ H x y v u Q I rx ry h
  obtain ⟨z, n, rfl, rfl, ok, q⟩ := h
  obtain ⟨t, rfl⟩ := rx
  obtain ⟨t', rfl⟩ := ry
  exact PySem.SB.mul ok fun t' k => ⟨.str (Txt.mul z n), H, I.tok k, ⟨t', rfl⟩, q⟩
theorem g_mulS {z : Str} {n : Int} {H : Hp} {Q : VK} (ok : MulOk z n) (q : Q (.str (Txt.mul z n)) H) : rMulS (.str z) (.int n) H Q := ⟨z, n, rfl, rfl, ok, q⟩
theorem strs_of {P : Str → Prop} : ∀ {ys : List V}, (∀ y ∈ ys, ∃ z, y = .str z ∧ P z) → ∃ ws : List Str, ys = ws.map V.str ∧ ∀ z ∈ ws, P z
  | [], _ => ⟨[], rfl, by simp⟩
  | y :: ys, h => by
    obtain ⟨z, rfl, hz⟩ := h y List.mem_cons_self
    obtain ⟨ws, e, hw⟩ := strs_of (ys := ys) fun x hx => h x (List.mem_cons_of_mem _ hx)
    refine ⟨z :: ws, by rw [e]; rfl, ?_⟩
    intro x hx
    rcases List.mem_cons.mp hx with e | hx
    · rw [e]
      exact hz
    · exact hw x hx
theorem sum_le {n : Nat} : ∀ {ws : List Str}, (∀ z ∈ ws, z.length ≤ n) → (ws.map (·.length)).sum ≤ ws.length * n
  | [], _ => Nat.zero_le _
  | z :: ws, h => by
    have h1 := h z List.mem_cons_self
    have h2 := sum_le (ws := ws) fun x hx => h x (List.mem_cons_of_mem _ hx)
    show z.length + (ws.map (·.length)).sum ≤ (ws.length + 1) * n
    rw [Nat.succ_mul]
    omega
theorem cut_len (z : Str) (k : Nat) : (cutS z none (some (k : Int))).length ≤ k := by
  unfold cutS
  rw [TL.len_tl, TL.tl_mk, HT.sIx_none, HT.sIx_nat, List.length_take]
  omega
theorem joinL_len1 {S : List Nat} (hS : S.length ≤ 1) : ∀ ps : List (List Nat), (TL.joinL S ps).length ≤ (ps.map (·.length)).sum + ps.length
  | [] => Nat.zero_le _
  | [p] => by
    show p.length ≤ [p.length].sum + 1
    simp <;> omega
  | p :: q :: r => by
    have h2 := joinL_len1 hS (q :: r)
    show (p ++ (S ++ TL.joinL S (q :: r))).length ≤ p.length + ((q :: r).map (·.length)).sum + (q :: r).length.succ
    rw [List.length_append, List.length_append]
    omega
/-- one sign for another one -/
theorem Sg.repl {x z : Str} {n c : Nat} (h : Sg x n) (hz : Sg z 1) (hc : c < 256) : Sg (Txt.replace x ⟨#[c]⟩ z) (n + 1) := by
  rw [StrLaws.replace_one, ← TL.join_eq]
  constructor
  · rw [TL.len_tl, tl_tjoin]
    have l := joinL_len1 (S := TL.tl z) (by rw [← TL.len_tl]; exact hz.1) ((Txt.split x ⟨#[c]⟩).map TL.tl)
    have w := PyProof.Rows.split_weight x ⟨#[c]⟩ (Nat.le_refl 1)
    have e : ((Txt.split x ⟨#[c]⟩).map TL.tl).map (·.length) = (Txt.split x ⟨#[c]⟩).map (·.length) := by
      rw [List.map_map]
      exact List.map_congr_left fun y _ => (TL.len_tl y).symm
    rw [e, List.length_map] at l
    have := h.1
    omega
  · intro d hd
    rw [tl_tjoin] at hd
    rcases mem_joinL hd with hd | ⟨p, hp, hd⟩
    · exact hz.2 d hd
    · obtain ⟨y, hy, rfl⟩ := List.mem_map.mp hp
      exact (h.split hc y hy).2 d hd
end Jg
namespace JgX
open PySem PySem.W PySem.Calls PyProof.Rows
/-! ### an own exception whose __init__ says super().__init__('..') and stores what it is given -/
open Builtin Builtin.ObjectAttr in
/-- what is said of a base's __init__ -/
structure IniFacts (B i : String) : Prop where
  slot : Slot B "__init__" i
  entry : entryFor table i = some Builtin.«BaseException.__init__»
  kind : builtinKind i = some .slot
  row : Manifest.signature? i = some ⟨.positional, "*", B, .self, [⟨"args", .varPos, false⟩]⟩
  star : (B != "*") = true
theorem ini_of {B n i : String} (F : ExcCallFacts B n i) : IniFacts B i := ⟨F.init, F.initEntry, F.initKind, F.initRow, F.noStar⟩
theorem ini_key : IniFacts "KeyError" "KeyError.__init__" where
  slot := .of (owner := "KeyError") (n := "__init__")
    (by
      rw [typeLookup_type, builtinLookup_eq_fast]
      kernel_rfl)
    (by decide +kernel)
    (by decide +kernel)
    (by decide +kernel)
    (by
      first
        | exact .inl (by decide +kernel)
        | exact .inr (by decide +kernel))
    (by
      rw [isSubtype_type]
      kernel_rfl)
  entry := entryFor_alias (id' := "BaseException.__init__")
    (by
      rw [fastTable_eq_tree]
      kernel_rfl)
    (by
      first
        | rfl
        | decide +kernel)
    (by decide +kernel)
    (by
      rw [fastTable_eq_tree]
      kernel_rfl)
  kind := by kernel_rfl
  row := by kernel_rfl
  star := by decide +kernel
/-- what the base brings -/
structure XBase (B newId i : String) (bmB : List Value) : Prop where
  ini : IniFacts B i
  kf : KxsFacts B i
  pass : ∀ me : Value, refuseLoop me "__setattr__" bmB = pure ()
  obj : bmB.contains (.type "object") = true
theorem xValue : XBase "ValueError" "ValueError.__new__" "ValueError.__init__" [.type "ValueError", .type "Exception", .type "BaseException", .type "object"] :=
  ⟨ini_of F.excBase_ValueError.toExcCallFacts, kxs_ValueError, F.store_ValueError.passes, by decide +kernel⟩
theorem xLookup : XBase "LookupError" "LookupError.__new__" "LookupError.__init__" [.type "LookupError", .type "Exception", .type "BaseException", .type "object"] :=
  ⟨ini_of F.excBase_LookupError.toExcCallFacts, kxs_LookupError, F.store_LookupError.passes, by decide +kernel⟩
theorem xKey : XBase "KeyError" "LookupError.__new__" "KeyError.__init__" [.type "KeyError", .type "LookupError", .type "Exception", .type "BaseException", .type "object"] :=
  ⟨ini_key, ⟨by show builtinType _ = _; rw [builtinType_eq_fast]; kernel_rfl, by first | kernel_rfl | rfl⟩, fun me => by kernel_rfl, by decide +kernel⟩
section
variable {M : Model} {A : Around} {E : Value → Shared → Prop} {h : Heap} {g : Array GenState} {d : Drawn} {t : Nat} {os : OsState}
theorem ini_check {B i newId : String} (F : IniFacts B i) {nm q : Str} {C N e : Addr} {oe : Obj} {bs bm : List Value} {hdct : Bool} {sn : List Str} {sub : List Value} {ab : Bool} {col : Option Bool} {dd : Option Addr} {k0 k1 k2 k3 k5 : Option Value} {rest : List Value} {Q : Unit → Shared → Prop}
    (lk : h.get? C = some (excClassObj nm q C N bs bm hdct sn sub ab col dd k0 k1 k2 k3 k5 newId)) (he : h.get? e = some oe) (oc : oe.cls = .ref C) (z : Q () ⟨h, g, d, t, os⟩) :
    wpAny M A (checkBoundCall i ⟨.ref e :: rest, []⟩) Q E ⟨h, g, d, t, os⟩ := by
  have star := F.star
  simp only [checkBoundCall, F.kind, F.row]
  repeat (first
    | (with_reducible refine wpAny_loadPart_at he ?_; rw [oc])
    | with_reducible refine wpAny_loadPart_at lk ?_
    | wp_step)
  refine wpAny_onRaise ?_
  have free : ∀ (a b : String) (n : Nat), Bind.check ⟨.positional, "*", B, .self, [⟨"args", .varPos, false⟩]⟩ a b n (({ pos := Value.ref e :: rest } : Args).kw.map fun x => x.fst) = pure () := fun a b n => check_star_args _ _ _ _ _ _
  rw [free]
  exact wpAny_pure z
end
open Builtin Builtin.ObjectAttr
section
variable {prog : Program} {w : World} {A : Around} {E : Value → Shared → Prop} {R : Result → Shared → Prop} {hp : Heap} {g : Array GenState} {d : Drawn} {t : Nat} {os : OsState}
variable {B newId i : String} {bmB : List Value} {K : Frag} {C : Addr}
variable {nm q : Str} {N : Addr} {bs bm : List Value} {hdct : Bool} {sn : List Str} {sub : List Value} {ab : Bool} {col : Option Bool} {dd : Option Addr} {k0 k1 k2 k3 k5 : Option Value}
/-- the base's __init__, bound to the fresh exception at e -/
theorem call_wrap (X : XBase B newId i bmB) {u e t0 : Addr} {more : List Value} {Q : Value → Shared → Prop} (hC : hp.get? C = some (excClassObj nm q C N bs bm hdct sn sub ab col dd k0 k1 k2 k3 k5 newId))
    (he : hp.get? e = some (excObj C t0 none .none)) (hu : hp.get? u = some (kxs_mw i e)) (len : more.length ≤ sizeLine)
    (hq : ∀ h', (∀ b o, b ≠ e → hp.get? b = some o → h'.get? b = some o) → h'.get? e = some (excObj C hp.objs.size none .none) → h'.get? hp.objs.size = some (excTup more) → Q .none ⟨h', g, d, t, os⟩) :
    wpAny (model prog w) A (call (.ref u) more) Q E ⟨hp, g, d, t, os⟩ := by
  refine wpAny_call (codeAny_of_tree ?_)
  show wpAny _ A.in1 (callAny (.ref u) ⟨more, []⟩) _ _ _
  simp only [callAny]
  refine wpAny_bind (wpAny_load hu ?_)
  have kind : (Value.type "method-wrapper" == Value.type "method" || Value.type "method-wrapper" == Value.type "builtin_function_or_method" || Value.type "method-wrapper" == Value.type "method-wrapper") = true := by decide
  simp only [kxs_mw, kind, if_true]
  refine KFB.if_so (by decide) ?_
  refine wpAny_bind (ini_check X.ini hC he rfl ?_)
  refine wpAny_bind (wpAny_pure (wpAny_pure ⟨plainId_quiet X.ini.slot.plain _, codeAny_builtin X.ini.entry ?_⟩))
  exact exc_init_tree (cls := .ref C) (t0 := t0) (dv := none) (c2 := .none) (c3 := .none) (b4 := .bool false) he len hq
open Builtin Builtin.ObjectAttr in
/-- me.name = v, the first one -/
theorem set_first (X : XBase B newId i bmB) {name : Str} {v : Value} {e : Addr} {fv : Array Value} {cd : ClassData} {Q : Unit → Shared → Prop} (kin : K.In hp) (he : hp.get? e = some { cls := .ref C, data := .fields fv })
    (hcd : clsIn K C = some cd) (hm : cd.mro = .ref C :: bm) (ht : excTail bmB bm = true) (hh : cd.hasDict = true) (no : findIn K (.ref C) name = some none)
    (sa : findIn K (.ref C) "__setattr__" = some (some (.builtin "object.__setattr__")))
    (hq : ∀ h' tk dx, (∀ b o, b ≠ e → hp.get? b = some o → h'.get? b = some o) → hp.objs.size ≤ dx → dx ≠ e → h'.get? e = some { cls := .ref C, dict := some dx, data := .fields fv } →
      h'.Ns1 dx (fun y => if y = name then some v else none) → Q () ⟨h', g, d, tk, os⟩) :
    wpAny (model prog w) A (setAttr (.ref e) name v) Q E ⟨hp, g, d, t, os⟩ := by
  have at_e : InstAt hp e { cls := .ref C, data := .fields fv } C none := ⟨he, rfl, rfl, trivial⟩
  refine set_plain kin at_e sa ?_
  have SO := F.store_object
  have away : e ≠ hp.objs.size := Nat.ne_of_lt (Heap.lt_size he)
  have isObj : (Value.ref C :: bm).contains (.type "object") = true := by
    rw [List.contains_cons, excTail_contains "object" bm ht, X.obj, Bool.or_true]
  have inMro : mroIn K C (.type "object") = some true := by
    unfold mroIn
    rw [hcd, Option.bind_some, hm, if_neg (show ¬ (List.isEmpty (Value.ref C :: bm) = true) from Bool.false_ne_true), isObj]
  have isIn : Looks (model prog w) hp (isInstance (.ref e) (.type "object")) true := at_e.type.andThen (looks_mroIn kin inMro)
  refine codeAny_call_builtin SO.slot.plain SO.entry (@check_slot (model prog w) _ _ _ "object.__setattr__" "object" "__setattr__" (.ref e) [.str name t, v] [] _ SO.kind SO.split isIn (SO.args (.ref e) (.str name t) v) ?_)
  have lm : Looks (model prog w) hp (mroOf (.ref C)) cd.mro := (looks_clsIn kin hcd).andThen .now
  have lt : Looks (model prog w) hp (storeTaker? none) none := .now
  have lc : Looks (model prog w) hp (classData C) cd := looks_clsIn kin hcd
  have free : refuseLoop (.ref e) "__setattr__" cd.mro = pure () := by
    rw [hm, refuseLoop_ref]
    exact excTail_pass _ (X.pass _) bm ht
  rw [osa_eq, refuse_eq]
  refine wpAny_bind (wpAny_bind (at_e.type.at (wpAny_bind (lm.at ?_))))
  rw [free]
  refine wpAny_pure (wpAny_bind (at_e.type.at (wpAny_bind ((looks_findIn kin no).at (wpAny_bind (lt.at ?_))))))
  show wpAny _ _ (storeInOwnDict (.ref e) (.ref C) (.str name t) name v false) _ _ _
  obtain ⟨cn, cb, cm, cns, cq, hd, csn, csb, cab, ccol, cdel⟩ := cd
  dsimp only at hh
  subst hh
  unfold storeInOwnDict ownDictForStores
  repeat (first
    | with_reducible refine HandSPX.store_in_new ?_ ?_
    | with_reducible refine wpAny_loadPart_at he ?_
    | with_reducible refine lc.at ?_
    | wp_step)
  · exact ⟨_, #[], _, (Heap.get?_update_ne _ _ _ _ away.symm).trans (Heap.get?_push_at rfl rfl), rfl, fun e he => absurd he (by simp), fun _ => rfl⟩
  · intro h' tk hn' hs
    have later : (hp.push { cls := .type "dict", data := .dict #[] }).get? e = some { cls := .ref C, data := .fields fv } := Heap.get?_push_of_some _ he
    refine hq h' tk hp.objs.size ?_ (Nat.le_refl _) away.symm ?_ hn'
    · intro b o hb ho
      exact (hs.2 b (Nat.ne_of_lt (Heap.lt_size ho))).trans ((Heap.get?_update_ne _ _ _ _ hb).trans (Heap.get?_push_of_some _ ho))
    · exact (hs.2 e away).trans (Heap.get?_update_self _ later rfl)
end
end JgX
namespace JgX
open PySem PySem.W PySem.Calls PyProof.Rows PySem.Spec L2
/-! ### as what L2 tracks -/
theorem excLaid {P : Program} {w : World} {H : Hp} {hp h' : Heap} {fs : List Addr} {a C dx : Addr} {f : Str} {y : V} {u : Value} (hok : HOk P w H hp) (e : H a = some (exo a C none)) (ry : RelV y u)
    (dn : hp.objs.size ≤ dx) (dne : dx ≠ a) (k : ∀ b o, b ≠ a → hp.get? b = some o → h'.get? b = some o) {t1 : Addr} (hx : h'.get? a = some ({ cls := .ref C, dict := some dx, data := .fields #[.ref t1, .none, .none, .none, .bool false, .none] } : Obj))
    (hn : h'.Ns1 dx (fun z => if z = f then some u else none)) :
    Un fs [] H (upd (upd H dx (exd dx [(f, y)])) a (exo a C (some dx))) hp h' ∧ HOk P w (upd (upd H dx (exd dx [(f, y)])) a (exo a C (some dx))) h' := by
  have hnd : H dx = none := hok.fresh dn
  have nd : ∀ {b : Addr} {o : Obj}, hp.get? b = some o → b ≠ dx := fun {b o} q => Nat.ne_of_lt (Nat.lt_of_lt_of_le (Heap.lt_size q) dn)
  have na : ∀ {b : Addr}, H b = none → b ≠ a := fun {b} n z => by
    rw [z, e] at n
    cases n
  refine ⟨⟨fun b o q n _ _ => k b o (na n) q, fun b o q n _ _ => ⟨o.slots, k b o (na n) q⟩, fun b o q n _ => ?_, fun b o q _ => ?_, fun b xs q => ?_, fun b o v q => ?_, fun b ps q => ⟨#[], ?_⟩⟩, fun b o q => ?_⟩
  · rw [upd_ne (na n), upd_ne (nd q)]; exact n
  · by_cases hb : b = a
    · exact ⟨_, by rw [hb]; exact hx⟩
    · exact ⟨o, k b o hb q⟩
  · rw [upd_ne (at_ne e q exo_tup), upd_ne (ne_of_none q hnd)]; exact q
  · rw [upd_ne (at_ne e q exo_frz), upd_ne (ne_of_none q hnd)]; exact q
  · rw [upd_ne (at_ne e q exo_tbl), upd_ne (ne_of_none q hnd), q]; simp
  by_cases hb : b = a
  · subst hb
    rw [upd_same] at q
    cases q
    exact exo_ok hx
  rw [upd_ne hb] at q
  by_cases hd : b = dx
  · subst hd
    rw [upd_same] at q
    cases q
    exact exd_ok hn (relO_put (fs := []) ry fun g => True.intro)
  rw [upd_ne hd] at q
  refine (hok b o q).stay (fun c v hc z => k c v ?_ z) (fun c hc => by rw [upd_ne (at_ne e hc exo_own), upd_ne (ne_of_none hc hnd)]; exact hc) (fun c xs hc => by rw [upd_ne (at_ne e hc exo_tup), upd_ne (ne_of_none hc hnd)]; exact hc)
  rcases hc with hc | hc
  · rw [hc]
    exact hb
  · exact at_ne e hc exo_own

/-- what the written part says of such a class -/
structure XC (K : PySem.W.Frag) (C : Addr) (B newId i : String) (bmB : List Value) : Prop where
  cls : ∃ nm q N bs bm sn sub ab col dd k0 k1 k2 k3 k5, K.lookup C = some (excClassObj nm q C N bs bm true sn sub ab col dd k0 k1 k2 k3 k5 newId) ∧ excTail bmB bm = true
  sa : PySem.W.findIn K (.ref C) "__setattr__" = some (some (.builtin "object.__setattr__"))
  exC : PySem.W.subIn K (.ref C) (.type "BaseException") = some true
  tyC : PySem.W.typeIn K (.ref C) = some (.type "type")
  kC : PySem.W.keepIn K (.ref C) = true
  sup : PySem.W.ks_superIn K C C "__init__" = some (some (.builtin i))
  subB : PySem.W.subIn K (.ref C) (.type B) = some true
/-- its own __init__, as it stands in the written part -/
structure XFn (P : Program) (K : PySem.W.Frag) (C fI : Addr) (fd : FuncData) (qual : Str) (params : Arguments) (body : List Stmt) (scope : Scope) : Prop where
  ex : ∃ (nm : Str) (cc cda : Addr) (oc kV doc pm ct ccl cl : Value) (od an cdd cld : Option Addr) (osl ccs csl : Array (Option Value)) (vs : Array Value) (file : Str) (tf : Tok),
    fd = PySem.W.ksFn nm qual params body scope .none kV doc pm an (.ref cda) ct cc ∧ K.lookup fI = some ⟨oc, od, .func fd, osl⟩ ∧ PySem.W.codeIn K (.ref cda) qual = true ∧
    K.lookup cda = some ⟨ccl, cdd, .fields vs, ccs⟩ ∧ vs[2]? = some (.str file tf) ∧ ((P.main.file : Str) == file) = true ∧ K.lookup cc = some ⟨cl, cld, .cell (some (.ref C)), csl⟩
  iC : PySem.W.findIn K (.ref C) "__init__" = some (some (.ref fI))
  tI : PySem.W.typeIn K (.ref fI) = some (.type "function")
end JgX
namespace JgX
open PySem PySem.W PySem.Calls PyProof.Rows PySem.Spec L2
section
variable {P : Program} {w : World} {K : Frag} {mg : Str → Option Value} {base : Heap} {CX : CXT} {k : Nat} {B newId i : String} {bmB : List Value} {C fI : Addr} {fd : FuncData} {qual f par text : Str} {params : Arguments} {scope : Scope}
  {p0 p1 p2 p3 p4 p5 p6 p7 p8 : Pos} {j : Nat}
abbrev xBody (text f par : Str) (j : Nat) (p0 p1 p2 p3 p4 p5 p6 p7 p8 : Pos) : List Stmt :=
  [.Expr (.Call (.Attribute (.Call (.Name "super" p0) [] [] p1) "__init__" p2) [.Constant (.str text) j p3] [] p4) p4, .Assign [.Attribute (.Name "self" p5) f p6] (.Name par p7) p8]
/-- what __init__ promises: the exception gets its dict, with what was handed in under f -/
def xInit (C : Addr) (f : Str) : Sp := fun vs H Q _ => ∃ a y, vs = [.ref a, y] ∧ H a = some (exo a C none) ∧ ∀ dx, H dx = none → dx ≠ a → Q .non (upd (upd H dx (exd dx [(f, y)])) a (exo a C (some dx)))
theorem init_fn (X : XBase B newId i bmB) (T : XC K C B newId i bmB) (S : XFn P K C fI fd qual params (xBody text f par j p0 p1 p2 p3 p4 p5 p6 p7 p8) scope) (nf : findIn K (.ref C) f = some none)
    (opq : nsIn K cStatics "thirdparty.any" = some none) (msup : mg "super" = none) (htop : (P.main.scope.names.lookup ("super" : Str)).isSome = false)
    (hks : scope.names.lookup ("super" : Str) = some .globalImplicit) (hkc : scope.names.lookup ("__class__" : Str) = some .free) (hkS : scope.names.lookup ("self" : Str) = some .local) (hkP : scope.names.lookup par = some .local)
    (hk : scope.kind = .function) (hcell : ∀ x ∈ scope.names, x.2 ≠ .cell) (hco : scope.isCoroutine = false) (hgen : scope.isGenerator = false)
    (hpar : ∃ ar, (params.posonlyargs ++ params.args).head? = some ar ∧ ar.arg = ("self" : Str)) (hps : par ≠ ("self" : Str)) (hpd : (par == ("__debug__" : Str)) = false)
    (hev : ∀ en : Env, ∃ pl : Sem Bool, eval (.Call (.Attribute (.Call (.Name "super" p0) [] [] p1) "__init__" p2) [.Constant (.str text) j p3] [] p4) en = (do
      let ov ← attributeBase (.Call (.Name "super" p0) [] [] p1) "__init__" en (eval (.Call (.Name "super" p0) [] [] p1) en)
      standAt p2.atName
      let (f, first) ← holding [ov] (getMethod ov "__init__" pl)
      callWith p4 f first (backTo p4 (starEach [.Constant (.str text) j p3] en)) []))
    (hsx : ∀ en : Env, swapsWith (.Call (.Attribute (.Call (.Name "super" p0) [] [] p1) "__init__" p2) [.Constant (.str text) j p3] [] p4) none p4.line en = pure false)
    (hsw : ∀ env : Env, swapsWith (.Name par p7) (some (.Attribute (.Name "self" p5) f p6)) p8.line env = pure false) :
    FnOk P w K mg base CX (k + 1) fI fd [("self" : Str), par] (xInit C f) := by
  refine ⟨fun vs H Q E ⟨a, y, e, _⟩ => by rw [e]; rfl, fun A outer s H args us vs Q E room env bnd rel want => ?_⟩
  obtain ⟨a, y, rfl, ea, q⟩ := want
  obtain ⟨nm, cc, cda, oc, kV, doc, pm, ct, ccl, cl, od, an, cdd, cld, osl, ccs, csl, vs', file, tf, rfl, lk, hcd, lcd, hv2, hfile, lcc⟩ := S.ex
  obtain ⟨nmC, qC, NC, bsC, bmC, snC, sub, ab, col, dd, k0, k1, k2, k3, k5, hC, htail⟩ := T.cls
  obtain ⟨ar, har, harn⟩ := hpar
  cases rel with
  | @cons _ u0 _ ur ra rw' =>
  cases rw' with
  | @cons _ u _ ur' ru rz =>
  cases rz
  obtain rfl : u0 = Value.ref a := ra
  have bk : ∀ b o, base.get? b = some o → s.heap.get? b = some o := fun b o e => (env.bs b o e).1
  have kin : K.In s.heap := env.mod.kin.keeps bk
  obtain ⟨t1, hea⟩ := exo_at env.hok ea
  have clsC : clsIn K C = some { name := nmC, bases := bsC, mro := .ref C :: bmC, ns := NC, qualname := qC, hasDict := true, slotNames := snC, subclasses := sub, abstract := ab, collection := col, hasDel := false } := by
    unfold clsIn; rw [hC] <;> rfl
  have hsub : mroIn K C (.ref C) = some true := by
    unfold mroIn
    rw [clsC, Option.bind_some, if_neg (show ¬ (List.isEmpty (Value.ref C :: bmC) = true) from Bool.false_ne_true)]
    simp
  -- the heap without the exception
  have bh : ∀ b o, base.get? b = some o → (s.heap.hide a).get? b = some o := fun b o e =>
    (Heap.hide_ne s.heap fun z => by have n := (env.bs b o e).2; rw [z, ea] at n; cases n).trans (bk b o e)
  have kinH : K.In (s.heap.hide a) := env.mod.kin.keeps bh
  refine ks_codeAny_call_defAt (fd := ksFn nm qual params _ scope .none kV doc pm an (.ref cda) ct cc) (body := xBody text f par j p0 p1 p2 p3 p4 p5 p6 p7 p8) (binds := [(("self" : Str), Value.ref a), (par, u)]) room.depth (kin _ _ lk) rfl
    (env.mod.nolimit.keeps bk) (codeRec_of kin hcd) rfl bnd hcell (fun x hx => ?_) (fun h₁ hns hk₁ => ?_) hco hgen hk
  · rcases List.mem_cons.mp hx with rfl | hx
    · exact hkS
    · rcases List.mem_cons.mp hx with rfl | hx
      · exact hkP
      · cases hx
  have F1 : Fr (s.heap.hide a) s.heap.objs.size h₁ (fun y => [(("self" : Str), Value.ref a), (par, u)].reverse.lookup y) :=
    ⟨hns, fun b o e => hk₁ b o (Heap.of_hide e), Nat.le_of_eq (Heap.hide_size s.heap a)⟩
  have N1 : News (s.heap.hide a) s.heap.objs.size h₁ [(a, excObj C t1 none .none)] := fun p hp => by
    rcases List.mem_cons.mp hp with rfl | hp
    · exact ⟨hk₁ _ _ hea, Nat.ne_of_lt (Heap.lt_size hea), Heap.hide_self s.heap a⟩
    · cases hp
  have mself : (fun y => [(("self" : Str), Value.ref a), (par, u)].reverse.lookup y) ("self" : Str) = some (.ref a) := by
    have hb : (("self" : Str) == par) = false := by
      rw [beq_eq_false_iff_ne]; exact fun z => hps z.symm
    show List.lookup ("self" : Str) [(par, u), (("self" : Str), Value.ref a)] = _
    rw [List.lookup_cons, hb]
    simp [List.lookup_cons]
  have mpar : (fun y => [(("self" : Str), Value.ref a), (par, u)].reverse.lookup y) par = some u := by
    show List.lookup par [(par, u), (("self" : Str), Value.ref a)] = _
    simp [List.lookup_cons]
  have neA : ∀ {b : Addr} {o : Obj}, (s.heap.hide a).get? b = some o → b ≠ a := fun {b o} e z => by
    rw [z, Heap.hide_self] at e
    cases e
  obtain ⟨mb, hmb, hmbB⟩ := env.mod.blt
  have keep1 : ∀ b o, base.get? b = some o → h₁.get? b = some o := fun b o e => F1.keep b o (bh b o e)
  have kin1 : K.In h₁ := env.mod.kin.keeps keep1
  obtain ⟨pl, hev⟩ := hev (callEnv (ksFn nm qual params (xBody text f par j p0 p1 p2 p3 p4 p5 p6 p7 p8) scope .none kV doc pm an (.ref cda) ct cc) s.heap.objs.size fI)
  refine ks_wpAt_execs_cons (ks_wpAt_Expr_any (hi := by show (scope.kind == .module && _) = false; rw [hk]; rfl) (hs := hsx _) (ks_wpAt_MethodCall (pl := pl) (he := hev) (ks_wpAt_super_base (f := fI) (cc := cda) (ar := ar) (file := file) (tf := tf) hks hkc rfl rfl (kin1 _ _ lk) rfl har rfl (kin1 _ _ lcd) rfl hv2 hfile htop ?_)))
  refine ks_loadName_global hk hks (loadGlobal_builtin (mb := mb) (env.mod.glob.keeps keep1) msup (hmb.keeps keep1) ((hmbB _ (by decide)).trans (show bootBuiltins "super" = some (.type "super") by decide +kernel)) ⟨rfl, ?_⟩)
  refine wpAny_loadName_free hk hkc rfl ⟨_, kin1 _ _ lcc, rfl⟩ ?_
  rw [harn]
  refine wpAny_loadName_local hk hkS hns mself ?_
  refine ks_wpAny_isType_cls (kin1 _ _ hC) rfl ⟨rfl, ?_⟩
  refine ks_wpAny_call_super (kin1 _ _ hC) rfl (hk₁ _ _ hea) rfl (fun c z => by cases z) (looks_mroIn kin1 hsub) (fun h2 e2 keep2 => ?_)
  obtain ⟨F2, N2, l2⟩ := ks_newsPush (s := ⟨h₁, s.gens, s.drawn, s.toks + 2, s.os⟩) F1 N1 rfl e2 keep2
  refine kxs_method X.kf F2 kinH N2 (so := h₁.objs.size) (x := a) (C := C) (D := C) (by simp) (InstAt.of_exc0 (t := t1) (c2 := .none) N2 (by simp)) opq T.sup T.subB (by decide) (fun q3 h3 F3 N3 l3 => ?_)
  refine kxs_callWith1 (i := i) (x := a) N3 (by simp) (spliced_more (wpAny_Constant_str (spliced_none ⟨kxs_at N3 (by simp), ?_⟩)))
  have in3 : K.In h3 := kinH.keeps F3.keep
  refine call_wrap X (e := a) (t0 := t1) (in3 _ _ hC) (N3 (a, excObj C t1 none .none) (by simp)).1 (N3 (q3, kxs_mw i a) (by simp)).1 (by rw [sizeLine_eq]; simp) (fun h4 keep4 he4 _ => ?_)
  obtain ⟨oL, esL, epL, hL, restL⟩ := F3.ns
  have neL : s.heap.objs.size ≠ a := fun z => (N3 (a, excObj C t1 none .none) (by simp)).2.1 z.symm
  have hL4 : h4.Ns s.heap.objs.size (fun y => [(("self" : Str), Value.ref a), (par, u)].reverse.lookup y) := ⟨oL, esL, epL, keep4 _ _ neL hL, restL⟩
  have all4 : ∀ b o, b ≠ a → s.heap.get? b = some o → h4.get? b = some o := fun b o n e =>
    keep4 b o n (F3.keep b o ((Heap.hide_ne s.heap n).trans e))
  have in4 : K.In h4 := env.mod.kin.keeps fun b o e => all4 b o (neA (bh b o e)) (bk b o e)
  refine wpAt_of_wpAny (wpAny_execs_cons (plainObj_wpAny_Assign_Attribute ?_ (hsw _)))
  refine wpAny_Name (wpAny_loadName_local hk hkP hL4 mpar ?_) hpd
  refine wpAny_Name (wpAny_loadName_local hk hkS hL4 mself ?_)
  refine set_first X in4 he4 clsC rfl htail rfl nf T.sa (fun h5 tk dx keep5 hdx dne hx hn => wpAny_execs_nil ?_)
  have dn : s.heap.objs.size ≤ dx := Nat.le_trans (Nat.le_of_lt (Heap.lt_size (keep4 _ _ neL hL))) hdx
  obtain ⟨un, ok⟩ := excLaid (P := P) (w := w) (fs := frs outer) env.hok ea ru dn dne (fun b o n e => keep5 b o n (all4 b o n e)) hx hn
  exact ⟨.non, _, rfl, env.bare, un, ok, rfl, q dx (env.hok.fresh dn) dne⟩
end
end JgX
namespace JgX
open PySem PySem.W PySem.Calls PyProof.Rows PySem.Spec L2
/-! ### C(v) in a raise -/
abbrev mroV : List Value := [.type "ValueError", .type "Exception", .type "BaseException", .type "object"]
theorem refs_tail : ∀ {l : List Value}, excTail mroV l = true → HandSPX.refsVE l = true := by
  intro l
  induction l with
  | nil => intro h; exact absurd h (by decide +kernel)
  | cons a r ih =>
    intro h
    rcases excTail_cases _ h with ⟨c, r', e, h'⟩ | e
    · cases e
      exact ih h'
    · rw [e]
      decide +kernel
/-- the library's word for such a class, under ValueError -/
theorem XC.oex {K : Frag} {C : Addr} {B i : String} (T : XC K C B "ValueError.__new__" i mroV) : OexC K C := by
  obtain ⟨nm, q, N, bs, bm, sn, sub, ab, col, dd, k0, k1, k2, k3, k5, hC, ht⟩ := T.cls
  exact ⟨⟨nm, q, N, bs, bm, sn, sub, ab, col, dd, k0, k1, k2, k3, k5, hC, refs_tail ht⟩, T.sa, T.exC, T.tyC, T.kC⟩
section
variable {X : Cx} {CX : CXT} {x : Str} {C fI : Addr} {k : Nat} {fd : FuncData} {ps : List Str} {sp : Sp} {ds : List Value} {dvs : List V} {e : Expr} {es : List Expr} {ta : TA} {p pos : Pos} {B i : String}
theorem mk_x (XB : XBase B "ValueError.__new__" i mroV) (T : XC X.K C B "ValueError.__new__" i mroV) (iC : findIn X.K (.ref C) "__init__" = some (some (.ref fI))) (tI : typeIn X.K (.ref fI) = some (.type "function"))
    (F1 : FnOk X.prog X.w X.K X.mg X.base CX k fI fd ps sp) (hr : Room (k + 1) X.A) (hb : Binds X.K fd ps ds) (hd : Vals dvs ds) (hx : Passes CX X (fun _ _ _ => False)) (hg : Gl X x) (hm : X.mg x = some (.ref C)) (ha : PA X (e :: es) ta)
    (hdb : (x == ("__debug__" : Str)) = false := by decide) (he : starEach (e :: es) X.env = (false, eval e X.env) :: starEach es X.env := by rfl) (hpl : (backTo pos (starEach es X.env)).any (·.1) = false := by rfl) :
    PMk X (.Call (.Name x p) (e :: es) [] pos) (tMkO C sp dvs ta) := pmk_oex T.oex iC tI F1 hr hb hd hx hg hm ha hdb he hpl
end
end JgX
namespace JgX
open PySem PySem.W PySem.Calls PyProof.Rows PySem.Spec L2
/-! ### a tracked exception: isinstance, e.f -/
/-- what its class must have -/
structure XA (K : PySem.W.Frag) (C : Addr) : Prop where
  f : XfC K C
  cl : (clsIn K C).isSome = true
  ha : findIn K (.ref C) "__class__" = some (some (.builtin "object.__class__"))
  hn : specialIn K (.builtin "object.__class__") "__get__" = some (some (.builtin "getset_descriptor.__get__"))
  tk : takesIn K (.builtin "object.__class__") = some true
  hm : mroIn K C (.type "object") = some true
/-- a stands for an exception of the class at C with these fields -/
def Xe (H : Hp) (a C : Addr) (fs : List (Str × V)) : Prop := ∃ dx, H a = some (exo a C (some dx)) ∧ H dx = some (exd dx fs)
abbrev keptObj (C t1 dx : Addr) : Obj := { cls := .ref C, dict := some dx, data := .fields #[.ref t1, .none, .none, .none, .bool false, .none] }
/-- at a: an exception of the class at C, made with the text z -/
def Kx (H : Hp) (a C : Addr) (z : Str) : Prop := ∃ (t1 dx : Addr) (fs : List (Str × V)), H a = some (.frz (keptObj C t1 dx) (exo a C (some dx))) ∧ H dx = some (exd dx fs) ∧ H t1 = some (.tup [.str z])
/-- a stands for an exception of the class at C, made to be raised or kept -/
def Xin (H : Hp) (a C : Addr) : Prop := (∃ fs : List (Str × V), Xe H a C fs) ∨ ∃ z : Str, Kx H a C z
def rIsiX (K : PySem.W.Frag) : List V → Hp → VK → Prop := fun xs H Q => ∃ (a C : Addr) (c : V) (u : Value) (b : Bool), xs = [.ref a, c] ∧ ClsV c u ∧ Xin H a C ∧ XA K C ∧ kitOne K (.ref C) u = some b ∧ Q (.bl b) H
def rEith (r1 r2 : List V → Hp → VK → Prop) : List V → Hp → VK → Prop := fun xs H Q => r1 xs H Q ∨ r2 xs H Q
section
variable {X : Cx}
theorem call_eith {c : Value} {r1 r2 : List V → Hp → VK → Prop} (h1 : CallR X c r1) (h2 : CallR X c r2) : CallR X c (rEith r1 r2) := by
  intro pins s σ H xs us Q I r h
  rcases h with h | h
  · exact h1 pins s σ H xs us Q I r h
  · exact h2 pins s σ H xs us Q I r h
theorem Xe.inst {pins : List (Addr × Obj)} {σ : L2.St} {H : Hp} {s : Shared} {a C : Addr} {fs : List (Str × V)} (I : Inv X pins σ H s) (e : Xe H a C fs) : ∃ (oe od : Obj) (dx : Addr) (mA : Str → Option Value), InstAt s.heap a oe C (some od) ∧ (∃ vs, oe.data = .fields vs) ∧ oe.dict = some dx ∧ s.heap.Ns1 dx mA ∧ (∀ f, RelO (fs.lookup f) (mA f)) ∧ s.heap.get? dx = some od := by
  obtain ⟨dx, ea, ed⟩ := e
  obtain ⟨t1, ho⟩ := exo_at I.hok ea
  obtain ⟨mA, hns, rel⟩ := exd_at I.hok ed
  obtain ⟨od, hod, hl⟩ := lookIn_ns hns
  exact ⟨_, od, dx, mA, ⟨ho, rfl, rfl, hod⟩, ⟨_, rfl⟩, rfl, hns, rel, hod⟩
theorem Kx.inst {pins : List (Addr × Obj)} {σ : L2.St} {H : Hp} {s : Shared} {a C : Addr} {z : Str} (I : Inv X pins σ H s) (e : Kx H a C z) : ∃ (oe od : Obj), InstAt s.heap a oe C (some od) := by
  obtain ⟨t1, dx, fs, ea, ed, _⟩ := e
  have ho : s.heap.get? a = some (keptObj C t1 dx) := (I.hok a _ ea).1
  obtain ⟨mA, hns, rel⟩ := exd_at I.hok ed
  obtain ⟨od, hod, hl⟩ := lookIn_ns hns
  exact ⟨_, od, ho, rfl, rfl, hod⟩
theorem call_isiX : CallR X (.builtin "isinstance") (rIsiX X.K) := by
  intro pins s σ H xs us Q I r h
  obtain ⟨a, C, c, u, b, rfl, k, xe, T, e, q⟩ := h
  obtain ⟨u1, u2, rfl, r1, r2⟩ := vals2 r
  have e2 := k.eq r2
  subst e2
  cases (show u1 = Value.ref a from r1)
  have J : ∃ (oe od : Obj), InstAt s.heap a oe C (some od) := by
    rcases xe with ⟨fs, xe⟩ | ⟨z, xe⟩
    · obtain ⟨oe, od, dx, mA, J, _, _, _, _, _⟩ := xe.inst I
      exact ⟨oe, od, J⟩
    · exact xe.inst I
  obtain ⟨oe, od, J⟩ := J
  exact kia_one (kitx_exc T.cl T.f.ga T.f.gg T.f.exC T.ha T.hn T.tk T.hm) I.kIn J e (fun z => nomatch z) fun tk => ⟨.bl b, H, I.tok tk, rfl, q⟩
/-- isinstance of data or of an exception -/
theorem call_isiE {K : PySem.W.Frag} (hK : X.K = K := by rfl) : CallR X (.builtin "isinstance") (rEith (rIsi K) (rIsiX K)) := by
  subst hK
  exact call_eith call_isi call_isiX
/-- e.f of such -/
def tXg (K : PySem.W.Frag) (f : Str) (te : TE) : TE := fun σ H Q => te σ H fun x H1 => ∃ (a C : Addr) (fs : List (Str × V)) (v : V), x = .ref a ∧ Xe H1 a C fs ∧ XfC K C ∧ findIn K (.ref C) f = some none ∧ fs.lookup f = some v ∧ Q v H1
theorem pe_xg {K : PySem.W.Frag} {e : Expr} {te : TE} {pos : Pos} {n : Str} (he : PE X e te) (hb : attributeBase e n X.env (eval e X.env) = eval e X.env := by rfl) (hK : X.K = K := by rfl) : PE X (.Attribute e n pos) (tXg K n te) := by
  subst hK
  refine ⟨fun pins s σ H Q I h => ?_⟩
  refine attr_of hb (thn (he.run pins s σ H _ I h) fun u s1 hh => ?_)
  obtain ⟨x, H1, I1, rx, a, C, fs, v, ex, xe, T, hno, l, q⟩ := hh
  subst ex
  obtain rfl : u = Value.ref a := rx
  obtain ⟨oe, od, dx, mA, J, _, hdict, hns, rel, hod⟩ := xe.inst I1
  obtain ⟨od', ho', hl⟩ := lookIn_ns hns
  obtain rfl : od' = od := Option.some.inj (ho'.symm.trans hod)
  obtain ⟨u, hu, ru⟩ := RelO.some_of (v := v) (o := mA n) (by rw [← l]; exact rel n)
  exact HandSPX.exc_get I1.kIn J T.ga T.gg T.exC (findObj_own T.hdC hno rfl (by rw [hl, hu])) (handed_of ru) ⟨v, H1, I1.tok _, ru, q⟩
end

/-! ### facts of a class, from the text and from the written part -/
/-- what the text of such an __init__ is -/
structure XSt (st : Stmt) (f par : Str) : Prop where
  ex : ∃ (text : Str) (j : Nat) (p0 p1 p2 p3 p4 p5 p6 p7 p8 : Pos), defBody st = xBody text f par j p0 p1 p2 p3 p4 p5 p6 p7 p8 ∧
    (∀ en : Env, ∃ pl : Sem Bool, eval (.Call (.Attribute (.Call (.Name "super" p0) [] [] p1) "__init__" p2) [.Constant (.str text) j p3] [] p4) en = (do
      let ov ← attributeBase (.Call (.Name "super" p0) [] [] p1) "__init__" en (eval (.Call (.Name "super" p0) [] [] p1) en)
      standAt p2.atName
      let (f, first) ← holding [ov] (getMethod ov "__init__" pl)
      callWith p4 f first (backTo p4 (starEach [.Constant (.str text) j p3] en)) [])) ∧
    (∀ en : Env, swapsWith (.Call (.Attribute (.Call (.Name "super" p0) [] [] p1) "__init__" p2) [.Constant (.str text) j p3] [] p4) none p4.line en = pure false) ∧
    (∀ env : Env, swapsWith (.Name par p7) (some (.Attribute (.Name "self" p5) f p6)) p8.line env = pure false)
  ks : (defScope st).names.lookup ("super" : Str) = some .globalImplicit
  kc : (defScope st).names.lookup ("__class__" : Str) = some .free
  kself : (defScope st).names.lookup ("self" : Str) = some .local
  kpar : (defScope st).names.lookup par = some .local
  kind : (defScope st).kind = .function
  cell : ∀ x ∈ (defScope st).names, x.2 ≠ .cell
  co : (defScope st).isCoroutine = false
  gen : (defScope st).isGenerator = false
  par0 : ∃ ar, ((defArgs st).posonlyargs ++ (defArgs st).args).head? = some ar ∧ ar.arg = ("self" : Str)
  ps : par ≠ ("self" : Str)
  pd : (par == ("__debug__" : Str)) = false
theorem xc_mk {K : Frag} {C N : Addr} {B newId i : String} {bmB bs bm sub : List Value} {nm q : Str} {sn : List Str} {ab : Bool} {col : Option Bool} {dd : Option Addr} {k0 k1 k2 k3 k5 : Option Value}
    (l : K.lookup C = some (excClassObj nm q C N bs bm true sn sub ab col dd k0 k1 k2 k3 k5 newId)) (t : excTail bmB bm = true) (sa : findIn K (.ref C) "__setattr__" = some (some (.builtin "object.__setattr__"))) (exC : subIn K (.ref C) (.type "BaseException") = some true)
    (tyC : typeIn K (.ref C) = some (.type "type")) (kC : keepIn K (.ref C) = true) (sup : ks_superIn K C C "__init__" = some (some (.builtin i))) (subB : subIn K (.ref C) (.type B) = some true) : XC K C B newId i bmB :=
  ⟨⟨nm, q, N, bs, bm, sn, sub, ab, col, dd, k0, k1, k2, k3, k5, l, t⟩, sa, exC, tyC, kC, sup, subB⟩
theorem xa_mk {K : Frag} {C : Addr} {o : Obj} {cd : ClassData} (ga : findIn K (.ref C) "__getattribute__" = some (some (.builtin "BaseException.__getattribute__"))) (gg : findIn K (.ref C) "__getattr__" = some none) (exC : subIn K (.ref C) (.type "BaseException") = some true) (hd : hasDictIn K C = true)
    (cl : clsIn K C = some cd) (ha : findIn K (.ref C) "__class__" = some (some (.builtin "object.__class__"))) (hn : specialIn K (.builtin "object.__class__") "__get__" = some (some (.builtin "getset_descriptor.__get__"))) (tk : takesIn K (.builtin "object.__class__") = some true)
    (hm : mroIn K C (.type "object") = some true) : XA K C := ⟨⟨ga, gg, exC, hd⟩, by rw [cl]; rfl, ha, hn, tk, hm⟩
theorem xfn_mk {P : Program} {K : Frag} {C fI cc cda : Addr} {nm qual : Str} {st : Stmt} {oc kV doc pm ct ccl cl : Value} {od an cdd cld : Option Addr} {osl ccs csl : Array (Option Value)} {vs : Array Value} {file : Str} {tf : Tok}
    (l : K.lookup fI = some ⟨oc, od, .func (ksFn nm qual (defArgs st) (defBody st) (defScope st) .none kV doc pm an (.ref cda) ct cc), osl⟩) (hcd : codeIn K (.ref cda) qual = true) (lcd : K.lookup cda = some ⟨ccl, cdd, .fields vs, ccs⟩) (hv2 : vs[2]? = some (.str file tf))
    (hfile : ((P.main.file : Str) == file) = true) (lcc : K.lookup cc = some ⟨cl, cld, .cell (some (.ref C)), csl⟩) (iC : findIn K (.ref C) "__init__" = some (some (.ref fI))) (tI : typeIn K (.ref fI) = some (.type "function")) :
    XFn P K C fI (ksFn nm qual (defArgs st) (defBody st) (defScope st) .none kV doc pm an (.ref cda) ct cc) qual (defArgs st) (defBody st) (defScope st) :=
  ⟨⟨nm, cc, cda, oc, kV, doc, pm, ct, ccl, cl, od, an, cdd, cld, osl, ccs, csl, vs, file, tf, rfl, l, hcd, lcd, hv2, hfile, lcc⟩, iC, tI⟩
theorem init_st {P : Program} {w : World} {K : Frag} {mg : Str → Option Value} {base : Heap} {CX : CXT} {k : Nat} {B newId i : String} {bmB : List Value} {C fI : Addr} {fd : FuncData} {qual f par : Str} {st : Stmt} (X : XBase B newId i bmB) (T : XC K C B newId i bmB)
    (S : XFn P K C fI fd qual (defArgs st) (defBody st) (defScope st)) (Z : XSt st f par) (nf : findIn K (.ref C) f = some none) (opq : nsIn K cStatics "thirdparty.any" = some none) (msup : mg "super" = none)
    (htop : (P.main.scope.names.lookup ("super" : Str)).isSome = false) : FnOk P w K mg base CX (k + 1) fI fd [("self" : Str), par] (xInit C f) := by
  obtain ⟨text, j, p0, p1, p2, p3, p4, p5, p6, p7, p8, eb, hev, hsx, hsw⟩ := Z.ex
  rw [eb] at S
  exact init_fn X T S nf opq msup htop Z.ks Z.kc Z.kself Z.kpar Z.kind Z.cell Z.co Z.gen Z.par0 Z.ps Z.pd hev hsx hsw
theorem XFn.binds {P : Program} {K : Frag} {C fI : Addr} {fd : FuncData} {qual : Str} {params : Arguments} {body : List Stmt} {scope : Scope} {ps : List Str} (S : XFn P K C fI fd qual params body scope)
    (h : ∀ (nm : Str) (cc cda : Addr) (kV doc pm ct : Value) (an : Option Addr) (us : List Value), us.length = ps.length → bindArgs (ksFn nm qual params body scope .none kV doc pm an (.ref cda) ct cc) ⟨us, []⟩ = pure (ps.zip us)) : Binds K fd ps [] := by
  obtain ⟨nm, cc, cda, oc, kV, doc, pm, ct, ccl, cl, od, an, cdd, cld, osl, ccs, csl, vs, file, tf, rfl, _⟩ := S.ex
  exact .all (h nm cc cda kV doc pm ct an)
theorem g_mkO {C : Addr} {sp : Sp} {dvs : List V} {σ : L2.St} {H : Hp} {Q : XK} {ta : TA} (q : ta σ H fun vs H1 => vs.length ≤ 1000 ∧ ∀ a, H1 a = none → sp (.ref a :: (vs ++ dvs)) (upd H1 a (exo a C none))
    (fun v H2 => v = .non ∧ ∃ (d : Addr) (fs : List (Str × V)), H2 a = some (exo a C (some d)) ∧ H2 d = some (exd d fs) ∧ H1 d = none ∧ Q (.ref C) (some d) (upd (del H2 a) d (.xd fs))) (fun _ _ _ => False)) : tMkO C sp dvs ta σ H Q := q
/-- raise C(v) read: the dict that the exception gets is new -/
theorem g_mkX {C : Addr} {f : Str} {y : V} {H1 : Hp} {Q : XK} (q : ∀ dx, H1 dx = none → Q (.ref C) (some dx) (upd H1 dx (.xd [(f, y)]))) : [y].length ≤ 1000 ∧ ∀ a, H1 a = none → xInit C f (.ref a :: ([y] ++ [])) (upd H1 a (exo a C none))
    (fun v H2 => v = .non ∧ ∃ (d : Addr) (fs : List (Str × V)), H2 a = some (exo a C (some d)) ∧ H2 d = some (exd d fs) ∧ H1 d = none ∧ Q (.ref C) (some d) (upd (del H2 a) d (.xd fs))) (fun _ _ _ => False) := by
  refine ⟨by simp, fun a ha => ⟨a, y, rfl, upd_same, fun dx hd hne => ⟨rfl, dx, [(f, y)], upd_same, ?_, ?_, ?_⟩⟩⟩
  · rw [upd_ne hne, upd_same]
  · rw [upd_ne hne] at hd
    exact hd
  · rw [upd_ne hne] at hd
    have e : upd (del (upd (upd (upd H1 a (exo a C none)) dx (exd dx [(f, y)])) a (exo a C (some dx))) a) dx (.xd [(f, y)]) = upd H1 dx (.xd [(f, y)]) := by
      funext b
      by_cases h1 : b = dx
      · rw [h1, upd_same, upd_same]
      · rw [upd_ne h1, upd_ne h1]
        by_cases h2 : b = a
        · rw [h2, del_same, ha]
        · rw [del_ne h2, upd_ne h2, upd_ne h1, upd_ne h2]
    rw [e]
    exact q dx hd
end JgX
namespace Jg
open PySem PySem.Spec L2 JgX
/-! ### things of any kind, by what isinstance tells of them -/
def Isi (K : PySem.W.Frag) (H : Hp) (v : V) (T : String) (b : Bool) : Prop := ∀ Q : VK, Q (.bl b) H → rEith (rIsi K) (rIsiX K) [v, .ty T] H Q
section
variable {K : PySem.W.Frag} {H : Hp} {v : V} {T ty : String} {b : Bool} {Q : VK}
theorem Isi.of (h : TyX K H v (.type ty)) (k : kitB ty T = some b) : Isi K H v T b := fun Q q => Or.inl ⟨v, .ty T, .type ty, .type T, b, rfl, .ty T, h, kit_ty k, q⟩
theorem Isi.exc {a C : Addr} (e : Xin H a C) (x : XA K C) (k : PySem.W.kitOne K (.ref C) (.type T) = some b) : Isi K H (.ref a) T b := fun Q q => Or.inr ⟨a, C, .ty T, .type T, b, rfl, .ty T, e, x, k, q⟩
theorem g_isiE (h : Isi K H v T b) (q : Q (.bl b) H) : rEith (rIsi K) (rIsiX K) [v, .ty T] H Q := h Q q
theorem isi_s (z : Str) : Isi K H (.str z) "str" true := .of (.base (.str z)) (by decide +kernel)
theorem isi_si (z : Str) : Isi K H (.str z) "int" false := .of (.base (.str z)) (by decide +kernel)
theorem isi_i (z : Int) : Isi K H (.int z) "int" true := .of (.base (.int z)) (by decide +kernel)
theorem isi_ib (z : Int) : Isi K H (.int z) "bool" false := .of (.base (.int z)) (by decide +kernel)
theorem isi_b (z : Bool) : Isi K H (.bl z) "int" true := .of (.base (.bl z)) (by decide +kernel)
theorem isi_bb (z : Bool) : Isi K H (.bl z) "bool" true := .of (.base (.bl z)) (by decide +kernel)
end
/-- a thing: a number that isn't a truth, or none -/
def IsW (K : PySem.W.Frag) (H : Hp) (v : V) : Option Int → Prop
  | some i => v = .int i
  | none => (∃ b, v = .bl b) ∨ Isi K H v "int" false
/-- a thing: a text of at most n signs, or none -/
def IsS (K : PySem.W.Frag) (H : Hp) (n : Nat) (v : V) : Option Str → Prop
  | some z => v = .str z ∧ Sg z n
  | none => Isi K H v "str" false
/-- [f c for c in text] -/
theorem lc_strP {σ : L2.St} {H : Hp} {Q : VK} {te : TE} {i : Nat} {z : Str} (f : Nat → V) (hn : z.cps.size < sizeLine) (wv : ∀ x, wipe ((wipe σ [i]).set i (some x)) [i] = wipe σ [i])
    (hs : ∀ c ∈ z.cps.toList, ∀ (H2 : Hp) (R : VK), Same H H2 → R (f c) H2 → te ((wipe σ [i]).set i (some (.str ⟨#[c]⟩))) H2 R)
    (q : ∀ D, H D = none → Q (.ref D) (upd H D (.lst (z.cps.toList.map f)))) : lcB (gName i) tYes te [i] σ Q (Its z) H := by
  intro D hD
  refine lc_it (n := z.cps.size) walk_str (fun j H2 => H2 = upd H D (.lst ((z.cps.toList.take j).map f))) (by rw [List.take_zero, List.map_nil]) (fun _ _ _ _ => trivial) ?_ ?_
  · rintro j x H2 H3 hj rfl ⟨rfl, c, hc, rfl⟩
    have hc2 : z.cps.toList[j]? = some c := by simpa using hc
    refine ⟨wv _, ?_⟩
    with_reducible refine g_tyes ?_
    with_reducible refine g_true ?_
    refine hs c (List.mem_of_getElem? hc2) _ _ (fun b o e => by rw [upd_ne (ne_of_none e hD)]; exact e) ?_
    refine ⟨_, upd_same, ?_, ?_⟩
    · rw [List.length_map]
      exact Nat.lt_of_le_of_lt (List.length_take_le' _ _) (by rw [Array.length_toList]; exact hn)
    · rw [upd_upd, List.take_add_one, hc2, List.map_append]
      rfl
  · rintro H2 rfl
    rw [← Array.length_toList, List.take_length]
    exact q D hD
/-! ### plain numbers -/
def digit (c : Nat) : Bool := decide (48 ≤ c) && decide (c ≤ 57)
def plainT (z : Str) : Bool := decide (1 ≤ (TL.tl z).length) && decide ((TL.tl z).length ≤ 30) && (TL.tl z).all digit && (decide ((TL.tl z).head? ≠ some 48) || decide ((TL.tl z).length = 1))
def plainO : Option Str → Bool
  | some z => plainT z
  | none => false
def numT (z : Str) : Int := (NumText.digitsVal (TL.tl z) : Nat)
def numO (o : Option Str) (lo hi : Int) : Option Int := o.bind fun z => if plainT z = true then (if lo ≤ numT z ∧ numT z ≤ hi then some (numT z) else none) else none
def numV : Option Int → V
  | some i => .int i
  | none => .non
theorem figs (c : Nat) : decide (c ∈ (Str.ofString "0123456789").cps.toList) = digit c := by
  have : (Str.ofString "0123456789").cps.toList = [48, 49, 50, 51, 52, 53, 54, 55, 56, 57] := by decide +kernel
  rw [this]
  unfold digit
  rw [Bool.eq_iff_iff]
  simp only [List.mem_cons, List.not_mem_nil, or_false, decide_eq_true_eq, Bool.and_eq_true]
  omega
/-! ### a module's constants -/
theorem pe_globS {X : Cx} {x : Str} {z : Str} {pos : Pos} (hg : Gl X x) (h : ∃ t, X.mg x = some (.str z t)) (hd : (x == ("__debug__" : Str)) = false := by decide) : PE X (.Name x pos) (tC (.str z)) := by
  obtain ⟨t, e⟩ := h
  exact pe_glob hg e ⟨t, rfl⟩ hd
theorem pe_globI {X : Cx} {x : Str} {z : Int} {pos : Pos} (hg : Gl X x) (h : ∃ t, X.mg x = some (.int z t)) (hd : (x == ("__debug__" : Str)) = false := by decide) : PE X (.Name x pos) (tC (.int z)) := by
  obtain ⟨t, e⟩ := h
  exact pe_glob hg e ⟨t, rfl⟩ hd
theorem g_chain {r r' : R2} {ta tb tc : TE} {σ : L2.St} {H : Hp} {Q : VK} (q : ta σ H fun x H1 => tb σ H1 fun y H2 => r x y H2 fun z H3 => ∃ k, z = .bl k ∧ (if k = true then tc σ H3 fun w' H4 => r' y w' H4 Q else Q (.bl false) H3)) : tChain r r' ta tb tc σ H Q := q
def wholeB (lo hi : Int) : Option Int → Bool
  | some i => decide (lo ≤ i ∧ i ≤ hi)
  | none => false
theorem g_ntwo {c A B : Prop} [Decidable c] (h1 : c → B) (h2 : ¬ c → A) : if (!decide c) = true then A else B := by
  by_cases h : c
  · rw [decide_eq_true h]
    exact g_nt (h1 h)
  · rw [decide_eq_false h]
    exact g_nf (h2 h)
def rIntS : List V → Hp → VK → Prop := fun xs H Q => ∃ a n, xs = [.str a] ∧ PySem.intText? a = some n ∧ a.length ≤ 640 ∧ Q (.int n) H
theorem call_intS {X : Cx} : CallR X (.type "int") rIntS := call_int_str
theorem plain_num {z : Str} (h : plainT z = true) : PySem.intText? z = some (numT z) ∧ z.length ≤ 30 ∧ 1 ≤ z.length ∧ (TL.tl z).all digit = true := by
  unfold plainT at h
  rw [Bool.and_eq_true, Bool.and_eq_true, Bool.and_eq_true, decide_eq_true_eq, decide_eq_true_eq] at h
  obtain ⟨⟨⟨h1, h2⟩, h3⟩, _⟩ := h
  rw [TL.len_tl]
  refine ⟨PySem.intText_digits (x := z) (fun c hc => ?_) (fun e => ?_) (by rw [TL.len_tl]; omega), h2, h1, h3⟩
  · have z9 := List.all_eq_true.mp h3 c hc
    unfold digit at z9
    rw [Bool.and_eq_true, decide_eq_true_eq, decide_eq_true_eq] at z9
    exact z9
  · have : (TL.tl z).length = 0 := by
      rw [show TL.tl z = [] from e]
      rfl
    omega
theorem g_intS {z : Str} {H : Hp} {Q : VK} (h : plainT z = true) (q : Q (.int (numT z)) H) : rIntS [.str z] H Q := ⟨z, numT z, rfl, (plain_num h).1, Nat.le_trans (plain_num h).2.1 (by decide), q⟩
theorem g_callN {n m : Nat} {sp : Sp} {gV : List V → List V → List V} {E : XK} {t tk : TA} {σ : L2.St} {H : Hp} {Q : VK} (q : t σ H fun vs H1 => tk σ H1 fun zs H2 => vs.length = n ∧ zs.length = m ∧ sp (gV vs zs) H2 Q E) : tCallN n m sp gV E t tk σ H Q := q
theorem numV_some (o : Option Int) : (!decide (numV o = .non)) = o.isSome := by cases o <;> simp [numV]
theorem at_head {z : Str} {c : Nat} {r : List Nat} (h : TL.tl z = c :: r) : atI z.cps.toList 0 = some c := by
  show atI (TL.tl z) 0 = some c
  rw [h]
  unfold atI ixN
  rw [if_pos (by decide), if_pos (by rw [List.length_cons]; omega)]
  rfl
theorem tl_cons {z : Str} (h : 1 ≤ z.length) : ∃ c r, TL.tl z = c :: r := by
  rw [TL.len_tl] at h
  cases h9 : TL.tl z with
  | nil => rw [h9] at h; simp at h
  | cons c r => exact ⟨c, r, rfl⟩
theorem int_one (n : Nat) : decide (V.int (n : Int) = V.int 1) = decide (n = 1) := by
  rw [Bool.eq_iff_iff, decide_eq_true_eq, decide_eq_true_eq]
  constructor
  · intro h
    have h7 := V.int.inj h
    omega
  · intro h
    rw [h]
    rfl
/-! ### texts and what is none, standing through changes elsewhere -/
/-- a thing that is no text, by its class -/
def NoS (H : Hp) (v : V) : Prop := v = .non ∨ (∃ b, v = .bl b) ∨ (∃ i, v = .int i) ∨ ∃ q, v = .ref q ∧ ((∃ xs, H q = some (.lst xs)) ∨ (∃ xs, H q = some (.tup xs)) ∨ ∃ kvs, H q = some (.dK kvs))
/-- what a thing is: a text, or none -/
def IsT (H : Hp) (v : V) : Option Str → Prop
  | some z => v = .str z ∧ Sg z 2000
  | none => NoS H v
theorem NoS.isi {K : PySem.W.Frag} {H : Hp} {v : V} (h : NoS H v) : ∃ ty, TyX K H v (.type ty) ∧ PySem.W.kitOne K (.type ty) (.type "str") = some false := by
  rcases h with rfl | ⟨b, rfl⟩ | ⟨i, rfl⟩ | ⟨q, rfl, ⟨xs, e⟩ | ⟨xs, e⟩ | ⟨xs, e⟩⟩
  · exact ⟨_, .base .non, kit_ty (by decide +kernel)⟩
  · exact ⟨_, .base (.bl b), kit_ty (by decide +kernel)⟩
  · exact ⟨_, .base (.int i), kit_ty (by decide +kernel)⟩
  · exact ⟨_, .base (.lst e), kit_ty (by decide +kernel)⟩
  · exact ⟨_, .base (.tup e), kit_ty (by decide +kernel)⟩
  · exact ⟨_, .base (.dK e), kit_ty (by decide +kernel)⟩
theorem NoS.same {H H' : Hp} {v : V} (h : NoS H v) (s : Same H H') : NoS H' v := by
  rcases h with h | h | h | ⟨q, e, ⟨xs, h⟩ | ⟨xs, h⟩ | ⟨xs, h⟩⟩
  · exact Or.inl h
  · exact Or.inr (Or.inl h)
  · exact Or.inr (Or.inr (Or.inl h))
  · exact Or.inr (Or.inr (Or.inr ⟨q, e, Or.inl ⟨xs, s _ _ h⟩⟩))
  · exact Or.inr (Or.inr (Or.inr ⟨q, e, Or.inr (Or.inl ⟨xs, s _ _ h⟩)⟩))
  · exact Or.inr (Or.inr (Or.inr ⟨q, e, Or.inr (Or.inr ⟨xs, s _ _ h⟩)⟩))
theorem IsT.same {H H' : Hp} {v : V} {o : Option Str} (h : IsT H v o) (s : Same H H') : IsT H' v o := by
  cases o with
  | some z => exact h
  | none => exact NoS.same h s
theorem isi_str {K : PySem.W.Frag} {H : Hp} (z : Str) : TyX K H (.str z) (.type "str") ∧ PySem.W.kitOne K (.type "str") (.type "str") = some true := ⟨.base (.str z), kit_ty (by decide +kernel)⟩
theorem IsT.mv {p : Addr} {H H' : Hp} {v : V} {o : Option Str} (h : IsT H v o) (hp : ∀ q, v = .ref q → q ≠ p) (m : Mv p H H') : IsT H' v o := by
  cases o with
  | some z => exact h
  | none =>
    rcases h with h | h | h | ⟨q, e, ⟨xs, h⟩ | ⟨xs, h⟩ | ⟨xs, h⟩⟩
    · exact Or.inl h
    · exact Or.inr (Or.inl h)
    · exact Or.inr (Or.inr (Or.inl h))
    · exact Or.inr (Or.inr (Or.inr ⟨q, e, Or.inl ⟨xs, m _ _ (hp q e) h⟩⟩))
    · exact Or.inr (Or.inr (Or.inr ⟨q, e, Or.inr (Or.inl ⟨xs, m _ _ (hp q e) h⟩)⟩))
    · exact Or.inr (Or.inr (Or.inr ⟨q, e, Or.inr (Or.inr ⟨xs, m _ _ (hp q e) h⟩)⟩))
theorem IsT.iss {K : PySem.W.Frag} {H : Hp} {v : V} {o : Option Str} (h : IsT H v o) : IsS K H 2000 v o := by
  cases o with
  | some z => exact h
  | none =>
    obtain ⟨ty, h1, h2⟩ := NoS.isi (K := K) h
    exact fun Q q => Or.inl ⟨v, .ty "str", .type ty, .type "str", false, rfl, .ty "str", h1, h2, q⟩
def rSIdx : V → List V → Hp → VK → Prop := fun x xs H Q => ∃ a b i rest, x = .str a ∧ xs = [.str b] ∧ Builtin.Str.occurrences a b 0 a.length 1 = i :: rest ∧ Q (.int (i : Nat)) H
theorem mt_sidx {X : Cx} : MtR X "str.index" rSIdx := mt_sindex
theorem fig_at : ∀ c : Fin 58, 48 ≤ (c : Nat) → ∃ rest, Builtin.Str.occurrences (Str.ofString "0123456789") ⟨#[(c : Nat)]⟩ 0 (Str.ofString "0123456789").length 1 = ((c : Nat) - 48) :: rest := by
  have h : ∀ c : Fin 58, 48 ≤ (c : Nat) → (Builtin.Str.occurrences (Str.ofString "0123456789") ⟨#[(c : Nat)]⟩ 0 (Str.ofString "0123456789").length 1).head? = some ((c : Nat) - 48) := by decide +kernel
  intro c hc
  have e := h c hc
  cases q : Builtin.Str.occurrences (Str.ofString "0123456789") ⟨#[(c : Nat)]⟩ 0 (Str.ofString "0123456789").length 1 with
  | nil => rw [q] at e; cases e
  | cons x r => rw [q] at e; exact ⟨r, by rw [Option.some.inj e]⟩
theorem g_sidx {c : Nat} {H : Hp} {Q : VK} (h : digit c = true) (q : Q (.int ((c - 48 : Nat) : Int)) H) : rSIdx (.str (Str.ofString "0123456789")) [.str ⟨#[c]⟩] H Q := by
  unfold digit at h
  rw [Bool.and_eq_true, decide_eq_true_eq, decide_eq_true_eq] at h
  obtain ⟨r, e⟩ := fig_at ⟨c, by omega⟩ h.1
  exact ⟨_, _, c - 48, r, rfl, rfl, e, q⟩
theorem g_notInC {H : Hp} {Q : VK} {c : Nat} {x z : Str} (e : x = ⟨#[c]⟩) (q : Q (.bl (!decide (c ∈ z.cps.toList))) H) : rNotInS (.str x) (.str z) H Q := ⟨c, z, by rw [e], rfl, q⟩
/-- [f c for c in text if p c] -/
theorem lc_strF {σ : L2.St} {H : Hp} {Q : VK} {te : TE} {tt : TT} {i : Nat} {z : Str} (p : Nat → Bool) (f : Nat → V) (hn : z.cps.size < sizeLine) (wv : ∀ x, wipe ((wipe σ [i]).set i (some x)) [i] = wipe σ [i])
    (hp : ∀ c ∈ z.cps.toList, ∀ (H2 : Hp) (B : Bool → Hp → Prop), Same H H2 → B (p c) H2 → tt ((wipe σ [i]).set i (some (.str ⟨#[c]⟩))) H2 B)
    (hs : ∀ c ∈ z.cps.toList, ∀ (H2 : Hp) (R : VK), Same H H2 → R (f c) H2 → te ((wipe σ [i]).set i (some (.str ⟨#[c]⟩))) H2 R)
    (q : ∀ D, H D = none → Q (.ref D) (upd H D (.lst ((z.cps.toList.filter p).map f)))) : lcB (gName i) tt te [i] σ Q (Its z) H := by
  intro D hD
  refine lc_it (n := z.cps.size) walk_str (fun j H2 => H2 = upd H D (.lst (((z.cps.toList.take j).filter p).map f))) (by rw [List.take_zero, List.filter_nil, List.map_nil]) (fun _ _ _ _ => trivial) ?_ ?_
  · rintro j x H2 H3 hj rfl ⟨rfl, c, hc, rfl⟩
    have hc2 : z.cps.toList[j]? = some c := by simpa using hc
    have sm : Same H (upd H D (.lst (((z.cps.toList.take j).filter p).map f))) := fun b o e => by rw [upd_ne (ne_of_none e hD)]; exact e
    have mem := List.mem_of_getElem? hc2
    have step : (z.cps.toList.take (j + 1)).filter p = (z.cps.toList.take j).filter p ++ (if p c = true then [c] else []) := by
      rw [List.take_add_one, hc2, List.filter_append]
      congr 1
      cases hq : p c with
      | true => simp [hq]
      | false => simp [hq]
    refine ⟨wv _, ?_⟩
    refine hp c mem _ _ sm ?_
    by_cases hq : p c = true
    · rw [if_pos hq]
      refine hs c mem _ _ sm ?_
      refine ⟨_, upd_same, ?_, ?_⟩
      · rw [List.length_map]
        exact Nat.lt_of_le_of_lt (Nat.le_trans (List.length_filter_le _ _) (List.length_take_le' _ _)) (by rw [Array.length_toList]; exact hn)
      · rw [upd_upd, step, if_pos hq, List.map_append]
        rfl
    · rw [if_neg hq, step, if_neg hq, List.append_nil]
  · rintro H2 rfl
    rw [← Array.length_toList, List.take_length]
    exact q D hD
theorem dp_texts (K : PySem.W.Frag) (H : Hp) : ∀ ys : List Str, DpAll K H (ys.map V.str) (ys.map .str)
  | [] => .nil
  | y :: ys => .cons (.str y) (dp_texts K H ys)
theorem can_texts : ∀ {ys : List Str}, (∀ y ∈ ys, PyData.strOk y = true) → PyData.canLayAll0 (ys.map .str) = true ∧ PyData.depthAll (ys.map .str) = 0
  | [], _ => ⟨rfl, rfl⟩
  | y :: ys, h => by
    obtain ⟨h1, h2⟩ := can_texts (ys := ys) fun x hx => h x (List.mem_cons_of_mem _ hx)
    refine ⟨?_, ?_⟩
    · simp [PyData.canLayAll0, PyData.canLay0, h1, h y List.mem_cons_self]
    · simp [PyData.depthAll, PyData.depth, h2]
theorem shaped_texts {ys : List Str} (h : ∀ y ∈ ys, PyData.strOk y = true) : SeqAt.shaped (.list (ys.map .str)) = true := by
  obtain ⟨h1, h2⟩ := can_texts h
  unfold SeqAt.shaped
  simp [PyData.canLay0, PyData.depth, h1, h2]
/-- a list of texts isn't the empty one -/
theorem g_some {K : PySem.W.Frag} {H : Hp} {Q : VK} {p q : Addr} {ys : List Str} (h1 : H p = some (.lst (ys.map V.str))) (h2 : H q = some (.lst [])) (ok : ∀ y ∈ ys, PyData.strOk y = true) (r : Q (.bl (!ys.isEmpty)) H) : rNeD K (.ref p) (.ref q) H Q := by
  refine ⟨.list (ys.map .str), .list [], .lst (Or.inl (Or.inl h1)) (dp_texts K H ys), .lst (Or.inl (Or.inl h2)) .nil, shaped_texts ok, rfl, ?_⟩
  cases ys with
  | nil => exact r
  | cons y ys => exact r
theorem g_two2 {c A B : Prop} [Decidable c] (h2 : B) (h1 : B → c → A) : if decide c = true then A else B := g_two (h1 h2) (fun _ => h2)
theorem digits_snoc (l : List Nat) (c : Nat) : NumText.digitsVal (l ++ [c]) = NumText.digitsVal l * 10 + (c - 48) := by
  unfold NumText.digitsVal
  rw [List.foldl_append]
  rfl
theorem zero_only {z : Str} {r : List Nat} (h : TL.tl z = 48 :: r) : z = Str.ofString "0" ↔ z.length = 1 := by
  have e0 : TL.tl (Str.ofString "0") = [48] := by decide +kernel
  rw [TL.len_tl, h]
  constructor
  · intro e
    rw [e, e0] at h
    rw [← h]
    rfl
  · intro e
    have : r = [] := by
      cases r with
      | nil => rfl
      | cons x y => simp at e
    rw [this, ← e0] at h
    exact TL.ext_tl h
theorem digits_fold : ∀ (l : List Nat) (acc : Nat), l.all digit = true → l.foldl (fun a c => a * 10 + (c - 48)) acc + 1 ≤ (acc + 1) * 10 ^ l.length
  | [], acc, _ => by simp
  | c :: r, acc, h => by
    rw [List.all_cons, Bool.and_eq_true] at h
    obtain ⟨hc, hr⟩ := h
    unfold digit at hc
    rw [Bool.and_eq_true, decide_eq_true_eq, decide_eq_true_eq] at hc
    have ih := digits_fold r (acc * 10 + (c - 48)) hr
    have le : acc * 10 + (c - 48) + 1 ≤ (acc + 1) * 10 := by omega
    have := Nat.mul_le_mul_right (10 ^ r.length) le
    rw [List.foldl_cons, List.length_cons, Nat.pow_succ]
    have e : (acc + 1) * 10 * 10 ^ r.length = (acc + 1) * (10 ^ r.length * 10) := by rw [Nat.mul_assoc, Nat.mul_comm 10]
    omega
theorem digits_lt {l : List Nat} (h : l.all digit = true) : NumText.digitsVal l < 10 ^ l.length := by
  have := digits_fold l 0 h
  unfold NumText.digitsVal
  simp at this
  omega
theorem digits_take {l : List Nat} (h : l.all digit = true) (n : l.length ≤ 30) (i : Nat) : NumText.digitsVal (l.take i) < 1000000000000000000000000000000 := by
  have a : (l.take i).all digit = true := by
    rw [List.all_eq_true] at h ⊢
    exact fun x hx => h x (List.mem_of_mem_take hx)
  have b := digits_lt a
  have c : 10 ^ (l.take i).length ≤ 10 ^ 30 := Nat.pow_le_pow_right (by decide) (Nat.le_trans (List.length_take_le' _ _) n)
  have d : (10 : Nat) ^ 30 = 1000000000000000000000000000000 := by decide
  omega
theorem g_BM0 {K : PySem.W.Frag} {T : String} {r : V → List V → Hp → VK → Prop} {ta : TE} {σ : L2.St} {H : Hp} {Q : VK} (q : ta σ H fun x H1 => tyV K T x H1 ∧ r x [] H1 Q) : tBM0 K T r ta σ H Q := q
/-- f(k = v, ..): keywords alone -/
theorem pe_callN0 {X : Cx} {CX : CXT} {k : Nat} {f : Addr} {fd : FuncData} {ps ks : List Str} {sp : Sp} {E : XK} {x : Str} {p pos : Pos} {kws : List Keyword} {tk : TA} {g : List Value → List Value → List Value} {gV : List V → List V → List V}
    (F : FnOk X.prog X.w X.K X.mg X.base CX k f fd ps sp) (room : Room k X.A) (hg : Gl X x) (hm : X.mg x = some (.ref f)) (hk : PySem.W.keepIn X.K (.ref f) = true) (hb : KBn X.K fd ps 0 ks g gV) (hx : Passes CX X E) (words : PK X kws tk)
    (named : (backToKw pos (keywordEach kws X.env)).all (·.1.isSome) = true := by rfl) (hks : (backToKw pos (keywordEach kws X.env)).filterMap (·.1) = ks := by rfl) (hdb : (x == ("__debug__" : Str)) = false := by decide)
    (plain : ((backTo pos (starEach [] X.env)).any (·.1) || (backToKw pos (keywordEach kws X.env)).any (·.1.isNone)) = false := by rfl) : PE X (.Call (.Name x p) [] kws pos) (tCallN 0 ks.length sp gV E tNil tk) := by
  constructor
  intro pins s σ H Q I want
  refine wpAny_Call_Name_kw (ld_glob I hg hm ?_ hdb)
  refine PySem.W.callWith_KW0 (h₀ := X.base) I.ok.mod.kin hk named ?_ plain
  have told := words.run pos pins s σ H _ I want
  refine thn told ?_
  rintro ws s1 ⟨zs, H1, I1, rel, _, many, q⟩
  refine ⟨I1.kIn, ?_⟩
  rw [hks]
  exact run_fnN (us := []) (vs := []) F room hb hx I1 .nil rel rfl many q
end Jg
namespace Jg
open PySem PySem.Spec L2
/-! ### strip(marks): nothing is left just of a text of these alone -/
theorem strip_rest (g : Nat → Bool) (l : List Nat) : l.length - ((l.drop (l.takeWhile g).length).reverse.takeWhile g).length ≤ (l.takeWhile g).length ↔ l.all g = true := by
  have hd : l.drop (l.takeWhile g).length = l.dropWhile g := by
    conv => lhs; arg 2; rw [← List.takeWhile_append_dropWhile (p := g) (l := l)]
    rw [List.drop_left]
  have hl : (l.takeWhile g).length + (l.dropWhile g).length = l.length := by
    rw [← List.length_append, List.takeWhile_append_dropWhile]
  rw [hd]
  cases e : l.dropWhile g with
  | nil =>
    rw [e] at hl
    have ha : l.all g = true := by
      have := List.takeWhile_append_dropWhile (p := g) (l := l)
      rw [e, List.append_nil] at this
      rw [← this]
      exact List.all_takeWhile
    rw [ha]
    simp at hl ⊢
    omega
  | cons c r =>
    have hc : g c = false := by
      have := List.head?_dropWhile_not g l
      rw [e] at this
      simpa using this
    have hall : l.all g = false := by
      rw [List.all_eq_false]
      exact ⟨c, by
        have : c ∈ l.dropWhile g := by rw [e]; exact List.mem_cons_self
        exact (List.dropWhile_sublist g).subset this, by rw [hc]; decide⟩
    rw [hall]
    rw [e] at hl
    have hk : (((c :: r).reverse).takeWhile g).length ≤ r.length := by
      rw [List.reverse_cons, List.takeWhile_append]
      split
      · rw [List.length_append, List.length_reverse]
        simp [List.takeWhile, hc]
      · have := (List.takeWhile_sublist g (l := r.reverse)).length_le
        rw [List.length_reverse] at this
        exact this
    rw [List.length_cons] at hl
    constructor
    · intro h
      omega
    · intro h
      cases h
theorem strip_none (z m : Str) : (Txt.stripChars z m).cps.size = 0 ↔ ((TL.tl z).all fun c => decide (c ∈ m.cps.toList)) = true := by
  have eg : (fun c => m.cps.contains c) = fun c => decide (c ∈ m.cps.toList) := by
    funext c
    rw [Bool.eq_iff_iff]
    simp
  have h := strip_rest (fun c => m.cps.contains c) z.cps.toList
  rw [show (TL.tl z).all (fun c => decide (c ∈ m.cps.toList)) = z.cps.toList.all (fun c => m.cps.contains c) by rw [eg], ← h]
  show (Txt.stripBy m.cps.contains true true z).cps.size = 0 ↔ _
  rw [PySem.W.stripBy_eq]
  show (z.cps.extract _ _).size = 0 ↔ _
  rw [Array.size_extract]
  show min (z.length - _) z.cps.size - (z.cps.toList.takeWhile _).length = 0 ↔ _
  have e1 : z.length = z.cps.toList.length := by rw [Array.length_toList]; rfl
  rw [e1]
  have : (z.cps.toList.takeWhile m.cps.contains).length ≤ z.cps.toList.length := (List.takeWhile_sublist _).length_le
  have e2 : z.cps.size = z.cps.toList.length := by rw [Array.length_toList]
  rw [e2]
  show min (z.cps.toList.length - ((z.cps.toList.drop (z.cps.toList.takeWhile m.cps.contains).length).reverse.takeWhile m.cps.contains).length) z.cps.toList.length - (z.cps.toList.takeWhile m.cps.contains).length = 0 ↔ z.cps.toList.length - ((z.cps.toList.drop (z.cps.toList.takeWhile m.cps.contains).length).reverse.takeWhile m.cps.contains).length ≤ (z.cps.toList.takeWhile m.cps.contains).length
  omega
theorem strip_eq {z m e : Str} (he : e.cps.size = 0) : (Txt.stripChars z m == e) = (TL.tl z).all fun c => decide (c ∈ m.cps.toList) := by
  have e0 : e = ⟨#[]⟩ := by
    cases e with
    | mk a =>
      have : a = #[] := Array.eq_empty_of_size_eq_zero he
      rw [this]
  rw [Bool.eq_iff_iff, ← strip_none z m, beq_iff_eq, e0]
  constructor
  · intro h
    rw [h]
    rfl
  · intro h
    cases q : Txt.stripChars z m with
    | mk a =>
      rw [q] at h
      have : a = #[] := Array.eq_empty_of_size_eq_zero h
      rw [this]
theorem strip_dec {z m e : Str} (he : e.cps.size = 0) : decide (V.str (Txt.stripChars z m) = V.str e) = (TL.tl z).all fun c => decide (c ∈ m.cps.toList) := by
  rw [L2.dec_str]
  exact strip_eq he
end Jg
namespace JgX
open PySem PySem.W PySem.Calls PyProof.Rows PySem.Spec L2
/-! ### an exception that is kept as a value: what was said at its making stays -/
theorem frz_tup {o : Obj} {u : HO} {xs : List V} : HO.frz o u ≠ .tup xs := fun z => by cases z
theorem keptLaid {P : Program} {w : World} {H : Hp} {hp h' : Heap} {fs : List Addr} {a C dx t1 : Addr} {f : Str} {y : V} {u : Value} {z : Str} {tz : Tok} (hok : HOk P w H hp) (e : H a = some (exo a C none)) (ry : RelV y u)
    (dn : hp.objs.size ≤ dx) (dne : dx ≠ a) (tn : hp.objs.size ≤ t1) (tne : t1 ≠ a) (td : t1 ≠ dx) (k : ∀ b o, b ≠ a → hp.get? b = some o → h'.get? b = some o) (hx : h'.get? a = some (keptObj C t1 dx))
    (hn : h'.Ns1 dx (fun z => if z = f then some u else none)) (ht : h'.get? t1 = some (excTup [.str z tz])) :
    Un fs [] H (upd (upd (upd H t1 (.tup [.str z])) dx (exd dx [(f, y)])) a (.frz (keptObj C t1 dx) (exo a C (some dx)))) hp h' ∧
    HOk P w (upd (upd (upd H t1 (.tup [.str z])) dx (exd dx [(f, y)])) a (.frz (keptObj C t1 dx) (exo a C (some dx)))) h' := by
  have hnd : H dx = none := hok.fresh dn
  have hnt : H t1 = none := hok.fresh tn
  have nd : ∀ {b : Addr} {o : Obj}, hp.get? b = some o → b ≠ dx := fun {b o} q => Nat.ne_of_lt (Nat.lt_of_lt_of_le (Heap.lt_size q) dn)
  have nt : ∀ {b : Addr} {o : Obj}, hp.get? b = some o → b ≠ t1 := fun {b o} q => Nat.ne_of_lt (Nat.lt_of_lt_of_le (Heap.lt_size q) tn)
  have na : ∀ {b : Addr}, H b = none → b ≠ a := fun {b} n z => by
    rw [z, e] at n
    cases n
  -- what was tracked and isn't the exception stays tracked
  have st : ∀ {b : Addr} {o : HO}, H b = some o → b ≠ a → upd (upd (upd H t1 (.tup [.str z])) dx (exd dx [(f, y)])) a (.frz (keptObj C t1 dx) (exo a C (some dx))) b = some o := fun {b o} q hb => by
    rw [upd_ne hb, upd_ne (ne_of_none q hnd), upd_ne (ne_of_none q hnt)]
    exact q
  refine ⟨⟨fun b o q n _ _ => k b o (na n) q, fun b o q n _ _ => ⟨o.slots, k b o (na n) q⟩, fun b o q n _ => ?_, fun b o q _ => ?_, fun b xs q => st q (at_ne e q exo_tup), fun b o v q => st q (at_ne e q exo_frz), fun b ps q => ⟨#[], ?_⟩⟩, fun b o q => ?_⟩
  · rw [upd_ne (na n), upd_ne (nd q), upd_ne (nt q)]; exact n
  · by_cases hb : b = a
    · exact ⟨_, by rw [hb]; exact hx⟩
    · exact ⟨o, k b o hb q⟩
  · rw [st q (at_ne e q exo_tbl)]; simp
  by_cases hb : b = a
  · subst hb
    rw [upd_same] at q
    cases q
    exact ⟨hx, exo_ok hx⟩
  rw [upd_ne hb] at q
  by_cases hd : b = dx
  · subst hd
    rw [upd_same] at q
    cases q
    exact exd_ok hn (relO_put (fs := []) ry fun g => True.intro)
  rw [upd_ne hd] at q
  by_cases hb1 : b = t1
  · subst hb1
    rw [upd_same] at q
    cases q
    refine ⟨by rw [sizeLine_eq]; simp, [.str z tz], .cons ⟨tz, rfl⟩ .nil, _, ht, rfl, ⟨_, rfl⟩⟩
  rw [upd_ne hb1] at q
  refine (hok b o q).stay (fun c v hc z => k c v ?_ z) (fun c hc => st hc (at_ne e hc exo_own)) (fun c xs hc => st hc (at_ne e hc exo_tup))
  rcases hc with hc | hc
  · rw [hc]
    exact hb
  · exact at_ne e hc exo_own
end JgX
namespace JgX
open PySem PySem.W PySem.Calls PyProof.Rows PySem.Spec L2
section
variable {P : Program} {w : World} {K : Frag} {mg : Str → Option Value} {base : Heap} {CX : CXT} {k : Nat} {B newId i : String} {bmB : List Value} {C fI : Addr} {fd : FuncData} {qual f par text : Str} {params : Arguments} {scope : Scope}
  {p0 p1 p2 p3 p4 p5 p6 p7 p8 : Pos} {j : Nat}
/-- what such an __init__ promises where all of it is to be kept -/
def xKeep (C : Addr) (f : Str) (z : Str) : Sp := fun vs H Q _ => ∃ a y, vs = [.ref a, y] ∧ H a = some (exo a C none) ∧ ∀ dx t1, H dx = none → dx ≠ a → H t1 = none → t1 ≠ a → t1 ≠ dx →
  Q .non (upd (upd (upd H t1 (.tup [.str z])) dx (exd dx [(f, y)])) a (.frz (keptObj C t1 dx) (exo a C (some dx))))
theorem init_keep (X : XBase B newId i bmB) (T : XC K C B newId i bmB) (S : XFn P K C fI fd qual params (xBody text f par j p0 p1 p2 p3 p4 p5 p6 p7 p8) scope) (nf : findIn K (.ref C) f = some none)
    (opq : nsIn K cStatics "thirdparty.any" = some none) (msup : mg "super" = none) (htop : (P.main.scope.names.lookup ("super" : Str)).isSome = false)
    (hks : scope.names.lookup ("super" : Str) = some .globalImplicit) (hkc : scope.names.lookup ("__class__" : Str) = some .free) (hkS : scope.names.lookup ("self" : Str) = some .local) (hkP : scope.names.lookup par = some .local)
    (hk : scope.kind = .function) (hcell : ∀ x ∈ scope.names, x.2 ≠ .cell) (hco : scope.isCoroutine = false) (hgen : scope.isGenerator = false)
    (hpar : ∃ ar, (params.posonlyargs ++ params.args).head? = some ar ∧ ar.arg = ("self" : Str)) (hps : par ≠ ("self" : Str)) (hpd : (par == ("__debug__" : Str)) = false)
    (hev : ∀ en : Env, ∃ pl : Sem Bool, eval (.Call (.Attribute (.Call (.Name "super" p0) [] [] p1) "__init__" p2) [.Constant (.str text) j p3] [] p4) en = (do
      let ov ← attributeBase (.Call (.Name "super" p0) [] [] p1) "__init__" en (eval (.Call (.Name "super" p0) [] [] p1) en)
      standAt p2.atName
      let (f, first) ← holding [ov] (getMethod ov "__init__" pl)
      callWith p4 f first (backTo p4 (starEach [.Constant (.str text) j p3] en)) []))
    (hsx : ∀ en : Env, swapsWith (.Call (.Attribute (.Call (.Name "super" p0) [] [] p1) "__init__" p2) [.Constant (.str text) j p3] [] p4) none p4.line en = pure false)
    (hsw : ∀ env : Env, swapsWith (.Name par p7) (some (.Attribute (.Name "self" p5) f p6)) p8.line env = pure false) :
    FnOk P w K mg base CX (k + 1) fI fd [("self" : Str), par] (xKeep C f text) := by
  refine ⟨fun vs H Q E ⟨a, y, e, _⟩ => by rw [e]; rfl, fun A outer s H args us vs Q E room env bnd rel want => ?_⟩
  obtain ⟨a, y, rfl, ea, q⟩ := want
  obtain ⟨nm, cc, cda, oc, kV, doc, pm, ct, ccl, cl, od, an, cdd, cld, osl, ccs, csl, vs', file, tf, rfl, lk, hcd, lcd, hv2, hfile, lcc⟩ := S.ex
  obtain ⟨nmC, qC, NC, bsC, bmC, snC, sub, ab, col, dd, k0, k1, k2, k3, k5, hC, htail⟩ := T.cls
  obtain ⟨ar, har, harn⟩ := hpar
  cases rel with
  | @cons _ u0 _ ur ra rw' =>
  cases rw' with
  | @cons _ u _ ur' ru rz =>
  cases rz
  obtain rfl : u0 = Value.ref a := ra
  have bk : ∀ b o, base.get? b = some o → s.heap.get? b = some o := fun b o e => (env.bs b o e).1
  have kin : K.In s.heap := env.mod.kin.keeps bk
  obtain ⟨t1, hea⟩ := exo_at env.hok ea
  have clsC : clsIn K C = some { name := nmC, bases := bsC, mro := .ref C :: bmC, ns := NC, qualname := qC, hasDict := true, slotNames := snC, subclasses := sub, abstract := ab, collection := col, hasDel := false } := by
    unfold clsIn; rw [hC] <;> rfl
  have hsub : mroIn K C (.ref C) = some true := by
    unfold mroIn
    rw [clsC, Option.bind_some, if_neg (show ¬ (List.isEmpty (Value.ref C :: bmC) = true) from Bool.false_ne_true)]
    simp
  -- the heap without the exception
  have bh : ∀ b o, base.get? b = some o → (s.heap.hide a).get? b = some o := fun b o e =>
    (Heap.hide_ne s.heap fun z => by have n := (env.bs b o e).2; rw [z, ea] at n; cases n).trans (bk b o e)
  have kinH : K.In (s.heap.hide a) := env.mod.kin.keeps bh
  refine ks_codeAny_call_defAt (fd := ksFn nm qual params _ scope .none kV doc pm an (.ref cda) ct cc) (body := xBody text f par j p0 p1 p2 p3 p4 p5 p6 p7 p8) (binds := [(("self" : Str), Value.ref a), (par, u)]) room.depth (kin _ _ lk) rfl
    (env.mod.nolimit.keeps bk) (codeRec_of kin hcd) rfl bnd hcell (fun x hx => ?_) (fun h₁ hns hk₁ => ?_) hco hgen hk
  · rcases List.mem_cons.mp hx with rfl | hx
    · exact hkS
    · rcases List.mem_cons.mp hx with rfl | hx
      · exact hkP
      · cases hx
  have F1 : Fr (s.heap.hide a) s.heap.objs.size h₁ (fun y => [(("self" : Str), Value.ref a), (par, u)].reverse.lookup y) :=
    ⟨hns, fun b o e => hk₁ b o (Heap.of_hide e), Nat.le_of_eq (Heap.hide_size s.heap a)⟩
  have N1 : News (s.heap.hide a) s.heap.objs.size h₁ [(a, excObj C t1 none .none)] := fun p hp => by
    rcases List.mem_cons.mp hp with rfl | hp
    · exact ⟨hk₁ _ _ hea, Nat.ne_of_lt (Heap.lt_size hea), Heap.hide_self s.heap a⟩
    · cases hp
  have mself : (fun y => [(("self" : Str), Value.ref a), (par, u)].reverse.lookup y) ("self" : Str) = some (.ref a) := by
    have hb : (("self" : Str) == par) = false := by
      rw [beq_eq_false_iff_ne]; exact fun z => hps z.symm
    show List.lookup ("self" : Str) [(par, u), (("self" : Str), Value.ref a)] = _
    rw [List.lookup_cons, hb]
    simp [List.lookup_cons]
  have mpar : (fun y => [(("self" : Str), Value.ref a), (par, u)].reverse.lookup y) par = some u := by
    show List.lookup par [(par, u), (("self" : Str), Value.ref a)] = _
    simp [List.lookup_cons]
  have neA : ∀ {b : Addr} {o : Obj}, (s.heap.hide a).get? b = some o → b ≠ a := fun {b o} e z => by
    rw [z, Heap.hide_self] at e
    cases e
  obtain ⟨mb, hmb, hmbB⟩ := env.mod.blt
  have keep1 : ∀ b o, base.get? b = some o → h₁.get? b = some o := fun b o e => F1.keep b o (bh b o e)
  have kin1 : K.In h₁ := env.mod.kin.keeps keep1
  obtain ⟨pl, hev⟩ := hev (callEnv (ksFn nm qual params (xBody text f par j p0 p1 p2 p3 p4 p5 p6 p7 p8) scope .none kV doc pm an (.ref cda) ct cc) s.heap.objs.size fI)
  refine ks_wpAt_execs_cons (ks_wpAt_Expr_any (hi := by show (scope.kind == .module && _) = false; rw [hk]; rfl) (hs := hsx _) (ks_wpAt_MethodCall (pl := pl) (he := hev) (ks_wpAt_super_base (f := fI) (cc := cda) (ar := ar) (file := file) (tf := tf) hks hkc rfl rfl (kin1 _ _ lk) rfl har rfl (kin1 _ _ lcd) rfl hv2 hfile htop ?_)))
  refine ks_loadName_global hk hks (loadGlobal_builtin (mb := mb) (env.mod.glob.keeps keep1) msup (hmb.keeps keep1) ((hmbB _ (by decide)).trans (show bootBuiltins "super" = some (.type "super") by decide +kernel)) ⟨rfl, ?_⟩)
  refine wpAny_loadName_free hk hkc rfl ⟨_, kin1 _ _ lcc, rfl⟩ ?_
  rw [harn]
  refine wpAny_loadName_local hk hkS hns mself ?_
  refine ks_wpAny_isType_cls (kin1 _ _ hC) rfl ⟨rfl, ?_⟩
  refine ks_wpAny_call_super (kin1 _ _ hC) rfl (hk₁ _ _ hea) rfl (fun c z => by cases z) (looks_mroIn kin1 hsub) (fun h2 e2 keep2 => ?_)
  obtain ⟨F2, N2, l2⟩ := ks_newsPush (s := ⟨h₁, s.gens, s.drawn, s.toks + 2, s.os⟩) F1 N1 rfl e2 keep2
  refine kxs_method X.kf F2 kinH N2 (so := h₁.objs.size) (x := a) (C := C) (D := C) (by simp) (InstAt.of_exc0 (t := t1) (c2 := .none) N2 (by simp)) opq T.sup T.subB (by decide) (fun q3 h3 F3 N3 l3 => ?_)
  refine kxs_callWith1 (i := i) (x := a) N3 (by simp) (spliced_more (wpAny_Constant_str (spliced_none ⟨kxs_at N3 (by simp), ?_⟩)))
  have in3 : K.In h3 := kinH.keeps F3.keep
  refine call_wrap X (e := a) (t0 := t1) (in3 _ _ hC) (N3 (a, excObj C t1 none .none) (by simp)).1 (N3 (q3, kxs_mw i a) (by simp)).1 (by rw [sizeLine_eq]; simp) (fun h4 keep4 he4 tup4 => ?_)
  obtain ⟨oL, esL, epL, hL, restL⟩ := F3.ns
  have neL : s.heap.objs.size ≠ a := fun z => (N3 (a, excObj C t1 none .none) (by simp)).2.1 z.symm
  have hL4 : h4.Ns s.heap.objs.size (fun y => [(("self" : Str), Value.ref a), (par, u)].reverse.lookup y) := ⟨oL, esL, epL, keep4 _ _ neL hL, restL⟩
  have all4 : ∀ b o, b ≠ a → s.heap.get? b = some o → h4.get? b = some o := fun b o n e =>
    keep4 b o n (F3.keep b o ((Heap.hide_ne s.heap n).trans e))
  have in4 : K.In h4 := env.mod.kin.keeps fun b o e => all4 b o (neA (bh b o e)) (bk b o e)
  refine wpAt_of_wpAny (wpAny_execs_cons (plainObj_wpAny_Assign_Attribute ?_ (hsw _)))
  refine wpAny_Name (wpAny_loadName_local hk hkP hL4 mpar ?_) hpd
  refine wpAny_Name (wpAny_loadName_local hk hkS hL4 mself ?_)
  refine set_first X in4 he4 clsC rfl htail rfl nf T.sa (fun h5 tk dx keep5 hdx dne hx hn => wpAny_execs_nil ?_)
  have dn : s.heap.objs.size ≤ dx := Nat.le_trans (Nat.le_of_lt (Heap.lt_size (keep4 _ _ neL hL))) hdx
  have lt4 : h3.objs.size < h4.objs.size := Heap.lt_size tup4
  have t3n : s.heap.objs.size ≤ h3.objs.size := Nat.le_of_lt (Heap.lt_size hL)
  have t3a : h3.objs.size ≠ a := fun z => by
    have y : a < h3.objs.size := Heap.lt_size (N3 (a, excObj C t1 none .none) (by simp)).1
    exact Nat.lt_irrefl _ (z ▸ y)
  have t3d : h3.objs.size ≠ dx := Nat.ne_of_lt (Nat.lt_of_lt_of_le lt4 hdx)
  obtain ⟨un, ok⟩ := keptLaid (P := P) (w := w) (fs := frs outer) env.hok ea ru dn dne t3n t3a t3d (fun b o n e => keep5 b o n (all4 b o n e)) hx hn (keep5 _ _ t3a tup4)
  exact ⟨.non, _, rfl, env.bare, un, ok, rfl, q dx _ (env.hok.fresh dn) dne (env.hok.fresh t3n) t3a t3d⟩
end
end JgX
namespace JgX
open PySem PySem.W PySem.Calls PyProof.Rows PySem.Spec L2
/-- the text that such an __init__ says -/
def XSz (st : Stmt) (f par text : Str) : Prop := ∃ (j : Nat) (p0 p1 p2 p3 p4 p5 p6 p7 p8 : Pos), defBody st = xBody text f par j p0 p1 p2 p3 p4 p5 p6 p7 p8 ∧
    (∀ en : Env, ∃ pl : Sem Bool, eval (.Call (.Attribute (.Call (.Name "super" p0) [] [] p1) "__init__" p2) [.Constant (.str text) j p3] [] p4) en = (do
      let ov ← attributeBase (.Call (.Name "super" p0) [] [] p1) "__init__" en (eval (.Call (.Name "super" p0) [] [] p1) en)
      standAt p2.atName
      let (f, first) ← holding [ov] (getMethod ov "__init__" pl)
      callWith p4 f first (backTo p4 (starEach [.Constant (.str text) j p3] en)) [])) ∧
    (∀ en : Env, swapsWith (.Call (.Attribute (.Call (.Name "super" p0) [] [] p1) "__init__" p2) [.Constant (.str text) j p3] [] p4) none p4.line en = pure false) ∧
    (∀ env : Env, swapsWith (.Name par p7) (some (.Attribute (.Name "self" p5) f p6)) p8.line env = pure false)
theorem keep_st {P : Program} {w : World} {K : Frag} {mg : Str → Option Value} {base : Heap} {CX : CXT} {k : Nat} {B newId i : String} {bmB : List Value} {C fI : Addr} {fd : FuncData} {qual f par text : Str} {st : Stmt} (X : XBase B newId i bmB) (T : XC K C B newId i bmB)
    (S : XFn P K C fI fd qual (defArgs st) (defBody st) (defScope st)) (Z : XSt st f par) (Y : XSz st f par text) (nf : findIn K (.ref C) f = some none) (opq : nsIn K cStatics "thirdparty.any" = some none) (msup : mg "super" = none)
    (htop : (P.main.scope.names.lookup ("super" : Str)).isSome = false) : FnOk P w K mg base CX (k + 1) fI fd [("self" : Str), par] (xKeep C f text) := by
  obtain ⟨j, p0, p1, p2, p3, p4, p5, p6, p7, p8, eb, hev, hsx, hsw⟩ := Y
  rw [eb] at S
  exact init_keep X T S nf opq msup htop Z.ks Z.kc Z.kself Z.kpar Z.kind Z.cell Z.co Z.gen Z.par0 Z.ps Z.pd hev hsx hsw
/-- all that was tracked is tracked still -/
def All (H H' : Hp) : Prop := ∀ b o, H b = some o → H' b = some o
def tKx (C : Addr) (z : Str) (te : TE) : TE := fun σ H Q => te σ H fun y H1 => tNil σ H1 fun ys H2 => ∃ y2, y :: ys = [y2] ∧ ∀ a H3, H2 a = none → All H2 H3 → Kx H3 a C z → Q (.ref a) H3
section
variable {X : Cx} {x : Str} {C fI : Addr} {k : Nat} {fd : FuncData} {par f z : Str} {e : Expr} {te : TE} {p pos : Pos} {B i : String}
/-- C(v) as a value -/
theorem pe_kx (T : XC X.K C B "ValueError.__new__" i mroV) (iC : findIn X.K (.ref C) "__init__" = some (some (.ref fI))) (tI : typeIn X.K (.ref fI) = some (.type "function"))
    (F1 : FnOk X.prog X.w X.K X.mg X.base CX0 k fI fd [("self" : Str), par] (xKeep C f z)) (room : Room (k + 1) X.A) (hb : Binds X.K fd [("self" : Str), par] []) (hg : Gl X x) (hm : X.mg x = some (.ref C)) (he : PE X e te)
    (hdb : (x == ("__debug__" : Str)) = false := by decide) (hs : starEach [e] X.env = (false, eval e X.env) :: starEach [] X.env := by rfl) (hpl : (backTo pos (starEach [] X.env)).any (·.1) = false := by rfl) :
    PE X (.Call (.Name x p) [e] [] pos) (tKx C z te) := by
  constructor
  intro pins s σ H Q I h
  obtain ⟨nm, q, N, bs, bm, sn, sub, ab, col, dd, k0, k1, k2, k3, k5, hC, htail⟩ := T.cls
  have args : PA X [e] (tCons te tNil) := pa_cons he pa_nil hs
  refine wpAny_Call_Name_kw (ld_glob I hg hm ?_ hdb)
  refine PySem.W.callWith_K (h₀ := X.base) I.ok.mod.kin T.kC (thn (args.run pos pins s σ H (fun vs H1 => ∃ y, vs = [y] ∧ ∀ a H2, H1 a = none → All H1 H2 → Kx H2 a C z → Q (.ref a) H2) I h) ?_) hs hpl
  rintro us s1 ⟨vs, H1, I1, rel, y, rfl, q1⟩
  refine ⟨I1.kIn, ?_⟩
  show wpAny _ _ (call (.ref C) us) _ _ _
  obtain ⟨u, rfl, ru⟩ := vals1 rel
  obtain ⟨hp, g, dr, tk, os⟩ := s1
  have kk : ∀ b o, hp.get? b = some o → ((hp.push (PySem.W.kdv_tup [u])).push (PySem.HandSPX.excO C hp.objs.size)).get? b = some o := fun b o e =>
    Heap.get?_push_of_some _ (Heap.get?_push_of_some _ e)
  have fresh : H1 (hp.objs.size + 1) = none := I1.hok.fresh (Nat.le_succ _)
  have there : ((hp.push (PySem.W.kdv_tup [u])).push (PySem.HandSPX.excO C hp.objs.size)).get? (hp.objs.size + 1) = some (PySem.HandSPX.excO C hp.objs.size) := by heap_get
  have I2 : Inv X pins σ (upd H1 (hp.objs.size + 1) (exo (hp.objs.size + 1) C none)) ⟨(hp.push (PySem.W.kdv_tup [u])).push (PySem.HandSPX.excO C hp.objs.size), g, dr, tk, os⟩ :=
    I1.laid (t' := tk) kk (Nat.le_succ _) (exo_ok there)
  have want : xKeep C f z [V.ref (hp.objs.size + 1), y] (upd H1 (hp.objs.size + 1) (exo (hp.objs.size + 1) C none)) (fun v H3 => v = .non ∧ Q (.ref (hp.objs.size + 1)) H3) E0 := by
    refine ⟨_, y, rfl, upd_same, fun dx t1 hd hda ht hta htd => ⟨rfl, q1 _ _ fresh ?_ ?_⟩⟩
    · intro b o hbo
      have nb := ne_of_none hbo fresh
      rw [upd_ne hda] at hd
      rw [upd_ne hta] at ht
      rw [upd_ne nb, upd_ne (ne_of_none hbo hd), upd_ne (ne_of_none hbo ht), upd_ne nb]
      exact hbo
    · refine ⟨t1, dx, [(f, y)], upd_same, ?_, ?_⟩
      · rw [upd_ne hda, upd_same]
      · rw [upd_ne hta, upd_ne htd, upd_same]
  refine wpAny_call (PySem.HandSPX.call_own F.excBase_ValueError (fun Y => PySem.HandSPX.refsVE_contains Y bm (refs_tail htail)) (I1.kIn _ _ hC) (PySem.W.looks_findIn I1.kIn iC) (fun self => PySem.W.bind_fn I1.kIn self tI) (by rw [sizeLine_eq]; simp) ?_)
  have r2 : Vals [V.ref (hp.objs.size + 1), y] [Value.ref (hp.objs.size + 1), u] := .cons rfl (.cons ru .nil)
  refine codeAny_mono (F1.run _ X.stack _ _ ⟨[Value.ref (hp.objs.size + 1), u], []⟩ [Value.ref (hp.objs.size + 1), u] _ _ E0 (room.make C [u] []) (I2.env0.make C [u] []) ?_ r2 want) ?_
  · have b := hb _ [Value.ref (hp.objs.size + 1), u] I2.kIn (by simp)
    exact b
  intro r s' hq
  cases r with
  | error er => exact False.elim hq
  | ok fl =>
    cases fl with
    | ret v =>
      obtain ⟨v2, H2, J, rv, ev, q2⟩ := I2.after hq
      subst ev
      exact ⟨rv, V.ref (hp.objs.size + 1), H2, J, rfl, q2⟩
    | next => exact False.elim hq
    | brk => exact False.elim hq
    | cont => exact False.elim hq
end
end JgX
namespace JgX
open PySem PySem.W PySem.Calls PyProof.Rows PySem.Spec L2
theorem g_kx {C : Addr} {z : Str} {y : V} {σ : L2.St} {H : Hp} {Q : VK} (q : ∀ a H3, H a = none → All H H3 → Kx H3 a C z → Q (.ref a) H3) : tKx C z (tC y) σ H Q := ⟨_, rfl, q⟩
end JgX
namespace JgX
open PySem PySem.W PySem.Calls PyProof.Rows PySem.Spec
open Builtin Builtin.Str Builtin.BaseException Builtin.Exceptions
/-- what the written part says of such a class's text -/
structure XR (K : Frag) (C : Addr) (n : Str) : Prop where
  rp : findIn K (.ref C) "__repr__" = some (some (.builtin "BaseException.__repr__"))
  exC : subIn K (.ref C) (.type "BaseException") = some true
  cl : ∃ cd, clsIn K C = some cd ∧ cd.name = n
def kxHead (n : Str) : Str := Str.ofString ((n.toString.cutAt '.').getLastD "")
def kxText (n z : Str) : Str := kxHead n ++ Str.ofString "(" ++ reprText z ++ Str.ofString ")"
section
variable {prog : Program} {w : World} {A : Around} {E : Value → Shared → Prop} {s : Shared} {K : Frag} {C e t0 : Addr} {n z : Str} {tz : Tok}
theorem name_kx {Q : String → Shared → Prop} (x : ExcC K C e t0 s.heap) (R : XR K C n) (q : Q n.toString s) : wpAny (model prog w) A (typeNameOfWhole (.ref e)) Q E s := by
  obtain ⟨cd, hc, rfl⟩ := R.cl
  unfold typeNameOfWhole shownTypeOf
  refine wpAny_bind (wpAny_bind (x.LT.here ?_))
  rw [if_neg (show ¬ ((Value.ref C == Value.type "builtin_function_or_method") = true) by simp)]
  refine wpAny_pure ?_
  show wpAny _ _ (classData C >>= fun c => pure c.name.toString) _ _ _
  exact wpAny_bind ((looks_clsIn x.1 hc).here (wpAny_pure q))
theorem reprAt_kx (b : Nat) {Q : Fin → Shared → Prop} (x : ExcC K C e t0 s.heap) (R : XR K C n) (ht : s.heap.TupAt t0 [.str z tz]) (sz : b + (kxText n z).length ≤ sizeLine)
    (q : Q (.done (.ret (.str (kxText n z) (s.toks + 1)))) { s with toks := s.toks + 1 + 1 }) : wpAny (model prog w) A (Builtin.bexcReprAt b ⟨[.ref e], []⟩) Q E s := by
  have one : (Str.ofString "(").length = 1 := by rw [PySem.ofString_length]; rfl
  have l := sz
  unfold kxText kxHead at l
  rw [strLen_append, strLen_append, strLen_append, one] at l
  have l2 : (kxText n z).length ≤ sizeLine := by omega
  unfold kxText kxHead at l2
  have l3 : (reprText z).length ≤ sizeLine := by omega
  have l4 : b + ((Str.ofString ((n.toString.cutAt '.').getLastD "")).length + 1) ≤ sizeLine := by omega
  unfold Builtin.bexcReprAt
  repeat (first
    | with_reducible refine name_kx x R ?_
    | with_reducible refine bexcArgs_C x ht ?_
    | rw [pyReprUnder_leaf (v := .str z tz) l4 (by intro a; nofun)]
    | with_reducible refine wpAny_pyRepr_str ?_
    | wp_step)
  exact q
theorem special_by {M : Model} {last : Value → List Value → Sem Value} {v tp : Value} {name : Str} {i : String} {Q : Option Value → Shared → Prop} (hT : Looks M s.heap (typeOf v) tp) (hf : Looks M s.heap (typeLookup tp name) (some (.builtin i)))
    (hb : bindSpecial (.builtin i) v = pure (.builtin i, [v])) (run : wpAny M A (last (.builtin i) [v]) (fun r => Q (some r)) E s) : wpAny M A (callSpecialIfBoundBy? last v name) Q E s := by
  have ends : wpAny M A (last (.builtin i) [v] >>= fun r => pure (some r)) Q E s := wpAny_bind (wpAny_mono run (fun r s1 y => wpAny_pure y) fun _ _ y => y)
  unfold callSpecialIfBoundBy? bindSpecialIfBound? specialOf
  refine wpAny_holding (wpAny_bind (wpAny_bind (wpAny_bind (hT.here (hf.here ?_)))))
  simp only [hb]
  refine wpAny_bind (wpAny_askSetting (wpAny_ite ?_))
  split
  · exact wpAny_bind (wpAny_pure (wpAny_pure ends))
  · exact wpAny_tryCatch (wpAny_bind (wpAny_pure (wpAny_pure ends)))
theorem reprK_kx {h₀ : Heap} (kin : K.In h₀) (R : XR K C n) {o : Obj} {vs : Array Value} (he : h₀.get? e = some o) (hc : o.cls = .ref C) (hd : o.data = .fields vs) (h0 : vs[0]? = some (.ref t0)) (ht : h₀.TupAt t0 [.str z tz]) :
    ReprK prog w [] h₀ 1 (.ref e) (kxText n z) := by
  intro base sz A g E s Q hg hcl hu hk hQ
  have x : ExcC K C e t0 s.heap := ⟨kin.keeps hk, o, vs, hk _ _ he, hc, hd, h0⟩
  have ht2 : s.heap.TupAt t0 [.str z tz] := by
    obtain ⟨ot, k, hto, r⟩ := ht
    exact ⟨ot, k, hk _ _ hto, r⟩
  have hf : Looks (model prog w) s.heap (typeLookup (.ref C) "__repr__") (some (.builtin "BaseException.__repr__")) := looks_findIn x.1 R.rp
  refine wpAny_pyReprUnder_ref (by omega) ?_
  unfold pyReprObjUnder pyReprObjBy
  refine wpAny_bind (wpAny_cRoomFor (by omega) ?_)
  unfold specialOf
  refine wpAny_bind (wpAny_bind (x.LT.here ?_))
  refine hf.here ?_
  simp only [Option.isNone_some, Bool.false_eq_true, if_false]
  refine wpAny_bind (special_by x.LT hf (F.excStr_Exception.repr.bind _) ?_)
  show wpAny (model prog w) A (call (.builtin "BaseException.__repr__.under") [.ref e, rawInt ↑base]) _ _ _
  refine wpAny_call (codeAny_call_builtin F.plain_bexc_repr_under F.entry_bexc_repr_under ?_)
  rw [F.check_bexc_repr_under]
  refine wpAny_pure ?_
  unfold Builtin.«BaseException.__repr__.under»
  rw [reprTwin_eq]
  refine wpAny_bind (@PySem.W.check_slot (model prog w) _ _ s "BaseException.__repr__" "BaseException" "__repr__" (.ref e) [] [] _ (by decide +kernel) (by decide +kernel) (x.LI R.exC) (F.args_bexc_repr _) ?_)
  refine reprAt_kx base x R ht2 sz ?_
  show wpAny (model prog w) A _ _ _ _
  refine wpAny_bind (wpAny_isInstance (T := "str") (b := true) rfl isSubtype_str_str ?_)
  exact wpAny_pure ⟨_, _, rfl, hQ s.heap _ fun _ _ y => y⟩
end
end JgX
namespace JgX
open PySem PySem.W PySem.Calls PyProof.Rows PySem.Spec L2
/-! ### repr of a list that holds such -/
/-- data, or a dict of one text with a number, or none -/
def Dq (K : Frag) (H : Hp) (v : V) (d : PyData) : Prop := (Dp K H v d ∧ d.hasDict = false) ∨ ∃ a, v = .ref a ∧ ((H a = some (.dK []) ∧ d = .dict []) ∨ ∃ (x : Str) (i : Int), H a = some (.dK [(.inr x, .int i)]) ∧ d = .dict [(.str x, .int i)])
theorem Dq.reads {X : Cx} {pins : List (Addr × Obj)} {σ : L2.St} {H : Hp} {s : Shared} (I : Inv X pins σ H s) {v : V} {d : PyData} {u : Value} (h : Dq X.K H v d) (r : RelV v u) : ∃ as, Reads s.heap u d as ∧ (d.hasDict = true → sysModules ∉ as) := by
  rcases h with ⟨h, nd⟩ | ⟨a, rfl, h⟩
  · obtain ⟨as, q⟩ := Dp.reads I d v u h r
    exact ⟨as, q, fun z => by rw [nd] at z; cases z⟩
  obtain rfl : u = Value.ref a := r
  have away : ∀ kvs, H a = some (.dK kvs) → sysModules ∉ [a] := fun kvs e z => by
    have y := (I.hok a _ e).2.1
    rw [List.mem_singleton.mp z] at y
    simp at y
  rcases h with ⟨e, rfl⟩ | ⟨x, i, e, rfl⟩
  · obtain ⟨_, _, vs, kv, o, es, ep, ho, ⟨hc, _, _⟩, hd, _, pr, _⟩ := I.hok a _ e
    cases kv
    have ees : es.toList = [] := by
      cases hh : es.toList with
      | nil => rfl
      | cons y ys => rw [hh] at pr; cases pr
    refine ⟨[a], ?_, fun _ => away _ e⟩
    exact Reads.dict (as := []) (bs := []) ho hc hd (by rw [ees]; exact .nil) (by rw [ees]; exact .nil)
  · obtain ⟨_, _, vs, kv, o, es, ep, ho, ⟨hc, _, _⟩, hd, _, pr, _⟩ := I.hok a _ e
    cases kv with
    | @cons _ w0 _ ws h1 h2 =>
    cases h2
    obtain ⟨k1, w1⟩ := w0
    obtain ⟨e1, t, e2⟩ := h1
    have e1' : Sum.inr x = k1 := e1
    have e2' : w1 = Value.int i t := e2
    subst e1'
    subst e2'
    cases hh : es.toList with
    | nil => rw [hh] at pr; cases pr
    | cons y ys =>
      rw [hh] at pr
      cases pr with
      | cons p1 p2 p3 =>
      cases p3
      refine ⟨[a], ?_, fun _ => away _ e⟩
      rcases keyIs_shape (show keyIs (Sum.inr x) y.key = true from p1) with ⟨i', t', z, _⟩ | ⟨x', t', z, ek⟩
      · cases z
      · cases z
        refine Reads.dict (as := []) (bs := []) ho hc hd ?_ ?_
        · rw [hh]
          show ReadsAll s.heap [y.key] [.str x] []
          rw [ek]
          exact .cons (as := []) (bs := []) (.str _ _) .nil
        · rw [hh]
          show ReadsAll s.heap [y.val] [.int i] []
          rw [p2]
          exact .cons (as := []) (bs := []) (.int _ _) .nil
/-- what repr shows of it -/
def Sw (K : Frag) (H : Hp) (v : V) (t : Str) : Prop := (∃ d, Dq K H v d ∧ d.showable = true ∧ d.depth ≤ 20 ∧ d.shown = t ∧ t.length ≤ 100000) ∨ ∃ (a C : Addr) (n z : Str), v = .ref a ∧ Kx H a C z ∧ XR K C n ∧ kxText n z = t ∧ t.length ≤ 100000
theorem Sw.len {K : Frag} {H : Hp} {v : V} {t : Str} (h : Sw K H v t) : t.length ≤ 100000 := by
  rcases h with ⟨_, _, _, _, _, l⟩ | ⟨_, _, _, _, _, _, _, _, l⟩ <;> exact l
theorem deep_item {h : Heap} : ∀ {vs : List Value} {ds : List PyData} {as : List Addr}, ReadsAll h vs ds as → ∀ (i : Nat) (u : Value), vs[i]? = some u → ∃ d0 as0, Reads h u d0 as0 ∧ d0.depth ≤ PyData.depthAll ds
  | _, _, _, .nil, i, u, e => by simp at e
  | _, _, _, .cons (ds := ds) r rs, 0, u, e => by
    simp at e
    subst e
    exact ⟨_, _, r, by simp only [PyData.depthAll]; exact Nat.le_max_left _ _⟩
  | _, _, _, .cons (ds := ds) r rs, i + 1, u, e => by
    obtain ⟨d0, as0, q, l⟩ := deep_item rs i u (by simpa using e)
    exact ⟨d0, as0, q, Nat.le_trans l (by simp only [PyData.depthAll]; exact Nat.le_max_right _ _)⟩
theorem Sw.item {X : Cx} {pins : List (Addr × Obj)} {σ : L2.St} {H : Hp} {s : Shared} (I : Inv X pins σ H s) {p : Addr} {op : Obj} {its : List Value} {n : Nat} (hp : s.heap.get? p = some op) (hc : op.cls = .type "list") (hd : op.data = .seq its.toArray n)
    {i : Nat} {u : Value} {v : V} {t : Str} (mem : its[i]? = some u) (r : RelV v u) (h : Sw X.K H v t) : ∃ bs, p ∉ bs ∧ ReprK X.prog X.w bs s.heap 20 u t := by
  rcases h with ⟨d, h, sh, dep, rfl, l⟩ | ⟨a, C, nm, z, rfl, k, R, rfl, l⟩
  · obtain ⟨as, rd, no⟩ := h.reads I r
    obtain ⟨bs, rb, rk⟩ := ReprK.of_reads (prog := X.prog) (w := X.w) rd sh no (Nat.le_trans l (by decide))
    refine ⟨bs, fun hm => ?_, rk.level_le dep⟩
    obtain ⟨d2, as2, r2, l2⟩ := rb p hm
    cases r2 with
    | list q1 q2 q3 q4 =>
      rw [hp] at q1
      cases q1
      rw [hd] at q3
      cases q3
      obtain ⟨d0, as0, r0, l0⟩ := deep_item q4 i u (by simpa using mem)
      obtain ⟨ed, _⟩ := PyProof.Rows.reads_det (fun _ _ e _ => e) rd r0
      rw [ed] at l0
      simp only [PyData.depth] at l2
      omega
    | tuple q1 q2 q3 q4 =>
      rw [hp] at q1
      cases q1
      rw [hc] at q2
      injection q2 with z
      exact absurd z (by decide)
    | dict q1 q2 q3 q4 q5 =>
      rw [hp] at q1
      cases q1
      rw [hc] at q2
      injection q2 with z
      exact absurd z (by decide)
  · obtain rfl : u = Value.ref a := r
    obtain ⟨t1, dx, fs, ea, ed, et⟩ := k
    have ho : s.heap.get? a = some (keptObj C t1 dx) := (I.hok a _ ea).1
    obtain ⟨_, its2, vv, tu⟩ := I.hok t1 _ et
    cases vv with
    | cons v1 v2 =>
    cases v2
    obtain ⟨tz, rfl⟩ := v1
    obtain ⟨ot, hot, hct, nt, hdt⟩ := tu
    refine ⟨[], by simp, (reprK_kx I.kIn R ho rfl rfl rfl (tz := tz) ?_).level_le (by decide)⟩
    exact ⟨ot, nt, hot, hct, hdt⟩
def rShow (K : Frag) : List V → Hp → VK → Prop := fun xs H Q => ∃ (p : Addr) (v1 v2 v3 : V) (t1 t2 t3 : Str), xs = [.ref p] ∧ H p = some (.lst [v1, v2, v3]) ∧ Sw K H v1 t1 ∧ Sw K H v2 t2 ∧ Sw K H v3 t3 ∧ Q (.str (listText [t1, t2, t3])) H
theorem call_show {X : Cx} {K : Frag} (gua : X.A.guards = some []) (hu : X.A.units + 64 < cLine) (hK : X.K = K := by rfl) : CallR X (.builtin "repr") (rShow K) := by
  subst hK
  intro pins s σ H xs us Q I rel h
  obtain ⟨p, v1, v2, v3, t1, t2, t3, rfl, e, s1, s2, s3, q⟩ := h
  obtain ⟨u, rfl, ru⟩ := vals1 rel
  obtain rfl : u = Value.ref p := ru
  obtain ⟨_, its, n, vv, hp⟩ := I.hok p _ e
  cases vv with
  | @cons _ u1 _ _ r1 vv =>
  cases vv with
  | @cons _ u2 _ _ r2 vv =>
  cases vv with
  | @cons _ u3 _ _ r3 vv =>
  cases vv
  obtain ⟨b1, n1, k1⟩ := s1.item I hp rfl rfl (i := 0) rfl r1
  obtain ⟨b2, n2, k2⟩ := s2.item I hp rfl rfl (i := 1) rfl r2
  obtain ⟨b3, n3, k3⟩ := s3.item I hp rfl rfl (i := 2) rfl r3
  have sz : (listText [t1, t2, t3]).length ≤ sizeLine := by
    have a := listText_len_le [t1, t2, t3]
    have l1 := s1.len
    have l2 := s2.len
    have l3 := s3.len
    simp at a
    exact Nat.le_trans (show _ ≤ 400000 by omega) (by decide)
  have sub1 : ∀ b ∈ b1, b ∈ b1 ++ (b2 ++ b3) := fun b h => List.mem_append_left _ h
  have sub2 : ∀ b ∈ b2, b ∈ b1 ++ (b2 ++ b3) := fun b h => List.mem_append_right _ (List.mem_append_left _ h)
  have sub3 : ∀ b ∈ b3, b ∈ b1 ++ (b2 ++ b3) := fun b h => List.mem_append_right _ (List.mem_append_right _ h)
  have np : p ∉ b1 ++ (b2 ++ b3) := by
    simp only [List.mem_append, not_or]
    exact ⟨n1, n2, n3⟩
  refine call_repr_slot (by omega) ⟨_, hp, rfl⟩ F.slot_list_repr.toG ?_
  refine call_list_reprK (as := b1 ++ (b2 ++ b3)) (h₀ := s.heap) (d := 20) (ts := [t1, t2, t3]) hp rfl rfl np rfl ?_ gua (fun b _ => Clear.nil b) ?_ (fun _ _ y => y) ?_ sz
  · intro i y hy
    match i with
    | 0 => simp at hy; subst hy; exact ⟨t1, rfl, k1.more sub1⟩
    | 1 => simp at hy; subst hy; exact ⟨t2, rfl, k2.more sub2⟩
    | 2 => simp at hy; subst hy; exact ⟨t3, rfl, k3.more sub3⟩
    | i + 3 => simp at hy
  · show X.A.units + 1 + (20 + 1) < cLine
    omega
  · intro h' u tk keep
    exact ⟨_, _, rfl, .str (listText [t1, t2, t3]), H, I.kept keep, ⟨u, rfl⟩, q⟩
end JgX
namespace JgX
open PySem PySem.W PySem.Calls PySem.Spec PySem.HandSPX
open Builtin Builtin.ObjectAttr
/-! ### a class whose maker stands further up among its bases (KeyError has none of its own) -/
structure Up (B : String) (bm : List Value) : Prop where
  here : bm.contains (.type B) = true
  noA : bm.contains (.type "AttributeError") = false
  noN : bm.contains (.type "NameError") = false
section
variable {M : Model} {prog : Program} {w : World} {A : Around} {E : Value → Shared → Prop} {R : Result → Shared → Prop} {h : Heap} {g : Array GenState} {d : Drawn} {t : Nat} {os : OsState}
variable {nm q : Str} {C N : Addr} {bs bm bmB : List Value} {hdct : Bool} {sn : List Str} {sub : List Value} {ab : Bool} {col : Option Bool} {dd : Option Addr} {k0 k1 k2 k3 k5 : Option Value} {B newId initId : String}
theorem up_cons {T : String} {b : Bool} (h : bm.contains (.type T) = b) : (Value.ref C :: bm).contains (.type T) = b := by
  rw [List.contains_cons, h]
  cases b <;> rfl
theorem up_check (F : ExcBaseFacts B newId initId bmB) (U : Up B bm) {rest : List Value} {kw : List (Str × Value)} {Q : Unit → Shared → Prop} (lk : h.get? C = some (excClassObj nm q C N bs bm hdct sn sub ab col dd k0 k1 k2 k3 k5 newId)) (z : Q () ⟨h, g, d, t, os⟩) :
    wpAny M A (checkBuiltinCall newId ⟨.ref C :: rest, kw⟩) Q E ⟨h, g, d, t, os⟩ := by
  have here := up_cons (C := C) U.here
  have star := F.noStar
  simp only [checkBuiltinCall, F.newKind, F.newSplit, F.newRow]
  repeat (first
    | refine wpAny_loadPart_at lk ?_
    | (refine wpAny_isSubtype_exc lk ?_; rw [here])
    | refine wpAny_staticBase_exc lk ?_
    | refine wpAny_madeBy_exc lk ?_
    | simp only [bne_self_eq_false, Bool.false_eq_true, if_false]
    | wp_step)
  exact z
theorem up_new (F : ExcBaseFacts B newId initId bmB) (U : Up B bm) {rest : List Value} {kw : List (Str × Value)} (lk : h.get? C = some (excClassObj nm q C N bs bm hdct sn sub ab col dd k0 k1 k2 k3 k5 newId)) (few : rest.length ≤ sizeLine)
    (z : R (.ok (.ret (.ref (h.objs.size + 1)))) ⟨(h.push (kdv_tup rest)).push (excO C h.objs.size), g, d, t, os⟩) : codeAny (model prog w) A (.builtin newId ⟨.ref C :: rest, kw⟩) R ⟨h, g, d, t, os⟩ := by
  have ends := F.ends
  have here := up_cons (C := C) U.here
  have noA := up_cons (C := C) U.noA
  have noN := up_cons (C := C) U.noN
  refine codeAny_builtinAt F.entry ?_
  unfold Builtin.«BaseException.__new__»
  refine wpAt_bind ?_
  show wpAt _ _ _ (stack >>= _) _ _ _
  refine wpAt_bind (wpAt_stack fun p below => wpAt_of_wpAny ?_)
  wp_walk
  refine wpAt_of_wpAny ?_
  rw [F.owner]
  repeat (first
    | with_reducible refine wpAny_madeHere_exc F.canon lk ?_
    | with_reducible refine wpAny_loadPart_at lk ?_
    | (with_reducible refine wpAny_isSubtype_exc lk ?_; first | rw [here] | rw [noA] | rw [noN])
    | wp_step)
  show R _ _
  rw [Heap.size_push]
  exact z
theorem up_type (F : ExcBaseFacts B newId initId bmB) (U : Up B bm) {rest : List Value} {kw : List (Str × Value)} {fv : Value} {Q : Fin → Shared → Prop} (lk : h.get? C = some (excClassObj nm q C N bs bm hdct sn sub ab col dd k0 k1 k2 k3 k5 newId)) (few : rest.length ≤ sizeLine)
    (hi : Looks (model prog w) h (typeLookup (.ref C) "__init__") (some fv)) (hb : ∀ self, Looks (model prog w) h (bindSpecial fv self) (fv, [self]))
    (z : codeAny (model prog w) A (.call fv ⟨.ref (h.objs.size + 1) :: rest, kw⟩) (fun r s' => match r with | .ok (.ret v) => v = .none ∧ Q (.done (.ret (.ref (h.objs.size + 1)))) s' | .ok _ => False | .error e => E e s') ⟨(h.push (kdv_tup rest)).push (excO C h.objs.size), g, d, t, os⟩) :
    wpAny (model prog w) A (Builtin.«type.__call__» ⟨.ref C :: rest, kw⟩) Q E ⟨h, g, d, t, os⟩ := by
  repeat (first
    | with_reducible refine wpAny_loadPart_at lk ?_
    | with_reducible refine wpAny_madeBy_exc lk ?_
    | wp_step)
  refine codeAny_call_builtin_code (Code.quiet_builtin _ F.quiet) (up_check F U lk (up_new F U lk few ?_))
  show wpAny _ _ _ _ _ _
  have up : ∀ b o, h.get? b = some o → ((h.push (kdv_tup rest)).push (excO C h.objs.size)).get? b = some o := fun b o e => Heap.get?_push_of_some _ (Heap.get?_push_of_some _ e)
  have there : ((h.push (kdv_tup rest)).push (excO C h.objs.size)).get? (h.objs.size + 1) = some (excO C h.objs.size) := by heap_get
  have self_ : (Value.ref C :: bm).contains (.ref C) = true := by simp
  have lk2 := up _ _ lk
  unfold isInstance
  repeat (first
    | with_reducible refine wpAny_loadPart_at there ?_
    | (with_reducible refine wpAny_isSubtype_exc lk2 ?_; rw [self_])
    | wp_step)
  show wpAny _ _ (typeLookup (.ref C) _) _ _ _
  refine (hi.keeps up).at (wpAny_holding (wpAny_bind (((hb (.ref (h.objs.size + 1))).keeps up).at (wpAny_bind (wpAny_call (codeAny_mono z fun r s' y => ?_))))))
  cases r with
  | error e => exact y
  | ok fl =>
    cases fl with
    | ret v =>
      obtain ⟨e, y⟩ := y
      subst e
      first
        | exact wpAny_pure (wpAny_pure y)
        | (wp_walk; exact y)
    | next => exact y.elim
    | brk => exact y.elim
    | cont => exact y.elim
theorem up_call (F : ExcBaseFacts B newId initId bmB) (U : Up B bm) {rest : List Value} {kw : List (Str × Value)} {fv : Value} (lk : h.get? C = some (excClassObj nm q C N bs bm hdct sn sub ab col dd k0 k1 k2 k3 k5 newId)) (few : rest.length ≤ sizeLine)
    (hi : Looks (model prog w) h (typeLookup (.ref C) "__init__") (some fv)) (hb : ∀ self, Looks (model prog w) h (bindSpecial fv self) (fv, [self]))
    (z : codeAny (model prog w) (A.under (.builtin "type.__call__" ⟨.ref C :: rest, kw⟩)) (.call fv ⟨.ref (h.objs.size + 1) :: rest, kw⟩) (InitBack (h.objs.size + 1) R) ⟨(h.push (kdv_tup rest)).push (excO C h.objs.size), g, d, t, os⟩) :
    codeAny (model prog w) A (.call (.ref C) ⟨rest, kw⟩) R ⟨h, g, d, t, os⟩ := by
  have l1 := tc_lookup
  have l2 := tc_bind (.ref C)
  have ty : (⟨h, g, d, t, os⟩ : Shared).TypeIs (.ref C) "type" := ⟨_, lk, rfl⟩
  refine codeAny_of_tree ?_
  show wpAny _ _ (callAny (.ref C) _) _ _ _
  repeat (any_goals (first
    | assumption
    | with_reducible refine wpAny_loadPart_at lk ?_
    | wp_step))
  refine ⟨rfl, codeAny_call_builtin_at (Code.quiet_builtin _ (by decide +kernel)) entry_typeCall (wpAny_check_type_call_sub lk (up_type F U lk few hi hb (codeAny_mono z fun r s' y => ?_)))⟩
  cases r with
  | error e => exact y
  | ok fl => cases fl <;> exact y
end
end JgX
namespace JgX
open PySem PySem.W
theorem tail_contains {bmB : List Value} : ∀ {l : List Value}, excTail bmB l = true → ∀ Y : String, l.contains (.type Y) = bmB.contains (.type Y) := by
  intro l
  induction l with
  | nil =>
    intro h Y
    have e : bmB = [] := by simpa [excTail] using h
    rw [e]
  | cons a r ih =>
    intro h Y
    rcases excTail_cases _ h with ⟨c, r', e, h'⟩ | e
    · cases e
      rw [List.contains_cons, ih h' Y]
      rfl
    · rw [e]
theorem up_tail {M : String} {bmB l : List Value} (h : excTail bmB l = true) (u : Up M bmB) : Up M l :=
  ⟨(tail_contains h M).trans u.here, (tail_contains h _).trans u.noA, (tail_contains h _).trans u.noN⟩
/-- the makers of the three families -/
structure Maker (newId : String) (bmB : List Value) : Prop where
  ex : ∃ (M i : String) (bm : List Value), ExcBaseFacts M newId i bm ∧ Up M bmB
theorem mkValue : Maker "ValueError.__new__" [.type "ValueError", .type "Exception", .type "BaseException", .type "object"] := ⟨_, _, _, F.excBase_ValueError, by decide +kernel, by decide +kernel, by decide +kernel⟩
theorem mkLookup : Maker "LookupError.__new__" [.type "LookupError", .type "Exception", .type "BaseException", .type "object"] := ⟨_, _, _, F.excBase_LookupError, by decide +kernel, by decide +kernel, by decide +kernel⟩
theorem mkKey : Maker "LookupError.__new__" [.type "KeyError", .type "LookupError", .type "Exception", .type "BaseException", .type "object"] := ⟨_, _, _, F.excBase_LookupError, by decide +kernel, by decide +kernel, by decide +kernel⟩
end JgX
namespace JgX
open PySem PySem.W PySem.Calls PySem.Spec PySem.HandSPX
open Builtin Builtin.ObjectAttr
/-! ### C(v) of a class without an __init__ of its own -/
section
variable {M : Model} {prog : Program} {w : World} {A : Around} {E : Value → Shared → Prop} {R : Result → Shared → Prop} {h : Heap} {g : Array GenState} {d : Drawn} {t : Nat} {os : OsState}
variable {nm q : Str} {C N : Addr} {bs bm bmB : List Value} {hdct : Bool} {sn : List Str} {sub : List Value} {ab : Bool} {col : Option Bool} {dd : Option Addr} {k0 k1 k2 k3 k5 : Option Value} {B newId i : String}
theorem ini_call (F : IniFacts B i) (hB : bm.contains (.type B) = true) {e : Addr} {oe : Obj} {rest : List Value} {Q : Unit → Shared → Prop} (lk : h.get? C = some (excClassObj nm q C N bs bm hdct sn sub ab col dd k0 k1 k2 k3 k5 newId)) (he : h.get? e = some oe) (oc : oe.cls = .ref C)
    (sp : splitId i = some (B, "__init__")) (z : Q () ⟨h, g, d, t, os⟩) : wpAny M A (checkBuiltinCall i ⟨.ref e :: rest, []⟩) Q E ⟨h, g, d, t, os⟩ := by
  have here := up_cons (C := C) hB
  have star := F.star
  simp only [checkBuiltinCall, F.kind, sp, F.row]
  repeat (first
    | (with_reducible refine wpAny_loadPart_at he ?_; rw [oc])
    | with_reducible refine wpAny_loadPart_at lk ?_
    | (with_reducible refine wpAny_isSubtype_exc lk ?_; rw [here])
    | wp_step)
  refine wpAny_onRaise ?_
  have free : ∀ (a b : String) (n : Nat), Bind.check ⟨.positional, "*", B, .self, [⟨"args", .varPos, false⟩]⟩ a b n (({ pos := Value.ref e :: rest } : Args).kw.map fun x => x.fst) = pure () := fun a b n => check_star_args _ _ _ _ _ _
  rw [free]
  exact wpAny_pure z
theorem up_init (F : IniFacts B i) (hB : bm.contains (.type B) = true) (sp : splitId i = some (B, "__init__")) {e t0 : Addr} {rest : List Value} (lk : h.get? C = some (excClassObj nm q C N bs bm hdct sn sub ab col dd k0 k1 k2 k3 k5 newId)) (he : h.get? e = some (excO C t0)) (few : rest.length ≤ sizeLine)
    (z : ∀ h' t1, (∀ b o, b ≠ e → h.get? b = some o → h'.get? b = some o) → h'.get? e = some (excO C t1) → h'.get? t1 = some (excTup rest) → h.objs.size ≤ t1 → R (.ok (.ret .none)) ⟨h', g, d, t, os⟩) :
    codeAny (model prog w) A (.call (.builtin i) ⟨.ref e :: rest, []⟩) R ⟨h, g, d, t, os⟩ :=
  codeAny_call_builtin F.slot.plain F.entry (ini_call F hB lk he rfl sp (exc_init_tree (cls := .ref C) (t0 := t0) (dv := none) (c2 := .none) (c3 := .none) (b4 := .bool false) he few fun h' a b c => z h' _ a b c (Nat.le_refl _)))
end
end JgX
namespace JgX
open PySem PySem.W PySem.Calls PyProof.Rows PySem.Spec L2
/-! ### exceptions as values, with their fields told, under any base -/
/-- at a: an exception of the class at C, made with the text z, these its fields -/
def KxF (H : Hp) (a C : Addr) (z : Str) (fs : List (Str × V)) : Prop := ∃ t1 dx : Addr, H a = some (.frz (keptObj C t1 dx) (exo a C (some dx))) ∧ H dx = some (exd dx fs) ∧ H t1 = some (.tup [.str z])
theorem KxF.kx {H : Hp} {a C : Addr} {z : Str} {fs : List (Str × V)} (h : KxF H a C z fs) : Kx H a C z := by
  obtain ⟨t1, dx, h1, h2, h3⟩ := h
  exact ⟨t1, dx, fs, h1, h2, h3⟩
theorem KxF.all {H H' : Hp} {a C : Addr} {z : Str} {fs : List (Str × V)} (s : All H H') (h : KxF H a C z fs) : KxF H' a C z fs := by
  obtain ⟨t1, dx, h1, h2, h3⟩ := h
  exact ⟨t1, dx, s _ _ h1, s _ _ h2, s _ _ h3⟩
def tKxF (C : Addr) (f z : Str) (te : TE) : TE := fun σ H Q => te σ H fun y H1 => tNil σ H1 fun ys H2 => ∃ y2, y :: ys = [y2] ∧ ∀ a H3, H2 a = none → All H2 H3 → KxF H3 a C z [(f, y2)] → Q (.ref a) H3
theorem g_kxF {C : Addr} {f z : Str} {y : V} {σ : L2.St} {H : Hp} {Q : VK} (q : ∀ a H3, H a = none → All H H3 → KxF H3 a C z [(f, y)] → Q (.ref a) H3) : tKxF C f z (tC y) σ H Q := ⟨_, rfl, q⟩
theorem g_kxFV {C : Addr} {f z : Str} {i : Nat} {y : V} {σ : L2.St} {H : Hp} {Q : VK} (e : σ[i]? = some (some y)) (q : ∀ a H3, H a = none → All H H3 → KxF H3 a C z [(f, y)] → Q (.ref a) H3) : tKxF C f z (tVar i) σ H Q := ⟨y, e, _, rfl, q⟩
section
variable {X : Cx} {x : Str} {C fI : Addr} {k : Nat} {fd : FuncData} {par f z : Str} {e : Expr} {te : TE} {p pos kpos : Pos} {B newId i : String} {bmB : List Value}
/-- C(v) as a value, under any base that makes its own -/
theorem pe_kxF (MK : Maker newId bmB) (T : XC X.K C B newId i bmB) (iC : findIn X.K (.ref C) "__init__" = some (some (.ref fI))) (tI : typeIn X.K (.ref fI) = some (.type "function"))
    (F1 : FnOk X.prog X.w X.K X.mg X.base CX0 k fI fd [("self" : Str), par] (xKeep C f z)) (room : Room (k + 1) X.A) (hb : Binds X.K fd [("self" : Str), par] []) (hg : Gl X x) (hm : X.mg x = some (.ref C)) (he : PE X e te)
    (hdb : (x == ("__debug__" : Str)) = false := by decide) (hs : starEach [e] X.env = (false, eval e X.env) :: starEach [] X.env := by rfl) (hpl : (backTo pos (starEach [] X.env)).any (·.1) = false := by rfl) :
    PE X (.Call (.Name x p) [e] [] pos) (tKxF C f z te) := by
  constructor
  intro pins s σ H Q I h
  obtain ⟨nm, q, N, bs, bm, sn, sub, ab, col, dd, k0, k1, k2, k3, k5, hC, htail⟩ := T.cls
  obtain ⟨MM, iM, bmM, FM, up0⟩ := MK.ex
  have args : PA X [e] (tCons te tNil) := pa_cons he pa_nil hs
  refine wpAny_Call_Name_kw (ld_glob I hg hm ?_ hdb)
  refine PySem.W.callWith_K (h₀ := X.base) I.ok.mod.kin T.kC (thn (args.run pos pins s σ H (fun vs H1 => ∃ y, vs = [y] ∧ ∀ a H2, H1 a = none → All H1 H2 → KxF H2 a C z [(f, y)] → Q (.ref a) H2) I h) ?_) hs hpl
  rintro us s1 ⟨vs, H1, I1, rel, y, rfl, q1⟩
  refine ⟨I1.kIn, ?_⟩
  show wpAny _ _ (call (.ref C) us) _ _ _
  obtain ⟨u, rfl, ru⟩ := vals1 rel
  obtain ⟨hp, g, dr, tk, os⟩ := s1
  have up : ∀ b o, hp.get? b = some o → ((hp.push (PySem.W.kdv_tup [u])).push (PySem.HandSPX.excO C hp.objs.size)).get? b = some o := fun b o e =>
    Heap.get?_push_of_some _ (Heap.get?_push_of_some _ e)
  have fresh : H1 (hp.objs.size + 1) = none := I1.hok.fresh (Nat.le_succ _)
  have there : ((hp.push (PySem.W.kdv_tup [u])).push (PySem.HandSPX.excO C hp.objs.size)).get? (hp.objs.size + 1) = some (PySem.HandSPX.excO C hp.objs.size) := by heap_get
  have I2 : Inv X pins σ (upd H1 (hp.objs.size + 1) (exo (hp.objs.size + 1) C none)) ⟨(hp.push (PySem.W.kdv_tup [u])).push (PySem.HandSPX.excO C hp.objs.size), g, dr, tk, os⟩ :=
    I1.laid (t' := tk) up (Nat.le_succ _) (exo_ok there)
  have want : xKeep C f z [V.ref (hp.objs.size + 1), y] (upd H1 (hp.objs.size + 1) (exo (hp.objs.size + 1) C none)) (fun v H3 => v = .non ∧ Q (.ref (hp.objs.size + 1)) H3) E0 := by
    refine ⟨_, y, rfl, upd_same, fun dx t1 hd hda ht hta htd => ⟨rfl, q1 _ _ fresh ?_ ?_⟩⟩
    · intro b o hbo
      have nb := ne_of_none hbo fresh
      rw [upd_ne hda] at hd
      rw [upd_ne hta] at ht
      rw [upd_ne nb, upd_ne (ne_of_none hbo hd), upd_ne (ne_of_none hbo ht), upd_ne nb]
      exact hbo
    · refine ⟨t1, dx, upd_same, ?_, ?_⟩
      · rw [upd_ne hda, upd_same]
      · rw [upd_ne hta, upd_ne htd, upd_same]
  refine wpAny_call (up_call FM (up_tail htail up0) (I1.kIn _ _ hC) (by rw [sizeLine_eq]; simp) (PySem.W.looks_findIn I1.kIn iC) (fun self => PySem.W.bind_fn I1.kIn self tI) ?_)
  have r2 : Vals [V.ref (hp.objs.size + 1), y] [Value.ref (hp.objs.size + 1), u] := .cons rfl (.cons ru .nil)
  refine codeAny_mono (F1.run _ X.stack _ _ ⟨[Value.ref (hp.objs.size + 1), u], []⟩ [Value.ref (hp.objs.size + 1), u] _ _ E0 (room.make C [u] []) (I2.env0.make C [u] []) ?_ r2 want) ?_
  · have b := hb _ [Value.ref (hp.objs.size + 1), u] I2.kIn (by simp)
    exact b
  intro r s' hq
  cases r with
  | error er => exact False.elim hq
  | ok fl =>
    cases fl with
    | ret v =>
      obtain ⟨v2, H2, J, rv, ev, q2⟩ := I2.after hq
      subst ev
      exact ⟨rv, V.ref (hp.objs.size + 1), H2, J, rfl, q2⟩
    | next => exact False.elim hq
    | brk => exact False.elim hq
    | cont => exact False.elim hq
/-- C(par=v) as a value -/
theorem pe_kxK (MK : Maker newId bmB) (T : XC X.K C B newId i bmB) (iC : findIn X.K (.ref C) "__init__" = some (some (.ref fI))) (tI : typeIn X.K (.ref fI) = some (.type "function"))
    (F1 : FnOk X.prog X.w X.K X.mg X.base CX0 k fI fd [("self" : Str), par] (xKeep C f z)) (room : Room (k + 1) X.A) (hb : ∀ (s : Shared) (a v : Value), X.K.In s.heap → BindsTo s fd ⟨[a], [(par, v)]⟩ [(("self" : Str), a), (par, v)]) (hg : Gl X x) (hm : X.mg x = some (.ref C)) (he : PE X e te)
    (hdb : (x == ("__debug__" : Str)) = false := by decide) (named : (backToKw pos (keywordEach [⟨some par, e, kpos⟩] X.env)).all (·.1.isSome) = true := by rfl) (hks : (backToKw pos (keywordEach [⟨some par, e, kpos⟩] X.env)).filterMap (·.1) = [par] := by rfl)
    (hpl : ((backTo pos (starEach [] X.env)).any (·.1) || (backToKw pos (keywordEach [⟨some par, e, kpos⟩] X.env)).any (·.1.isNone)) = false := by rfl) :
    PE X (.Call (.Name x p) [] [⟨some par, e, kpos⟩] pos) (tKxF C f z te) := by
  constructor
  intro pins s σ H Q I h
  obtain ⟨nm, q, N, bs, bm, sn, sub, ab, col, dd, k0, k1, k2, k3, k5, hC, htail⟩ := T.cls
  obtain ⟨MM, iM, bmM, FM, up0⟩ := MK.ex
  have args : PK X [⟨some par, e, kpos⟩] (tCons te tNil) := pk_cons he pk_nil
  refine wpAny_Call_Name_kw (ld_glob I hg hm ?_ hdb)
  refine PySem.W.callWith_KW0 (h₀ := X.base) I.ok.mod.kin T.kC named (thn (args.run pos pins s σ H (fun vs H1 => ∃ y, vs = [y] ∧ ∀ a H2, H1 a = none → All H1 H2 → KxF H2 a C z [(f, y)] → Q (.ref a) H2) I h) ?_) hpl
  rintro us s1 ⟨vs, H1, I1, rel, y, rfl, q1⟩
  refine ⟨I1.kIn, ?_⟩
  rw [hks]
  show wpAny _ _ (call (.ref C) [] ([par].zip us)) _ _ _
  obtain ⟨u, rfl, ru⟩ := vals1 rel
  obtain ⟨hp, g, dr, tk, os⟩ := s1
  have up : ∀ b o, hp.get? b = some o → ((hp.push (PySem.W.kdv_tup [])).push (PySem.HandSPX.excO C hp.objs.size)).get? b = some o := fun b o e =>
    Heap.get?_push_of_some _ (Heap.get?_push_of_some _ e)
  have fresh : H1 (hp.objs.size + 1) = none := I1.hok.fresh (Nat.le_succ _)
  have there : ((hp.push (PySem.W.kdv_tup [])).push (PySem.HandSPX.excO C hp.objs.size)).get? (hp.objs.size + 1) = some (PySem.HandSPX.excO C hp.objs.size) := by heap_get
  have I2 : Inv X pins σ (upd H1 (hp.objs.size + 1) (exo (hp.objs.size + 1) C none)) ⟨(hp.push (PySem.W.kdv_tup [])).push (PySem.HandSPX.excO C hp.objs.size), g, dr, tk, os⟩ :=
    I1.laid (t' := tk) up (Nat.le_succ _) (exo_ok there)
  have want : xKeep C f z [V.ref (hp.objs.size + 1), y] (upd H1 (hp.objs.size + 1) (exo (hp.objs.size + 1) C none)) (fun v H3 => v = .non ∧ Q (.ref (hp.objs.size + 1)) H3) E0 := by
    refine ⟨_, y, rfl, upd_same, fun dx t1 hd hda ht hta htd => ⟨rfl, q1 _ _ fresh ?_ ?_⟩⟩
    · intro b o hbo
      have nb := ne_of_none hbo fresh
      rw [upd_ne hda] at hd
      rw [upd_ne hta] at ht
      rw [upd_ne nb, upd_ne (ne_of_none hbo hd), upd_ne (ne_of_none hbo ht), upd_ne nb]
      exact hbo
    · refine ⟨t1, dx, upd_same, ?_, ?_⟩
      · rw [upd_ne hda, upd_same]
      · rw [upd_ne hta, upd_ne htd, upd_same]
  refine wpAny_call (up_call FM (up_tail htail up0) (I1.kIn _ _ hC) (by rw [sizeLine_eq]; simp) (PySem.W.looks_findIn I1.kIn iC) (fun self => PySem.W.bind_fn I1.kIn self tI) ?_)
  have r2 : Vals [V.ref (hp.objs.size + 1), y] [Value.ref (hp.objs.size + 1), u] := .cons rfl (.cons ru .nil)
  refine codeAny_mono (F1.run _ X.stack _ _ ⟨[Value.ref (hp.objs.size + 1)], [(par, u)]⟩ [Value.ref (hp.objs.size + 1), u] _ _ E0 (room.make C [] [(par, u)]) (I2.env0.make C [] [(par, u)]) ?_ r2 want) ?_
  · exact hb _ _ _ I2.kIn
  intro r s' hq
  cases r with
  | error er => exact False.elim hq
  | ok fl =>
    cases fl with
    | ret v =>
      obtain ⟨v2, H2, J, rv, ev, q2⟩ := I2.after hq
      subst ev
      exact ⟨rv, V.ref (hp.objs.size + 1), H2, J, rfl, q2⟩
    | next => exact False.elim hq
    | brk => exact False.elim hq
    | cont => exact False.elim hq
end
/-! ### e.f of such a value -/
theorem KxF.inst {X : Cx} {pins : List (Addr × Obj)} {σ : L2.St} {H : Hp} {s : Shared} {a C : Addr} {z : Str} {fs : List (Str × V)} (I : Inv X pins σ H s) (e : KxF H a C z fs) :
    ∃ (oe od : Obj) (dx : Addr) (mA : Str → Option Value), InstAt s.heap a oe C (some od) ∧ s.heap.Ns1 dx mA ∧ (∀ f, RelO (fs.lookup f) (mA f)) ∧ s.heap.get? dx = some od := by
  obtain ⟨t1, dx, ea, ed, _⟩ := e
  have ho : s.heap.get? a = some (keptObj C t1 dx) := (I.hok a _ ea).1
  obtain ⟨mA, hns, rel⟩ := exd_at I.hok ed
  obtain ⟨od, hod, hl⟩ := lookIn_ns hns
  exact ⟨_, od, dx, mA, ⟨ho, rfl, rfl, hod⟩, hns, rel, hod⟩
def tKg (K : PySem.W.Frag) (f : Str) (te : TE) : TE := fun σ H Q => te σ H fun x H1 => ∃ (a C : Addr) (z : Str) (fs : List (Str × V)) (v : V), x = .ref a ∧ KxF H1 a C z fs ∧ XfC K C ∧ findIn K (.ref C) f = some none ∧ fs.lookup f = some v ∧ Q v H1
theorem pe_kg {X : Cx} {K : PySem.W.Frag} {e : Expr} {te : TE} {pos : Pos} {n : Str} (he : PE X e te) (hb : attributeBase e n X.env (eval e X.env) = eval e X.env := by rfl) (hK : X.K = K := by rfl) : PE X (.Attribute e n pos) (tKg K n te) := by
  subst hK
  refine ⟨fun pins s σ H Q I h => ?_⟩
  refine attr_of hb (thn (he.run pins s σ H _ I h) fun u s1 hh => ?_)
  obtain ⟨x, H1, I1, rx, a, C, z, fs, v, rfl, k, T, hno, l, q⟩ := hh
  obtain rfl : u = Value.ref a := rx
  obtain ⟨oe, od, dx, mA, J, hns, rel, hod⟩ := k.inst I1
  obtain ⟨od', ho', hl⟩ := lookIn_ns hns
  obtain rfl : od' = od := Option.some.inj (ho'.symm.trans hod)
  obtain ⟨w, hw, rw'⟩ := RelO.some_of (v := v) (o := mA n) (by rw [← l]; exact rel n)
  exact HandSPX.exc_get I1.kIn J T.ga T.gg T.exC (findObj_own T.hdC hno rfl (by rw [hl, hw])) (handed_of rw') ⟨v, H1, I1.tok _, rw', q⟩
/-! ### C(v) of a class without an __init__ of its own, as a value -/
/-- what the written part says of such a class -/
structure Plain (K : PySem.W.Frag) (C : Addr) (B newId i : String) (bmB : List Value) : Prop where
  cls : ∃ nm q N bs bm sn sub ab col dd k0 k1 k2 k3 k5, K.lookup C = some (excClassObj nm q C N bs bm true sn sub ab col dd k0 k1 k2 k3 k5 newId) ∧ excTail bmB bm = true
  kC : keepIn K (.ref C) = true
  ini : findIn K (.ref C) "__init__" = some (some (.builtin i))
def tPl (C : Addr) (te : TE) : TE := fun σ H Q => te σ H fun y H1 => tNil σ H1 fun ys H2 => ∃ y2, y :: ys = [y2] ∧ ∀ a, H2 a = none → Q (.ref a) (upd H2 a (exo a C none))
theorem g_pl {C : Addr} {y : V} {σ : L2.St} {H : Hp} {Q : VK} (q : ∀ a, H a = none → Q (.ref a) (upd H a (exo a C none))) : tPl C (tC y) σ H Q := ⟨_, rfl, q⟩
theorem pe_plain {X : Cx} {x : Str} {C : Addr} {e : Expr} {te : TE} {p pos : Pos} {B newId i : String} {bmB : List Value} (MK : Maker newId bmB) (F : IniFacts B i) (hB : bmB.contains (.type B) = true) (sp : splitId i = some (B, "__init__")) (T : Plain X.K C B newId i bmB)
    (hg : Gl X x) (hm : X.mg x = some (.ref C)) (he : PE X e te)
    (hdb : (x == ("__debug__" : Str)) = false := by decide) (hs : starEach [e] X.env = (false, eval e X.env) :: starEach [] X.env := by rfl) (hpl : (backTo pos (starEach [] X.env)).any (·.1) = false := by rfl) :
    PE X (.Call (.Name x p) [e] [] pos) (tPl C te) := by
  constructor
  intro pins s σ H Q I h
  obtain ⟨nm, q, N, bs, bm, sn, sub, ab, col, dd, k0, k1, k2, k3, k5, hC, htail⟩ := T.cls
  obtain ⟨MM, iM, bmM, FM, up0⟩ := MK.ex
  have args : PA X [e] (tCons te tNil) := pa_cons he pa_nil hs
  refine wpAny_Call_Name_kw (ld_glob I hg hm ?_ hdb)
  refine PySem.W.callWith_K (h₀ := X.base) I.ok.mod.kin T.kC (thn (args.run pos pins s σ H (fun vs H1 => ∃ y, vs = [y] ∧ ∀ a, H1 a = none → Q (.ref a) (upd H1 a (exo a C none))) I h) ?_) hs hpl
  rintro us s1 ⟨vs, H1, I1, rel, y, rfl, q1⟩
  refine ⟨I1.kIn, ?_⟩
  show wpAny _ _ (call (.ref C) us) _ _ _
  obtain ⟨u, rfl, ru⟩ := vals1 rel
  obtain ⟨hp, g, dr, tk, os⟩ := s1
  have one : [u].length ≤ sizeLine := by rw [sizeLine_eq]; simp
  have up : ∀ b o, hp.get? b = some o → ((hp.push (PySem.W.kdv_tup [u])).push (PySem.HandSPX.excO C hp.objs.size)).get? b = some o := fun b o e =>
    Heap.get?_push_of_some _ (Heap.get?_push_of_some _ e)
  have there : ((hp.push (PySem.W.kdv_tup [u])).push (PySem.HandSPX.excO C hp.objs.size)).get? (hp.objs.size + 1) = some (PySem.HandSPX.excO C hp.objs.size) := by heap_get
  have lk := I1.kIn _ _ hC
  have inB : bm.contains (.type B) = true := (tail_contains htail B).trans hB
  refine wpAny_call (up_call (fv := .builtin i) FM (up_tail htail up0) lk one (PySem.W.looks_findIn I1.kIn T.ini) (fun self => Looks.of_pure (F.slot.bind self)) ?_)
  refine up_init F inB sp (up _ _ lk) there one fun h2 t1 k2 e2 _ _ => ?_
  have fresh : H1 (hp.objs.size + 1) = none := I1.hok.fresh (Nat.le_succ _)
  have keep : ∀ b o, hp.get? b = some o → h2.get? b = some o := fun b o e => k2 b o (Nat.ne_of_lt (Nat.lt_succ_of_lt (Heap.lt_size e))) (up b o e)
  exact ⟨rfl, .ref (hp.objs.size + 1), _, I1.laid (t' := tk) keep (Nat.le_succ _) (exo_ok e2), rfl, q1 _ fresh⟩
def rIsiO (K : PySem.W.Frag) : List V → Hp → VK → Prop := fun xs H Q => ∃ (a C : Addr) (c : V) (u : Value) (b : Bool), xs = [.ref a, c] ∧ ClsV c u ∧ H a = some (exo a C none) ∧ XA K C ∧ kitOne K (.ref C) u = some b ∧ Q (.bl b) H
theorem call_isiO {X : Cx} : CallR X (.builtin "isinstance") (rIsiO X.K) := by
  intro pins s σ H xs us Q I r h
  obtain ⟨a, C, c, u, b, rfl, k, ea, T, e, q⟩ := h
  obtain ⟨u1, u2, rfl, r1, r2⟩ := vals2 r
  have e2 := k.eq r2
  subst e2
  cases (show u1 = Value.ref a from r1)
  obtain ⟨t1, ho⟩ := exo_at I.hok ea
  exact kia_one (kitx_exc T.cl T.f.ga T.f.gg T.f.exC T.ha T.hn T.tk T.hm) I.kIn (⟨ho, rfl, rfl, trivial⟩ : InstAt s.heap a _ C none) e (fun z => nomatch z) fun tk => ⟨.bl b, H, I.tok tk, rfl, q⟩
/-- isinstance of data, of an exception with fields, of one without -/
theorem call_isi3 {X : Cx} {K : PySem.W.Frag} (hK : X.K = K := by rfl) : CallR X (.builtin "isinstance") (rEith (rEith (rIsi K) (rIsiX K)) (rIsiO K)) := by
  subst hK
  exact call_eith (call_eith call_isi call_isiX) call_isiO
end JgX
namespace Jg
open PySem PySem.Spec L2 JgX
/-! ### tuples of numbers and texts, which is ahead -/
def leafLt : V → V → Bool
  | .int i, .int j => decide (i < j)
  | .str a, .str b => decide (a.cps.toList < b.cps.toList)
  | _, _ => false
def alike : V → V → Bool
  | .int _, .int _ => true
  | .str _, .str _ => true
  | _, _ => false
def lexV (xs ys : List V) : Bool := Ob.lexAt (fun j => decide (xs.getD j .non = ys.getD j .non)) (fun j => leafLt (xs.getD j .non) (ys.getD j .non)) (decide (xs.length < ys.length)) 0 (min xs.length ys.length)
def pairsAlike (xs ys : List V) : Prop := ∀ j, j < xs.length → j < ys.length → alike (xs.getD j .non) (ys.getD j .non) = true
def rOrdT (K : PySem.W.Frag) (f : List V → List V → Bool) : R2 := fun x y H Q => ∃ a b xs ys, x = .ref a ∧ y = .ref b ∧ SqT K H a xs ∧ SqT K H b ys ∧ pairsAlike xs ys ∧ Q (.bl (f xs ys)) H
section
variable {A : Around} {s : Shared} {u v : V} {a b : Value}
theorem leaf_eq (ra : RelV u a) (rb : RelV v b) (h : alike u v = true) : SeqAt.EqAt A s a b (decide (u = v)) := by
  cases u <;> cases v <;> try (cases h)
  · rename_i i j
    obtain ⟨t, rfl⟩ := ra
    obtain ⟨t', rfl⟩ := rb
    have e : decide (V.int i = V.int j) = (i == j) := dec_int
    rw [e]
    exact SeqAt.EqAt.int_int _ _ _ _
  · rename_i x y
    obtain ⟨t, rfl⟩ := ra
    obtain ⟨t', rfl⟩ := rb
    have e : decide (V.str x = V.str y) = (x == y) := dec_str
    rw [e]
    exact SeqAt.EqAt.str_str _ _ _ _
theorem leaf_lt (ra : RelV u a) (rb : RelV v b) (h : alike u v = true) : Ob.RcOp .Lt A s a b (leafLt u v) := by
  cases u <;> cases v <;> try (cases h)
  · obtain ⟨t, rfl⟩ := ra
    obtain ⟨t', rfl⟩ := rb
    exact Ob.RcOp.lt_int _ _ _ _
  · obtain ⟨t, rfl⟩ := ra
    obtain ⟨t', rfl⟩ := rb
    exact fun _ _ _ _ q => PySem.P.lt_str q
theorem leaf_gt (ra : RelV u a) (rb : RelV v b) (h : alike u v = true) : Ob.RcOp .Gt A s a b (leafLt v u) := by
  cases u <;> cases v <;> try (cases h)
  · obtain ⟨t, rfl⟩ := ra
    obtain ⟨t', rfl⟩ := rb
    exact Ob.RcOp.gt_int _ _ _ _
  · obtain ⟨t, rfl⟩ := ra
    obtain ⟨t', rfl⟩ := rb
    exact fun _ _ _ _ q => PySem.P.gt_str q
end
theorem vals_at {xs : List V} {us : List Value} (r : Vals xs us) (j : Nat) (h : j < us.toArray.size) : RelV (xs.getD j .non) us.toArray[j] := by
  have l := r.length
  have hj : j < us.length := by simpa using h
  have hx : j < xs.length := by omega
  obtain ⟨u, hu, ru⟩ := r.get (i := j) (x := xs[j]) (by simp [hx])
  have e1 : xs.getD j .non = xs[j] := by simp [hx]
  have e2 : us.toArray[j] = u := by
    have : us[j]? = some us[j] := by simp [hj]
    rw [this] at hu
    simpa using hu
  rw [e1, e2]
  exact ru
theorem op_ltV {X : Cx} {K : PySem.W.Frag} (hu : X.A.units < cLine) (hK : X.K = K := by rfl) : OpR X (compareOp .Lt) (rOrdT K lexV) := by
  subst hK
  intro pins s σ H x y v u Q I rx ry h
  obtain ⟨a, b, xs, ys, rfl, rfl, ha, hb, al, q⟩ := h
  cases rx
  cases ry
  obtain ⟨is1, r1, p1, _⟩ := I.tuple ha
  obtain ⟨is2, r2, p2, _⟩ := I.tuple hb
  have l1 := r1.length
  have l2 := r2.length
  have key := Ob.RcOp.tuples_lt (A := X.A) (s := s) (e := fun j => decide (xs.getD j .non = ys.getD j .non)) (r := fun j => leafLt (xs.getD j .non) (ys.getD j .non)) p1 p2 hu
    (fun j j1 j2 => leaf_eq (vals_at r1 j j1) (vals_at r2 j j2) (al j (by simp at j1; omega) (by simp at j2; omega)))
    (fun j j1 j2 _ => leaf_lt (vals_at r1 j j1) (vals_at r2 j j2) (al j (by simp at j1; omega) (by simp at j2; omega)))
  rw [List.size_toArray, List.size_toArray, ← l1, ← l2] at key
  exact (key X.prog X.w X.xe (EP X pins σ Q) ⟨.bl _, H, I, rfl, q⟩ : wpAny (model X.prog X.w) X.A (compareOp .Lt (.ref a) (.ref b)) (EP X pins σ Q) X.xe s)
theorem op_gtV {X : Cx} {K : PySem.W.Frag} (hu : X.A.units < cLine) (hK : X.K = K := by rfl) : OpR X (compareOp .Gt) (rOrdT K fun xs ys => lexV ys xs) := by
  subst hK
  intro pins s σ H x y v u Q I rx ry h
  obtain ⟨a, b, xs, ys, rfl, rfl, ha, hb, al, q⟩ := h
  cases rx
  cases ry
  obtain ⟨is1, r1, p1, _⟩ := I.tuple ha
  obtain ⟨is2, r2, p2, _⟩ := I.tuple hb
  have l1 := r1.length
  have l2 := r2.length
  have key := Ob.RcOp.tuples_gt (A := X.A) (s := s) (e := fun j => decide (xs.getD j .non = ys.getD j .non)) (r := fun j => leafLt (ys.getD j .non) (xs.getD j .non)) p1 p2 hu
    (fun j j1 j2 => leaf_eq (vals_at r1 j j1) (vals_at r2 j j2) (al j (by simp at j1; omega) (by simp at j2; omega)))
    (fun j j1 j2 _ => leaf_gt (vals_at r1 j j1) (vals_at r2 j j2) (al j (by simp at j1; omega) (by simp at j2; omega)))
  rw [List.size_toArray, List.size_toArray, ← l1, ← l2] at key
  have e : lexV ys xs = Ob.lexAt (fun j => decide (xs.getD j .non = ys.getD j .non)) (fun j => leafLt (ys.getD j .non) (xs.getD j .non)) (decide (ys.length < xs.length)) 0 (min xs.length ys.length) := by
    unfold lexV
    rw [Nat.min_comm]
    congr 1
    funext j
    rw [Bool.eq_iff_iff, decide_eq_true_eq, decide_eq_true_eq]
    exact ⟨Eq.symm, Eq.symm⟩
  have q : Q (.bl (lexV ys xs)) H := q
  rw [e] at q
  exact (key X.prog X.w X.xe (EP X pins σ Q) ⟨.bl _, H, I, rfl, q⟩ : wpAny (model X.prog X.w) X.A (compareOp .Gt (.ref a) (.ref b)) (EP X pins σ Q) X.xe s)
theorem g_ordT {K : PySem.W.Frag} {f : List V → List V → Bool} {a b : Addr} {xs ys : List V} {H : Hp} {Q : VK} (h1 : SqT K H a xs) (h2 : SqT K H b ys) (al : pairsAlike xs ys) (q : Q (.bl (f xs ys)) H) : rOrdT K f (.ref a) (.ref b) H Q := ⟨a, b, xs, ys, rfl, rfl, h1, h2, al, q⟩
end Jg
namespace JgH
open PySem PySem.Spec PyProof.Rows HotX
/-! ### ends of iterators while an exception is handled -/
section
variable {prog : Program} {w : World} {A : Around} {E : Value → Shared → Prop} {s : Shared} {x1 : Addr}
/-- a StopIteration, made and raised there: what stood stands -/
theorem stop_hot {α : Type} {Q : α → Shared → Prop} (hot : HotAt A x1 s.heap)
    (hE : ∀ h' e, (∀ c o, s.heap.get? c = some o → h'.get? c = some o) → (∃ o, h'.get? e = some o ∧ o.cls = .type "StopIteration") → E (.ref e) { s with heap := h' }) :
    wpAny (model prog w) A ((do let e ← newExc (.type "StopIteration") []; raiseNew e) : Sem α) Q E s := by
  obtain ⟨hh, o1, vs1, g1, d1, c1⟩ := hot
  refine wpAny_bind ?_
  simp only [newExc, newTuple]
  refine wpAny_bind (wpAny_newObj_type ?_ (by size_fits))
  refine wpAny_bind (m := firstArgMember _ _) (wpAny_of_eq (a := Value.none) (by first | rfl | (simp only [firstArgMember]; rfl)) (wpAny_newObj_type ?_ (by size_fits)))
  have keep : ∀ {a b : Obj} (c : Addr) (o : Obj), s.heap.get? c = some o → ((s.heap.push a).push b).get? c = some o := fun c o e => Heap.get?_push_of_some _ (Heap.get?_push_of_some _ e)
  have lt : ∀ {a : Obj} {c : Addr} {o : Obj}, s.heap.get? c = some o → c ≠ (s.heap.push a).objs.size := fun e => Nat.ne_of_lt (Heap.lt_size (Heap.get?_push_of_some _ e))
  refine raiseNew_hot ⟨hh, o1, vs1, keep _ _ g1, d1, c1⟩ (lt g1) (Heap.get?_push_size _ rfl) rfl (by first | (simp; done) | (simp; omega)) (hE _ _ (fun c o e => ?_) ⟨_, Heap.get?_update_self _ (Heap.get?_push_size _ rfl) rfl, rfl⟩)
  rw [Heap.get?_update_other _ _ (lt e).symm]
  exact keep _ _ e
/-- the end of a list's iterator -/
theorem lend_hot {it l : Addr} {i : Nat} {items} {Q : Value → Shared → Prop} (hot : HotAt A x1 s.heap) (ne : x1 ≠ it) (hit : s.heap.IsListIter it l i) (hl : s.heap.IsList l items) (hx : items[i]? = none)
    (hE : ∀ h' e, (∀ c o, c ≠ it → s.heap.get? c = some o → h'.get? c = some o) → (∃ o, h'.get? e = some o ∧ o.cls = .type "StopIteration") → E (.ref e) { s with heap := h' }) :
    wpAny (model prog w) A (Builtin.SmallTypes.nextOf (.ref it)) Q E s := by
  obtain ⟨io, gi, ci, di⟩ := id hit
  obtain ⟨lo, gl, _, nl, dl⟩ := hl
  obtain ⟨hh, o1, vs1, g1, d1, c1⟩ := hot
  unfold Builtin.SmallTypes.nextOf
  refine wpAny_bind (wpAny_callSpecial?_slot (name := Str.ofString "__next__") hit.typeIs slot_listiter_next (wpAny_call_entry slot_listiter_next hit.typeIs entry_listiter_next ?_ (args_listiter_next _)))
  refine wpAny_bind (m := field (.ref it) 0) (wpAny_field gi di (x := .ref l) rfl ?_)
  have nn : ¬ ((Value.ref l == Value.none) = true) := Bool.false_ne_true
  show wpAny _ _ (if (Value.ref l == Value.none) = true then _ else _) _ _ s
  rw [if_neg nn]
  refine wpAny_bind (m := field (.ref it) 1) (wpAny_field gi di (x := .int i 0) rfl (wpAny_bind (m := seqItems? (.ref l)) (wpAny_seqItems gl dl ?_)))
  simp only [Int.toNat_natCast, hx]
  refine wpAny_bind (wpAny_rule (wpAny_bind (wpAny_setField gi di (by simp) ?_)))
  have keep : ∀ c o, c ≠ it → s.heap.get? c = some o → (s.heap.update it (Obj.mapFields (·.setIfInBounds 0 .none))).get? c = some o := fun c o n e => by
    rw [Heap.get?_update_other _ _ n.symm]
    exact e
  exact stop_hot (s := { s with heap := _ }) ⟨hh, o1, vs1, keep _ _ ne g1, d1, c1⟩ fun h' e k x => hE h' e (fun c o n q => k c o (keep c o n q)) x
/-- the end of zip, its first list at its end -/
theorem zend_hot {z TI TO i1 i2 l1 l2 : Addr} {k1 : Nat} {xs : Array Value} {a b : Value} {Q : Fin → Shared → Prop} (hot : HotAt A x1 s.heap) (nz : x1 ≠ z) (n1 : x1 ≠ i1) (D : ZipApart z TI TO i1 i2 l1 l2)
    (hz : IsZip s.heap z TI TO .none) (hTI : IsPair s.heap TI (.ref i1) (.ref i2)) (hTO : IsPair s.heap TO a b) (h1 : s.heap.IsListIter i1 l1 k1) (hl1 : s.heap.IsList l1 xs) (hend : xs[k1]? = none)
    (hE : ∀ h' e, (∀ c o, c ≠ z → c ≠ i1 → s.heap.get? c = some o → h'.get? c = some o) → (∃ o, h'.get? e = some o ∧ o.cls = .type "StopIteration") → E (.ref e) { s with heap := h' }) :
    wpAny (model prog w) A (Builtin.«zip.__next__» ⟨[.ref z], []⟩) Q E s := by
  obtain ⟨hh, o1, vs1, g1, d1, c1⟩ := hot
  refine wpAny_bind (m := field (.ref z) 2) (wpAny_field hz rfl (x := .bool false) rfl ?_)
  refine wpAny_bind (m := field (.ref z) 3) (wpAny_field hz rfl (x := .ref TI) rfl (wpAny_bind (wpAny_seqItems hTI rfl ?_)))
  refine wpAny_bind (m := Builtin.SmallTypes.ownedTupleIsFree (.ref z)) ?_
  unfold Builtin.SmallTypes.ownedTupleIsFree
  refine wpAny_bind (wpAny_field hz rfl (x := .none) rfl (wpAny_pure ?_))
  simp only [if_true]
  refine wpAny_bind (wpAny_rule (wpAny_bind (wpAny_field hz rfl (x := .ref TO) rfl (wpAny_bind (wpAny_setField_rec hz (by simp) fun g zg sg => ?_)))))
  have zg : IsZip g z TI TO .ellipsis := zg
  refine wpAny_bind ?_
  simp only [List.zipIdx_cons, List.zipIdx_nil, List.forIn_cons, List.forIn_nil]
  refine wpAny_bind (wpAny_bind (wpAny_onRaise (wpAny_bind (m := Builtin.SmallTypes.nextOf (.ref i1)) ?_)))
  have hot2 : HotAt A x1 g := ⟨hh, o1, vs1, sg.extBut _ _ nz g1, d1, c1⟩
  refine lend_hot (s := { s with heap := g }) hot2 n1 (h1.extBut sg.extBut D.i1z) (hl1.extBut sg.extBut D.l1z) hend fun g2 e k he => ?_
  obtain ⟨oe, hoe, hce⟩ := he
  have z2 : IsZip g2 z TI TO .ellipsis := k _ _ D.i1z.symm zg
  have ez : e ≠ z := fun x => by
    rw [x, z2] at hoe
    cases hoe
    simp at hce
  exact wpAny_setField_rec z2 (by simp) fun g3 _ s3 => hE g3 e (fun c o nc1 nc2 q => s3.extBut _ _ nc1 (k _ _ nc2 (sg.extBut _ _ nc1 q))) ⟨oe, s3.extBut _ _ ez hoe, hce⟩
theorem zip_end_hot {z TI TO i1 i2 l1 l2 : Addr} {k1 : Nat} {xs : Array Value} {a b : Value} {Q : Option Value → Shared → Prop} (hot : HotAt A x1 s.heap) (nz : x1 ≠ z) (n1 : x1 ≠ i1) (D : ZipApart z TI TO i1 i2 l1 l2)
    (hz : IsZip s.heap z TI TO .none) (hTI : IsPair s.heap TI (.ref i1) (.ref i2)) (hTO : IsPair s.heap TO a b) (h1 : s.heap.IsListIter i1 l1 k1) (hl1 : s.heap.IsList l1 xs) (hend : xs[k1]? = none)
    (q : ∀ h', (∀ c o, c ≠ z → c ≠ i1 → s.heap.get? c = some o → h'.get? c = some o) → Q none { s with heap := h' }) : wpAny (model prog w) A (pyNext (.ref z)) Q E s := by
  have ty : s.TypeIs (.ref z) "zip" := ⟨_, hz, rfl⟩
  unfold pyNext
  refine wpAny_bind (wpAny_attempt (wpAny_callSpecial?_slot (name := Str.ofString "__next__") ty F.slot_zip_next (wpAny_call_entry F.slot_zip_next ty F.entry_zip_next (zend_hot hot nz n1 D hz hTI hTO h1 hl1 hend fun h' e hk ⟨o, ho, hc⟩ => ?_) (F.args_zip_next_1 _))))
  exact wpAny_bind (wpAny_isInstance (T := "StopIteration") (b := true) ⟨o, ho, hc⟩ isSubtype_stop (wpAny_pure (q _ hk)))
/-- the end of a tuple's iterator -/
theorem tend_hot {it l : Addr} {i : Nat} {items : Array Value} {Q : Option Value → Shared → Prop} (hot : HotAt A x1 s.heap) (ne : x1 ≠ it) (hit : s.heap.IsTupleIter it l i) (hl : s.heap.IsTuple l items) (hx : items[i]? = none)
    (q : ∀ h', (∀ c o, c ≠ it → s.heap.get? c = some o → h'.get? c = some o) → Q none { s with heap := h' }) : wpAny (model prog w) A (pyNext (.ref it)) Q E s := by
  obtain ⟨io, gi, ci, di⟩ := id hit
  obtain ⟨lo, gl, _, nl, dl⟩ := hl
  obtain ⟨hh, o1, vs1, g1, d1, c1⟩ := hot
  unfold pyNext
  refine wpAny_bind (wpAny_attempt (wpAny_callSpecial?_slot (name := Str.ofString "__next__") hit.typeIs F.slot_tuple_iterator_next (wpAny_call_entry F.slot_tuple_iterator_next hit.typeIs F.entry_tuple_iterator_next ?_ (F.args_tuple_iterator_next_1 _))))
  refine wpAny_bind (m := field (.ref it) 0) (wpAny_field gi di (x := .ref l) rfl ?_)
  have nn : ¬ ((Value.ref l == Value.none) = true) := Bool.false_ne_true
  show wpAny _ _ (if (Value.ref l == Value.none) = true then _ else _) _ _ s
  rw [if_neg nn]
  refine wpAny_bind (m := field (.ref it) 1) (wpAny_field gi di (x := .int i 0) rfl (wpAny_bind (m := seqItems? (.ref l)) (wpAny_seqItems gl dl ?_)))
  simp only [Int.toNat_natCast, hx]
  refine wpAny_bind (wpAny_rule (wpAny_bind (wpAny_setField gi di (by simp) ?_)))
  have keep : ∀ c o, c ≠ it → s.heap.get? c = some o → (s.heap.update it (Obj.mapFields (·.setIfInBounds 0 .none))).get? c = some o := fun c o n e => by
    rw [Heap.get?_update_other _ _ n.symm]
    exact e
  refine stop_hot (s := { s with heap := _ }) ⟨hh, o1, vs1, keep _ _ ne g1, d1, c1⟩ fun h' e k ⟨oe, hoe, hce⟩ => ?_
  exact wpAny_bind (wpAny_isInstance (T := "StopIteration") (b := true) ⟨oe, hoe, hce⟩ isSubtype_stop (wpAny_pure (q _ fun c o n z => k c o (keep c o n z))))
/-- (a, b, ..) = a tuple of that length -/
theorem assign_hot {env : Env} {elts : List Expr} {k : Nat} {pos : Pos} {t : Addr} {items : Array Value} {Q : Unit → Shared → Prop} (hot : HotAt A x1 s.heap) (ht : s.heap.IsTuple t items)
    (hn : (assignEach elts env).length = items.size) (hstar : (assignEach elts env).findIdx? (·.1) = none)
    (q : ∀ h', (∀ c o, s.heap.get? c = some o → h'.get? c = some o) → wpAny (model prog w) A (assignInOrder ((assignEach elts env).map (·.2)) items.toList) Q E { s with heap := h' }) :
    wpAny (model prog w) A (assign (.Tuple elts k pos) env (.ref t)) Q E s := by
  have tn : t ≠ s.heap.objs.size := by
    obtain ⟨o, ho, _⟩ := ht
    exact Nat.ne_of_lt (Heap.lt_size ho)
  have xn : x1 ≠ s.heap.objs.size := by
    obtain ⟨_, o, _, ho, _⟩ := hot
    exact Nat.ne_of_lt (Heap.lt_size ho)
  rw [arm_assign_Tuple]
  refine wpAny_bind (wpAny_standAt ?_)
  unfold unpack
  rw [hn, hstar]
  refine wpAny_bind (wpAny_holding ?_)
  unfold unpackItems notIterableAtAll
  refine wpAny_bind (wpAny_bind (wpAny_specialOf ht.typeIs F.slot_tuple_iter.lookup (wpAny_pure ?_)))
  simp only [Bool.false_eq_true, if_false]
  refine wpAny_bind (wpAny_holding (wpAny_pyIter_tuple ht (wpAny_bind (wpAny_holding (wpAny_draw_tuple tn items.size 0 _ _ ⟨_, Heap.get?_push_size _ rfl, rfl, rfl⟩ (ht.push _) (by omega) fun g1 it1 s1 => ?_)))))
  rw [List.drop_zero, List.take_of_length_le (by simp), if_neg (by simp)]
  have up : ∀ c o, s.heap.get? c = some o → g1.get? c = some o := fun c o e => s1.extBut c o (Nat.ne_of_lt (Heap.lt_size e)) (Heap.get?_push_of_some _ e)
  have hot1 : HotAt A x1 g1 := by
    obtain ⟨hh, o, vs, ho, r⟩ := hot
    exact ⟨hh, o, vs, up _ _ ho, r⟩
  refine wpAny_bind (wpAny_holding (tend_hot (s := { s with heap := g1 }) hot1 xn it1 ((ht.push _).extBut s1.extBut tn) (by simp) fun g2 k2 => ?_))
  simp only [Option.isSome_none, Bool.false_eq_true, if_false]
  exact wpAny_pure (q g2 fun c o e => k2 c o (Nat.ne_of_lt (Heap.lt_size e)) (up c o e))
end
end JgH
namespace JgH
open PySem PySem.Spec PyProof.Rows HotX L2 L2H
/-! ### zip of two lists, turn by turn, whatever is handled -/
structure Zst (z TI TO i1 i2 a b : Addr) (i : Nat) (h : Heap) : Prop where
  zip : IsZip h z TI TO .none
  ins : IsPair h TI (.ref i1) (.ref i2)
  out : ∃ x y, IsPair h TO x y
  it1 : h.IsListIter i1 a i
  it2 : h.IsListIter i2 b i
theorem mem5 {c z TI TO i1 i2 : Addr} : c ∈ [z, TI, TO, i1, i2] ↔ c = z ∨ c = TI ∨ c = TO ∨ c = i1 ∨ c = i2 := by simp
theorem Zst.obj {z TI TO i1 i2 a b c : Addr} {i : Nat} {h : Heap} (S : Zst z TI TO i1 i2 a b i h) (m : c ∈ [z, TI, TO, i1, i2]) : ∃ o, h.get? c = some o ∧ ∀ v, o.data ≠ .cell v := by
  obtain ⟨s1, s2, ⟨x, y, s3⟩, ⟨o4, e4, _, d4⟩, ⟨o5, e5, _, d5⟩⟩ := S
  rcases mem5.mp m with rfl | rfl | rfl | rfl | rfl
  · exact ⟨_, s1, fun v z => by cases z⟩
  · exact ⟨_, s2, fun v z => by cases z⟩
  · exact ⟨_, s3, fun v z => by cases z⟩
  · exact ⟨_, e4, fun v z => by (rw [d4] at z; cases z)⟩
  · exact ⟨_, e5, fun v z => by (rw [d5] at z; cases z)⟩
theorem Zst.keep {z TI TO i1 i2 a b : Addr} {i : Nat} {h g : Heap} (S : Zst z TI TO i1 i2 a b i h) (k : ∀ c ∈ [z, TI, TO, i1, i2], ∀ o, h.get? c = some o → g.get? c = some o) : Zst z TI TO i1 i2 a b i g := by
  obtain ⟨s1, s2, ⟨x, y, s3⟩, s4, s5⟩ := S
  exact ⟨k _ (by simp) _ s1, k _ (by simp) _ s2, ⟨x, y, k _ (by simp) _ s3⟩, s4.at fun o e => k _ (by simp) o e, s5.at fun o e => k _ (by simp) o e⟩
section
variable {X : Cx} {pins : List (Addr × Obj)} {σ : L2.St} {H : Hp} {s : Shared} {z TI TO i1 i2 a b : Addr} {xs ys : List V} {E : Value → Shared → Prop}
theorem zip_item {elts : List Expr} {kk i : Nat} {tpos : Pos} {x y : V} (D : ZipApart z TI TO i1 i2 a b) (I : L2.Inv X pins σ H s) (F : ∀ c ∈ [z, TI, TO, i1, i2], FpOk X pins H c) (S : Zst z TI TO i1 i2 a b i s.heap)
    (h1 : SqL X.K H a xs) (h2 : SqL X.K H b ys) (e1 : xs[i]? = some x) (e2 : ys[i]? = some y) :
    wpAny (model X.prog X.w) X.A (pyNext (.ref z)) (fun r t1 => ∃ T, r = some (.ref T) ∧ H T = none ∧ wpAny (model X.prog X.w) X.A (letOwnedTupleGo (.Tuple elts kk tpos) (.ref z) (.ref T)) (fun _ t2 =>
      L2.Inv X pins σ (upd H T (.tup [x, y])) t2 ∧ Zst z TI TO i1 i2 a b (i + 1) t2.heap ∧ ∀ c ∈ [z, TI, TO, i1, i2], (upd H T (.tup [x, y])) c = none) E t1) E s := by
  have S0 := S
  obtain ⟨s1, s2, ⟨x0, y0, s3⟩, s4, s5⟩ := S0
  obtain ⟨us, ru, pu, _⟩ := I.list h1
  obtain ⟨ws, rw', pw, _⟩ := I.list h2
  obtain ⟨u, gu, r1⟩ := ru.get e1
  obtain ⟨w, gw, r2⟩ := rw'.get e2
  have new : H s.heap.objs.size = none := I.hok.fresh (Nat.le_refl _)
  have lt : ∀ c ∈ [z, TI, TO, i1, i2], c ≠ s.heap.objs.size := fun c m => by
    obtain ⟨o, e, _⟩ := S.obj m
    exact Nat.ne_of_lt (Heap.lt_size e)
  refine wpAny_pyNext_zip_item D s1 s2 s3 s4 s5 pu.isList pw.isList (x := u) (y := w) (by simpa using gu) (by simpa using gw) fun g t1 t2 t3 t4 t5 _ tk => ⟨_, rfl, new, ?_⟩
  refine wpAny_letOwnedTupleGo_zip (s := { s with heap := g }) t1 fun g2 v1 sb => ?_
  have up : ∀ c o, c ∉ [z, TI, TO, i1, i2] → s.heap.get? c = some o → g2.get? c = some o := fun c o m e => by
    have m := fun k => m (mem5.mpr k)
    rw [sb.2 c fun k => m (Or.inl k)]
    exact tk c o (fun k => m (Or.inl k)) (fun k => m (Or.inr (Or.inr (Or.inl k)))) (fun k => m (Or.inr (Or.inr (Or.inr (Or.inl k))))) (fun k => m (Or.inr (Or.inr (Or.inr (Or.inr k))))) e
  have nz : s.heap.objs.size ≠ z := (lt z (by simp)).symm
  have made : ObjOk X.prog X.w (upd H s.heap.objs.size (.tup [x, y])) g2 s.heap.objs.size (.tup [x, y]) :=
    ⟨(by decide : 2 ≤ sizeLine), [u, w], .cons r1 (.cons r2 .nil), ⟨_, (sb.2 _ nz).trans t5, rfl, _, rfl⟩⟩
  refine ⟨I.turnedNew (t' := s.toks) up F (Nat.le_refl _) made, ⟨v1, (sb.2 _ D.TIz).trans (tk _ _ D.TIz D.TITO D.TIi1 D.TIi2 s2), ⟨u, w, (sb.2 _ D.TOz).trans t2⟩, t3.at fun o e => (sb.2 _ D.i1z).trans e, t4.at fun o e => (sb.2 _ D.i2z).trans e⟩, fun c m => ?_⟩
  rw [upd_ne (lt c m)]
  exact (F c m).1
theorem zip_done {x1 : Addr} {i : Nat} (hot : HotAt X.A x1 s.heap) (ne : ∀ c ∈ [z, TI, TO, i1, i2], x1 ≠ c) (D : ZipApart z TI TO i1 i2 a b) (I : L2.Inv X pins σ H s) (F : ∀ c ∈ [z, TI, TO, i1, i2], FpOk X pins H c) (S : Zst z TI TO i1 i2 a b i s.heap)
    (h1 : SqL X.K H a xs) (l : xs.length ≤ i) : wpAny (model X.prog X.w) X.A (pyNext (.ref z)) (fun r t1 => r = none ∧ L2.Inv X pins σ H t1) E s := by
  obtain ⟨s1, s2, ⟨x0, y0, s3⟩, s4, s5⟩ := S
  obtain ⟨us, ru, pu, _⟩ := I.list h1
  have lu := ru.length
  refine zip_end_hot hot (ne z (by simp)) (ne i1 (by simp)) D s1 s2 s3 s4 pu.isList (by simp; omega) fun g k => ⟨rfl, I.turnedL (t' := s.toks) (ch := [z, TI, TO, i1, i2]) (fun c o m e => ?_) F⟩
  have m := fun k => m (mem5.mpr k)
  exact k c o (fun k => m (Or.inl k)) (fun k => m (Or.inr (Or.inr (Or.inr (Or.inl k))))) e
end
/-- [elt for a, b in zip(..) if ..]: D the new list, W what holds behind so many turns -/
def zipIn (K : PySem.W.Frag) (gs : TGs) (tt : TT) (te : TE) (vs : List Nat) (σ : L2.St) (Q : VK) : List V → Hp → Prop := fun us H1 => ∃ a b xs ys, us = [.ref a, .ref b] ∧ SqL K H1 a xs ∧ SqL K H1 b ys ∧ xs.length = ys.length ∧ ∀ D, H1 D = none → ∃ W : Nat → Hp → Prop,
  W 0 (upd H1 D (.lst [])) ∧ (∀ i H, W i H → SqL K H a xs ∧ SqL K H b ys) ∧ (∀ H, W xs.length H → Q (.ref D) H) ∧ ∀ i x y H T, W i H → xs[i]? = some x → ys[i]? = some y → H T = none →
    gs [x, y] (wipe σ vs) (upd H T (.tup [x, y])) fun σ2 H2 => wipe σ2 vs = wipe σ vs ∧ tt σ2 H2 fun c H3 => if c = true then te σ2 H3 fun v H4 => ∃ acc, H4 D = some (.lst acc) ∧ acc.length < sizeLine ∧ W (i + 1) (upd H4 D (.lst (acc ++ [v]))) else W (i + 1) H3
def tZip (K : PySem.W.Frag) (ta : TA) (gs : TGs) (tt : TT) (te : TE) (vs : List Nat) : TE := fun σ H Q => ta σ H (zipIn K gs tt te vs σ Q)
theorem g_zip {K : PySem.W.Frag} {ta : TA} {gs : TGs} {tt : TT} {te : TE} {vs : List Nat} {σ : L2.St} {H : Hp} {Q : VK} (q : ta σ H (zipIn K gs tt te vs σ Q)) : tZip K ta gs tt te vs σ H Q := q
section
variable {X : Cx} {elt e1 e2 : Expr} {elts ifs : List Expr} {scope : Scope} {own : List (Str × Nat)} {pos zp zq tpos : Pos} {kk : Nat} {ta : TA} {gs : TGs} {tt : TT} {te : TE}
abbrev zipComp (elt e1 e2 : Expr) (elts ifs : List Expr) (scope : Scope) (pos zp zq tpos : Pos) (kk : Nat) : Expr := .ListComp elt [⟨.Tuple elts kk tpos, .Call (.Name "zip" zp) [e1, e2] [] zq, ifs, 0⟩] scope pos
/-- the loop alone, in the block's own frame -/
theorem zip_loop {Y : Cx} {ce : Env} {R : Result → Shared → Prop} {pins : List (Addr × Obj)} {σ0 : L2.St} {vs : List Nat} {z TI TO i1 i2 a b D x1 : Addr} {xs ys : List V} {s : Shared} {W : Nat → Hp → Prop} {H0 : Hp} (hce : Y.env = ce)
    (D5 : ZipApart z TI TO i1 i2 a b) (hgs : PGs Y elts gs) (ht : PTs Y ifs tt) (he : PE Y elt te) (hn : (assignEach elts Y.env).length = 2) (hst : (assignEach elts Y.env).findIdx? (·.1) = none)
    (stat : ∀ {H' : Hp} {t : Shared}, L2.Inv Y pins (wipe σ0 vs) H' t → (∀ c ∈ [z, TI, TO, i1, i2], H' c = none) → (∀ c ∈ [z, TI, TO, i1, i2], FpOk Y pins H' c) ∧ HotAt Y.A x1 t.heap) (ne : ∀ c ∈ [z, TI, TO, i1, i2], x1 ≠ c)
    (stat2 : ∀ {σ' : L2.St} {H' : Hp} {t : Shared} {pl : List (Addr × Obj)}, L2.Inv Y (pins ++ pl) σ' H' t → HotAt Y.A x1 t.heap)
    (len : xs.length = ys.length) (keep : ∀ i H, W i H → SqL Y.K H a xs ∧ SqL Y.K H b ys) (fin : ∀ H t, L2.Inv Y pins (wipe σ0 vs) H t → W xs.length H → R (.ok .next) t)
    (step : ∀ i x y H T, W i H → xs[i]? = some x → ys[i]? = some y → H T = none → gs [x, y] (wipe σ0 vs) (upd H T (.tup [x, y])) fun σ2 H2 => wipe σ2 vs = wipe σ0 vs ∧ tt σ2 H2 fun c H3 => if c = true then te σ2 H3 fun v H4 => ∃ acc, H4 D = some (.lst acc) ∧ acc.length < sizeLine ∧ W (i + 1) (upd H4 D (.lst (acc ++ [v]))) else W (i + 1) H3)
    (hx : Y.xe = fun _ _ => False) (I : L2.Inv Y pins (wipe σ0 vs) H0 s) (F : ∀ c ∈ [z, TI, TO, i1, i2], H0 c = none) (S : Zst z TI TO i1 i2 a b 0 s.heap) (w0 : W 0 H0) :
    codeAny (model Y.prog Y.w) Y.A (.compLoop (zipComp elt e1 e2 elts ifs scope pos zp zq tpos kk) 0 (.ref z) (.ref D) ce) R s := by
  subst hce
  refine compLoop_any (fun m t => ∃ i H', m + i = xs.length ∧ L2.Inv Y pins (wipe σ0 vs) H' t ∧ Zst z TI TO i1 i2 a b i t.heap ∧ (∀ c ∈ [z, TI, TO, i1, i2], H' c = none) ∧ W i H') ?_ xs.length ⟨0, H0, by omega, I, S, F, w0⟩
  rintro m t ⟨i, H1, mi, J, S1, F1, w1⟩
  obtain ⟨q1, q2⟩ := keep i H1 w1
  obtain ⟨FF, hot⟩ := stat J F1
  cases m with
  | zero =>
    refine thnF (zip_done hot ne D5 J FF S1 q1 (by omega)) fun r t1 ⟨er, J1⟩ => ?_
    subst er
    have ei : i = xs.length := by omega
    subst ei
    exact fin H1 t1 J1 w1
  | succ m =>
    have li : i < xs.length := by omega
    have g1 : xs[i]? = some xs[i] := by simp [li]
    have g2 : ys[i]? = some (ys[i]'(len ▸ li)) := by simp [len ▸ li]
    refine thnF (zip_item (elts := elts) (kk := kk) (tpos := tpos) D5 J FF S1 q1 q2 g1 g2) fun r t1 ⟨T, er, hT, lt⟩ => ?_
    subst er
    refine thnF lt fun _ t2 ⟨J2, S2, F2⟩ => ?_
    have FF2 := (stat J2 F2).1
    have J3 := J2.pinned FF2 fun c m => S2.obj m
    have hot3 := stat2 J3
    obtain ⟨its, ri, pi, _⟩ := J3.tuple (Or.inl (Or.inl (upd_same : (upd H1 T (.tup [xs[i], ys[i]'(len ▸ li)])) T = _)))
    have li2 := ri.length
    refine assign_hot hot3 pi (by rw [hn]; simp at li2 ⊢; omega) hst fun g kg => ?_
    have J4 := J3.kept (t' := t2.toks) kg
    have stand : ∀ {H' : Hp} {t' : Shared} {σ' : L2.St}, L2.Inv Y (pins ++ pinsAt [z, TI, TO, i1, i2] t2.heap) σ' H' t' → wipe σ' vs = wipe σ0 vs → W (i + 1) H' → ∃ m', m' < m + 1 ∧ ∃ i H', m' + i = xs.length ∧ L2.Inv Y pins (wipe σ0 vs) H' t' ∧ Zst z TI TO i1 i2 a b i t'.heap ∧ (∀ c ∈ [z, TI, TO, i1, i2], H' c = none) ∧ W i H' := fun {H' t' σ'} K1 ew wn => by
      have pin : ∀ c ∈ [z, TI, TO, i1, i2], ∀ o, t2.heap.get? c = some o → t'.heap.get? c = some o ∧ H' c = none := fun c m o e =>
        have y := K1.pin (c, o) (List.mem_append_right _ (List.mem_append_right _ (mem_pinsAt m e)))
        ⟨y.1, y.2.1⟩
      refine ⟨m, Nat.lt_succ_self m, i + 1, H', by omega, K1.unpinned.weak (by rw [← ew, wipe_length]) (fun j v e => ?_), S2.keep fun c m o e => (pin c m o e).1, fun c m => ?_, wn⟩
      · rw [← ew] at e
        exact (wipe_some e).1
      · obtain ⟨o, e, _⟩ := S2.obj m
        exact (pin c m o e).2
    refine wpAny_mono (hgs.run _ _ _ _ _ _ _ J4 ri (step i _ _ H1 T w1 g1 g2 hT)) (fun _ t3 ⟨σ3, H3, J5, ew, q3⟩ => ?_) (fun e t' x => by (rw [hx] at x; exact x.elim))
    refine wpAny_mono (ht.run _ _ _ _ _ J5 q3) (fun c t4 ⟨H4, J6, q4⟩ => ?_) (fun e t' x => by (rw [hx] at x; exact x.elim))
    cases c with
    | false =>
      rw [if_neg Bool.false_ne_true] at q4
      exact stand J6 ew q4
    | true =>
      rw [if_pos rfl] at q4
      refine wpAny_mono (he.run _ _ _ _ _ J6 q4) (fun v t5 ⟨y, H5, J7, ry, acc, eD, sz, wn⟩ => ?_) (fun e t' x => by (rw [hx] at x; exact x.elim))
      exact app_ok J7 eD sz ry fun t6 J8 => stand J8 ew wn
theorem pe_lcZip (hc : HotC X) (hN : X.N.Nodup) (hg : Gl X "zip") (hm : X.mg "zip" = none) (ha : PA X [e1, e2] ta) (ok : BlkOk X.N X.env.scope scope own)
    (hgs : ∀ (s : Shared) (H : Hp) (C : Addr) (cl : List (Str × Addr)) (fp : List Addr), PGs (X.blk s H scope (compEnvC scope cl C X.env) fp) elts gs) (ht : ∀ (s : Shared) (H : Hp) (C : Addr) (cl : List (Str × Addr)) (fp : List Addr), PTs (X.blk s H scope (compEnvC scope cl C X.env) fp) ifs tt)
    (he : ∀ (s : Shared) (H : Hp) (C : Addr) (cl : List (Str × Addr)) (fp : List Addr), PE (X.blk s H scope (compEnvC scope cl C X.env) fp) elt te)
    (hn : ∀ env, (assignEach elts env).length = 2 := by intro _; rfl) (hst : ∀ env, (assignEach elts env).findIdx? (·.1) = none := by intro _; rfl) (hs : ∀ x, foldedSetIterable (.Call (.Name "zip" zp) [e1, e2] [] zq) X.env x = pure x := by intro _; rfl)
    (hse : starEach [e1, e2] X.env = (false, eval e1 X.env) :: starEach [e2] X.env := by rfl) (hpl : (backTo zq (starEach [e2] X.env)).any (·.1) = false := by rfl) :
    PE X (zipComp elt e1 e2 elts ifs scope pos zp zq tpos kk) (tZip X.K ta gs tt te (own.map (·.2))) := by
  refine ⟨fun pins s σ H Q I h => ?_⟩
  have cells : ∀ y ∈ scope.names, y.2 = .free → ∃ c, X.env.cells.lookup y.1 = some c := fun y m e => (ok.free y m e).elim (fun k => I.ok.has _ (.inl k)) fun k => I.ok.has _ (.inr k)
  rw [eval_ListComp]
  refine wpAny_comprehension_free rfl hs (closure_ok cells) ok.kind (fun y m e => (ok.uniq y m).trans (by rw [e])) ?_
  refine Call_ (ld_blt I hg hm PyProof.Rows.boot_zip (PyProof.Rows.callWith_type1 (thn (ha.run zq pins s σ H _ I h) fun us s1 q => ?_) hse hpl))
  obtain ⟨vs, H1, I1, rv, a, b, xs, ys, rfl, q1, q2, len, q⟩ := q
  obtain ⟨u1, u2, rfl, r1, r2⟩ : ∃ u1 u2, us = [u1, u2] ∧ RelV (.ref a) u1 ∧ RelV (.ref b) u2 := by
    cases rv with
    | cons x1 x2 =>
    cases x2 with
    | cons x3 x4 =>
    cases x4
    exact ⟨_, _, rfl, x1, x3⟩
  obtain rfl : u1 = Value.ref a := r1
  obtain rfl : u2 = Value.ref b := r2
  obtain ⟨l1, _, p1, _⟩ := I1.list q1
  obtain ⟨l2, _, p2, _⟩ := I1.list q2
  refine call_zip_2 p1.isList p2.isList fun g z1 z2 z3 z4 z5 _ zk => wpAny_pyIter_zip z1 ?_
  generalize hn0 : s1.heap.objs.size = n0 at *
  have ap : ZipApart (n0 + 4) (n0 + 2) (n0 + 3) n0 (n0 + 1) a b := PySem.W.ktu_apart n0 a b (by rw [← hn0]; exact p1.lt) (by rw [← hn0]; exact p2.lt)
  have I2 : L2.Inv X pins σ H1 { s1 with heap := g } := I1.kept (t' := s1.toks) zk
  have S0 : Zst (n0 + 4) (n0 + 2) (n0 + 3) n0 (n0 + 1) a b 0 g := ⟨z1, z2, ⟨_, _, z3⟩, z4, z5⟩
  have above : ∀ c ∈ [n0 + 4, n0 + 2, n0 + 3, n0, n0 + 1], n0 ≤ c := fun c m => by
    rcases mem5.mp m with rfl | rfl | rfl | rfl | rfl <;> omega
  have F0 : ∀ c ∈ [n0 + 4, n0 + 2, n0 + 3, n0, n0 + 1], FpOk X pins H1 c := fun c m => I1.fpOk (by rw [hn0]; exact above c m) (I1.hok.fresh (by rw [hn0]; exact above c m))
  generalize hs2 : ({ s1 with heap := g } : Shared) = s2 at I2 ⊢
  have S0 : Zst (n0 + 4) (n0 + 2) (n0 + 3) n0 (n0 + 1) a b 0 s2.heap := by rw [← hs2]; exact S0
  refine wpAny_newObj_type (newEnv_comp ?_) (Nat.zero_le _)
  have nD : H1 s2.heap.objs.size = none := I2.hok.fresh (Nat.le_refl _)
  obtain ⟨W, w0, keep, fin, step⟩ := q _ nD
  generalize hD : s2.heap.objs.size = D at nD w0 fin step ⊢
  generalize hs3 : ({ s2 with heap := s2.heap.push { cls := .type "list", data := .seq ([] : List Value).toArray } } : Shared) = s3
  have g3 : s3.heap = s2.heap.push { cls := .type "list", data := .seq ([] : List Value).toArray } := by rw [← hs3]
  have I3 : L2.Inv X pins σ (upd H1 D (.lst [])) s3 := by
    subst hs3
    refine I2.laid (t' := s2.toks) (fun c o e => Heap.get?_push_of_some _ e) (Nat.le_of_eq hD) ⟨Nat.zero_le _, [], 0, .nil, ?_⟩
    subst hD
    exact Heap.get?_push_size _ rfl
  have lt3 : ∀ c ∈ [n0 + 4, n0 + 2, n0 + 3, n0, n0 + 1], c < s2.heap.objs.size := fun c m => by
    obtain ⟨o, e, _⟩ := S0.obj m
    exact Heap.lt_size e
  have F3 : ∀ c ∈ [n0 + 4, n0 + 2, n0 + 3, n0, n0 + 1], FpOk X pins (upd H1 D (.lst [])) c ∧ c < s3.heap.objs.size := fun c m => by
    refine ⟨⟨?_, (F0 c m).2⟩, by rw [g3, Heap.size_push]; exact Nat.lt_succ_of_lt (lt3 c m)⟩
    rw [upd_ne (by rw [← hD]; exact Nat.ne_of_lt (lt3 c m))]
    exact (F0 c m).1
  have S3 : Zst (n0 + 4) (n0 + 2) (n0 + 3) n0 (n0 + 1) a b 0 s3.heap := S0.keep fun c _ o e => by (rw [g3]; exact Heap.get?_push_of_some _ e)
  have J := block_start I3 ok hN F3
  generalize hH3 : upd H1 D (.lst []) = H3 at *
  have N0 : ∀ c ∈ [n0 + 4, n0 + 2, n0 + 3, n0, n0 + 1], H3 c = none := fun c m => (F3 c m).1.1
  obtain ⟨pn, hot1, hpn⟩ := hc
  have hotX : HotC X := ⟨pn, hot1, hpn⟩
  have apart : ∀ c ∈ [n0 + 4, n0 + 2, n0 + 3, n0, n0 + 1], pn.1 ≠ c := fun c m => (F3 c m).1.2.2.2.2.2 pn (List.mem_append_left _ hpn)
  have go := hgs s3 H3 s3.heap.objs.size (cellsFrom (s3.heap.objs.size + 1) scope.names (cloFrom X.env.cells scope.names [])) [n0 + 4, n0 + 2, n0 + 3, n0, n0 + 1]
  have to := ht s3 H3 s3.heap.objs.size (cellsFrom (s3.heap.objs.size + 1) scope.names (cloFrom X.env.cells scope.names [])) [n0 + 4, n0 + 2, n0 + 3, n0, n0 + 1]
  have eo := he s3 H3 s3.heap.objs.size (cellsFrom (s3.heap.objs.size + 1) scope.names (cloFrom X.env.cells scope.names [])) [n0 + 4, n0 + 2, n0 + 3, n0, n0 + 1]
  show codeAny _ _ (.compStart (zipComp elt e1 e2 elts ifs scope pos zp zq tpos kk) 0 (.ref (n0 + 4)) (.ref D) (compEnvC scope (cellsFrom (s3.heap.objs.size + 1) scope.names (cloFrom X.env.cells scope.names [])) s3.heap.objs.size X.env)) (compPost (model X.prog X.w) X.A X.xe none _ (.ref D) s3.heap.objs.size) { s3 with heap := pushCells (s3.heap.push { cls := .type "dict", data := .dict #[] }) scope.names }
  generalize hce : compEnvC scope (cellsFrom (s3.heap.objs.size + 1) scope.names (cloFrom X.env.cells scope.names [])) s3.heap.objs.size X.env = ce at J go to eo ⊢
  have cL : ce.locals = s3.heap.objs.size := by subst hce; rfl
  generalize hs4 : ({ s3 with heap := pushCells (s3.heap.push { cls := .type "dict", data := .dict #[] }) scope.names } : Shared) = s4 at J ⊢
  have S4 : Zst (n0 + 4) (n0 + 2) (n0 + 3) n0 (n0 + 1) a b 0 s4.heap := S3.keep fun c _ o e => by (rw [← hs4]; exact pushCells_keeps _ _ _ _ (Heap.get?_push_of_some _ e))
  have back : ∀ {σ' : L2.St} {H' : Hp} {t : Shared} {pl : List (Addr × Obj)}, L2.Inv (X.blk s3 H3 scope ce [n0 + 4, n0 + 2, n0 + 3, n0, n0 + 1]) pl σ' H' t → L2.Inv X pins σ H' t := fun {σ' H' t pl} K1 =>
    I3.call' (ch := [n0 + 4, n0 + 2, n0 + 3, n0, n0 + 1]) K1.os K1.base K1.hok K1.bare fun c m => ⟨(F3 c m).1.2.2.2.1, (F3 c m).1.2.1, (F3 c m).1.2.2.2.2.1, (F3 c m).1.2.2.2.2.2⟩
  have hotAt : ∀ {H' : Hp} {t : Shared}, L2.Inv X pins σ H' t → HotAt X.A pn.1 t.heap := fun {H' t} K1 => by
    obtain ⟨hh, v1, e1, c1⟩ := hot1
    exact ⟨hh, pn.2, v1, (K1.pin pn (List.mem_append_left _ hpn)).1, e1, c1⟩
  have loop := zip_loop (Y := X.blk s3 H3 scope ce [n0 + 4, n0 + 2, n0 + 3, n0, n0 + 1]) (ce := ce) (pins := []) (σ0 := σ) (vs := own.map (·.2)) (s := s4) (H0 := H3) (D := D) (x1 := pn.1) (W := W) (zp := zp) (zq := zq) (tpos := tpos) (kk := kk) (pos := pos) (scope := scope) (e1 := e1) (e2 := e2)
    (R := compPost (model X.prog X.w) X.A X.xe none (EP X pins σ Q) (.ref D) s3.heap.objs.size) rfl ap go to eo (hn _) (hst _)
    (fun {H' t} K1 hnone => ⟨fun c m => ⟨hnone c m, (K1.ok.exf c m).1, K1.ok.exfs c m, .inl m, fun x c' e => (K1.ok.exf c m).2 x c' e, fun p hp => absurd (hp : p ∈ ([] : List (Addr × Obj)) ++ []) (by simp)⟩, hotAt (back K1)⟩) apart (fun {σ' H' t pl} K1 => hotAt (back K1)) len keep
    (fun H' t K1 wn => by
      have K2 := back K1
      obtain ⟨m, hm1, _⟩ := K1.loc
      have hm1 : t.heap.Ns ce.locals m := hm1
      have hfree : H' ce.locals = none := K1.free
      rw [cL] at hm1 hfree
      obtain ⟨f0, f1, f2, f3, f4, f5⟩ := I3.fpOk (Nat.le_refl _) hfree
      exact ⟨m, hm1, fun h'' sb => ⟨.ref D, H', K2.turned (t' := t.toks) (fun c o hb e => (sb.2 c hb).trans e) f0 f1 f3 f4 f5, rfl, fin H' wn⟩⟩)
    step rfl J N0 S4 w0
  exact codeAny_compStart_list loop (wpAny_pyIter_zip S4.zip loop)
end
end JgH
namespace JgH
open PySem PySem.Spec PyProof.Rows HotX L2 L2H
/-- what a def promises that is called while the exception at p.1 is handled, repr's guards being empty; the promise may speak of that exception -/
structure FnX (P : Program) (w : World) (K : PySem.W.Frag) (mg : Str → Option Value) (base : Heap) (k : Nat) (f : Addr) (fd : FuncData) (ps : List Str) (sp : Addr → Value → Option Addr → Sp) : Prop where
  many : ∀ a c d vs H Q E, sp a c d vs H Q E → vs.length = ps.length
  go : ∀ (A : Around) (outer : List Env) (s : Shared) (H : Hp) (args : Args) (us : List Value) (vs : List V) (Q : VK) (E : XK) (p : Addr × Obj),
    RoomH k A → A.guards = some [] → Hot1 A p → PinOk outer H s p → Env0 P w K mg base A outer s H → BindsTo s fd args (ps.zip us) → Vals vs us → sp p.1 p.2.cls p.2.dict vs H Q E → codeAny (model P w) A (.call (.ref f) args) (CR CX0 outer P w H s Q E) s
section
variable {P : Program} {w : World} {K : PySem.W.Frag} {mg : Str → Option Value} {base : Heap}
theorem fnX_of {x qual : Str} {st : Stmt} {f : Addr} {fd : FuncData} {N ps : List Str} {k : Nat} {sp : Addr → Value → Option Addr → Sp} (F : Fun K x qual st f fd) (S : FnScope N ps (defScope st))
    (len : ∀ a c d vs H Q E, sp a c d vs H Q E → vs.length = ps.length)
    (body : ∀ (cdv : Value) (A : Around) (outer : List Env) (s : Shared) (H : Hp) (vs : List V) (Q : VK) (E : XK) (p : Addr × Obj),
      RoomH k (A.deeper (envOfC qual (defScope st) s.heap.objs.size f cdv)) → A.guards = some [] → Hot1 A p → sp p.1 p.2.cls p.2.dict vs H Q E →
      ∃ t, PSs (cxH CX0 P w K mg base N qual (defScope st) f cdv A outer s H E p).nox (defBody st) t ∧ t { nx := fun _ H' => Q .non H', rt := Q } (L2.start N vs) H) :
    FnX P w K mg base (k + 1) f fd ps sp := by
  obtain ⟨oc, od, kV, doc, pm, an, cdv, ct, osl, efd, lk, hcd⟩ := F.ex
  subst efd
  refine ⟨len, fun A outer s H args us vs Q E p room gua hot pin env bnd rel want => ?_⟩
  have kin : K.In s.heap := env.mod.kin.keeps fun b o e => (env.bs b o e).1
  have lim : s.heap.NoLimit := env.mod.nolimit.keeps fun b o e => (env.bs b o e).1
  have kinds : ∀ y ∈ ps.zip us, (defScope st).names.lookup y.1 = some .local ∨ ((defScope st).names.lookup y.1 = some .cell ∧ ((cellsFrom (s.heap.objs.size + 1) (defScope st).names []).lookup y.1).isSome = true) := by
    intro y hy
    cases S.par y.1 (List.of_mem_zip (a := y.1) (b := y.2) hy).1 with
    | inl q => exact Or.inl q
    | inr q => exact Or.inr ⟨q, PySem.W.cellsFrom_some _ _ _ (Or.inl q)⟩
  refine codeAny_call_function room.depth (kin _ _ lk) rfl S.co S.gen rfl (PySem.W.codeRec_of kin hcd) (bnd _ _ _ _ (wpAny_newFunctionEnv_cells S.kind kinds ?_))
  intro e2 he2 s1 x
  subst he2
  refine ⟨lim.keeps x.toInCall.keep, codeAny_func ?_⟩
  obtain ⟨t, ht, hq⟩ := body cdv A outer s H vs Q E p (room.deeper _) gua hot want
  have I := inv_startH (CX := CX0) (qual := qual) (f := f) (cd := cdv) (E := E) S pin env (len _ _ _ _ _ _ _ want) rel x
  refine wpAny_mono (ht.nox.run [] s1 (L2.start N vs) H _ I hq) ?_ (fun e s' hs => hs)
  intro fl s' hs
  cases fl with
  | ret u =>
    obtain ⟨v, σ', H', J, rv, q⟩ := hs
    exact ⟨v, H', J.os, J.bare, J.base, J.hok, rv, q⟩
  | next =>
    obtain ⟨σ', H', J, q⟩ := hs
    exact ⟨V.non, H', J.os, J.bare, J.base, J.hok, rfl, q⟩
  | brk =>
    obtain ⟨σ', H', J, q⟩ := hs
    exact False.elim q
  | cont =>
    obtain ⟨σ', H', J, q⟩ := hs
    exact False.elim q
end
section
variable {X : Cx} {k : Nat} {f : Addr} {fd : FuncData} {ps : List Str} {sp : Addr → Value → Option Addr → Sp} {x : Str} {p pos : Pos} {e : Expr} {es : List Expr} {t : TA} {pn : Addr × Obj}
/-- f(..) of such a def, in the suite or in a def called there -/
theorem pe_callX (F : FnX X.prog X.w X.K X.mg X.base k f fd ps sp) (room : RoomH k X.A) (gua : X.A.guards = some []) (hot : Hot1 X.A pn) (hpn : pn ∈ X.pn) (hg : Gl X x) (hm : X.mg x = some (.ref f)) (hk : PySem.W.keepIn X.K (.ref f) = true)
    (hb : Binds X.K fd ps []) (args : PA X (e :: es) t) (hdb : (x == ("__debug__" : Str)) = false := by decide)
    (he : starEach (e :: es) X.env = (false, eval e X.env) :: starEach es X.env := by rfl) (hpl : (backTo pos (starEach es X.env)).any (·.1) = false := by rfl) :
    PE X (.Call (.Name x p) (e :: es) [] pos) (fun σ H Q => t σ H fun vs H1 => sp pn.1 pn.2.cls pn.2.dict vs H1 Q E0) := by
  constructor
  intro pins s σ H Q I h
  refine wpAny_Call_Name_kw (ld_glob I hg hm ?_ hdb)
  refine PySem.W.callWith_K (h₀ := X.base) I.ok.mod.kin hk (thn (args.run pos pins s σ H _ I h) ?_) he hpl
  rintro us s1 ⟨vs, H1, I1, rel, want⟩
  refine ⟨I1.kIn, ?_⟩
  have hl : (us ++ []).length = ps.length := by
    rw [List.append_nil, ← rel.length]
    exact F.many _ _ _ _ _ _ _ want
  have P1 := I1.pin pn (List.mem_append_left _ hpn)
  have pin : PinOk X.stack H1 s1 pn := ⟨P1.1, P1.2.1, fun m => (List.mem_cons.mp (I1.stkSub pn.1 m)).elim P1.2.2.1 P1.2.2.2.1, P1.2.2.2.2⟩
  have b := hb s1 us I1.kIn hl
  rw [List.append_nil] at b
  refine wpAny_call (codeAny_mono (F.go X.A X.stack s1 H1 ⟨us, []⟩ us vs Q E0 pn room gua hot pin I1.env0 b rel want) ?_)
  intro r s' hq
  cases r with
  | error e => exact False.elim hq
  | ok fl =>
    cases fl with
    | ret u => exact I1.after hq
    | next => exact False.elim hq
    | brk => exact False.elim hq
    | cont => exact False.elim hq
/-- the same in the suite, by what is told of the exception there -/
theorem pe_callXs {a : Addr} {oe : Obj} {cls : Value} {dd : Option Addr} (h1 : oe.cls = cls) (h2 : oe.dict = dd) (F : FnX X.prog X.w X.K X.mg X.base k f fd ps sp) (room : RoomH k X.A) (gua : X.A.guards = some []) (hot : Hot1 X.A (a, oe)) (hpn : (a, oe) ∈ X.pn) (hg : Gl X x) (hm : X.mg x = some (.ref f)) (hk : PySem.W.keepIn X.K (.ref f) = true)
    (hb : Binds X.K fd ps []) (args : PA X (e :: es) t) (hdb : (x == ("__debug__" : Str)) = false := by decide)
    (he : starEach (e :: es) X.env = (false, eval e X.env) :: starEach es X.env := by rfl) (hpl : (backTo pos (starEach es X.env)).any (·.1) = false := by rfl) :
    PE X (.Call (.Name x p) (e :: es) [] pos) (fun σ H Q => t σ H fun vs H1 => sp a cls dd vs H1 Q E0) := by
  subst h1
  subst h2
  exact pe_callX (pn := (a, oe)) F room gua hot hpn hg hm hk hb args hdb he hpl
end
theorem _root_.L2H.RoomH.units {k : Nat} {A : Around} (r : RoomH k A) : A.units + 64 < cLine := by
  have := r.un
  omega
end JgH
namespace JgH
open PySem PySem.Spec PyProof.Rows HotX L2 L2H
/-! ### try: body, except TEST as n: suite, whatever the test is; here one of the named classes is met -/
theorem flying_kept {B h g : Heap} {l : List Env} {a : Addr} {Z : Obj → Prop} (x : HandSPX.FlyingZ B l a Z h) (k : ∀ c o, h.get? c = some o → g.get? c = some o) : HandSPX.FlyingZ B l a Z g := by
  obtain ⟨x1, x2, x3, oe, vs, T, oT, ts, y1, y2, y3, y4, y5, y6, y7, y8, y9⟩ := x
  exact ⟨fun c o e => k c o (x1 c o e), x2, x3.of_keeps fun b o e _ => ⟨o, k b o e, rfl⟩, oe, vs, T, oT, ts, k _ _ y1, y2, y3, y4, y5, y6, k _ _ y7, y8, y9⟩
/-- what a test of an except clause tells of a class, nothing but new things laid -/
def TestOk (X : Cx) (T : Expr) (m : Value → Option Bool) : Prop := ∀ {a : Addr} {pn pins : List (Addr × Obj)} {σ : L2.St} {H : Hp} {s : Shared} {cls : Value} {b : Bool} {A : Around} {Q : Bool → Shared → Prop} {E1 E2 : Value → Shared → Prop},
  L2.Inv (X.suite a pn) pins σ H s → PySem.W.Looks (model X.prog X.w) s.heap (typeOf (.ref a)) cls → m cls = some b → (∀ g, (∀ c o, s.heap.get? c = some o → g.get? c = some o) → Q b { s with heap := g }) →
  wpAny (model X.prog X.w) (X.A.mark (some (.ref a))) (eval T X.env) (fun c t => wpAny (model X.prog X.w) A (excMatches (.ref a) c) Q E2 t) E1 s
theorem test_two {X : Cx} {x1 x2 : Str} {c1 c2 : Value} {p1 p2 tp : Pos} {k : Nat} (g1 : Gl X x1) (g2 : Gl X x2) (m1 : X.mg x1 = some c1) (m2 : X.mg x2 = some c2) (d1 : (x1 == ("__debug__" : Str)) = false := by decide) (d2 : (x2 == ("__debug__" : Str)) = false := by decide) :
    TestOk X (.Tuple [.Name x1 p1, .Name x2 p2] k tp) fun cls => PySem.W.exmAny X.K cls [c1, c2] := by
  intro a pn pins σ H s cls b A Q E1 E2 I LT e q
  have up : ∀ c o, s.heap.get? c = some o → (s.heap.push { cls := .type "tuple", data := .seq [c1, c2].toArray }).get? c = some o := fun c o z => Heap.get?_push_of_some _ z
  refine wpAny_Tuple (wpAny_items_cons (ld_glob (X := X.suite a pn) I g1 m1 (wpAny_items_cons (ld_glob (X := X.suite a pn) I g2 m2 (wpAny_items_nil ⟨by size_fits, ?_⟩) d2)) d1))
  exact (PySem.W.exm_tup2 (I.kIn.keeps up) (LT.keeps up) (Heap.get?_push_size s.heap rfl) e).here (q _ up)
/-- what is let out of the body is met by the clause -/
def wHit (m : Value → Option Bool) (i : Nat) (ts : Addr → Value → Option Addr → TS) (D : Ends) : WX := fun cls d σ H =>
  m cls = some true ∧ ∀ a, H a = none → ts a cls d { nx := fun σ' H' => D.nx (σ'.set i none) H', rt := D.rt, bk := fun σ' H' => D.bk (σ'.set i none) H', ct := fun σ' H' => D.ct (σ'.set i none) H' } (σ.set i (some (.ref a))) H
section
variable {X : Cx} {n : Str} {i : Nat} {body suite : List Stmt} {b₀ : Stmt} {T : Expr} {pos pos' : Pos} {tb : WX → TS} {ts : Addr → Value → Option Addr → TS} {m : Value → Option Bool}
theorem ps_try_hit (hs : X.stack = X.env :: X.outer) (hf : X.env.frame = some X.env.locals) (hN : X.N.Nodup) (hi : X.N[i]? = some n) (hln : X.env.kindOf n = some .local) (test : TestOk X T m)
    (hb : ∀ (W : WX) (pn : List (Addr × Obj)) (xe : Value → Shared → Prop), L2N.Takes (X.tr pn xe) W → PassesOwn (model X.prog X.w) X.A X.env xe → PSs (X.tr pn xe) body (tb W))
    (hsu : ∀ (a : Addr) (oe : Obj) (cls : Value) (d : Option Addr) (pn : List (Addr × Obj)), L2N.Zn cls d oe → (∃ vs, oe.data = .fields vs) → PSs (X.suite a ((a, oe) :: pn)) (b₀ :: suite) (ts a cls d)) :
    PS X (.Try body [.ExceptHandler (some T) (some n) (b₀ :: suite) pos'] [] [] pos) (fun D σ H => tb (wHit m i ts D) D σ H) := by
  refine ⟨fun pins s σ H D I h => ?_⟩
  have ok := I.ok
  have fr : X.A.frames = some (X.env :: X.outer) := by rw [ok.frames, hs]
  let catch_ : Value → Shared → Prop := fun e t => wpAny (model X.prog X.w) X.A (noteFrame e X.env) (fun _ t2 => wpAny (model X.prog X.w) X.A (setFlight e none) (fun _ t3 => wpAny (model X.prog X.w) X.A (handleBy e X.env [.ExceptHandler (some T) (some n) (b₀ :: suite) pos']) (SP X pins D) X.xe t3) X.xe t2) X.xe t
  have caught : L2N.Takes (X.tr (X.pn ++ pins) catch_) (wHit m i ts D) := by
    rintro u t ⟨a, B, sI, pins', σ', H', cls, d, rfl, J', nb, up, sky, na, os, ag, met, hyes⟩
    have J : L2.Inv X pins σ' H' sI := J'.ofTry ok
    have sky : Sky B (X.env :: X.outer) a (L2N.Zn cls d) X.env.locals t.heap := by
      rw [← hs]
      exact sky
    refine L2N.Sky.land (A := X.A) L2N.Zn.steady fr hf sky fun h3 fl3 up3 => ?_
    have J3 : L2.Inv X pins σ' H' { t with heap := h3 } := J.landed nb fl3.1 (up.trans up3) os ag
    obtain ⟨oe3, vs3, he3, hz3, hd3⟩ := fl3.there
    have off : ∀ {g : Heap}, HandSPX.FlyingZ B (X.env :: X.outer) a (L2N.Zn cls d) g → a ∉ frs (X.env :: X.outer) := fun {g} fl mem => by
      obtain ⟨o1, v1, e1, _, q1⟩ := fl.there
      obtain ⟨_, o2, e2, no⟩ := fl.2.2.1.mem mem
      rw [e1] at e2
      cases e2
      exact no _ q1
    have out := off fl3
    have nL : a ≠ X.env.locals := fun z => out (List.mem_filterMap.mpr ⟨X.env, List.mem_cons_self, by rw [hf, z]⟩)
    have nF : a ∉ X.fs := fun mem => by
      obtain ⟨e, he, q⟩ := List.mem_filterMap.mp mem
      exact out (List.mem_filterMap.mpr ⟨e, List.mem_cons_of_mem _ he, q⟩)
    have S3 := J3.suite he3 hd3 na nL nF
    refine wpAny_handleBy_cons (codeAny_handlers_test ?_) (fun q => by cases q)
    have LT : PySem.W.Looks (model X.prog X.w) h3 (typeOf (.ref a)) cls := fun A Q E s k q => wpAny_typeOf_ref (k _ _ he3) (by rw [hz3.1]; exact q)
    refine test (s := { t with heap := h3 }) S3 LT met fun g kg => ?_
    have flg := flying_kept fl3 kg
    show codeAny _ _ _ _ _
    refine codeAny_handlers_suite_as (HandSPX.lands_againZ (s := { t with heap := g }) flg fun h4 fl4 up4 => ?_)
    have J4 : L2.Inv X pins σ' H' { t with heap := h4 } := J.landed nb fl4.1 (((up.trans up3).trans (Heap.UpToSlots.of_keeps kg)).trans up4) os ag
    obtain ⟨oe4, vs4, he4, hz4, hd4⟩ := fl4.there
    have S4 := J4.suite he4 hd4 na nL nF
    refine store_ok (X := X.suite a ((a, oe4) :: (X.pn ++ pins))) (v := .ref a) S4 hN hi (.inl hln) rfl (fun s5 S5 => ?_) (.inr hln)
    refine wpAny_mono ((hsu a oe4 cls d (X.pn ++ pins) hz4 ⟨_, hd4⟩).run [] s5 _ H' _ S5 (hyes a na)) (fun f s6 hsp => ?_) (fun _ _ z => False.elim z)
    have gone : ∀ {σ6 : L2.St} {H6 : Hp} {Q : Shared → Prop}, L2.Inv (X.suite a ((a, oe4) :: (X.pn ++ pins))) [] σ6 H6 s6 → (∀ s7, L2.Inv X pins (σ6.set i none) H6 s7 → Q s7) →
        wpAny (model X.prog X.w) X.A (do bindName X.env n .none; unbindBehindTheSuite X.env n pos') (fun _ s7 => Q s7) X.xe s6 := fun {σ6 H6 Q} S6 hq => gone_ok (S6.unsuite ok) hN hi hln hq
    cases f with
    | ret u =>
      obtain ⟨v6, σ6, H6, S6, r6, q6⟩ := hsp
      exact gone S6 fun s7 J7 => ⟨_, _, _, J7, r6, q6⟩
    | next =>
      obtain ⟨σ6, H6, S6, q6⟩ := hsp
      exact gone S6 fun s7 J7 => ⟨_, _, J7, q6⟩
    | brk =>
      obtain ⟨σ6, H6, S6, q6⟩ := hsp
      exact gone S6 fun s7 J7 => ⟨_, _, J7, q6⟩
    | cont =>
      obtain ⟨σ6, H6, S6, q6⟩ := hsp
      exact gone S6 fun s7 J7 => ⟨_, _, J7, q6⟩
  refine wpAny_Try_except (wpAny_mono ((hb (wHit m i ts D) (X.pn ++ pins) catch_ caught PassesOwn.looking).run [] s σ H D (I.toTry _) h) (fun f s1 hsp => ?_) (fun e s1 he => he))
  cases f with
  | ret u =>
    obtain ⟨v, σ', H', J', r, q⟩ := hsp
    exact ⟨v, σ', H', J'.ofTry ok, r, q⟩
  | next =>
    obtain ⟨σ', H', J', q⟩ := hsp
    exact wpAny_execs_nil ⟨σ', H', J'.ofTry ok, q⟩
  | brk =>
    obtain ⟨σ', H', J', q⟩ := hsp
    exact ⟨σ', H', J'.ofTry ok, q⟩
  | cont =>
    obtain ⟨σ', H', J', q⟩ := hsp
    exact ⟨σ', H', J'.ofTry ok, q⟩
end
end JgH
namespace JgH
open PySem PySem.W PySem.Spec PyProof.Rows HotX L2 L2H JgX
/-! ### raising, the context kept in mind -/
section
variable {P : Program} {w : World} {K : PySem.W.Frag} {mg : Str → Option Value} {base : Heap}
theorem okN {x qual : Str} {st : Stmt} {f : Addr} {fd : FuncData} {N ps : List Str} {k : Nat} {sp : Sp} (F : Fun K x qual st f fd) (S : FnScope N ps (defScope st)) (len : ∀ vs H Q E, sp vs H Q E → vs.length = ps.length)
    (body : ∀ (cdv : Value) (A : Around) (outer : List Env) (s : Shared) (H : Hp) (vs : List V) (Q : VK) (E : XK), Room k (A.deeper (envOfC qual (defScope st) s.heap.objs.size f cdv)) → sp vs H Q E →
      ∃ t, PSs (cxOf (L2N.CX P w) P w K mg base N qual (defScope st) f cdv A outer s H E) (defBody st) t ∧ t { nx := fun _ H' => Q .non H', rt := Q } (L2.start N vs) H) : FnOk P w K mg base (L2N.CX P w) (k + 1) f fd ps sp := by
  obtain ⟨oc, od, kV, doc, pm, an, cdv, ct, osl, rfl, lk, hcd⟩ := F.ex
  exact fn_of lk hcd S len fun A outer s H vs Q E hr want => body cdv A outer s H vs Q E hr want
end
theorem passN {X : Cx} : Passes (L2N.CX X.prog X.w) X E0 := fun _ _ _ _ _ _ _ h => by
  obtain ⟨_, _, _, _, _, _, _, _, _, _, _, _, z⟩ := h
  exact z.elim
section
variable {X : Cx} {x : Str} {C fI : Addr} {k : Nat} {fd : FuncData} {ps : List Str} {sp : Sp} {e : Expr} {es : List Expr} {ta : TA} {p pos : Pos} {B newId i : String} {bmB : List Value}
theorem mk_xN (MK : Maker newId bmB) (T : XC X.K C B newId i bmB) (iC : findIn X.K (.ref C) "__init__" = some (some (.ref fI))) (tI : typeIn X.K (.ref fI) = some (.type "function"))
    (F1 : FnOk X.prog X.w X.K X.mg X.base CX0 k fI fd ps sp) (room : Room (k + 1) X.A) (hb : Binds X.K fd ps []) (hg : Gl X x) (hm : X.mg x = some (.ref C)) (ha : PA X (e :: es) ta)
    (hdb : (x == ("__debug__" : Str)) = false := by decide) (hs : starEach (e :: es) X.env = (false, eval e X.env) :: starEach es X.env := by rfl) (hpl : (backTo pos (starEach es X.env)).any (·.1) = false := by rfl) :
    L2N.PMk X (.Call (.Name x p) (e :: es) [] pos) (tMkO C sp [] ta) := by
  intro pins s σ H Q I h
  obtain ⟨nm, q, N, bs, bm, sn, sub, ab, col, dd, k0, k1, k2, k3, k5, hC, htail⟩ := T.cls
  refine wpAny_Call_Name_kw (ld_glob I hg hm ?_ hdb)
  refine PySem.W.callWith_K (h₀ := X.base) I.ok.mod.kin T.kC (thn (ha.run pos pins s σ H _ I h) ?_) hs hpl
  rintro us s1 ⟨vs, H1, I1, rel, hz, q1⟩
  refine ⟨I1.kIn, ?_⟩
  show wpAny _ _ (call (.ref C) us) _ _ _
  obtain ⟨hp, g, dr, tk, os⟩ := s1
  have up : ∀ b o, hp.get? b = some o → ((hp.push (PySem.W.kdv_tup us)).push (PySem.HandSPX.excO C hp.objs.size)).get? b = some o := fun b o e =>
    Heap.get?_push_of_some _ (Heap.get?_push_of_some _ e)
  have fresh : H1 (hp.objs.size + 1) = none := I1.hok.fresh (Nat.le_succ _)
  have there : ((hp.push (PySem.W.kdv_tup us)).push (PySem.HandSPX.excO C hp.objs.size)).get? (hp.objs.size + 1) = some (PySem.HandSPX.excO C hp.objs.size) := by heap_get
  have I2 : L2.Inv X pins σ (upd H1 (hp.objs.size + 1) (exo (hp.objs.size + 1) C none)) ⟨(hp.push (PySem.W.kdv_tup us)).push (PySem.HandSPX.excO C hp.objs.size), g, dr, tk, os⟩ :=
    I1.laid (t' := tk) up (Nat.le_succ _) (exo_ok there)
  have want := q1 (hp.objs.size + 1) fresh
  rw [List.append_nil] at want
  have r2 : Vals (V.ref (hp.objs.size + 1) :: vs) (Value.ref (hp.objs.size + 1) :: us) := .cons rfl rel
  have len : (Value.ref (hp.objs.size + 1) :: us ++ []).length = ps.length := by
    rw [List.append_nil, ← r2.length]
    exact F1.len _ _ _ _ want
  have few : us.length ≤ sizeLine := by
    rw [← Paired.length rel, sizeLine_eq]
    omega
  have b2 := hb _ (Value.ref (hp.objs.size + 1) :: us) I2.kIn len
  rw [List.append_nil] at b2
  obtain ⟨MM, iM, bmM, FM, up0⟩ := MK.ex
  refine wpAny_call (up_call FM (up_tail htail up0) (I1.kIn _ _ hC) few (PySem.W.looks_findIn I1.kIn iC) (fun self => PySem.W.bind_fn I1.kIn self tI) ?_)
  refine codeAny_mono (F1.run _ X.stack _ _ ⟨Value.ref (hp.objs.size + 1) :: us, []⟩ _ _ _ (fun _ _ _ => False) (room.make C us []) (I2.env0.make C us []) b2 r2 want) ?_
  intro r s' hq
  cases r with
  | error er => exact False.elim hq
  | ok fl =>
    cases fl with
    | ret u =>
      obtain ⟨v, H2, os2, bare2, un2, hok2, rv, ev, d, fs, ea, ed, hd1, q2⟩ := hq
      subst ev
      obtain ⟨h2, g2, d2, t2, os'⟩ := s'
      obtain ⟨t0, G, J, kG, ge, hoe, na⟩ := mk_end0 (d2 := d2) (t2 := t2) I1 (Nat.le_succ _) up un2 hok2 os2 bare2 ea ed hd1
      exact ⟨rv, hp.objs.size + 1, _, _, ⟨G, g2, d2, t2, os'⟩, _, .ref C, some d, rfl, J, kG, ge, hoe, ⟨rfl, rfl, fun vs hv => by (cases hv; rfl)⟩, rfl, rfl, na, rfl, bare2, raises_own T.exC T.tyC, q2⟩
    | next => exact False.elim hq
    | brk => exact False.elim hq
    | cont => exact False.elim hq
end
/-! ### the handled exception itself -/
def rIsiP (K : PySem.W.Frag) (pn : Addr × Obj) : List V → Hp → VK → Prop := fun xs H Q => ∃ (C dx : Addr) (c : V) (u : Value) (b : Bool) (fs : List (Str × V)), xs = [.ref pn.1, c] ∧ ClsV c u ∧ pn.2.cls = .ref C ∧ pn.2.dict = some dx ∧ H dx = some (.xd fs) ∧ XA K C ∧ kitOne K (.ref C) u = some b ∧ Q (.bl b) H
theorem call_isiP {X : Cx} {K : PySem.W.Frag} {pn : Addr × Obj} (hp : pn ∈ X.pn) (hd : ∃ vs, pn.2.data = .fields vs) (hK : X.K = K := by rfl) : CallR X (.builtin "isinstance") (rIsiP K pn) := by
  subst hK
  intro pins s σ H xs us Q I r h
  obtain ⟨C, dx, c, u, b, fs, rfl, k, hc, hdx, ed, T, e, q⟩ := h
  obtain ⟨u1, u2, rfl, r1, r2⟩ := vals2 r
  have e2 := k.eq r2
  subst e2
  cases (show u1 = Value.ref pn.1 from r1)
  have ho := (I.pin pn (List.mem_append_left _ hp)).1
  have hx : ObjOk X.prog X.w H s.heap dx (.xd fs) := I.hok dx _ ed
  obtain ⟨mA, hns, _⟩ := hx
  obtain ⟨od, hod, _⟩ := lookIn_ns hns
  obtain ⟨vs, hv⟩ := hd
  have J : PySem.W.InstAt s.heap pn.1 pn.2 C (some od) := ⟨ho, hc, by unfold PySem.W.notCls; rw [hv] <;> rfl, by rw [hdx]; exact hod⟩
  exact kia_one (kitx_exc T.cl T.f.ga T.f.gg T.f.exC T.ha T.hn T.tk T.hm) I.kIn J e (fun z => nomatch z) fun tk => ⟨.bl b, H, I.tok tk, rfl, q⟩
/-! ### [x for x, b in zip(xs, bs) if b] -/
def pick : List V → List Bool → List V
  | x :: xs, b :: bs => if b = true then x :: pick xs bs else pick xs bs
  | _, _ => []
theorem pick_take : ∀ (xs : List V) (bs : List Bool) (i : Nat) (x : V) (b : Bool), xs[i]? = some x → bs[i]? = some b → pick (xs.take (i + 1)) (bs.take (i + 1)) = pick (xs.take i) (bs.take i) ++ (if b = true then [x] else [])
  | [], _, i, x, b, h, _ => by simp at h
  | _ :: _, [], i, x, b, _, h => by simp at h
  | y :: xs, c :: bs, 0, x, b, h1, h2 => by
    simp at h1 h2
    subst h1
    subst h2
    cases c <;> simp [pick]
  | y :: xs, c :: bs, i + 1, x, b, h1, h2 => by
    have ih := pick_take xs bs i x b (by simpa using h1) (by simpa using h2)
    rw [List.take_succ_cons, List.take_succ_cons, List.take_succ_cons, List.take_succ_cons]
    cases c
    · simpa [pick] using ih
    · simpa [pick] using ih
theorem pick_len (xs : List V) (bs : List Bool) : (pick xs bs).length ≤ xs.length := by
  induction xs generalizing bs with
  | nil => cases bs <;> simp [pick]
  | cons x xs ih =>
    cases bs with
    | nil => simp [pick]
    | cons b bs =>
      have := ih bs
      cases b <;> simp [pick] <;> omega
theorem zip_sel {K : PySem.W.Frag} {σ : L2.St} {H1 : Hp} {Q : VK} {tt : TT} {te : TE} {a b : Addr} {xs : List V} {bs : List Bool} {iw ih : Nat}
    (hw : ∀ x y, wipe (((wipe σ [iw, ih]).set iw (some x)).set ih (some y)) [iw, ih] = wipe σ [iw, ih]) (htt : ∀ x b H B, B b H → tt (((wipe σ [iw, ih]).set iw (some x)).set ih (some (.bl b))) H B) (hte : ∀ x y H (R : VK), R x H → te (((wipe σ [iw, ih]).set iw (some x)).set ih (some y)) H R)
    (h1 : SqL K H1 a xs) (h2 : SqL K H1 b (bs.map V.bl)) (len : xs.length = bs.length) (sz : xs.length < sizeLine) (q : ∀ D H', H1 D = none → L2.Same H1 H' → H' D = some (.lst (pick xs bs)) → Q (.ref D) H') :
    zipIn K (gCons (gName iw) (gCons (gName ih) gNil)) tt te [iw, ih] σ Q [.ref a, .ref b] H1 := by
  refine ⟨a, b, xs, bs.map V.bl, rfl, h1, h2, by simpa using len, fun D hD => ⟨fun i H' => L2.Same H1 H' ∧ H' D = some (.lst (pick (xs.take i) (bs.take i))), ⟨fun c o e => Jg.upd_keep hD e, by simp [pick, upd_same]⟩, ?_, ?_, ?_⟩⟩
  · rintro i H' ⟨s, _⟩
    exact ⟨s.seq h1, s.seq h2⟩
  · rintro H' ⟨s, e⟩
    rw [List.take_length, len, List.take_length] at e
    exact q D H' hD s e
  · rintro i x y H' T ⟨s, e⟩ ex ey hT
    obtain ⟨c, ec, rfl⟩ : ∃ c, bs[i]? = some c ∧ V.bl c = y := by
      rw [List.getElem?_map] at ey
      cases hc : bs[i]? with
      | none => rw [hc] at ey; cases ey
      | some c => rw [hc] at ey; exact ⟨c, rfl, by simpa using ey⟩
    refine ⟨_, _, rfl, _, _, rfl, rfl, hw _ _, htt _ _ _ _ ?_⟩
    have eD : upd H' T (.tup [x, V.bl c]) D = some (.lst (pick (xs.take i) (bs.take i))) := Jg.upd_keep hT e
    have sT : L2.Same H1 (upd H' T (.tup [x, V.bl c])) := fun k o z => Jg.upd_keep hT (s k o z)
    cases c with
    | false =>
      refine ⟨sT, ?_⟩
      rw [eD, pick_take xs bs i x false ex ec]
      simp
    | true =>
      refine hte _ _ _ _ ⟨_, eD, ?_, fun k o z => ?_, ?_⟩
      · exact Nat.lt_of_le_of_lt (Nat.le_trans (pick_len _ _) (List.length_take_le _ _)) (Nat.lt_of_le_of_lt (by exact Nat.le_of_lt (List.getElem?_eq_some_iff.mp ex).1) sz)
      · rw [upd_ne (ne_of_none z hD)]
        exact sT k o z
      · rw [upd_same, pick_take xs bs i x true ex ec]
        rfl
/-! ### e.f of the handled exception, of whatever class of the program -/
def tXfA (K : PySem.W.Frag) (a : Addr) (cls : Value) (dd : Option Addr) (f : Str) (te : TE) : TE := fun σ H Q => te σ H fun x H1 => ∃ (C dx : Addr) (fs : List (Str × V)) (v : V), x = .ref a ∧ cls = .ref C ∧ dd = some dx ∧ H1 dx = some (.xd fs) ∧ XfC K C ∧ findIn K (.ref C) f = some none ∧ fs.lookup f = some v ∧ Q v H1
theorem pe_xfA {X : Cx} {K : PySem.W.Frag} {a : Addr} {oe : Obj} {cls : Value} {dd : Option Addr} {e : Expr} {te : TE} {pos : Pos} {n : Str} (hp : (a, oe) ∈ X.pn) (h1 : oe.cls = cls) (h2 : oe.dict = dd) (hd : ∃ vs, oe.data = .fields vs) (he : PE X e te)
    (hb : attributeBase e n X.env (eval e X.env) = eval e X.env := by rfl) (hK : X.K = K := by rfl) : PE X (.Attribute e n pos) (tXfA K a cls dd n te) := by
  subst hK
  refine ⟨fun pins s σ H Q I h => ?_⟩
  refine attr_of hb (thn (he.run pins s σ H _ I h) fun u s1 hh => ?_)
  obtain ⟨x, H1, I1, rx, C, dx, fs, v, rfl, rfl, rfl, ed, T, hno, l, q⟩ := hh
  obtain rfl : u = Value.ref a := rx
  have ho := (I1.pin (a, oe) (List.mem_append_left _ hp)).1
  have hx : ObjOk X.prog X.w H1 s1.heap dx (.xd fs) := I1.hok dx _ ed
  obtain ⟨mA, hns, rel⟩ := hx
  obtain ⟨od, hod, hl⟩ := lookIn_ns hns
  obtain ⟨vs, hv⟩ := hd
  have J : PySem.W.InstAt s1.heap a oe C (some od) := ⟨ho, h1, by unfold PySem.W.notCls; rw [hv] <;> rfl, by rw [h2]; exact hod⟩
  obtain ⟨w, hw, rw2⟩ := RelO.some_of (v := v) (o := mA n) (by rw [← l]; exact rel n)
  exact HandSPX.exc_get I1.kIn J T.ga T.gg T.exC (findObj_own T.hdC hno rfl (by rw [hl, hw])) (handed_of rw2) ⟨v, H1, I1.tok _, rw2, q⟩
theorem hot_suite {X : Cx} {a : Addr} {oe : Obj} {cls : Value} {dd : Option Addr} {pn : List (Addr × Obj)} (hz : L2N.Zn cls dd oe) (hf : ∃ vs, oe.data = .fields vs) : Hot1 (X.suite a ((a, oe) :: pn)).A (a, oe) := by
  obtain ⟨vs, hv⟩ := hf
  exact ⟨rfl, vs, hv, hz.2.2 vs hv⟩
theorem room_suite {k j : Nat} {A : Around} (r : Room k A) (h : Option Value) (l : j ≤ k) : RoomH j (A.mark h) := RoomH.mono (j := j) (k := k) ⟨r.dp, r.un⟩ l
theorem op_eqDK {X : Cx} {K : PySem.W.Frag} (hu : X.A.units + 64 < cLine) (hK : X.K = K := by rfl) : OpR X (compareOp .Eq) (rEqD K) := by
  subst hK
  exact op_eqD hu
theorem g_callS {sp : Sp} {E : L2.St → XK} {t : TA} {σ : L2.St} {H : Hp} {Q : VK} (q : t σ H fun vs H1 => sp vs H1 Q (E σ)) : tCallS sp E t σ H Q := q
theorem g_xfA {K : PySem.W.Frag} {a : Addr} {cls : Value} {dd : Option Addr} {n : Str} {te : TE} {σ : L2.St} {H : Hp} {Q : VK} (q : te σ H fun x H1 => ∃ (C dx : Addr) (fs : List (Str × V)) (v : V), x = .ref a ∧ cls = .ref C ∧ dd = some dx ∧ H1 dx = some (.xd fs) ∧ XfC K C ∧ findIn K (.ref C) n = some none ∧ fs.lookup n = some v ∧ Q v H1) : tXfA K a cls dd n te σ H Q := q
theorem exm_two {K : PySem.W.Frag} {t c1 c2 : Addr} {d1 d2 : ClassData} {b1 b2 : Bool} (e1 : subIn K (.ref c1) (.type "BaseException") = some true) (k1 : clsIn K c1 = some d1) (y1 : typeIn K (.ref c1) = some (.type "type")) (s1 : subIn K (.ref t) (.ref c1) = some b1)
    (e2 : subIn K (.ref c2) (.type "BaseException") = some true) (k2 : clsIn K c2 = some d2) (y2 : typeIn K (.ref c2) = some (.type "type")) (s2 : subIn K (.ref t) (.ref c2) = some b2) : exmAny K (.ref t) [.ref c1, .ref c2] = some (b1 || b2) := by
  have one : ∀ {c : Addr} {d : ClassData} {b : Bool}, subIn K (.ref c) (.type "BaseException") = some true → clsIn K c = some d → typeIn K (.ref c) = some (.type "type") → subIn K (.ref t) (.ref c) = some b → exmOne K (.ref t) (.ref c) = some b := fun {c d b} e k y s => by
    unfold exmOne kitCls
    simp only [e, k, y, s]
    rfl
  unfold exmAny exmAny exmAny
  rw [one e1 k1 y1 s1, one e2 k2 y2 s2]
  simp
/-- C(v) in a raise, C without an __init__ of its own -/
theorem mk_plain {X : Cx} {x : Str} {C : Addr} {e : Expr} {te : TE} {p pos : Pos} {B newId i : String} {bmB : List Value} (MK : Maker newId bmB) (F : IniFacts B i) (hB : bmB.contains (.type B) = true) (sp : splitId i = some (B, "__init__")) (T : Plain X.K C B newId i bmB) (ra : L2.Raises X (.ref C))
    (hg : Gl X x) (hm : X.mg x = some (.ref C)) (he : PE X e te)
    (hdb : (x == ("__debug__" : Str)) = false := by decide) (hs : starEach [e] X.env = (false, eval e X.env) :: starEach [] X.env := by rfl) (hpl : (backTo pos (starEach [] X.env)).any (·.1) = false := by rfl) :
    L2N.PMk X (.Call (.Name x p) [e] [] pos) (fun σ H Q => te σ H fun y H1 => tNil σ H1 fun ys H2 => ∃ y2, y :: ys = [y2] ∧ Q (.ref C) none H2) := by
  intro pins s σ H Q I h
  obtain ⟨nm, q, N, bs, bm, sn, sub, ab, col, dd, k0, k1, k2, k3, k5, hC, htail⟩ := T.cls
  obtain ⟨MM, iM, bmM, FM, up0⟩ := MK.ex
  have args : PA X [e] (tCons te tNil) := pa_cons he pa_nil hs
  refine wpAny_Call_Name_kw (ld_glob I hg hm ?_ hdb)
  refine PySem.W.callWith_K (h₀ := X.base) I.ok.mod.kin T.kC (thn (args.run pos pins s σ H (fun vs H1 => ∃ y, vs = [y] ∧ Q (.ref C) none H1) I h) ?_) hs hpl
  rintro us s1 ⟨vs, H1, I1, rel, y, rfl, q1⟩
  refine ⟨I1.kIn, ?_⟩
  show wpAny _ _ (call (.ref C) us) _ _ _
  obtain ⟨u, rfl, ru⟩ := vals1 rel
  obtain ⟨hp, g, dr, tk, os⟩ := s1
  have one : [u].length ≤ sizeLine := by rw [sizeLine_eq]; simp
  have up : ∀ b o, hp.get? b = some o → ((hp.push (PySem.W.kdv_tup [u])).push (PySem.HandSPX.excO C hp.objs.size)).get? b = some o := fun b o e =>
    Heap.get?_push_of_some _ (Heap.get?_push_of_some _ e)
  have there : ((hp.push (PySem.W.kdv_tup [u])).push (PySem.HandSPX.excO C hp.objs.size)).get? (hp.objs.size + 1) = some (PySem.HandSPX.excO C hp.objs.size) := by heap_get
  have lk := I1.kIn _ _ hC
  have inB : bm.contains (.type B) = true := (tail_contains htail B).trans hB
  refine wpAny_call (up_call (fv := .builtin i) FM (up_tail htail up0) lk one (PySem.W.looks_findIn I1.kIn T.ini) (fun self => Looks.of_pure (F.slot.bind self)) ?_)
  refine up_init F inB sp (up _ _ lk) there one fun h2 t1 k2 e2 _ _ => ?_
  have fresh : H1 (hp.objs.size + 1) = none := I1.hok.fresh (Nat.le_succ _)
  have keep : ∀ b o, hp.get? b = some o → h2.get? b = some o := fun b o e => k2 b o (Nat.ne_of_lt (Nat.lt_succ_of_lt (Heap.lt_size e))) (up b o e)
  have gone : hp.get? (hp.objs.size + 1) = none := by
    cases e9 : hp.get? (hp.objs.size + 1) with
    | none => rfl
    | some o => exact (Nat.lt_irrefl _ (Nat.lt_of_succ_lt (Heap.lt_size e9))).elim
  exact ⟨rfl, hp.objs.size + 1, _, _, ⟨hp, g, dr, tk, os⟩, H1, .ref C, none, rfl, I1, keep, gone, e2, ⟨rfl, rfl, fun vs hv => by (cases hv; rfl)⟩, rfl, rfl, fresh, rfl, I1.bare, ra, q1⟩
end JgH
namespace K02
open PySem PySem.Spec L2 Jg
def top (i : Nat) : Stmt := PySem.Challenge.pw_termshelf_k02_letters_and_numbers.main.body.getD i (.Pass ⟨0, 0, 0, 0⟩)
abbrev s_law_cell : Stmt := top 22
abbrev n_law_cell : List Str := ["_law_script", "_law_k"]
theorem sc_law_cell : FnScope n_law_cell ["_law_script", "_law_k"] (defScope s_law_cell) := ⟨rfl, rfl, rfl, by decide +kernel, rfl, by decide +kernel, by decide +kernel⟩
abbrev s_law_bag : Stmt := top 23
abbrev n_law_bag : List Str := ["_law_cell_here"]
theorem sc_law_bag : FnScope n_law_bag ["_law_cell_here"] (defScope s_law_bag) := ⟨rfl, rfl, rfl, by decide +kernel, rfl, by decide +kernel, by decide +kernel⟩
abbrev s_law_take : Stmt := top 24
abbrev n_law_take : List Str := ["_law_bag_here", "_law_many", "_law_digit", "_law_number"]
theorem sc_law_take : FnScope n_law_take ["_law_bag_here", "_law_many"] (defScope s_law_take) := ⟨rfl, rfl, rfl, by decide +kernel, rfl, by decide +kernel, by decide +kernel⟩
abbrev s_law_any : Stmt := top 27
abbrev n_law_any : List Str := ["_law_bag_here", "_law_some"]
theorem sc_law_any : FnScope n_law_any ["_law_bag_here"] (defScope s_law_any) := ⟨rfl, rfl, rfl, by decide +kernel, rfl, by decide +kernel, by decide +kernel⟩
abbrev s_is_whole : Stmt := top 12
abbrev n_is_whole : List Str := ["thing", "low", "high"]
theorem sc_is_whole : FnScope n_is_whole ["thing", "low", "high"] (defScope s_is_whole) := ⟨rfl, rfl, rfl, by decide +kernel, rfl, by decide +kernel, by decide +kernel⟩
abbrev s_consists_of : Stmt := top 13
abbrev n_consists_of : List Str := ["text", "marks"]
theorem sc_consists_of : FnScope n_consists_of ["text", "marks"] (defScope s_consists_of) := ⟨rfl, rfl, rfl, by decide +kernel, rfl, by decide +kernel, by decide +kernel⟩
abbrev s_is_figures : Stmt := top 15
abbrev n_is_figures : List Str := ["text"]
theorem sc_is_figures : FnScope n_is_figures ["text"] (defScope s_is_figures) := ⟨rfl, rfl, rfl, by decide +kernel, rfl, by decide +kernel, by decide +kernel⟩
abbrev s_is_plain : Stmt := top 19
abbrev n_is_plain : List Str := ["thing"]
theorem sc_is_plain : FnScope n_is_plain ["thing"] (defScope s_is_plain) := ⟨rfl, rfl, rfl, by decide +kernel, rfl, by decide +kernel, by decide +kernel⟩
abbrev s_number_in : Stmt := top 20
abbrev n_number_in : List Str := ["thing", "low", "high", "number"]
theorem sc_number_in : FnScope n_number_in ["thing", "low", "high"] (defScope s_number_in) := ⟨rfl, rfl, rfl, by decide +kernel, rfl, by decide +kernel, by decide +kernel⟩
abbrev s_is_letter : Stmt := top 14
abbrev n_is_letter : List Str := ["thing"]
theorem sc_is_letter : FnScope n_is_letter ["thing"] (defScope s_is_letter) := ⟨rfl, rfl, rfl, by decide +kernel, rfl, by decide +kernel, by decide +kernel⟩
abbrev s_normal_letter : Stmt := top 18
abbrev n_normal_letter : List Str := ["number"]
theorem sc_normal_letter : FnScope n_normal_letter ["number"] (defScope s_normal_letter) := ⟨rfl, rfl, rfl, by decide +kernel, rfl, by decide +kernel, by decide +kernel⟩
abbrev s_rank_among_letters : Stmt := top 16
abbrev n_rank_among_letters : List Str := ["letter"]
theorem sc_rank_among_letters : FnScope n_rank_among_letters ["letter"] (defScope s_rank_among_letters) := ⟨rfl, rfl, rfl, by decide +kernel, rfl, by decide +kernel, by decide +kernel⟩
abbrev s_letter_rank : Stmt := top 17
abbrev n_letter_rank : List Str := ["letter"]
theorem sc_letter_rank : FnScope n_letter_rank ["letter"] (defScope s_letter_rank) := ⟨rfl, rfl, rfl, by decide +kernel, rfl, by decide +kernel, by decide +kernel⟩
abbrev s_law_whole : Stmt := top 25
abbrev n_law_whole : List Str := ["_law_matter"]
theorem sc_law_whole : FnScope n_law_whole ["_law_matter"] (defScope s_law_whole) := ⟨rfl, rfl, rfl, by decide +kernel, rfl, by decide +kernel, by decide +kernel⟩
abbrev s_law_same : Stmt := top 36
abbrev n_law_same : List Str := ["_law_found", "_law_due"]
theorem sc_law_same : FnScope n_law_same ["_law_found", "_law_due"] (defScope s_law_same) := ⟨rfl, rfl, rfl, by decide +kernel, rfl, by decide +kernel, by decide +kernel⟩
abbrev s_law_number_of : Stmt := top 35
abbrev n_law_number_of : List Str := ["_law_text", "_law_lower", "_law_upper", "_law_sign", "_law_total"]
theorem sc_law_number_of : FnScope n_law_number_of ["_law_text", "_law_lower", "_law_upper"] (defScope s_law_number_of) := ⟨rfl, rfl, rfl, by decide +kernel, rfl, by decide +kernel, by decide +kernel⟩
abbrev s_law_spoilt : Stmt := top 34
abbrev n_law_spoilt : List Str := ["_law_bag_here", "_law_text", "_law_sign", "_law_at", "_law_way"]
theorem sc_law_spoilt : FnScope n_law_spoilt ["_law_bag_here", "_law_text"] (defScope s_law_spoilt) := ⟨rfl, rfl, rfl, by decide +kernel, rfl, by decide +kernel, by decide +kernel⟩
abbrev s_law_shown : Stmt := top 30
abbrev n_law_shown : List Str := ["_law_letter_here"]
theorem sc_law_shown : FnScope n_law_shown ["_law_letter_here"] (defScope s_law_shown) := ⟨rfl, rfl, rfl, by decide +kernel, rfl, by decide +kernel, by decide +kernel⟩
abbrev s_law_letter : Stmt := top 28
abbrev n_law_letter : List Str := ["_law_bag_here", "_law_capital"]
theorem sc_law_letter : FnScope n_law_letter ["_law_bag_here"] (defScope s_law_letter) := ⟨rfl, rfl, rfl, by decide +kernel, rfl, by decide +kernel, by decide +kernel⟩
abbrev s_law_near : Stmt := top 29
abbrev n_law_near : List Str := ["_law_bag_here", "_law_letter_here", "_law_capital", "_law_number", "_law_some"]
theorem sc_law_near : FnScope n_law_near ["_law_bag_here", "_law_letter_here"] (defScope s_law_near) := ⟨rfl, rfl, rfl, by decide +kernel, rfl, by decide +kernel, by decide +kernel⟩
abbrev s_law_very : Stmt := top 26
abbrev n_law_very : List Str := ["_law_found", "_law_matter", "_law_same_here"]
theorem sc_law_very : FnScope n_law_very ["_law_found", "_law_matter"] (defScope s_law_very) := ⟨rfl, rfl, rfl, by decide +kernel, rfl, by decide +kernel, by decide +kernel⟩
abbrev s_law_kind : Stmt := top 31
abbrev n_law_kind : List Str := ["_law_e", "_law_own", "_law_word", "_law_here"]
theorem sc_law_kind : FnScope n_law_kind ["_law_e"] (defScope s_law_kind) := ⟨rfl, rfl, rfl, by decide +kernel, rfl, by decide +kernel, by decide +kernel⟩
abbrev s_law_refused : Stmt := top 32
abbrev n_law_refused : List Str := ["_law_way", "_law_matter", "_law_e"]
theorem sc_law_refused : FnScope n_law_refused ["_law_way", "_law_matter"] (defScope s_law_refused) := ⟨rfl, rfl, rfl, by decide +kernel, rfl, by decide +kernel, by decide +kernel⟩
abbrev s_law_letters_right : Stmt := top 33
abbrev n_law_letters_right : List Str := ["_law_bag_here", "_law_one", "_law_other", "_law_first", "_law_second", "_law_number", "_law_odd"]
theorem sc_law_letters_right : FnScope n_law_letters_right ["_law_bag_here"] (defScope s_law_letters_right) := ⟨rfl, rfl, rfl, by decide +kernel, rfl, by decide +kernel, by decide +kernel⟩
abbrev s_law_numbers_right : Stmt := top 37
abbrev n_law_numbers_right : List Str := ["_law_bag_here", "_law_number", "_law_text", "_law_lower", "_law_upper", "_law_turn"]
theorem sc_law_numbers_right : FnScope n_law_numbers_right ["_law_bag_here"] (defScope s_law_numbers_right) := ⟨rfl, rfl, rfl, by decide +kernel, rfl, by decide +kernel, by decide +kernel⟩
abbrev s_law : Stmt := top 38
abbrev n_law : List Str := ["_law_script", "_law_k", "_law_bag_here"]
theorem sc_law : FnScope n_law ["_law_script"] (defScope s_law) := ⟨rfl, rfl, rfl, by decide +kernel, rfl, by decide +kernel, by decide +kernel⟩
abbrev xs_NoLetter : Stmt := inClass (top 3) 0
theorem zx_NoLetter : JgX.XSt xs_NoLetter "found" "found" := ⟨⟨_, _, _, _, _, _, _, _, _, _, _, rfl, fun _ => ⟨_, rfl⟩, fun _ => rfl, fun _ => rfl⟩, rfl, rfl, rfl, rfl, rfl, by decide +kernel, rfl, rfl, ⟨_, rfl, rfl⟩, by decide, by decide⟩
abbrev xs_NoNumber : Stmt := inClass (top 4) 0
theorem zx_NoNumber : JgX.XSt xs_NoNumber "found" "found" := ⟨⟨_, _, _, _, _, _, _, _, _, _, _, rfl, fun _ => ⟨_, rfl⟩, fun _ => rfl, fun _ => rfl⟩, rfl, rfl, rfl, rfl, rfl, by decide +kernel, rfl, rfl, ⟨_, rfl, rfl⟩, by decide, by decide⟩

open JgX
theorem s_par {i j : Nat} {ta : TA} {D : Ends} {σ : L2.St} {H : Hp} (q : ta σ H fun vs H1 => ∃ v w, vs = [v, w] ∧ D.nx ((σ.set i (some v)).set j (some w)) H1) : tPar i j ta D σ H := q
theorem passX {X : Cx} : Passes (L2.CX X.prog X.w) X E0 := fun _ _ _ _ _ _ _ h => by
  obtain ⟨_, _, _, _, _, _, _, _, _, _, _, _, h⟩ := h
  exact h.elim
theorem vals_rev {vs : List V} {us : List Value} (h : Vals vs us) : Vals vs.reverse us.reverse := by
  induction h with
  | nil => exact .nil
  | cons a _ ih =>
    rw [List.reverse_cons, List.reverse_cons]
    exact ih.append (.cons a .nil)
abbrev NumIn (K : PySem.W.Frag) (f : Addr) (d : FuncData) : Prop := FunD K "number_in" "number_in" (defArgs s_number_in) (defBody s_number_in) (defScope s_number_in) [] [(("low" : Str), V.int 0), (("high" : Str), V.int 9999)] f d
theorem kbHigh {K : PySem.W.Frag} {f : Addr} {d : FuncData} (F : NumIn K f d) : ∃ mv : List Value, KBn K d ["thing", "low", "high"] 1 ["high"] (fun us ws => us ++ (mv ++ ws)) (fun vs zs => vs ++ ([V.int 0] ++ zs)) :=
  F.kbinds0 1 ["high"] [(("low" : Str), V.int 0)] (fun us mv ws => us ++ (mv ++ ws)) (by simp) (fun q hq => by simp at hq; rw [hq]; exact .head _) (fun r1 r2 r3 => r1.append (r2.append r3))
    fun D doc pm an cdv ct us mv ws l1 l2 l3 => match us, l1, mv, l2, ws, l3 with | [_], _, [_], _, [_], _ => ⟨_, _, _, _, _, _, rfl, rfl, rfl⟩
theorem kbHL {K : PySem.W.Frag} {f : Addr} {d : FuncData} (F : NumIn K f d) : ∃ mv : List Value, KBn K d ["thing", "low", "high"] 1 ["high", "low"] (fun us ws => us ++ (mv ++ ws.reverse)) (fun vs zs => vs ++ ([] ++ zs.reverse)) :=
  F.kbinds0 1 ["high", "low"] [] (fun us mv ws => us ++ (mv ++ ws.reverse)) (by simp) (fun q hq => by cases hq) (fun r1 r2 r3 => r1.append (r2.append (vals_rev r3)))
    fun D doc pm an cdv ct us mv ws l1 l2 l3 => match us, l1, mv, l2, ws, l3 with | [_], _, [], _, [_, _], _ => rfl
theorem kbLow {K : PySem.W.Frag} {f : Addr} {d : FuncData} (F : NumIn K f d) : ∃ mv : List Value, KBn K d ["thing", "low", "high"] 1 ["low"] (fun us ws => us ++ (ws ++ mv)) (fun vs zs => vs ++ (zs ++ [V.int 9999])) :=
  F.kbinds0 1 ["low"] [(("high" : Str), V.int 9999)] (fun us mv ws => us ++ (ws ++ mv)) (by simp) (fun q hq => by simp at hq; rw [hq]; exact .tail _ (.head _)) (fun r1 r2 r3 => r1.append (r3.append r2))
    fun D doc pm an cdv ct us mv ws l1 l2 l3 => match us, l1, mv, l2, ws, l3 with | [_], _, [_], _, [_], _ => ⟨_, _, _, _, _, _, rfl, rfl, rfl⟩
theorem kbThing {K : PySem.W.Frag} {f : Addr} {d : FuncData} (F : NumIn K f d) : ∃ mv : List Value, KBn K d ["thing", "low", "high"] 0 ["thing"] (fun us ws => us ++ (ws ++ mv)) (fun vs zs => vs ++ (zs ++ [V.int 0, V.int 9999])) :=
  F.kbinds0 0 ["thing"] [(("low" : Str), V.int 0), (("high" : Str), V.int 9999)] (fun us mv ws => us ++ (ws ++ mv)) (by simp) (fun q hq => hq) (fun r1 r2 r3 => r1.append (r3.append r2))
    fun D doc pm an cdv ct us mv ws l1 l2 l3 => match us, l1, mv, l2, ws, l3 with | [], _, [_, _], _, [_], _ => ⟨_, _, _, _, _, _, rfl, rfl, _, _, _, _, _, _, rfl, rfl, rfl⟩
def figT (z : Str) : Bool := (TL.tl z).all digit && (decide ((TL.tl z).head? ≠ some 48) || decide ((TL.tl z).length = 1))
theorem plain_fig (z : Str) : plainT z = (decide (1 ≤ (TL.tl z).length) && decide ((TL.tl z).length ≤ 30) && figT z) := by
  unfold plainT figT
  simp [Bool.and_assoc]
/-- a letter by its figures -/
def capH (z : Str) : Bool := match (TL.tl z).head? with | some c => decide (65 ≤ c) && decide (c ≤ 90) | none => false
theorem cap_head {z : Str} {c : Nat} {r : List Nat} (h : TL.tl z = c :: r) : capH z = (decide (65 ≤ c) && decide (c ≤ 90)) := by
  unfold capH
  rw [h]
  rfl
theorem cut1_len {z : Str} (h : 1 ≤ z.length) : (cutS z (some 1) none).length = z.length - 1 ∧ TL.tl (cutS z (some 1) none) = (TL.tl z).drop 1 := by
  have e : TL.tl (cutS z (some 1) none) = (TL.tl z).drop 1 := by
    unfold cutS
    rw [TL.tl_mk, HT.sIx_none, show (1 : Int) = ((1 : Nat) : Int) from rfl, HT.sIx_nat]
    rw [TL.len_tl] at h ⊢
    show (List.drop (min 1 (TL.tl z).length) (TL.tl z)).take _ = _
    rw [Nat.min_eq_left h]
    exact List.take_of_length_le (by rw [List.length_drop]; exact Nat.le_refl _)
  refine ⟨?_, e⟩
  rw [TL.len_tl, e, List.length_drop, TL.len_tl]
def letterT (z : Str) : Bool := decide (1 ≤ z.length) && decide (z.length ≤ 3) && (capH z && (decide (z.length = 1) || figT (cutS z (some 1) none)))
def letterO : Option Str → Bool
  | some z => letterT z
  | none => false
/-- a leaf that is shown shortly -/
structure One (y : V) (d : PyData) : Prop where
  dp : ∀ (K : PySem.W.Frag) (H : Hp), Dp K H y d
  sh : d.showable = true
  nd : d.hasDict = false
  dep : d.depth = 0
  sz : d.shown.length ≤ 1000
  noL : ∀ (K : PySem.W.Frag) (H : Hp), Isi K H y "list" false
/-- what is looked at as the very thing: a leaf, or a list of one leaf -/
def Very (H : Hp) (v : V) : Prop := (∃ d, One v d) ∨ ∃ q y d, v = .ref q ∧ H q = some (.lst [y]) ∧ One y d
theorem upd_back {H : Hp} {q : Addr} {o u : HO} (h : H q = some o) : upd (upd H q u) q o = H := by
  funext b
  by_cases e : b = q
  · rw [e, upd_same, h]
  · rw [upd_ne e, upd_ne e]
theorem list_fine {d e : PyData} {y : V} (o : One y d) : ((PyData.list [d]).showable = true ∧ (PyData.list [d]).hasDict = false ∧ (PyData.list [d]).depth ≤ 60 ∧ (PyData.list [d]).shown.length ≤ sizeLine) ∧
    ((PyData.list [d, .str (Str.ofString "late")]).showable = true ∧ (PyData.list [d, .str (Str.ofString "late")]).hasDict = false ∧ (PyData.list [d, .str (Str.ofString "late")]).depth ≤ 60 ∧ (PyData.list [d, .str (Str.ofString "late")]).shown.length ≤ sizeLine) := by
  have z := o.sz
  have l9 : (reprText (Str.ofString "late")).length ≤ 100 := by decide +kernel
  refine ⟨⟨by simp [PyData.showable, PyData.showableAll, o.sh], by simp [PyData.hasDict, PyData.hasDictAll, o.nd], by simp [PyData.depth, PyData.depthAll, o.dep], ?_⟩,
    by simp [PyData.showable, PyData.showableAll, o.sh], by simp [PyData.hasDict, PyData.hasDictAll, o.nd], by simp [PyData.depth, PyData.depthAll, o.dep], ?_⟩
  · show (listText [d.shown]).length ≤ sizeLine
    have a := listText_len_le [d.shown]
    simp at a
    exact Nat.le_trans (by omega : _ ≤ 2000) (by decide)
  · show (listText [d.shown, reprText (Str.ofString "late")]).length ≤ sizeLine
    have a := listText_len_le [d.shown, reprText (Str.ofString "late")]
    simp at a
    exact Nat.le_trans (by omega : _ ≤ 2000) (by decide)
def shownL (c : Nat) (n : Int) : Str := if 0 ≤ n then ⟨#[c]⟩ ++ Str.ofString (toString n) else ⟨#[c]⟩ ++ Str.ofString ""
def rankV (z : Str) : List V := if (TL.tl z).length = 1 then [.str z] else [.str ⟨#[(TL.tl z).headD 0]⟩, .int (numT (cutS z (some 1) none))]
theorem letter_num {z : Str} (h : letterT z = true) (n : z.length ≠ 1) : plainT (cutS z (some 1) none) = true := by
  unfold letterT at h
  rw [Bool.and_eq_true, Bool.and_eq_true, Bool.and_eq_true, Bool.or_eq_true, decide_eq_true_eq, decide_eq_true_eq, decide_eq_true_eq] at h
  obtain ⟨⟨h1, h2⟩, h3, h4⟩ := h
  have l := (cut1_len h1).1
  rw [plain_fig, ← TL.len_tl, l, decide_eq_true (show 1 ≤ z.length - 1 by omega), decide_eq_true (show z.length - 1 ≤ 30 by omega)]
  rcases h4 with h4 | h4
  · exact absurd h4 n
  · rw [h4]
    rfl
theorem sg_int {m : Int} (h0 : 0 ≤ m) (h1 : m ≤ 1000000000000000000000000000000) : Sg (Str.ofString (toString m)) 40 := by
  refine ⟨Nat.le_trans (PyProof.Rows.toString_length_le h0 (k := 31) (by decide) (Int.lt_of_le_of_lt h1 (by decide +kernel))) (by decide), fun c hc => ?_⟩
  by_cases d : c < 1114112
  · exact d
  · exact absurd hc (PyProof.Rows.int_text_free' c ⟨by omega, Or.inr (by omega)⟩ m)
theorem log_int {m : Int} (h0 : 0 ≤ m) (h1 : m ≤ 1000000000000000000000000000000) : m.natAbs.log2 < 1920 := by
  have a : m.natAbs ≤ 1000000000000000000000000000000 := by omega
  by_cases c : m.natAbs = 0
  · rw [c]
    decide
  · rw [Nat.log2_lt c]
    exact Nat.lt_of_le_of_lt a (by decide +kernel)
theorem caps (c : Nat) : decide (c ∈ (Str.ofString "ABCDEFGHIJKLMNOPQRSTUVWXYZ").cps.toList) = (decide (65 ≤ c) && decide (c ≤ 90)) := by
  have : (Str.ofString "ABCDEFGHIJKLMNOPQRSTUVWXYZ").cps.toList = [65, 66, 67, 68, 69, 70, 71, 72, 73, 74, 75, 76, 77, 78, 79, 80, 81, 82, 83, 84, 85, 86, 87, 88, 89, 90] := by decide +kernel
  rw [this, Bool.eq_iff_iff]
  simp only [List.mem_cons, List.not_mem_nil, or_false, decide_eq_true_eq, Bool.and_eq_true]
  omega
def fig2 (l : List Nat) : Bool := l.all digit && (decide (l.head? ≠ some 48) || decide (l.length = 1))
def rankL (c : Nat) (n : Int) : List V := if 0 ≤ n then [.str ⟨#[c]⟩, .int n] else [.str ⟨#[c]⟩]
def oneL (c : Nat) (n : Int) : List V := [.str ⟨#[c]⟩, .int n]
def nums100 : ∀ k : Fin 100, (fig2 (TL.tl (Str.ofString (toString ((k : Nat) : Int)))) && decide (1 ≤ (TL.tl (Str.ofString (toString ((k : Nat) : Int)))).length) && decide ((TL.tl (Str.ofString (toString ((k : Nat) : Int)))).length ≤ 2) && decide (NumText.digitsVal (TL.tl (Str.ofString (toString ((k : Nat) : Int)))) = (k : Nat)) && (TL.tl (Str.ofString (toString ((k : Nat) : Int)))).all fun x => decide (x < 128)) = true := by decide +kernel
theorem shown_tl (c : Nat) (D : Str) : TL.tl ((⟨#[c]⟩ : Str) ++ D) = c :: TL.tl D := by rw [TL.tl_append]; rfl
theorem shown_facts {c : Nat} {n : Int} (c0 : 65 ≤ c) (c1 : c ≤ 90) (n0 : -1 ≤ n) (n1 : n ≤ 99) : letterT (shownL c n) = true ∧ rankV (shownL c n) = rankL c n ∧ Sg (shownL c n) 40 ∧ (TL.tl (shownL c n)).head? = some c ∧ 1 ≤ (TL.tl (shownL c n)).length ∧ (TL.tl (shownL c n)).length ≤ 3 := by
  unfold shownL rankL
  by_cases h : 0 ≤ n
  · rw [if_pos h, if_pos h]
    obtain ⟨k, rfl⟩ : ∃ k : Fin 100, n = ((k : Nat) : Int) := ⟨⟨n.toNat, by omega⟩, by show n = ((n.toNat : Nat) : Int); omega⟩
    have f := nums100 k
    rw [Bool.and_eq_true, Bool.and_eq_true, Bool.and_eq_true, Bool.and_eq_true, decide_eq_true_eq, decide_eq_true_eq, decide_eq_true_eq, List.all_eq_true] at f
    obtain ⟨⟨⟨⟨f1, f2⟩, f3⟩, f4⟩, f5⟩ := f
    generalize Str.ofString (toString ((k : Nat) : Int)) = D at f1 f2 f3 f4 f5
    have e := shown_tl c D
    have l : ((⟨#[c]⟩ : Str) ++ D).length = (TL.tl D).length + 1 := by rw [TL.len_tl, e]; rfl
    have cut := (cut1_len (z := (⟨#[c]⟩ : Str) ++ D) (by omega)).2
    rw [e] at cut
    have cut2 : TL.tl (cutS ((⟨#[c]⟩ : Str) ++ D) (some 1) none) = TL.tl D := cut
    refine ⟨?_, ?_, ?_, by rw [e]; rfl, by rw [← TL.len_tl]; omega, by rw [← TL.len_tl]; omega⟩
    · unfold letterT
      rw [cap_head e, decide_eq_true (show 1 ≤ ((⟨#[c]⟩ : Str) ++ D).length by omega), decide_eq_true (show ((⟨#[c]⟩ : Str) ++ D).length ≤ 3 by omega), decide_eq_true c0, decide_eq_true c1]
      have : figT (cutS ((⟨#[c]⟩ : Str) ++ D) (some 1) none) = true := by
        have z : figT (cutS ((⟨#[c]⟩ : Str) ++ D) (some 1) none) = fig2 (TL.tl (cutS ((⟨#[c]⟩ : Str) ++ D) (some 1) none)) := rfl
        rw [z, cut2]
        exact f1
      rw [this]
      simp
    · unfold rankV
      rw [if_neg (by rw [← TL.len_tl]; omega), e]
      have : numT (cutS ((⟨#[c]⟩ : Str) ++ D) (some 1) none) = ((k : Nat) : Int) := by
        unfold numT
        rw [cut2, f4]
      rw [this]
      rfl
    · refine ⟨by omega, fun d hd => ?_⟩
      rw [e] at hd
      rcases List.mem_cons.mp hd with rfl | hd
      · omega
      · have := of_decide_eq_true (f5 d hd)
        omega
  · rw [if_neg h, if_neg h]
    have e0 : (⟨#[c]⟩ : Str) ++ Str.ofString "" = ⟨#[c]⟩ := by
      refine TL.ext_tl ?_
      rw [shown_tl, show TL.tl (Str.ofString "") = [] from by decide +kernel]
    rw [e0]
    have e : TL.tl (⟨#[c]⟩ : Str) = [c] := rfl
    have l : (⟨#[c]⟩ : Str).length = 1 := rfl
    refine ⟨?_, ?_, ⟨by rw [l]; decide, fun d hd => ?_⟩, rfl, by rw [e]; exact Nat.le_refl 1, by rw [e]; exact (by decide : 1 ≤ 3)⟩
    · unfold letterT
      rw [cap_head e, l, decide_eq_true c0, decide_eq_true c1]
      rfl
    · unfold rankV
      rw [if_pos (by rw [e]; rfl)]
    · rw [e, List.mem_singleton] at hd
      omega
theorem chr_eq {c d : Nat} : ((⟨#[c]⟩ : Str) = ⟨#[d]⟩) ↔ c = d := ⟨fun h => by have := congrArg TL.tl h; simpa [TL.tl] using this, fun h => by rw [h]⟩
theorem ranks_ahead {c d : Nat} {n m : Int} (n0 : -1 ≤ n) (m0 : -1 ≤ m) : pairsAlike (rankL c n) (rankL d m) ∧ pairsAlike (oneL c n) (oneL d m) ∧ lexV (rankL c n) (rankL d m) = lexV (oneL c n) (oneL d m) := by
  unfold rankL oneL
  by_cases h : 0 ≤ n <;> by_cases h2 : 0 ≤ m
  all_goals
    (try rw [if_pos h]) <;> (try rw [if_neg h]) <;> (try rw [if_pos h2]) <;> (try rw [if_neg h2])
    refine ⟨?_, ?_, ?_⟩
    · intro j j1 j2
      match j with
      | 0 => rfl
      | 1 => first | rfl | exact absurd j1 (Nat.lt_irrefl 1) | exact absurd j2 (Nat.lt_irrefl 1)
      | j + 2 => exact absurd j1 (by simp)
    · intro j j1 j2
      match j with
      | 0 => rfl
      | 1 => rfl
      | j + 2 => exact absurd j1 (by simp)
    · unfold lexV
      by_cases e : c = d
      · subst e
        simp [Ob.lexAt_succ, Ob.lexAt_zero, leafLt]
        try (split <;> first | rfl | omega | (simp; omega))
        try omega
      · have e2 : ¬ ((⟨#[c]⟩ : Str) = ⟨#[d]⟩) := fun z => e (chr_eq.mp z)
        simp [Ob.lexAt_succ, Ob.lexAt_zero, leafLt, e]
theorem ranks_same {c d : Nat} {n m : Int} (n0 : -1 ≤ n) (m0 : -1 ≤ m) : (rankL c n = rankL d m) ↔ (oneL c n = oneL d m) := by
  unfold rankL oneL
  by_cases h : 0 ≤ n <;> by_cases h2 : 0 ≤ m
  all_goals
    (try rw [if_pos h]) <;> (try rw [if_neg h]) <;> (try rw [if_pos h2]) <;> (try rw [if_neg h2])
    try (simp <;> omega)
def rankD (c : Nat) (n : Int) : List PyData := if 0 ≤ n then [.str ⟨#[c]⟩, .int n] else [.str ⟨#[c]⟩]
def oneD (c : Nat) (n : Int) : List PyData := [.str ⟨#[c]⟩, .int n]
theorem dp_rank {K : PySem.W.Frag} {H : Hp} (c : Nat) (n : Int) : DpAll K H (rankL c n) (rankD c n) ∧ DpAll K H (oneL c n) (oneD c n) := by
  refine ⟨?_, .cons (.str _) (.cons (.int _) .nil)⟩
  unfold rankL rankD
  by_cases h : 0 ≤ n
  · rw [if_pos h, if_pos h]
    exact .cons (.str _) (.cons (.int _) .nil)
  · rw [if_neg h, if_neg h]
    exact .cons (.str _) .nil
theorem shaped_rank {c : Nat} {n : Int} (c0 : 65 ≤ c) (c1 : c ≤ 90) (n0 : -1 ≤ n) (n1 : n ≤ 99) : SeqAt.shaped (.tuple (rankD c n)) = true ∧ SeqAt.shaped (.tuple (oneD c n)) = true := by
  have all : ∀ (a : Fin 26) (b : Fin 101), (SeqAt.shaped (.tuple (rankD (65 + (a : Nat)) (((b : Nat) : Int) - 1))) && SeqAt.shaped (.tuple (oneD (65 + (a : Nat)) (((b : Nat) : Int) - 1)))) = true := by decide +kernel
  have h := all ⟨c - 65, by omega⟩ ⟨(n + 1).toNat, by omega⟩
  rw [show 65 + (c - 65) = c by omega, show (((n + 1).toNat : Nat) : Int) - 1 = n by omega, Bool.and_eq_true] at h
  exact h
theorem eqv_rank {c d : Nat} {n m : Int} (n0 : -1 ≤ n) (m0 : -1 ≤ m) : PyData.eqv (.tuple (rankD c n)) (.tuple (rankD d m)) = PyData.eqv (.tuple (oneD c n)) (.tuple (oneD d m)) := by
  unfold rankD oneD
  by_cases h : 0 ≤ n <;> by_cases h2 : 0 ≤ m
  all_goals
    (try rw [if_pos h]) <;> (try rw [if_neg h]) <;> (try rw [if_pos h2]) <;> (try rw [if_neg h2])
    try (simp [PyData.eqv, PyData.eqvAll] <;> omega)
/-- the same letter, otherwise written, is none -/
theorem low_shown : ∀ (c : Fin 26) (n : Fin 101), (!letterT (Txt.lower (shownL (65 + (c : Nat)) (((n : Nat) : Int) - 1))) && decide ((Txt.lower (shownL (65 + (c : Nat)) (((n : Nat) : Int) - 1))).length ≤ 9) && (TL.tl (Txt.lower (shownL (65 + (c : Nat)) (((n : Nat) : Int) - 1)))).all fun x => decide (x < 128)) = true := by decide +kernel
theorem lower_facts {c : Nat} {n : Int} (c0 : 65 ≤ c) (c1 : c ≤ 90) (n0 : -1 ≤ n) (n1 : n ≤ 99) : letterT (Txt.lower (shownL c n)) = false ∧ Sg (Txt.lower (shownL c n)) 9 := by
  have h := low_shown ⟨c - 65, by omega⟩ ⟨(n + 1).toNat, by omega⟩
  rw [show 65 + (c - 65) = c by omega, show (((n + 1).toNat : Nat) : Int) - 1 = n by omega, Bool.and_eq_true, Bool.and_eq_true, decide_eq_true_eq, List.all_eq_true] at h
  refine ⟨by simpa using h.1.1, h.1.2, fun x hx => ?_⟩
  have := of_decide_eq_true (h.2 x hx)
  omega
theorem blank_facts {c : Nat} {n : Int} (c0 : 65 ≤ c) (c1 : c ≤ 90) (n0 : -1 ≤ n) (n1 : n ≤ 99) : letterT (shownL c n ++ Str.ofString " ") = false ∧ Sg (shownL c n ++ Str.ofString " ") 9 := by
  obtain ⟨f1, f2, f3, f4, f5, f6⟩ := shown_facts c0 c1 n0 n1
  have e : TL.tl (shownL c n ++ Str.ofString " ") = TL.tl (shownL c n) ++ [32] := by
    rw [TL.tl_append]
    congr 1
  have l : (shownL c n ++ Str.ofString " ").length = (TL.tl (shownL c n)).length + 1 := by rw [TL.len_tl, e, List.length_append]; rfl
  constructor
  · unfold letterT
    have cut := (cut1_len (z := shownL c n ++ Str.ofString " ") (by omega)).2
    have f : figT (cutS (shownL c n ++ Str.ofString " ") (some 1) none) = false := by
      have z : figT (cutS (shownL c n ++ Str.ofString " ") (some 1) none) = fig2 (TL.tl (cutS (shownL c n ++ Str.ofString " ") (some 1) none)) := rfl
      rw [z, cut, e]
      unfold fig2
      have : ((TL.tl (shownL c n) ++ [32]).drop 1).all digit = false := by
        rw [List.drop_append_of_le_length f5, List.all_append]
        simp [digit]
      rw [this]
      rfl
    rw [f, decide_eq_false (show ¬ (shownL c n ++ Str.ofString " ").length = 1 by omega)]
    simp
  · refine ⟨by omega, fun x hx => ?_⟩
    rw [e] at hx
    rcases List.mem_append.mp hx with hx | hx
    · exact f3.2 x hx
    · rw [List.mem_singleton.mp hx]
      decide
theorem one_str {z : Str} (h : Sg z 50) : One (.str z) (.str z) := by
  refine ⟨fun K H => .str z, by simp only [PyData.showable], by simp only [PyData.hasDict], by simp only [PyData.depth], ?_, fun K H => Isi.of (.base (.str z)) (by decide +kernel)⟩
  have l := StrLaws.reprText_len z fun c hc => Nat.lt_trans (h.2 c hc) (by decide)
  have l2 := h.1
  show (reprText z).length ≤ _
  omega
theorem one_int {i : Int} (h : i.natAbs.log2 < 1920) (l : (Str.ofString (toString i)).length ≤ 1000) : One (.int i) (.int i) :=
  ⟨fun K H => .int i, by simpa only [PyData.showable, decide_eq_true_eq] using h, by simp only [PyData.hasDict], by simp only [PyData.depth], l, fun K H => Isi.of (.base (.int i)) (by decide +kernel)⟩
theorem one_bl (b : Bool) : One (.bl b) (.bool b) :=
  ⟨fun K H => .bl b, by simp only [PyData.showable], by simp only [PyData.hasDict], by simp only [PyData.depth], by cases b <;> decide +kernel, fun K H => Isi.of (.base (.bl b)) (by decide +kernel)⟩
theorem one_non : One .non .none :=
  ⟨fun K H => .non, by simp only [PyData.showable], by simp only [PyData.hasDict], by simp only [PyData.depth], by decide +kernel, fun K H => Isi.of (.base .non) (by decide +kernel)⟩
theorem Very.same {H H' : Hp} {v : V} (s : Same H H') (h : Very H v) : Very H' v := by
  rcases h with h | ⟨q, y, d, e, h, o⟩
  · exact Or.inl h
  · exact Or.inr ⟨q, y, d, e, s _ _ h, o⟩
/-- what a letter isn't -/
def NoLet (K : PySem.W.Frag) (H : Hp) (v : V) : Prop := Very H v ∧ ∃ o, IsS K H 2000 v o ∧ letterO o = false
theorem nolet_str {K : PySem.W.Frag} {H : Hp} {z : Str} (h : Sg z 50) (n : letterT z = false) : NoLet K H (.str z) := ⟨Or.inl ⟨_, one_str h⟩, some z, ⟨rfl, h.mono (by decide)⟩, n⟩
theorem nolet_lst {K : PySem.W.Frag} {H : Hp} {q : Addr} {z : Str} (h : Sg z 50) (e : H q = some (.lst [.str z])) : NoLet K H (.ref q) := ⟨Or.inr ⟨q, _, _, rfl, e, one_str h⟩, none, Isi.of (.base (.lst e)) (by decide +kernel), rfl⟩
theorem nolet_non {K : PySem.W.Frag} {H : Hp} : NoLet K H .non := ⟨Or.inl ⟨_, one_non⟩, none, Isi.of (.base .non) (by decide +kernel), rfl⟩
theorem nolet_bl {K : PySem.W.Frag} {H : Hp} (b : Bool) : NoLet K H (.bl b) := ⟨Or.inl ⟨_, one_bl b⟩, none, Isi.of (.base (.bl b)) (by decide +kernel), rfl⟩
theorem nolet_int {K : PySem.W.Frag} {H : Hp} {i : Int} (h : i.natAbs.log2 < 1920) (l : (Str.ofString (toString i)).length ≤ 1000) : NoLet K H (.int i) := ⟨Or.inl ⟨_, one_int h l⟩, none, Isi.of (.base (.int i)) (by decide +kernel), rfl⟩
/-- what a number from 0 to 99 isn't -/
def NoNum (K : PySem.W.Frag) (H : Hp) (v : V) : Prop := Very H v ∧ ∃ o, IsW K H v o ∧ wholeB 0 99 o = false
theorem nonum_str {K : PySem.W.Frag} {H : Hp} {z : Str} (h : Sg z 50) : NoNum K H (.str z) := ⟨Or.inl ⟨_, one_str h⟩, none, Or.inr (Isi.of (.base (.str z)) (by decide +kernel)), rfl⟩
theorem nonum_non {K : PySem.W.Frag} {H : Hp} : NoNum K H .non := ⟨Or.inl ⟨_, one_non⟩, none, Or.inr (Isi.of (.base .non) (by decide +kernel)), rfl⟩
theorem nonum_bl {K : PySem.W.Frag} {H : Hp} (b : Bool) : NoNum K H (.bl b) := ⟨Or.inl ⟨_, one_bl b⟩, none, Or.inl ⟨b, rfl⟩, rfl⟩
theorem nonum_int {K : PySem.W.Frag} {H : Hp} {i : Int} (h : i.natAbs.log2 < 1920) (l : (Str.ofString (toString i)).length ≤ 1000) (b : wholeB 0 99 (some i) = false) : NoNum K H (.int i) := ⟨Or.inl ⟨_, one_int h l⟩, some i, rfl, b⟩
theorem nonum_lst {K : PySem.W.Frag} {H : Hp} {q : Addr} {i : Int} (h : i.natAbs.log2 < 1920) (l : (Str.ofString (toString i)).length ≤ 1000) (e : H q = some (.lst [.int i])) : NoNum K H (.ref q) := ⟨Or.inr ⟨q, _, _, rfl, e, one_int h l⟩, none, Or.inr (Isi.of (.base (.lst e)) (by decide +kernel)), rfl⟩
theorem nums_small : ∀ k : Fin 100, (((k : Nat) : Int).natAbs.log2 < 1920) ∧ (Str.ofString (toString ((k : Nat) : Int))).length ≤ 1000 ∧ (Str.ofString "N" ++ Str.ofString (toString ((k : Nat) : Int))).length ≤ 100 := by decide +kernel
def sp_law_cell (K : PySem.W.Frag) : Sp := fun vs H Q E =>
  ∃ (a : Addr) (ns : List Int) (k : Nat), vs = [.ref a, .int (k : Int)] ∧ SqL K H a (ns.map V.int) ∧ k ≤ 63 ∧ ∀ z : Int, Q (.int z) H
def sp_law_bag (K : PySem.W.Frag) : Sp := fun vs H Q E =>
  ∃ (z : Int), vs = [.int z] ∧ ∀ p H', H p = none → Same H H' → Bg H' p 0 → Q (.ref p) H'
def sp_law_take (K : PySem.W.Frag) : Sp := fun vs H Q E =>
  ∃ (p : Addr) (m : Int) (n : Nat), vs = [.ref p, .int m] ∧ 0 < m ∧ m < 2 ^ 120 ∧ n ≤ 1000000 ∧ Bg H p n ∧ ∀ (z : Int) (H' : Hp), 0 ≤ z → z < m → Bg H' p (n + 1) → Mv p H H' → Q (.int z) H'
def sp_law_any (K : PySem.W.Frag) : Sp := fun vs H Q E =>
  ∃ (p : Addr) (n : Nat), vs = [.ref p] ∧ n ≤ 999999 ∧ Bg H p n ∧ ∀ v H', (∃ o, IsT H' v o) → (∀ q, v = .ref q → q ≠ p) → Bg H' p (n + 1) → Mv p H H' → Q v H'
def sp_is_whole (K : PySem.W.Frag) : Sp := fun vs H Q E =>
  ∃ (v : V) (o : Option Int) (lo hi : Int), vs = [v, .int lo, .int hi] ∧ IsW K H v o ∧ Q (.bl (wholeB lo hi o)) H
def sp_consists_of (K : PySem.W.Frag) : Sp := fun vs H Q E =>
  ∃ (z m : Str), vs = [.str z, .str m] ∧ Sg z 2000 ∧ ∀ H', Same H H' → Q (.bl ((TL.tl z).all fun c => decide (c ∈ m.cps.toList))) H'
def sp_is_figures (K : PySem.W.Frag) : Sp := fun vs H Q E =>
  ∃ (z : Str), vs = [.str z] ∧ Sg z 2000 ∧ 1 ≤ z.length ∧ ∀ H', Same H H' → Q (.bl (figT z)) H'
def sp_is_plain (K : PySem.W.Frag) : Sp := fun vs H Q E =>
  ∃ (v : V) (o : Option Str), vs = [v] ∧ IsS K H 2000 v o ∧ ∀ H', Same H H' → Q (.bl (plainO o)) H'
def sp_number_in (K : PySem.W.Frag) : Sp := fun vs H Q E =>
  ∃ (v : V) (o : Option Str) (lo hi : Int), vs = [v, .int lo, .int hi] ∧ IsS K H 2000 v o ∧ ∀ H', Same H H' → Q (numV (numO o lo hi)) H'
def sp_is_letter (K : PySem.W.Frag) : Sp := fun vs H Q E =>
  ∃ (v : V) (o : Option Str), vs = [v] ∧ IsS K H 2000 v o ∧ ∀ H', Same H H' → Q (.bl (letterO o)) H'
def sp_normal_letter (K : PySem.W.Frag) : Sp := fun vs H Q E =>
  ∃ (v : V) (o : Option Int), vs = [v] ∧ IsW K H v o ∧ (∀ i, o = some i → wholeB 0 99 o = true → Q (.str (Str.ofString "N" ++ Str.ofString (toString i))) H) ∧
    (wholeB 0 99 o = false → ∀ C dx, PySem.W.nsIn K mainGlobals "NoNumber" = some (some (.ref C)) → H dx = none → E (.ref C) (some dx) (upd H dx (.xd [("found", v)])))
def sp_rank_among_letters (K : PySem.W.Frag) : Sp := fun vs H Q E =>
  ∃ (z : Str), vs = [.str z] ∧ Sg z 2000 ∧ letterT z = true ∧ ∀ H' p, Same H H' → H p = none → H' p = some (.tup (rankV z)) → Q (.ref p) H'
def sp_letter_rank (K : PySem.W.Frag) : Sp := fun vs H Q E =>
  ∃ (v : V) (o : Option Str), vs = [v] ∧ IsS K H 2000 v o ∧ (∀ z, o = some z → letterT z = true → ∀ H' p, Same H H' → H p = none → H' p = some (.tup (rankV z)) → Q (.ref p) H') ∧
    (letterO o = false → ∀ C dx H', PySem.W.nsIn K mainGlobals "NoLetter" = some (some (.ref C)) → Same H H' → H' dx = none → E (.ref C) (some dx) (upd H' dx (.xd [("found", v)])))
def sp_law_whole (K : PySem.W.Frag) : Sp := fun vs H Q E =>
  ∃ (v : V) (o : Option Int), vs = [v] ∧ IsW K H v o ∧ Q (.bl o.isSome) H
def sp_law_same (K : PySem.W.Frag) : Sp := fun vs H Q E =>
  ∃ (o o2 : Option Int), vs = [numV o, numV o2] ∧ Q (.bl (decide (o = o2))) H
def sp_law_number_of (K : PySem.W.Frag) : Sp := fun vs H Q E =>
  ∃ (v : V) (o : Option Str) (lo hi : Int), vs = [v, .int lo, .int hi] ∧ IsS K H 2000 v o ∧ ∀ H', Same H H' → Q (numV (numO o lo hi)) H'
def sp_law_spoilt (K : PySem.W.Frag) : Sp := fun vs H Q E =>
  ∃ (p : Addr) (z : Str) (n m : Nat), vs = [.ref p, .str z] ∧ n ≤ 900000 ∧ Bg H p n ∧ Sg z m ∧ m ≤ 900 ∧ ∀ z' H', Sg z' (2 * m + 1) → Bg H' p (n + 3) → Mv p H H' → Q (.str z') H'
def sp_law_shown (K : PySem.W.Frag) : Sp := fun vs H Q E =>
  ∃ (p : Addr) (c : Nat) (n : Int), vs = [.ref p] ∧ H p = some (.tup [.str ⟨#[c]⟩, .int n]) ∧ -1 ≤ n ∧ n ≤ 99 ∧ ∀ H', Same H H' → Q (.str (shownL c n)) H'
def sp_law_letter (K : PySem.W.Frag) : Sp := fun vs H Q E =>
  ∃ (p : Addr) (n : Nat), vs = [.ref p] ∧ n ≤ 900000 ∧ Bg H p n ∧ ∀ (l : Addr) (H' : Hp) (c : Nat) (m : Int), H' l = some (.tup [.str ⟨#[c]⟩, .int m]) → 65 ≤ c → c ≤ 90 → -1 ≤ m → m ≤ 99 → l ≠ p → Bg H' p (n + 4) → Mv p H H' → Q (.ref l) H'
def sp_law_near (K : PySem.W.Frag) : Sp := fun vs H Q E =>
  ∃ (p l : Addr) (n : Nat) (c : Nat) (m : Int), vs = [.ref p, .ref l] ∧ n ≤ 900000 ∧ Bg H p n ∧ H l = some (.tup [.str ⟨#[c]⟩, .int m]) ∧ 65 ≤ c ∧ c ≤ 90 ∧ -1 ≤ m ∧ m ≤ 99 ∧ l ≠ p ∧
    ∀ (l2 : Addr) (H' : Hp) (c2 : Nat) (m2 : Int), H' l2 = some (.tup [.str ⟨#[c2]⟩, .int m2]) → 65 ≤ c2 → c2 ≤ 90 → -1 ≤ m2 → m2 ≤ 99 → l2 ≠ p → Bg H' p (n + 3) → Mv p H H' → Q (.ref l2) H'
def sp_law_very (K : PySem.W.Frag) : Sp := fun vs H Q E =>
  ∃ (v : V), vs = [v, v] ∧ Very H v ∧ Q (.bl true) H
def sp_law_kind (K : PySem.W.Frag) : Addr → Value → Option Addr → Sp := fun xa xc xd vs H Q E =>
  ∃ (C dx : Addr) (fs : List (Str × V)), vs = [.ref xa] ∧ xc = .ref C ∧ xd = some dx ∧ H dx = some (.xd fs) ∧
    ((PySem.W.nsIn K mainGlobals "NoLetter" = some (some (.ref C)) ∧ ∀ D H', Same H H' → H' D = some (.lst [.str (Str.ofString "letter"), .str (Str.ofString "base")]) → Q (.ref D) H') ∨
     (PySem.W.nsIn K mainGlobals "NoNumber" = some (some (.ref C)) ∧ ∀ D H', Same H H' → H' D = some (.lst [.str (Str.ofString "number"), .str (Str.ofString "base")]) → Q (.ref D) H'))
def sp_law_refused (K : PySem.W.Frag) : Sp := fun vs H Q E =>
  ∃ (w : Int) (m : V), vs = [.int w, m] ∧ Very H m ∧ ((w = 0 ∧ ∃ o, IsS K H 2000 m o ∧ letterO o = false) ∨ (w = 1 ∧ ∃ o, IsW K H m o ∧ wholeB 0 99 o = false)) ∧ ∀ H', Same H H' → Q (.bl true) H'
def sp_law_letters_right (K : PySem.W.Frag) : Sp := fun vs H Q E =>
  ∃ (p : Addr) (n : Nat), vs = [.ref p] ∧ n ≤ 700000 ∧ Bg H p n ∧ ∀ H', Bg H' p (n + 20) → Mv p H H' → Q (.bl true) H'
def sp_law_numbers_right (K : PySem.W.Frag) : Sp := fun vs H Q E =>
  ∃ (p : Addr) (n : Nat), vs = [.ref p] ∧ n ≤ 800000 ∧ Bg H p n ∧ ∀ H', Bg H' p (n + 40) → Mv p H H' → Q (.bl true) H'
def sp_law (K : PySem.W.Frag) : Sp := fun vs H Q E =>
  ∃ (a : Addr) (ns : List Int), vs = [.ref a] ∧ SqL K H a (ns.map V.int) ∧ ns.length ≤ 63 ∧ ∀ H', Q (.bl true) H'
structure Txt (P : Program) (K : PySem.W.Frag) (mg : Str → Option Value) (f : Nat → Addr) (d : Nat → FuncData) : Prop where
  F_law_cell : Fun K "_law_cell" "_law_cell" s_law_cell (f 0) (d 0)
  m__law_cell : mg "_law_cell" = some (.ref (f 0))
  k__law_cell : PySem.W.keepIn K (.ref (f 0)) = true
  b__law_cell : Binds K (d 0) ["_law_script", "_law_k"] []
  F_law_bag : Fun K "_law_bag" "_law_bag" s_law_bag (f 1) (d 1)
  m__law_bag : mg "_law_bag" = some (.ref (f 1))
  k__law_bag : PySem.W.keepIn K (.ref (f 1)) = true
  b__law_bag : Binds K (d 1) ["_law_cell_here"] []
  F_law_take : Fun K "_law_take" "_law_take" s_law_take (f 2) (d 2)
  m__law_take : mg "_law_take" = some (.ref (f 2))
  k__law_take : PySem.W.keepIn K (.ref (f 2)) = true
  b__law_take : Binds K (d 2) ["_law_bag_here", "_law_many"] []
  F_law_any : Fun K "_law_any" "_law_any" s_law_any (f 3) (d 3)
  m__law_any : mg "_law_any" = some (.ref (f 3))
  k__law_any : PySem.W.keepIn K (.ref (f 3)) = true
  b__law_any : Binds K (d 3) ["_law_bag_here"] []
  F_is_whole : Fun K "is_whole" "is_whole" s_is_whole (f 4) (d 4)
  m_is_whole : mg "is_whole" = some (.ref (f 4))
  k_is_whole : PySem.W.keepIn K (.ref (f 4)) = true
  b_is_whole : Binds K (d 4) ["thing", "low", "high"] []
  F_consists_of : Fun K "_consists_of" "_consists_of" s_consists_of (f 5) (d 5)
  m__consists_of : mg "_consists_of" = some (.ref (f 5))
  k__consists_of : PySem.W.keepIn K (.ref (f 5)) = true
  b__consists_of : Binds K (d 5) ["text", "marks"] []
  F_is_figures : Fun K "_is_figures" "_is_figures" s_is_figures (f 6) (d 6)
  m__is_figures : mg "_is_figures" = some (.ref (f 6))
  k__is_figures : PySem.W.keepIn K (.ref (f 6)) = true
  b__is_figures : Binds K (d 6) ["text"] []
  F_is_plain : Fun K "_is_plain" "_is_plain" s_is_plain (f 7) (d 7)
  m__is_plain : mg "_is_plain" = some (.ref (f 7))
  k__is_plain : PySem.W.keepIn K (.ref (f 7)) = true
  b__is_plain : Binds K (d 7) ["thing"] []
  F_number_in : FunD K "number_in" "number_in" (defArgs s_number_in) (defBody s_number_in) (defScope s_number_in) [] [(("low" : Str), V.int 0), (("high" : Str), V.int 9999)] (f 8) (d 8)
  m_number_in : mg "number_in" = some (.ref (f 8))
  k_number_in : PySem.W.keepIn K (.ref (f 8)) = true
  F_is_letter : Fun K "is_letter" "is_letter" s_is_letter (f 9) (d 9)
  m_is_letter : mg "is_letter" = some (.ref (f 9))
  k_is_letter : PySem.W.keepIn K (.ref (f 9)) = true
  b_is_letter : Binds K (d 9) ["thing"] []
  F_normal_letter : Fun K "normal_letter" "normal_letter" s_normal_letter (f 10) (d 10)
  m_normal_letter : mg "normal_letter" = some (.ref (f 10))
  k_normal_letter : PySem.W.keepIn K (.ref (f 10)) = true
  b_normal_letter : Binds K (d 10) ["number"] []
  F_rank_among_letters : Fun K "rank_among_letters" "rank_among_letters" s_rank_among_letters (f 11) (d 11)
  m_rank_among_letters : mg "rank_among_letters" = some (.ref (f 11))
  k_rank_among_letters : PySem.W.keepIn K (.ref (f 11)) = true
  b_rank_among_letters : Binds K (d 11) ["letter"] []
  F_letter_rank : Fun K "letter_rank" "letter_rank" s_letter_rank (f 12) (d 12)
  m_letter_rank : mg "letter_rank" = some (.ref (f 12))
  k_letter_rank : PySem.W.keepIn K (.ref (f 12)) = true
  b_letter_rank : Binds K (d 12) ["letter"] []
  F_law_whole : Fun K "_law_whole" "_law_whole" s_law_whole (f 13) (d 13)
  m__law_whole : mg "_law_whole" = some (.ref (f 13))
  k__law_whole : PySem.W.keepIn K (.ref (f 13)) = true
  b__law_whole : Binds K (d 13) ["_law_matter"] []
  F_law_same : Fun K "_law_same" "_law_same" s_law_same (f 14) (d 14)
  m__law_same : mg "_law_same" = some (.ref (f 14))
  k__law_same : PySem.W.keepIn K (.ref (f 14)) = true
  b__law_same : Binds K (d 14) ["_law_found", "_law_due"] []
  F_law_number_of : Fun K "_law_number_of" "_law_number_of" s_law_number_of (f 15) (d 15)
  m__law_number_of : mg "_law_number_of" = some (.ref (f 15))
  k__law_number_of : PySem.W.keepIn K (.ref (f 15)) = true
  b__law_number_of : Binds K (d 15) ["_law_text", "_law_lower", "_law_upper"] []
  F_law_spoilt : Fun K "_law_spoilt" "_law_spoilt" s_law_spoilt (f 16) (d 16)
  m__law_spoilt : mg "_law_spoilt" = some (.ref (f 16))
  k__law_spoilt : PySem.W.keepIn K (.ref (f 16)) = true
  b__law_spoilt : Binds K (d 16) ["_law_bag_here", "_law_text"] []
  F_law_shown : Fun K "_law_shown" "_law_shown" s_law_shown (f 17) (d 17)
  m__law_shown : mg "_law_shown" = some (.ref (f 17))
  k__law_shown : PySem.W.keepIn K (.ref (f 17)) = true
  b__law_shown : Binds K (d 17) ["_law_letter_here"] []
  F_law_letter : Fun K "_law_letter" "_law_letter" s_law_letter (f 18) (d 18)
  m__law_letter : mg "_law_letter" = some (.ref (f 18))
  k__law_letter : PySem.W.keepIn K (.ref (f 18)) = true
  b__law_letter : Binds K (d 18) ["_law_bag_here"] []
  F_law_near : Fun K "_law_near" "_law_near" s_law_near (f 19) (d 19)
  m__law_near : mg "_law_near" = some (.ref (f 19))
  k__law_near : PySem.W.keepIn K (.ref (f 19)) = true
  b__law_near : Binds K (d 19) ["_law_bag_here", "_law_letter_here"] []
  F_law_very : Fun K "_law_very" "_law_very" s_law_very (f 20) (d 20)
  m__law_very : mg "_law_very" = some (.ref (f 20))
  k__law_very : PySem.W.keepIn K (.ref (f 20)) = true
  b__law_very : Binds K (d 20) ["_law_found", "_law_matter"] []
  F_law_kind : Fun K "_law_kind" "_law_kind" s_law_kind (f 21) (d 21)
  m__law_kind : mg "_law_kind" = some (.ref (f 21))
  k__law_kind : PySem.W.keepIn K (.ref (f 21)) = true
  b__law_kind : Binds K (d 21) ["_law_e"] []
  F_law_refused : Fun K "_law_refused" "_law_refused" s_law_refused (f 22) (d 22)
  m__law_refused : mg "_law_refused" = some (.ref (f 22))
  k__law_refused : PySem.W.keepIn K (.ref (f 22)) = true
  b__law_refused : Binds K (d 22) ["_law_way", "_law_matter"] []
  F_law_letters_right : Fun K "_law_letters_right" "_law_letters_right" s_law_letters_right (f 23) (d 23)
  m__law_letters_right : mg "_law_letters_right" = some (.ref (f 23))
  k__law_letters_right : PySem.W.keepIn K (.ref (f 23)) = true
  b__law_letters_right : Binds K (d 23) ["_law_bag_here"] []
  F_law_numbers_right : Fun K "_law_numbers_right" "_law_numbers_right" s_law_numbers_right (f 24) (d 24)
  m__law_numbers_right : mg "_law_numbers_right" = some (.ref (f 24))
  k__law_numbers_right : PySem.W.keepIn K (.ref (f 24)) = true
  b__law_numbers_right : Binds K (d 24) ["_law_bag_here"] []
  F_law : Fun K "law" "law" s_law (f 25) (d 25)
  m_law : mg "law" = some (.ref (f 25))
  k_law : PySem.W.keepIn K (.ref (f 25)) = true
  b_law : Binds K (d 25) ["_law_script"] []
  x_NoLetter : JgX.XC K (f 100) "ValueError" "ValueError.__new__" "ValueError.__init__" [.type "ValueError", .type "Exception", .type "BaseException", .type "object"]
  y_NoLetter : JgX.XFn P K (f 100) (f 101) (d 100) "NoLetter.__init__" (defArgs xs_NoLetter) (defBody xs_NoLetter) (defScope xs_NoLetter)
  n_NoLetter : PySem.W.findIn K (.ref (f 100)) "found" = some none
  e_NoLetter : PySem.W.nsIn K mainGlobals "NoLetter" = some (some (.ref (f 100)))
  c_NoLetter : mg "NoLetter" = some (.ref (f 100))
  x_NoNumber : JgX.XC K (f 102) "ValueError" "ValueError.__new__" "ValueError.__init__" [.type "ValueError", .type "Exception", .type "BaseException", .type "object"]
  y_NoNumber : JgX.XFn P K (f 102) (f 103) (d 102) "NoNumber.__init__" (defArgs xs_NoNumber) (defBody xs_NoNumber) (defScope xs_NoNumber)
  n_NoNumber : PySem.W.findIn K (.ref (f 102)) "found" = some none
  e_NoNumber : PySem.W.nsIn K mainGlobals "NoNumber" = some (some (.ref (f 102)))
  c_NoNumber : mg "NoNumber" = some (.ref (f 102))
  c_NoName : mg "NoName" = some (.ref (f 104))
  c_TermError : mg "TermError" = some (.ref (f 105))
  z_super : mg "super" = none
  opq : PySem.W.nsIn K cStatics "thirdparty.any" = some none
  tp : (P.main.scope.names.lookup ("super" : Str)).isSome = false
  z_bool : mg "bool" = none
  z_int : mg "int" = none
  z_isinstance : mg "isinstance" = none
  z_len : mg "len" = none
  z_list : mg "list" = none
  z_max : mg "max" = none
  z_min : mg "min" = none
  z_range : mg "range" = none
  z_repr : mg "repr" = none
  z_str : mg "str" = none
  z_tuple : mg "tuple" = none
  z_zip : mg "zip" = none
  nb : PySem.W.nsIn K cStatics sharingNotToldKey = some none
  xa_l : JgX.XA K (f 100)
  xa_n : JgX.XA K (f 102)
  kit_ll : PySem.W.kitOne K (.ref (f 100)) (.ref (f 100)) = some true
  kit_ln : PySem.W.kitOne K (.ref (f 100)) (.ref (f 102)) = some false
  kit_lo : PySem.W.kitOne K (.ref (f 100)) (.ref (f 104)) = some false
  kit_lt : PySem.W.kitOne K (.ref (f 100)) (.ref (f 105)) = some true
  kit_nl : PySem.W.kitOne K (.ref (f 102)) (.ref (f 100)) = some false
  kit_nn : PySem.W.kitOne K (.ref (f 102)) (.ref (f 102)) = some true
  kit_no : PySem.W.kitOne K (.ref (f 102)) (.ref (f 104)) = some false
  kit_nt : PySem.W.kitOne K (.ref (f 102)) (.ref (f 105)) = some true
  ex_l : PySem.W.exmAny K (.ref (f 100)) [.ref (f 100), .ref (f 102)] = some true
  ex_n : PySem.W.exmAny K (.ref (f 102)) [.ref (f 100), .ref (f 102)] = some true
  c__FIGURES : ∃ t, mg "_FIGURES" = some (.str (Str.ofString "0123456789") t)
  c__CAPITALS : ∃ t, mg "_CAPITALS" = some (.str (Str.ofString "ABCDEFGHIJKLMNOPQRSTUVWXYZ") t)
  c__MOST_FIGURES : ∃ t, mg "_MOST_FIGURES" = some (.int 30 t)
  c__MOST_LETTER : ∃ t, mg "_MOST_LETTER" = some (.int 3 t)
  c__MOST_BEHIND : ∃ t, mg "_MOST_BEHIND" = some (.int 99 t)
  c_MOST_PLAIN : ∃ t, mg "MOST_PLAIN" = some (.int 9999 t)
local macro_rules | `(tactic| walk_at "ne") => `(tactic| first | (with_reducible assumption) | ((with_reducible apply Ne.symm); (with_reducible assumption)) | exact ne_new (by with_reducible assumption) (by walk_at "hx") | exact (ne_new (by with_reducible assumption) (by walk_at "hx")).symm)
local macro_rules | `(tactic| walk_at "bg") => `(tactic| first | (with_reducible assumption) | ((with_reducible refine Bg.new ?_ (by with_reducible assumption)); walk_at "bg") | ((with_reducible refine Bg.off ?_ (by walk_at "ne")); walk_at "bg"))
local macro_rules | `(tactic| walk_at "hx") => `(tactic| first | (with_reducible assumption) | (with_reducible exact upd_same) | ((with_reducible refine upd_keep (by with_reducible assumption) ?_); walk_at "hx") | ((with_reducible refine Eq.trans (upd_ne (by walk_at "ne")) ?_); walk_at "hx"))
local macro_rules | `(tactic| walk_at "mv") => `(tactic| first | (with_reducible exact Mv.refl _ _) | (with_reducible assumption) | ((with_reducible refine mv_new (by with_reducible assumption) ?_); walk_at "mv"))
local macro_rules | `(tactic| walk_at "sq") => `(tactic| first | assumption | exact Or.inl (Or.inl (by walk_at "hx")))
local macro_rules | `(tactic| walk_at "side") => `(tactic| first | ((try dsimp only); omega) | exact Or.inl ⟨by omega, by omega⟩ | exact ⟨by omega, by omega, by omega⟩ | exact wide_div (b := 128) (by omega) (by omega) (by omega) (by omega) | decide)
local macro_rules | `(tactic| walk_at "go1") => `(tactic| first
  | ((with_reducible apply g_var); (exact rfl))
  | with_reducible refine g_op ?_
  | with_reducible refine g_c ?_
  | with_reducible refine g_I0 ?_
  | with_reducible refine g_test ?_
  | with_reducible refine g_B ?_
  | with_reducible refine g_bl ?_
  | with_reducible refine g_cons ?_
  | with_reducible refine g_nil ?_
  | with_reducible refine g_call ?_
  | with_reducible refine g_CB ?_
  | with_reducible refine s_seq ?_
  | with_reducible refine s_next ?_
  | with_reducible refine s_asg ?_
  | with_reducible refine s_name ?_
  | with_reducible refine s_if ?_
  | with_reducible refine s_ret ?_
  | with_reducible refine s_retN ?_
  | with_reducible refine s_drop ?_
  | with_reducible refine s_sub ?_
  | with_reducible refine s_brk ?_
  | with_reducible refine s_cont ?_
  | with_reducible refine g_not ?_
  | with_reducible refine g_and ?_
  | with_reducible refine g_or ?_
  | with_reducible refine g_if ?_
  | with_reducible refine g_notV ?_
  | with_reducible refine g_andV ?_
  | with_reducible refine g_orV ?_
  | with_reducible refine g_un ?_
  | with_reducible refine g_is ?_
  | with_reducible refine g_isNot ?_
  | ((with_reducible apply g_eq); (exact rfl))
  | ((with_reducible apply g_ne); (exact rfl))
  | ((with_reducible apply g_ixL); (walk_at "sq"); (exact rfl))
  | ((with_reducible apply g_I); (walk_at "side"))
  | ((with_reducible apply s_setL); (walk_at "hx"); (exact rfl))
  | ((with_reducible apply g_lenL); (walk_at "sq"))
  | ((with_reducible apply g_lenS); (first | assumption | exact Nat.le_trans (by assumption) (by decide)))
  | with_reducible refine g_int ?_
  | with_reducible refine g_intB ?_
  | with_reducible refine g_max ?_
  | with_reducible refine g_min ?_
  | with_reducible refine g_lst ?_
  | with_reducible refine g_tup ?_
  | ((with_reducible apply g_slS); (first | assumption | exact Nat.le_trans (by assumption) (by decide)))
  | with_reducible refine g_BM ?_
  | with_reducible refine g_M1 ?_
  | with_reducible refine g_str ?_
  | with_reducible refine g_sl ?_
  | with_reducible refine g_noPart ?_
  | with_reducible refine g_part ?_
  | with_reducible refine g_ex ?_
  | with_reducible refine g_true ?_
  | with_reducible refine g_false ?_
  | ((with_reducible apply g_sz); (exact Nat.le_of_ble_eq_true rfl); intro _ _)
  | ((with_reducible refine g_dnew ?_); intro _ _)
  | ((with_reducible refine g_disp1 ?_); intro _ _)
  | with_reducible refine g_U ?_
  | with_reducible refine g_replIx ?_
  | with_reducible refine g_same ?_
  | with_reducible refine g_nt ?_
  | with_reducible refine g_nf ?_
  | with_reducible refine g_chain ?_
  | with_reducible refine g_callN ?_
  | with_reducible refine g_lc ?_
  | with_reducible refine s_for ?_
  | with_reducible refine g_rng1 ?_
  | ((with_reducible apply g_rngN); (omega))
  | with_reducible refine g_iList ?_
  | with_reducible refine g_iStr ?_
  | with_reducible refine g_its ?_
  | ((with_reducible apply g_itl); (walk_at "sq"))
  | ((with_reducible apply g_yes); (first | omega | decide))
  | ((with_reducible apply g_no); (first | omega | decide)))
local macro_rules | `(tactic| walk_at "go") => `(tactic| repeat (walk_at "go1"))
local macro_rules | `(tactic| walk_at "st") => `(tactic| repeat (first | with_reducible refine s_seq ?_ | with_reducible refine s_next ?_ | with_reducible refine s_asg ?_ | with_reducible refine s_name ?_ | with_reducible refine s_drop ?_ | with_reducible refine s_ret ?_))

section
variable {P : Program} {w : World} {K : PySem.W.Frag} {mg : Str → Option Value} {base : Heap} {f : Nat → Addr} {d : Nat → FuncData}
theorem ok_law_cell (T : Txt P K mg f d) : FnOk P w K mg base CX0 1 (f 0) (d 0) ["_law_script", "_law_k"] (sp_law_cell K) := by
  refine T.F_law_cell.ok sc_law_cell (fun vs H Q E h => ?_) (fun cdv A outer s H vs Q E hr h => ?_)
  · obtain ⟨a, ns, k, rfl, hs, hk, q⟩ := h
    rfl
  · obtain ⟨a, ns, k, rfl, hs, hk, q⟩ := h
    refine ⟨_, (pss_cons (ps_if (pt_cmpR op_lt (pv 1) (pe_callB (call_lenV (K := K)) (by rfl) T.z_len (by decide +kernel) (pa_cons (pv 0) pa_nil)) (nomark _)) (pss_one (ps_ret (pe_ix (ix_listV (K := K)) (pv 0) (pv 1) (fun _ _ => rfl)))) pss_nil)
      (pss_one (ps_ret (pe_op op_add (pe_op op_mul pe_int (pv 1)) pe_int)))), ?_⟩
    walk_at "go"
    refine g_two (fun h => ?_) (fun h => ?_)
    · walk_at "go"
      rw [List.length_map] at h
      have hkl : k < ns.length := by omega
      refine g_ixL hs (v := .int (ns[k]'hkl)) ?_ (q _)
      unfold atI ixN
      rw [List.length_map, if_pos (by omega), if_pos (by omega)]
      simp [hkl]
    · walk_at "go"
      exact q _
end
section
variable {P : Program} {w : World} {K : PySem.W.Frag} {mg : Str → Option Value} {base : Heap} {f : Nat → Addr} {d : Nat → FuncData}
theorem ok_law_bag (T : Txt P K mg f d) : FnOk P w K mg base CX0 1 (f 1) (d 1) ["_law_cell_here"] (sp_law_bag K) := by
  refine T.F_law_bag.ok sc_law_bag (fun vs H Q E h => ?_) (fun cdv A outer s H vs Q E hr h => ?_)
  · obtain ⟨z, rfl, q⟩ := h
    rfl
  · obtain ⟨z, rfl, q⟩ := h
    refine ⟨_, (pss_one (ps_ret (pe_lst (pa_cons (pe_callB (call_maxV rfl) (by rfl) T.z_max (by decide +kernel) (pa_cons pe_int (pa_cons (pe_op op_sub (pv 0) (pe_op op_pow pe_int pe_int)) pa_nil))) (pa_cons (pe_op op_mod (pv 0) pe_int) (pa_cons pe_int pa_nil)))))), ?_⟩
    walk_at "go"
    rename_i p hp
    refine q p _ hp (fun b o e => ?_) ⟨_, _, _, upd_same, ?_, ?_, ?_, ?_⟩
    · rw [upd_ne (ne_of_none e hp)]
      exact e
    all_goals omega
end
section
variable {P : Program} {w : World} {K : PySem.W.Frag} {mg : Str → Option Value} {base : Heap} {f : Nat → Addr} {d : Nat → FuncData}
theorem ok_law_take (T : Txt P K mg f d) : FnOk P w K mg base CX0 1 (f 2) (d 2) ["_law_bag_here", "_law_many"] (sp_law_take K) := by
  refine T.F_law_take.ok sc_law_take (fun vs H Q E h => ?_) (fun cdv A outer s H vs Q E hr h => ?_)
  · obtain ⟨p, m, n, rfl, hm, hM, hn, ⟨a, b, c, hp, hb0, hb1, hc0, hc1⟩, q⟩ := h
    rfl
  · obtain ⟨p, m, n, rfl, hm, hM, hn, ⟨a, b, c, hp, hb0, hb1, hc0, hc1⟩, q⟩ := h
    refine ⟨_, (pss_cons (ps_if (pt_cmpR op_gt (pe_ix (ix_listV (K := K)) (pv 0) pe_int (fun _ _ => rfl)) pe_int (nomark _)) (pss_cons (ps_set (i := 2) sc_law_take.nd rfl (.inl rfl) (pe_op op_mod (pe_ix (ix_listV (K := K)) (pv 0) pe_int (fun _ _ => rfl)) (pv 1)))
      (pss_cons (ps_asg (pe_op op_fdivW (pe_ix (ix_listV (K := K)) (pv 0) pe_int (fun _ _ => rfl)) (pv 1)) (pg_sub (pv 0) pe_int set_list))
      (pss_one (ps_ret (pv 2))))) pss_nil)
      (pss_cons (ps_asg (pe_op op_add (pe_ix (ix_listV (K := K)) (pv 0) pe_int (fun _ _ => rfl)) pe_int) (pg_sub (pv 0) pe_int set_list))
      (pss_cons (ps_set (i := 3) sc_law_take.nd rfl (.inl rfl) (pe_op op_mod (pe_op op_pow (pe_op op_add (pe_op op_add (pe_ix (ix_listV (K := K)) (pv 0) pe_int (fun _ _ => rfl)) (pe_op op_mul pe_int (pe_ix (ix_listV (K := K)) (pv 0) pe_int (fun _ _ => rfl)))) pe_int) pe_int) pe_int))
      (pss_cons (ps_set (i := 3) sc_law_take.nd rfl (.inl rfl) (pe_op op_mod (pe_op op_pow (pe_op op_add (pv 3) (pe_op op_mul pe_int (pe_ix (ix_listV (K := K)) (pv 0) pe_int (fun _ _ => rfl)))) pe_int) pe_int))
      (pss_one (ps_ret (pe_op op_mod (pe_op op_fdivW (pv 3) pe_int) (pv 1)))))))), ?_⟩
    walk_at "go"
    refine g_two (fun h => ?_) (fun h => ?_)
    · walk_at "go"
      refine q _ _ (Int.emod_nonneg _ (by omega)) (Int.emod_lt_of_pos _ hm) ⟨_, _, _, upd_same, hb0, hb1, hc0, by omega⟩ (Mv.upd p H _)
    · walk_at "go"
      refine q _ _ (Int.emod_nonneg _ (by omega)) (Int.emod_lt_of_pos _ hm) ⟨_, _, _, upd_same, hb0, hb1, by omega, by omega⟩ (Mv.upd p H _)
end
section
variable {P : Program} {w : World} {K : PySem.W.Frag} {mg : Str → Option Value} {base : Heap} {f : Nat → Addr} {d : Nat → FuncData}
theorem ok_law_any (T : Txt P K mg f d) : FnOk P w K mg base CX0 2 (f 3) (d 3) ["_law_bag_here"] (sp_law_any K) := by
  refine T.F_law_any.ok sc_law_any (fun vs H Q E h => ?_) (fun cdv A outer s H vs Q E hr h => ?_)
  · obtain ⟨p, n, rfl, hn, B, q⟩ := h
    rfl
  · obtain ⟨p, n, rfl, hn, B, q⟩ := h
    refine ⟨_, (pss_cons (ps_set (i := 1) sc_law_any.nd rfl (.inl rfl) (pe_lst (pa_cons pe_non (pa_cons pe_bl (pa_cons pe_bl (pa_cons (pe_op op_sub pe_int pe_int) (pa_cons (pe_op op_pow pe_int pe_int) (pa_cons pe_str (pa_cons pe_str (pa_cons pe_str (pa_cons (pe_lst pa_nil) (pa_cons (pe_lst (pa_cons pe_str pa_nil)) (pa_cons (pe_tup (pa_cons pe_str pa_nil)) (pa_cons (pe_tup pa_nil) (pa_cons pe_dnewK (pa_cons (pe_disp (pps_cons pe_str pe_int pps_nil) (by rfl) (by rfl) (fun z => by cases z) (by decide)) (pa_cons (pe_lst (pa_cons (pe_lst (pa_cons pe_int pa_nil)) pa_nil)) pa_nil)))))))))))))))))
      (pss_one (ps_ret (pe_ix (ix_listV (K := K)) (pv 1) (pe_call (ok_law_take T) (hr.mono (by decide)) rfl T.m__law_take T.k__law_take T.b__law_take .nil pass0 (pa_cons (pv 0) (pa_cons pe_int pa_nil))) (fun _ _ => rfl))))), ?_⟩
    walk_at "go"
    rename_i a1 h1 a2 h2 a3 h3 a4 h4 a5 h5 a6 h6 a7 h7 a8 h8 a9 h9
    have n1 : a1 ≠ p := ne_bag h1 B
    have n2 : a2 ≠ p := ne_bag h2 (n := n) (by walk_at "bg")
    have n3 : a3 ≠ p := ne_bag h3 (n := n) (by walk_at "bg")
    have n4 : a4 ≠ p := ne_bag h4 (n := n) (by walk_at "bg")
    have n5 : a5 ≠ p := ne_bag h5 (n := n) (by walk_at "bg")
    have n6 : a6 ≠ p := ne_bag h6 (n := n) (by walk_at "bg")
    have n7 : a7 ≠ p := ne_bag h7 (n := n) (by walk_at "bg")
    have n8 : a8 ≠ p := ne_bag h8 (n := n) (by walk_at "bg")
    have n9 : a9 ≠ p := ne_bag h9 (n := n) (by walk_at "bg")
    refine ⟨p, 15, n, rfl, by decide, by decide, by omega, by walk_at "bg", fun z H1 z0 z1 B1 M1 => ?_⟩
    walk_at "go"
    obtain ⟨v, hv, ix⟩ := ix_draw (K := K) (M1 a9 _ n9 upd_same) z0 z1 rfl
    refine ix _ ?_
    have M0 : Mv p H H1 := Mv.trans (by walk_at "mv") M1
    have e1 := M1 a1 _ n1 (by walk_at "hx")
    have e2 := M1 a2 _ n2 (by walk_at "hx")
    have e3 := M1 a3 _ n3 (by walk_at "hx")
    have e4 := M1 a4 _ n4 (by walk_at "hx")
    have e5 := M1 a5 _ n5 (by walk_at "hx")
    have e6 := M1 a6 _ n6 (by walk_at "hx")
    have e8 := M1 a8 _ n8 (by walk_at "hx")
    have rf : ∀ q, q ≠ p → ((∃ xs, H1 q = some (.lst xs)) ∨ (∃ xs, H1 q = some (.tup xs)) ∨ ∃ kvs, H1 q = some (.dK kvs)) → (∃ o, IsT H1 (.ref q) o) ∧ ∀ r, V.ref q = .ref r → r ≠ p := by
      intro q hq h
      refine ⟨⟨none, Or.inr (Or.inr (Or.inr ⟨q, rfl, h⟩))⟩, ?_⟩
      intro r er
      cases er
      exact hq
    suffices h : (∃ o, IsT H1 v o) ∧ ∀ q, v = .ref q → q ≠ p from q v H1 h.1 h.2 B1 M0
    simp only [List.mem_cons, List.not_mem_nil, or_false] at hv
    rcases hv with rfl | rfl | rfl | rfl | rfl | rfl | rfl | rfl | rfl | rfl | rfl | rfl | rfl | rfl | rfl
    · exact ⟨⟨none, Or.inl rfl⟩, fun _ h => nomatch h⟩
    · exact ⟨⟨none, Or.inr (Or.inl ⟨_, rfl⟩)⟩, fun _ h => nomatch h⟩
    · exact ⟨⟨none, Or.inr (Or.inl ⟨_, rfl⟩)⟩, fun _ h => nomatch h⟩
    · exact ⟨⟨none, Or.inr (Or.inr (Or.inl ⟨_, rfl⟩))⟩, fun _ h => nomatch h⟩
    · exact ⟨⟨none, Or.inr (Or.inr (Or.inl ⟨_, rfl⟩))⟩, fun _ h => nomatch h⟩
    · exact ⟨⟨some _, rfl, Sg.of (by decide +kernel)⟩, fun _ h => nomatch h⟩
    · exact ⟨⟨some _, rfl, Sg.of (by decide +kernel)⟩, fun _ h => nomatch h⟩
    · exact ⟨⟨some _, rfl, Sg.of (by decide +kernel)⟩, fun _ h => nomatch h⟩
    · exact rf a1 n1 (Or.inl ⟨_, e1⟩)
    · exact rf a2 n2 (Or.inl ⟨_, e2⟩)
    · exact rf a3 n3 (Or.inr (Or.inl ⟨_, e3⟩))
    · exact rf a4 n4 (Or.inr (Or.inl ⟨_, e4⟩))
    · exact rf a5 n5 (Or.inr (Or.inr ⟨_, e5⟩))
    · exact rf a6 n6 (Or.inr (Or.inr ⟨_, e6⟩))
    · exact rf a8 n8 (Or.inl ⟨_, e8⟩)
end
section
variable {P : Program} {w : World} {K : PySem.W.Frag} {mg : Str → Option Value} {base : Heap} {f : Nat → Addr} {d : Nat → FuncData}
theorem ok_is_whole (T : Txt P K mg f d) : FnOk P w K mg base CX0 1 (f 4) (d 4) ["thing", "low", "high"] (sp_is_whole K) := by
  refine T.F_is_whole.ok sc_is_whole (fun vs H Q E h => ?_) (fun cdv A outer s H vs Q E hr h => ?_)
  · obtain ⟨v, o, lo, hi, rfl, hv, q⟩ := h
    rfl
  · obtain ⟨v, o, lo, hi, rfl, hv, q⟩ := h
    refine ⟨_, (pss_one (ps_ret (pe_and (pe_callB (JgX.call_isiE (K := K)) (by rfl) T.z_isinstance (by decide +kernel) (pa_cons (pv 0) (pa_cons (pe_bltn (v := .ty "int") (by rfl) T.z_int (by decide +kernel) rfl) pa_nil))) (pe_and (pe_not (pe_callB (JgX.call_isiE (K := K)) (by rfl) T.z_isinstance (by decide +kernel) (pa_cons (pv 0) (pa_cons (pe_bltn (v := .ty "bool") (by rfl) T.z_bool (by decide +kernel) rfl) pa_nil)))) (pe_one (pe_chain op_le op_le (pv 1) (pv 0) (pv 2))))))), ?_⟩
    walk_at "go"
    cases o with
    | none =>
      rcases hv with ⟨b, rfl⟩ | h
      · refine g_isiE (isi_b b) ?_
        walk_at "go"
        refine g_isiE (isi_bb b) ?_
        walk_at "go"
        exact q
      · refine g_isiE h ?_
        walk_at "go"
        exact q
    | some i =>
      cases hv
      refine g_isiE (isi_i i) ?_
      walk_at "go"
      refine g_isiE (isi_ib i) ?_
      walk_at "go"
      refine g_two (fun h => ?_) (fun h => ?_)
      · walk_at "go"
        have e : wholeB lo hi (some i) = decide (i ≤ hi) := by simp [wholeB, h]
        rw [e] at q
        exact q
      · have e : wholeB lo hi (some i) = false := by simp [wholeB, h]
        rw [e] at q
        exact q
end
section
variable {P : Program} {w : World} {K : PySem.W.Frag} {mg : Str → Option Value} {base : Heap} {f : Nat → Addr} {d : Nat → FuncData}
theorem ok_consists_of (T : Txt P K mg f d) : FnOk P w K mg base CX0 1 (f 5) (d 5) ["text", "marks"] (sp_consists_of K) := by
  refine T.F_consists_of.ok sc_consists_of (fun vs H Q E h => ?_) (fun cdv A outer s H vs Q E hr h => ?_)
  · obtain ⟨z, m, rfl, hz, q⟩ := h
    rfl
  · obtain ⟨z, m, rfl, hz, q⟩ := h
    refine ⟨_, (pss_one (ps_ret (pe_cmpR op_eq (pe_bm PySem.F.plainAttrs_str PySem.F.slot_str_strip PySem.F.type_str_strip mt_stripChars (pv 0) (pa_cons (pv 1) pa_nil)) pe_str (nomark _)))), ?_⟩
    walk_at "go"
    refine ⟨rfl, ?_⟩
    walk_at "go"
    refine ⟨z, m, rfl, rfl, Nat.le_trans hz.1 (by decide), ?_⟩
    walk_at "go"
    rw [strip_dec (by rfl)]
    exact q _ (Same.refl H)
end
section
variable {P : Program} {w : World} {K : PySem.W.Frag} {mg : Str → Option Value} {base : Heap} {f : Nat → Addr} {d : Nat → FuncData}
theorem ok_is_figures (T : Txt P K mg f d) : FnOk P w K mg base CX0 2 (f 6) (d 6) ["text"] (sp_is_figures K) := by
  refine T.F_is_figures.ok sc_is_figures (fun vs H Q E h => ?_) (fun cdv A outer s H vs Q E hr h => ?_)
  · obtain ⟨z, rfl, hz, hl, q⟩ := h
    rfl
  · obtain ⟨z, rfl, hz, hl, q⟩ := h
    refine ⟨_, (pss_one (ps_ret (pe_and (pe_call (ok_consists_of T) (hr.mono (by decide)) rfl T.m__consists_of T.k__consists_of T.b__consists_of .nil pass0 (pa_cons (pv 0) (pa_cons (pe_globS rfl T.c__FIGURES) pa_nil))) (pe_one (pe_or (pe_cmpR op_ne (pe_ix ix_str (pv 0) pe_int (fun _ _ => rfl)) pe_str (nomark _)) (pe_one (pe_cmpR op_eq (pe_callB (call_lenV (K := K)) (by rfl) T.z_len (by decide +kernel) (pa_cons (pv 0) pa_nil)) pe_int (nomark _)))))))), ?_⟩
    have hzl : z.length ≤ 2000 := hz.1
    walk_at "go"
    refine ⟨z, _, rfl, hz, fun H1 same => ?_⟩
    have ea : ((TL.tl z).all fun c => decide (c ∈ (Str.ofString "0123456789").cps.toList)) = (TL.tl z).all digit := by
      congr 1
      funext c
      exact figs c
    rw [ea]
    have q1 := q H1 same
    obtain ⟨c, r, hcr⟩ := tl_cons hl
    have hh : (TL.tl z).head? = some c := by rw [hcr]; rfl
    unfold figT at q1
    rw [hh] at q1
    cases hb : (TL.tl z).all digit with
    | false =>
      rw [hb] at q1
      walk_at "go"
      exact q1
    | true =>
      rw [hb, Bool.true_and] at q1
      walk_at "go"
      refine g_ixS (Nat.le_trans hzl (by decide)) (at_head hcr) ?_
      walk_at "go"
      have e0 : Str.ofString "0" = ⟨#[48]⟩ := by decide +kernel
      refine g_ntwo (fun h3 => ?_) (fun h3 => ?_)
      · have hc48 : c = 48 := by
          rw [e0] at h3
          have := congrArg TL.tl (V.str.inj h3)
          simpa [TL.tl] using this
        subst hc48
        walk_at "go"
        rw [int_one, TL.len_tl]
        simpa using q1
      · have hc48 : c ≠ 48 := fun z9 => h3 (by rw [z9, e0])
        walk_at "go"
        have d3 : decide (some c ≠ some 48) = true := decide_eq_true (fun z9 => hc48 (Option.some.inj z9))
        rw [d3] at q1
        exact q1
end
section
variable {P : Program} {w : World} {K : PySem.W.Frag} {mg : Str → Option Value} {base : Heap} {f : Nat → Addr} {d : Nat → FuncData}
theorem ok_is_plain (T : Txt P K mg f d) : FnOk P w K mg base CX0 3 (f 7) (d 7) ["thing"] (sp_is_plain K) := by
  refine T.F_is_plain.ok sc_is_plain (fun vs H Q E h => ?_) (fun cdv A outer s H vs Q E hr h => ?_)
  · obtain ⟨v, o, rfl, hv, q⟩ := h
    rfl
  · obtain ⟨v, o, rfl, hv, q⟩ := h
    refine ⟨_, (pss_one (ps_ret (pe_and (pe_callB (JgX.call_isiE (K := K)) (by rfl) T.z_isinstance (by decide +kernel) (pa_cons (pv 0) (pa_cons (pe_bltn (v := .ty "str") (by rfl) T.z_str (by decide +kernel) rfl) pa_nil))) (pe_and (pe_chain op_le op_le pe_int (pe_callB (call_lenV (K := K)) (by rfl) T.z_len (by decide +kernel) (pa_cons (pv 0) pa_nil)) (pe_globI rfl T.c__MOST_FIGURES)) (pe_one (pe_call (ok_is_figures T) (hr.mono (by decide)) rfl T.m__is_figures T.k__is_figures T.b__is_figures .nil pass0 (pa_cons (pv 0) pa_nil))))))), ?_⟩
    walk_at "go"
    cases o with
    | none =>
      refine g_isiE hv ?_
      walk_at "go"
      exact q _ (Same.refl H)
    | some z =>
      obtain ⟨rfl, hz⟩ := hv
      have hzl : z.length ≤ 2000 := hz.1
      refine g_isiE (isi_s z) ?_
      walk_at "go"
      have e := plain_fig z
      rw [← TL.len_tl] at e
      refine g_two (fun h => ?_) (fun h => ?_)
      · walk_at "go"
        refine g_two (fun h2 => ?_) (fun h2 => ?_)
        · walk_at "go"
          rw [decide_eq_true (show 1 ≤ z.length by omega), decide_eq_true (show z.length ≤ 30 by omega)] at e
          refine ⟨z, rfl, hz, by omega, fun H1 same => ?_⟩
          have q1 : Q (.bl (plainT z)) H1 := q H1 same
          rw [e] at q1
          exact q1
        · have q1 : Q (.bl (plainT z)) H := q H (Same.refl H)
          rw [e, decide_eq_false (show ¬ z.length ≤ 30 by omega), Bool.and_false, Bool.false_and] at q1
          walk_at "go"
          exact q1
      · have q1 : Q (.bl (plainT z)) H := q H (Same.refl H)
        rw [e, decide_eq_false (show ¬ 1 ≤ z.length by omega), Bool.false_and, Bool.false_and] at q1
        walk_at "go"
        exact q1
end
section
variable {P : Program} {w : World} {K : PySem.W.Frag} {mg : Str → Option Value} {base : Heap} {f : Nat → Addr} {d : Nat → FuncData}
theorem ok_number_in (T : Txt P K mg f d) : FnOk P w K mg base CX0 4 (f 8) (d 8) ["thing", "low", "high"] (sp_number_in K) := by
  refine T.F_number_in.ok sc_number_in (fun vs H Q E h => ?_) (fun cdv A outer s H vs Q E hr h => ?_)
  · obtain ⟨v, o, lo, hi, rfl, hv, q⟩ := h
    rfl
  · obtain ⟨v, o, lo, hi, rfl, hv, q⟩ := h
    refine ⟨_, (pss_cons (ps_if (pt_not (pt_val (pe_call (ok_is_plain T) (hr.mono (by decide)) rfl T.m__is_plain T.k__is_plain T.b__is_plain .nil pass0 (pa_cons (pv 0) pa_nil)))) (pss_one (ps_ret pe_non)) pss_nil)
      (pss_cons (ps_set (i := 3) sc_number_in.nd rfl (.inl rfl) (pe_callTy call_intS (by rfl) T.z_int (by decide +kernel) (pa_cons (pv 0) pa_nil)))
      (pss_one (ps_ret (pe_ifExp (pt_chain op_le op_le (pv 1) (pv 3) (pv 2)) (pv 3) pe_non))))), ?_⟩
    walk_at "go"
    refine ⟨v, o, rfl, hv, fun H1 same => ?_⟩
    have q1 := q H1 same
    walk_at "go"
    cases o with
    | none =>
      walk_at "go"
      exact q1
    | some z =>
      obtain ⟨rfl, hz⟩ := hv
      cases hp : plainT z with
      | false =>
        rw [show plainO (some z) = false from hp]
        walk_at "go"
        unfold numO at q1
        rw [Option.bind_some, hp] at q1
        exact q1
      | true =>
        rw [show plainO (some z) = true from hp]
        unfold numO at q1
        rw [Option.bind_some, hp, if_pos rfl] at q1
        walk_at "go"
        refine g_intS hp ?_
        walk_at "go"
        refine g_two (fun h => ?_) (fun h => ?_)
        · walk_at "go"
          refine g_two (fun h2 => ?_) (fun h2 => ?_)
          · walk_at "go"
            rw [if_pos ⟨h, h2⟩] at q1
            exact q1
          · walk_at "go"
            rw [if_neg (fun z9 => h2 z9.2)] at q1
            exact q1
        · walk_at "go"
          rw [if_neg (fun z9 => h z9.1)] at q1
          exact q1
end
section
variable {P : Program} {w : World} {K : PySem.W.Frag} {mg : Str → Option Value} {base : Heap} {f : Nat → Addr} {d : Nat → FuncData}
theorem ok_is_letter (T : Txt P K mg f d) : FnOk P w K mg base CX0 3 (f 9) (d 9) ["thing"] (sp_is_letter K) := by
  refine T.F_is_letter.ok sc_is_letter (fun vs H Q E h => ?_) (fun cdv A outer s H vs Q E hr h => ?_)
  · obtain ⟨v, o, rfl, hv, q⟩ := h
    rfl
  · obtain ⟨v, o, rfl, hv, q⟩ := h
    refine ⟨_, (pss_cons (ps_if (PW.pt (pw_or (pt_not (pt_val (pe_callB (JgX.call_isiE (K := K)) (by rfl) T.z_isinstance (by decide +kernel) (pa_cons (pv 0) (pa_cons (pe_bltn (v := .ty "str") (by rfl) T.z_str (by decide +kernel) rfl) pa_nil))))) (pw_or (pt_not (pt_chain op_le op_le pe_int (pe_callB (call_lenV (K := K)) (by rfl) T.z_len (by decide +kernel) (pa_cons (pv 0) pa_nil)) (pe_globI rfl T.c__MOST_LETTER))) (pw_or1 (pt_cmpR op_notInS (pe_ix ix_str (pv 0) pe_int (fun _ _ => rfl)) (pe_globS rfl T.c__CAPITALS) rfl))))) (pss_one (ps_ret pe_bl)) pss_nil)
      (pss_one (ps_ret (pe_or (pe_cmpR op_eq (pe_callB (call_lenV (K := K)) (by rfl) T.z_len (by decide +kernel) (pa_cons (pv 0) pa_nil)) pe_int (nomark _)) (pe_one (pe_call (ok_is_figures T) (hr.mono (by decide)) rfl T.m__is_figures T.k__is_figures T.b__is_figures .nil pass0 (pa_cons (pe_slice sl_str (pv 0) (po_some pe_int) po_none) pa_nil))))))), ?_⟩
    walk_at "go"
    cases o with
    | none =>
      refine g_isiE hv ?_
      walk_at "go"
      exact q _ (Same.refl H)
    | some z =>
      obtain ⟨rfl, hz⟩ := hv
      have hzl : z.length ≤ 2000 := hz.1
      refine g_isiE (isi_s z) ?_
      walk_at "go"
      refine g_two (fun h => ?_) (fun h => ?_)
      · walk_at "go"
        refine g_ntwo (fun h2 => ?_) (fun h2 => ?_)
        · walk_at "go"
          obtain ⟨c, r, hcr⟩ := tl_cons (z := z) (by omega)
          have e : letterT z = ((decide (65 ≤ c) && decide (c ≤ 90)) && (decide (z.length = 1) || figT (cutS z (some 1) none))) := by
            unfold letterT
            rw [decide_eq_true (show 1 ≤ z.length by omega), decide_eq_true (show z.length ≤ 3 by omega), cap_head hcr, Bool.and_self, Bool.true_and]
          refine g_ixS (Nat.le_trans hzl (by decide)) (at_head hcr) ?_
          walk_at "go"
          refine g_notInC rfl ?_
          rw [caps c]
          cases hb : (decide (65 ≤ c) && decide (c ≤ 90)) with
          | false =>
            have q1 : Q (.bl (letterT z)) H := q H (Same.refl H)
            rw [e, hb, Bool.false_and] at q1
            walk_at "go"
            exact q1
          | true =>
            rw [hb, Bool.true_and] at e
            walk_at "go"
            rw [int_one]
            refine g_two (fun h3 => ?_) (fun h3 => ?_)
            · have q1 : Q (.bl (letterT z)) H := q H (Same.refl H)
              rw [e, decide_eq_true h3, Bool.true_or] at q1
              exact q1
            · rw [decide_eq_false h3, Bool.false_or] at e
              walk_at "go"
              refine ⟨_, rfl, hz.cut _ _, ?_, fun H2 same2 => ?_⟩
              · rw [(cut1_len (by omega)).1]
                omega
              have q1 : Q (.bl (letterT z)) H2 := q H2 same2
              rw [e] at q1
              exact q1
        · have q1 : Q (.bl (letterT z)) H := q H (Same.refl H)
          unfold letterT at q1
          rw [decide_eq_false (show ¬ z.length ≤ 3 by omega), Bool.and_false, Bool.false_and] at q1
          walk_at "go"
          exact q1
      · have q1 : Q (.bl (letterT z)) H := q H (Same.refl H)
        unfold letterT at q1
        rw [decide_eq_false (show ¬ 1 ≤ z.length by omega), Bool.false_and, Bool.false_and] at q1
        walk_at "go"
        exact q1
end
section
variable {P : Program} {w : World} {K : PySem.W.Frag} {mg : Str → Option Value} {base : Heap} {f : Nat → Addr} {d : Nat → FuncData}
theorem ok_normal_letter (T : Txt P K mg f d) : FnOk P w K mg base (L2N.CX P w) 3 (f 10) (d 10) ["number"] (sp_normal_letter K) := by
  refine JgH.okN T.F_normal_letter sc_normal_letter (fun vs H Q E h => ?_) (fun cdv A outer s H vs Q E hr h => ?_)
  · obtain ⟨v, o, rfl, hv, q, qe⟩ := h
    rfl
  · obtain ⟨v, o, rfl, hv, q, qe⟩ := h
    refine ⟨_, (pss_cons (ps_if (pt_not (pt_val (pe_call (ok_is_whole T) (hr.mono (by decide)) rfl T.m_is_whole T.k_is_whole T.b_is_whole .nil pass0 (pa_cons (pv 0) (pa_cons pe_int (pa_cons (pe_globI rfl T.c__MOST_BEHIND) pa_nil)))))) (pss_one (L2N.ps_raise rfl (L2N.takes_of rfl rfl rfl rfl) (JgH.mk_xN JgX.mkValue T.x_NoNumber T.y_NoNumber.iC T.y_NoNumber.tI (JgX.init_st (k := 0) (CX := CX0) JgX.xValue T.x_NoNumber T.y_NoNumber zx_NoNumber T.n_NoNumber T.opq T.z_super T.tp) (hr.mono (by decide)) (T.y_NoNumber.binds fun _ _ _ _ _ _ _ _ us hl => match us, hl with | [_, _], _ => rfl) rfl T.c_NoNumber (pa_cons (pv 0) pa_nil)))) pss_nil)
      (pss_one (ps_ret (pe_joined (PJ.cons pe_str (PJ.cons (pe_fmt (pv 0)) PJ.nil)))))), ?_⟩
    walk_at "go"
    refine ⟨v, o, 0, 99, rfl, hv, ?_⟩
    walk_at "go"
    cases hb : wholeB 0 99 o with
    | false =>
      walk_at "go"
      refine JgX.g_mkO ?_
      walk_at "go"
      refine JgX.g_mkX (fun dx hdx => ?_)
      exact qe hb _ dx T.e_NoNumber hdx
    | true =>
      walk_at "go"
      cases o with
      | none => cases hb
      | some i =>
        cases hv
        have hi : 0 ≤ i ∧ i ≤ 99 := of_decide_eq_true hb
        obtain ⟨n, rfl⟩ : ∃ n : Fin 100, i = ((n : Nat) : Int) := ⟨⟨i.toNat, by omega⟩, by show i = ((i.toNat : Nat) : Int); omega⟩
        have s1 : ∀ n : Fin 100, (Str.ofString "N" ++ Str.ofString (toString ((n : Nat) : Int))).length ≤ 100 := by decide +kernel
        have s2 : ∀ n : Fin 100, (n : Nat).log2 < 1920 := by decide +kernel
        have e0 : Str.empty ++ Str.ofString "N" = Str.ofString "N" := by decide +kernel
        refine ⟨Str.ofString "N", rfl, by decide +kernel, ?_⟩
        rw [e0]
        refine ⟨V.int ((n : Nat) : Int), rfl, Or.inr ⟨_, rfl, s2 n, ?_⟩⟩
        refine ⟨Str.ofString (toString ((n : Nat) : Int)), rfl, Nat.le_trans (s1 n) (by decide), ?_⟩
        exact q _ rfl hb
end
section
variable {P : Program} {w : World} {K : PySem.W.Frag} {mg : Str → Option Value} {base : Heap} {f : Nat → Addr} {d : Nat → FuncData}
theorem ok_rank_among_letters (T : Txt P K mg f d) : FnOk P w K mg base CX0 1 (f 11) (d 11) ["letter"] (sp_rank_among_letters K) := by
  refine T.F_rank_among_letters.ok sc_rank_among_letters (fun vs H Q E h => ?_) (fun cdv A outer s H vs Q E hr h => ?_)
  · obtain ⟨z, rfl, hz, hb, q⟩ := h
    rfl
  · obtain ⟨z, rfl, hz, hb, q⟩ := h
    refine ⟨_, (pss_one (ps_ret (pe_ifExp (pt_cmpR op_eq (pe_callB (call_lenV (K := K)) (by rfl) T.z_len (by decide +kernel) (pa_cons (pv 0) pa_nil)) pe_int (nomark _)) (pe_tup (pa_cons (pv 0) pa_nil)) (pe_tup (pa_cons (pe_ix ix_str (pv 0) pe_int (fun _ _ => rfl)) (pa_cons (pe_callTy call_intS (by rfl) T.z_int (by decide +kernel) (pa_cons (pe_slice sl_str (pv 0) (po_some pe_int) po_none) pa_nil)) pa_nil)))))), ?_⟩
    have hzl : z.length ≤ 2000 := hz.1
    walk_at "go"
    rw [int_one]
    refine g_two (fun h => ?_) (fun h => ?_)
    · walk_at "go"
      rename_i p hp
      refine q _ p (fun b o e => upd_keep hp e) hp ?_
      rw [upd_same]
      unfold rankV
      rw [if_pos (by rw [← TL.len_tl]; exact h)]
    · have l1 : 1 ≤ z.length := by
        unfold letterT at hb
        simp only [Bool.and_eq_true, decide_eq_true_eq] at hb
        exact hb.1.1
      obtain ⟨c, r, hcr⟩ := tl_cons l1
      walk_at "go"
      refine g_ixS (Nat.le_trans hzl (by decide)) (at_head hcr) ?_
      walk_at "go"
      refine g_intS (letter_num hb h) ?_
      walk_at "go"
      rename_i p hp
      refine q _ p (fun b o e => upd_keep hp e) hp ?_
      rw [upd_same]
      unfold rankV
      rw [if_neg (by rw [← TL.len_tl]; exact h), hcr]
      rfl
end
section
variable {P : Program} {w : World} {K : PySem.W.Frag} {mg : Str → Option Value} {base : Heap} {f : Nat → Addr} {d : Nat → FuncData}
theorem ok_letter_rank (T : Txt P K mg f d) : FnOk P w K mg base (L2N.CX P w) 4 (f 12) (d 12) ["letter"] (sp_letter_rank K) := by
  refine JgH.okN T.F_letter_rank sc_letter_rank (fun vs H Q E h => ?_) (fun cdv A outer s H vs Q E hr h => ?_)
  · obtain ⟨v, o, rfl, hv, q, qe⟩ := h
    rfl
  · obtain ⟨v, o, rfl, hv, q, qe⟩ := h
    refine ⟨_, (pss_cons (ps_if (pt_not (pt_val (pe_call (ok_is_letter T) (hr.mono (by decide)) rfl T.m_is_letter T.k_is_letter T.b_is_letter .nil pass0 (pa_cons (pv 0) pa_nil)))) (pss_one (L2N.ps_raise rfl (L2N.takes_of rfl rfl rfl rfl) (JgH.mk_xN JgX.mkValue T.x_NoLetter T.y_NoLetter.iC T.y_NoLetter.tI (JgX.init_st (k := 0) (CX := CX0) JgX.xValue T.x_NoLetter T.y_NoLetter zx_NoLetter T.n_NoLetter T.opq T.z_super T.tp) (hr.mono (by decide)) (T.y_NoLetter.binds fun _ _ _ _ _ _ _ _ us hl => match us, hl with | [_, _], _ => rfl) rfl T.c_NoLetter (pa_cons (pv 0) pa_nil)))) pss_nil)
      (pss_one (ps_ret (pe_call (ok_rank_among_letters T) (hr.mono (by decide)) rfl T.m_rank_among_letters T.k_rank_among_letters T.b_rank_among_letters .nil pass0 (pa_cons (pv 0) pa_nil))))), ?_⟩
    walk_at "go"
    refine ⟨v, o, rfl, hv, fun H1 same => ?_⟩
    walk_at "go"
    cases hb : letterO o with
    | false =>
      walk_at "go"
      refine JgX.g_mkO ?_
      walk_at "go"
      refine JgX.g_mkX (fun dx hdx => ?_)
      exact qe hb _ dx H1 T.e_NoLetter same hdx
    | true =>
      walk_at "go"
      cases o with
      | none => cases hb
      | some z =>
        obtain ⟨rfl, hz⟩ := hv
        have h0 : ∀ {p}, H1 p = none → H p = none := fun {p} hp => by
          cases e : H p with
          | none => rfl
          | some o => rw [same _ _ e] at hp; cases hp
        refine ⟨z, rfl, hz, hb, fun H2 p s2 hp e => ?_⟩
        exact q z rfl hb _ p (fun b o e => s2 _ _ (same _ _ e)) (h0 hp) e
end
section
variable {P : Program} {w : World} {K : PySem.W.Frag} {mg : Str → Option Value} {base : Heap} {f : Nat → Addr} {d : Nat → FuncData}
theorem ok_law_whole (T : Txt P K mg f d) : FnOk P w K mg base CX0 1 (f 13) (d 13) ["_law_matter"] (sp_law_whole K) := by
  refine T.F_law_whole.ok sc_law_whole (fun vs H Q E h => ?_) (fun cdv A outer s H vs Q E hr h => ?_)
  · obtain ⟨v, o, rfl, hv, q⟩ := h
    rfl
  · obtain ⟨v, o, rfl, hv, q⟩ := h
    refine ⟨_, (pss_one (ps_ret (pe_and (pe_callB (JgX.call_isiE (K := K)) (by rfl) T.z_isinstance (by decide +kernel) (pa_cons (pv 0) (pa_cons (pe_bltn (v := .ty "int") (by rfl) T.z_int (by decide +kernel) rfl) pa_nil))) (pe_one (pe_not (pe_callB (JgX.call_isiE (K := K)) (by rfl) T.z_isinstance (by decide +kernel) (pa_cons (pv 0) (pa_cons (pe_bltn (v := .ty "bool") (by rfl) T.z_bool (by decide +kernel) rfl) pa_nil)))))))), ?_⟩
    walk_at "go"
    cases o with
    | none =>
      rcases hv with ⟨b, rfl⟩ | h
      · refine g_isiE (isi_b b) ?_
        walk_at "go"
        refine g_isiE (isi_bb b) ?_
        walk_at "go"
        exact q
      · refine g_isiE h ?_
        walk_at "go"
        exact q
    | some i =>
      cases hv
      refine g_isiE (isi_i i) ?_
      walk_at "go"
      refine g_isiE (isi_ib i) ?_
      walk_at "go"
      exact q
end
section
variable {P : Program} {w : World} {K : PySem.W.Frag} {mg : Str → Option Value} {base : Heap} {f : Nat → Addr} {d : Nat → FuncData}
theorem ok_law_same (T : Txt P K mg f d) : FnOk P w K mg base CX0 2 (f 14) (d 14) ["_law_found", "_law_due"] (sp_law_same K) := by
  refine T.F_law_same.ok sc_law_same (fun vs H Q E h => ?_) (fun cdv A outer s H vs Q E hr h => ?_)
  · obtain ⟨o, o2, rfl, q⟩ := h
    rfl
  · obtain ⟨o, o2, rfl, q⟩ := h
    refine ⟨_, (pss_cons (ps_if (pt_cmpR op_isV (pv 1) pe_non (nomark _)) (pss_one (ps_ret (pe_cmpR op_isV (pv 0) pe_non (nomark _)))) pss_nil)
      (pss_one (ps_ret (pe_and (pe_call (ok_law_whole T) (hr.mono (by decide)) rfl T.m__law_whole T.k__law_whole T.b__law_whole .nil pass0 (pa_cons (pv 0) pa_nil)) (pe_one (pe_cmpR op_eq (pv 0) (pv 1) (nomark _))))))), ?_⟩
    walk_at "go"
    cases o2 with
    | none =>
      refine g_yes rfl ?_
      walk_at "go"
      cases o with
      | none => exact q
      | some i => exact q
    | some j =>
      refine g_no (fun z => nomatch z) ?_
      walk_at "go"
      refine ⟨numV o, o, rfl, ?_, ?_⟩
      · cases o with
        | none => exact Or.inr (Isi.of (.base .non) (by decide +kernel))
        | some i => rfl
      · walk_at "go"
        cases o with
        | none =>
          walk_at "go"
          exact q
        | some i =>
          rw [show (some i : Option Int).isSome = true from rfl]
          walk_at "go"
          have e : decide (V.int i = V.int j) = decide (some i = some j) := by
            rw [Bool.eq_iff_iff, decide_eq_true_eq, decide_eq_true_eq]
            exact ⟨fun h => by rw [V.int.inj h], fun h => by rw [Option.some.inj h]⟩
          show Q (.bl (decide (V.int i = V.int j))) H
          rw [e]
          exact q
end
section
variable {P : Program} {w : World} {K : PySem.W.Frag} {mg : Str → Option Value} {base : Heap} {f : Nat → Addr} {d : Nat → FuncData}
theorem ok_law_number_of (T : Txt P K mg f d) : FnOk P w K mg base CX0 1 (f 15) (d 15) ["_law_text", "_law_lower", "_law_upper"] (sp_law_number_of K) := by
  refine T.F_law_number_of.ok sc_law_number_of (fun vs H Q E h => ?_) (fun cdv A outer s H vs Q E hr h => ?_)
  · obtain ⟨v, o, lo, hi, rfl, hv, q⟩ := h
    rfl
  · obtain ⟨v, o, lo, hi, rfl, hv, q⟩ := h
    refine ⟨_, (pss_cons (ps_if (PW.pt (pw_or (pt_not (pt_val (pe_callB (JgX.call_isiE (K := K)) (by rfl) T.z_isinstance (by decide +kernel) (pa_cons (pv 0) (pa_cons (pe_bltn (v := .ty "str") (by rfl) T.z_str (by decide +kernel) rfl) pa_nil))))) (pw_or (pt_not (pt_chain op_lt op_lt pe_int (pe_callB (call_lenV (K := K)) (by rfl) T.z_len (by decide +kernel) (pa_cons (pv 0) pa_nil)) pe_int)) (pw_or1 (pt_cmpR (op_neD hr.units) (pe_lc (own := [("_law_sign", 3)]) (g := gName 3) (tt := _) rfl sc_law_number_of.nd (pi_str (pv 0)) (blkOk_by (own := [("_law_sign", 3)]) (N := n_law_number_of) (sc := defScope s_law_number_of) (by decide +kernel)) (fun _ _ _ _ _ => pg_name (i := 3) sc_law_number_of.nd rfl (Or.inl rfl)) (fun _ _ _ _ _ => pts_one (pt_cmpR op_notInS (pv 3) pe_str rfl)) (fun _ _ _ _ _ => (pv 3))) (pe_lst pa_nil) (nomark _)))))) (pss_one (ps_ret pe_non)) pss_nil)
      (pss_cons (ps_if (PW.pt (pw_and (pt_cmpR op_eq (pe_ix ix_str (pv 0) pe_int (fun _ _ => rfl)) pe_str (nomark _)) (pw_and1 (pt_cmpR op_ne (pv 0) pe_str (nomark _))))) (pss_one (ps_ret pe_non)) pss_nil)
      (pss_cons (ps_set (i := 4) sc_law_number_of.nd rfl (.inl rfl) pe_int)
      (pss_cons (ps_for PassesOwn.never rfl (pi_str (pv 0)) (pg_name (i := 3) sc_law_number_of.nd rfl (.inl rfl)) (pss_one (ps_set (i := 4) sc_law_number_of.nd rfl (.inl rfl) (pe_op op_add (pe_op op_mul pe_int (pv 4)) (pe_bm PySem.F.plainAttrs_str PySem.F.slot_str_index PySem.F.type_str_index mt_sidx pe_str (pa_cons (pv 3) pa_nil))))))
      (pss_one (ps_ret (pe_ifExp (pt_chain op_le op_le (pv 1) (pv 4) (pv 2)) (pv 4) pe_non))))))), ?_⟩
    walk_at "go"
    cases o with
    | none =>
      refine g_isiE hv ?_
      walk_at "go"
      exact q _ (Same.refl H)
    | some z =>
      obtain ⟨rfl, hz⟩ := hv
      have hzl : z.length ≤ 2000 := hz.1
      refine g_isiE (isi_s z) ?_
      walk_at "go"
      refine g_two (fun h => ?_) (fun h => ?_)
      · walk_at "go"
        refine g_ntwo (fun h2 => ?_) (fun h2 => ?_)
        · walk_at "go"
          refine lc_strF (fun c => !decide (c ∈ (Str.ofString "0123456789").cps.toList)) (fun c => .str ⟨#[c]⟩) (Nat.lt_of_le_of_lt hz.1 (by decide)) (fun _ => rfl) ?_ ?_ ?_
          · intro c hc H2 B same r
            walk_at "go"
            exact g_notInC rfl ⟨_, rfl, r⟩
          · intro c hc H2 R same r
            walk_at "go"
            exact r
          · intro D hD
            walk_at "go"
            rename_i p9 hp9
            refine g_some (ys := (z.cps.toList.filter fun c => !decide (c ∈ (Str.ofString "0123456789").cps.toList)).map fun c => (⟨#[c]⟩ : Str)) (upd_keep hp9 (by rw [upd_same, List.map_map]; rfl)) upd_same (fun y hy => ?_) ?_
            · obtain ⟨c, hc, rfl⟩ := List.mem_map.mp hy
              have := hz.2 c (List.mem_filter.mp hc).1
              simp [PyData.strOk]
              omega
            have eb : ((z.cps.toList.filter fun c => !decide (c ∈ (Str.ofString "0123456789").cps.toList)).map fun c => (⟨#[c]⟩ : Str)).isEmpty = (TL.tl z).all digit := by
              rw [Bool.eq_iff_iff, List.isEmpty_iff, List.map_eq_nil_iff, List.filter_eq_nil_iff, List.all_eq_true]
              constructor
              · intro h c hc
                have := h c hc
                rw [figs] at this
                simpa using this
              · intro h c hc
                rw [figs, h c hc]
                simp
            rw [eb]
            walk_at "go"
            cases hb : (TL.tl z).all digit with
            | false =>
              walk_at "go"
              have e : plainT z = false := by
                unfold plainT
                rw [hb]
                simp
              have e2 : numV (numO (some z) lo hi) = V.non := by
                unfold numO
                rw [Option.bind_some, e]
                rfl
              rw [e2] at q
              exact q _ (fun b o e => upd_keep hp9 (upd_keep hD e))
            | true =>
              walk_at "go"
              obtain ⟨c, r, hcr⟩ := tl_cons (z := z) (by omega)
              refine g_ixS (Nat.le_trans hzl (by decide)) (at_head hcr) ?_
              walk_at "go"
              have d1 : decide (1 ≤ (TL.tl z).length) = true := decide_eq_true (by rw [← TL.len_tl]; omega)
              have d2 : decide ((TL.tl z).length ≤ 30) = true := decide_eq_true (by rw [← TL.len_tl]; omega)
              have hh : (TL.tl z).head? = some c := by rw [hcr]; rfl
              have e0 : Str.ofString "0" = ⟨#[48]⟩ := by decide +kernel
              have e : plainT z = (decide (some c ≠ some 48) || decide (z.length = 1)) := by
                unfold plainT
                rw [d1, d2, hb, hh, TL.len_tl]
                simp
              cases hp : plainT z with
              | false =>
                rw [e, Bool.or_eq_false_iff, decide_eq_false_iff_not, decide_eq_false_iff_not] at hp
                have hc : c = 48 := by
                  by_cases h9 : c = 48
                  · exact h9
                  · exact absurd (fun q9 => h9 (Option.some.inj q9)) hp.1
                subst hc
                refine g_yes (by rw [e0]) ?_
                walk_at "go"
                refine g_diff (fun q9 => hp.2 ((zero_only hcr).mp (V.str.inj q9))) ?_
                walk_at "go"
                have e2 : numV (numO (some z) lo hi) = V.non := by
                  unfold numO
                  have : plainT z = false := by
                    rw [e, Bool.or_eq_false_iff, decide_eq_false_iff_not, decide_eq_false_iff_not]
                    exact hp
                  rw [Option.bind_some, this]
                  rfl
                rw [e2] at q
                exact q _ (fun b o e => upd_keep hp9 (upd_keep hD e))
              | true =>
                refine g_two2 ?_ (fun B h3 => ?_)
                · walk_at "go"
                  have hall := hb
                  refine for_it (n := z.cps.size) walk_str (fun i σ H' => ∃ (v : Option V), σ = [some (.str z), some (.int lo), some (.int hi), v, some (.int ((NumText.digitsVal ((TL.tl z).take i) : Nat) : Int))] ∧ Same H H') ⟨none, rfl, fun b o e => upd_keep hp9 (upd_keep hD e)⟩ (fun _ _ _ _ _ => trivial) ?_ ?_
                  · rintro i x σ H1 H2 hi ⟨v, rfl, sm⟩ ⟨rfl, cc, hcc, rfl⟩
                    have hc2 : (TL.tl z)[i]? = some cc := by simpa [TL.tl] using hcc
                    have dg : digit cc = true := List.all_eq_true.mp hall cc (List.mem_of_getElem? hc2)
                    have bd := digits_take hall (of_decide_eq_true d2) i
                    walk_at "go"
                    refine ⟨rfl, ?_⟩
                    walk_at "go"
                    refine g_sidx dg ?_
                    walk_at "go"
                    refine ⟨some (.str ⟨#[cc]⟩), ?_, sm⟩
                    have e9 : NumText.digitsVal ((TL.tl z).take (i + 1)) = NumText.digitsVal ((TL.tl z).take i) * 10 + (cc - 48) := by
                      rw [List.take_add_one, hc2]
                      exact digits_snoc _ _
                    have e8 : (10 * ((NumText.digitsVal ((TL.tl z).take i) : Nat) : Int) + ((cc - 48 : Nat) : Int)) = ((NumText.digitsVal ((TL.tl z).take (i + 1)) : Nat) : Int) := by
                      rw [e9]
                      omega
                    rw [← e8]
                    rfl
                  · rintro σ H1 ⟨v, rfl, sm⟩
                    have ez : NumText.digitsVal ((TL.tl z).take z.cps.size) = NumText.digitsVal (TL.tl z) := by
                      rw [show z.cps.size = (TL.tl z).length by simp [TL.tl], List.take_length]
                    rw [ez]
                    have q1 := q H1 sm
                    unfold numO at q1
                    rw [Option.bind_some, hp, if_pos rfl] at q1
                    walk_at "go"
                    refine g_two (fun h => ?_) (fun h => ?_)
                    · walk_at "go"
                      refine g_two (fun h2 => ?_) (fun h2 => ?_)
                      · walk_at "go"
                        rw [if_pos ⟨h, h2⟩] at q1
                        exact q1
                      · walk_at "go"
                        rw [if_neg (fun z9 => h2 z9.2)] at q1
                        exact q1
                    · walk_at "go"
                      rw [if_neg (fun z9 => h z9.1)] at q1
                      exact q1
                · have hc : c = 48 := by
                    rw [e0] at h3
                    have := congrArg TL.tl (V.str.inj h3)
                    simpa [TL.tl] using this
                  subst hc
                  have hl : z.length = 1 := by
                    rw [e] at hp
                    simpa using hp
                  walk_at "go"
                  rw [(zero_only hcr).mpr hl]
                  refine g_same ?_
                  rw [(zero_only hcr).mpr hl] at B
                  exact B
        · walk_at "go"
          have e : plainT z = false := by
            unfold plainT
            have : decide ((TL.tl z).length ≤ 30) = false := decide_eq_false (by rw [← TL.len_tl]; omega)
            rw [this]; simp
          have q1 := q _ (Same.refl H)
          unfold numO at q1
          rw [Option.bind_some, e] at q1
          exact q1
      · walk_at "go"
        have e : plainT z = false := by
          unfold plainT
          have : decide (1 ≤ (TL.tl z).length) = false := decide_eq_false (by rw [← TL.len_tl]; omega)
          rw [this]; simp
        have q1 := q _ (Same.refl H)
        unfold numO at q1
        rw [Option.bind_some, e] at q1
        exact q1
end
section
variable {P : Program} {w : World} {K : PySem.W.Frag} {mg : Str → Option Value} {base : Heap} {f : Nat → Addr} {d : Nat → FuncData}
theorem ok_law_spoilt (T : Txt P K mg f d) : FnOk P w K mg base CX0 2 (f 16) (d 16) ["_law_bag_here", "_law_text"] (sp_law_spoilt K) := by
  refine T.F_law_spoilt.ok sc_law_spoilt (fun vs H Q E h => ?_) (fun cdv A outer s H vs Q E hr h => ?_)
  · obtain ⟨p, z, n, m, rfl, hn, B, hJ, hm, q⟩ := h
    rfl
  · obtain ⟨p, z, n, m, rfl, hn, B, hJ, hm, q⟩ := h
    refine ⟨_, (pss_cons (ps_set (i := 2) sc_law_spoilt.nd rfl (.inl rfl) (pe_ix ix_str pe_str (pe_call (ok_law_take T) (hr.mono (by decide)) rfl T.m__law_take T.k__law_take T.b__law_take .nil pass0 (pa_cons (pv 0) (pa_cons pe_int pa_nil))) (fun _ _ => rfl)))
      (pss_cons (ps_set (i := 3) sc_law_spoilt.nd rfl (.inl rfl) (pe_call (ok_law_take T) (hr.mono (by decide)) rfl T.m__law_take T.k__law_take T.b__law_take .nil pass0 (pa_cons (pv 0) (pa_cons (pe_op op_add (pe_callB (call_lenV (K := K)) (by rfl) T.z_len (by decide +kernel) (pa_cons (pv 1) pa_nil)) pe_int) pa_nil))))
      (pss_cons (ps_set (i := 4) sc_law_spoilt.nd rfl (.inl rfl) (pe_call (ok_law_take T) (hr.mono (by decide)) rfl T.m__law_take T.k__law_take T.b__law_take .nil pass0 (pa_cons (pv 0) (pa_cons pe_int pa_nil))))
      (pss_cons (ps_if (pt_cmpR op_eq (pv 4) pe_int (nomark _)) (pss_one (ps_ret (pe_op op_addS (pe_slice sl_str (pv 1) po_none (po_some (pv 3))) (pe_slice sl_str (pv 1) (po_some (pe_op op_add (pv 3) pe_int)) po_none)))) pss_nil)
      (pss_cons (ps_if (pt_cmpR op_eq (pv 4) pe_int (nomark _)) (pss_one (ps_ret (pe_op op_addS (pe_op op_addS (pe_slice sl_str (pv 1) po_none (po_some (pv 3))) (pv 2)) (pe_slice sl_str (pv 1) (po_some (pv 3)) po_none)))) pss_nil)
      (pss_cons (ps_if (pt_cmpR op_eq (pv 4) pe_int (nomark _)) (pss_one (ps_ret (pe_op op_addS (pe_op op_addS (pe_slice sl_str (pv 1) po_none (po_some (pv 3))) (pv 2)) (pe_slice sl_str (pv 1) (po_some (pe_op op_add (pv 3) pe_int)) po_none)))) pss_nil)
      (pss_one (ps_ret (pv 1))))))))), ?_⟩
    walk_at "go"
    generalize eS : Str.ofString "0019 -+_a\nA." = S
    have hS : Sg S 12 := by
      rw [← eS]
      exact Sg.of (by decide +kernel)
    have hL : S.length = 12 := by
      rw [← eS]
      decide +kernel
    have hSl : S.length ≤ sizeLine := by
      rw [hL]
      decide
    refine ⟨p, 12, n, rfl, by decide, by decide, by omega, B, fun r H1 r0 r1 B1 M1 => ?_⟩
    walk_at "go"
    obtain ⟨hz, e⟩ := atI_nat (xs := S.cps.toList) r0 (by rw [← show S.length = S.cps.toList.length from TL.len_tl S, hL]; exact r1)
    have hN := hS.sign e
    refine g_ixS hSl e ?_
    generalize (⟨#[S.cps.toList[r.toNat]]⟩ : Str) = C at hN
    have hJz : z.length ≤ sizeLine := Nat.le_trans hJ.1 (Nat.le_trans hm (by decide))
    have hJ9 := hJ.1
    walk_at "go"
    refine ⟨p, (z.length : Int) + 1, _, rfl, by omega, by omega, by omega, B1, fun t H3 s0 s1 B3 M3 => ?_⟩
    walk_at "go"
    refine ⟨p, 6, _, rfl, by decide, by decide, by omega, B3, fun way H5 w0 w1 B5 M5 => ?_⟩
    have M05 : Mv p H H5 := M1.trans (M3.trans M5)
    have hA := hJ.cut none (some t)
    have hC := hJ.cut (some t) none
    have hD2 := hJ.cut (some (t + 1)) none
    have big : 2 * m + 1 ≤ sizeLine := Nat.le_trans (by omega : 2 * m + 1 ≤ 2000) (by decide)
    walk_at "go"
    refine g_int2 (fun h => ?_) (fun h => ?_)
    · walk_at "go"
      refine g_addS (Nat.le_trans (Nat.add_le_add hA.1 hD2.1) (by omega)) ?_
      exact q _ _ ((hA.app hD2).mono (by omega)) (B5.mono (by omega)) M05
    walk_at "go"
    refine g_int2 (fun h => ?_) (fun h => ?_)
    · walk_at "go"
      refine g_addS (Nat.le_trans (Nat.add_le_add hA.1 hN.1) (by omega)) ?_
      walk_at "go"
      refine g_addS (Nat.le_trans (Nat.add_le_add (hA.app hN).1 hC.1) (by omega)) ?_
      exact q _ _ (((hA.app hN).app hC).mono (by omega)) (B5.mono (by omega)) M05
    walk_at "go"
    refine g_int2 (fun h => ?_) (fun h => ?_)
    · walk_at "go"
      refine g_addS (Nat.le_trans (Nat.add_le_add hA.1 hN.1) (by omega)) ?_
      walk_at "go"
      refine g_addS (Nat.le_trans (Nat.add_le_add (hA.app hN).1 hD2.1) (by omega)) ?_
      exact q _ _ (((hA.app hN).app hD2).mono (by omega)) (B5.mono (by omega)) M05
    · walk_at "go"
      exact q _ _ (hJ.mono (by omega)) (B5.mono (by omega)) M05
end
section
variable {P : Program} {w : World} {K : PySem.W.Frag} {mg : Str → Option Value} {base : Heap} {f : Nat → Addr} {d : Nat → FuncData}
theorem ok_law_shown (T : Txt P K mg f d) : FnOk P w K mg base CX0 1 (f 17) (d 17) ["_law_letter_here"] (sp_law_shown K) := by
  refine T.F_law_shown.ok sc_law_shown (fun vs H Q E h => ?_) (fun cdv A outer s H vs Q E hr h => ?_)
  · obtain ⟨p, c, n, rfl, hp, h0, h1, q⟩ := h
    rfl
  · obtain ⟨p, c, n, rfl, hp, h0, h1, q⟩ := h
    refine ⟨_, (pss_one (ps_ret (pe_op op_addS (pe_ix (ix_tupV (K := K)) (pv 0) pe_int (fun _ _ => rfl)) (pe_ix (ix_listV (K := K)) (pe_lst (pa_cons pe_str (pa_cons (pe_callTy call_str_int (by rfl) T.z_str (by decide +kernel) (pa_cons (pe_ix (ix_tupV (K := K)) (pv 0) pe_int (fun _ _ => rfl)) pa_nil)) pa_nil))) (pe_callTy call_intV (by rfl) T.z_int (by decide +kernel) (pa_cons (pe_cmpR op_ge (pe_ix (ix_tupV (K := K)) (pv 0) pe_int (fun _ _ => rfl)) pe_int (nomark _)) pa_nil)) (fun _ _ => rfl))))), ?_⟩
    walk_at "go"
    have sq : SqT K H p [V.str ⟨#[c]⟩, V.int n] := Or.inl (Or.inl hp)
    refine g_ixT sq (v := .str ⟨#[c]⟩) rfl ?_
    walk_at "go"
    refine g_ixT sq (v := .int n) rfl ?_
    walk_at "go"
    refine ⟨n, rfl, ?_, ?_⟩
    · obtain ⟨k, rfl⟩ : ∃ k : Fin 101, n = ((k : Nat) : Int) - 1 := ⟨⟨(n + 1).toNat, by omega⟩, by show n = (((n + 1).toNat : Nat) : Int) - 1; omega⟩
      have s2 : ∀ n : Fin 101, (((n : Nat) : Int) - 1).natAbs.log2 < 1920 := by decide +kernel
      exact s2 k
    walk_at "go"
    rename_i pl hpl
    refine g_ixT (xs := [V.str ⟨#[c]⟩, V.int n]) (Or.inl (Or.inl (upd_keep hpl hp))) (v := .int n) rfl ?_
    walk_at "go"
    have q1 := q _ (fun b o e => upd_keep (u := .lst [V.str (Str.ofString ""), V.str (Str.ofString (toString n))]) hpl e)
    have le : ∀ x : Fin 101, (Str.ofString (toString (((x : Nat) : Int) - 1))).length ≤ 100 := by decide +kernel
    have len : (Str.ofString (toString n)).length ≤ 100 := by
      obtain ⟨k, rfl⟩ : ∃ k : Fin 101, n = ((k : Nat) : Int) - 1 := ⟨⟨(n + 1).toNat, by omega⟩, by show n = (((n + 1).toNat : Nat) : Int) - 1; omega⟩
      exact le k
    have one : (⟨#[c]⟩ : Str).length = 1 := rfl
    by_cases h : 0 ≤ n
    · have eb : decide (0 ≤ n) = true := decide_eq_true h
      unfold shownL at q1
      rw [if_pos h] at q1
      rw [eb]
      refine g_ixL (Or.inl (Or.inl upd_same)) (v := .str (Str.ofString (toString n))) rfl ?_
      refine g_addS (Nat.le_trans (Nat.add_le_add (Nat.le_of_eq one) len) (by decide)) ?_
      exact q1
    · have eb : decide (0 ≤ n) = false := decide_eq_false h
      unfold shownL at q1
      rw [if_neg h] at q1
      rw [eb]
      refine g_ixL (Or.inl (Or.inl upd_same)) (v := .str (Str.ofString "")) rfl ?_
      refine g_addS (Nat.le_trans (Nat.add_le_add (Nat.le_of_eq one) (show (Str.ofString "").length ≤ 0 by decide +kernel)) (by decide)) ?_
      exact q1
end
section
variable {P : Program} {w : World} {K : PySem.W.Frag} {mg : Str → Option Value} {base : Heap} {f : Nat → Addr} {d : Nat → FuncData}
theorem ok_law_letter (T : Txt P K mg f d) : FnOk P w K mg base CX0 2 (f 18) (d 18) ["_law_bag_here"] (sp_law_letter K) := by
  refine T.F_law_letter.ok sc_law_letter (fun vs H Q E h => ?_) (fun cdv A outer s H vs Q E hr h => ?_)
  · obtain ⟨p, n, rfl, hn, B, q⟩ := h
    rfl
  · obtain ⟨p, n, rfl, hn, B, q⟩ := h
    refine ⟨_, (pss_cons (ps_set (i := 1) sc_law_letter.nd rfl (.inl rfl) (pe_ix ix_str pe_str (pe_call (ok_law_take T) (hr.mono (by decide)) rfl T.m__law_take T.k__law_take T.b__law_take .nil pass0 (pa_cons (pv 0) (pa_cons pe_int pa_nil))) (fun _ _ => rfl)))
      (pss_one (ps_ret (pe_tup (pa_cons (pv 1) (pa_cons (pe_ix (ix_listV (K := K)) (pe_lst (pa_cons (pe_op op_sub pe_int pe_int) (pa_cons (pe_call (ok_law_take T) (hr.mono (by decide)) rfl T.m__law_take T.k__law_take T.b__law_take .nil pass0 (pa_cons (pv 0) (pa_cons pe_int pa_nil))) (pa_cons (pe_call (ok_law_take T) (hr.mono (by decide)) rfl T.m__law_take T.k__law_take T.b__law_take .nil pass0 (pa_cons (pv 0) (pa_cons pe_int pa_nil))) (pa_cons pe_int pa_nil))))) (pe_call (ok_law_take T) (hr.mono (by decide)) rfl T.m__law_take T.k__law_take T.b__law_take .nil pass0 (pa_cons (pv 0) (pa_cons pe_int pa_nil))) (fun _ _ => rfl)) pa_nil)))))), ?_⟩
    walk_at "go"
    generalize eS : Str.ofString "ABCDEFGHIJKLMNOPQRSTUVWXYZ" = S
    have hL : S.length = 26 := by
      rw [← eS]
      decide +kernel
    refine ⟨p, 26, n, rfl, by decide, by decide, by omega, B, fun r H1 r0 r1 B1 M1 => ?_⟩
    walk_at "go"
    obtain ⟨hz, e⟩ := atI_nat (xs := S.cps.toList) r0 (by rw [← show S.length = S.cps.toList.length from TL.len_tl S, hL]; exact r1)
    have hc : 65 ≤ S.cps.toList[r.toNat] ∧ S.cps.toList[r.toNat] ≤ 90 := by
      have mem := List.getElem_mem hz
      have all : ∀ x ∈ (Str.ofString "ABCDEFGHIJKLMNOPQRSTUVWXYZ").cps.toList, 65 ≤ x ∧ x ≤ 90 := by decide +kernel
      rw [eS] at all
      exact all _ mem
    refine g_ixS (by rw [hL]; decide) e ?_
    generalize S.cps.toList[r.toNat] = c at hc
    walk_at "go"
    refine ⟨p, 100, _, rfl, by decide, by decide, by omega, B1, fun t1 H2 s0 s1 B2 M2 => ?_⟩
    walk_at "go"
    refine ⟨p, 3, _, rfl, by decide, by decide, by omega, B2, fun t2 H3 u0 u1 B3 M3 => ?_⟩
    walk_at "go"
    rename_i l hl
    have nl := B3.ne hl
    refine ⟨p, 4, _, rfl, by decide, by decide, by omega, B3.new hl, fun z H4 z0 z1 B4 M4 => ?_⟩
    walk_at "go"
    obtain ⟨v, hv, ix⟩ := ix_draw (K := K) (M4 l _ nl upd_same) z0 z1 rfl
    refine ix _ ?_
    have M04 : Mv p H H4 := M1.trans (M2.trans (M3.trans ((Mv.new hl).trans M4)))
    obtain ⟨m, rfl, m0, m1⟩ : ∃ m : Int, v = .int m ∧ -1 ≤ m ∧ m ≤ 99 := by
      simp only [List.mem_cons, List.not_mem_nil, or_false] at hv
      rcases hv with rfl | rfl | rfl | rfl
      · exact ⟨_, rfl, by omega, by omega⟩
      · exact ⟨_, rfl, by omega, by omega⟩
      · exact ⟨_, rfl, by omega, by omega⟩
      · exact ⟨_, rfl, by omega, by omega⟩
    walk_at "go"
    rename_i l2 hl2
    exact q l2 _ c m upd_same hc.1 hc.2 m0 m1 (B4.ne hl2) ((B4.new hl2).mono (by omega)) (M04.trans (Mv.new hl2))
end
section
variable {P : Program} {w : World} {K : PySem.W.Frag} {mg : Str → Option Value} {base : Heap} {f : Nat → Addr} {d : Nat → FuncData}
theorem ok_law_near (T : Txt P K mg f d) : FnOk P w K mg base CX0 2 (f 19) (d 19) ["_law_bag_here", "_law_letter_here"] (sp_law_near K) := by
  refine T.F_law_near.ok sc_law_near (fun vs H Q E h => ?_) (fun cdv A outer s H vs Q E hr h => ?_)
  · obtain ⟨p, l, n, c, m, rfl, hn, B, hl, c0, c1, m0, m1, nl, q⟩ := h
    rfl
  · obtain ⟨p, l, n, c, m, rfl, hn, B, hl, c0, c1, m0, m1, nl, q⟩ := h
    refine ⟨_, (pss_cons (ps_asg (pv 1) (pg_tup (by rfl) (pgs_cons (pg_name (i := 2) sc_law_near.nd rfl (.inl rfl)) (pgs_cons (pg_name (i := 3) sc_law_near.nd rfl (.inl rfl)) pgs_nil))))
      (pss_cons (ps_set (i := 4) sc_law_near.nd rfl (.inl rfl) (pe_lst (pa_cons (pv 1) (pa_cons (pe_tup (pa_cons (pv 2) (pa_cons (pe_op op_sub pe_int pe_int) pa_nil))) (pa_cons (pe_tup (pa_cons (pv 2) (pa_cons pe_int pa_nil))) (pa_cons (pe_tup (pa_cons (pv 2) (pa_cons (pe_op op_mod (pe_callB (call_maxV rfl) (by rfl) T.z_max (by decide +kernel) (pa_cons pe_int (pa_cons (pe_op op_sub (pe_op op_add (pv 3) (pe_call (ok_law_take T) (hr.mono (by decide)) rfl T.m__law_take T.k__law_take T.b__law_take .nil pass0 (pa_cons (pv 0) (pa_cons pe_int pa_nil)))) pe_int) pa_nil))) pe_int) pa_nil))) pa_nil))))))
      (pss_cons (ps_expr (pe_bm PySem.F.plainAttrs_list PySem.F.slot_list_append PySem.F.type_list_append mt_append (pv 4) (pa_cons (pe_tup (pa_cons (pe_ix ix_str pe_str (pe_call (ok_law_take T) (hr.mono (by decide)) rfl T.m__law_take T.k__law_take T.b__law_take .nil pass0 (pa_cons (pv 0) (pa_cons pe_int pa_nil))) (fun _ _ => rfl)) (pa_cons (pv 3) pa_nil))) pa_nil)))
      (pss_one (ps_ret (pe_ix (ix_listV (K := K)) (pv 4) (pe_call (ok_law_take T) (hr.mono (by decide)) rfl T.m__law_take T.k__law_take T.b__law_take .nil pass0 (pa_cons (pv 0) (pa_cons pe_int pa_nil))) (fun _ _ => rfl))))))), ?_⟩
    walk_at "go"
    refine ⟨l, _, rfl, Or.inl (Or.inl hl), rfl, _, _, rfl, ?_⟩
    walk_at "go"
    refine ⟨_, _, rfl, ?_⟩
    walk_at "go"
    refine ⟨rfl, ?_⟩
    walk_at "go"
    rename_i a1 h1 a2 h2
    have n1 := B.ne h1
    have n2 := (B.new h1).ne h2
    refine ⟨p, 3, n, rfl, by decide, by decide, by omega, (B.new h1).new h2, fun t1 H1 s0 s1 B1 M1 => ?_⟩
    walk_at "go"
    rename_i a3 h3 L hL
    have n3 := B1.ne h3
    have nL := (B1.new h3).ne hL
    refine ⟨Or.inl ⟨rfl, _, Or.inl (Or.inl upd_same)⟩, ?_⟩
    generalize eX : (if m + t1 - 1 > 0 then m + t1 - 1 else 0) % 100 = x3 at hL ⊢
    have hx3 : 0 ≤ x3 ∧ x3 ≤ 99 := by
      rw [← eX]
      omega
    walk_at "go"
    generalize eS : Str.ofString "ABCDEFGHIJKLMNOPQRSTUVWXYZ" = S
    have hSL : S.length = 26 := by
      rw [← eS]
      decide +kernel
    refine ⟨p, 26, _, rfl, by decide, by decide, by omega, (B1.new h3).new hL, fun r H2 r0 r1 B2 M2 => ?_⟩
    walk_at "go"
    obtain ⟨hz, e⟩ := atI_nat (xs := S.cps.toList) r0 (by rw [← show S.length = S.cps.toList.length from TL.len_tl S, hSL]; exact r1)
    have hc : 65 ≤ S.cps.toList[r.toNat] ∧ S.cps.toList[r.toNat] ≤ 90 := by
      have mem := List.getElem_mem hz
      have all : ∀ x ∈ (Str.ofString "ABCDEFGHIJKLMNOPQRSTUVWXYZ").cps.toList, 65 ≤ x ∧ x ≤ 90 := by decide +kernel
      rw [eS] at all
      exact all _ mem
    refine g_ixS (by rw [hSL]; decide) e ?_
    generalize S.cps.toList[r.toNat] = c4 at hc
    walk_at "go"
    rename_i a4 h4
    have n4 := B2.ne h4
    have eL2 := M2 L _ nL upd_same
    refine s_append (upd_keep h4 eL2) (show 4 < sizeLine by decide) ?_
    walk_at "go"
    have B3 := (B2.new (o := .tup [V.str ⟨#[c4]⟩, V.int m]) h4).off (o := .lst ([V.ref l, V.ref a1, V.ref a2, V.ref a3] ++ [V.ref a4])) nL
    refine ⟨p, 5, _, rfl, by decide, by decide, by omega, B3, fun z H4 z0 z1 B4 M4 => ?_⟩
    walk_at "go"
    obtain ⟨v, hv, ix⟩ := ix_draw (K := K) (M4 L _ nL upd_same) z0 z1 rfl
    refine ix _ ?_
    have st1 : ∀ {x : Addr} {o : HO}, x ≠ p → H1 x = some o → H4 x = some o := fun {x o} np ex => by
      have e1 := upd_keep (u := .tup [V.str ⟨#[c]⟩, V.int x3]) h3 ex
      have nL1 := ne_of_none e1 hL
      exact M4 x _ np (by rw [upd_ne nL1]; exact upd_keep h4 (M2 x _ np (upd_keep hL e1)))
    have f0 := st1 nl (M1 l _ nl (upd_keep h2 (upd_keep h1 hl)))
    have f1 := st1 n1 (M1 a1 _ n1 (upd_keep h2 upd_same))
    have f2 := st1 n2 (M1 a2 _ n2 upd_same)
    have g3 : upd H1 a3 (.tup [V.str ⟨#[c]⟩, V.int x3]) a3 = some (.tup [V.str ⟨#[c]⟩, V.int x3]) := upd_same
    have f3 := M4 a3 _ n3 (by rw [upd_ne (ne_of_none g3 hL)]; exact upd_keep h4 (M2 a3 _ n3 (upd_keep hL g3)))
    have f4 := M4 a4 _ n4 (by rw [upd_ne (ne_of_none eL2 h4).symm]; exact upd_same)
    have M04 : Mv p H H4 := fun x o np ex => st1 np (M1 x o np (upd_keep h2 (upd_keep h1 ex)))
    have B5 : Bg H4 p (n + 3) := B4.mono (by omega)
    simp only [List.cons_append, List.nil_append, List.mem_cons, List.not_mem_nil, or_false] at hv
    rcases hv with rfl | rfl | rfl | rfl | rfl
    · exact q l H4 c m f0 c0 c1 m0 m1 nl B5 M04
    · exact q a1 H4 c _ f1 c0 c1 (by omega) (by omega) n1 B5 M04
    · exact q a2 H4 c _ f2 c0 c1 (by omega) (by omega) n2 B5 M04
    · exact q a3 H4 c _ f3 c0 c1 (by omega) hx3.2 n3 B5 M04
    · exact q a4 H4 c4 m f4 hc.1 hc.2 m0 m1 n4 B5 M04
end
section
variable {P : Program} {w : World} {K : PySem.W.Frag} {mg : Str → Option Value} {base : Heap} {f : Nat → Addr} {d : Nat → FuncData}
theorem ok_law_very (T : Txt P K mg f d) : JgH.FnX P w K mg base 1 (f 20) (d 20) ["_law_found", "_law_matter"] (fun _ _ _ => sp_law_very K) := by
  refine JgH.fnX_of T.F_law_very sc_law_very (fun xa xc xd vs H Q E h => ?_) (fun cdv A outer s H vs Q E pn hr gua hot h => ?_)
  · obtain ⟨v, rfl, hv, q⟩ := h
    rfl
  · obtain ⟨v, rfl, hv, q⟩ := h
    refine ⟨_, (pss_cons (ps_if (pt_cmpR op_ne (pe_callB (call_repr (K := K) gua hr.units) (by rfl) T.z_repr (by decide +kernel) (pa_cons (pv 0) pa_nil)) (pe_callB (call_repr (K := K) gua hr.units) (by rfl) T.z_repr (by decide +kernel) (pa_cons (pv 1) pa_nil)) (nomark _)) (pss_one (ps_ret pe_bl)) pss_nil)
      (pss_cons (ps_if (pt_not (pt_val (pe_callB (JgX.call_isiE (K := K)) (by rfl) T.z_isinstance (by decide +kernel) (pa_cons (pv 1) (pa_cons (pe_bltn (v := .ty "list") (by rfl) T.z_list (by decide +kernel) rfl) pa_nil))))) (pss_one (ps_ret pe_bl)) pss_nil)
      (pss_cons (ps_expr (pe_bm PySem.F.plainAttrs_list PySem.F.slot_list_append PySem.F.type_list_append mt_append (pv 1) (pa_cons pe_str pa_nil)))
      (pss_cons (ps_set (i := 2) sc_law_very.nd rfl (.inl rfl) (pe_cmpR op_eq (pe_callB (call_repr (K := K) gua hr.units) (by rfl) T.z_repr (by decide +kernel) (pa_cons (pv 0) pa_nil)) (pe_callB (call_repr (K := K) gua hr.units) (by rfl) T.z_repr (by decide +kernel) (pa_cons (pv 1) pa_nil)) (nomark _)))
      (pss_cons (ps_expr (pe_bm0 PySem.F.plainAttrs_list PySem.F.slot_list_pop PySem.F.type_list_pop mt_pop (pv 1)))
      (pss_one (ps_ret (pv 2)))))))), ?_⟩
    walk_at "go"
    rcases hv with ⟨d, o⟩ | ⟨p, y, d, rfl, hp, o⟩
    · refine ⟨v, d, rfl, o.dp _ _, o.sh, o.nd, by rw [o.dep]; decide, Nat.le_trans o.sz (by decide), ?_⟩
      walk_at "go"
      refine ⟨v, d, rfl, o.dp _ _, o.sh, o.nd, by rw [o.dep]; decide, Nat.le_trans o.sz (by decide), ?_⟩
      walk_at "go"
      refine g_isiE (o.noL K H) ?_
      walk_at "go"
      exact q
    · obtain ⟨⟨s1, s2, s3, s4⟩, u1, u2, u3, u4⟩ := list_fine (e := d) o
      have late : ∀ H : Hp, Dp K H (.str (Str.ofString "late")) (.str (Str.ofString "late")) := fun H => .str _
      refine ⟨_, .list [d], rfl, .lst (Or.inl (Or.inl hp)) (.cons (o.dp _ _) .nil), s1, s2, s3, s4, ?_⟩
      walk_at "go"
      refine ⟨_, .list [d], rfl, .lst (Or.inl (Or.inl hp)) (.cons (o.dp _ _) .nil), s1, s2, s3, s4, ?_⟩
      walk_at "go"
      refine g_isiE (b := true) (Isi.of (.base (.lst hp)) (by decide +kernel)) ?_
      walk_at "go"
      refine ⟨Or.inl ⟨rfl, _, Or.inl (Or.inl hp)⟩, ?_⟩
      walk_at "go"
      refine s_append hp (show 1 < sizeLine by decide) ?_
      walk_at "go"
      refine ⟨_, .list [d, .str (Str.ofString "late")], rfl, .lst (Or.inl (Or.inl upd_same)) (.cons (o.dp _ _) (.cons (late _) .nil)), u1, u2, u3, u4, ?_⟩
      walk_at "go"
      refine ⟨_, .list [d, .str (Str.ofString "late")], rfl, .lst (Or.inl (Or.inl upd_same)) (.cons (o.dp _ _) (.cons (late _) .nil)), u1, u2, u3, u4, ?_⟩
      walk_at "go"
      refine g_BM0 ?_
      walk_at "go"
      refine ⟨Or.inl ⟨rfl, _, Or.inl (Or.inl upd_same)⟩, p, _, _, rfl, rfl, upd_same, rfl, ?_⟩
      walk_at "go"
      rw [decide_eq_true rfl]
      rw [show upd (upd H p (HO.lst ([y] ++ [V.str (Str.ofString "late")]))) p (HO.lst ([y] ++ [V.str (Str.ofString "late")]).dropLast) = H from upd_back hp]
      exact q
end
section
variable {P : Program} {w : World} {K : PySem.W.Frag} {mg : Str → Option Value} {base : Heap} {f : Nat → Addr} {d : Nat → FuncData}
theorem ok_law_kind (T : Txt P K mg f d) : JgH.FnX P w K mg base 1 (f 21) (d 21) ["_law_e"] (sp_law_kind K) := by
  refine JgH.fnX_of T.F_law_kind sc_law_kind (fun xa xc xd vs H Q E h => ?_) (fun cdv A outer s H vs Q E pn hr gua hot h => ?_)
  · obtain ⟨C, dx, fs, rfl, hC, hD, hH, q⟩ := h
    rfl
  · obtain ⟨C, dx, fs, rfl, hC, hD, hH, q⟩ := h
    have hotC : L2H.HotC (L2H.cxH CX0 P w K mg base n_law_kind "_law_kind" (defScope s_law_kind) (f 21) cdv A outer s H E pn).nox := ⟨pn, hot, List.mem_singleton.mpr rfl⟩
    have hdt : ∃ vs, pn.2.data = .fields vs := hot.2.elim fun v e => ⟨v, e.1⟩
    refine ⟨_, (pss_cons (ps_set (i := 1) sc_law_kind.nd rfl (.inl rfl) (pe_lst (pa_cons (pe_callB (JgH.call_isiP (K := K) (List.mem_singleton.mpr rfl) hdt) (by rfl) T.z_isinstance (by decide +kernel) (pa_cons (pv 0) (pa_cons (pe_glob (v := .ref (f 100)) rfl T.c_NoLetter rfl) pa_nil))) (pa_cons (pe_callB (JgH.call_isiP (K := K) (List.mem_singleton.mpr rfl) hdt) (by rfl) T.z_isinstance (by decide +kernel) (pa_cons (pv 0) (pa_cons (pe_glob (v := .ref (f 102)) rfl T.c_NoNumber rfl) pa_nil))) (pa_cons (pe_callB (JgH.call_isiP (K := K) (List.mem_singleton.mpr rfl) hdt) (by rfl) T.z_isinstance (by decide +kernel) (pa_cons (pv 0) (pa_cons (pe_glob (v := .ref (f 104)) rfl T.c_NoName rfl) pa_nil))) (pa_cons (pe_callB (JgH.call_isiP (K := K) (List.mem_singleton.mpr rfl) hdt) (by rfl) T.z_isinstance (by decide +kernel) (pa_cons (pv 0) (pa_cons (pe_glob (v := .ref (f 105)) rfl T.c_TermError rfl) pa_nil))) pa_nil))))))
      (pss_one (ps_ret (JgH.pe_lcZip (own := [("_law_word", 2), ("_law_here", 3)]) hotC sc_law_kind.nd rfl T.z_zip (pa_cons (pe_lst (pa_cons pe_str (pa_cons pe_str (pa_cons pe_str (pa_cons pe_str pa_nil))))) (pa_cons (pv 1) pa_nil)) (blkOk_by (own := [("_law_word", 2), ("_law_here", 3)]) (N := n_law_kind) (sc := defScope s_law_kind) (by decide +kernel)) (fun _ _ _ _ _ => (pgs_cons (pg_name (i := 2) sc_law_kind.nd rfl (Or.inl rfl)) (pgs_cons (pg_name (i := 3) sc_law_kind.nd rfl (Or.inl rfl)) pgs_nil))) (fun _ _ _ _ _ => pts_one (pt_val (pv 3))) (fun _ _ _ _ _ => (pv 2)))))), ?_⟩
    obtain ⟨c, b1, b2, wd, xa, k1, k2, k3, k4, hc, pk, q⟩ : ∃ (c : Nat) (b1 b2 : Bool) (wd : Str), JgX.XA K (f c) ∧ PySem.W.kitOne K (.ref (f c)) (.ref (f 100)) = some b1 ∧ PySem.W.kitOne K (.ref (f c)) (.ref (f 102)) = some b2 ∧ PySem.W.kitOne K (.ref (f c)) (.ref (f 104)) = some false ∧ PySem.W.kitOne K (.ref (f c)) (.ref (f 105)) = some true ∧
        pn.2.cls = .ref (f c) ∧ JgH.pick [.str (Str.ofString "letter"), .str (Str.ofString "number"), .str (Str.ofString "name"), .str (Str.ofString "base")] [b1, b2, false, true] = [.str wd, .str (Str.ofString "base")] ∧
        ∀ D H', Same H H' → H' D = some (.lst [.str wd, .str (Str.ofString "base")]) → Q (.ref D) H' := by
      rcases q with ⟨e, q⟩ | ⟨e, q⟩
      · have eC := e.symm.trans T.e_NoLetter
        cases eC
        exact ⟨100, true, false, _, T.xa_l, T.kit_ll, T.kit_ln, T.kit_lo, T.kit_lt, hC, rfl, q⟩
      · have eC := e.symm.trans T.e_NoNumber
        cases eC
        exact ⟨102, false, true, _, T.xa_n, T.kit_nl, T.kit_nn, T.kit_no, T.kit_nt, hC, rfl, q⟩
    walk_at "go"
    refine ⟨f c, dx, .ref (f 100), .ref (f 100), b1, fs, rfl, .own _, hc, hD, hH, xa, k1, ?_⟩
    walk_at "go"
    refine ⟨f c, dx, .ref (f 102), .ref (f 102), b2, fs, rfl, .own _, hc, hD, hH, xa, k2, ?_⟩
    walk_at "go"
    refine ⟨f c, dx, .ref (f 104), .ref (f 104), false, fs, rfl, .own _, hc, hD, hH, xa, k3, ?_⟩
    walk_at "go"
    refine ⟨f c, dx, .ref (f 105), .ref (f 105), true, fs, rfl, .own _, hc, hD, hH, xa, k4, ?_⟩
    walk_at "go"
    refine JgH.g_zip ?_
    walk_at "go"
    rename_i p1 h1 p2 h2
    refine JgH.zip_sel (bs := [b1, b2, false, true]) (fun _ _ => rfl) (fun x b H B hB => ?_) (fun x y H R hR => ?_) (Or.inl (Or.inl upd_same)) (Or.inl (Or.inl (upd_keep h2 upd_same))) rfl (by decide) fun D H' hD s e => ?_
    · walk_at "go"
      exact hB
    · walk_at "go"
      exact hR
    · rw [pk] at e
      exact q D H' (fun b o z => s _ _ (upd_keep h2 (upd_keep h1 z))) e
end
section
variable {P : Program} {w : World} {K : PySem.W.Frag} {mg : Str → Option Value} {base : Heap} {f : Nat → Addr} {d : Nat → FuncData}
theorem ok_law_refused (T : Txt P K mg f d) : FnG P w K mg base 5 (f 22) (d 22) ["_law_way", "_law_matter"] (sp_law_refused K) := by
  refine fnG_of T.F_law_refused sc_law_refused (fun vs H Q E h => ?_) (fun cdv A outer s H vs Q E hr gua h => ?_)
  · obtain ⟨w, m, rfl, hm, hw, q⟩ := h
    rfl
  · obtain ⟨w, m, rfl, hm, hw, q⟩ := h
    refine ⟨_, (pss_cons (JgH.ps_try_hit (i := 2) rfl rfl sc_law_refused.nd rfl rfl (by exact @JgH.test_two _ _ _ _ _ _ _ _ _ rfl rfl T.c_NoLetter T.c_NoNumber (by decide) (by decide)) (fun W pn xe tk _ => (pss_one (ps_if (pt_cmpR op_eq (pv 0) pe_int (nomark _)) (pss_one (ps_expr (pe_callS (ok_letter_rank T) (hr.mono (by decide)) rfl T.m_letter_rank T.k_letter_rank T.b_letter_rank (fun σ => L2N.passAt tk σ) (pa_cons (pv 1) pa_nil)))) (pss_one (ps_expr (pe_callS (ok_normal_letter T) (hr.mono (by decide)) rfl T.m_normal_letter T.k_normal_letter T.b_normal_letter (fun σ => L2N.passAt tk σ) (pa_cons (pv 1) pa_nil))))))) (fun a oe cls dd pn hz hf => (pss_one (ps_ret (pe_and (pe_cmpR (JgH.op_eqDK (K := K) hr.units) (JgH.pe_callXs hz.1 hz.2.1 (ok_law_kind T) (by exact JgH.room_suite hr _ (by decide)) gua (JgH.hot_suite hz hf) List.mem_cons_self rfl T.m__law_kind T.k__law_kind T.b__law_kind (pa_cons (pv 2) pa_nil)) (pe_lst (pa_cons (pe_ix (ix_listV (K := K)) (pe_lst (pa_cons pe_str (pa_cons pe_str pa_nil))) (pv 0) (fun _ _ => rfl)) (pa_cons pe_str pa_nil))) (nomark _)) (pe_one (JgH.pe_callXs hz.1 hz.2.1 (ok_law_very T) (by exact JgH.room_suite hr _ (by decide)) gua (JgH.hot_suite hz hf) List.mem_cons_self rfl T.m__law_very T.k__law_very T.b__law_very (pa_cons (JgH.pe_xfA (K := K) List.mem_cons_self hz.1 hz.2.1 hf (pv 2)) (pa_cons (pv 1) pa_nil)))))))))
      (pss_one (ps_ret pe_bl))), ?_⟩
    walk_at "go"
    rcases hw with ⟨rfl, o, ho, hl⟩ | ⟨rfl, o, ho, hl⟩
    · walk_at "go"
      refine JgH.g_callS ?_
      walk_at "go"
      refine ⟨m, o, rfl, ho, fun z ez hz => ?_, fun _ C dx H1 e s1 hdx => ?_⟩
      · subst ez
        rw [show letterO (some z) = letterT z from rfl, hz] at hl
        cases hl
      have eC := e.symm.trans T.e_NoLetter
      cases eC
      refine ⟨T.ex_l, fun a ha => ?_⟩
      walk_at "go"
      refine ⟨f 100, dx, _, rfl, rfl, rfl, upd_same, Or.inl ⟨T.e_NoLetter, fun D H2 s2 e2 => ?_⟩⟩
      walk_at "go"
      rename_i L1 hL1 L2 hL2
      have eD : upd (upd H2 L1 (.lst [V.str (Str.ofString "letter"), V.str (Str.ofString "number")])) L2 (.lst [V.str (Str.ofString "letter"), V.str (Str.ofString "base")]) D = some (.lst [.str (Str.ofString "letter"), .str (Str.ofString "base")]) := upd_keep hL2 (upd_keep hL1 e2)
      refine ⟨.list [.str (Str.ofString "letter"), .str (Str.ofString "base")], .list [.str (Str.ofString "letter"), .str (Str.ofString "base")], .lst (Or.inl (Or.inl eD)) (.cons (.str _) (.cons (.str _) .nil)), .lst (Or.inl (Or.inl upd_same)) (.cons (.str _) (.cons (.str _) .nil)), by decide +kernel, by decide +kernel, ?_⟩
      rw [show PyData.eqv (.list [.str (Str.ofString "letter"), .str (Str.ofString "base")]) (.list [.str (Str.ofString "letter"), .str (Str.ofString "base")]) = true from by decide +kernel]
      walk_at "go"
      refine JgH.g_xfA ?_
      walk_at "go"
      have k2 : ∀ {c o}, upd H1 dx (.xd [(Str.ofString "found", m)]) c = some o → upd (upd H2 L1 (.lst [V.str (Str.ofString "letter"), V.str (Str.ofString "number")])) L2 (.lst [V.str (Str.ofString "letter"), V.str (Str.ofString "base")]) c = some o := fun h => upd_keep hL2 (upd_keep hL1 (s2 _ _ h))
      have sm : Same H (upd (upd H2 L1 (.lst [V.str (Str.ofString "letter"), V.str (Str.ofString "number")])) L2 (.lst [V.str (Str.ofString "letter"), V.str (Str.ofString "base")])) := fun c o h => k2 (upd_keep hdx (s1 _ _ h))
      refine ⟨f 100, dx, _, m, rfl, rfl, rfl, k2 upd_same, T.xa_l.f, T.n_NoLetter, by simp [List.lookup], ?_⟩
      walk_at "go"
      refine ⟨m, rfl, Very.same sm hm, ?_⟩
      walk_at "go"
      exact q _ sm
    · walk_at "go"
      refine JgH.g_callS ?_
      walk_at "go"
      refine ⟨m, o, rfl, ho, fun i ei hi => ?_, fun _ C dx e hdx => ?_⟩
      · rw [hi] at hl
        cases hl
      have s1 : Same H H := Same.refl H
      have eC := e.symm.trans T.e_NoNumber
      cases eC
      refine ⟨T.ex_n, fun a ha => ?_⟩
      walk_at "go"
      refine ⟨f 102, dx, _, rfl, rfl, rfl, upd_same, Or.inr ⟨T.e_NoNumber, fun D H2 s2 e2 => ?_⟩⟩
      walk_at "go"
      rename_i L1 hL1 L2 hL2
      have eD : upd (upd H2 L1 (.lst [V.str (Str.ofString "letter"), V.str (Str.ofString "number")])) L2 (.lst [V.str (Str.ofString "number"), V.str (Str.ofString "base")]) D = some (.lst [.str (Str.ofString "number"), .str (Str.ofString "base")]) := upd_keep hL2 (upd_keep hL1 e2)
      refine ⟨.list [.str (Str.ofString "number"), .str (Str.ofString "base")], .list [.str (Str.ofString "number"), .str (Str.ofString "base")], .lst (Or.inl (Or.inl eD)) (.cons (.str _) (.cons (.str _) .nil)), .lst (Or.inl (Or.inl upd_same)) (.cons (.str _) (.cons (.str _) .nil)), by decide +kernel, by decide +kernel, ?_⟩
      rw [show PyData.eqv (.list [.str (Str.ofString "number"), .str (Str.ofString "base")]) (.list [.str (Str.ofString "number"), .str (Str.ofString "base")]) = true from by decide +kernel]
      walk_at "go"
      refine JgH.g_xfA ?_
      walk_at "go"
      have k2 : ∀ {c o}, upd H dx (.xd [(Str.ofString "found", m)]) c = some o → upd (upd H2 L1 (.lst [V.str (Str.ofString "letter"), V.str (Str.ofString "number")])) L2 (.lst [V.str (Str.ofString "number"), V.str (Str.ofString "base")]) c = some o := fun h => upd_keep hL2 (upd_keep hL1 (s2 _ _ h))
      have sm : Same H (upd (upd H2 L1 (.lst [V.str (Str.ofString "letter"), V.str (Str.ofString "number")])) L2 (.lst [V.str (Str.ofString "number"), V.str (Str.ofString "base")])) := fun c o h => k2 (upd_keep hdx (s1 _ _ h))
      refine ⟨f 102, dx, _, m, rfl, rfl, rfl, k2 upd_same, T.xa_n.f, T.n_NoNumber, by simp [List.lookup], ?_⟩
      walk_at "go"
      refine ⟨m, rfl, Very.same sm hm, ?_⟩
      walk_at "go"
      exact q _ sm
end
section
variable {P : Program} {w : World} {K : PySem.W.Frag} {mg : Str → Option Value} {base : Heap} {f : Nat → Addr} {d : Nat → FuncData}
theorem ok_law_letters_right (T : Txt P K mg f d) : FnG P w K mg base 6 (f 23) (d 23) ["_law_bag_here"] (sp_law_letters_right K) := by
  refine fnG_of T.F_law_letters_right sc_law_letters_right (fun vs H Q E h => ?_) (fun cdv A outer s H vs Q E hr gua h => ?_)
  · obtain ⟨p, n, rfl, hn, B, q⟩ := h
    rfl
  · obtain ⟨p, n, rfl, hn, B, q⟩ := h
    refine ⟨_, (pss_cons (ps_set (i := 1) sc_law_letters_right.nd rfl (.inl rfl) (pe_call (ok_law_letter T) (hr.mono (by decide)) rfl T.m__law_letter T.k__law_letter T.b__law_letter .nil pass0 (pa_cons (pv 0) pa_nil)))
      (pss_cons (ps_set (i := 2) sc_law_letters_right.nd rfl (.inl rfl) (pe_call (ok_law_near T) (hr.mono (by decide)) rfl T.m__law_near T.k__law_near T.b__law_near .nil pass0 (pa_cons (pv 0) (pa_cons (pv 1) pa_nil))))
      (pss_cons (ps_par (i := 3) (j := 4) rfl sc_law_letters_right.nd rfl rfl (by decide) rfl rfl (pa_cons (pe_call (ok_letter_rank T) (hr.mono (by decide)) rfl T.m_letter_rank T.k_letter_rank T.b_letter_rank .nil JgH.passN (pa_cons (pe_call (ok_law_shown T) (hr.mono (by decide)) rfl T.m__law_shown T.k__law_shown T.b__law_shown .nil pass0 (pa_cons (pv 1) pa_nil)) pa_nil)) (pa_cons (pe_call (ok_letter_rank T) (hr.mono (by decide)) rfl T.m_letter_rank T.k_letter_rank T.b_letter_rank .nil JgH.passN (pa_cons (pe_call (ok_law_shown T) (hr.mono (by decide)) rfl T.m__law_shown T.k__law_shown T.b__law_shown .nil pass0 (pa_cons (pv 2) pa_nil)) pa_nil)) pa_nil)) rfl)
      (pss_cons (ps_if (PW.pt (pw_or (pt_not (pt_val (pe_callB (JgX.call_isiE (K := K)) (by rfl) T.z_isinstance (by decide +kernel) (pa_cons (pv 3) (pa_cons (pe_bltn (v := .ty "tuple") (by rfl) T.z_tuple (by decide +kernel) rfl) pa_nil))))) (pw_or1 (pt_not (pt_val (pe_callB (JgX.call_isiE (K := K)) (by rfl) T.z_isinstance (by decide +kernel) (pa_cons (pv 4) (pa_cons (pe_bltn (v := .ty "tuple") (by rfl) T.z_tuple (by decide +kernel) rfl) pa_nil)))))))) (pss_one (ps_ret pe_bl)) pss_nil)
      (pss_cons (ps_if (PW.pt (pw_or (pt_cmpR op_ne (pe_cmpR (op_ltV (K := K) (Nat.lt_of_le_of_lt (Nat.le_add_right _ _) hr.units)) (pv 3) (pv 4) (nomark _)) (pe_cmpR (op_ltV (K := K) (Nat.lt_of_le_of_lt (Nat.le_add_right _ _) hr.units)) (pv 1) (pv 2) (nomark _)) (nomark _)) (pw_or (pt_cmpR op_ne (pe_cmpR (op_eqD hr.units) (pv 3) (pv 4) (nomark _)) (pe_cmpR (op_eqD hr.units) (pv 1) (pv 2) (nomark _)) (nomark _)) (pw_or1 (pt_cmpR op_ne (pe_cmpR (op_gtV (K := K) (Nat.lt_of_le_of_lt (Nat.le_add_right _ _) hr.units)) (pv 3) (pv 4) (nomark _)) (pe_cmpR (op_gtV (K := K) (Nat.lt_of_le_of_lt (Nat.le_add_right _ _) hr.units)) (pv 1) (pv 2) (nomark _)) (nomark _)))))) (pss_one (ps_ret pe_bl)) pss_nil)
      (pss_cons (ps_set (i := 5) sc_law_letters_right.nd rfl (.inl rfl) (pe_call (ok_law_take T) (hr.mono (by decide)) rfl T.m__law_take T.k__law_take T.b__law_take .nil pass0 (pa_cons (pv 0) (pa_cons pe_int pa_nil))))
      (pss_cons (ps_if (PW.pt (pw_or (pt_cmpR op_ne (pe_call (ok_normal_letter T) (hr.mono (by decide)) rfl T.m_normal_letter T.k_normal_letter T.b_normal_letter .nil JgH.passN (pa_cons (pv 5) pa_nil)) (pe_op op_addS pe_str (pe_callTy call_str_int (by rfl) T.z_str (by decide +kernel) (pa_cons (pv 5) pa_nil))) (nomark _)) (pw_or1 (pt_cmpR op_ne (pe_call (ok_normal_letter T) (hr.mono (by decide)) rfl T.m_normal_letter T.k_normal_letter T.b_normal_letter .nil JgH.passN (pa_cons (pv 5) pa_nil)) (pe_op op_addS pe_str (pe_callTy call_str_int (by rfl) T.z_str (by decide +kernel) (pa_cons (pv 5) pa_nil))) (nomark _))))) (pss_one (ps_ret pe_bl)) pss_nil)
      (pss_cons (ps_for PassesOwn.never rfl (pi_list (pe_lst (pa_cons (pe_bm0 PySem.F.plainAttrs_str PySem.F.slot_str_lower PySem.F.type_str_lower mt_lower (pe_call (ok_law_shown T) (hr.mono (by decide)) rfl T.m__law_shown T.k__law_shown T.b__law_shown .nil pass0 (pa_cons (pv 1) pa_nil))) (pa_cons (pe_op op_addS (pe_call (ok_law_shown T) (hr.mono (by decide)) rfl T.m__law_shown T.k__law_shown T.b__law_shown .nil pass0 (pa_cons (pv 1) pa_nil)) pe_str) (pa_cons pe_str (pa_cons pe_str (pa_cons pe_str (pa_cons pe_str (pa_cons pe_non (pa_cons pe_int (pa_cons (pe_lst (pa_cons pe_str pa_nil)) (pa_cons pe_bl pa_nil)))))))))))) (pg_name (i := 6) sc_law_letters_right.nd rfl (.inl rfl)) (pss_one (ps_if (pt_not (pt_val (pe_callG (ok_law_refused T) (hr.mono (by decide)) gua rfl T.m__law_refused T.k__law_refused T.b__law_refused .nil (pa_cons pe_int (pa_cons (pv 6) pa_nil))))) (pss_one (ps_ret pe_bl)) pss_nil)))
      (pss_cons (ps_for PassesOwn.never rfl (pi_list (pe_lst (pa_cons pe_int (pa_cons (pe_op op_sub pe_int pe_int) (pa_cons pe_bl (pa_cons pe_str (pa_cons pe_non (pa_cons (pe_lst (pa_cons (pv 5) pa_nil)) (pa_cons (pe_op op_pow pe_int pe_int) pa_nil))))))))) (pg_name (i := 6) sc_law_letters_right.nd rfl (.inl rfl)) (pss_one (ps_if (pt_not (pt_val (pe_callG (ok_law_refused T) (hr.mono (by decide)) gua rfl T.m__law_refused T.k__law_refused T.b__law_refused .nil (pa_cons pe_int (pa_cons (pv 6) pa_nil))))) (pss_one (ps_ret pe_bl)) pss_nil)))
      (pss_one (ps_ret pe_bl))))))))))), ?_⟩
    walk_at "go"
    refine ⟨p, n, rfl, by omega, B, fun l H1 c m e1 c0 c1 m0 m1 nl B1 M1 => ?_⟩
    walk_at "go"
    refine ⟨p, l, _, c, m, rfl, by omega, B1, e1, c0, c1, m0, m1, nl, fun l2 H2 d m2 e2 d0 d1 m20 m21 nl2 B2 M2 => ?_⟩
    have e12 := M2 l _ nl e1
    walk_at "go"
    refine s_par ?_
    walk_at "go"
    refine ⟨l, c, m, rfl, e12, m0, m1, fun H3 s3 => ?_⟩
    have F1 := shown_facts c0 c1 m0 m1
    have F2 := shown_facts d0 d1 m20 m21
    walk_at "go"
    refine ⟨_, some (shownL c m), rfl, ⟨rfl, F1.2.2.1.mono (by decide)⟩, fun z ez hz H4 q1 s4 hq1 eq1 => ?_, fun z => ?_⟩
    rotate_left
    · rw [show letterO (some (shownL c m)) = true from F1.1] at z
      cases z
    cases ez
    rw [F1.2.1] at eq1
    walk_at "go"
    refine ⟨l2, d, m2, rfl, s4 _ _ (s3 _ _ e2), m20, m21, fun H5 s5 => ?_⟩
    walk_at "go"
    refine ⟨_, some (shownL d m2), rfl, ⟨rfl, F2.2.2.1.mono (by decide)⟩, fun z ez hz2 H6 q2 s6 hq2 eq2 => ?_, fun z => ?_⟩
    rotate_left
    · rw [show letterO (some (shownL d m2)) = true from F2.1] at z
      cases z
    cases ez
    rw [F2.2.1] at eq2
    walk_at "go"
    refine ⟨_, _, rfl, ?_⟩
    walk_at "go"
    have t6a : H6 q1 = some (.tup (rankL c m)) := s6 _ _ (s5 _ _ eq1)
    have s16 : ∀ {a o}, H2 a = some o → H6 a = some o := fun h => s6 _ _ (s5 _ _ (s4 _ _ (s3 _ _ h)))
    have l6a := s16 e12
    have l6b := s16 e2
    refine g_isiE (b := true) (Isi.of (.base (.tup t6a)) (by decide +kernel)) ?_
    walk_at "go"
    refine g_isiE (b := true) (Isi.of (.base (.tup eq2)) (by decide +kernel)) ?_
    walk_at "go"
    have R12 := ranks_ahead (c := c) (d := d) m0 m20
    have R21 := ranks_ahead (c := d) (d := c) m20 m0
    refine g_ordT (Or.inl (Or.inl t6a)) (Or.inl (Or.inl eq2)) R12.1 ?_
    walk_at "go"
    refine g_ordT (xs := oneL c m) (ys := oneL d m2) (Or.inl (Or.inl l6a)) (Or.inl (Or.inl l6b)) R12.2.1 ?_
    rw [R12.2.2]
    walk_at "go"
    have E : PyData.eqv (.tuple (rankD c m)) (.tuple (rankD d m2)) = PyData.eqv (.tuple (oneD c m)) (.tuple (oneD d m2)) := eqv_rank m0 m20
    refine ⟨.tuple (rankD c m), .tuple (rankD d m2), .tup (Or.inl (Or.inl t6a)) (dp_rank c m).1, .tup (Or.inl (Or.inl eq2)) (dp_rank d m2).1, (shaped_rank c0 c1 m0 m1).1, (shaped_rank d0 d1 m20 m21).1, ?_⟩
    walk_at "go"
    refine ⟨.tuple (oneD c m), .tuple (oneD d m2), .tup (Or.inl (Or.inl l6a)) (dp_rank c m).2, .tup (Or.inl (Or.inl l6b)) (dp_rank d m2).2, (shaped_rank c0 c1 m0 m1).2, (shaped_rank d0 d1 m20 m21).2, ?_⟩
    rw [E]
    walk_at "go"
    refine g_ordT (Or.inl (Or.inl t6a)) (Or.inl (Or.inl eq2)) R12.1 ?_
    walk_at "go"
    refine g_ordT (xs := oneL c m) (ys := oneL d m2) (Or.inl (Or.inl l6a)) (Or.inl (Or.inl l6b)) R12.2.1 ?_
    rw [R21.2.2]
    walk_at "go"
    have B6 : Bg H6 p (n + 4 + 3) := by
      obtain ⟨x1, x2, x3, x4, x5⟩ := B2
      exact ⟨x1, x2, x3, s16 x4, x5⟩
    refine ⟨p, _, _, rfl, by decide, by decide, by omega, B6, fun k H7 k0 k1 B7 M7 => ?_⟩
    obtain ⟨k, rfl⟩ : ∃ i : Fin 100, k = ((i : Nat) : Int) := ⟨⟨k.toNat, by omega⟩, by show k = ((k.toNat : Nat) : Int); omega⟩
    obtain ⟨ks1, ks2, ks3⟩ := nums_small k
    have kw : wholeB 0 99 (some ((k : Nat) : Int)) = true := decide_eq_true ⟨k0, by omega⟩
    walk_at "go"
    refine ⟨_, some ((k : Nat) : Int), rfl, rfl, fun i ei _ => ?_, fun z => ?_⟩
    rotate_left
    · rw [kw] at z
      cases z
    cases ei
    walk_at "go"
    refine ⟨_, rfl, ks1, ?_⟩
    walk_at "go"
    refine g_addS (by rw [← strLen_append]; exact Nat.le_trans ks3 (by decide)) ?_
    walk_at "go"
    refine ⟨_, some ((k : Nat) : Int), rfl, rfl, fun i ei _ => ?_, fun z => ?_⟩
    rotate_left
    · rw [kw] at z
      cases z
    cases ei
    walk_at "go"
    refine ⟨_, rfl, ks1, ?_⟩
    walk_at "go"
    refine g_addS (by rw [← strLen_append]; exact Nat.le_trans ks3 (by decide)) ?_
    walk_at "go"
    have l7 := M7 l _ nl l6a
    refine g_BM0 ?_
    walk_at "go"
    refine ⟨l, c, m, rfl, l7, m0, m1, fun H8 s8 => ?_⟩
    walk_at "go"
    have LF := lower_facts c0 c1 m0 m1
    have BF := blank_facts c0 c1 m0 m1
    refine ⟨rfl, _, rfl, rfl, Nat.le_trans F1.2.2.1.1 (by decide), ?_⟩
    walk_at "go"
    have l8 := s8 _ _ l7
    refine ⟨l, c, m, rfl, l8, m0, m1, fun H9 s9 => ?_⟩
    walk_at "go"
    refine g_addS (by rw [← strLen_append]; exact Nat.le_trans BF.2.1 (by decide)) ?_
    walk_at "go"
    rename_i la hla L hL
    have S7 : Same H7 (upd (upd H9 la (.lst [V.str (Str.ofString "A")])) L _) := fun b o e => upd_keep (u := .lst [V.str (Txt.lower (shownL c m)), V.str (shownL c m ++ Str.ofString " "), V.str (Str.ofString "A00"), V.str (Str.ofString "A100"), V.str (Str.ofString "AB"), V.str (Str.ofString ""), V.non, V.int 7, V.ref la, V.bl true]) hL (upd_keep hla (s9 _ _ (s8 _ _ e)))
    have ela : upd (upd H9 la (.lst [V.str (Str.ofString "A")])) L (.lst [V.str (Txt.lower (shownL c m)), V.str (shownL c m ++ Str.ofString " "), V.str (Str.ofString "A00"), V.str (Str.ofString "A100"), V.str (Str.ofString "AB"), V.str (Str.ofString ""), V.non, V.int 7, V.ref la, V.bl true]) la = some (.lst [V.str (Str.ofString "A")]) := upd_keep hL upd_same
    refine for_it (n := 10) (walk_list (K := K) (a := L) (xs := [V.str (Txt.lower (shownL c m)), V.str (shownL c m ++ Str.ofString " "), V.str (Str.ofString "A00"), V.str (Str.ofString "A100"), V.str (Str.ofString "AB"), V.str (Str.ofString ""), V.non, V.int 7, V.ref la, V.bl true])) (fun j σ H' => ∃ w6, σ = [some (.ref p), some (.ref l), some (.ref l2), some (.ref q1), some (.ref q2), some (.int ((k : Nat) : Int)), w6] ∧ Same H7 H' ∧ H' la = some (.lst [V.str (Str.ofString "A")]) ∧ H' L = some (.lst [V.str (Txt.lower (shownL c m)), V.str (shownL c m ++ Str.ofString " "), V.str (Str.ofString "A00"), V.str (Str.ofString "A100"), V.str (Str.ofString "AB"), V.str (Str.ofString ""), V.non, V.int 7, V.ref la, V.bl true]))
      ⟨_, rfl, S7, ela, upd_same⟩ (fun _ _ _ _ h => by obtain ⟨_, _, _, _, h⟩ := h; exact Or.inl (Or.inl h)) ?_ ?_
    · rintro j x σ Hz H14 hj ⟨y6, rfl, s14, ea, eL⟩ ⟨rfl, hx⟩
      have mem := List.mem_of_getElem? hx
      have nx : NoLet K H14 x := by
        simp only [List.mem_cons, List.not_mem_nil, or_false] at mem
        rcases mem with rfl | rfl | rfl | rfl | rfl | rfl | rfl | rfl | rfl | rfl
        · exact nolet_str (LF.2.mono (by decide)) LF.1
        · exact nolet_str (BF.2.mono (by decide)) BF.1
        · exact nolet_str (Sg.of (by decide +kernel)) (by decide +kernel)
        · exact nolet_str (Sg.of (by decide +kernel)) (by decide +kernel)
        · exact nolet_str (Sg.of (by decide +kernel)) (by decide +kernel)
        · exact nolet_str (Sg.of (by decide +kernel)) (by decide +kernel)
        · exact nolet_non
        · exact nolet_int (by decide) (by decide +kernel)
        · exact nolet_lst (z := Str.ofString "A") (Sg.of (by decide +kernel)) ea
        · exact nolet_bl true
      walk_at "go"
      refine ⟨0, x, rfl, nx.1, Or.inl ⟨rfl, nx.2⟩, fun H15 s15 => ?_⟩
      walk_at "go"
      exact ⟨_, rfl, s14.trans s15, s15 _ _ ea, s15 _ _ eL⟩
    · rintro σ H14 ⟨y6, rfl, s14, ea, eL⟩
      walk_at "go"
      rename_i la2 hla2 L2 hL2
      have S8 : Same H7 (upd (upd H14 la2 (.lst [V.int ((k : Nat) : Int)])) L2 (.lst [V.int 100, V.int (0 - 1), V.bl true, V.str (Str.ofString "7"), V.non, V.ref la2, V.int (10 ^ Int.toNat 29)])) := fun b o e => upd_keep hL2 (upd_keep hla2 (s14 _ _ e))
      have ela2 : upd (upd H14 la2 (.lst [V.int ((k : Nat) : Int)])) L2 (.lst [V.int 100, V.int (0 - 1), V.bl true, V.str (Str.ofString "7"), V.non, V.ref la2, V.int (10 ^ Int.toNat 29)]) la2 = some (.lst [V.int ((k : Nat) : Int)]) := upd_keep hL2 upd_same
      refine for_it (n := 7) (walk_list (K := K) (a := L2) (xs := [V.int 100, V.int (0 - 1), V.bl true, V.str (Str.ofString "7"), V.non, V.ref la2, V.int (10 ^ Int.toNat 29)])) (fun j σ H' => ∃ w6, σ = [some (.ref p), some (.ref l), some (.ref l2), some (.ref q1), some (.ref q2), some (.int ((k : Nat) : Int)), w6] ∧ Same H7 H' ∧ H' la2 = some (.lst [V.int ((k : Nat) : Int)]) ∧ H' L2 = some (.lst [V.int 100, V.int (0 - 1), V.bl true, V.str (Str.ofString "7"), V.non, V.ref la2, V.int (10 ^ Int.toNat 29)]))
        ⟨_, rfl, S8, ela2, upd_same⟩ (fun _ _ _ _ h => by obtain ⟨_, _, _, _, h⟩ := h; exact Or.inl (Or.inl h)) ?_ ?_
      · rintro j x σ Hz H15 hj ⟨y6, rfl, s15, ea, eL⟩ ⟨rfl, hx⟩
        have mem := List.mem_of_getElem? hx
        have nx : NoNum K H15 x := by
          simp only [List.mem_cons, List.not_mem_nil, or_false] at mem
          rcases mem with rfl | rfl | rfl | rfl | rfl | rfl | rfl
          · exact nonum_int (by decide) (by decide +kernel) (by decide)
          · exact nonum_int (by decide) (by decide +kernel) (by decide)
          · exact nonum_bl true
          · exact nonum_str (Sg.of (by decide +kernel))
          · exact nonum_non
          · exact nonum_lst ks1 ks2 ea
          · exact nonum_int (by decide +kernel) (by decide +kernel) (by decide +kernel)
        walk_at "go"
        refine ⟨1, x, rfl, nx.1, Or.inr ⟨rfl, nx.2⟩, fun H16 s16 => ?_⟩
        walk_at "go"
        exact ⟨_, rfl, s15.trans s16, s16 _ _ ea, s16 _ _ eL⟩
      · rintro σ H15 ⟨y6, rfl, s15, ea, eL⟩
        walk_at "go"
        obtain ⟨x1, x2, x3, x4, x5⟩ := B7
        exact q _ (Bg.mono ⟨x1, x2, x3, s15 _ _ x4, x5⟩ (by omega)) (M1.trans (M2.trans (Mv.trans (fun b o _ e => s16 e) (M7.trans (fun b o _ e => s15 b o e)))))
end
section
variable {P : Program} {w : World} {K : PySem.W.Frag} {mg : Str → Option Value} {base : Heap} {f : Nat → Addr} {d : Nat → FuncData}
theorem ok_law_numbers_right (T : Txt P K mg f d) : FnOk P w K mg base CX0 5 (f 24) (d 24) ["_law_bag_here"] (sp_law_numbers_right K) := by
  refine T.F_law_numbers_right.ok sc_law_numbers_right (fun vs H Q E h => ?_) (fun cdv A outer s H vs Q E hr h => ?_)
  · obtain ⟨p, n, rfl, hn, B, q⟩ := h
    rfl
  · obtain ⟨p, n, rfl, hn, B, q⟩ := h
    obtain ⟨mv1, kb_high_low⟩ := kbHL T.F_number_in
    obtain ⟨mv2, kb_high⟩ := kbHigh T.F_number_in
    obtain ⟨mv3, kb_low⟩ := kbLow T.F_number_in
    obtain ⟨mv4, kb_thing⟩ := kbThing T.F_number_in
    refine ⟨_, (pss_cons (ps_set (i := 1) sc_law_numbers_right.nd rfl (.inl rfl) (pe_ix (ix_listV (K := K)) (pe_lst (pa_cons pe_int (pa_cons (pe_call (ok_law_take T) (hr.mono (by decide)) rfl T.m__law_take T.k__law_take T.b__law_take .nil pass0 (pa_cons (pv 0) (pa_cons (pe_op op_sub (pe_op op_pow pe_int pe_int) pe_int) pa_nil))) (pa_cons (pe_call (ok_law_take T) (hr.mono (by decide)) rfl T.m__law_take T.k__law_take T.b__law_take .nil pass0 (pa_cons (pv 0) (pa_cons pe_int pa_nil))) (pa_cons (pe_call (ok_law_take T) (hr.mono (by decide)) rfl T.m__law_take T.k__law_take T.b__law_take .nil pass0 (pa_cons (pv 0) (pa_cons pe_int pa_nil))) pa_nil))))) (pe_call (ok_law_take T) (hr.mono (by decide)) rfl T.m__law_take T.k__law_take T.b__law_take .nil pass0 (pa_cons (pv 0) (pa_cons pe_int pa_nil))) (fun _ _ => rfl)))
      (pss_cons (ps_set (i := 2) sc_law_numbers_right.nd rfl (.inl rfl) (pe_ix (ix_listV (K := K)) (pe_lst (pa_cons (pe_call (ok_law_spoilt T) (hr.mono (by decide)) rfl T.m__law_spoilt T.k__law_spoilt T.b__law_spoilt .nil pass0 (pa_cons (pv 0) (pa_cons (pe_callTy call_str_int (by rfl) T.z_str (by decide +kernel) (pa_cons (pv 1) pa_nil)) pa_nil))) (pa_cons (pe_call (ok_law_any T) (hr.mono (by decide)) rfl T.m__law_any T.k__law_any T.b__law_any .nil pass0 (pa_cons (pv 0) pa_nil)) pa_nil))) (pe_callTy call_intV (by rfl) T.z_int (by decide +kernel) (pa_cons (pe_cmpR op_eq (pe_call (ok_law_take T) (hr.mono (by decide)) rfl T.m__law_take T.k__law_take T.b__law_take .nil pass0 (pa_cons (pv 0) (pa_cons pe_int pa_nil))) pe_int (nomark _)) pa_nil)) (fun _ _ => rfl)))
      (pss_cons (ps_set (i := 3) sc_law_numbers_right.nd rfl (.inl rfl) (pe_ix (ix_listV (K := K)) (pe_lst (pa_cons pe_int (pa_cons (pe_op op_add (pe_op op_sub (pv 1) pe_int) (pe_call (ok_law_take T) (hr.mono (by decide)) rfl T.m__law_take T.k__law_take T.b__law_take .nil pass0 (pa_cons (pv 0) (pa_cons pe_int pa_nil)))) (pa_cons (pe_op op_sub pe_int (pe_op op_pow pe_int pe_int)) pa_nil)))) (pe_call (ok_law_take T) (hr.mono (by decide)) rfl T.m__law_take T.k__law_take T.b__law_take .nil pass0 (pa_cons (pv 0) (pa_cons pe_int pa_nil))) (fun _ _ => rfl)))
      (pss_cons (ps_set (i := 4) sc_law_numbers_right.nd rfl (.inl rfl) (pe_ix (ix_listV (K := K)) (pe_lst (pa_cons pe_int (pa_cons (pe_op op_add (pe_op op_sub (pv 1) pe_int) (pe_call (ok_law_take T) (hr.mono (by decide)) rfl T.m__law_take T.k__law_take T.b__law_take .nil pass0 (pa_cons (pv 0) (pa_cons pe_int pa_nil)))) (pa_cons (pe_op op_sub (pe_op op_pow pe_int pe_int) pe_int) pa_nil)))) (pe_call (ok_law_take T) (hr.mono (by decide)) rfl T.m__law_take T.k__law_take T.b__law_take .nil pass0 (pa_cons (pv 0) (pa_cons pe_int pa_nil))) (fun _ _ => rfl)))
      (pss_cons (ps_for PassesOwn.never rfl (pi_range1 (by rfl) T.z_range (pa_cons pe_int pa_nil)) (pg_name (i := 5) sc_law_numbers_right.nd rfl (.inl rfl)) (pss_cons (ps_if (pt_not (pt_val (pe_call (ok_law_same T) (hr.mono (by decide)) rfl T.m__law_same T.k__law_same T.b__law_same .nil pass0 (pa_cons (pe_callN (ok_number_in T) (hr.mono (by decide)) rfl T.m_number_in T.k_number_in kb_high_low pass0 (pa_cons (pv 2) pa_nil) (pk_cons (pv 4) (pk_cons (pv 3) pk_nil))) (pa_cons (pe_call (ok_law_number_of T) (hr.mono (by decide)) rfl T.m__law_number_of T.k__law_number_of T.b__law_number_of .nil pass0 (pa_cons (pv 2) (pa_cons (pv 3) (pa_cons (pv 4) pa_nil)))) pa_nil))))) (pss_one (ps_ret pe_bl)) pss_nil)
      (pss_cons (ps_if (pt_not (pt_val (pe_call (ok_law_same T) (hr.mono (by decide)) rfl T.m__law_same T.k__law_same T.b__law_same .nil pass0 (pa_cons (pe_callN (ok_number_in T) (hr.mono (by decide)) rfl T.m_number_in T.k_number_in kb_high pass0 (pa_cons (pv 2) pa_nil) (pk_cons (pv 4) pk_nil)) (pa_cons (pe_call (ok_law_number_of T) (hr.mono (by decide)) rfl T.m__law_number_of T.k__law_number_of T.b__law_number_of .nil pass0 (pa_cons (pv 2) (pa_cons pe_int (pa_cons (pv 4) pa_nil)))) pa_nil))))) (pss_one (ps_ret pe_bl)) pss_nil)
      (pss_cons (ps_if (pt_not (pt_val (pe_call (ok_law_same T) (hr.mono (by decide)) rfl T.m__law_same T.k__law_same T.b__law_same .nil pass0 (pa_cons (pe_callN (ok_number_in T) (hr.mono (by decide)) rfl T.m_number_in T.k_number_in kb_low pass0 (pa_cons (pv 2) pa_nil) (pk_cons (pv 3) pk_nil)) (pa_cons (pe_call (ok_law_number_of T) (hr.mono (by decide)) rfl T.m__law_number_of T.k__law_number_of T.b__law_number_of .nil pass0 (pa_cons (pv 2) (pa_cons (pv 3) (pa_cons pe_int pa_nil)))) pa_nil))))) (pss_one (ps_ret pe_bl)) pss_nil)
      (pss_one (ps_if (PW.pt (pw_or (pt_not (pt_val (pe_call (ok_law_same T) (hr.mono (by decide)) rfl T.m__law_same T.k__law_same T.b__law_same .nil pass0 (pa_cons (pe_callN0 (ok_number_in T) (hr.mono (by decide)) rfl T.m_number_in T.k_number_in kb_thing pass0 (pk_cons (pv 2) pk_nil)) (pa_cons (pe_call (ok_law_number_of T) (hr.mono (by decide)) rfl T.m__law_number_of T.k__law_number_of T.b__law_number_of .nil pass0 (pa_cons (pv 2) (pa_cons pe_int (pa_cons (pe_globI rfl T.c_MOST_PLAIN) pa_nil)))) pa_nil))))) (pw_or1 (pt_cmpR op_ne (pe_globI rfl T.c_MOST_PLAIN) pe_int (nomark _))))) (pss_one (ps_ret pe_bl)) pss_nil))))))
      (pss_one (ps_ret pe_bl))))))), ?_⟩
    have e30 : (10 : Int) ^ Int.toNat 30 = 1000000000000000000000000000000 := by decide +kernel
    walk_at "go"
    refine ⟨p, _, _, rfl, by decide, by decide, by omega, B, fun z1 H1 z10 z11 B1 M1 => ?_⟩
    walk_at "go"
    refine ⟨p, _, _, rfl, by decide, by decide, by omega, B1, fun z2 H2 z20 z21 B2 M2 => ?_⟩
    walk_at "go"
    refine ⟨p, _, _, rfl, by decide, by decide, by omega, B2, fun z3 H3 z30 z31 B3 M3 => ?_⟩
    walk_at "go"
    rename_i l0 hl0
    have nl0 := B3.ne hl0
    refine ⟨p, _, _, rfl, by decide, by decide, by omega, B3.new hl0, fun z4 H4 z40 z41 B4 M4 => ?_⟩
    walk_at "go"
    obtain ⟨v, hv, ix⟩ := ix_draw (K := K) (M4 l0 _ nl0 upd_same) z40 z41 rfl
    refine ix _ ?_
    rw [e30] at z11
    obtain ⟨m, rfl, m0, m1⟩ : ∃ m : Int, v = .int m ∧ 0 ≤ m ∧ m ≤ 1000000000000000000000000000000 := by
      simp only [List.mem_cons, List.not_mem_nil, or_false] at hv
      rcases hv with rfl | rfl | rfl | rfl
      · exact ⟨_, rfl, by decide, by decide⟩
      · exact ⟨_, rfl, z10, by omega⟩
      · exact ⟨_, rfl, z20, by omega⟩
      · exact ⟨_, rfl, z30, by omega⟩
    clear hv ix
    have M04 : Mv p H H4 := M1.trans (M2.trans (M3.trans ((Mv.new hl0).trans M4)))
    walk_at "go"
    refine ⟨_, rfl, log_int m0 m1, ?_⟩
    walk_at "go"
    refine ⟨p, _, _, 40, rfl, by omega, B4, sg_int m0 m1, by decide, fun y H5 hy B5 M5 => ?_⟩
    walk_at "go"
    refine ⟨p, _, rfl, by omega, B5, fun va H6 ho hne B6 M6 => ?_⟩
    walk_at "go"
    rename_i l1 hl1
    have nl1 := B6.ne hl1
    refine ⟨p, _, _, rfl, by decide, by decide, by omega, B6.new hl1, fun z6 H7 z60 z61 B7 M7 => ?_⟩
    walk_at "go"
    have hk : 0 ≤ (if decide (V.int z6 = V.int 0) = true then (1 : Int) else 0) ∧ (if decide (V.int z6 = V.int 0) = true then (1 : Int) else 0) < 2 := by split <;> decide
    obtain ⟨v, hv, ix⟩ := ix_draw (K := K) (M7 l1 _ nl1 upd_same) hk.1 hk.2 rfl
    refine ix _ ?_
    have M67 : Mv p H6 H7 := (Mv.new hl1).trans M7
    obtain ⟨o, hvo, hvn⟩ : ∃ o, IsT H7 v o ∧ ∀ q, v = .ref q → q ≠ p := by
      simp only [List.mem_cons, List.not_mem_nil, or_false] at hv
      rcases hv with rfl | rfl
      · exact ⟨some y, ⟨rfl, hy.mono (by decide)⟩, fun q e => by cases e⟩
      · obtain ⟨o, ho⟩ := ho
        exact ⟨o, ho.mv hne M67, hne⟩
    clear hv ix
    have M07 : Mv p H H7 := M04.trans (M5.trans (M6.trans M67))
    walk_at "go"
    refine ⟨p, _, _, rfl, by decide, by decide, by omega, B7, fun tx H8 tx0 tx1 Bxa Mxa => ?_⟩
    walk_at "go"
    rename_i lx hlx
    have nlx := Bxa.ne hlx
    refine ⟨p, _, _, rfl, by decide, by decide, by omega, Bxa.new hlx, fun cx H9 cx0 cx1 Bxb Mxb => ?_⟩
    walk_at "go"
    obtain ⟨vx, hvx, ixx⟩ := ix_draw (K := K) (Mxb lx _ nlx upd_same) cx0 cx1 rfl
    refine ixx _ ?_
    obtain ⟨lo, rfl⟩ : ∃ i : Int, vx = .int i := by
      simp only [List.mem_cons, List.not_mem_nil, or_false] at hvx
      rcases hvx with rfl | rfl | rfl
      · exact ⟨_, rfl⟩
      · exact ⟨_, rfl⟩
      · exact ⟨_, rfl⟩
    clear hvx ixx
    have Nx : Mv p H7 H9 := Mxa.trans ((Mv.new hlx).trans Mxb)
    walk_at "go"
    refine ⟨p, _, _, rfl, by decide, by decide, by omega, Bxb, fun ty HA ty0 ty1 Bya Mya => ?_⟩
    walk_at "go"
    rename_i ly hly
    have nly := Bya.ne hly
    refine ⟨p, _, _, rfl, by decide, by decide, by omega, Bya.new hly, fun cy HB cy0 cy1 Byb Myb => ?_⟩
    walk_at "go"
    obtain ⟨vy, hvy, ixy⟩ := ix_draw (K := K) (Myb ly _ nly upd_same) cy0 cy1 rfl
    refine ixy _ ?_
    obtain ⟨hi, rfl⟩ : ∃ i : Int, vy = .int i := by
      simp only [List.mem_cons, List.not_mem_nil, or_false] at hvy
      rcases hvy with rfl | rfl | rfl
      · exact ⟨_, rfl⟩
      · exact ⟨_, rfl⟩
      · exact ⟨_, rfl⟩
    clear hvy ixy
    have Ny : Mv p H9 HB := Mya.trans ((Mv.new hly).trans Myb)
    walk_at "go"
    have M0B : Mv p H HB := M07.trans (Nx.trans Ny)
    have hvB : IsT HB v o := hvo.mv hvn (Nx.trans Ny)
    refine for_it (n := _) walk_range (fun _ σ H' => ∃ w5, σ = [some (.ref p), some (.int m), some v, some (.int lo), some (.int hi), w5] ∧ Same HB H')
      ⟨_, rfl, Same.refl _⟩ (fun _ _ _ _ _ => trivial) ?_ ?_
    · rintro i x5 σ H8 H8' hi8 ⟨w5, rfl, s8⟩ ⟨rfl, rfl⟩
      walk_at "go"
      refine ⟨rfl, rfl, v, o, lo, hi, rfl, (hvB.same s8).iss, fun T0a u0a => ?_⟩
      walk_at "go"
      have w0a := s8.trans u0a
      refine ⟨v, o, lo, hi, rfl, (hvB.same w0a).iss, fun T0b u0b => ?_⟩
      walk_at "go"
      have w0b := w0a.trans u0b
      refine ⟨_, _, rfl, ?_⟩
      rw [decide_eq_true rfl]
      walk_at "go"
      refine ⟨rfl, rfl, v, o, 0, hi, rfl, (hvB.same w0b).iss, fun T1a u1a => ?_⟩
      walk_at "go"
      have w1a := w0b.trans u1a
      refine ⟨v, o, 0, hi, rfl, (hvB.same w1a).iss, fun T1b u1b => ?_⟩
      walk_at "go"
      have w1b := w1a.trans u1b
      refine ⟨_, _, rfl, ?_⟩
      rw [decide_eq_true rfl]
      walk_at "go"
      refine ⟨rfl, rfl, v, o, lo, 9999, rfl, (hvB.same w1b).iss, fun T2a u2a => ?_⟩
      walk_at "go"
      have w2a := w1b.trans u2a
      refine ⟨v, o, lo, 9999, rfl, (hvB.same w2a).iss, fun T2b u2b => ?_⟩
      walk_at "go"
      have w2b := w2a.trans u2b
      refine ⟨_, _, rfl, ?_⟩
      rw [decide_eq_true rfl]
      walk_at "go"
      refine ⟨rfl, rfl, v, o, 0, 9999, rfl, (hvB.same w2b).iss, fun T3a u3a => ?_⟩
      walk_at "go"
      have w3a := w2b.trans u3a
      refine ⟨v, o, 0, 9999, rfl, (hvB.same w3a).iss, fun T3b u3b => ?_⟩
      walk_at "go"
      have w3b := w3a.trans u3b
      refine ⟨_, _, rfl, ?_⟩
      rw [decide_eq_true rfl]
      walk_at "go"
      exact ⟨_, rfl, w3b⟩
    · rintro σ H8 ⟨w5, rfl, s8⟩
      walk_at "go"
      obtain ⟨a1, a2, a3, a4, a5⟩ := Byb
      exact q _ (Bg.mono ⟨a1, a2, a3, s8 _ _ a4, a5⟩ (by omega)) (M0B.trans (fun b o _ e => s8 b o e))
end
section
variable {P : Program} {w : World} {K : PySem.W.Frag} {mg : Str → Option Value} {base : Heap} {f : Nat → Addr} {d : Nat → FuncData}
theorem ok_law (T : Txt P K mg f d) : FnG P w K mg base 7 (f 25) (d 25) ["_law_script"] (sp_law K) := by
  refine fnG_of T.F_law sc_law (fun vs H Q E h => ?_) (fun cdv A outer s H vs Q E hr gua h => ?_)
  · obtain ⟨a, ns, rfl, hS, hlen, q⟩ := h
    rfl
  · obtain ⟨a, ns, rfl, hS, hlen, q⟩ := h
    refine ⟨_, (pss_cons (ps_for PassesOwn.never rfl (pi_range1 (by rfl) T.z_range (pa_cons (pe_callB (call_maxV rfl) (by rfl) T.z_max (by decide +kernel) (pa_cons pe_int (pa_cons (pe_callB (call_minV rfl) (by rfl) T.z_min (by decide +kernel) (pa_cons pe_int (pa_cons (pe_callB (call_lenV (K := K)) (by rfl) T.z_len (by decide +kernel) (pa_cons (pv 0) pa_nil)) pa_nil))) pa_nil))) pa_nil)) (pg_name (i := 1) sc_law.nd rfl (.inl rfl)) (pss_cons (ps_set (i := 2) sc_law.nd rfl (.inl rfl) (pe_call (ok_law_bag T) (hr.mono (by decide)) rfl T.m__law_bag T.k__law_bag T.b__law_bag .nil pass0 (pa_cons (pe_call (ok_law_cell T) (hr.mono (by decide)) rfl T.m__law_cell T.k__law_cell T.b__law_cell .nil pass0 (pa_cons (pv 0) (pa_cons (pv 1) pa_nil))) pa_nil)))
      (pss_one (ps_if (PW.pt (pw_or (pt_not (pt_val (pe_callG (ok_law_letters_right T) (hr.mono (by decide)) gua rfl T.m__law_letters_right T.k__law_letters_right T.b__law_letters_right .nil (pa_cons (pv 2) pa_nil)))) (pw_or1 (pt_not (pt_val (pe_call (ok_law_numbers_right T) (hr.mono (by decide)) rfl T.m__law_numbers_right T.k__law_numbers_right T.b__law_numbers_right .nil pass0 (pa_cons (pv 2) pa_nil))))))) (pss_one (ps_ret pe_bl)) pss_nil))))
      (pss_one (ps_ret pe_bl))), ?_⟩
    walk_at "go"
    refine for_it (n := _) walk_range (fun i σ H' => ∃ v1 v2, σ = [some (.ref a), v1, v2] ∧ SqL K H' a (ns.map V.int))
      ⟨none, none, rfl, hS⟩ (fun _ _ _ _ _ => trivial) ?_ ?_
    · rintro i x σ H1 H2 hi ⟨v1, v2, rfl, hS1⟩ ⟨rfl, rfl⟩
      have hi' : i ≤ 63 := by
        revert hi
        split <;> split <;> omega
      walk_at "go"
      refine ⟨a, ns, i, by simp, hS1, hi', fun z => ?_⟩
      walk_at "go"
      refine ⟨z, rfl, fun p H3 hp s3 B3 => ?_⟩
      walk_at "go"
      refine ⟨p, 0, rfl, by decide, B3, fun H4 B4 M4 => ?_⟩
      walk_at "go"
      refine ⟨p, _, rfl, by decide, B4, fun H5 B5 M5 => ?_⟩
      walk_at "go"
      exact ⟨_, _, rfl, sq_same (fun b o e => M5 b o (ne_of_none e hp) (M4 b o (ne_of_none e hp) (s3 b o e))) hS1⟩
    · rintro σ H1 ⟨v1, v2, rfl, hS1⟩
      walk_at "go"
      exact q _
end
theorem all_mk {l : PySem.W.OpenLaw} {w : World} {K : PySem.W.Frag} {h : Heap} {mg : Str → Option Value} {fa f0 f1 f2 f3 f4 f5 f6 f7 f8 f9 f10 f11 f12 f13 f14 f15 f16 f17 f18 f19 f20 f21 f22 f23 f24 f25 : Addr} (X : K.In h) (G : h.Ns mainGlobals mg) (hfa : mg "law" = some (.ref fa))
    {od0 an0 : Option Addr} {sl0 : Array (Option Value)} {oc0 kV0 dc0 pm0 cd0 ct0 : Value}
    (a0 : PySem.W.nsIn K mainGlobals "_law_cell" = some (some (.ref f0))) (l0 : K.lookup f0 = some ⟨oc0, od0, .func (PySem.W.fnOf "_law_cell" "_law_cell" (defArgs s_law_cell) (defBody s_law_cell) (defScope s_law_cell) .none kV0 dc0 pm0 an0 cd0 ct0), sl0⟩) (c0 : PySem.W.codeIn K cd0 "_law_cell" = true) (k0 : PySem.W.keepIn K (.ref f0) = true)
    {od1 an1 : Option Addr} {sl1 : Array (Option Value)} {oc1 kV1 dc1 pm1 cd1 ct1 : Value}
    (a1 : PySem.W.nsIn K mainGlobals "_law_bag" = some (some (.ref f1))) (l1 : K.lookup f1 = some ⟨oc1, od1, .func (PySem.W.fnOf "_law_bag" "_law_bag" (defArgs s_law_bag) (defBody s_law_bag) (defScope s_law_bag) .none kV1 dc1 pm1 an1 cd1 ct1), sl1⟩) (c1 : PySem.W.codeIn K cd1 "_law_bag" = true) (k1 : PySem.W.keepIn K (.ref f1) = true)
    {od2 an2 : Option Addr} {sl2 : Array (Option Value)} {oc2 kV2 dc2 pm2 cd2 ct2 : Value}
    (a2 : PySem.W.nsIn K mainGlobals "_law_take" = some (some (.ref f2))) (l2 : K.lookup f2 = some ⟨oc2, od2, .func (PySem.W.fnOf "_law_take" "_law_take" (defArgs s_law_take) (defBody s_law_take) (defScope s_law_take) .none kV2 dc2 pm2 an2 cd2 ct2), sl2⟩) (c2 : PySem.W.codeIn K cd2 "_law_take" = true) (k2 : PySem.W.keepIn K (.ref f2) = true)
    {od3 an3 : Option Addr} {sl3 : Array (Option Value)} {oc3 kV3 dc3 pm3 cd3 ct3 : Value}
    (a3 : PySem.W.nsIn K mainGlobals "_law_any" = some (some (.ref f3))) (l3 : K.lookup f3 = some ⟨oc3, od3, .func (PySem.W.fnOf "_law_any" "_law_any" (defArgs s_law_any) (defBody s_law_any) (defScope s_law_any) .none kV3 dc3 pm3 an3 cd3 ct3), sl3⟩) (c3 : PySem.W.codeIn K cd3 "_law_any" = true) (k3 : PySem.W.keepIn K (.ref f3) = true)
    {od4 an4 : Option Addr} {sl4 : Array (Option Value)} {oc4 kV4 dc4 pm4 cd4 ct4 : Value}
    (a4 : PySem.W.nsIn K mainGlobals "is_whole" = some (some (.ref f4))) (l4 : K.lookup f4 = some ⟨oc4, od4, .func (PySem.W.fnOf "is_whole" "is_whole" (defArgs s_is_whole) (defBody s_is_whole) (defScope s_is_whole) .none kV4 dc4 pm4 an4 cd4 ct4), sl4⟩) (c4 : PySem.W.codeIn K cd4 "is_whole" = true) (k4 : PySem.W.keepIn K (.ref f4) = true)
    {od5 an5 : Option Addr} {sl5 : Array (Option Value)} {oc5 kV5 dc5 pm5 cd5 ct5 : Value}
    (a5 : PySem.W.nsIn K mainGlobals "_consists_of" = some (some (.ref f5))) (l5 : K.lookup f5 = some ⟨oc5, od5, .func (PySem.W.fnOf "_consists_of" "_consists_of" (defArgs s_consists_of) (defBody s_consists_of) (defScope s_consists_of) .none kV5 dc5 pm5 an5 cd5 ct5), sl5⟩) (c5 : PySem.W.codeIn K cd5 "_consists_of" = true) (k5 : PySem.W.keepIn K (.ref f5) = true)
    {od6 an6 : Option Addr} {sl6 : Array (Option Value)} {oc6 kV6 dc6 pm6 cd6 ct6 : Value}
    (a6 : PySem.W.nsIn K mainGlobals "_is_figures" = some (some (.ref f6))) (l6 : K.lookup f6 = some ⟨oc6, od6, .func (PySem.W.fnOf "_is_figures" "_is_figures" (defArgs s_is_figures) (defBody s_is_figures) (defScope s_is_figures) .none kV6 dc6 pm6 an6 cd6 ct6), sl6⟩) (c6 : PySem.W.codeIn K cd6 "_is_figures" = true) (k6 : PySem.W.keepIn K (.ref f6) = true)
    {od7 an7 : Option Addr} {sl7 : Array (Option Value)} {oc7 kV7 dc7 pm7 cd7 ct7 : Value}
    (a7 : PySem.W.nsIn K mainGlobals "_is_plain" = some (some (.ref f7))) (l7 : K.lookup f7 = some ⟨oc7, od7, .func (PySem.W.fnOf "_is_plain" "_is_plain" (defArgs s_is_plain) (defBody s_is_plain) (defScope s_is_plain) .none kV7 dc7 pm7 an7 cd7 ct7), sl7⟩) (c7 : PySem.W.codeIn K cd7 "_is_plain" = true) (k7 : PySem.W.keepIn K (.ref f7) = true)
    {od8 an8 : Option Addr} {sl8 : Array (Option Value)} {oc8 dc8 pm8 cd8 ct8 : Value} {kw8 : Addr}
    (a8 : PySem.W.nsIn K mainGlobals "number_in" = some (some (.ref f8))) (l8 : K.lookup f8 = some ⟨oc8, od8, .func (PySem.W.fnOf "number_in" "number_in" (defArgs s_number_in) (defBody s_number_in) (defScope s_number_in) .none (.ref kw8) dc8 pm8 an8 cd8 ct8), sl8⟩) (c8 : PySem.W.codeIn K cd8 "number_in" = true) (k8 : PySem.W.keepIn K (.ref f8) = true)
    {od9 an9 : Option Addr} {sl9 : Array (Option Value)} {oc9 kV9 dc9 pm9 cd9 ct9 : Value}
    (a9 : PySem.W.nsIn K mainGlobals "is_letter" = some (some (.ref f9))) (l9 : K.lookup f9 = some ⟨oc9, od9, .func (PySem.W.fnOf "is_letter" "is_letter" (defArgs s_is_letter) (defBody s_is_letter) (defScope s_is_letter) .none kV9 dc9 pm9 an9 cd9 ct9), sl9⟩) (c9 : PySem.W.codeIn K cd9 "is_letter" = true) (k9 : PySem.W.keepIn K (.ref f9) = true)
    {od10 an10 : Option Addr} {sl10 : Array (Option Value)} {oc10 kV10 dc10 pm10 cd10 ct10 : Value}
    (a10 : PySem.W.nsIn K mainGlobals "normal_letter" = some (some (.ref f10))) (l10 : K.lookup f10 = some ⟨oc10, od10, .func (PySem.W.fnOf "normal_letter" "normal_letter" (defArgs s_normal_letter) (defBody s_normal_letter) (defScope s_normal_letter) .none kV10 dc10 pm10 an10 cd10 ct10), sl10⟩) (c10 : PySem.W.codeIn K cd10 "normal_letter" = true) (k10 : PySem.W.keepIn K (.ref f10) = true)
    {od11 an11 : Option Addr} {sl11 : Array (Option Value)} {oc11 kV11 dc11 pm11 cd11 ct11 : Value}
    (a11 : PySem.W.nsIn K mainGlobals "rank_among_letters" = some (some (.ref f11))) (l11 : K.lookup f11 = some ⟨oc11, od11, .func (PySem.W.fnOf "rank_among_letters" "rank_among_letters" (defArgs s_rank_among_letters) (defBody s_rank_among_letters) (defScope s_rank_among_letters) .none kV11 dc11 pm11 an11 cd11 ct11), sl11⟩) (c11 : PySem.W.codeIn K cd11 "rank_among_letters" = true) (k11 : PySem.W.keepIn K (.ref f11) = true)
    {od12 an12 : Option Addr} {sl12 : Array (Option Value)} {oc12 kV12 dc12 pm12 cd12 ct12 : Value}
    (a12 : PySem.W.nsIn K mainGlobals "letter_rank" = some (some (.ref f12))) (l12 : K.lookup f12 = some ⟨oc12, od12, .func (PySem.W.fnOf "letter_rank" "letter_rank" (defArgs s_letter_rank) (defBody s_letter_rank) (defScope s_letter_rank) .none kV12 dc12 pm12 an12 cd12 ct12), sl12⟩) (c12 : PySem.W.codeIn K cd12 "letter_rank" = true) (k12 : PySem.W.keepIn K (.ref f12) = true)
    {od13 an13 : Option Addr} {sl13 : Array (Option Value)} {oc13 kV13 dc13 pm13 cd13 ct13 : Value}
    (a13 : PySem.W.nsIn K mainGlobals "_law_whole" = some (some (.ref f13))) (l13 : K.lookup f13 = some ⟨oc13, od13, .func (PySem.W.fnOf "_law_whole" "_law_whole" (defArgs s_law_whole) (defBody s_law_whole) (defScope s_law_whole) .none kV13 dc13 pm13 an13 cd13 ct13), sl13⟩) (c13 : PySem.W.codeIn K cd13 "_law_whole" = true) (k13 : PySem.W.keepIn K (.ref f13) = true)
    {od14 an14 : Option Addr} {sl14 : Array (Option Value)} {oc14 kV14 dc14 pm14 cd14 ct14 : Value}
    (a14 : PySem.W.nsIn K mainGlobals "_law_same" = some (some (.ref f14))) (l14 : K.lookup f14 = some ⟨oc14, od14, .func (PySem.W.fnOf "_law_same" "_law_same" (defArgs s_law_same) (defBody s_law_same) (defScope s_law_same) .none kV14 dc14 pm14 an14 cd14 ct14), sl14⟩) (c14 : PySem.W.codeIn K cd14 "_law_same" = true) (k14 : PySem.W.keepIn K (.ref f14) = true)
    {od15 an15 : Option Addr} {sl15 : Array (Option Value)} {oc15 kV15 dc15 pm15 cd15 ct15 : Value}
    (a15 : PySem.W.nsIn K mainGlobals "_law_number_of" = some (some (.ref f15))) (l15 : K.lookup f15 = some ⟨oc15, od15, .func (PySem.W.fnOf "_law_number_of" "_law_number_of" (defArgs s_law_number_of) (defBody s_law_number_of) (defScope s_law_number_of) .none kV15 dc15 pm15 an15 cd15 ct15), sl15⟩) (c15 : PySem.W.codeIn K cd15 "_law_number_of" = true) (k15 : PySem.W.keepIn K (.ref f15) = true)
    {od16 an16 : Option Addr} {sl16 : Array (Option Value)} {oc16 kV16 dc16 pm16 cd16 ct16 : Value}
    (a16 : PySem.W.nsIn K mainGlobals "_law_spoilt" = some (some (.ref f16))) (l16 : K.lookup f16 = some ⟨oc16, od16, .func (PySem.W.fnOf "_law_spoilt" "_law_spoilt" (defArgs s_law_spoilt) (defBody s_law_spoilt) (defScope s_law_spoilt) .none kV16 dc16 pm16 an16 cd16 ct16), sl16⟩) (c16 : PySem.W.codeIn K cd16 "_law_spoilt" = true) (k16 : PySem.W.keepIn K (.ref f16) = true)
    {od17 an17 : Option Addr} {sl17 : Array (Option Value)} {oc17 kV17 dc17 pm17 cd17 ct17 : Value}
    (a17 : PySem.W.nsIn K mainGlobals "_law_shown" = some (some (.ref f17))) (l17 : K.lookup f17 = some ⟨oc17, od17, .func (PySem.W.fnOf "_law_shown" "_law_shown" (defArgs s_law_shown) (defBody s_law_shown) (defScope s_law_shown) .none kV17 dc17 pm17 an17 cd17 ct17), sl17⟩) (c17 : PySem.W.codeIn K cd17 "_law_shown" = true) (k17 : PySem.W.keepIn K (.ref f17) = true)
    {od18 an18 : Option Addr} {sl18 : Array (Option Value)} {oc18 kV18 dc18 pm18 cd18 ct18 : Value}
    (a18 : PySem.W.nsIn K mainGlobals "_law_letter" = some (some (.ref f18))) (l18 : K.lookup f18 = some ⟨oc18, od18, .func (PySem.W.fnOf "_law_letter" "_law_letter" (defArgs s_law_letter) (defBody s_law_letter) (defScope s_law_letter) .none kV18 dc18 pm18 an18 cd18 ct18), sl18⟩) (c18 : PySem.W.codeIn K cd18 "_law_letter" = true) (k18 : PySem.W.keepIn K (.ref f18) = true)
    {od19 an19 : Option Addr} {sl19 : Array (Option Value)} {oc19 kV19 dc19 pm19 cd19 ct19 : Value}
    (a19 : PySem.W.nsIn K mainGlobals "_law_near" = some (some (.ref f19))) (l19 : K.lookup f19 = some ⟨oc19, od19, .func (PySem.W.fnOf "_law_near" "_law_near" (defArgs s_law_near) (defBody s_law_near) (defScope s_law_near) .none kV19 dc19 pm19 an19 cd19 ct19), sl19⟩) (c19 : PySem.W.codeIn K cd19 "_law_near" = true) (k19 : PySem.W.keepIn K (.ref f19) = true)
    {od20 an20 : Option Addr} {sl20 : Array (Option Value)} {oc20 kV20 dc20 pm20 cd20 ct20 : Value}
    (a20 : PySem.W.nsIn K mainGlobals "_law_very" = some (some (.ref f20))) (l20 : K.lookup f20 = some ⟨oc20, od20, .func (PySem.W.fnOf "_law_very" "_law_very" (defArgs s_law_very) (defBody s_law_very) (defScope s_law_very) .none kV20 dc20 pm20 an20 cd20 ct20), sl20⟩) (c20 : PySem.W.codeIn K cd20 "_law_very" = true) (k20 : PySem.W.keepIn K (.ref f20) = true)
    {od21 an21 : Option Addr} {sl21 : Array (Option Value)} {oc21 kV21 dc21 pm21 cd21 ct21 : Value}
    (a21 : PySem.W.nsIn K mainGlobals "_law_kind" = some (some (.ref f21))) (l21 : K.lookup f21 = some ⟨oc21, od21, .func (PySem.W.fnOf "_law_kind" "_law_kind" (defArgs s_law_kind) (defBody s_law_kind) (defScope s_law_kind) .none kV21 dc21 pm21 an21 cd21 ct21), sl21⟩) (c21 : PySem.W.codeIn K cd21 "_law_kind" = true) (k21 : PySem.W.keepIn K (.ref f21) = true)
    {od22 an22 : Option Addr} {sl22 : Array (Option Value)} {oc22 kV22 dc22 pm22 cd22 ct22 : Value}
    (a22 : PySem.W.nsIn K mainGlobals "_law_refused" = some (some (.ref f22))) (l22 : K.lookup f22 = some ⟨oc22, od22, .func (PySem.W.fnOf "_law_refused" "_law_refused" (defArgs s_law_refused) (defBody s_law_refused) (defScope s_law_refused) .none kV22 dc22 pm22 an22 cd22 ct22), sl22⟩) (c22 : PySem.W.codeIn K cd22 "_law_refused" = true) (k22 : PySem.W.keepIn K (.ref f22) = true)
    {od23 an23 : Option Addr} {sl23 : Array (Option Value)} {oc23 kV23 dc23 pm23 cd23 ct23 : Value}
    (a23 : PySem.W.nsIn K mainGlobals "_law_letters_right" = some (some (.ref f23))) (l23 : K.lookup f23 = some ⟨oc23, od23, .func (PySem.W.fnOf "_law_letters_right" "_law_letters_right" (defArgs s_law_letters_right) (defBody s_law_letters_right) (defScope s_law_letters_right) .none kV23 dc23 pm23 an23 cd23 ct23), sl23⟩) (c23 : PySem.W.codeIn K cd23 "_law_letters_right" = true) (k23 : PySem.W.keepIn K (.ref f23) = true)
    {od24 an24 : Option Addr} {sl24 : Array (Option Value)} {oc24 kV24 dc24 pm24 cd24 ct24 : Value}
    (a24 : PySem.W.nsIn K mainGlobals "_law_numbers_right" = some (some (.ref f24))) (l24 : K.lookup f24 = some ⟨oc24, od24, .func (PySem.W.fnOf "_law_numbers_right" "_law_numbers_right" (defArgs s_law_numbers_right) (defBody s_law_numbers_right) (defScope s_law_numbers_right) .none kV24 dc24 pm24 an24 cd24 ct24), sl24⟩) (c24 : PySem.W.codeIn K cd24 "_law_numbers_right" = true) (k24 : PySem.W.keepIn K (.ref f24) = true)
    {od25 an25 : Option Addr} {sl25 : Array (Option Value)} {oc25 kV25 dc25 pm25 cd25 ct25 : Value}
    (a25 : PySem.W.nsIn K mainGlobals "law" = some (some (.ref f25))) (l25 : K.lookup f25 = some ⟨oc25, od25, .func (PySem.W.fnOf "law" "law" (defArgs s_law) (defBody s_law) (defScope s_law) .none kV25 dc25 pm25 an25 cd25 ct25), sl25⟩) (c25 : PySem.W.codeIn K cd25 "law" = true) (k25 : PySem.W.keepIn K (.ref f25) = true)
    (z_bool : PySem.W.nsIn K mainGlobals "bool" = some none)
    (z_int : PySem.W.nsIn K mainGlobals "int" = some none)
    (z_isinstance : PySem.W.nsIn K mainGlobals "isinstance" = some none)
    (z_len : PySem.W.nsIn K mainGlobals "len" = some none)
    (z_list : PySem.W.nsIn K mainGlobals "list" = some none)
    (z_max : PySem.W.nsIn K mainGlobals "max" = some none)
    (z_min : PySem.W.nsIn K mainGlobals "min" = some none)
    (z_range : PySem.W.nsIn K mainGlobals "range" = some none)
    (z_repr : PySem.W.nsIn K mainGlobals "repr" = some none)
    (z_str : PySem.W.nsIn K mainGlobals "str" = some none)
    (z_tuple : PySem.W.nsIn K mainGlobals "tuple" = some none)
    (z_zip : PySem.W.nsIn K mainGlobals "zip" = some none)
    (x_nb : PySem.W.nsIn K cStatics sharingNotToldKey = some none)
    {kt8_0 : Tok} (kw8_0 : PySem.W.nsIn K kw8 "low" = some (some (.int 0 kt8_0)))
    {kt8_1 : Tok} (kw8_1 : PySem.W.nsIn K kw8 "high" = some (some (.int 9999 kt8_1)))
    {ck0 : Tok} (cv0 : PySem.W.nsIn K mainGlobals "_FIGURES" = some (some (.str (Str.ofString "0123456789") ck0)))
    {ck1 : Tok} (cv1 : PySem.W.nsIn K mainGlobals "_CAPITALS" = some (some (.str (Str.ofString "ABCDEFGHIJKLMNOPQRSTUVWXYZ") ck1)))
    {ck2 : Tok} (cv2 : PySem.W.nsIn K mainGlobals "_MOST_FIGURES" = some (some (.int 30 ck2)))
    {ck3 : Tok} (cv3 : PySem.W.nsIn K mainGlobals "_MOST_LETTER" = some (some (.int 3 ck3)))
    {ck4 : Tok} (cv4 : PySem.W.nsIn K mainGlobals "_MOST_BEHIND" = some (some (.int 99 ck4)))
    {ck5 : Tok} (cv5 : PySem.W.nsIn K mainGlobals "MOST_PLAIN" = some (some (.int 9999 ck5)))
    {C0 I0 cc0 cda0 N0 : Addr} {nm0 q0 fl0 : Str} {oc_0 kv_0 dc_0 pm_0 ct_0 cl_0 cw_0 : Value} {od_0 an_0 cdd0 cld0 : Option Addr} {osl0 ccs0 csl0 : Array (Option Value)} {vs0 : Array Value} {tf0 : Tok} {bs0 bm0 sub0 : List Value} {sn0 : List Str} {ab0 : Bool} {col0 : Option Bool} {dd0 : Option Addr} {kx0_0 kx1_0 kx2_0 kx3_0 kx5_0 : Option Value} {cld_0 : ClassData}
    (xm0 : PySem.W.nsIn K mainGlobals "NoLetter" = some (some (.ref C0)))
    (xl0 : K.lookup C0 = some (PySem.excClassObj nm0 q0 C0 N0 bs0 bm0 true sn0 sub0 ab0 col0 dd0 kx0_0 kx1_0 kx2_0 kx3_0 kx5_0 "ValueError.__new__"))
    (xt0 : PySem.W.excTail [.type "ValueError", .type "Exception", .type "BaseException", .type "object"] bm0 = true)
    (xsa0 : PySem.W.findIn K (.ref C0) "__setattr__" = some (some (.builtin "object.__setattr__")))
    (xex0 : PySem.W.subIn K (.ref C0) (.type "BaseException") = some true)
    (xty0 : PySem.W.typeIn K (.ref C0) = some (.type "type"))
    (xkC0 : PySem.W.keepIn K (.ref C0) = true)
    (xsu0 : PySem.W.ks_superIn K C0 C0 "__init__" = some (some (.builtin "ValueError.__init__")))
    (xsb0 : PySem.W.subIn K (.ref C0) (.type "ValueError") = some true)
    (xiC0 : PySem.W.findIn K (.ref C0) "__init__" = some (some (.ref I0)))
    (xlI0 : K.lookup I0 = some ⟨oc_0, od_0, .func (PySem.W.ksFn "__init__" "NoLetter.__init__" (defArgs xs_NoLetter) (defBody xs_NoLetter) (defScope xs_NoLetter) .none kv_0 dc_0 pm_0 an_0 (.ref cda0) ct_0 cc0), osl0⟩)
    (xhc0 : PySem.W.codeIn K (.ref cda0) "NoLetter.__init__" = true)
    (xlc0 : K.lookup cda0 = some ⟨cl_0, cdd0, .fields vs0, ccs0⟩)
    (xhv0 : vs0[2]? = some (.str fl0 tf0))
    (xhf0 : ((l.prog.main.file : Str) == fl0) = true)
    (xlz0 : K.lookup cc0 = some ⟨cw_0, cld0, .cell (some (.ref C0)), csl0⟩)
    (xtI0 : PySem.W.typeIn K (.ref I0) = some (.type "function"))
    (xnf0 : PySem.W.findIn K (.ref C0) "found" = some none)
    (xga0 : PySem.W.findIn K (.ref C0) "__getattribute__" = some (some (.builtin "BaseException.__getattribute__")))
    (xgg0 : PySem.W.findIn K (.ref C0) "__getattr__" = some none)
    (xhd0 : PySem.W.hasDictIn K C0 = true)
    (xcl0 : PySem.W.clsIn K C0 = some cld_0)
    (xha0 : PySem.W.findIn K (.ref C0) "__class__" = some (some (.builtin "object.__class__")))
    (xhn0 : PySem.W.specialIn K (.builtin "object.__class__") "__get__" = some (some (.builtin "getset_descriptor.__get__")))
    (xtk0 : PySem.W.takesIn K (.builtin "object.__class__") = some true)
    (xhm0 : PySem.W.mroIn K C0 (.type "object") = some true)
    {C1 I1 cc1 cda1 N1 : Addr} {nm1 q1 fl1 : Str} {oc_1 kv_1 dc_1 pm_1 ct_1 cl_1 cw_1 : Value} {od_1 an_1 cdd1 cld1 : Option Addr} {osl1 ccs1 csl1 : Array (Option Value)} {vs1 : Array Value} {tf1 : Tok} {bs1 bm1 sub1 : List Value} {sn1 : List Str} {ab1 : Bool} {col1 : Option Bool} {dd1 : Option Addr} {kx0_1 kx1_1 kx2_1 kx3_1 kx5_1 : Option Value} {cld_1 : ClassData}
    (xm1 : PySem.W.nsIn K mainGlobals "NoNumber" = some (some (.ref C1)))
    (xl1 : K.lookup C1 = some (PySem.excClassObj nm1 q1 C1 N1 bs1 bm1 true sn1 sub1 ab1 col1 dd1 kx0_1 kx1_1 kx2_1 kx3_1 kx5_1 "ValueError.__new__"))
    (xt1 : PySem.W.excTail [.type "ValueError", .type "Exception", .type "BaseException", .type "object"] bm1 = true)
    (xsa1 : PySem.W.findIn K (.ref C1) "__setattr__" = some (some (.builtin "object.__setattr__")))
    (xex1 : PySem.W.subIn K (.ref C1) (.type "BaseException") = some true)
    (xty1 : PySem.W.typeIn K (.ref C1) = some (.type "type"))
    (xkC1 : PySem.W.keepIn K (.ref C1) = true)
    (xsu1 : PySem.W.ks_superIn K C1 C1 "__init__" = some (some (.builtin "ValueError.__init__")))
    (xsb1 : PySem.W.subIn K (.ref C1) (.type "ValueError") = some true)
    (xiC1 : PySem.W.findIn K (.ref C1) "__init__" = some (some (.ref I1)))
    (xlI1 : K.lookup I1 = some ⟨oc_1, od_1, .func (PySem.W.ksFn "__init__" "NoNumber.__init__" (defArgs xs_NoNumber) (defBody xs_NoNumber) (defScope xs_NoNumber) .none kv_1 dc_1 pm_1 an_1 (.ref cda1) ct_1 cc1), osl1⟩)
    (xhc1 : PySem.W.codeIn K (.ref cda1) "NoNumber.__init__" = true)
    (xlc1 : K.lookup cda1 = some ⟨cl_1, cdd1, .fields vs1, ccs1⟩)
    (xhv1 : vs1[2]? = some (.str fl1 tf1))
    (xhf1 : ((l.prog.main.file : Str) == fl1) = true)
    (xlz1 : K.lookup cc1 = some ⟨cw_1, cld1, .cell (some (.ref C1)), csl1⟩)
    (xtI1 : PySem.W.typeIn K (.ref I1) = some (.type "function"))
    (xnf1 : PySem.W.findIn K (.ref C1) "found" = some none)
    (xga1 : PySem.W.findIn K (.ref C1) "__getattribute__" = some (some (.builtin "BaseException.__getattribute__")))
    (xgg1 : PySem.W.findIn K (.ref C1) "__getattr__" = some none)
    (xhd1 : PySem.W.hasDictIn K C1 = true)
    (xcl1 : PySem.W.clsIn K C1 = some cld_1)
    (xha1 : PySem.W.findIn K (.ref C1) "__class__" = some (some (.builtin "object.__class__")))
    (xhn1 : PySem.W.specialIn K (.builtin "object.__class__") "__get__" = some (some (.builtin "getset_descriptor.__get__")))
    (xtk1 : PySem.W.takesIn K (.builtin "object.__class__") = some true)
    (xhm1 : PySem.W.mroIn K C1 (.type "object") = some true)
    {N0_ : Addr} (xn0_ : PySem.W.nsIn K mainGlobals "NoName" = some (some (.ref N0_)))
    {N1_ : Addr} (xn1_ : PySem.W.nsIn K mainGlobals "TermError" = some (some (.ref N1_)))
    (kit_ll : PySem.W.kitOne K (.ref C0) (.ref C0) = some true)
    (kit_ln : PySem.W.kitOne K (.ref C0) (.ref C1) = some false)
    (kit_lo : PySem.W.kitOne K (.ref C0) (.ref N0_) = some false)
    (kit_lt : PySem.W.kitOne K (.ref C0) (.ref N1_) = some true)
    (kit_nl : PySem.W.kitOne K (.ref C1) (.ref C0) = some false)
    (kit_nn : PySem.W.kitOne K (.ref C1) (.ref C1) = some true)
    (kit_no : PySem.W.kitOne K (.ref C1) (.ref N0_) = some false)
    (kit_nt : PySem.W.kitOne K (.ref C1) (.ref N1_) = some true)
    (sub_ll : PySem.W.subIn K (.ref C0) (.ref C0) = some true)
    (sub_ln : PySem.W.subIn K (.ref C0) (.ref C1) = some false)
    (sub_nl : PySem.W.subIn K (.ref C1) (.ref C0) = some false)
    (sub_nn : PySem.W.subIn K (.ref C1) (.ref C1) = some true)
    (xopq : PySem.W.nsIn K cStatics "thirdparty.any" = some none) (xsup : PySem.W.nsIn K mainGlobals "super" = some none) (xtop : (l.prog.main.scope.names.lookup ("super" : Str)).isSome = false)
    : ∃ fd : FuncData, (∀ (s : Shared) (v : Value), BindsTo s fd ⟨[v], []⟩ [("_law_script", v)]) ∧ ∀ base : Heap, K.In base → base.Ns mainGlobals mg → FnG l.prog w K mg base 7 fa fd ["_law_script"] (sp_law K) := by
  have e := hfa.symm.trans (PySem.W.mg_of X G a25)
  cases e
  have F0 := fun_mk (st := s_law_cell) l0 c0 k0
  have b0 := F0.binds (ps := ["_law_script", "_law_k"]) fun _ _ _ _ _ _ us hl => match us, hl with | [_, _], _ => rfl
  have F1 := fun_mk (st := s_law_bag) l1 c1 k1
  have b1 := F1.binds (ps := ["_law_cell_here"]) fun _ _ _ _ _ _ us hl => match us, hl with | [_], _ => rfl
  have F2 := fun_mk (st := s_law_take) l2 c2 k2
  have b2 := F2.binds (ps := ["_law_bag_here", "_law_many"]) fun _ _ _ _ _ _ us hl => match us, hl with | [_, _], _ => rfl
  have F3 := fun_mk (st := s_law_any) l3 c3 k3
  have b3 := F3.binds (ps := ["_law_bag_here"]) fun _ _ _ _ _ _ us hl => match us, hl with | [_], _ => rfl
  have F4 := fun_mk (st := s_is_whole) l4 c4 k4
  have b4 := F4.binds (ps := ["thing", "low", "high"]) fun _ _ _ _ _ _ us hl => match us, hl with | [_, _, _], _ => rfl
  have F5 := fun_mk (st := s_consists_of) l5 c5 k5
  have b5 := F5.binds (ps := ["text", "marks"]) fun _ _ _ _ _ _ us hl => match us, hl with | [_, _], _ => rfl
  have F6 := fun_mk (st := s_is_figures) l6 c6 k6
  have b6 := F6.binds (ps := ["text"]) fun _ _ _ _ _ _ us hl => match us, hl with | [_], _ => rfl
  have F7 := fun_mk (st := s_is_plain) l7 c7 k7
  have b7 := F7.binds (ps := ["thing"]) fun _ _ _ _ _ _ us hl => match us, hl with | [_], _ => rfl
  have F8 : FunD K "number_in" "number_in" (defArgs s_number_in) (defBody s_number_in) (defScope s_number_in) [] [(("low" : Str), V.int 0), (("high" : Str), V.int 9999)] f8 _ := ⟨⟨_, _, .none, .ref kw8, _, _, _, _, _, _, rfl, l8, c8, Or.inl ⟨rfl, rfl⟩, Or.inr ⟨kw8, rfl, fun q hq => by
    simp only [List.mem_cons, List.not_mem_nil, or_false] at hq
    rcases hq with rfl | rfl
    · exact ⟨_, kw8_0, ⟨_, rfl⟩⟩
    · exact ⟨_, kw8_1, ⟨_, rfl⟩⟩⟩⟩, k8⟩
  have F9 := fun_mk (st := s_is_letter) l9 c9 k9
  have b9 := F9.binds (ps := ["thing"]) fun _ _ _ _ _ _ us hl => match us, hl with | [_], _ => rfl
  have F10 := fun_mk (st := s_normal_letter) l10 c10 k10
  have b10 := F10.binds (ps := ["number"]) fun _ _ _ _ _ _ us hl => match us, hl with | [_], _ => rfl
  have F11 := fun_mk (st := s_rank_among_letters) l11 c11 k11
  have b11 := F11.binds (ps := ["letter"]) fun _ _ _ _ _ _ us hl => match us, hl with | [_], _ => rfl
  have F12 := fun_mk (st := s_letter_rank) l12 c12 k12
  have b12 := F12.binds (ps := ["letter"]) fun _ _ _ _ _ _ us hl => match us, hl with | [_], _ => rfl
  have F13 := fun_mk (st := s_law_whole) l13 c13 k13
  have b13 := F13.binds (ps := ["_law_matter"]) fun _ _ _ _ _ _ us hl => match us, hl with | [_], _ => rfl
  have F14 := fun_mk (st := s_law_same) l14 c14 k14
  have b14 := F14.binds (ps := ["_law_found", "_law_due"]) fun _ _ _ _ _ _ us hl => match us, hl with | [_, _], _ => rfl
  have F15 := fun_mk (st := s_law_number_of) l15 c15 k15
  have b15 := F15.binds (ps := ["_law_text", "_law_lower", "_law_upper"]) fun _ _ _ _ _ _ us hl => match us, hl with | [_, _, _], _ => rfl
  have F16 := fun_mk (st := s_law_spoilt) l16 c16 k16
  have b16 := F16.binds (ps := ["_law_bag_here", "_law_text"]) fun _ _ _ _ _ _ us hl => match us, hl with | [_, _], _ => rfl
  have F17 := fun_mk (st := s_law_shown) l17 c17 k17
  have b17 := F17.binds (ps := ["_law_letter_here"]) fun _ _ _ _ _ _ us hl => match us, hl with | [_], _ => rfl
  have F18 := fun_mk (st := s_law_letter) l18 c18 k18
  have b18 := F18.binds (ps := ["_law_bag_here"]) fun _ _ _ _ _ _ us hl => match us, hl with | [_], _ => rfl
  have F19 := fun_mk (st := s_law_near) l19 c19 k19
  have b19 := F19.binds (ps := ["_law_bag_here", "_law_letter_here"]) fun _ _ _ _ _ _ us hl => match us, hl with | [_, _], _ => rfl
  have F20 := fun_mk (st := s_law_very) l20 c20 k20
  have b20 := F20.binds (ps := ["_law_found", "_law_matter"]) fun _ _ _ _ _ _ us hl => match us, hl with | [_, _], _ => rfl
  have F21 := fun_mk (st := s_law_kind) l21 c21 k21
  have b21 := F21.binds (ps := ["_law_e"]) fun _ _ _ _ _ _ us hl => match us, hl with | [_], _ => rfl
  have F22 := fun_mk (st := s_law_refused) l22 c22 k22
  have b22 := F22.binds (ps := ["_law_way", "_law_matter"]) fun _ _ _ _ _ _ us hl => match us, hl with | [_, _], _ => rfl
  have F23 := fun_mk (st := s_law_letters_right) l23 c23 k23
  have b23 := F23.binds (ps := ["_law_bag_here"]) fun _ _ _ _ _ _ us hl => match us, hl with | [_], _ => rfl
  have F24 := fun_mk (st := s_law_numbers_right) l24 c24 k24
  have b24 := F24.binds (ps := ["_law_bag_here"]) fun _ _ _ _ _ _ us hl => match us, hl with | [_], _ => rfl
  have F25 := fun_mk (st := s_law) l25 c25 k25
  have b25 := F25.binds (ps := ["_law_script"]) fun _ _ _ _ _ _ us hl => match us, hl with | [_], _ => rfl
  let f : Nat → Addr := fun i => if i < 100 then [f0, f1, f2, f3, f4, f5, f6, f7, f8, f9, f10, f11, f12, f13, f14, f15, f16, f17, f18, f19, f20, f21, f22, f23, f24, fa].getD i 0 else [C0, I0, C1, I1, N0_, N1_].getD (i - 100) 0
  let d : Nat → FuncData := fun i => match i with | 0 => PySem.W.fnOf "_law_cell" "_law_cell" (defArgs s_law_cell) (defBody s_law_cell) (defScope s_law_cell) .none kV0 dc0 pm0 an0 cd0 ct0 | 1 => PySem.W.fnOf "_law_bag" "_law_bag" (defArgs s_law_bag) (defBody s_law_bag) (defScope s_law_bag) .none kV1 dc1 pm1 an1 cd1 ct1 | 2 => PySem.W.fnOf "_law_take" "_law_take" (defArgs s_law_take) (defBody s_law_take) (defScope s_law_take) .none kV2 dc2 pm2 an2 cd2 ct2 | 3 => PySem.W.fnOf "_law_any" "_law_any" (defArgs s_law_any) (defBody s_law_any) (defScope s_law_any) .none kV3 dc3 pm3 an3 cd3 ct3 | 4 => PySem.W.fnOf "is_whole" "is_whole" (defArgs s_is_whole) (defBody s_is_whole) (defScope s_is_whole) .none kV4 dc4 pm4 an4 cd4 ct4 | 5 => PySem.W.fnOf "_consists_of" "_consists_of" (defArgs s_consists_of) (defBody s_consists_of) (defScope s_consists_of) .none kV5 dc5 pm5 an5 cd5 ct5 | 6 => PySem.W.fnOf "_is_figures" "_is_figures" (defArgs s_is_figures) (defBody s_is_figures) (defScope s_is_figures) .none kV6 dc6 pm6 an6 cd6 ct6 | 7 => PySem.W.fnOf "_is_plain" "_is_plain" (defArgs s_is_plain) (defBody s_is_plain) (defScope s_is_plain) .none kV7 dc7 pm7 an7 cd7 ct7 | 8 => PySem.W.fnOf "number_in" "number_in" (defArgs s_number_in) (defBody s_number_in) (defScope s_number_in) .none (.ref kw8) dc8 pm8 an8 cd8 ct8 | 9 => PySem.W.fnOf "is_letter" "is_letter" (defArgs s_is_letter) (defBody s_is_letter) (defScope s_is_letter) .none kV9 dc9 pm9 an9 cd9 ct9 | 10 => PySem.W.fnOf "normal_letter" "normal_letter" (defArgs s_normal_letter) (defBody s_normal_letter) (defScope s_normal_letter) .none kV10 dc10 pm10 an10 cd10 ct10 | 11 => PySem.W.fnOf "rank_among_letters" "rank_among_letters" (defArgs s_rank_among_letters) (defBody s_rank_among_letters) (defScope s_rank_among_letters) .none kV11 dc11 pm11 an11 cd11 ct11 | 12 => PySem.W.fnOf "letter_rank" "letter_rank" (defArgs s_letter_rank) (defBody s_letter_rank) (defScope s_letter_rank) .none kV12 dc12 pm12 an12 cd12 ct12 | 13 => PySem.W.fnOf "_law_whole" "_law_whole" (defArgs s_law_whole) (defBody s_law_whole) (defScope s_law_whole) .none kV13 dc13 pm13 an13 cd13 ct13 | 14 => PySem.W.fnOf "_law_same" "_law_same" (defArgs s_law_same) (defBody s_law_same) (defScope s_law_same) .none kV14 dc14 pm14 an14 cd14 ct14 | 15 => PySem.W.fnOf "_law_number_of" "_law_number_of" (defArgs s_law_number_of) (defBody s_law_number_of) (defScope s_law_number_of) .none kV15 dc15 pm15 an15 cd15 ct15 | 16 => PySem.W.fnOf "_law_spoilt" "_law_spoilt" (defArgs s_law_spoilt) (defBody s_law_spoilt) (defScope s_law_spoilt) .none kV16 dc16 pm16 an16 cd16 ct16 | 17 => PySem.W.fnOf "_law_shown" "_law_shown" (defArgs s_law_shown) (defBody s_law_shown) (defScope s_law_shown) .none kV17 dc17 pm17 an17 cd17 ct17 | 18 => PySem.W.fnOf "_law_letter" "_law_letter" (defArgs s_law_letter) (defBody s_law_letter) (defScope s_law_letter) .none kV18 dc18 pm18 an18 cd18 ct18 | 19 => PySem.W.fnOf "_law_near" "_law_near" (defArgs s_law_near) (defBody s_law_near) (defScope s_law_near) .none kV19 dc19 pm19 an19 cd19 ct19 | 20 => PySem.W.fnOf "_law_very" "_law_very" (defArgs s_law_very) (defBody s_law_very) (defScope s_law_very) .none kV20 dc20 pm20 an20 cd20 ct20 | 21 => PySem.W.fnOf "_law_kind" "_law_kind" (defArgs s_law_kind) (defBody s_law_kind) (defScope s_law_kind) .none kV21 dc21 pm21 an21 cd21 ct21 | 22 => PySem.W.fnOf "_law_refused" "_law_refused" (defArgs s_law_refused) (defBody s_law_refused) (defScope s_law_refused) .none kV22 dc22 pm22 an22 cd22 ct22 | 23 => PySem.W.fnOf "_law_letters_right" "_law_letters_right" (defArgs s_law_letters_right) (defBody s_law_letters_right) (defScope s_law_letters_right) .none kV23 dc23 pm23 an23 cd23 ct23 | 24 => PySem.W.fnOf "_law_numbers_right" "_law_numbers_right" (defArgs s_law_numbers_right) (defBody s_law_numbers_right) (defScope s_law_numbers_right) .none kV24 dc24 pm24 an24 cd24 ct24 | 25 => PySem.W.fnOf "law" "law" (defArgs s_law) (defBody s_law) (defScope s_law) .none kV25 dc25 pm25 an25 cd25 ct25 | 100 => PySem.W.ksFn "__init__" "NoLetter.__init__" (defArgs xs_NoLetter) (defBody xs_NoLetter) (defScope xs_NoLetter) .none kv_0 dc_0 pm_0 an_0 (.ref cda0) ct_0 cc0 | 102 => PySem.W.ksFn "__init__" "NoNumber.__init__" (defArgs xs_NoNumber) (defBody xs_NoNumber) (defScope xs_NoNumber) .none kv_1 dc_1 pm_1 an_1 (.ref cda1) ct_1 cc1 | _ => PySem.W.fnOf "law" "law" (defArgs s_law) (defBody s_law) (defScope s_law) .none kV25 dc25 pm25 an25 cd25 ct25
  have Xc0 := JgX.xc_mk xl0 xt0 xsa0 xex0 xty0 xkC0 xsu0 xsb0
  have Xf0 := JgX.xfn_mk (P := l.prog) (st := xs_NoLetter) xlI0 xhc0 xlc0 xhv0 xhf0 xlz0 xiC0 xtI0
  have Xa0 := JgX.xa_mk (o := ⟨.none, none, .fields #[], #[]⟩) xga0 xgg0 xex0 xhd0 xcl0 xha0 xhn0 xtk0 xhm0
  have Xc1 := JgX.xc_mk xl1 xt1 xsa1 xex1 xty1 xkC1 xsu1 xsb1
  have Xf1 := JgX.xfn_mk (P := l.prog) (st := xs_NoNumber) xlI1 xhc1 xlc1 xhv1 xhf1 xlz1 xiC1 xtI1
  have Xa1 := JgX.xa_mk (o := ⟨.none, none, .fields #[], #[]⟩) xga1 xgg1 xex1 xhd1 xcl1 xha1 xhn1 xtk1 xhm1
  have T : Txt l.prog K mg f d := {
    F_law_cell := F0, m__law_cell := PySem.W.mg_of X G a0, k__law_cell := k0, b__law_cell := b0,
    F_law_bag := F1, m__law_bag := PySem.W.mg_of X G a1, k__law_bag := k1, b__law_bag := b1,
    F_law_take := F2, m__law_take := PySem.W.mg_of X G a2, k__law_take := k2, b__law_take := b2,
    F_law_any := F3, m__law_any := PySem.W.mg_of X G a3, k__law_any := k3, b__law_any := b3,
    F_is_whole := F4, m_is_whole := PySem.W.mg_of X G a4, k_is_whole := k4, b_is_whole := b4,
    F_consists_of := F5, m__consists_of := PySem.W.mg_of X G a5, k__consists_of := k5, b__consists_of := b5,
    F_is_figures := F6, m__is_figures := PySem.W.mg_of X G a6, k__is_figures := k6, b__is_figures := b6,
    F_is_plain := F7, m__is_plain := PySem.W.mg_of X G a7, k__is_plain := k7, b__is_plain := b7,
    F_number_in := F8, m_number_in := PySem.W.mg_of X G a8, k_number_in := k8,
    F_is_letter := F9, m_is_letter := PySem.W.mg_of X G a9, k_is_letter := k9, b_is_letter := b9,
    F_normal_letter := F10, m_normal_letter := PySem.W.mg_of X G a10, k_normal_letter := k10, b_normal_letter := b10,
    F_rank_among_letters := F11, m_rank_among_letters := PySem.W.mg_of X G a11, k_rank_among_letters := k11, b_rank_among_letters := b11,
    F_letter_rank := F12, m_letter_rank := PySem.W.mg_of X G a12, k_letter_rank := k12, b_letter_rank := b12,
    F_law_whole := F13, m__law_whole := PySem.W.mg_of X G a13, k__law_whole := k13, b__law_whole := b13,
    F_law_same := F14, m__law_same := PySem.W.mg_of X G a14, k__law_same := k14, b__law_same := b14,
    F_law_number_of := F15, m__law_number_of := PySem.W.mg_of X G a15, k__law_number_of := k15, b__law_number_of := b15,
    F_law_spoilt := F16, m__law_spoilt := PySem.W.mg_of X G a16, k__law_spoilt := k16, b__law_spoilt := b16,
    F_law_shown := F17, m__law_shown := PySem.W.mg_of X G a17, k__law_shown := k17, b__law_shown := b17,
    F_law_letter := F18, m__law_letter := PySem.W.mg_of X G a18, k__law_letter := k18, b__law_letter := b18,
    F_law_near := F19, m__law_near := PySem.W.mg_of X G a19, k__law_near := k19, b__law_near := b19,
    F_law_very := F20, m__law_very := PySem.W.mg_of X G a20, k__law_very := k20, b__law_very := b20,
    F_law_kind := F21, m__law_kind := PySem.W.mg_of X G a21, k__law_kind := k21, b__law_kind := b21,
    F_law_refused := F22, m__law_refused := PySem.W.mg_of X G a22, k__law_refused := k22, b__law_refused := b22,
    F_law_letters_right := F23, m__law_letters_right := PySem.W.mg_of X G a23, k__law_letters_right := k23, b__law_letters_right := b23,
    F_law_numbers_right := F24, m__law_numbers_right := PySem.W.mg_of X G a24, k__law_numbers_right := k24, b__law_numbers_right := b24,
    F_law := F25, m_law := PySem.W.mg_of X G a25, k_law := k25, b_law := b25,
    z_bool := PySem.W.mg_none_of X G z_bool,
    z_int := PySem.W.mg_none_of X G z_int,
    z_isinstance := PySem.W.mg_none_of X G z_isinstance,
    z_len := PySem.W.mg_none_of X G z_len,
    z_list := PySem.W.mg_none_of X G z_list,
    z_max := PySem.W.mg_none_of X G z_max,
    z_min := PySem.W.mg_none_of X G z_min,
    z_range := PySem.W.mg_none_of X G z_range,
    z_repr := PySem.W.mg_none_of X G z_repr,
    z_str := PySem.W.mg_none_of X G z_str,
    z_tuple := PySem.W.mg_none_of X G z_tuple,
    z_zip := PySem.W.mg_none_of X G z_zip,
    nb := x_nb,
    c__FIGURES := ⟨_, PySem.W.mg_of X G cv0⟩,
    c__CAPITALS := ⟨_, PySem.W.mg_of X G cv1⟩,
    c__MOST_FIGURES := ⟨_, PySem.W.mg_of X G cv2⟩,
    c__MOST_LETTER := ⟨_, PySem.W.mg_of X G cv3⟩,
    c__MOST_BEHIND := ⟨_, PySem.W.mg_of X G cv4⟩,
    c_MOST_PLAIN := ⟨_, PySem.W.mg_of X G cv5⟩,
    x_NoLetter := Xc0, y_NoLetter := Xf0, n_NoLetter := xnf0, e_NoLetter := xm0, c_NoLetter := PySem.W.mg_of X G xm0,
    x_NoNumber := Xc1, y_NoNumber := Xf1, n_NoNumber := xnf1, e_NoNumber := xm1, c_NoNumber := PySem.W.mg_of X G xm1,
    c_NoName := PySem.W.mg_of X G xn0_,
    c_TermError := PySem.W.mg_of X G xn1_,
    kit_ll := kit_ll,
    kit_ln := kit_ln,
    kit_lo := kit_lo,
    kit_lt := kit_lt,
    kit_nl := kit_nl,
    kit_nn := kit_nn,
    kit_no := kit_no,
    kit_nt := kit_nt,
    xa_l := Xa0,
    xa_n := Xa1,
    ex_l := JgH.exm_two xex0 xcl0 xty0 sub_ll xex1 xcl1 xty1 sub_ln,
    ex_n := JgH.exm_two xex0 xcl0 xty0 sub_nl xex1 xcl1 xty1 sub_nn,
    z_super := PySem.W.mg_none_of X G xsup, opq := xopq, tp := xtop }
  exact ⟨PySem.W.fnOf "law" "law" (defArgs s_law) (defBody s_law) (defScope s_law) .none kV25 dc25 pm25 an25 cd25 ct25, fun s v => .of_eq rfl, fun base _ _ => ok_law T⟩
theorem walk {l : PySem.W.OpenLaw} {q : Program} {loose : List Str} {XP : (Str → Option Value) → Heap → Prop} {YP : World → Heap → Prop} {d : DefRec} {K : Params → PySem.W.Frag} (hn : l.most = some 63) (hdf : d.params.defaults = [])
    (hY : ∀ (w : World) (h : Heap), YP w h → (K w.params).In h)
    (F : ∀ (w : World) (mg : Str → Option Value) (fa : Addr) (h : Heap), (K w.params).In h → h.Ns mainGlobals mg → mg d.name = some (.ref fa) →
      ∃ fd : FuncData, (∀ (s : Shared) (u : Value), BindsTo s fd ⟨[u], []⟩ [("_law_script", u)]) ∧ ∀ base : Heap, (K w.params).In base → base.Ns mainGlobals mg → FnG l.prog w (K w.params) mg base 7 fa fd ["_law_script"] (sp_law (K w.params))) :
    PySem.W.WalkO q loose XP YP l.row.toRowW d [] (fun f vs => PySem.call f vs) :=
  Jg.walkG (n := 63) (k := 7) (x := "_law_script") (sp := sp_law) hn (by decide) hdf ⟨rfl, by decide, by decide⟩ hY F fun K H a ns hl _ hS => ⟨a, ns, rfl, hS, hl, fun _ => rfl⟩
end K02
open PySem PySem.W PyProof.Rows
set_option maxRecDepth 100000 in
set_option maxHeartbeats 0 in
theorem PySem.Challenge.cw_termshelf_k02_letters_and_numbers_holds : PySem.Challenge.rw_termshelf_k02_letters_and_numbers.Holds := by
  w_on; o_law; k_head; (case hw => w_witness2)
  k_fill
  refine K02.walk (l := PySem.Challenge.rw_termshelf_k02_letters_and_numbers) rfl rfl (fun w h Y => PySem.W.kIn_of Y) ?F
  case F =>
    intro w mg fa h KX G hmg
    refine' K02.all_mk KX G hmg ?qa0 ?ql0 ?qc0 ?qk0 ?qa1 ?ql1 ?qc1 ?qk1 ?qa2 ?ql2 ?qc2 ?qk2 ?qa3 ?ql3 ?qc3 ?qk3 ?qa4 ?ql4 ?qc4 ?qk4 ?qa5 ?ql5 ?qc5 ?qk5 ?qa6 ?ql6 ?qc6 ?qk6 ?qa7 ?ql7 ?qc7 ?qk7 ?qa8 ?ql8 ?qc8 ?qk8 ?qa9 ?ql9 ?qc9 ?qk9 ?qa10 ?ql10 ?qc10 ?qk10 ?qa11 ?ql11 ?qc11 ?qk11 ?qa12 ?ql12 ?qc12 ?qk12 ?qa13 ?ql13 ?qc13 ?qk13 ?qa14 ?ql14 ?qc14 ?qk14 ?qa15 ?ql15 ?qc15 ?qk15 ?qa16 ?ql16 ?qc16 ?qk16 ?qa17 ?ql17 ?qc17 ?qk17 ?qa18 ?ql18 ?qc18 ?qk18 ?qa19 ?ql19 ?qc19 ?qk19 ?qa20 ?ql20 ?qc20 ?qk20 ?qa21 ?ql21 ?qc21 ?qk21 ?qa22 ?ql22 ?qc22 ?qk22 ?qa23 ?ql23 ?qc23 ?qk23 ?qa24 ?ql24 ?qc24 ?qk24 ?qa25 ?ql25 ?qc25 ?qk25 ?qz_bool ?qz_int ?qz_isinstance ?qz_len ?qz_list ?qz_max ?qz_min ?qz_range ?qz_repr ?qz_str ?qz_tuple ?qz_zip ?qx_nb ?q_kw8_0 ?q_kw8_1 ?q_cv0 ?q_cv1 ?q_cv2 ?q_cv3 ?q_cv4 ?q_cv5 ?q_xm0 ?q_xl0 ?q_xt0 ?q_xsa0 ?q_xex0 ?q_xty0 ?q_xkC0 ?q_xsu0 ?q_xsb0 ?q_xiC0 ?q_xlI0 ?q_xhc0 ?q_xlc0 ?q_xhv0 ?q_xhf0 ?q_xlz0 ?q_xtI0 ?q_xnf0 ?q_xga0 ?q_xgg0 ?q_xhd0 ?q_xcl0 ?q_xha0 ?q_xhn0 ?q_xtk0 ?q_xhm0 ?q_xm1 ?q_xl1 ?q_xt1 ?q_xsa1 ?q_xex1 ?q_xty1 ?q_xkC1 ?q_xsu1 ?q_xsb1 ?q_xiC1 ?q_xlI1 ?q_xhc1 ?q_xlc1 ?q_xhv1 ?q_xhf1 ?q_xlz1 ?q_xtI1 ?q_xnf1 ?q_xga1 ?q_xgg1 ?q_xhd1 ?q_xcl1 ?q_xha1 ?q_xhn1 ?q_xtk1 ?q_xhm1 ?q_xn0_ ?q_xn1_ ?q_kit_ll ?q_kit_ln ?q_kit_lo ?q_kit_lt ?q_kit_nl ?q_kit_nn ?q_kit_no ?q_kit_nt ?q_sub_ll ?q_sub_ln ?q_sub_nl ?q_sub_nn ?q_xopq ?q_xsup ?q_xtop
    (case qa0 => k_is); (case ql0 => k_is); (case qc0 => k_is); (case qk0 => k_is)
    (case qa1 => k_is); (case ql1 => k_is); (case qc1 => k_is); (case qk1 => k_is)
    (case qa2 => k_is); (case ql2 => k_is); (case qc2 => k_is); (case qk2 => k_is)
    (case qa3 => k_is); (case ql3 => k_is); (case qc3 => k_is); (case qk3 => k_is)
    (case qa4 => k_is); (case ql4 => k_is); (case qc4 => k_is); (case qk4 => k_is)
    (case qa5 => k_is); (case ql5 => k_is); (case qc5 => k_is); (case qk5 => k_is)
    (case qa6 => k_is); (case ql6 => k_is); (case qc6 => k_is); (case qk6 => k_is)
    (case qa7 => k_is); (case ql7 => k_is); (case qc7 => k_is); (case qk7 => k_is)
    (case qa8 => k_is); (case ql8 => k_is); (case qc8 => k_is); (case qk8 => k_is)
    (case qa9 => k_is); (case ql9 => k_is); (case qc9 => k_is); (case qk9 => k_is)
    (case qa10 => k_is); (case ql10 => k_is); (case qc10 => k_is); (case qk10 => k_is)
    (case qa11 => k_is); (case ql11 => k_is); (case qc11 => k_is); (case qk11 => k_is)
    (case qa12 => k_is); (case ql12 => k_is); (case qc12 => k_is); (case qk12 => k_is)
    (case qa13 => k_is); (case ql13 => k_is); (case qc13 => k_is); (case qk13 => k_is)
    (case qa14 => k_is); (case ql14 => k_is); (case qc14 => k_is); (case qk14 => k_is)
    (case qa15 => k_is); (case ql15 => k_is); (case qc15 => k_is); (case qk15 => k_is)
    (case qa16 => k_is); (case ql16 => k_is); (case qc16 => k_is); (case qk16 => k_is)
    (case qa17 => k_is); (case ql17 => k_is); (case qc17 => k_is); (case qk17 => k_is)
    (case qa18 => k_is); (case ql18 => k_is); (case qc18 => k_is); (case qk18 => k_is)
    (case qa19 => k_is); (case ql19 => k_is); (case qc19 => k_is); (case qk19 => k_is)
    (case qa20 => k_is); (case ql20 => k_is); (case qc20 => k_is); (case qk20 => k_is)
    (case qa21 => k_is); (case ql21 => k_is); (case qc21 => k_is); (case qk21 => k_is)
    (case qa22 => k_is); (case ql22 => k_is); (case qc22 => k_is); (case qk22 => k_is)
    (case qa23 => k_is); (case ql23 => k_is); (case qc23 => k_is); (case qk23 => k_is)
    (case qa24 => k_is); (case ql24 => k_is); (case qc24 => k_is); (case qk24 => k_is)
    (case qa25 => k_is); (case ql25 => k_is); (case qc25 => k_is); (case qk25 => k_is)
    (case qz_bool => k_is)
    (case qz_int => k_is)
    (case qz_isinstance => k_is)
    (case qz_len => k_is)
    (case qz_list => k_is)
    (case qz_max => k_is)
    (case qz_min => k_is)
    (case qz_range => k_is)
    (case qz_repr => k_is)
    (case qz_str => k_is)
    (case qz_tuple => k_is)
    (case qz_zip => k_is)
    (case qx_nb => k_is)
    (case q_kw8_0 => k_is)
    (case q_kw8_1 => k_is)
    (case q_cv0 => k_is)
    (case q_cv1 => k_is)
    (case q_cv2 => k_is)
    (case q_cv3 => k_is)
    (case q_cv4 => k_is)
    (case q_cv5 => k_is)
    (case q_xm0 => k_is)
    (case q_xl0 => k_is)
    (case q_xt0 => rfl)
    (case q_xsa0 => first | k_is | kx_is)
    (case q_xex0 => first | k_is | kx_is)
    (case q_xty0 => first | k_is | kx_is)
    (case q_xkC0 => first | k_is | kx_is)
    (case q_xsu0 => ks_is)
    (case q_xsb0 => first | k_is | kx_is)
    (case q_xiC0 => first | k_is | kx_is)
    (case q_xlI0 => first | k_is | kx_is)
    (case q_xhc0 => first | k_is | kx_is)
    (case q_xlc0 => first | k_is | kx_is)
    (case q_xhv0 => rfl)
    (case q_xhf0 => first | rfl | decide +kernel)
    (case q_xlz0 => first | k_is | kx_is)
    (case q_xtI0 => first | k_is | kx_is)
    (case q_xnf0 => first | k_is | kx_is)
    (case q_xga0 => first | k_is | kx_is)
    (case q_xgg0 => first | k_is | kx_is)
    (case q_xhd0 => first | k_is | kx_is)
    (case q_xcl0 => first | k_is | kx_is)
    (case q_xha0 => first | k_is | kx_is)
    (case q_xhn0 => first | k_is | kx_is)
    (case q_xtk0 => first | k_is | kx_is)
    (case q_xhm0 => first | k_is | kx_is)
    (case q_xm1 => k_is)
    (case q_xl1 => k_is)
    (case q_xt1 => rfl)
    (case q_xsa1 => first | k_is | kx_is)
    (case q_xex1 => first | k_is | kx_is)
    (case q_xty1 => first | k_is | kx_is)
    (case q_xkC1 => first | k_is | kx_is)
    (case q_xsu1 => ks_is)
    (case q_xsb1 => first | k_is | kx_is)
    (case q_xiC1 => first | k_is | kx_is)
    (case q_xlI1 => first | k_is | kx_is)
    (case q_xhc1 => first | k_is | kx_is)
    (case q_xlc1 => first | k_is | kx_is)
    (case q_xhv1 => rfl)
    (case q_xhf1 => first | rfl | decide +kernel)
    (case q_xlz1 => first | k_is | kx_is)
    (case q_xtI1 => first | k_is | kx_is)
    (case q_xnf1 => first | k_is | kx_is)
    (case q_xga1 => first | k_is | kx_is)
    (case q_xgg1 => first | k_is | kx_is)
    (case q_xhd1 => first | k_is | kx_is)
    (case q_xcl1 => first | k_is | kx_is)
    (case q_xha1 => first | k_is | kx_is)
    (case q_xhn1 => first | k_is | kx_is)
    (case q_xtk1 => first | k_is | kx_is)
    (case q_xhm1 => first | k_is | kx_is)
    (case q_xn0_ => k_is)
    (case q_xn1_ => k_is)
    (case q_kit_ll => first | kit_is | k_is | kx_is)
    (case q_kit_ln => first | kit_is | k_is | kx_is)
    (case q_kit_lo => first | kit_is | k_is | kx_is)
    (case q_kit_lt => first | kit_is | k_is | kx_is)
    (case q_kit_nl => first | kit_is | k_is | kx_is)
    (case q_kit_nn => first | kit_is | k_is | kx_is)
    (case q_kit_no => first | kit_is | k_is | kx_is)
    (case q_kit_nt => first | kit_is | k_is | kx_is)
    (case q_sub_ll => first | k_is | kx_is)
    (case q_sub_ln => first | k_is | kx_is)
    (case q_sub_nl => first | k_is | kx_is)
    (case q_sub_nn => first | k_is | kx_is)
    (case q_xopq => first | k_is | kx_is)
    (case q_xsup => first | k_is | kx_is)
    (case q_xtop => first | rfl | decide +kernel)
