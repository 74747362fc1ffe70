import PyProof.Rows.All
import Wide.All
import OpenK.AllK
import Wide.FinOn
import KE.KStateDown
import HandS.ForMost
import HandS.ExcInit
import HandS.ExcCtx
import KE.KExcIs
import HandS.Words
import HandS.Defaults
import HandS.Head0
import HandS.Head1
import HandS.Head2
import HandS.HeadHook1
import HandS.HeadHook2
import HandS.IsInst
import HandS.Wide
import PyProof.ReprRoads
import PyProof.StrReplace2
import PyProof.ToksMono
import HandS.Walk
import HandS.Replace
import PyProof.Rows.StrSplitAre
import PyProof.StrLawsChain
import PyProof.StrBlock2
import PyProof.Rows.StrSplitJoin
import PyProof.StrLawsReplace
import PyProof.Rows.StrItems
import HandS.Exc
import HandS.ExcSuper
import KE.KExcSuper
import KE.KSuper
import KE.KExcMake
import PyProof.ExcBaseAll.LookupError
import HandS.ExcField
import HandS.Steps
import HandS.HotCalls
import HandS.Zip
import KE.KTryMore
import KE.KExcStr
import PyProof.ReprNest
import PyProof.ReprReads
import HandS.WordsExc
import HandS.TupAny
import HandS.Style
import KE.DataEq
import HandS.FStr
import HandS.SetKeys
import HandS.Deep
import HandS.NoneIn
import HandS.Rev
import HandS.RevRange
import HandS.Comp
import HandS.Flow
import HandS.TryMany
import HandS.SetBool
import HandS.Strs
import HandS.DictComp
import HandS.Iter
import KE.GoesMore
import PyProof.EnumMake
import PyProof.Draws
import HandS.Small
import HandS.Conv
import HandS.Dict
import HandS.List
import PyProof.FactsLen
import HandS.StrMore
import PyProof.StrLawsRepr
import PySem.Challenge.RW_termshelf_k06_words_refused
set_option Elab.async false
set_option linter.all false
set_option maxRecDepth 100000
set_option maxHeartbeats 8000000
namespace JgHd
open PySem PySem.W PySem.Calls PyProof.Rows PySem.Spec L2
abbrev FnV : Type := Option (Str × Str × Arguments × FuncBody × Scope × Addr × List Str × Addr)
/-- the function at an address, as far as its text goes -/
def fnV (K : Frag) (a : Addr) : FnV := match K.lookup a with
  | some ⟨_, _, .func fd, _⟩ => some (fd.name, fd.qualname, fd.params, fd.body, fd.scope, fd.globals, fd.closure.map (·.1), fd.builtins)
  | _ => none
def textV (x qual : Str) (params : Arguments) (body : List Stmt) (scope : Scope) (cl : List Str) : FnV := some (x, qual, params, .stmts body, scope, mainGlobals, cl, builtinsNs)
abbrev AlJ : Type := Bool × List FnV
def obsJ (fx : Frag → Bool) (ad : List (Frag → Addr)) (K : Frag) : AlJ := (fx K, ad.map fun a => fnV K (a K))
/-- a number is looked up once -/
def frA {α : Type} (n : Addr) (k : Addr → α) : α := match n with
  | 0 => k 0
  | m + 1 => k (m + 1)
/-- so many addresses from a on -/
def upto (a : Addr) : Nat → List Addr
  | 0 => []
  | n + 1 => frA a fun a => a :: upto (a + 1) n
/-- all addresses below hi, those from lo on ahead -/
def asJ (lo hi : Nat) : List Addr := mainGlobals :: cStatics :: (upto lo (hi - lo) ++ upto 0 lo)
def hookJ (lo hi : Nat) (fx : Frag → Bool) (ad : List (Frag → Addr)) (vs : List FnV) : Hook where
  α := AlJ
  obs := fun s => obsJ fx ad (He.frG s.heap.get? (asJ lo hi))
  val := fun _ => (true, vs)
  says := fun _ h => ∃ K : Frag, K.In h ∧ obsJ fx ad K = (true, vs)
  of := fun _ _ e => ⟨_, He.frG_in, e⟩
  keeps := fun _ _ _ ⟨K, hK, c⟩ k => ⟨K, Frag.In.keeps hK k, c⟩
/-- the same, off the tree -/
def obsT (lo hi : Nat) (fx : Frag → Bool) (ad : List (Frag → Addr)) (s : SharedT) : AlJ := obsJ fx ad (He.frG (HandSHeadRun.getT s) (asJ lo hi))
def isB {α : Type} [DecidableEq α] (a b : α) : Bool := decide (a = b)
/-- a global's address; a class's method's -/
abbrev gA (x : Str) : Frag → Addr := fun K => He.ga K x
abbrev mA (x m : Str) : Frag → Addr := fun K => He.ma K (He.ga K x) m
def gloB (K : Frag) (x : Str) : Bool := isB (nsIn K mainGlobals x) (some (some (.ref (He.ga K x))))
def freeB (K : Frag) (x : Str) : Bool := isB (nsIn K mainGlobals x) (some none)
def constB (K : Frag) (x : Str) (v : V) : Bool := match nsIn K mainGlobals x with
  | some (some u) => He.relB v u
  | _ => false
def funB (K : Frag) (a : Addr) (qual : Str) (dvs : List V) (kws : List (Str × V)) : Bool := keepIn K (.ref a) && match K.lookup a with
  | some ⟨_, _, .func fd, _⟩ => codeIn K fd.code qual && (He.dflB K fd.defaults dvs && He.kwdB K fd.kwdefaults kws)
  | _ => false
def excB (K : Frag) (C : Addr) (newId : String) (bmB : List Value) : Bool := match K.lookup C with
  | some ⟨.type "type", _, .cls cd, sl⟩ => (match cd.mro, sl.toList with
    | .ref C' :: bm, [_, _, _, _, some (.builtin n), _] => C' == C && (n == newId && (!cd.hasDel && (cd.hasDict && excTail bmB bm)))
    | _, _ => false)
  | _ => false
/-- what stands above a class -/
def above (K : Frag) (C : Addr) : List Value := match clsIn K C with
  | some cd => cd.mro.tail
  | none => []
/-- what any class of exceptions of the text tells -/
def xaB (K : Frag) (C : Addr) : Bool :=
  isB (findIn K (.ref C) "__getattribute__") (some (some (.builtin "BaseException.__getattribute__"))) && (isB (findIn K (.ref C) "__getattr__") (some none) &&
    isB (findIn K (.ref C) "__class__") (some (some (.builtin "object.__class__"))))
def takB (K : Frag) : Bool := isB (specialIn K (.builtin "object.__class__") "__get__") (some (some (.builtin "getset_descriptor.__get__"))) && isB (takesIn K (.builtin "object.__class__")) (some true)
/-- its own __init__ -/
def xfnB (K : Frag) (C I : Addr) (qual file : Str) : Bool := match K.lookup I with
  | some ⟨_, _, .func fd, _⟩ => (match fd.code, fd.closure with
    | .ref cda, [(_, cc)] => codeIn K (.ref cda) qual && (He.dflB K fd.defaults [] && ((match K.lookup cda with
        | some ⟨_, _, .fields vs, _⟩ => (match (vs[2]? : Option Value) with
          | some (.str fl _) => file == fl
          | _ => false)
        | _ => false) && (match K.lookup cc with
        | some ⟨_, _, .cell (some (.ref C')), _⟩ => C' == C
        | _ => false)))
    | _, _ => false)
  | _ => false
/-- a class with an own __init__, all that is asked of it -/
def ctB (K : Frag) (x : Str) (newId i B : String) (bmB : List Value) (field qual file : Str) : Bool :=
  gloB K x && (excB K (He.ga K x) newId bmB && (xaB K (He.ga K x) && (isB (findIn K (.ref (He.ga K x)) "__setattr__") (some (some (.builtin "object.__setattr__"))) && (keepIn K (.ref (He.ga K x)) &&
    (isB (ks_superIn K (He.ga K x) (He.ga K x) "__init__") (some (some (.builtin i))) && (isB (findIn K (.ref (He.ga K x)) "__init__") (some (some (.ref (He.ma K (He.ga K x) "__init__")))) &&
    (isB (typeIn K (.ref (He.ma K (He.ga K x) "__init__"))) (some (.type "function")) && (isB (findIn K (.ref (He.ga K x)) field) (some none) && xfnB K (He.ga K x) (He.ma K (He.ga K x) "__init__") qual file))))))))
/-- a class without one -/
def plB (K : Frag) (x : Str) (newId i : String) (bmB : List Value) : Bool :=
  gloB K x && (excB K (He.ga K x) newId bmB && (xaB K (He.ga K x) && (keepIn K (.ref (He.ga K x)) && isB (findIn K (.ref (He.ga K x)) "__init__") (some (some (.builtin i))))))
/-- the rows of who is under whom -/
def rowK (K : Frag) (xs : List Str) : List (Addr × List Value) := xs.map fun x => (He.ga K x, above K (He.ga K x))
def frVs : List Value → (List Value → Bool) → Bool
  | [], k => k []
  | v :: vs, k => match v with
    | .ref a => frA a fun a => frVs vs fun r => k (.ref a :: r)
    | .type t => frVs vs fun r => k (.type t :: r)
    | v => frVs vs fun r => k (v :: r)
def frRows (K : Frag) : List Str → (List (Addr × List Value) → Bool) → Bool
  | [], k => k []
  | x :: xs, k => frA (He.ga K x) fun C => frVs (above K C) fun bm => frRows K xs fun r => k ((C, bm) :: r)
end JgHd
namespace JgX
open PySem PySem.W PySem.Calls PyProof.Rows PySem.Spec L2
def kinTab (fam : Nat → Nat) (rows : List (Addr × List Value)) : Bool :=
  (rows.zipIdx).all fun r => (rows.zipIdx).all fun s => (Value.ref r.1.1 :: r.1.2).contains (.ref s.1.1) == (decide (r.2 = s.2) || decide (fam r.2 = s.2))
def tyTab (T : String) (under : Nat → Bool) (rows : List (Addr × List Value)) : Bool := (rows.zipIdx).all fun r => (Value.ref r.1.1 :: r.1.2).contains (.type T) == under r.2
end JgX
namespace JgHd
open PySem PySem.W PySem.Calls PyProof.Rows PySem.Spec L2
/-- the facts of a class that has instances, as one truth -/
def insB (K : Frag) (x : Str) : Bool := (He.Fa.cls x).ok K && (isB (findIn K (.ref (He.ga K x)) "__class__") (some (some (.builtin "object.__class__"))) && isB (mroIn K (He.ga K x) (.type "object")) (some true))
/-- which class is under which -/
def kitsB (K : Frag) (l : List (Addr × Nat)) : Bool := l.all fun p => (l.all fun q => decide (kitOne K (.ref p.1) (.ref q.1) = some (decide (p.2 = q.2)))) &&
  ((["str", "int", "bool", "list", "tuple", "dict"].all fun n => decide (kitOne K (.ref p.1) (.type n) = some false)) && (["NoneType", "bool", "int", "str", "list", "tuple", "dict"].all fun n => decide (kitOne K (.type n) (.ref p.1) = some false)))
def noatB (K : Frag) (C : Addr) (fs : List Str) : Bool := fs.all fun f => decide (findIn K (.ref C) f = some none)
end JgHd
namespace D06
open PySem PySem.Spec PyProof.Rows L2
def top (i : Nat) : Stmt := PySem.Challenge.pw_termshelf_k06_words_refused.main.body.getD i (.Pass ⟨0, 0, 0, 0⟩)
abbrev s_is_list : Stmt := top 8
abbrev s_is_whole : Stmt := top 9
abbrev s_consists_of : Stmt := top 10
abbrev s_is_name : Stmt := top 11
abbrev s_is_row : Stmt := top 15
abbrev s_are_rows : Stmt := top 16
abbrev s_Words___len__ : Stmt := inClass (top 17) 5
abbrev s_Words___init__ : Stmt := inClass (top 17) 0
abbrev s_law_cell : Stmt := top 19
abbrev s_law_box : Stmt := top 20
abbrev s_law_take : Stmt := top 21
abbrev s_law_names : Stmt := top 22
abbrev s_law_rows : Stmt := top 23
abbrev s_law_is_name : Stmt := top 26
abbrev s_law_are_words : Stmt := top 27
abbrev s_law_row_otherwise : Stmt := top 28
abbrev s_law_otherwise : Stmt := top 29
abbrev s_law_caught : Stmt := top 30
abbrev s_law : Stmt := top 31
abbrev xs_NoWords : Stmt := inClass (top 4) 0
abbrev PR : Program := (PySem.Challenge.rw_termshelf_k06_words_refused).prog
abbrev FILE : Str := PR.main.file
def fx0 (K : PySem.W.Frag) : Bool := ([JgHd.funB K (He.ga K "is_list") "is_list" [] [], JgHd.gloB K "is_list", JgHd.funB K (He.ga K "is_whole") "is_whole" [] [], JgHd.gloB K "is_whole", JgHd.funB K (He.ga K "_consists_of") "_consists_of" [] [], JgHd.gloB K "_consists_of", JgHd.funB K (He.ga K "is_name") "is_name" [] [], JgHd.gloB K "is_name", JgHd.funB K (He.ga K "_is_row") "_is_row" [] [], JgHd.gloB K "_is_row", JgHd.funB K (He.ga K "_are_rows") "_are_rows" [] [], JgHd.gloB K "_are_rows", JgHd.funB K (He.ma K (He.ga K "Words") "__len__") "Words.__len__" [] [], (He.Fa.meth "Words" "__len__").ok K, JgHd.funB K (He.ma K (He.ga K "Words") "__init__") "Words.__init__" [] [], (He.Fa.mkr "Words").ok K] : List Bool).all fun b => b
def fx1 (K : PySem.W.Frag) : Bool := ([JgHd.funB K (He.ga K "_law_cell") "_law_cell" [] [], JgHd.gloB K "_law_cell", JgHd.funB K (He.ga K "_law_box") "_law_box" [] [], JgHd.gloB K "_law_box", JgHd.funB K (He.ga K "_law_take") "_law_take" [] [], JgHd.gloB K "_law_take", JgHd.funB K (He.ga K "_law_names") "_law_names" [] [], JgHd.gloB K "_law_names", JgHd.funB K (He.ga K "_law_rows") "_law_rows" [] [], JgHd.gloB K "_law_rows", JgHd.funB K (He.ga K "_law_is_name") "_law_is_name" [] [], JgHd.gloB K "_law_is_name", JgHd.funB K (He.ga K "_law_are_words") "_law_are_words" [] [], JgHd.gloB K "_law_are_words", JgHd.funB K (He.ga K "_law_row_otherwise") "_law_row_otherwise" [] [], JgHd.gloB K "_law_row_otherwise"] : List Bool).all fun b => b
def fx2 (K : PySem.W.Frag) : Bool := ([JgHd.funB K (He.ga K "_law_otherwise") "_law_otherwise" [] [], JgHd.gloB K "_law_otherwise", JgHd.funB K (He.ga K "_law_caught") "_law_caught" [] [], JgHd.gloB K "_law_caught", JgHd.funB K (He.ga K "law") "law" [] [], JgHd.gloB K "law", JgHd.takB K, JgHd.gloB K "Words", JgHd.ctB K "NoWords" "ValueError.__new__" "ValueError.__init__" "ValueError" [.type "ValueError", .type "Exception", .type "BaseException", .type "object"] "found" "NoWords.__init__" FILE, JgHd.gloB K "TermError", JgHd.gloB K "Absent", (He.Fa.exm "NoWords" "NoWords" true).ok K, JgHd.isB (PySem.W.nsIn K cStatics "thirdparty.any") (some none), JgHd.freeB K "super", JgHd.freeB K "all", JgHd.freeB K "bool"] : List Bool).all fun b => b
def fx3 (K : PySem.W.Frag) : Bool := ([JgHd.freeB K "dict", JgHd.freeB K "enumerate", JgHd.freeB K "int", JgHd.freeB K "isinstance", JgHd.freeB K "len", JgHd.freeB K "list", JgHd.freeB K "max", JgHd.freeB K "min", JgHd.freeB K "range", JgHd.freeB K "repr", JgHd.freeB K "str", JgHd.freeB K "tuple", (He.Fa.str "_SMALL" "abcdefghijklmnopqrstuvwxyz").ok K, (He.Fa.int "_MOST_NAME" (8)).ok K, (He.Fa.int "MOST_PLACES" (4)).ok K, (He.Fa.int "_MOST_WORDS" (12)).ok K] : List Bool).all fun b => b
def fx4 (K : PySem.W.Frag) : Bool := ([decide ((([(He.ga K "Words", 1)] : List (Addr × Nat)).map (·.1)).Nodup), decide ((([(He.ga K "NoWords", 2)] : List (Addr × Nat)).map (·.1)).Nodup), JgHd.kitsB K [(He.ga K "Words", 1)], JgHd.insB K "Words", JgHd.noatB K (He.ga K "Words") ["_rows", "_places", "_order", "_ranks"], (K.lookup sysModules).isSome] : List Bool).all fun b => b
abbrev LO : Nat := 200
abbrev HI : Nat := 280
def fx (K : PySem.W.Frag) : Bool := ([fx0 K, fx1 K, fx2 K, fx3 K, fx4 K] : List Bool).all fun b => b
def ad0 : List (PySem.W.Frag → Addr) := [JgHd.gA "is_list", JgHd.gA "is_whole", JgHd.gA "_consists_of", JgHd.gA "is_name", JgHd.gA "_is_row", JgHd.gA "_are_rows", JgHd.mA "Words" "__len__", JgHd.mA "Words" "__init__", JgHd.gA "_law_cell", JgHd.gA "_law_box", JgHd.gA "_law_take", JgHd.gA "_law_names", JgHd.gA "_law_rows", JgHd.gA "_law_is_name", JgHd.gA "_law_are_words", JgHd.gA "_law_row_otherwise"]
def ad1 : List (PySem.W.Frag → Addr) := [JgHd.gA "_law_otherwise", JgHd.gA "_law_caught", JgHd.gA "law", JgHd.mA "NoWords" "__init__"]
def ad : List (PySem.W.Frag → Addr) := ad0 ++ ad1
def vsx0 : List (JgHd.FnV) := [JgHd.textV "is_list" "is_list" (defArgs s_is_list) (defBody s_is_list) (defScope s_is_list) [], JgHd.textV "is_whole" "is_whole" (defArgs s_is_whole) (defBody s_is_whole) (defScope s_is_whole) [], JgHd.textV "_consists_of" "_consists_of" (defArgs s_consists_of) (defBody s_consists_of) (defScope s_consists_of) [], JgHd.textV "is_name" "is_name" (defArgs s_is_name) (defBody s_is_name) (defScope s_is_name) [], JgHd.textV "_is_row" "_is_row" (defArgs s_is_row) (defBody s_is_row) (defScope s_is_row) [], JgHd.textV "_are_rows" "_are_rows" (defArgs s_are_rows) (defBody s_are_rows) (defScope s_are_rows) [], JgHd.textV "__len__" "Words.__len__" (defArgs s_Words___len__) (defBody s_Words___len__) (defScope s_Words___len__) [], JgHd.textV "__init__" "Words.__init__" (defArgs s_Words___init__) (defBody s_Words___init__) (defScope s_Words___init__) [], JgHd.textV "_law_cell" "_law_cell" (defArgs s_law_cell) (defBody s_law_cell) (defScope s_law_cell) [], JgHd.textV "_law_box" "_law_box" (defArgs s_law_box) (defBody s_law_box) (defScope s_law_box) [], JgHd.textV "_law_take" "_law_take" (defArgs s_law_take) (defBody s_law_take) (defScope s_law_take) [], JgHd.textV "_law_names" "_law_names" (defArgs s_law_names) (defBody s_law_names) (defScope s_law_names) [], JgHd.textV "_law_rows" "_law_rows" (defArgs s_law_rows) (defBody s_law_rows) (defScope s_law_rows) [], JgHd.textV "_law_is_name" "_law_is_name" (defArgs s_law_is_name) (defBody s_law_is_name) (defScope s_law_is_name) [], JgHd.textV "_law_are_words" "_law_are_words" (defArgs s_law_are_words) (defBody s_law_are_words) (defScope s_law_are_words) [], JgHd.textV "_law_row_otherwise" "_law_row_otherwise" (defArgs s_law_row_otherwise) (defBody s_law_row_otherwise) (defScope s_law_row_otherwise) []]
def vsx1 : List (JgHd.FnV) := [JgHd.textV "_law_otherwise" "_law_otherwise" (defArgs s_law_otherwise) (defBody s_law_otherwise) (defScope s_law_otherwise) [], JgHd.textV "_law_caught" "_law_caught" (defArgs s_law_caught) (defBody s_law_caught) (defScope s_law_caught) [], JgHd.textV "law" "law" (defArgs s_law) (defBody s_law) (defScope s_law) [], JgHd.textV "__init__" "NoWords.__init__" (defArgs xs_NoWords) (defBody xs_NoWords) (defScope xs_NoWords) ["__class__"]]
def vsx : List (JgHd.FnV) := vsx0 ++ vsx1
def names0 : List (Str) := [Str.ofString "_wall", Str.ofString "__name__", Str.ofString "TermError", Str.ofString "Absent", Str.ofString "NoWords", Str.ofString "_SMALL", Str.ofString "_MOST_NAME", Str.ofString "is_list", Str.ofString "is_whole", Str.ofString "_consists_of", Str.ofString "is_name", Str.ofString "MOST_PLACES", Str.ofString "_MOST_WORDS", Str.ofString "_is_row", Str.ofString "_are_rows", Str.ofString "Words"]
def names1 : List (Str) := [Str.ofString "_law_cell", Str.ofString "_law_box", Str.ofString "_law_take", Str.ofString "_law_names", Str.ofString "_law_rows", Str.ofString "_law_letters", Str.ofString "_law_signs", Str.ofString "_law_is_name", Str.ofString "_law_are_words", Str.ofString "_law_row_otherwise", Str.ofString "_law_otherwise", Str.ofString "_law_caught"]
def names : List (Str) := names0 ++ names1
abbrev RR : PySem.W.OpenRow := PySem.W.OpenLaw.row PySem.Challenge.rw_termshelf_k06_words_refused
abbrev hk : PySem.W.Hook := JgHd.hookJ LO HI fx ad vsx
def ob (s : PySem.W.SharedT) : JgHd.AlJ := JgHd.obsT LO HI fx ad s
set_option maxHeartbeats 0 in
theorem run (w : World) : HandSHeadRun.RunEq RR (PySem.W.view RR.prog [31]) hk ob 40000 names w := by
  intro os
  kernel_rfl
end D06
/-! The part that every law of the package shares: readings by steps, the bag of draws, repr, a def that may lean on the guards. -/
namespace Jg
open PySem PySem.Spec PyProof.Rows L2

/-! ### a def whose promise holds where no repr runs around it -/
structure FnG (P : Program) (w : World) (K : PySem.W.Frag) (mg : Str → Option Value) (base : Heap) (k : Nat) (f : Addr) (fd : FuncData) (ps : List Str) (sp : Sp) : Prop where
  many : ∀ vs H Q E, sp vs H Q E → vs.length = ps.length
  go : ∀ (A : Around) (outer : List Env) (s : Shared) (H : Hp) (args : Args) (us : List Value) (vs : List V) (Q : VK) (E : XK),
    Room k A → A.guards = some [] → Env0 P w K mg base A outer s H → BindsTo s fd args (ps.zip us) → Vals vs us → sp vs H Q E →
    codeAny (model P w) A (.call (.ref f) args) (CR CX0 outer P w H s Q E) s

theorem deeper_guards (A : Around) (env : Env) : (A.deeper env).guards = A.guards := rfl

section
variable {P : Program} {w : World} {K : PySem.W.Frag} {mg : Str → Option Value} {base : Heap}
/-- such a def by its body -/
theorem fnG_of {x qual : Str} {st : Stmt} {f : Addr} {fd : FuncData} {N ps : List Str} {k : Nat} {sp : Sp} (F : Fun K x qual st f fd) (S : FnScope N ps (defScope st))
    (len : ∀ vs H Q E, sp vs H Q E → vs.length = ps.length)
    (body : ∀ (cdv : Value) (A : Around) (outer : List Env) (s : Shared) (H : Hp) (vs : List V) (Q : VK) (E : XK),
      Room k (A.deeper (envOfC qual (defScope st) s.heap.objs.size f cdv)) → A.guards = some [] → sp vs H Q E →
      ∃ t, PSs (cxOf CX0 P w K mg base N qual (defScope st) f cdv A outer s H E).nox (defBody st) t ∧ t { nx := fun _ H' => Q .non H', rt := Q } (start N vs) H) :
    FnG P w K mg base (k + 1) f fd ps sp := by
  obtain ⟨oc, od, kV, doc, pm, an, cdv, ct, osl, efd, lk, hcd⟩ := F.ex
  subst efd
  refine ⟨len, fun A outer s H args us vs Q E room gua env bnd rel want => ?_⟩
  -- the promise at these guards alone, as one that any surroundings keep
  have hl := len _ _ _ _ want
  have kin : K.In s.heap := env.mod.kin.keeps fun b o e => (env.bs b o e).1
  have lim : s.heap.NoLimit := env.mod.nolimit.keeps fun b o e => (env.bs b o e).1
  have kinds : ∀ y ∈ ps.zip us, (defScope st).names.lookup y.1 = some .local ∨ ((defScope st).names.lookup y.1 = some .cell ∧ ((cellsFrom (s.heap.objs.size + 1) (defScope st).names []).lookup y.1).isSome = true) := by
    intro y hy
    obtain ⟨n, v⟩ := y
    have hp := S.par n (List.of_mem_zip hy).1
    cases hp with
    | inl q => exact Or.inl q
    | inr q => exact Or.inr ⟨q, PySem.W.cellsFrom_some _ _ _ (Or.inl q)⟩
  refine codeAny_call_function room.depth (kin _ _ lk) rfl S.co S.gen rfl (PySem.W.codeRec_of kin hcd) (bnd _ _ _ _ ?_)
  refine wpAny_newFunctionEnv_cells S.kind kinds ?_
  intro e2 he2 s1 x
  subst he2
  refine ⟨lim.keeps x.toInCall.keep, codeAny_func ?_⟩
  obtain ⟨t, ht, hq⟩ := body cdv A outer s H vs Q E (room.deeper _) gua want
  have I := inv_start (CX := CX0) (qual := qual) (f := f) (cd := cdv) (E := E) S room.hd env hl rel x
  refine wpAny_mono (ht.nox.run [] s1 (start N vs) H _ I hq) ?_ (fun e s' hs => hs)
  intro fl s' hs
  cases fl with
  | ret u =>
    obtain ⟨v, σ', H', J, rv, q⟩ := hs
    exact ⟨v, H', J.os, J.bare, J.base, J.hok, rv, q⟩
  | next =>
    obtain ⟨σ', H', J, q⟩ := hs
    exact ⟨V.non, H', J.os, J.bare, J.base, J.hok, rfl, q⟩
  | brk =>
    obtain ⟨σ', H', J, q⟩ := hs
    exact False.elim q
  | cont =>
    obtain ⟨σ', H', J, q⟩ := hs
    exact False.elim q
theorem FnG.of {k : Nat} {f : Addr} {fd : FuncData} {ps : List Str} {sp : Sp} (F : FnOk P w K mg base CX0 k f fd ps sp) : FnG P w K mg base k f fd ps sp :=
  ⟨F.len, fun A outer s H args us vs Q E room _ env bnd rel want => F.run A outer s H args us vs Q E room env bnd rel want⟩
end

section
variable {X : Cx} {k : Nat} {f : Addr} {fd : FuncData} {ps : List Str} {sp : Sp} {dvs : List V} {ds : List Value} {x : Str} {p pos : Pos} {e : Expr} {es : List Expr} {t : TA}
/-- f(..) of such a def -/
theorem pe_callG (F : FnG X.prog X.w X.K X.mg X.base k f fd ps sp) (room : Room k X.A) (gua : X.A.guards = some []) (hg : Gl X x) (hm : X.mg x = some (.ref f)) (hk : PySem.W.keepIn X.K (.ref f) = true)
    (hb : Binds X.K fd ps ds) (hd : Vals dvs ds) (args : PA X (e :: es) t) (hdb : (x == ("__debug__" : Str)) = false := by decide)
    (he : starEach (e :: es) X.env = (false, eval e X.env) :: starEach es X.env := by rfl) (hpl : (backTo pos (starEach es X.env)).any (·.1) = false := by rfl) :
    PE X (.Call (.Name x p) (e :: es) [] pos) (tCall sp dvs E0 t) := by
  constructor
  intro pins s σ H Q I h
  refine wpAny_Call_Name_kw (ld_glob I hg hm ?_ hdb)
  refine PySem.W.callWith_K (h₀ := X.base) I.ok.mod.kin hk (thn (args.run pos pins s σ H _ I h) ?_) he hpl
  rintro us s1 ⟨vs, H1, I1, rel, want⟩
  refine ⟨I1.kIn, ?_⟩
  have rel2 : Vals (vs ++ dvs) (us ++ ds) := rel.append hd
  have hl : (us ++ ds).length = ps.length := by
    rw [← rel2.length]
    exact F.many _ _ _ _ want
  refine wpAny_call (codeAny_mono (F.go X.A X.stack s1 H1 ⟨us, []⟩ (us ++ ds) (vs ++ dvs) Q E0 room gua I1.env0 (hb s1 us I1.kIn hl) rel2 want) ?_)
  intro r s' hq
  cases r with
  | error e => exact False.elim hq
  | ok fl =>
    cases fl with
    | ret u => exact I1.after hq
    | next => exact False.elim hq
    | brk => exact False.elim hq
    | cont => exact False.elim hq
end
end Jg
namespace Jg
open PySem PySem.Spec PyProof.Rows L2

theorem ns_hid {h : Heap} {H : Hp} {b : Addr} {m : Str → Option Value} (free : ∀ o es ep, h.get? b = some o → o.data = .dict es ep → H b = none) (n : h.Ns b m) : (hidT h H).Ns b m := by
  obtain ⟨o, es, ep, e, d, r⟩ := n
  exact ⟨o, es, ep, hidT_get e (free o es ep e d), d, r⟩
/-- the law's own call where the heap H speaks of the script alone -/
theorem call_at {P : Program} {w : World} {K : PySem.W.Frag} {mg mb : Str → Option Value} {k : Nat} {fa a : Addr} {fd : FuncData} {x : Str} {sp : Sp} {s : Shared} {items : Array Value} {H : Hp}
    (kin : K.In s.heap) (glob : s.heap.Ns mainGlobals mg) (bt : s.heap.Ns builtinsNs mb) (same : ∀ x : Str, x ≠ "__name__" → mb x = bootBuiltins x) (lim : s.heap.NoLimit) (gens : s.gens = #[])
    (scr : s.heap.get? a = some { cls := .type "list", data := .seq items }) (room : Room k callerA)
    (F : ∀ base : Heap, K.In base → base.Ns mainGlobals mg → FnG P w K mg base k fa fd [x] sp) (bnd : ∀ (s : Shared) (u : Value), BindsTo s fd ⟨[u], []⟩ [(x, u)])
    (only : Only H) (ok : HOk P w H s.heap) (here : ∀ b, H b ≠ none → b = a) (apart : H a ≠ none → K.lookup a = none)
    (want : sp [.ref a] H (fun v _ => v = .bl true) fun _ _ _ => False) :
    codeAny (model P w) callerA (.call (.ref fa) ⟨[.ref a], []⟩) (fun r s' => r = .ok (.ret (.bool true)) ∧ OldK s.heap s'.heap ∧ s'.os = s.os ∧ AllBare s'.gens) s := by
  have noDict : ∀ {b : Addr} {o : Obj} {es : Array DictEntry} {ep : Nat}, s.heap.get? b = some o → o.data = .dict es ep → H b = none := by
    intro b o es ep e d
    by_cases z : H b = none
    · exact z
    · have eb := here b z
      subst eb
      rw [scr] at e
      cases e
      cases d
  have base : Env0 P w K mg (hidT s.heap H) callerA [] s H := by
    refine ⟨rfl, ⟨?_, ns_hid (fun _ _ _ => noDict) glob, ⟨mb, ns_hid (fun _ _ _ => noDict) bt, same⟩, ?_⟩, fun b o e => of_hidT e, Nat.le_of_eq (hidT_size _ _), trivial, ?_, ok, .of_eq gens⟩
    · intro b o e
      refine hidT_get (kin b o e) ?_
      by_cases z : H b = none
      · exact z
      · have eb := here b z
        subst eb
        rw [apart z] at e
        cases e
    · obtain ⟨m, h1, h2⟩ := lim
      exact ⟨m, ns_hid (fun _ _ _ => noDict) h1, h2⟩
    · intro b hb
      exact absurd hb (List.not_mem_nil)
  refine codeAny_mono ((F _ base.mod.kin (ns_hid (fun _ _ _ => noDict) glob)).go callerA [] s H ⟨[.ref a], []⟩ [.ref a] [.ref a] _ _ room rfl base (bnd s (.ref a)) (.cons rfl .nil) want) ?_
  intro r s' h
  cases r with
  | error e => exact False.elim h
  | ok fl =>
    cases fl with
    | next => exact False.elim h
    | brk => exact False.elim h
    | cont => exact False.elim h
    | ret u =>
      obtain ⟨v, H', os, bare, un, ok', rel, q⟩ := h
      have q' : v = .bl true := q
      subst q'
      obtain rfl : u = Value.bool true := rel
      refine ⟨rfl, OldK.of_keep ?_, os, bare⟩
      intro b o e
      by_cases z : H b = none
      · exact un.keep b o e z (List.not_mem_nil) (List.not_mem_nil)
      · rcases only b with z2 | ⟨ob, xs, z2⟩
        · exact absurd z2 z
        · have z3 := un.frzs b ob _ z2
          have e1 := (ok b _ z2).1
          have e2 := (ok' b _ z3).1
          rw [e] at e1
          cases e1
          exact e2

theorem call_law {P : Program} {w : World} {K : PySem.W.Frag} {mg mb : Str → Option Value} {k : Nat} {fa a : Addr} {fd : FuncData} {x : Str} {sp : Sp} {s : Shared} {vs : List Value} {ns : List Int}
    (kin : K.In s.heap) (glob : s.heap.Ns mainGlobals mg) (bt : s.heap.Ns builtinsNs mb) (same : ∀ x : Str, x ≠ "__name__" → mb x = bootBuiltins x) (lim : s.heap.NoLimit) (gens : s.gens = #[])
    (scr : s.heap.get? a = some { cls := .type "list", data := .seq vs.toArray }) (hin : IntsAre vs ns) (len : ns.length ≤ sizeLine) (room : Room k callerA)
    (F : ∀ base : Heap, K.In base → base.Ns mainGlobals mg → FnG P w K mg base k fa fd [x] sp) (bnd : ∀ (s : Shared) (u : Value), BindsTo s fd ⟨[u], []⟩ [(x, u)])
    (want : ∀ H : Hp, Only H → SqL K H a (ns.map V.int) → sp [.ref a] H (fun v _ => v = .bl true) fun _ _ _ => False) :
    codeAny (model P w) callerA (.call (.ref fa) ⟨[.ref a], []⟩) (fun r s' => r = .ok (.ret (.bool true)) ∧ OldK s.heap s'.heap ∧ s'.os = s.os ∧ AllBare s'.gens) s := by
  have rel : Vals (ns.map V.int) vs := vals_ints hin
  have lenM : (ns.map V.int).length ≤ sizeLine := by
    rw [List.length_map]
    exact len
  by_cases hk : K.lookup a = none
  · let o : Obj := { cls := .type "list", data := .seq vs.toArray }
    let H : Hp := fun b => if b = a then some (.frz o (.lst (ns.map V.int))) else none
    have at_a : H a = some (.frz o (.lst (ns.map V.int))) := if_pos rfl
    have off : ∀ b, b ≠ a → H b = none := fun b hb => if_neg hb
    have on : Only H := by
      intro b
      by_cases hb : b = a
      · subst hb
        exact Or.inr ⟨_, _, at_a⟩
      · exact Or.inl (off b hb)
    have ok : HOk P w H s.heap := by
      intro b u e
      by_cases hb : b = a
      · subst hb
        rw [at_a] at e
        cases e
        exact ⟨scr, lenM, vs, _, rel, scr⟩
      · rw [off b hb] at e
        cases e
    have here : ∀ b, H b ≠ none → b = a := by
      intro b z
      by_cases hb : b = a
      · exact hb
      · exact absurd (off b hb) z
    exact call_at kin glob bt same lim gens scr room F bnd on ok here (fun _ => hk) (want H on (Or.inl (Or.inr ⟨o, at_a⟩)))
  · obtain ⟨o, ho⟩ := Option.ne_none_iff_exists'.mp hk
    have e := kin a o ho
    rw [scr] at e
    cases e
    let H : Hp := fun _ => none
    have on : Only H := fun _ => Or.inl rfl
    have ok : HOk P w H s.heap := fun b u e => by cases e
    have sq : SqL K H a (ns.map V.int) := Or.inr ⟨_, vs.toArray, _, ho, rfl, rfl, rfl, by rw [List.size_toArray, ← rel.length]; exact lenM, by simpa using rel⟩
    exact call_at kin glob bt same lim gens scr room F bnd on ok (fun b z => absurd rfl z) (fun z => absurd rfl z) (want H on sq)

/-- the goal behind the head, from the law's promise -/
theorem walkG {l : PySem.W.OpenLaw} {n k : Nat} {q : Program} {loose : List Str} {XP : (Str → Option Value) → Heap → Prop} {YP : World → Heap → Prop} {d : DefRec} {K : Params → PySem.W.Frag} {sp : PySem.W.Frag → Sp} {x : Str}
    (hn : l.most = some n) (hn2 : n ≤ sizeLine) (hdf : d.params.defaults = []) (room : Room k callerA)
    (hY : ∀ (w : World) (h : Heap), YP w h → (K w.params).In h)
    (F : ∀ (w : World) (mg : Str → Option Value) (fa : Addr) (h : Heap), (K w.params).In h → h.Ns mainGlobals mg → mg d.name = some (.ref fa) →
      ∃ fd : FuncData, (∀ (s : Shared) (u : Value), BindsTo s fd ⟨[u], []⟩ [(x, u)]) ∧
        ∀ base : Heap, (K w.params).In base → base.Ns mainGlobals mg → FnG l.prog w (K w.params) mg base k fa fd [x] (sp (K w.params)))
    (want : ∀ (K : PySem.W.Frag) (H : Hp) (a : Addr) (ns : List Int), ns.length ≤ n → Only H → SqL K H a (ns.map V.int) → sp K [.ref a] H (fun v _ => v = .bl true) fun _ _ _ => False) :
    PySem.W.WalkO q loose XP YP l.row.toRowW d [] (fun f vs => PySem.call f vs) := by
  refine Att.attach_call hn hdf ?_
  intro w s₀ s₁ mg mb fa o pm cd doc a vs ns G Y ho hd hcd hmg hobj hints hlen hg
  have kin := hY w _ Y
  obtain ⟨fd, hb, hF⟩ := F w mg fa _ kin G.T.g hmg
  exact call_law kin G.T.g G.T.b G.T.builtins G.T.nolimit hg hobj hints (Nat.le_trans hlen hn2) room hF hb fun H on sq => want (K w.params) H a ns hlen on sq
end Jg
namespace Jg
open PySem PySem.Spec PyProof.Rows L2
/-! ### repr of data -/
def rRepr (K : PySem.W.Frag) : List V → Hp → VK → Prop := fun xs H Q => ∃ x d, xs = [x] ∧ Dp K H x d ∧ d.showable = true ∧ d.hasDict = false ∧ d.depth ≤ 60 ∧ d.shown.length ≤ sizeLine ∧ Q (.str d.shown) H
theorem call_repr {X : Cx} {K : PySem.W.Frag} (gua : X.A.guards = some []) (hu : X.A.units + 64 < cLine) (hK : X.K = K := by rfl) : CallR X (.builtin "repr") (rRepr K) := by
  subst hK
  intro pins s σ H xs us Q I rel h
  obtain ⟨x, d, rfl, hd, sh, nd, dp, sz, q⟩ := h
  obtain ⟨u, rfl, ru⟩ := vals1 rel
  obtain ⟨as, rd⟩ := Dp.reads I d x u hd ru
  have leaf : ∀ tk, EP X pins σ Q (.str d.shown tk) { s with toks := s.toks + 1 } := fun tk => ⟨.str d.shown, H, I.tok _, ⟨tk, rfl⟩, q⟩
  cases u with
  | ref a =>
    refine repr_of_reads' rd sh (PyData.noDict_hsm nd) gua (by omega) (fun b o e => e) ?_ sz
    intro h' u tk keep
    exact ⟨.str d.shown, H, I.kept keep, ⟨u, rfl⟩, q⟩
  | none =>
    cases rd
    simp only [PyData.shown] at leaf sz
    exact PySem.P.repr_of_none (leaf _)
  | bool b =>
    cases rd
    simp only [PyData.shown] at leaf sz
    exact PySem.P.repr_of_bool (leaf _)
  | int i t =>
    cases rd
    simp only [PyData.shown] at leaf sz
    exact PySem.P.repr_of_int (by simpa [PyData.showable] using sh) (leaf _)
  | str z t =>
    cases rd
    simp only [PyData.shown] at leaf sz
    exact PySem.P.repr_of_str (leaf _) sz
  | _ => cases rd
end Jg
namespace Jg
open PySem PySem.Spec L2
/-! ### operations by name -/
def rAddS : R2 := fun x y H Q => ∃ i j, x = .str i ∧ y = .str j ∧ i.length + j.length ≤ sizeLine ∧ Q (.str (i ++ j)) H
theorem op_addS {X : Cx} : OpR X (binaryOp .Add) rAddS := op_add_str
def rLen (K : PySem.W.Frag) : List V → Hp → VK → Prop := fun xs H Q => ∃ x n, xs = [x] ∧ LenV K x H n ∧ Q (.int n) H
theorem call_lenV {X : Cx} {K : PySem.W.Frag} (hK : X.K = K := by rfl) : CallR X (.builtin "len") (rLen K) := by
  subst hK
  intro pins s σ H xs us Q I rel h
  obtain ⟨x, n, e, l, q⟩ := h
  exact call_len pins s σ H xs us Q I rel ⟨x, n, e, l, q⟩
def rMax : List V → Hp → VK → Prop := fun xs H Q => ∃ i j, xs = [.int i, .int j] ∧ Q (.int (if j > i then j else i)) H
theorem call_maxV {X : Cx} (hc : X.calm = true) : CallR X (.builtin "max") rMax := call_max2 hc
def rMin : List V → Hp → VK → Prop := fun xs H Q => ∃ i j, xs = [.int i, .int j] ∧ Q (.int (if j < i then j else i)) H
theorem call_minV {X : Cx} (hc : X.calm = true) : CallR X (.builtin "min") rMin := call_min2 hc
def rInt : List V → Hp → VK → Prop := fun xs H Q => (∃ i, xs = [.int i] ∧ Q (.int i) H) ∨ ∃ k, xs = [.bl k] ∧ Q (.int (if k then 1 else 0)) H
theorem call_intV {X : Cx} : CallR X (.type "int") rInt := call_int1
def rIs : R2 := fun x y H Q => y = .non ∧ Q (.bl (decide (x = .non))) H
theorem op_isV {X : Cx} : OpR X (compareOp .Is) rIs := op_isN
def rIsNot : R2 := fun x y H Q => y = .non ∧ Q (.bl (!decide (x = .non))) H
theorem op_isNotV {X : Cx} : OpR X (compareOp .IsNot) rIsNot := op_notN
def rJoin (K : PySem.W.Frag) : V → List V → Hp → VK → Prop := fun x xs H Q => ∃ a p, ∃ ys : List Str, x = .str a ∧ xs = [.ref p] ∧ (SqL K H p (ys.map V.str) ∨ SqT K H p (ys.map V.str)) ∧
  (ys.map (·.length)).sum + ys.length * a.length ≤ 16777216 ∧ Q (.str (Txt.join a ys)) H
theorem mt_joinV {X : Cx} {K : PySem.W.Frag} (hK : X.K = K := by rfl) : MtR X "str.join" (rJoin K) := by
  subst hK
  exact mt_join
theorem ix_listV {X : Cx} {K : PySem.W.Frag} (hK : X.K = K := by rfl) : IxR X (rIxL K) := by
  subst hK
  exact ix_list
theorem ix_tupV {X : Cx} {K : PySem.W.Frag} (hK : X.K = K := by rfl) : IxR X (rIxT K) := by
  subst hK
  exact ix_tup
theorem call_isiV {X : Cx} {K : PySem.W.Frag} (hK : X.K = K := by rfl) : CallR X (.builtin "isinstance") (rIsi K) := by
  subst hK
  exact call_isi
def rSplit : V → List V → Hp → VK → Prop := fun x xs H Q => ∃ a b, x = .str a ∧ xs = [.str b] ∧ (b.length == 0) = false ∧ a.length + 2 ≤ sizeLine ∧ rNewStrs (Txt.split a b) H Q
theorem mt_splitV {X : Cx} : MtR X "str.split" rSplit := mt_split
/-! ### readings, a step each -/
section
variable {σ : L2.St} {H : Hp} {Q : VK} {B : Bool → Hp → Prop} {R : List V → Hp → Prop} {D : Ends} {i : Nat} {v x y : V} {ta tb te : TE} {t u c : TT} {ts ts2 : TS} {tas : TA} {b : Bool} {g : TG} {r : R2} {K : PySem.W.Frag}
theorem g_var (e : σ[i]? = some (some v)) (q : Q v H) : tVar i σ H Q := ⟨v, e, q⟩
theorem g_c (q : Q v H) : tC v σ H Q := q
theorem g_op (q : ta σ H fun x H1 => tb σ H1 fun y H2 => r x y H2 Q) : tOp r ta tb σ H Q := q
theorem g_un {r : V → Hp → VK → Prop} (q : ta σ H fun x H1 => r x H1 Q) : tUn r ta σ H Q := q
theorem g_I0 {g : Int → Int → V} {a b : Int} (q : Q (g a b) H) : rI0 g (.int a) (.int b) H Q := ⟨a, b, rfl, rfl, q⟩
theorem g_I {C : Int → Int → Prop} {g : Int → Int → V} {a b : Int} (h : C a b) (q : Q (g a b) H) : rI C g (.int a) (.int b) H Q := ⟨a, b, rfl, rfl, h, q⟩
theorem g_addS {a b : Str} (h : a.length + b.length ≤ sizeLine) (q : Q (.str (a ++ b)) H) : rAddS (.str a) (.str b) H Q := ⟨a, b, rfl, rfl, h, q⟩
theorem g_eq (h : scal x y = true) (q : Q (.bl (decide (x = y))) H) : rEq x y H Q := ⟨h, q⟩
theorem g_ne (h : scal x y = true) (q : Q (.bl (!decide (x = y))) H) : rNe x y H Q := ⟨h, q⟩
theorem g_is (q : Q (.bl (decide (x = .non))) H) : rIs x .non H Q := ⟨rfl, q⟩
theorem g_isNot (q : Q (.bl (!decide (x = .non))) H) : rIsNot x .non H Q := ⟨rfl, q⟩
theorem g_test (q : ta σ H fun x H' => ∃ k, x = .bl k ∧ B k H') : tTest ta σ H B := q
theorem g_B (q : ta σ H fun x H' => ∃ k, x = .bl k ∧ B k H') : tB ta σ H B := q
theorem g_bl {B : Bool → Prop} (q : B b) : ∃ k, V.bl b = .bl k ∧ B k := ⟨b, rfl, q⟩
theorem g_not (q : t σ H fun c H1 => B (!c) H1) : tNot t σ H B := q
theorem g_and (q : t σ H fun c H1 => if c = true then u σ H1 B else B false H1) : tAnd t u σ H B := q
theorem g_or (q : t σ H fun c H1 => if c = true then B true H1 else u σ H1 B) : tOr t u σ H B := q
theorem g_notV (q : ta σ H fun x H1 => ∃ c, x = .bl c ∧ Q (.bl (!c)) H1) : tNotV ta σ H Q := q
theorem g_andV (q : ta σ H fun x H1 => ∃ c, x = .bl c ∧ if c = true then tb σ H1 Q else Q (.bl false) H1) : tAndV ta tb σ H Q := q
theorem g_orV (q : ta σ H fun x H1 => ∃ c, x = .bl c ∧ if c = true then Q (.bl true) H1 else tb σ H1 Q) : tOrV ta tb σ H Q := q
theorem g_if (q : t σ H fun c H1 => if c = true then ta σ H1 Q else tb σ H1 Q) : tIf t ta tb σ H Q := q
theorem g_nil (q : R [] H) : tNil σ H R := q
theorem g_cons (q : ta σ H fun x H1 => tas σ H1 fun xs H2 => R (x :: xs) H2) : tCons ta tas σ H R := q
theorem g_lst (q : tas σ H fun xs H1 => xs.length ≤ sizeLine ∧ ∀ p, H1 p = none → Q (.ref p) (upd H1 p (.lst xs))) : tLst tas σ H Q := q
theorem g_tup (q : tas σ H fun xs H1 => xs.length ≤ sizeLine ∧ ∀ p, H1 p = none → Q (.ref p) (upd H1 p (.tup xs))) : tTup tas σ H Q := q
theorem g_call {sp : Sp} {dvs : List V} {E : XK} (q : tas σ H fun vs H1 => sp (vs ++ dvs) H1 Q E) : tCall sp dvs E tas σ H Q := q
theorem g_CB {r : List V → Hp → VK → Prop} (q : tas σ H fun vs H1 => r vs H1 Q) : tCB r tas σ H Q := q
theorem g_int {a : Int} (q : Q (.int a) H) : rInt [.int a] H Q := Or.inl ⟨a, rfl, q⟩
theorem g_intB {k : Bool} (q : Q (.int (if k then 1 else 0)) H) : rInt [.bl k] H Q := Or.inr ⟨k, rfl, q⟩
theorem g_lenS {z : Str} (h : z.length ≤ sizeLine) (q : Q (.int z.length) H) : rLen K [.str z] H Q := ⟨_, z.length, rfl, ⟨h, rfl⟩, q⟩
theorem g_lenL {p : Addr} {xs : List V} (h : SqL K H p xs) (q : Q (.int xs.length) H) : rLen K [.ref p] H Q := ⟨_, xs.length, rfl, Or.inl ⟨xs, h, rfl⟩, q⟩
theorem g_lenT {p : Addr} {xs : List V} (h : SqT K H p xs) (q : Q (.int xs.length) H) : rLen K [.ref p] H Q := ⟨_, xs.length, rfl, Or.inr ⟨xs, h, rfl⟩, q⟩
theorem g_max {a b : Int} (q : Q (.int (if b > a then b else a)) H) : rMax [.int a, .int b] H Q := ⟨a, b, rfl, q⟩
theorem g_min {a b : Int} (q : Q (.int (if b < a then b else a)) H) : rMin [.int a, .int b] H Q := ⟨a, b, rfl, q⟩
theorem g_ixL {p : Addr} {xs : List V} {k : Int} (h : SqL K H p xs) (e : atI xs k = some v) (q : Q v H) : rIxL K (.ref p) (.int k) H Q := ⟨p, xs, k, v, rfl, rfl, h, e, q⟩
theorem g_ixT {p : Addr} {xs : List V} {k : Int} (h : SqT K H p xs) (e : atI xs k = some v) (q : Q v H) : rIxT K (.ref p) (.int k) H Q := ⟨p, xs, k, v, rfl, rfl, h, e, q⟩
theorem g_ixS {z : Str} {k : Int} {cp : Nat} (h : z.length ≤ sizeLine) (e : atI z.cps.toList k = some cp) (q : Q (.str ⟨#[cp]⟩) H) : rIxS (.str z) (.int k) H Q := ⟨z, k, cp, rfl, rfl, h, e, q⟩
theorem g_repr {d : PyData} (hd : Dp K H x d) (sh : d.showable = true) (nd : d.hasDict = false) (dp : d.depth ≤ 60) (sz : d.shown.length ≤ sizeLine) (q : Q (.str d.shown) H) : rRepr K [x] H Q := ⟨x, d, rfl, hd, sh, nd, dp, sz, q⟩
theorem g_isi {c : V} {ty k : Value} (kc : ClsV c k) (tx : TyX K H x ty) (e : PySem.W.kitOne K ty k = some b) (q : Q (.bl b) H) : rIsi K [x, c] H Q := ⟨x, c, ty, k, b, rfl, kc, tx, e, q⟩
/-! statements -/
theorem s_seq (q : ts { D with nx := ts2 D } σ H) : tSeq ts ts2 D σ H := q
theorem s_next (q : D.nx σ H) : tNext D σ H := q
theorem s_brk (q : D.bk σ H) : tBreak D σ H := q
theorem s_cont (q : D.ct σ H) : tCont D σ H := q
theorem s_drop (q : te σ H fun _ H1 => D.nx σ H1) : tDrop te D σ H := q
theorem s_ret (q : te σ H D.rt) : tRet te D σ H := q
theorem s_retN (q : D.rt .non H) : tRetN D σ H := q
theorem s_if (q : c σ H fun b H1 => if b = true then ts D σ H1 else ts2 D σ H1) : tIfS c ts ts2 D σ H := q
theorem s_asg (q : te σ H fun x H1 => g x σ H1 D.nx) : tAsg te g D σ H := q
theorem s_name {N : St → Hp → Prop} (q : N (σ.set i (some v)) H) : gName i v σ H N := q
theorem s_sub {to ti : TE} {t : TSet} {N : St → Hp → Prop} (q : to σ H fun o H1 => ti σ H1 fun i H2 => t o i v H2 fun H3 => N σ H3) : gSub to ti t v σ H N := q
theorem s_setL {p : Addr} {xs : List V} {k : Int} {j : Nat} {N : Hp → Prop} (h : H p = some (.lst xs)) (e : ixN xs.length k = some j) (q : N (upd H p (.lst (xs.set j v)))) : rSetL (.ref p) (.int k) v H N := ⟨p, xs, k, j, rfl, rfl, h, e, q⟩
theorem s_append {p : Addr} {xs : List V} (h : H p = some (.lst xs)) (l : xs.length < sizeLine) (q : Q .non (upd H p (.lst (xs ++ [v])))) : rAppend (.ref p) [v] H Q := ⟨p, xs, v, rfl, rfl, h, l, q⟩
theorem g_BM {T : String} {r : V → List V → Hp → VK → Prop} (q : ta σ H fun x H1 => tyV K T x H1 ∧ tas σ H1 fun xs H2 => r x xs H2 Q) : tBM K T r ta tas σ H Q := q
theorem g_M1 {r : V → List V → Hp → VK → Prop} (q : ta σ H fun x H1 => (∃ a, x = .str a) ∧ tb σ H1 fun y H2 => r x [y] H2 Q) : tM1 r ta tb σ H Q := q
theorem g_str {s : Str} {A : Prop} (q : A) : (∃ a, V.str s = .str a) ∧ A := ⟨⟨s, rfl⟩, q⟩
theorem g_sl {r : V → Option Int → Option Int → Hp → VK → Prop} {tl th : TO} (q : ta σ H fun x H1 => tl σ H1 fun l H2 => th σ H2 fun u H3 => r x l u H3 Q) : tSl r ta tl th σ H Q := q
theorem g_noPart {N : Option Int → Hp → Prop} (q : N none H) : tNoPart σ H N := q
theorem g_part {N : Option Int → Hp → Prop} (q : ta σ H fun x H1 => ∃ i, x = .int i ∧ N (some i) H1) : tPart ta σ H N := q
theorem g_ex {N : Int → Prop} {a : Int} (q : N a) : ∃ i, V.int a = .int i ∧ N i := ⟨a, rfl, q⟩
theorem g_slS {z : Str} {l h : Option Int} (hz : z.length ≤ sizeLine) (q : Q (.str (cutS z l h)) H) : rSlS (.str z) l h H Q := ⟨z, rfl, hz, q⟩
theorem g_true {A B : Prop} (q : A) : if true = true then A else B := by
  rw [if_pos rfl]
  exact q
theorem g_false {A B : Prop} (q : B) : if false = true then A else B := by
  rw [if_neg Bool.false_ne_true]
  exact q
theorem g_yes {c A B : Prop} [Decidable c] (h : c) (q : A) : if decide c = true then A else B := by
  rw [decide_eq_true h, if_pos rfl]
  exact q
theorem g_no {c A B : Prop} [Decidable c] (h : ¬ c) (q : B) : if decide c = true then A else B := by
  rw [decide_eq_false h, if_neg Bool.false_ne_true]
  exact q
theorem g_two {c A B : Prop} [Decidable c] (h1 : c → A) (h2 : ¬ c → B) : if decide c = true then A else B := by
  by_cases h : c
  · exact g_yes h (h1 h)
  · exact g_no h (h2 h)
theorem g_way {c : Bool} {A B : Prop} (h1 : c = true → A) (h2 : c = false → B) : if c = true then A else B := by
  cases c with
  | true => exact g_true (h1 rfl)
  | false => exact g_false (h2 rfl)
end
end Jg
namespace Jg
open PySem PySem.Spec L2
/-! ### the bag of draws -/
/-- a bag stands at p: what is left of the cell, its rest, how many were mixed, n at most -/
def Bg (H : Hp) (p : Addr) (n : Nat) : Prop := ∃ a b c : Int, H p = some (.lst [.int a, .int b, .int c]) ∧ 0 ≤ b ∧ b < 2147483629 ∧ 0 ≤ c ∧ c ≤ (n : Int)
theorem Bg.mono {H : Hp} {p : Addr} {n m : Nat} (B : Bg H p n) (h : n ≤ m) : Bg H p m := by
  obtain ⟨a, b, c, e, h1, h2, h3, h4⟩ := B
  exact ⟨a, b, c, e, h1, h2, h3, by omega⟩
/-- all but the bag is as it was -/
def Mv (p : Addr) (H H' : Hp) : Prop := ∀ b o, b ≠ p → H b = some o → H' b = some o
theorem Mv.refl (p : Addr) (H : Hp) : Mv p H H := fun _ _ _ h => h
theorem Mv.trans {p : Addr} {H H1 H2 : Hp} (a : Mv p H H1) (b : Mv p H1 H2) : Mv p H H2 := fun x o hx h => b x o hx (a x o hx h)
theorem Mv.upd (p : Addr) (H : Hp) (o : HO) : Mv p H (upd H p o) := fun b u hb h => by
  rw [upd_ne hb]
  exact h
theorem Mv.new {p q : Addr} {H : Hp} {o : HO} (h : H q = none) : Mv p H (L2.upd H q o) := fun b u hb e => by
  rw [upd_ne (ne_of_none e h)]
  exact e
theorem Bg.some {H : Hp} {p : Addr} {n : Nat} (B : Bg H p n) : ∃ o, H p = some o := by
  obtain ⟨a, b, c, e, _⟩ := B
  exact ⟨_, e⟩
theorem Bg.ne {H : Hp} {p q : Addr} {n : Nat} (B : Bg H p n) (h : H q = none) : q ≠ p := by
  obtain ⟨o, e⟩ := B.some
  exact (ne_of_none e h).symm
theorem Bg.new {H : Hp} {p q : Addr} {n : Nat} {o : HO} (B : Bg H p n) (h : H q = none) : Bg (L2.upd H q o) p n := by
  obtain ⟨a, b, c, e, r⟩ := B
  exact ⟨a, b, c, by rw [upd_ne (ne_of_none e h)]; exact e, r⟩
theorem Bg.off {H : Hp} {p q : Addr} {n : Nat} {o : HO} (B : Bg H p n) (h : q ≠ p) : Bg (L2.upd H q o) p n := by
  obtain ⟨a, b, c, e, r⟩ := B
  exact ⟨a, b, c, by rw [upd_ne h.symm]; exact e, r⟩
/-- what is free behind was free ahead -/
theorem Mv.free {p q : Addr} {H H' : Hp} {n : Nat} (m : Mv p H H') (B : Bg H' p n) (h : H' q = none) : H q = none := by
  have hq := B.ne h
  cases e : H q with
  | none => rfl
  | some o =>
    rw [m q o hq e] at h
    cases h
theorem Mv.sq {K : PySem.W.Frag} {p q : Addr} {H H' : Hp} {xs : List V} {n : Nat} (m : Mv p H H') (hq : q ≠ p) (h : SqL K H q xs) : SqL K H' q xs := by
  rcases h with (h | ⟨o, h⟩) | h
  · exact Or.inl (Or.inl (m _ _ hq h))
  · exact Or.inl (Or.inr ⟨o, m _ _ hq h⟩)
  · exact Or.inr h
end Jg
namespace Jg
open PySem PySem.Spec L2
/-! ### loops and comprehensions -/
/-- what a comprehension asks once its source stands -/
def lcB (g : TG) (tt : TT) (te : TE) (vs : List Nat) (σ : L2.St) (Q : VK) : It → Hp → Prop := fun J H1 => ∀ D, H1 D = none → ∃ W : Nat → Nat → Hp → Prop, (∃ m, W 0 m (upd H1 D (.lst []))) ∧ ∀ i m H, W i m H →
  (J.stop i H ∧ Q (.ref D) H) ∨ (J.go i H ∧ ∃ Nx : Hp → Prop, (∀ H', Nx H' → ∃ m', m' < m ∧ W (i + 1) m' H') ∧ ∀ x H', J.yld i H x H' → g x (wipe σ vs) H' fun σ2 H2 => wipe σ2 vs = wipe σ vs ∧ tt σ2 H2 fun b H3 =>
    if b = true then te σ2 H3 fun y H4 => ∃ acc, H4 D = some (.lst acc) ∧ acc.length < sizeLine ∧ Nx (upd H4 D (.lst (acc ++ [y]))) else Nx H3)
/-- what a for asks -/
def forB (g : TG) (tb : TS) (D : Ends) (σ : L2.St) : It → Hp → Prop := fun J H1 => ∃ W : Nat → Nat → L2.St → Hp → Prop, (∃ m, W 0 m σ H1) ∧ ∀ i m σ H, W i m σ H →
  (J.stop i H ∧ D.nx σ H) ∨ (J.go i H ∧ ∃ N : L2.St → Hp → Prop, (∀ σ' H', N σ' H' → ∃ m', m' < m ∧ W (i + 1) m' σ' H') ∧ ∀ x H', J.yld i H x H' → g x σ H' fun σ2 H2 => tb { D with nx := N, ct := N, bk := D.nx } σ2 H2)
section
variable {σ : L2.St} {H : Hp} {Q : VK} {D : Ends} {wi : TI} {g : TG} {tt : TT} {te : TE} {vs : List Nat} {tb : TS} {ta : TA} {tl : TE} {R : It → Hp → Prop} {K : PySem.W.Frag} {i : Nat}
theorem g_lc (q : wi σ H (lcB g tt te vs σ Q)) : tLc wi g tt te vs σ H Q := q
theorem s_for (q : wi σ H (forB g tb D σ)) : tFor wi g tb D σ H := q
theorem g_rng1 (q : ta σ H fun vs H1 => ∃ j : Int, vs = [.int j] ∧ -(2 ^ 62) ≤ j ∧ j < 2 ^ 62 ∧ R (Itr 0 j.toNat) H1) : iRng1 ta σ H R := q
theorem g_rngN {j : Int} (h : 0 ≤ j ∧ j < 2 ^ 62) (q : R (Itr 0 j.toNat) H) : ∃ j' : Int, [V.int j] = [.int j'] ∧ -(2 ^ 62) ≤ j' ∧ j' < 2 ^ 62 ∧ R (Itr 0 j'.toNat) H := ⟨j, rfl, by omega, h.2, q⟩
theorem g_iList (q : tl σ H fun x H1 => ∃ a, x = .ref a ∧ (∃ xs, SqL K H1 a xs) ∧ R (Itl K a) H1) : iList K tl σ H R := q
theorem g_iTup (q : tl σ H fun x H1 => ∃ a, x = .ref a ∧ (∃ xs, SqT K H1 a xs) ∧ R (Itt K a) H1) : iTup K tl σ H R := q
theorem g_itl {a : Addr} {xs : List V} (h : SqL K H a xs) (q : R (Itl K a) H) : ∃ a', V.ref a = .ref a' ∧ (∃ xs, SqL K H a' xs) ∧ R (Itl K a') H := ⟨a, rfl, ⟨xs, h⟩, q⟩
theorem g_itt {a : Addr} {xs : List V} (h : SqT K H a xs) (q : R (Itt K a) H) : ∃ a', V.ref a = .ref a' ∧ (∃ xs, SqT K H a' xs) ∧ R (Itt K a') H := ⟨a, rfl, ⟨xs, h⟩, q⟩
theorem g_iStr (q : tl σ H fun v H1 => ∃ x, v = .str x ∧ R (Its x) H1) : iStr tl σ H R := q
theorem g_its {z : Str} (q : R (Its z) H) : ∃ x, V.str z = .str x ∧ R (Its x) H := ⟨z, rfl, q⟩
theorem g_tyes {B : Bool → Hp → Prop} (q : B true H) : tYes σ H B := q
/-- [f x for x in xs], f without a trace: a new list of what comes -/
theorem lc_pure {a : Addr} {xs : List V} (f : V → V) (sq : SqL K H a xs) (hn : xs.length < sizeLine) (wv : ∀ x, wipe ((wipe σ [i]).set i (some x)) [i] = wipe σ [i])
    (hs : ∀ x ∈ xs, ∀ (H2 : Hp) (R : VK), Same H H2 → R (f x) H2 → te ((wipe σ [i]).set i (some x)) H2 R)
    (q : ∀ D, H D = none → Q (.ref D) (upd H D (.lst (xs.map f)))) : lcB (gName i) tYes te [i] σ Q (Itl K a) H := by
  intro D hD
  refine lc_list (xs := xs) (fun j H2 => H2 = upd H D (.lst ((xs.take j).map f))) (by rw [List.take_zero, List.map_nil]) ?_ ?_ ?_
  · rintro j H2 hj rfl
    rcases sq with (h | ⟨o, h⟩) | h
    · exact Or.inl (Or.inl (by rw [upd_ne (ne_of_none h hD)]; exact h))
    · exact Or.inl (Or.inr ⟨o, by rw [upd_ne (ne_of_none h hD)]; exact h⟩)
    · exact Or.inr h
  · rintro j x H2 hx rfl
    refine ⟨wv x, ?_⟩
    with_reducible refine g_tyes ?_
    with_reducible refine g_true ?_
    refine hs x (List.mem_of_getElem? hx) _ _ (fun b o e => by rw [upd_ne (ne_of_none e hD)]; exact e) ?_
    refine ⟨_, upd_same, ?_, ?_⟩
    · rw [List.length_map]
      exact Nat.lt_of_le_of_lt (List.length_take_le' _ _) hn
    · rw [upd_upd, List.take_add_one, hx, List.map_append]
      rfl
  · rintro H2 rfl
    rw [List.take_length]
    exact q D hD
/-- [f(bag) for k in range(n)]: the bag stands at p, each draw at most c -/
theorem lc_draw {p : Addr} {n b0 c : Nat} (E : V → Prop) (hn : n < sizeLine) (B : Bg H p b0) (wv : ∀ x, wipe ((wipe σ [i]).set i (some x)) [i] = wipe σ [i])
    (hs : ∀ (j : Nat) (H2 : Hp) (R : VK), j < n → Bg H2 p (b0 + j * c) → Mv p H H2 → (∀ y H3, E y → Bg H3 p (b0 + (j + 1) * c) → Mv p H2 H3 → R y H3) → te ((wipe σ [i]).set i (some (.int (0 + (j : Nat))))) H2 R)
    (q : ∀ D H' ys, H D = none → D ≠ p → ys.length = n → (∀ y ∈ ys, E y) → H' D = some (.lst ys) → Bg H' p (b0 + n * c) → Mv p H H' → Q (.ref D) H') : lcB (gName i) tYes te [i] σ Q (Itr 0 n) H := by
  intro D hD
  have nD := B.ne hD
  refine lc_range (lo := 0) (n := n) (fun j H2 => ∃ ys, ys.length = j ∧ (∀ y ∈ ys, E y) ∧ H2 D = some (.lst ys) ∧ Bg H2 p (b0 + j * c) ∧ Mv p H H2) ⟨[], rfl, by simp, upd_same, by simpa using B.new hD, Mv.new hD⟩ ?_ ?_
  · rintro j H2 hj ⟨ys, l, he, hd, B2, m⟩
    refine ⟨wv _, ?_⟩
    with_reducible refine g_tyes ?_
    with_reducible refine g_true ?_
    refine hs j H2 _ hj B2 m ?_
    intro y H3 ey B3 m3
    refine ⟨ys, m3 _ _ nD hd, by omega, ys ++ [y], by rw [List.length_append, l]; rfl, ?_, upd_same, B3.off nD, ?_⟩
    · intro z hz
      rcases List.mem_append.mp hz with h | h
      · exact he z h
      · rw [List.mem_singleton.mp h]
        exact ey
    · intro b o hb e
      rw [upd_ne (ne_of_none e hD)]
      exact m3 b o hb (m b o hb e)
  · rintro H2 ⟨ys, l, he, hd, B2, m⟩
    exact q D H2 ys hD nD l he hd B2 m
end
/-! ### signs -/
def rInC : R2 := fun x y H Q => ∃ c z, x = .str ⟨#[c]⟩ ∧ y = .str z ∧ Q (.bl (decide (c ∈ z.cps.toList))) H
theorem op_inC {X : Cx} : OpR X (compareOp .In) rInC := op_in_sign
theorem g_inC {H : Hp} {Q : VK} {c : Nat} {x z : Str} (e : x = ⟨#[c]⟩) (q : Q (.bl (decide (c ∈ z.cps.toList))) H) : rInC (.str x) (.str z) H Q := ⟨c, z, by rw [e], rfl, q⟩
def rInL (K : PySem.W.Frag) : R2 := rIn K false
theorem op_inL {X : Cx} {K : PySem.W.Frag} (hK : X.K = K := by rfl) : OpR X (compareOp .In) (rInL K) := by
  subst hK
  exact op_in_seq
theorem g_inL {K : PySem.W.Frag} {H : Hp} {Q : VK} {x : V} {p : Addr} {xs : List V} (h : SqL K H p xs) (fx : flatV x = true) (fs : xs.all flatV = true) (q : Q (.bl (inV x xs)) H) : rInL K x (.ref p) H Q := ⟨p, xs, rfl, Or.inl h, fx, fs, q⟩
def rAnyB (K : PySem.W.Frag) : List V → Hp → VK → Prop := fun xs H Q => ∃ (a : Addr) (bs : List Bool), xs = [.ref a] ∧ SqL K H a (bs.map V.bl) ∧ Q (.bl (bs.any id)) H
theorem call_any {X : Cx} {K : PySem.W.Frag} (hc : X.calm = true) (hK : X.K = K := by rfl) : CallR X (.builtin "any") (rAnyB K) := by
  subst hK
  exact cr_any hc
def rAllB (K : PySem.W.Frag) : List V → Hp → VK → Prop := fun xs H Q => ∃ (a : Addr) (bs : List Bool), xs = [.ref a] ∧ SqL K H a (bs.map V.bl) ∧ Q (.bl (bs.all id)) H
theorem call_all {X : Cx} {K : PySem.W.Frag} (hc : X.calm = true) (hK : X.K = K := by rfl) : CallR X (.builtin "all") (rAllB K) := by
  subst hK
  exact cr_all hc
theorem g_any {K : PySem.W.Frag} {H : Hp} {Q : VK} {a : Addr} {bs : List Bool} (h : SqL K H a (bs.map V.bl)) (q : Q (.bl (bs.any id)) H) : rAnyB K [.ref a] H Q := ⟨a, bs, rfl, h, q⟩
theorem g_all {K : PySem.W.Frag} {H : Hp} {Q : VK} {a : Addr} {bs : List Bool} (h : SqL K H a (bs.map V.bl)) (q : Q (.bl (bs.all id)) H) : rAllB K [.ref a] H Q := ⟨a, bs, rfl, h, q⟩
theorem g_join {K : PySem.W.Frag} {H : Hp} {Q : VK} {a : Str} {p : Addr} {ys : List Str} (h : SqL K H p (ys.map V.str)) (l : (ys.map (·.length)).sum + ys.length * a.length ≤ 16777216) (q : Q (.str (Txt.join a ys)) H) : rJoin K (.str a) [.ref p] H Q := ⟨a, p, ys, rfl, rfl, Or.inl h, l, q⟩
theorem g_split {H : Hp} {Q : VK} {a b : Str} (hb : (b.length == 0) = false) (l : a.length + 2 ≤ sizeLine) (q : ∀ p, H p = none → Q (.ref p) (upd H p (.lst ((Txt.split a b).map V.str)))) : rSplit (.str a) [.str b] H Q := ⟨a, b, rfl, rfl, hb, l, q⟩
theorem g_sz {xs : List V} {A : Prop} (h : xs.length ≤ sizeLine) (q : A) : xs.length ≤ sizeLine ∧ A := ⟨h, q⟩
theorem g_dnew {σ : L2.St} {H : Hp} {Q : VK} (q : ∀ p, H p = none → Q (.ref p) (upd H p (.dK []))) : tDNewK σ H Q := q
/-- {'k': v}, both written -/
theorem g_disp1 {σ : L2.St} {H : Hp} {Q : VK} {k : Str} {v : V} (q : ∀ p, H p = none → Q (.ref p) (upd H p (.dK [(Sum.inr k, v)]))) : tDisp [(tC (.str k), tC v)] σ H Q := by
  intro p hp
  refine ⟨upd_same, [(Sum.inr k, v)], rfl, Nat.le_of_ble_eq_true rfl, ?_⟩
  rw [upd_upd]
  exact q p hp
theorem ne_new {H : Hp} {a b : Addr} {o : HO} (h' : H b = none) (h : H a = some o) : a ≠ b := ne_of_none h h'
theorem atI_mem {xs : List V} {z : Int} (h0 : 0 ≤ z) (h1 : z < xs.length) : ∃ v ∈ xs, atI xs z = some v := by
  have hl : z.toNat < xs.length := by omega
  refine ⟨xs[z.toNat], List.getElem_mem hl, ?_⟩
  unfold atI ixN
  rw [if_pos h0, if_pos h1]
  show xs[z.toNat]? = _
  exact List.getElem?_eq_getElem hl
theorem atI_nat {α : Type} {xs : List α} {z : Int} (h0 : 0 ≤ z) (h1 : z < xs.length) : ∃ h : z.toNat < xs.length, atI xs z = some (xs[z.toNat]'h) := by
  have hl : z.toNat < xs.length := by omega
  refine ⟨hl, ?_⟩
  unfold atI ixN
  rw [if_pos h0, if_pos h1]
  exact List.getElem?_eq_getElem hl
theorem upd_keep {H : Hp} {a b : Addr} {o u : HO} (h' : H b = none) (h : H a = some o) : upd H b u a = some o := by
  rw [upd_ne (ne_of_none h h')]
  exact h
theorem mv_new {p q : Addr} {H0 H : Hp} {o : HO} (h : H q = none) (m : Mv p H0 H) : Mv p H0 (upd H q o) := m.trans (Mv.new h)
theorem ix_draw {K : PySem.W.Frag} {H : Hp} {l : Addr} {xs : List V} {z m : Int} (sq : H l = some (.lst xs)) (h0 : 0 ≤ z) (h1 : z < m) (hm : m = xs.length) : ∃ v ∈ xs, ∀ Q : VK, Q v H → rIxL K (.ref l) (.int z) H Q := by
  obtain ⟨v, hv, e⟩ := atI_mem h0 (by omega : z < xs.length)
  exact ⟨v, hv, fun Q q => g_ixL (Or.inl (Or.inl sq)) e q⟩
theorem g_nt {A B : Prop} (q : B) : if (!true) = true then A else B := by
  show if false = true then A else B
  rw [if_neg Bool.false_ne_true]
  exact q
theorem g_nf {A B : Prop} (q : A) : if (!false) = true then A else B := by
  show if true = true then A else B
  rw [if_pos rfl]
  exact q
theorem g_U {g : Int → V} {a : Int} {H : Hp} {Q : VK} (q : Q (g a) H) : rU g (.int a) H Q := ⟨a, rfl, q⟩
theorem ne_bag {H : Hp} {p q : Addr} {n : Nat} (h : H q = none) (B : Bg H p n) : q ≠ p := B.ne h
/-- two ways of one test on texts -/
theorem g_txt {x y : Str} {A B : Prop} (h1 : x = y → A) (h2 : x ≠ y → B) : if decide (V.str x = V.str y) = true then A else B := by
  by_cases e : x = y
  · exact g_yes (by rw [e]) (h1 e)
  · exact g_no (fun z => e (by cases z; rfl)) (h2 e)
theorem g_int2 {x y : Int} {A B : Prop} (h1 : x = y → A) (h2 : x ≠ y → B) : if decide (V.int x = V.int y) = true then A else B := by
  by_cases e : x = y
  · exact g_yes (by rw [e]) (h1 e)
  · exact g_no (fun z => e (by cases z; rfl)) (h2 e)

/-- a conditional expression by what both ways give -/
theorem g_cutIf {t : TT} {ta tb : TE} {σ : L2.St} {H : Hp} {Q : VK} (R : V → Hp → Prop) (h : ∀ Q : VK, (∀ v H', R v H' → Q v H') → tIf t ta tb σ H Q) (q : ∀ v H', R v H' → Q v H') : tIf t ta tb σ H Q := h Q q
theorem g_same {x : V} {A B : Prop} (q : B) : if (!decide (x = x)) = true then A else B := by
  rw [decide_eq_true rfl]
  exact g_nt q
theorem g_diff {x y : V} {A B : Prop} (h : x ≠ y) (q : A) : if (!decide (x = y)) = true then A else B := by
  rw [decide_eq_false h]
  exact g_nf q
theorem sq_same {K : PySem.W.Frag} {H H' : Hp} {a : Addr} {xs : List V} (s : Same H H') (h : SqL K H a xs) : SqL K H' a xs := s.seq h
end Jg
namespace Jg
open PySem PySem.Spec PyProof.Rows L2
/-! ### (l + r).replace(y, [z1, z2][i]) -/
def tReplIx (ta : TE) (m : Str) (tr : TE) (y z1 z2 : Str) (ti : TE) : TE := fun σ H Q => tOp rAddS ta (tC (.str m)) σ H fun a H1 => tr σ H1 fun b H2 => ∃ i j : Str, a = .str i ∧ b = .str j ∧ i.length + j.length ≤ 1000000 ∧
  ∀ (p : Addr) (o : Obj), H2 p = none → ti σ (upd H2 p (.frz o (.lst [.str z1, .str z2]))) fun w H3 => H3 p = some (.frz o (.lst [.str z1, .str z2])) ∧ ∃ k : Nat, w = .int (k : Int) ∧ k < 2 ∧
    ∀ z, (z = z1 ∨ z = z2) → Q (.str (Txt.replace (i ++ j) y z)) H3
theorem g_replIx {ta : TE} {m : Str} {tr : TE} {y z1 z2 : Str} {ti : TE} {σ : L2.St} {H : Hp} {Q : VK} (q : tOp rAddS ta (tC (.str m)) σ H fun a H1 => tr σ H1 fun b H2 => ∃ i j : Str, a = .str i ∧ b = .str j ∧ i.length + j.length ≤ 1000000 ∧
  ∀ (p : Addr) (o : Obj), H2 p = none → ti σ (upd H2 p (.frz o (.lst [.str z1, .str z2]))) fun w H3 => H3 p = some (.frz o (.lst [.str z1, .str z2])) ∧ ∃ k : Nat, w = .int (k : Int) ∧ k < 2 ∧
    ∀ z, (z = z1 ∨ z = z2) → Q (.str (Txt.replace (i ++ j) y z)) H3) : tReplIx ta m tr y z1 z2 ti σ H Q := q
/-- what the written part tells of the statics' space: no reader has booked a token -/
theorem noneBooked {K : PySem.W.Frag} {h : Heap} (kin : K.In h) (lim : h.NoLimit) (e : PySem.W.nsIn K cStatics sharingNotToldKey = some none) : NoneBooked h := by
  obtain ⟨mc, ns, _⟩ := lim
  refine ⟨mc, ns, ?_⟩
  obtain ⟨o, es, ep, ho, hd, _, look⟩ := ns
  unfold PySem.W.nsIn at e
  split at e
  case h_1 _ q =>
    have same := kin _ _ q
    rw [ho] at same
    cases same
    cases hd
    split at e
    case h_1 => cases e
    case h_2 he =>
      rw [← look]
      unfold nsFind findBy
      rw [← Array.find?_toList, he]
      rfl
  case h_2 => cases e
section
variable {X : Cx} {a r ei : Expr} {ta tr ti : TE} {m y z1 z2 : Str} {cm c j1 j2 : Nat} {cp c0 c1 c2 lp sp ap bp apos pos : Pos} {pins : List (Addr × Obj)} {s : Shared} {σ : L2.St} {H : Hp} {Q : VK}
/-- a + a written text: a token is out behind it -/
theorem run_addC (ha : PE X a ta) (I : L2.Inv X pins σ H s) (h : tOp rAddS ta (tC (.str m)) σ H Q) :
    wpAny (model X.prog X.w) X.A (eval (.BinOp a .Add (.Constant (.str m) cm cp) ap) X.env) (fun v s' => 1 ≤ s'.toks ∧ EP X pins σ Q v s') X.xe s := by
  refine wpAny_BinOp (thn (ha.run pins s σ H _ I h) ?_)
  rintro v s1 ⟨x, H1, I1, rx, q⟩
  refine Calls.Constant_str ?_
  refine wpAny_mono (PySem.wpAny_toks (op_addS pins _ σ H1 x (.str m) v _ Q (I1.tok _) rx ⟨_, rfl⟩ q)) ?_ (fun _ _ z => z.2)
  rintro u s2 ⟨le, e⟩
  exact ⟨Nat.le_trans (by omega : 1 ≤ s1.toks + 1) le, e⟩
theorem pe_replIx (ha : PE X a ta) (hr : PE X r tr) (hi : PE X ei ti) (l1 : z1.length ≤ 1) (l2 : z2.length ≤ 1)
    (nb : PySem.W.nsIn X.K cStatics sharingNotToldKey = some none) (hs : PlainIx ei)
    (hst : starEach [.Constant (.str y) c c0, .Subscript (.List [.Constant (.str z1) j1 c1, .Constant (.str z2) j2 c2] lp) ei sp] X.env =
      [(false, eval (.Constant (.str y) c c0) X.env), (false, eval (.Subscript (.List [.Constant (.str z1) j1 c1, .Constant (.str z2) j2 c2] lp) ei sp) X.env)] := by rfl)
    (hbase : attributeBase (.BinOp (.BinOp a .Add (.Constant (.str m) cm cp) ap) .Add r bp) "replace" X.env (eval (.BinOp (.BinOp a .Add (.Constant (.str m) cm cp) ap) .Add r bp) X.env) = eval (.BinOp (.BinOp a .Add (.Constant (.str m) cm cp) ap) .Add r bp) X.env := by rfl) (hline : (apos.endLine == pos.line) = true := by rfl) :
    PE X (.Call (.Attribute (.BinOp (.BinOp a .Add (.Constant (.str m) cm cp) ap) .Add r bp) "replace" apos) [.Constant (.str y) c c0, .Subscript (.List [.Constant (.str z1) j1 c1, .Constant (.str z2) j2 c2] lp) ei sp] [] pos) (tReplIx ta m tr y z1 z2 ti) := by
  constructor
  intro pins s σ H Q I h
  refine PySem.Call_method2 hbase hst hline (wpAny_BinOp (wpAny_mono (run_addC ha I h) ?_ (fun _ _ z => z)))
  rintro v s1 ⟨k1, av, H1, I1, ra, q1⟩
  refine wpAny_mono (PySem.wpAny_toks (hr.run pins s1 σ H1 _ I1 q1)) ?_ (fun _ _ z => z.2)
  rintro u s2 ⟨k2, bv, H2, I2, rb, i, j, rfl, rfl, len, q⟩
  obtain ⟨t, rfl⟩ := ra
  obtain ⟨t', rfl⟩ := rb
  have fit : i.length + j.length ≤ sizeLine := Nat.le_trans len (by decide)
  refine wpAny_mono (PySem.wpAny_toks (add_str (Q := fun v s' => ∃ t tk, v = Value.str (i ++ j) t ∧ s' = { s2 with toks := tk }) (fun t tk => ⟨t, tk, rfl, rfl⟩) fit)) ?_ (fun _ _ z => z.2)
  rintro w s3 ⟨k3, tw, tk, rfl, rfl⟩
  have pos3 : 1 ≤ tk := Nat.le_trans (Nat.le_trans k1 k2) k3
  refine ⟨"str", _, PySem.F.plainAttrs_str, PySem.F.slot_str_replace, PySem.F.type_str_replace, typeIs_str _ _ _, (fun _ e => nomatch e), Calls.callWith_builtin rfl (Calls.evalArgs_plain (Calls.spliced_cons ?_))⟩
  refine Calls.Constant_str (Calls.spliced_cons ?_)
  refine Subscript_ (wpAny_List_spliced ?_)
  show wpAny _ _ (spliced ((false, eval (.Constant (.str z1) j1 c1) X.env) :: backTo lp (starEach [.Constant (.str z2) j2 c2] X.env))) _ _ _
  refine Calls.spliced_cons (Calls.Constant_str ?_)
  show wpAny _ _ (spliced ((false, eval (.Constant (.str z2) j2 c2) X.env) :: backTo lp (starEach [] X.env))) _ _ _
  refine Calls.spliced_cons (Calls.Constant_str (Calls.spliced_nil ?_))
  have h2 : (2 : Nat) ≤ sizeLine := by decide
  refine ⟨h2, ?_⟩
  let o : Obj := { cls := .type "list", data := .seq #[.str z1 (tk + 1), .str z2 (tk + 1 + 1)] 0 }
  have fresh : H2 s2.heap.objs.size = none := I2.hok.fresh (Nat.le_refl _)
  have ok : ObjOk X.prog X.w (upd H2 s2.heap.objs.size (.frz o (.lst [.str z1, .str z2]))) (s2.heap.push o) s2.heap.objs.size (.frz o (.lst [.str z1, .str z2])) :=
    ⟨Heap.get?_push_size _ rfl, h2, [.str z1 _, .str z2 _], 0, .cons ⟨_, rfl⟩ (.cons ⟨_, rfl⟩ .nil), Heap.get?_push_size _ rfl⟩
  have I3 := I2.laid (a := s2.heap.objs.size) (t' := tk + 1 + 1 + 1) (fun b u e => Heap.get?_push_of_some _ e) (Nat.le_refl _) ok
  refine wpAny_mono (hi.run pins _ σ _ _ I3 (q _ o fresh)) ?_ (fun _ _ z => z)
  rintro iv s4 ⟨kv, H4, I4, r4, at4, k, rfl, hk, q4⟩
  obtain ⟨tki, rfl⟩ := r4
  obtain ⟨here, _⟩ := I4.hok _ _ at4
  have isl : s4.heap.IsList s2.heap.objs.size #[.str z1 (tk + 1), .str z2 (tk + 1 + 1)] := ⟨o, here, rfl, 0, rfl⟩
  have rep : ∀ (z : Str) (tz : Nat), z.length ≤ 1 → (z = z1 ∨ z = z2) → tz ≠ 0 → tk ≠ tz → wpAny (model X.prog X.w) X.A (spliced []) (fun vs s₁ => wpAny (model X.prog X.w) X.A (call (.builtin "str.replace") (.str (i ++ j) tw :: .str y tk :: .str z tz :: vs)) (EP X pins σ Q) X.xe s₁) X.xe s4 := by
    intro z tz lz ez nz dz
    refine Calls.spliced_nil ?_
    refine PySem.SC.replaceA (show tk ≠ 0 from Nat.pos_iff_ne_zero.mp pos3) nz dz ?_ (fun t' k => ⟨.str (Txt.replace (i ++ j) y z), H4, I4.tok k, ⟨t', rfl⟩, q4 z ez⟩) (noneBooked I4.kIn I4.nolimit nb)
    have el : (i ++ j).length = i.length + j.length := by rw [TL.len_tl, TL.tl_append, List.length_append, ← TL.len_tl, ← TL.len_tl]
    rw [el]
    have : (i.length + j.length + 1) * z.length ≤ (i.length + j.length + 1) * 1 := Nat.mul_le_mul_left _ lz
    omega
  have hkk : k = 0 ∨ k = 1 := by omega
  rcases hkk with rfl | rfl
  · exact item_listR isl (by decide) (by decide) rfl (rep z1 _ l1 (Or.inl rfl) (by omega) (by omega)) (hs _ _)
  · exact item_listR isl (by decide) (by decide) rfl (rep z2 _ l2 (Or.inr rfl) (by omega) (by omega)) (hs _ _)
end
end Jg
namespace Jg
open PySem PySem.Spec L2
/-! ### texts -/
/-- a text of at most n signs, each a sign -/
def Sg (z : Str) (n : Nat) : Prop := z.length ≤ n ∧ ∀ c ∈ TL.tl z, c < 1114112
theorem Sg.mono {z : Str} {n m : Nat} (h : Sg z n) (l : n ≤ m) : Sg z m := ⟨Nat.le_trans h.1 l, h.2⟩
theorem Sg.app {x y : Str} {n m : Nat} (a : Sg x n) (b : Sg y m) : Sg (x ++ y) (n + m) := by
  constructor
  · rw [TL.len_tl, TL.tl_append, List.length_append, ← TL.len_tl, ← TL.len_tl]
    exact Nat.add_le_add a.1 b.1
  · intro c hc
    rw [TL.tl_append] at hc
    rcases List.mem_append.mp hc with h | h
    · exact a.2 c h
    · exact b.2 c h
theorem Sg.cut {z : Str} {n : Nat} (h : Sg z n) (lo hi : Option Int) : Sg (cutS z lo hi) n :=
  ⟨Nat.le_trans (cutS_length z lo hi) h.1, fun c hc => h.2 c (List.mem_of_mem_drop (List.mem_of_mem_take hc))⟩
theorem Sg.of {z : Str} {n : Nat} (h : (decide (z.length ≤ n) && (TL.tl z).all (fun c => decide (c < 1114112))) = true) : Sg z n := by
  rw [Bool.and_eq_true, List.all_eq_true] at h
  exact ⟨of_decide_eq_true h.1, fun c hc => of_decide_eq_true (h.2 c hc)⟩
theorem Sg.sign {z : Str} {n : Nat} {k : Int} {c : Nat} (h : Sg z n) (e : atI z.cps.toList k = some c) : Sg ⟨#[c]⟩ 1 := by
  refine ⟨Nat.le_refl _, fun d hd => ?_⟩
  have : d = c := by simpa [TL.tl] using hd
  subst this
  refine h.2 d ?_
  unfold atI at e
  cases q : ixN z.cps.toList.length k with
  | none =>
    rw [q] at e
    cases e
  | some j =>
    rw [q] at e
    exact List.mem_of_getElem? e
theorem mem_joinL {S : List Nat} {c : Nat} : ∀ {ps : List (List Nat)}, c ∈ TL.joinL S ps → c ∈ S ∨ ∃ p ∈ ps, c ∈ p
  | [], h => by cases h
  | [p], h => Or.inr ⟨p, List.mem_singleton.mpr rfl, h⟩
  | p :: q :: r, h => by
    rcases List.mem_append.mp (show c ∈ p ++ (S ++ TL.joinL S (q :: r)) from h) with h | h
    · exact Or.inr ⟨p, List.mem_cons_self, h⟩
    · rcases List.mem_append.mp h with h | h
      · exact Or.inl h
      · rcases mem_joinL h with h | ⟨x, hx, h⟩
        · exact Or.inl h
        · exact Or.inr ⟨x, List.mem_cons_of_mem _ hx, h⟩
theorem joinL_mem {S : List Nat} {c : Nat} : ∀ {ps : List (List Nat)} {p : List Nat}, p ∈ ps → c ∈ p → c ∈ TL.joinL S ps
  | [], _, h, _ => by cases h
  | [x], p, h, hc => by
    rw [List.mem_singleton.mp h] at hc
    exact hc
  | x :: y :: r, p, h, hc => by
    show c ∈ x ++ (S ++ TL.joinL S (y :: r))
    rcases List.mem_cons.mp h with e | h
    · rw [e] at hc
      exact List.mem_append_left _ hc
    · exact List.mem_append_right _ (List.mem_append_right _ (joinL_mem h hc))
theorem tl_tjoin (y : Str) (ps : List Str) : TL.tl (Txt.join y ps) = TL.joinL (TL.tl y) (ps.map TL.tl) := by
  rw [TL.join_eq, TL.tl_join]
theorem joinL_len {S : List Nat} {n : Nat} (hS : S.length ≤ 1) : ∀ {ps : List (List Nat)}, (∀ p ∈ ps, p.length ≤ n) → (TL.joinL S ps).length ≤ ps.length * (n + 1)
  | [], _ => Nat.zero_le _
  | [p], h => by
    have := h p (List.mem_singleton.mpr rfl)
    show p.length ≤ 1 * (n + 1)
    omega
  | p :: q :: r, h => by
    have h1 := h p List.mem_cons_self
    have h2 := joinL_len (S := S) hS (ps := q :: r) (fun x hx => h x (List.mem_cons_of_mem _ hx))
    show (p ++ (S ++ TL.joinL S (q :: r))).length ≤ (q :: r).length.succ * (n + 1)
    rw [List.length_append, List.length_append, Nat.succ_mul]
    omega
/-- joined texts -/
theorem Sg.join {y : Str} {ps : List Str} {n k : Nat} (hy : Sg y 1) (hl : ps.length ≤ k) (h : ∀ p ∈ ps, Sg p n) : Sg (Txt.join y ps) (k * (n + 1)) := by
  constructor
  · rw [TL.len_tl, tl_tjoin]
    have l := joinL_len (S := TL.tl y) (n := n) (ps := ps.map TL.tl) (by rw [← TL.len_tl]; exact hy.1) (fun p hp => by
      obtain ⟨z, hz, rfl⟩ := List.mem_map.mp hp
      rw [← TL.len_tl]
      exact (h z hz).1)
    rw [List.length_map] at l
    exact Nat.le_trans l (Nat.mul_le_mul_right _ hl)
  · intro c hc
    rw [tl_tjoin] at hc
    rcases mem_joinL hc with hc | ⟨p, hp, hc⟩
    · exact hy.2 c hc
    · obtain ⟨z, hz, rfl⟩ := List.mem_map.mp hp
      exact (h z hz).2 c hc
/-- the parts of a text -/
theorem Sg.split {z : Str} {n m : Nat} (h : Sg z n) (hm : m < 256) : ∀ p ∈ Txt.split z ⟨#[m]⟩, Sg p n := by
  intro p hp
  have e := StrLaws.join_split z ⟨#[m]⟩
  constructor
  · exact Nat.le_trans (PyProof.Rows.part_short hp) h.1
  · intro c hc
    refine h.2 c ?_
    rw [← e, TL.tl_join]
    exact joinL_mem (List.mem_map.mpr ⟨p, hp, rfl⟩) hc

def rMulS : R2 := fun x y H Q => ∃ z n, x = .str z ∧ y = .int n ∧ MulOk z n ∧ Q (.str (Txt.mul z n)) H
theorem op_mulS {X : Cx} : OpR X (binaryOp .Mult) rMulS := by
  intro pins s σ H x y v u Q I rx ry h
  obtain ⟨z, n, rfl, rfl, ok, q⟩ := h
  obtain ⟨t, rfl⟩ := rx
  obtain ⟨t', rfl⟩ := ry
  exact PySem.SB.mul ok fun t' k => ⟨.str (Txt.mul z n), H, I.tok k, ⟨t', rfl⟩, q⟩
theorem g_mulS {z : Str} {n : Int} {H : Hp} {Q : VK} (ok : MulOk z n) (q : Q (.str (Txt.mul z n)) H) : rMulS (.str z) (.int n) H Q := ⟨z, n, rfl, rfl, ok, q⟩
theorem strs_of {P : Str → Prop} : ∀ {ys : List V}, (∀ y ∈ ys, ∃ z, y = .str z ∧ P z) → ∃ ws : List Str, ys = ws.map V.str ∧ ∀ z ∈ ws, P z
  | [], _ => ⟨[], rfl, by simp⟩
  | y :: ys, h => by
    obtain ⟨z, rfl, hz⟩ := h y List.mem_cons_self
    obtain ⟨ws, e, hw⟩ := strs_of (ys := ys) fun x hx => h x (List.mem_cons_of_mem _ hx)
    refine ⟨z :: ws, by rw [e]; rfl, ?_⟩
    intro x hx
    rcases List.mem_cons.mp hx with e | hx
    · rw [e]
      exact hz
    · exact hw x hx
theorem sum_le {n : Nat} : ∀ {ws : List Str}, (∀ z ∈ ws, z.length ≤ n) → (ws.map (·.length)).sum ≤ ws.length * n
  | [], _ => Nat.zero_le _
  | z :: ws, h => by
    have h1 := h z List.mem_cons_self
    have h2 := sum_le (ws := ws) fun x hx => h x (List.mem_cons_of_mem _ hx)
    show z.length + (ws.map (·.length)).sum ≤ (ws.length + 1) * n
    rw [Nat.succ_mul]
    omega
theorem cut_len (z : Str) (k : Nat) : (cutS z none (some (k : Int))).length ≤ k := by
  unfold cutS
  rw [TL.len_tl, TL.tl_mk, HT.sIx_none, HT.sIx_nat, List.length_take]
  omega
theorem joinL_len1 {S : List Nat} (hS : S.length ≤ 1) : ∀ ps : List (List Nat), (TL.joinL S ps).length ≤ (ps.map (·.length)).sum + ps.length
  | [] => Nat.zero_le _
  | [p] => by
    show p.length ≤ [p.length].sum + 1
    simp <;> omega
  | p :: q :: r => by
    have h2 := joinL_len1 hS (q :: r)
    show (p ++ (S ++ TL.joinL S (q :: r))).length ≤ p.length + ((q :: r).map (·.length)).sum + (q :: r).length.succ
    rw [List.length_append, List.length_append]
    omega
/-- one sign for another one -/
theorem Sg.repl {x z : Str} {n c : Nat} (h : Sg x n) (hz : Sg z 1) (hc : c < 256) : Sg (Txt.replace x ⟨#[c]⟩ z) (n + 1) := by
  rw [StrLaws.replace_one, ← TL.join_eq]
  constructor
  · rw [TL.len_tl, tl_tjoin]
    have l := joinL_len1 (S := TL.tl z) (by rw [← TL.len_tl]; exact hz.1) ((Txt.split x ⟨#[c]⟩).map TL.tl)
    have w := PyProof.Rows.split_weight x ⟨#[c]⟩ (Nat.le_refl 1)
    have e : ((Txt.split x ⟨#[c]⟩).map TL.tl).map (·.length) = (Txt.split x ⟨#[c]⟩).map (·.length) := by
      rw [List.map_map]
      exact List.map_congr_left fun y _ => (TL.len_tl y).symm
    rw [e, List.length_map] at l
    have := h.1
    omega
  · intro d hd
    rw [tl_tjoin] at hd
    rcases mem_joinL hd with hd | ⟨p, hp, hd⟩
    · exact hz.2 d hd
    · obtain ⟨y, hy, rfl⟩ := List.mem_map.mp hp
      exact (h.split hc y hy).2 d hd
end Jg
namespace JgX
open PySem PySem.W PySem.Calls PyProof.Rows
/-! ### an own exception whose __init__ says super().__init__('..') and stores what it is given -/
open Builtin Builtin.ObjectAttr in
/-- what is said of a base's __init__ -/
structure IniFacts (B i : String) : Prop where
  slot : Slot B "__init__" i
  entry : entryFor table i = some Builtin.«BaseException.__init__»
  kind : builtinKind i = some .slot
  row : Manifest.signature? i = some ⟨.positional, "*", B, .self, [⟨"args", .varPos, false⟩]⟩
  star : (B != "*") = true
theorem ini_of {B n i : String} (F : ExcCallFacts B n i) : IniFacts B i := ⟨F.init, F.initEntry, F.initKind, F.initRow, F.noStar⟩
theorem ini_key : IniFacts "KeyError" "KeyError.__init__" where
  slot := .of (owner := "KeyError") (n := "__init__")
    (by
      rw [typeLookup_type, builtinLookup_eq_fast]
      kernel_rfl)
    (by decide +kernel)
    (by decide +kernel)
    (by decide +kernel)
    (by
      first
        | exact .inl (by decide +kernel)
        | exact .inr (by decide +kernel))
    (by
      rw [isSubtype_type]
      kernel_rfl)
  entry := entryFor_alias (id' := "BaseException.__init__")
    (by
      rw [fastTable_eq_tree]
      kernel_rfl)
    (by
      first
        | rfl
        | decide +kernel)
    (by decide +kernel)
    (by
      rw [fastTable_eq_tree]
      kernel_rfl)
  kind := by kernel_rfl
  row := by kernel_rfl
  star := by decide +kernel
/-- what the base brings -/
structure XBase (B newId i : String) (bmB : List Value) : Prop where
  ini : IniFacts B i
  kf : KxsFacts B i
  pass : ∀ me : Value, refuseLoop me "__setattr__" bmB = pure ()
  obj : bmB.contains (.type "object") = true
theorem xValue : XBase "ValueError" "ValueError.__new__" "ValueError.__init__" [.type "ValueError", .type "Exception", .type "BaseException", .type "object"] :=
  ⟨ini_of F.excBase_ValueError.toExcCallFacts, kxs_ValueError, F.store_ValueError.passes, by decide +kernel⟩
theorem xLookup : XBase "LookupError" "LookupError.__new__" "LookupError.__init__" [.type "LookupError", .type "Exception", .type "BaseException", .type "object"] :=
  ⟨ini_of F.excBase_LookupError.toExcCallFacts, kxs_LookupError, F.store_LookupError.passes, by decide +kernel⟩
theorem xKey : XBase "KeyError" "LookupError.__new__" "KeyError.__init__" [.type "KeyError", .type "LookupError", .type "Exception", .type "BaseException", .type "object"] :=
  ⟨ini_key, ⟨by show builtinType _ = _; rw [builtinType_eq_fast]; kernel_rfl, by first | kernel_rfl | rfl⟩, fun me => by kernel_rfl, by decide +kernel⟩
section
variable {M : Model} {A : Around} {E : Value → Shared → Prop} {h : Heap} {g : Array GenState} {d : Drawn} {t : Nat} {os : OsState}
theorem ini_check {B i newId : String} (F : IniFacts B i) {nm q : Str} {C N e : Addr} {oe : Obj} {bs bm : List Value} {hdct : Bool} {sn : List Str} {sub : List Value} {ab : Bool} {col : Option Bool} {dd : Option Addr} {k0 k1 k2 k3 k5 : Option Value} {rest : List Value} {Q : Unit → Shared → Prop}
    (lk : h.get? C = some (excClassObj nm q C N bs bm hdct sn sub ab col dd k0 k1 k2 k3 k5 newId)) (he : h.get? e = some oe) (oc : oe.cls = .ref C) (z : Q () ⟨h, g, d, t, os⟩) :
    wpAny M A (checkBoundCall i ⟨.ref e :: rest, []⟩) Q E ⟨h, g, d, t, os⟩ := by
  have star := F.star
  simp only [checkBoundCall, F.kind, F.row]
  repeat (first
    | (with_reducible refine wpAny_loadPart_at he ?_; rw [oc])
    | with_reducible refine wpAny_loadPart_at lk ?_
    | wp_step)
  refine wpAny_onRaise ?_
  have free : ∀ (a b : String) (n : Nat), Bind.check ⟨.positional, "*", B, .self, [⟨"args", .varPos, false⟩]⟩ a b n (({ pos := Value.ref e :: rest } : Args).kw.map fun x => x.fst) = pure () := fun a b n => check_star_args _ _ _ _ _ _
  rw [free]
  exact wpAny_pure z
end
open Builtin Builtin.ObjectAttr
section
variable {prog : Program} {w : World} {A : Around} {E : Value → Shared → Prop} {R : Result → Shared → Prop} {hp : Heap} {g : Array GenState} {d : Drawn} {t : Nat} {os : OsState}
variable {B newId i : String} {bmB : List Value} {K : Frag} {C : Addr}
variable {nm q : Str} {N : Addr} {bs bm : List Value} {hdct : Bool} {sn : List Str} {sub : List Value} {ab : Bool} {col : Option Bool} {dd : Option Addr} {k0 k1 k2 k3 k5 : Option Value}
/-- the base's __init__, bound to the fresh exception at e -/
theorem call_wrap (X : XBase B newId i bmB) {u e t0 : Addr} {more : List Value} {Q : Value → Shared → Prop} (hC : hp.get? C = some (excClassObj nm q C N bs bm hdct sn sub ab col dd k0 k1 k2 k3 k5 newId))
    (he : hp.get? e = some (excObj C t0 none .none)) (hu : hp.get? u = some (kxs_mw i e)) (len : more.length ≤ sizeLine)
    (hq : ∀ h', (∀ b o, b ≠ e → hp.get? b = some o → h'.get? b = some o) → h'.get? e = some (excObj C hp.objs.size none .none) → h'.get? hp.objs.size = some (excTup more) → Q .none ⟨h', g, d, t, os⟩) :
    wpAny (model prog w) A (call (.ref u) more) Q E ⟨hp, g, d, t, os⟩ := by
  refine wpAny_call (codeAny_of_tree ?_)
  show wpAny _ A.in1 (callAny (.ref u) ⟨more, []⟩) _ _ _
  simp only [callAny]
  refine wpAny_bind (wpAny_load hu ?_)
  have kind : (Value.type "method-wrapper" == Value.type "method" || Value.type "method-wrapper" == Value.type "builtin_function_or_method" || Value.type "method-wrapper" == Value.type "method-wrapper") = true := by decide
  simp only [kxs_mw, kind, if_true]
  refine KFB.if_so (by decide) ?_
  refine wpAny_bind (ini_check X.ini hC he rfl ?_)
  refine wpAny_bind (wpAny_pure (wpAny_pure ⟨plainId_quiet X.ini.slot.plain _, codeAny_builtin X.ini.entry ?_⟩))
  exact exc_init_tree (cls := .ref C) (t0 := t0) (dv := none) (c2 := .none) (c3 := .none) (b4 := .bool false) he len hq
open Builtin Builtin.ObjectAttr in
/-- me.name = v, the first one -/
theorem set_first (X : XBase B newId i bmB) {name : Str} {v : Value} {e : Addr} {fv : Array Value} {cd : ClassData} {Q : Unit → Shared → Prop} (kin : K.In hp) (he : hp.get? e = some { cls := .ref C, data := .fields fv })
    (hcd : clsIn K C = some cd) (hm : cd.mro = .ref C :: bm) (ht : excTail bmB bm = true) (hh : cd.hasDict = true) (no : findIn K (.ref C) name = some none)
    (sa : findIn K (.ref C) "__setattr__" = some (some (.builtin "object.__setattr__")))
    (hq : ∀ h' tk dx, (∀ b o, b ≠ e → hp.get? b = some o → h'.get? b = some o) → hp.objs.size ≤ dx → dx ≠ e → h'.get? e = some { cls := .ref C, dict := some dx, data := .fields fv } →
      h'.Ns1 dx (fun y => if y = name then some v else none) → Q () ⟨h', g, d, tk, os⟩) :
    wpAny (model prog w) A (setAttr (.ref e) name v) Q E ⟨hp, g, d, t, os⟩ := by
  have at_e : InstAt hp e { cls := .ref C, data := .fields fv } C none := ⟨he, rfl, rfl, trivial⟩
  refine set_plain kin at_e sa ?_
  have SO := F.store_object
  have away : e ≠ hp.objs.size := Nat.ne_of_lt (Heap.lt_size he)
  have isObj : (Value.ref C :: bm).contains (.type "object") = true := by
    rw [List.contains_cons, excTail_contains "object" bm ht, X.obj, Bool.or_true]
  have inMro : mroIn K C (.type "object") = some true := by
    unfold mroIn
    rw [hcd, Option.bind_some, hm, if_neg (show ¬ (List.isEmpty (Value.ref C :: bm) = true) from Bool.false_ne_true), isObj]
  have isIn : Looks (model prog w) hp (isInstance (.ref e) (.type "object")) true := at_e.type.andThen (looks_mroIn kin inMro)
  refine codeAny_call_builtin SO.slot.plain SO.entry (@check_slot (model prog w) _ _ _ "object.__setattr__" "object" "__setattr__" (.ref e) [.str name t, v] [] _ SO.kind SO.split isIn (SO.args (.ref e) (.str name t) v) ?_)
  have lm : Looks (model prog w) hp (mroOf (.ref C)) cd.mro := (looks_clsIn kin hcd).andThen .now
  have lt : Looks (model prog w) hp (storeTaker? none) none := .now
  have lc : Looks (model prog w) hp (classData C) cd := looks_clsIn kin hcd
  have free : refuseLoop (.ref e) "__setattr__" cd.mro = pure () := by
    rw [hm, refuseLoop_ref]
    exact excTail_pass _ (X.pass _) bm ht
  rw [osa_eq, refuse_eq]
  refine wpAny_bind (wpAny_bind (at_e.type.at (wpAny_bind (lm.at ?_))))
  rw [free]
  refine wpAny_pure (wpAny_bind (at_e.type.at (wpAny_bind ((looks_findIn kin no).at (wpAny_bind (lt.at ?_))))))
  show wpAny _ _ (storeInOwnDict (.ref e) (.ref C) (.str name t) name v false) _ _ _
  obtain ⟨cn, cb, cm, cns, cq, hd, csn, csb, cab, ccol, cdel⟩ := cd
  dsimp only at hh
  subst hh
  unfold storeInOwnDict ownDictForStores
  repeat (first
    | with_reducible refine HandSPX.store_in_new ?_ ?_
    | with_reducible refine wpAny_loadPart_at he ?_
    | with_reducible refine lc.at ?_
    | wp_step)
  · exact ⟨_, #[], _, (Heap.get?_update_ne _ _ _ _ away.symm).trans (Heap.get?_push_at rfl rfl), rfl, fun e he => absurd he (by simp), fun _ => rfl⟩
  · intro h' tk hn' hs
    have later : (hp.push { cls := .type "dict", data := .dict #[] }).get? e = some { cls := .ref C, data := .fields fv } := Heap.get?_push_of_some _ he
    refine hq h' tk hp.objs.size ?_ (Nat.le_refl _) away.symm ?_ hn'
    · intro b o hb ho
      exact (hs.2 b (Nat.ne_of_lt (Heap.lt_size ho))).trans ((Heap.get?_update_ne _ _ _ _ hb).trans (Heap.get?_push_of_some _ ho))
    · exact (hs.2 e away).trans (Heap.get?_update_self _ later rfl)
end
end JgX
namespace JgX
open PySem PySem.W PySem.Calls PyProof.Rows PySem.Spec L2
/-! ### as what L2 tracks -/
theorem excLaid {P : Program} {w : World} {H : Hp} {hp h' : Heap} {fs : List Addr} {a C dx : Addr} {f : Str} {y : V} {u : Value} (hok : HOk P w H hp) (e : H a = some (exo a C none)) (ry : RelV y u)
    (dn : hp.objs.size ≤ dx) (dne : dx ≠ a) (k : ∀ b o, b ≠ a → hp.get? b = some o → h'.get? b = some o) {t1 : Addr} (hx : h'.get? a = some ({ cls := .ref C, dict := some dx, data := .fields #[.ref t1, .none, .none, .none, .bool false, .none] } : Obj))
    (hn : h'.Ns1 dx (fun z => if z = f then some u else none)) :
    Un fs [] H (upd (upd H dx (exd dx [(f, y)])) a (exo a C (some dx))) hp h' ∧ HOk P w (upd (upd H dx (exd dx [(f, y)])) a (exo a C (some dx))) h' := by
  have hnd : H dx = none := hok.fresh dn
  have nd : ∀ {b : Addr} {o : Obj}, hp.get? b = some o → b ≠ dx := fun {b o} q => Nat.ne_of_lt (Nat.lt_of_lt_of_le (Heap.lt_size q) dn)
  have na : ∀ {b : Addr}, H b = none → b ≠ a := fun {b} n z => by
    rw [z, e] at n
    cases n
  refine ⟨⟨fun b o q n _ _ => k b o (na n) q, fun b o q n _ _ => ⟨o.slots, k b o (na n) q⟩, fun b o q n _ => ?_, fun b o q _ => ?_, fun b xs q => ?_, fun b o v q => ?_, fun b ps q => ⟨#[], ?_⟩⟩, fun b o q => ?_⟩
  · rw [upd_ne (na n), upd_ne (nd q)]; exact n
  · by_cases hb : b = a
    · exact ⟨_, by rw [hb]; exact hx⟩
    · exact ⟨o, k b o hb q⟩
  · rw [upd_ne (at_ne e q exo_tup), upd_ne (ne_of_none q hnd)]; exact q
  · rw [upd_ne (at_ne e q exo_frz), upd_ne (ne_of_none q hnd)]; exact q
  · rw [upd_ne (at_ne e q exo_tbl), upd_ne (ne_of_none q hnd), q]; simp
  by_cases hb : b = a
  · subst hb
    rw [upd_same] at q
    cases q
    exact exo_ok hx
  rw [upd_ne hb] at q
  by_cases hd : b = dx
  · subst hd
    rw [upd_same] at q
    cases q
    exact exd_ok hn (relO_put (fs := []) ry fun g => True.intro)
  rw [upd_ne hd] at q
  refine (hok b o q).stay (fun c v hc z => k c v ?_ z) (fun c hc => by rw [upd_ne (at_ne e hc exo_own), upd_ne (ne_of_none hc hnd)]; exact hc) (fun c xs hc => by rw [upd_ne (at_ne e hc exo_tup), upd_ne (ne_of_none hc hnd)]; exact hc)
  rcases hc with hc | hc
  · rw [hc]
    exact hb
  · exact at_ne e hc exo_own

/-- what the written part says of such a class -/
structure XC (K : PySem.W.Frag) (C : Addr) (B newId i : String) (bmB : List Value) : Prop where
  cls : ∃ nm q N bs bm sn sub ab col dd k0 k1 k2 k3 k5, K.lookup C = some (excClassObj nm q C N bs bm true sn sub ab col dd k0 k1 k2 k3 k5 newId) ∧ excTail bmB bm = true
  sa : PySem.W.findIn K (.ref C) "__setattr__" = some (some (.builtin "object.__setattr__"))
  exC : PySem.W.subIn K (.ref C) (.type "BaseException") = some true
  tyC : PySem.W.typeIn K (.ref C) = some (.type "type")
  kC : PySem.W.keepIn K (.ref C) = true
  sup : PySem.W.ks_superIn K C C "__init__" = some (some (.builtin i))
  subB : PySem.W.subIn K (.ref C) (.type B) = some true
/-- its own __init__, as it stands in the written part -/
structure XFn (P : Program) (K : PySem.W.Frag) (C fI : Addr) (fd : FuncData) (qual : Str) (params : Arguments) (body : List Stmt) (scope : Scope) : Prop where
  ex : ∃ (nm : Str) (cc cda : Addr) (oc kV doc pm ct ccl cl : Value) (od an cdd cld : Option Addr) (osl ccs csl : Array (Option Value)) (vs : Array Value) (file : Str) (tf : Tok),
    fd = PySem.W.ksFn nm qual params body scope .none kV doc pm an (.ref cda) ct cc ∧ K.lookup fI = some ⟨oc, od, .func fd, osl⟩ ∧ PySem.W.codeIn K (.ref cda) qual = true ∧
    K.lookup cda = some ⟨ccl, cdd, .fields vs, ccs⟩ ∧ vs[2]? = some (.str file tf) ∧ ((P.main.file : Str) == file) = true ∧ K.lookup cc = some ⟨cl, cld, .cell (some (.ref C)), csl⟩
  iC : PySem.W.findIn K (.ref C) "__init__" = some (some (.ref fI))
  tI : PySem.W.typeIn K (.ref fI) = some (.type "function")
end JgX
namespace JgX
open PySem PySem.W PySem.Calls PyProof.Rows PySem.Spec L2
section
variable {P : Program} {w : World} {K : Frag} {mg : Str → Option Value} {base : Heap} {CX : CXT} {k : Nat} {B newId i : String} {bmB : List Value} {C fI : Addr} {fd : FuncData} {qual f par text : Str} {params : Arguments} {scope : Scope}
  {p0 p1 p2 p3 p4 p5 p6 p7 p8 : Pos} {j : Nat}
abbrev xBody (text f par : Str) (j : Nat) (p0 p1 p2 p3 p4 p5 p6 p7 p8 : Pos) : List Stmt :=
  [.Expr (.Call (.Attribute (.Call (.Name "super" p0) [] [] p1) "__init__" p2) [.Constant (.str text) j p3] [] p4) p4, .Assign [.Attribute (.Name "self" p5) f p6] (.Name par p7) p8]
/-- what __init__ promises: the exception gets its dict, with what was handed in under f -/
def xInit (C : Addr) (f : Str) : Sp := fun vs H Q _ => ∃ a y, vs = [.ref a, y] ∧ H a = some (exo a C none) ∧ ∀ dx, H dx = none → dx ≠ a → Q .non (upd (upd H dx (exd dx [(f, y)])) a (exo a C (some dx)))
theorem init_fn (X : XBase B newId i bmB) (T : XC K C B newId i bmB) (S : XFn P K C fI fd qual params (xBody text f par j p0 p1 p2 p3 p4 p5 p6 p7 p8) scope) (nf : findIn K (.ref C) f = some none)
    (opq : nsIn K cStatics "thirdparty.any" = some none) (msup : mg "super" = none) (htop : (P.main.scope.names.lookup ("super" : Str)).isSome = false)
    (hks : scope.names.lookup ("super" : Str) = some .globalImplicit) (hkc : scope.names.lookup ("__class__" : Str) = some .free) (hkS : scope.names.lookup ("self" : Str) = some .local) (hkP : scope.names.lookup par = some .local)
    (hk : scope.kind = .function) (hcell : ∀ x ∈ scope.names, x.2 ≠ .cell) (hco : scope.isCoroutine = false) (hgen : scope.isGenerator = false)
    (hpar : ∃ ar, (params.posonlyargs ++ params.args).head? = some ar ∧ ar.arg = ("self" : Str)) (hps : par ≠ ("self" : Str)) (hpd : (par == ("__debug__" : Str)) = false)
    (hev : ∀ en : Env, ∃ pl : Sem Bool, eval (.Call (.Attribute (.Call (.Name "super" p0) [] [] p1) "__init__" p2) [.Constant (.str text) j p3] [] p4) en = (do
      let ov ← attributeBase (.Call (.Name "super" p0) [] [] p1) "__init__" en (eval (.Call (.Name "super" p0) [] [] p1) en)
      standAt p2.atName
      let (f, first) ← holding [ov] (getMethod ov "__init__" pl)
      callWith p4 f first (backTo p4 (starEach [.Constant (.str text) j p3] en)) []))
    (hsx : ∀ en : Env, swapsWith (.Call (.Attribute (.Call (.Name "super" p0) [] [] p1) "__init__" p2) [.Constant (.str text) j p3] [] p4) none p4.line en = pure false)
    (hsw : ∀ env : Env, swapsWith (.Name par p7) (some (.Attribute (.Name "self" p5) f p6)) p8.line env = pure false) :
    FnOk P w K mg base CX (k + 1) fI fd [("self" : Str), par] (xInit C f) := by
  refine ⟨fun vs H Q E ⟨a, y, e, _⟩ => by rw [e]; rfl, fun A outer s H args us vs Q E room env bnd rel want => ?_⟩
  obtain ⟨a, y, rfl, ea, q⟩ := want
  obtain ⟨nm, cc, cda, oc, kV, doc, pm, ct, ccl, cl, od, an, cdd, cld, osl, ccs, csl, vs', file, tf, rfl, lk, hcd, lcd, hv2, hfile, lcc⟩ := S.ex
  obtain ⟨nmC, qC, NC, bsC, bmC, snC, sub, ab, col, dd, k0, k1, k2, k3, k5, hC, htail⟩ := T.cls
  obtain ⟨ar, har, harn⟩ := hpar
  cases rel with
  | @cons _ u0 _ ur ra rw' =>
  cases rw' with
  | @cons _ u _ ur' ru rz =>
  cases rz
  obtain rfl : u0 = Value.ref a := ra
  have bk : ∀ b o, base.get? b = some o → s.heap.get? b = some o := fun b o e => (env.bs b o e).1
  have kin : K.In s.heap := env.mod.kin.keeps bk
  obtain ⟨t1, hea⟩ := exo_at env.hok ea
  have clsC : clsIn K C = some { name := nmC, bases := bsC, mro := .ref C :: bmC, ns := NC, qualname := qC, hasDict := true, slotNames := snC, subclasses := sub, abstract := ab, collection := col, hasDel := false } := by
    unfold clsIn; rw [hC] <;> rfl
  have hsub : mroIn K C (.ref C) = some true := by
    unfold mroIn
    rw [clsC, Option.bind_some, if_neg (show ¬ (List.isEmpty (Value.ref C :: bmC) = true) from Bool.false_ne_true)]
    simp
  -- the heap without the exception
  have bh : ∀ b o, base.get? b = some o → (s.heap.hide a).get? b = some o := fun b o e =>
    (Heap.hide_ne s.heap fun z => by have n := (env.bs b o e).2; rw [z, ea] at n; cases n).trans (bk b o e)
  have kinH : K.In (s.heap.hide a) := env.mod.kin.keeps bh
  refine ks_codeAny_call_defAt (fd := ksFn nm qual params _ scope .none kV doc pm an (.ref cda) ct cc) (body := xBody text f par j p0 p1 p2 p3 p4 p5 p6 p7 p8) (binds := [(("self" : Str), Value.ref a), (par, u)]) room.depth (kin _ _ lk) rfl
    (env.mod.nolimit.keeps bk) (codeRec_of kin hcd) rfl bnd hcell (fun x hx => ?_) (fun h₁ hns hk₁ => ?_) hco hgen hk
  · rcases List.mem_cons.mp hx with rfl | hx
    · exact hkS
    · rcases List.mem_cons.mp hx with rfl | hx
      · exact hkP
      · cases hx
  have F1 : Fr (s.heap.hide a) s.heap.objs.size h₁ (fun y => [(("self" : Str), Value.ref a), (par, u)].reverse.lookup y) :=
    ⟨hns, fun b o e => hk₁ b o (Heap.of_hide e), Nat.le_of_eq (Heap.hide_size s.heap a)⟩
  have N1 : News (s.heap.hide a) s.heap.objs.size h₁ [(a, excObj C t1 none .none)] := fun p hp => by
    rcases List.mem_cons.mp hp with rfl | hp
    · exact ⟨hk₁ _ _ hea, Nat.ne_of_lt (Heap.lt_size hea), Heap.hide_self s.heap a⟩
    · cases hp
  have mself : (fun y => [(("self" : Str), Value.ref a), (par, u)].reverse.lookup y) ("self" : Str) = some (.ref a) := by
    have hb : (("self" : Str) == par) = false := by
      rw [beq_eq_false_iff_ne]; exact fun z => hps z.symm
    show List.lookup ("self" : Str) [(par, u), (("self" : Str), Value.ref a)] = _
    rw [List.lookup_cons, hb]
    simp [List.lookup_cons]
  have mpar : (fun y => [(("self" : Str), Value.ref a), (par, u)].reverse.lookup y) par = some u := by
    show List.lookup par [(par, u), (("self" : Str), Value.ref a)] = _
    simp [List.lookup_cons]
  have neA : ∀ {b : Addr} {o : Obj}, (s.heap.hide a).get? b = some o → b ≠ a := fun {b o} e z => by
    rw [z, Heap.hide_self] at e
    cases e
  obtain ⟨mb, hmb, hmbB⟩ := env.mod.blt
  have keep1 : ∀ b o, base.get? b = some o → h₁.get? b = some o := fun b o e => F1.keep b o (bh b o e)
  have kin1 : K.In h₁ := env.mod.kin.keeps keep1
  obtain ⟨pl, hev⟩ := hev (callEnv (ksFn nm qual params (xBody text f par j p0 p1 p2 p3 p4 p5 p6 p7 p8) scope .none kV doc pm an (.ref cda) ct cc) s.heap.objs.size fI)
  refine ks_wpAt_execs_cons (ks_wpAt_Expr_any (hi := by show (scope.kind == .module && _) = false; rw [hk]; rfl) (hs := hsx _) (ks_wpAt_MethodCall (pl := pl) (he := hev) (ks_wpAt_super_base (f := fI) (cc := cda) (ar := ar) (file := file) (tf := tf) hks hkc rfl rfl (kin1 _ _ lk) rfl har rfl (kin1 _ _ lcd) rfl hv2 hfile htop ?_)))
  refine ks_loadName_global hk hks (loadGlobal_builtin (mb := mb) (env.mod.glob.keeps keep1) msup (hmb.keeps keep1) ((hmbB _ (by decide)).trans (show bootBuiltins "super" = some (.type "super") by decide +kernel)) ⟨rfl, ?_⟩)
  refine wpAny_loadName_free hk hkc rfl ⟨_, kin1 _ _ lcc, rfl⟩ ?_
  rw [harn]
  refine wpAny_loadName_local hk hkS hns mself ?_
  refine ks_wpAny_isType_cls (kin1 _ _ hC) rfl ⟨rfl, ?_⟩
  refine ks_wpAny_call_super (kin1 _ _ hC) rfl (hk₁ _ _ hea) rfl (fun c z => by cases z) (looks_mroIn kin1 hsub) (fun h2 e2 keep2 => ?_)
  obtain ⟨F2, N2, l2⟩ := ks_newsPush (s := ⟨h₁, s.gens, s.drawn, s.toks + 2, s.os⟩) F1 N1 rfl e2 keep2
  refine kxs_method X.kf F2 kinH N2 (so := h₁.objs.size) (x := a) (C := C) (D := C) (by simp) (InstAt.of_exc0 (t := t1) (c2 := .none) N2 (by simp)) opq T.sup T.subB (by decide) (fun q3 h3 F3 N3 l3 => ?_)
  refine kxs_callWith1 (i := i) (x := a) N3 (by simp) (spliced_more (wpAny_Constant_str (spliced_none ⟨kxs_at N3 (by simp), ?_⟩)))
  have in3 : K.In h3 := kinH.keeps F3.keep
  refine call_wrap X (e := a) (t0 := t1) (in3 _ _ hC) (N3 (a, excObj C t1 none .none) (by simp)).1 (N3 (q3, kxs_mw i a) (by simp)).1 (by rw [sizeLine_eq]; simp) (fun h4 keep4 he4 _ => ?_)
  obtain ⟨oL, esL, epL, hL, restL⟩ := F3.ns
  have neL : s.heap.objs.size ≠ a := fun z => (N3 (a, excObj C t1 none .none) (by simp)).2.1 z.symm
  have hL4 : h4.Ns s.heap.objs.size (fun y => [(("self" : Str), Value.ref a), (par, u)].reverse.lookup y) := ⟨oL, esL, epL, keep4 _ _ neL hL, restL⟩
  have all4 : ∀ b o, b ≠ a → s.heap.get? b = some o → h4.get? b = some o := fun b o n e =>
    keep4 b o n (F3.keep b o ((Heap.hide_ne s.heap n).trans e))
  have in4 : K.In h4 := env.mod.kin.keeps fun b o e => all4 b o (neA (bh b o e)) (bk b o e)
  refine wpAt_of_wpAny (wpAny_execs_cons (plainObj_wpAny_Assign_Attribute ?_ (hsw _)))
  refine wpAny_Name (wpAny_loadName_local hk hkP hL4 mpar ?_) hpd
  refine wpAny_Name (wpAny_loadName_local hk hkS hL4 mself ?_)
  refine set_first X in4 he4 clsC rfl htail rfl nf T.sa (fun h5 tk dx keep5 hdx dne hx hn => wpAny_execs_nil ?_)
  have dn : s.heap.objs.size ≤ dx := Nat.le_trans (Nat.le_of_lt (Heap.lt_size (keep4 _ _ neL hL))) hdx
  obtain ⟨un, ok⟩ := excLaid (P := P) (w := w) (fs := frs outer) env.hok ea ru dn dne (fun b o n e => keep5 b o n (all4 b o n e)) hx hn
  exact ⟨.non, _, rfl, env.bare, un, ok, rfl, q dx (env.hok.fresh dn) dne⟩
end
end JgX
namespace JgX
open PySem PySem.W PySem.Calls PyProof.Rows PySem.Spec L2
/-! ### C(v) in a raise -/
abbrev mroV : List Value := [.type "ValueError", .type "Exception", .type "BaseException", .type "object"]
theorem refs_tail : ∀ {l : List Value}, excTail mroV l = true → HandSPX.refsVE l = true := by
  intro l
  induction l with
  | nil => intro h; exact absurd h (by decide +kernel)
  | cons a r ih =>
    intro h
    rcases excTail_cases _ h with ⟨c, r', e, h'⟩ | e
    · cases e
      exact ih h'
    · rw [e]
      decide +kernel
/-- the library's word for such a class, under ValueError -/
theorem XC.oex {K : Frag} {C : Addr} {B i : String} (T : XC K C B "ValueError.__new__" i mroV) : OexC K C := by
  obtain ⟨nm, q, N, bs, bm, sn, sub, ab, col, dd, k0, k1, k2, k3, k5, hC, ht⟩ := T.cls
  exact ⟨⟨nm, q, N, bs, bm, sn, sub, ab, col, dd, k0, k1, k2, k3, k5, hC, refs_tail ht⟩, T.sa, T.exC, T.tyC, T.kC⟩
section
variable {X : Cx} {CX : CXT} {x : Str} {C fI : Addr} {k : Nat} {fd : FuncData} {ps : List Str} {sp : Sp} {ds : List Value} {dvs : List V} {e : Expr} {es : List Expr} {ta : TA} {p pos : Pos} {B i : String}
theorem mk_x (XB : XBase B "ValueError.__new__" i mroV) (T : XC X.K C B "ValueError.__new__" i mroV) (iC : findIn X.K (.ref C) "__init__" = some (some (.ref fI))) (tI : typeIn X.K (.ref fI) = some (.type "function"))
    (F1 : FnOk X.prog X.w X.K X.mg X.base CX k fI fd ps sp) (hr : Room (k + 1) X.A) (hb : Binds X.K fd ps ds) (hd : Vals dvs ds) (hx : Passes CX X (fun _ _ _ => False)) (hg : Gl X x) (hm : X.mg x = some (.ref C)) (ha : PA X (e :: es) ta)
    (hdb : (x == ("__debug__" : Str)) = false := by decide) (he : starEach (e :: es) X.env = (false, eval e X.env) :: starEach es X.env := by rfl) (hpl : (backTo pos (starEach es X.env)).any (·.1) = false := by rfl) :
    PMk X (.Call (.Name x p) (e :: es) [] pos) (tMkO C sp dvs ta) := pmk_oex T.oex iC tI F1 hr hb hd hx hg hm ha hdb he hpl
end
end JgX
namespace JgX
open PySem PySem.W PySem.Calls PyProof.Rows PySem.Spec L2
/-! ### a tracked exception: isinstance, e.f -/
/-- what its class must have -/
structure XA (K : PySem.W.Frag) (C : Addr) : Prop where
  f : XfC K C
  cl : (clsIn K C).isSome = true
  ha : findIn K (.ref C) "__class__" = some (some (.builtin "object.__class__"))
  hn : specialIn K (.builtin "object.__class__") "__get__" = some (some (.builtin "getset_descriptor.__get__"))
  tk : takesIn K (.builtin "object.__class__") = some true
  hm : mroIn K C (.type "object") = some true
/-- a stands for an exception of the class at C with these fields -/
def Xe (H : Hp) (a C : Addr) (fs : List (Str × V)) : Prop := ∃ dx, H a = some (exo a C (some dx)) ∧ H dx = some (exd dx fs)
abbrev keptObj (C t1 dx : Addr) : Obj := { cls := .ref C, dict := some dx, data := .fields #[.ref t1, .none, .none, .none, .bool false, .none] }
/-- at a: an exception of the class at C, made with the text z -/
def Kx (H : Hp) (a C : Addr) (z : Str) : Prop := ∃ (t1 dx : Addr) (fs : List (Str × V)), H a = some (.frz (keptObj C t1 dx) (exo a C (some dx))) ∧ H dx = some (exd dx fs) ∧ H t1 = some (.tup [.str z])
/-- a stands for an exception of the class at C, made to be raised or kept -/
def Xin (H : Hp) (a C : Addr) : Prop := (∃ fs : List (Str × V), Xe H a C fs) ∨ ∃ z : Str, Kx H a C z
def rIsiX (K : PySem.W.Frag) : List V → Hp → VK → Prop := fun xs H Q => ∃ (a C : Addr) (c : V) (u : Value) (b : Bool), xs = [.ref a, c] ∧ ClsV c u ∧ Xin H a C ∧ XA K C ∧ kitOne K (.ref C) u = some b ∧ Q (.bl b) H
def rEith (r1 r2 : List V → Hp → VK → Prop) : List V → Hp → VK → Prop := fun xs H Q => r1 xs H Q ∨ r2 xs H Q
section
variable {X : Cx}
theorem call_eith {c : Value} {r1 r2 : List V → Hp → VK → Prop} (h1 : CallR X c r1) (h2 : CallR X c r2) : CallR X c (rEith r1 r2) := by
  intro pins s σ H xs us Q I r h
  rcases h with h | h
  · exact h1 pins s σ H xs us Q I r h
  · exact h2 pins s σ H xs us Q I r h
theorem Xe.inst {pins : List (Addr × Obj)} {σ : L2.St} {H : Hp} {s : Shared} {a C : Addr} {fs : List (Str × V)} (I : Inv X pins σ H s) (e : Xe H a C fs) : ∃ (oe od : Obj) (dx : Addr) (mA : Str → Option Value), InstAt s.heap a oe C (some od) ∧ (∃ vs, oe.data = .fields vs) ∧ oe.dict = some dx ∧ s.heap.Ns1 dx mA ∧ (∀ f, RelO (fs.lookup f) (mA f)) ∧ s.heap.get? dx = some od := by
  obtain ⟨dx, ea, ed⟩ := e
  obtain ⟨t1, ho⟩ := exo_at I.hok ea
  obtain ⟨mA, hns, rel⟩ := exd_at I.hok ed
  obtain ⟨od, hod, hl⟩ := lookIn_ns hns
  exact ⟨_, od, dx, mA, ⟨ho, rfl, rfl, hod⟩, ⟨_, rfl⟩, rfl, hns, rel, hod⟩
theorem Kx.inst {pins : List (Addr × Obj)} {σ : L2.St} {H : Hp} {s : Shared} {a C : Addr} {z : Str} (I : Inv X pins σ H s) (e : Kx H a C z) : ∃ (oe od : Obj), InstAt s.heap a oe C (some od) := by
  obtain ⟨t1, dx, fs, ea, ed, _⟩ := e
  have ho : s.heap.get? a = some (keptObj C t1 dx) := (I.hok a _ ea).1
  obtain ⟨mA, hns, rel⟩ := exd_at I.hok ed
  obtain ⟨od, hod, hl⟩ := lookIn_ns hns
  exact ⟨_, od, ho, rfl, rfl, hod⟩
theorem call_isiX : CallR X (.builtin "isinstance") (rIsiX X.K) := by
  intro pins s σ H xs us Q I r h
  obtain ⟨a, C, c, u, b, rfl, k, xe, T, e, q⟩ := h
  obtain ⟨u1, u2, rfl, r1, r2⟩ := vals2 r
  have e2 := k.eq r2
  subst e2
  cases (show u1 = Value.ref a from r1)
  have J : ∃ (oe od : Obj), InstAt s.heap a oe C (some od) := by
    rcases xe with ⟨fs, xe⟩ | ⟨z, xe⟩
    · obtain ⟨oe, od, dx, mA, J, _, _, _, _, _⟩ := xe.inst I
      exact ⟨oe, od, J⟩
    · exact xe.inst I
  obtain ⟨oe, od, J⟩ := J
  exact kia_one (kitx_exc T.cl T.f.ga T.f.gg T.f.exC T.ha T.hn T.tk T.hm) I.kIn J e (fun z => nomatch z) fun tk => ⟨.bl b, H, I.tok tk, rfl, q⟩
/-- isinstance of data or of an exception -/
theorem call_isiE {K : PySem.W.Frag} (hK : X.K = K := by rfl) : CallR X (.builtin "isinstance") (rEith (rIsi K) (rIsiX K)) := by
  subst hK
  exact call_eith call_isi call_isiX
/-- e.f of such -/
def tXg (K : PySem.W.Frag) (f : Str) (te : TE) : TE := fun σ H Q => te σ H fun x H1 => ∃ (a C : Addr) (fs : List (Str × V)) (v : V), x = .ref a ∧ Xe H1 a C fs ∧ XfC K C ∧ findIn K (.ref C) f = some none ∧ fs.lookup f = some v ∧ Q v H1
theorem pe_xg {K : PySem.W.Frag} {e : Expr} {te : TE} {pos : Pos} {n : Str} (he : PE X e te) (hb : attributeBase e n X.env (eval e X.env) = eval e X.env := by rfl) (hK : X.K = K := by rfl) : PE X (.Attribute e n pos) (tXg K n te) := by
  subst hK
  refine ⟨fun pins s σ H Q I h => ?_⟩
  refine attr_of hb (thn (he.run pins s σ H _ I h) fun u s1 hh => ?_)
  obtain ⟨x, H1, I1, rx, a, C, fs, v, ex, xe, T, hno, l, q⟩ := hh
  subst ex
  obtain rfl : u = Value.ref a := rx
  obtain ⟨oe, od, dx, mA, J, _, hdict, hns, rel, hod⟩ := xe.inst I1
  obtain ⟨od', ho', hl⟩ := lookIn_ns hns
  obtain rfl : od' = od := Option.some.inj (ho'.symm.trans hod)
  obtain ⟨u, hu, ru⟩ := RelO.some_of (v := v) (o := mA n) (by rw [← l]; exact rel n)
  exact HandSPX.exc_get I1.kIn J T.ga T.gg T.exC (findObj_own T.hdC hno rfl (by rw [hl, hu])) (handed_of ru) ⟨v, H1, I1.tok _, ru, q⟩
end

/-! ### facts of a class, from the text and from the written part -/
/-- what the text of such an __init__ is -/
structure XSt (st : Stmt) (f par : Str) : Prop where
  ex : ∃ (text : Str) (j : Nat) (p0 p1 p2 p3 p4 p5 p6 p7 p8 : Pos), defBody st = xBody text f par j p0 p1 p2 p3 p4 p5 p6 p7 p8 ∧
    (∀ en : Env, ∃ pl : Sem Bool, eval (.Call (.Attribute (.Call (.Name "super" p0) [] [] p1) "__init__" p2) [.Constant (.str text) j p3] [] p4) en = (do
      let ov ← attributeBase (.Call (.Name "super" p0) [] [] p1) "__init__" en (eval (.Call (.Name "super" p0) [] [] p1) en)
      standAt p2.atName
      let (f, first) ← holding [ov] (getMethod ov "__init__" pl)
      callWith p4 f first (backTo p4 (starEach [.Constant (.str text) j p3] en)) [])) ∧
    (∀ en : Env, swapsWith (.Call (.Attribute (.Call (.Name "super" p0) [] [] p1) "__init__" p2) [.Constant (.str text) j p3] [] p4) none p4.line en = pure false) ∧
    (∀ env : Env, swapsWith (.Name par p7) (some (.Attribute (.Name "self" p5) f p6)) p8.line env = pure false)
  ks : (defScope st).names.lookup ("super" : Str) = some .globalImplicit
  kc : (defScope st).names.lookup ("__class__" : Str) = some .free
  kself : (defScope st).names.lookup ("self" : Str) = some .local
  kpar : (defScope st).names.lookup par = some .local
  kind : (defScope st).kind = .function
  cell : ∀ x ∈ (defScope st).names, x.2 ≠ .cell
  co : (defScope st).isCoroutine = false
  gen : (defScope st).isGenerator = false
  par0 : ∃ ar, ((defArgs st).posonlyargs ++ (defArgs st).args).head? = some ar ∧ ar.arg = ("self" : Str)
  ps : par ≠ ("self" : Str)
  pd : (par == ("__debug__" : Str)) = false
theorem xc_mk {K : Frag} {C N : Addr} {B newId i : String} {bmB bs bm sub : List Value} {nm q : Str} {sn : List Str} {ab : Bool} {col : Option Bool} {dd : Option Addr} {k0 k1 k2 k3 k5 : Option Value}
    (l : K.lookup C = some (excClassObj nm q C N bs bm true sn sub ab col dd k0 k1 k2 k3 k5 newId)) (t : excTail bmB bm = true) (sa : findIn K (.ref C) "__setattr__" = some (some (.builtin "object.__setattr__"))) (exC : subIn K (.ref C) (.type "BaseException") = some true)
    (tyC : typeIn K (.ref C) = some (.type "type")) (kC : keepIn K (.ref C) = true) (sup : ks_superIn K C C "__init__" = some (some (.builtin i))) (subB : subIn K (.ref C) (.type B) = some true) : XC K C B newId i bmB :=
  ⟨⟨nm, q, N, bs, bm, sn, sub, ab, col, dd, k0, k1, k2, k3, k5, l, t⟩, sa, exC, tyC, kC, sup, subB⟩
theorem xa_mk {K : Frag} {C : Addr} {o : Obj} {cd : ClassData} (ga : findIn K (.ref C) "__getattribute__" = some (some (.builtin "BaseException.__getattribute__"))) (gg : findIn K (.ref C) "__getattr__" = some none) (exC : subIn K (.ref C) (.type "BaseException") = some true) (hd : hasDictIn K C = true)
    (cl : clsIn K C = some cd) (ha : findIn K (.ref C) "__class__" = some (some (.builtin "object.__class__"))) (hn : specialIn K (.builtin "object.__class__") "__get__" = some (some (.builtin "getset_descriptor.__get__"))) (tk : takesIn K (.builtin "object.__class__") = some true)
    (hm : mroIn K C (.type "object") = some true) : XA K C := ⟨⟨ga, gg, exC, hd⟩, by rw [cl]; rfl, ha, hn, tk, hm⟩
theorem xfn_mk {P : Program} {K : Frag} {C fI cc cda : Addr} {nm qual : Str} {st : Stmt} {oc kV doc pm ct ccl cl : Value} {od an cdd cld : Option Addr} {osl ccs csl : Array (Option Value)} {vs : Array Value} {file : Str} {tf : Tok}
    (l : K.lookup fI = some ⟨oc, od, .func (ksFn nm qual (defArgs st) (defBody st) (defScope st) .none kV doc pm an (.ref cda) ct cc), osl⟩) (hcd : codeIn K (.ref cda) qual = true) (lcd : K.lookup cda = some ⟨ccl, cdd, .fields vs, ccs⟩) (hv2 : vs[2]? = some (.str file tf))
    (hfile : ((P.main.file : Str) == file) = true) (lcc : K.lookup cc = some ⟨cl, cld, .cell (some (.ref C)), csl⟩) (iC : findIn K (.ref C) "__init__" = some (some (.ref fI))) (tI : typeIn K (.ref fI) = some (.type "function")) :
    XFn P K C fI (ksFn nm qual (defArgs st) (defBody st) (defScope st) .none kV doc pm an (.ref cda) ct cc) qual (defArgs st) (defBody st) (defScope st) :=
  ⟨⟨nm, cc, cda, oc, kV, doc, pm, ct, ccl, cl, od, an, cdd, cld, osl, ccs, csl, vs, file, tf, rfl, l, hcd, lcd, hv2, hfile, lcc⟩, iC, tI⟩
theorem init_st {P : Program} {w : World} {K : Frag} {mg : Str → Option Value} {base : Heap} {CX : CXT} {k : Nat} {B newId i : String} {bmB : List Value} {C fI : Addr} {fd : FuncData} {qual f par : Str} {st : Stmt} (X : XBase B newId i bmB) (T : XC K C B newId i bmB)
    (S : XFn P K C fI fd qual (defArgs st) (defBody st) (defScope st)) (Z : XSt st f par) (nf : findIn K (.ref C) f = some none) (opq : nsIn K cStatics "thirdparty.any" = some none) (msup : mg "super" = none)
    (htop : (P.main.scope.names.lookup ("super" : Str)).isSome = false) : FnOk P w K mg base CX (k + 1) fI fd [("self" : Str), par] (xInit C f) := by
  obtain ⟨text, j, p0, p1, p2, p3, p4, p5, p6, p7, p8, eb, hev, hsx, hsw⟩ := Z.ex
  rw [eb] at S
  exact init_fn X T S nf opq msup htop Z.ks Z.kc Z.kself Z.kpar Z.kind Z.cell Z.co Z.gen Z.par0 Z.ps Z.pd hev hsx hsw
theorem XFn.binds {P : Program} {K : Frag} {C fI : Addr} {fd : FuncData} {qual : Str} {params : Arguments} {body : List Stmt} {scope : Scope} {ps : List Str} (S : XFn P K C fI fd qual params body scope)
    (h : ∀ (nm : Str) (cc cda : Addr) (kV doc pm ct : Value) (an : Option Addr) (us : List Value), us.length = ps.length → bindArgs (ksFn nm qual params body scope .none kV doc pm an (.ref cda) ct cc) ⟨us, []⟩ = pure (ps.zip us)) : Binds K fd ps [] := by
  obtain ⟨nm, cc, cda, oc, kV, doc, pm, ct, ccl, cl, od, an, cdd, cld, osl, ccs, csl, vs, file, tf, rfl, _⟩ := S.ex
  exact .all (h nm cc cda kV doc pm ct an)
theorem g_mkO {C : Addr} {sp : Sp} {dvs : List V} {σ : L2.St} {H : Hp} {Q : XK} {ta : TA} (q : ta σ H fun vs H1 => vs.length ≤ 1000 ∧ ∀ a, H1 a = none → sp (.ref a :: (vs ++ dvs)) (upd H1 a (exo a C none))
    (fun v H2 => v = .non ∧ ∃ (d : Addr) (fs : List (Str × V)), H2 a = some (exo a C (some d)) ∧ H2 d = some (exd d fs) ∧ H1 d = none ∧ Q (.ref C) (some d) (upd (del H2 a) d (.xd fs))) (fun _ _ _ => False)) : tMkO C sp dvs ta σ H Q := q
/-- raise C(v) read: the dict that the exception gets is new -/
theorem g_mkX {C : Addr} {f : Str} {y : V} {H1 : Hp} {Q : XK} (q : ∀ dx, H1 dx = none → Q (.ref C) (some dx) (upd H1 dx (.xd [(f, y)]))) : [y].length ≤ 1000 ∧ ∀ a, H1 a = none → xInit C f (.ref a :: ([y] ++ [])) (upd H1 a (exo a C none))
    (fun v H2 => v = .non ∧ ∃ (d : Addr) (fs : List (Str × V)), H2 a = some (exo a C (some d)) ∧ H2 d = some (exd d fs) ∧ H1 d = none ∧ Q (.ref C) (some d) (upd (del H2 a) d (.xd fs))) (fun _ _ _ => False) := by
  refine ⟨by simp, fun a ha => ⟨a, y, rfl, upd_same, fun dx hd hne => ⟨rfl, dx, [(f, y)], upd_same, ?_, ?_, ?_⟩⟩⟩
  · rw [upd_ne hne, upd_same]
  · rw [upd_ne hne] at hd
    exact hd
  · rw [upd_ne hne] at hd
    have e : upd (del (upd (upd (upd H1 a (exo a C none)) dx (exd dx [(f, y)])) a (exo a C (some dx))) a) dx (.xd [(f, y)]) = upd H1 dx (.xd [(f, y)]) := by
      funext b
      by_cases h1 : b = dx
      · rw [h1, upd_same, upd_same]
      · rw [upd_ne h1, upd_ne h1]
        by_cases h2 : b = a
        · rw [h2, del_same, ha]
        · rw [del_ne h2, upd_ne h2, upd_ne h1, upd_ne h2]
    rw [e]
    exact q dx hd
end JgX
namespace Jg
open PySem PySem.Spec L2 JgX
/-! ### things of any kind, by what isinstance tells of them -/
def Isi (K : PySem.W.Frag) (H : Hp) (v : V) (T : String) (b : Bool) : Prop := ∀ Q : VK, Q (.bl b) H → rEith (rIsi K) (rIsiX K) [v, .ty T] H Q
section
variable {K : PySem.W.Frag} {H : Hp} {v : V} {T ty : String} {b : Bool} {Q : VK}
theorem Isi.of (h : TyX K H v (.type ty)) (k : kitB ty T = some b) : Isi K H v T b := fun Q q => Or.inl ⟨v, .ty T, .type ty, .type T, b, rfl, .ty T, h, kit_ty k, q⟩
theorem Isi.exc {a C : Addr} (e : Xin H a C) (x : XA K C) (k : PySem.W.kitOne K (.ref C) (.type T) = some b) : Isi K H (.ref a) T b := fun Q q => Or.inr ⟨a, C, .ty T, .type T, b, rfl, .ty T, e, x, k, q⟩
theorem g_isiE (h : Isi K H v T b) (q : Q (.bl b) H) : rEith (rIsi K) (rIsiX K) [v, .ty T] H Q := h Q q
theorem isi_s (z : Str) : Isi K H (.str z) "str" true := .of (.base (.str z)) (by decide +kernel)
theorem isi_si (z : Str) : Isi K H (.str z) "int" false := .of (.base (.str z)) (by decide +kernel)
theorem isi_i (z : Int) : Isi K H (.int z) "int" true := .of (.base (.int z)) (by decide +kernel)
theorem isi_ib (z : Int) : Isi K H (.int z) "bool" false := .of (.base (.int z)) (by decide +kernel)
theorem isi_b (z : Bool) : Isi K H (.bl z) "int" true := .of (.base (.bl z)) (by decide +kernel)
theorem isi_bb (z : Bool) : Isi K H (.bl z) "bool" true := .of (.base (.bl z)) (by decide +kernel)
end
/-- a thing: a number that isn't a truth, or none -/
def IsW (K : PySem.W.Frag) (H : Hp) (v : V) : Option Int → Prop
  | some i => v = .int i
  | none => (∃ b, v = .bl b) ∨ Isi K H v "int" false
/-- a thing: a text of at most n signs, or none -/
def IsS (K : PySem.W.Frag) (H : Hp) (n : Nat) (v : V) : Option Str → Prop
  | some z => v = .str z ∧ Sg z n
  | none => Isi K H v "str" false
/-- [f c for c in text] -/
theorem lc_strP {σ : L2.St} {H : Hp} {Q : VK} {te : TE} {i : Nat} {z : Str} (f : Nat → V) (hn : z.cps.size < sizeLine) (wv : ∀ x, wipe ((wipe σ [i]).set i (some x)) [i] = wipe σ [i])
    (hs : ∀ c ∈ z.cps.toList, ∀ (H2 : Hp) (R : VK), Same H H2 → R (f c) H2 → te ((wipe σ [i]).set i (some (.str ⟨#[c]⟩))) H2 R)
    (q : ∀ D, H D = none → Q (.ref D) (upd H D (.lst (z.cps.toList.map f)))) : lcB (gName i) tYes te [i] σ Q (Its z) H := by
  intro D hD
  refine lc_it (n := z.cps.size) walk_str (fun j H2 => H2 = upd H D (.lst ((z.cps.toList.take j).map f))) (by rw [List.take_zero, List.map_nil]) (fun _ _ _ _ => trivial) ?_ ?_
  · rintro j x H2 H3 hj rfl ⟨rfl, c, hc, rfl⟩
    have hc2 : z.cps.toList[j]? = some c := by simpa using hc
    refine ⟨wv _, ?_⟩
    with_reducible refine g_tyes ?_
    with_reducible refine g_true ?_
    refine hs c (List.mem_of_getElem? hc2) _ _ (fun b o e => by rw [upd_ne (ne_of_none e hD)]; exact e) ?_
    refine ⟨_, upd_same, ?_, ?_⟩
    · rw [List.length_map]
      exact Nat.lt_of_le_of_lt (List.length_take_le' _ _) (by rw [Array.length_toList]; exact hn)
    · rw [upd_upd, List.take_add_one, hc2, List.map_append]
      rfl
  · rintro H2 rfl
    rw [← Array.length_toList, List.take_length]
    exact q D hD
/-! ### plain numbers -/
def digit (c : Nat) : Bool := decide (48 ≤ c) && decide (c ≤ 57)
def plainT (z : Str) : Bool := decide (1 ≤ (TL.tl z).length) && decide ((TL.tl z).length ≤ 30) && (TL.tl z).all digit && (decide ((TL.tl z).head? ≠ some 48) || decide ((TL.tl z).length = 1))
def plainO : Option Str → Bool
  | some z => plainT z
  | none => false
def numT (z : Str) : Int := (NumText.digitsVal (TL.tl z) : Nat)
def numO (o : Option Str) (lo hi : Int) : Option Int := o.bind fun z => if plainT z = true then (if lo ≤ numT z ∧ numT z ≤ hi then some (numT z) else none) else none
def numV : Option Int → V
  | some i => .int i
  | none => .non
theorem figs (c : Nat) : decide (c ∈ (Str.ofString "0123456789").cps.toList) = digit c := by
  have : (Str.ofString "0123456789").cps.toList = [48, 49, 50, 51, 52, 53, 54, 55, 56, 57] := by decide +kernel
  rw [this]
  unfold digit
  rw [Bool.eq_iff_iff]
  simp only [List.mem_cons, List.not_mem_nil, or_false, decide_eq_true_eq, Bool.and_eq_true]
  omega
/-! ### a module's constants -/
theorem pe_globS {X : Cx} {x : Str} {z : Str} {pos : Pos} (hg : Gl X x) (h : ∃ t, X.mg x = some (.str z t)) (hd : (x == ("__debug__" : Str)) = false := by decide) : PE X (.Name x pos) (tC (.str z)) := by
  obtain ⟨t, e⟩ := h
  exact pe_glob hg e ⟨t, rfl⟩ hd
theorem pe_globI {X : Cx} {x : Str} {z : Int} {pos : Pos} (hg : Gl X x) (h : ∃ t, X.mg x = some (.int z t)) (hd : (x == ("__debug__" : Str)) = false := by decide) : PE X (.Name x pos) (tC (.int z)) := by
  obtain ⟨t, e⟩ := h
  exact pe_glob hg e ⟨t, rfl⟩ hd
theorem g_chain {r r' : R2} {ta tb tc : TE} {σ : L2.St} {H : Hp} {Q : VK} (q : ta σ H fun x H1 => tb σ H1 fun y H2 => r x y H2 fun z H3 => ∃ k, z = .bl k ∧ (if k = true then tc σ H3 fun w' H4 => r' y w' H4 Q else Q (.bl false) H3)) : tChain r r' ta tb tc σ H Q := q
def wholeB (lo hi : Int) : Option Int → Bool
  | some i => decide (lo ≤ i ∧ i ≤ hi)
  | none => false
theorem g_ntwo {c A B : Prop} [Decidable c] (h1 : c → B) (h2 : ¬ c → A) : if (!decide c) = true then A else B := by
  by_cases h : c
  · rw [decide_eq_true h]
    exact g_nt (h1 h)
  · rw [decide_eq_false h]
    exact g_nf (h2 h)
def rIntS : List V → Hp → VK → Prop := fun xs H Q => ∃ a n, xs = [.str a] ∧ PySem.intText? a = some n ∧ a.length ≤ 640 ∧ Q (.int n) H
theorem call_intS {X : Cx} : CallR X (.type "int") rIntS := call_int_str
theorem plain_num {z : Str} (h : plainT z = true) : PySem.intText? z = some (numT z) ∧ z.length ≤ 30 ∧ 1 ≤ z.length ∧ (TL.tl z).all digit = true := by
  unfold plainT at h
  rw [Bool.and_eq_true, Bool.and_eq_true, Bool.and_eq_true, decide_eq_true_eq, decide_eq_true_eq] at h
  obtain ⟨⟨⟨h1, h2⟩, h3⟩, _⟩ := h
  rw [TL.len_tl]
  refine ⟨PySem.intText_digits (x := z) (fun c hc => ?_) (fun e => ?_) (by rw [TL.len_tl]; omega), h2, h1, h3⟩
  · have z9 := List.all_eq_true.mp h3 c hc
    unfold digit at z9
    rw [Bool.and_eq_true, decide_eq_true_eq, decide_eq_true_eq] at z9
    exact z9
  · have : (TL.tl z).length = 0 := by
      rw [show TL.tl z = [] from e]
      rfl
    omega
theorem g_intS {z : Str} {H : Hp} {Q : VK} (h : plainT z = true) (q : Q (.int (numT z)) H) : rIntS [.str z] H Q := ⟨z, numT z, rfl, (plain_num h).1, Nat.le_trans (plain_num h).2.1 (by decide), q⟩
theorem g_callN {n m : Nat} {sp : Sp} {gV : List V → List V → List V} {E : XK} {t tk : TA} {σ : L2.St} {H : Hp} {Q : VK} (q : t σ H fun vs H1 => tk σ H1 fun zs H2 => vs.length = n ∧ zs.length = m ∧ sp (gV vs zs) H2 Q E) : tCallN n m sp gV E t tk σ H Q := q
theorem numV_some (o : Option Int) : (!decide (numV o = .non)) = o.isSome := by cases o <;> simp [numV]
theorem at_head {z : Str} {c : Nat} {r : List Nat} (h : TL.tl z = c :: r) : atI z.cps.toList 0 = some c := by
  show atI (TL.tl z) 0 = some c
  rw [h]
  unfold atI ixN
  rw [if_pos (by decide), if_pos (by rw [List.length_cons]; omega)]
  rfl
theorem tl_cons {z : Str} (h : 1 ≤ z.length) : ∃ c r, TL.tl z = c :: r := by
  rw [TL.len_tl] at h
  cases h9 : TL.tl z with
  | nil => rw [h9] at h; simp at h
  | cons c r => exact ⟨c, r, rfl⟩
theorem int_one (n : Nat) : decide (V.int (n : Int) = V.int 1) = decide (n = 1) := by
  rw [Bool.eq_iff_iff, decide_eq_true_eq, decide_eq_true_eq]
  constructor
  · intro h
    have h7 := V.int.inj h
    omega
  · intro h
    rw [h]
    rfl
/-! ### texts and what is none, standing through changes elsewhere -/
/-- a thing that is no text, by its class -/
def NoS (H : Hp) (v : V) : Prop := v = .non ∨ (∃ b, v = .bl b) ∨ (∃ i, v = .int i) ∨ ∃ q, v = .ref q ∧ ((∃ xs, H q = some (.lst xs)) ∨ (∃ xs, H q = some (.tup xs)) ∨ ∃ kvs, H q = some (.dK kvs))
/-- what a thing is: a text, or none -/
def IsT (H : Hp) (v : V) : Option Str → Prop
  | some z => v = .str z ∧ Sg z 2000
  | none => NoS H v
theorem NoS.isi {K : PySem.W.Frag} {H : Hp} {v : V} (h : NoS H v) : ∃ ty, TyX K H v (.type ty) ∧ PySem.W.kitOne K (.type ty) (.type "str") = some false := by
  rcases h with rfl | ⟨b, rfl⟩ | ⟨i, rfl⟩ | ⟨q, rfl, ⟨xs, e⟩ | ⟨xs, e⟩ | ⟨xs, e⟩⟩
  · exact ⟨_, .base .non, kit_ty (by decide +kernel)⟩
  · exact ⟨_, .base (.bl b), kit_ty (by decide +kernel)⟩
  · exact ⟨_, .base (.int i), kit_ty (by decide +kernel)⟩
  · exact ⟨_, .base (.lst e), kit_ty (by decide +kernel)⟩
  · exact ⟨_, .base (.tup e), kit_ty (by decide +kernel)⟩
  · exact ⟨_, .base (.dK e), kit_ty (by decide +kernel)⟩
theorem NoS.same {H H' : Hp} {v : V} (h : NoS H v) (s : Same H H') : NoS H' v := by
  rcases h with h | h | h | ⟨q, e, ⟨xs, h⟩ | ⟨xs, h⟩ | ⟨xs, h⟩⟩
  · exact Or.inl h
  · exact Or.inr (Or.inl h)
  · exact Or.inr (Or.inr (Or.inl h))
  · exact Or.inr (Or.inr (Or.inr ⟨q, e, Or.inl ⟨xs, s _ _ h⟩⟩))
  · exact Or.inr (Or.inr (Or.inr ⟨q, e, Or.inr (Or.inl ⟨xs, s _ _ h⟩)⟩))
  · exact Or.inr (Or.inr (Or.inr ⟨q, e, Or.inr (Or.inr ⟨xs, s _ _ h⟩)⟩))
theorem IsT.same {H H' : Hp} {v : V} {o : Option Str} (h : IsT H v o) (s : Same H H') : IsT H' v o := by
  cases o with
  | some z => exact h
  | none => exact NoS.same h s
theorem isi_str {K : PySem.W.Frag} {H : Hp} (z : Str) : TyX K H (.str z) (.type "str") ∧ PySem.W.kitOne K (.type "str") (.type "str") = some true := ⟨.base (.str z), kit_ty (by decide +kernel)⟩
theorem IsT.mv {p : Addr} {H H' : Hp} {v : V} {o : Option Str} (h : IsT H v o) (hp : ∀ q, v = .ref q → q ≠ p) (m : Mv p H H') : IsT H' v o := by
  cases o with
  | some z => exact h
  | none =>
    rcases h with h | h | h | ⟨q, e, ⟨xs, h⟩ | ⟨xs, h⟩ | ⟨xs, h⟩⟩
    · exact Or.inl h
    · exact Or.inr (Or.inl h)
    · exact Or.inr (Or.inr (Or.inl h))
    · exact Or.inr (Or.inr (Or.inr ⟨q, e, Or.inl ⟨xs, m _ _ (hp q e) h⟩⟩))
    · exact Or.inr (Or.inr (Or.inr ⟨q, e, Or.inr (Or.inl ⟨xs, m _ _ (hp q e) h⟩)⟩))
    · exact Or.inr (Or.inr (Or.inr ⟨q, e, Or.inr (Or.inr ⟨xs, m _ _ (hp q e) h⟩)⟩))
theorem IsT.iss {K : PySem.W.Frag} {H : Hp} {v : V} {o : Option Str} (h : IsT H v o) : IsS K H 2000 v o := by
  cases o with
  | some z => exact h
  | none =>
    obtain ⟨ty, h1, h2⟩ := NoS.isi (K := K) h
    exact fun Q q => Or.inl ⟨v, .ty "str", .type ty, .type "str", false, rfl, .ty "str", h1, h2, q⟩
def rSIdx : V → List V → Hp → VK → Prop := fun x xs H Q => ∃ a b i rest, x = .str a ∧ xs = [.str b] ∧ Builtin.Str.occurrences a b 0 a.length 1 = i :: rest ∧ Q (.int (i : Nat)) H
theorem mt_sidx {X : Cx} : MtR X "str.index" rSIdx := mt_sindex
theorem fig_at : ∀ c : Fin 58, 48 ≤ (c : Nat) → ∃ rest, Builtin.Str.occurrences (Str.ofString "0123456789") ⟨#[(c : Nat)]⟩ 0 (Str.ofString "0123456789").length 1 = ((c : Nat) - 48) :: rest := by
  have h : ∀ c : Fin 58, 48 ≤ (c : Nat) → (Builtin.Str.occurrences (Str.ofString "0123456789") ⟨#[(c : Nat)]⟩ 0 (Str.ofString "0123456789").length 1).head? = some ((c : Nat) - 48) := by decide +kernel
  intro c hc
  have e := h c hc
  cases q : Builtin.Str.occurrences (Str.ofString "0123456789") ⟨#[(c : Nat)]⟩ 0 (Str.ofString "0123456789").length 1 with
  | nil => rw [q] at e; cases e
  | cons x r => rw [q] at e; exact ⟨r, by rw [Option.some.inj e]⟩
theorem g_sidx {c : Nat} {H : Hp} {Q : VK} (h : digit c = true) (q : Q (.int ((c - 48 : Nat) : Int)) H) : rSIdx (.str (Str.ofString "0123456789")) [.str ⟨#[c]⟩] H Q := by
  unfold digit at h
  rw [Bool.and_eq_true, decide_eq_true_eq, decide_eq_true_eq] at h
  obtain ⟨r, e⟩ := fig_at ⟨c, by omega⟩ h.1
  exact ⟨_, _, c - 48, r, rfl, rfl, e, q⟩
theorem g_notInC {H : Hp} {Q : VK} {c : Nat} {x z : Str} (e : x = ⟨#[c]⟩) (q : Q (.bl (!decide (c ∈ z.cps.toList))) H) : rNotInS (.str x) (.str z) H Q := ⟨c, z, by rw [e], rfl, q⟩
/-- [f c for c in text if p c] -/
theorem lc_strF {σ : L2.St} {H : Hp} {Q : VK} {te : TE} {tt : TT} {i : Nat} {z : Str} (p : Nat → Bool) (f : Nat → V) (hn : z.cps.size < sizeLine) (wv : ∀ x, wipe ((wipe σ [i]).set i (some x)) [i] = wipe σ [i])
    (hp : ∀ c ∈ z.cps.toList, ∀ (H2 : Hp) (B : Bool → Hp → Prop), Same H H2 → B (p c) H2 → tt ((wipe σ [i]).set i (some (.str ⟨#[c]⟩))) H2 B)
    (hs : ∀ c ∈ z.cps.toList, ∀ (H2 : Hp) (R : VK), Same H H2 → R (f c) H2 → te ((wipe σ [i]).set i (some (.str ⟨#[c]⟩))) H2 R)
    (q : ∀ D, H D = none → Q (.ref D) (upd H D (.lst ((z.cps.toList.filter p).map f)))) : lcB (gName i) tt te [i] σ Q (Its z) H := by
  intro D hD
  refine lc_it (n := z.cps.size) walk_str (fun j H2 => H2 = upd H D (.lst (((z.cps.toList.take j).filter p).map f))) (by rw [List.take_zero, List.filter_nil, List.map_nil]) (fun _ _ _ _ => trivial) ?_ ?_
  · rintro j x H2 H3 hj rfl ⟨rfl, c, hc, rfl⟩
    have hc2 : z.cps.toList[j]? = some c := by simpa using hc
    have sm : Same H (upd H D (.lst (((z.cps.toList.take j).filter p).map f))) := fun b o e => by rw [upd_ne (ne_of_none e hD)]; exact e
    have mem := List.mem_of_getElem? hc2
    have step : (z.cps.toList.take (j + 1)).filter p = (z.cps.toList.take j).filter p ++ (if p c = true then [c] else []) := by
      rw [List.take_add_one, hc2, List.filter_append]
      congr 1
      cases hq : p c with
      | true => simp [hq]
      | false => simp [hq]
    refine ⟨wv _, ?_⟩
    refine hp c mem _ _ sm ?_
    by_cases hq : p c = true
    · rw [if_pos hq]
      refine hs c mem _ _ sm ?_
      refine ⟨_, upd_same, ?_, ?_⟩
      · rw [List.length_map]
        exact Nat.lt_of_le_of_lt (Nat.le_trans (List.length_filter_le _ _) (List.length_take_le' _ _)) (by rw [Array.length_toList]; exact hn)
      · rw [upd_upd, step, if_pos hq, List.map_append]
        rfl
    · rw [if_neg hq, step, if_neg hq, List.append_nil]
  · rintro H2 rfl
    rw [← Array.length_toList, List.take_length]
    exact q D hD
theorem dp_texts (K : PySem.W.Frag) (H : Hp) : ∀ ys : List Str, DpAll K H (ys.map V.str) (ys.map .str)
  | [] => .nil
  | y :: ys => .cons (.str y) (dp_texts K H ys)
theorem can_texts : ∀ {ys : List Str}, (∀ y ∈ ys, PyData.strOk y = true) → PyData.canLayAll0 (ys.map .str) = true ∧ PyData.depthAll (ys.map .str) = 0
  | [], _ => ⟨rfl, rfl⟩
  | y :: ys, h => by
    obtain ⟨h1, h2⟩ := can_texts (ys := ys) fun x hx => h x (List.mem_cons_of_mem _ hx)
    refine ⟨?_, ?_⟩
    · simp [PyData.canLayAll0, PyData.canLay0, h1, h y List.mem_cons_self]
    · simp [PyData.depthAll, PyData.depth, h2]
theorem shaped_texts {ys : List Str} (h : ∀ y ∈ ys, PyData.strOk y = true) : SeqAt.shaped (.list (ys.map .str)) = true := by
  obtain ⟨h1, h2⟩ := can_texts h
  unfold SeqAt.shaped
  simp [PyData.canLay0, PyData.depth, h1, h2]
/-- a list of texts isn't the empty one -/
theorem g_some {K : PySem.W.Frag} {H : Hp} {Q : VK} {p q : Addr} {ys : List Str} (h1 : H p = some (.lst (ys.map V.str))) (h2 : H q = some (.lst [])) (ok : ∀ y ∈ ys, PyData.strOk y = true) (r : Q (.bl (!ys.isEmpty)) H) : rNeD K (.ref p) (.ref q) H Q := by
  refine ⟨.list (ys.map .str), .list [], .lst (Or.inl (Or.inl h1)) (dp_texts K H ys), .lst (Or.inl (Or.inl h2)) .nil, shaped_texts ok, rfl, ?_⟩
  cases ys with
  | nil => exact r
  | cons y ys => exact r
theorem g_two2 {c A B : Prop} [Decidable c] (h2 : B) (h1 : B → c → A) : if decide c = true then A else B := g_two (h1 h2) (fun _ => h2)
theorem digits_snoc (l : List Nat) (c : Nat) : NumText.digitsVal (l ++ [c]) = NumText.digitsVal l * 10 + (c - 48) := by
  unfold NumText.digitsVal
  rw [List.foldl_append]
  rfl
theorem zero_only {z : Str} {r : List Nat} (h : TL.tl z = 48 :: r) : z = Str.ofString "0" ↔ z.length = 1 := by
  have e0 : TL.tl (Str.ofString "0") = [48] := by decide +kernel
  rw [TL.len_tl, h]
  constructor
  · intro e
    rw [e, e0] at h
    rw [← h]
    rfl
  · intro e
    have : r = [] := by
      cases r with
      | nil => rfl
      | cons x y => simp at e
    rw [this, ← e0] at h
    exact TL.ext_tl h
theorem digits_fold : ∀ (l : List Nat) (acc : Nat), l.all digit = true → l.foldl (fun a c => a * 10 + (c - 48)) acc + 1 ≤ (acc + 1) * 10 ^ l.length
  | [], acc, _ => by simp
  | c :: r, acc, h => by
    rw [List.all_cons, Bool.and_eq_true] at h
    obtain ⟨hc, hr⟩ := h
    unfold digit at hc
    rw [Bool.and_eq_true, decide_eq_true_eq, decide_eq_true_eq] at hc
    have ih := digits_fold r (acc * 10 + (c - 48)) hr
    have le : acc * 10 + (c - 48) + 1 ≤ (acc + 1) * 10 := by omega
    have := Nat.mul_le_mul_right (10 ^ r.length) le
    rw [List.foldl_cons, List.length_cons, Nat.pow_succ]
    have e : (acc + 1) * 10 * 10 ^ r.length = (acc + 1) * (10 ^ r.length * 10) := by rw [Nat.mul_assoc, Nat.mul_comm 10]
    omega
theorem digits_lt {l : List Nat} (h : l.all digit = true) : NumText.digitsVal l < 10 ^ l.length := by
  have := digits_fold l 0 h
  unfold NumText.digitsVal
  simp at this
  omega
theorem digits_take {l : List Nat} (h : l.all digit = true) (n : l.length ≤ 30) (i : Nat) : NumText.digitsVal (l.take i) < 1000000000000000000000000000000 := by
  have a : (l.take i).all digit = true := by
    rw [List.all_eq_true] at h ⊢
    exact fun x hx => h x (List.mem_of_mem_take hx)
  have b := digits_lt a
  have c : 10 ^ (l.take i).length ≤ 10 ^ 30 := Nat.pow_le_pow_right (by decide) (Nat.le_trans (List.length_take_le' _ _) n)
  have d : (10 : Nat) ^ 30 = 1000000000000000000000000000000 := by decide
  omega
theorem g_BM0 {K : PySem.W.Frag} {T : String} {r : V → List V → Hp → VK → Prop} {ta : TE} {σ : L2.St} {H : Hp} {Q : VK} (q : ta σ H fun x H1 => tyV K T x H1 ∧ r x [] H1 Q) : tBM0 K T r ta σ H Q := q
/-- f(k = v, ..): keywords alone -/
theorem pe_callN0 {X : Cx} {CX : CXT} {k : Nat} {f : Addr} {fd : FuncData} {ps ks : List Str} {sp : Sp} {E : XK} {x : Str} {p pos : Pos} {kws : List Keyword} {tk : TA} {g : List Value → List Value → List Value} {gV : List V → List V → List V}
    (F : FnOk X.prog X.w X.K X.mg X.base CX k f fd ps sp) (room : Room k X.A) (hg : Gl X x) (hm : X.mg x = some (.ref f)) (hk : PySem.W.keepIn X.K (.ref f) = true) (hb : KBn X.K fd ps 0 ks g gV) (hx : Passes CX X E) (words : PK X kws tk)
    (named : (backToKw pos (keywordEach kws X.env)).all (·.1.isSome) = true := by rfl) (hks : (backToKw pos (keywordEach kws X.env)).filterMap (·.1) = ks := by rfl) (hdb : (x == ("__debug__" : Str)) = false := by decide)
    (plain : ((backTo pos (starEach [] X.env)).any (·.1) || (backToKw pos (keywordEach kws X.env)).any (·.1.isNone)) = false := by rfl) : PE X (.Call (.Name x p) [] kws pos) (tCallN 0 ks.length sp gV E tNil tk) := by
  constructor
  intro pins s σ H Q I want
  refine wpAny_Call_Name_kw (ld_glob I hg hm ?_ hdb)
  refine PySem.W.callWith_KW0 (h₀ := X.base) I.ok.mod.kin hk named ?_ plain
  have told := words.run pos pins s σ H _ I want
  refine thn told ?_
  rintro ws s1 ⟨zs, H1, I1, rel, _, many, q⟩
  refine ⟨I1.kIn, ?_⟩
  rw [hks]
  exact run_fnN (us := []) (vs := []) F room hb hx I1 .nil rel rfl many q
end Jg
namespace JgH
open PySem PySem.Spec PyProof.Rows HotX
/-! ### ends of iterators while an exception is handled -/
section
variable {prog : Program} {w : World} {A : Around} {E : Value → Shared → Prop} {s : Shared} {x1 : Addr}
/-- a StopIteration, made and raised there: what stood stands -/
theorem stop_hot {α : Type} {Q : α → Shared → Prop} (hot : HotAt A x1 s.heap)
    (hE : ∀ h' e, (∀ c o, s.heap.get? c = some o → h'.get? c = some o) → (∃ o, h'.get? e = some o ∧ o.cls = .type "StopIteration") → E (.ref e) { s with heap := h' }) :
    wpAny (model prog w) A ((do let e ← newExc (.type "StopIteration") []; raiseNew e) : Sem α) Q E s := by
  obtain ⟨hh, o1, vs1, g1, d1, c1⟩ := hot
  refine wpAny_bind ?_
  simp only [newExc, newTuple]
  refine wpAny_bind (wpAny_newObj_type ?_ (by size_fits))
  refine wpAny_bind (m := firstArgMember _ _) (wpAny_of_eq (a := Value.none) (by first | rfl | (simp only [firstArgMember]; rfl)) (wpAny_newObj_type ?_ (by size_fits)))
  have keep : ∀ {a b : Obj} (c : Addr) (o : Obj), s.heap.get? c = some o → ((s.heap.push a).push b).get? c = some o := fun c o e => Heap.get?_push_of_some _ (Heap.get?_push_of_some _ e)
  have lt : ∀ {a : Obj} {c : Addr} {o : Obj}, s.heap.get? c = some o → c ≠ (s.heap.push a).objs.size := fun e => Nat.ne_of_lt (Heap.lt_size (Heap.get?_push_of_some _ e))
  refine raiseNew_hot ⟨hh, o1, vs1, keep _ _ g1, d1, c1⟩ (lt g1) (Heap.get?_push_size _ rfl) rfl (by first | (simp; done) | (simp; omega)) (hE _ _ (fun c o e => ?_) ⟨_, Heap.get?_update_self _ (Heap.get?_push_size _ rfl) rfl, rfl⟩)
  rw [Heap.get?_update_other _ _ (lt e).symm]
  exact keep _ _ e
/-- the end of a list's iterator -/
theorem lend_hot {it l : Addr} {i : Nat} {items} {Q : Value → Shared → Prop} (hot : HotAt A x1 s.heap) (ne : x1 ≠ it) (hit : s.heap.IsListIter it l i) (hl : s.heap.IsList l items) (hx : items[i]? = none)
    (hE : ∀ h' e, (∀ c o, c ≠ it → s.heap.get? c = some o → h'.get? c = some o) → (∃ o, h'.get? e = some o ∧ o.cls = .type "StopIteration") → E (.ref e) { s with heap := h' }) :
    wpAny (model prog w) A (Builtin.SmallTypes.nextOf (.ref it)) Q E s := by
  obtain ⟨io, gi, ci, di⟩ := id hit
  obtain ⟨lo, gl, _, nl, dl⟩ := hl
  obtain ⟨hh, o1, vs1, g1, d1, c1⟩ := hot
  unfold Builtin.SmallTypes.nextOf
  refine wpAny_bind (wpAny_callSpecial?_slot (name := Str.ofString "__next__") hit.typeIs slot_listiter_next (wpAny_call_entry slot_listiter_next hit.typeIs entry_listiter_next ?_ (args_listiter_next _)))
  refine wpAny_bind (m := field (.ref it) 0) (wpAny_field gi di (x := .ref l) rfl ?_)
  have nn : ¬ ((Value.ref l == Value.none) = true) := Bool.false_ne_true
  show wpAny _ _ (if (Value.ref l == Value.none) = true then _ else _) _ _ s
  rw [if_neg nn]
  refine wpAny_bind (m := field (.ref it) 1) (wpAny_field gi di (x := .int i 0) rfl (wpAny_bind (m := seqItems? (.ref l)) (wpAny_seqItems gl dl ?_)))
  simp only [Int.toNat_natCast, hx]
  refine wpAny_bind (wpAny_rule (wpAny_bind (wpAny_setField gi di (by simp) ?_)))
  have keep : ∀ c o, c ≠ it → s.heap.get? c = some o → (s.heap.update it (Obj.mapFields (·.setIfInBounds 0 .none))).get? c = some o := fun c o n e => by
    rw [Heap.get?_update_other _ _ n.symm]
    exact e
  exact stop_hot (s := { s with heap := _ }) ⟨hh, o1, vs1, keep _ _ ne g1, d1, c1⟩ fun h' e k x => hE h' e (fun c o n q => k c o (keep c o n q)) x
/-- the end of zip, its first list at its end -/
theorem zend_hot {z TI TO i1 i2 l1 l2 : Addr} {k1 : Nat} {xs : Array Value} {a b : Value} {Q : Fin → Shared → Prop} (hot : HotAt A x1 s.heap) (nz : x1 ≠ z) (n1 : x1 ≠ i1) (D : ZipApart z TI TO i1 i2 l1 l2)
    (hz : IsZip s.heap z TI TO .none) (hTI : IsPair s.heap TI (.ref i1) (.ref i2)) (hTO : IsPair s.heap TO a b) (h1 : s.heap.IsListIter i1 l1 k1) (hl1 : s.heap.IsList l1 xs) (hend : xs[k1]? = none)
    (hE : ∀ h' e, (∀ c o, c ≠ z → c ≠ i1 → s.heap.get? c = some o → h'.get? c = some o) → (∃ o, h'.get? e = some o ∧ o.cls = .type "StopIteration") → E (.ref e) { s with heap := h' }) :
    wpAny (model prog w) A (Builtin.«zip.__next__» ⟨[.ref z], []⟩) Q E s := by
  obtain ⟨hh, o1, vs1, g1, d1, c1⟩ := hot
  refine wpAny_bind (m := field (.ref z) 2) (wpAny_field hz rfl (x := .bool false) rfl ?_)
  refine wpAny_bind (m := field (.ref z) 3) (wpAny_field hz rfl (x := .ref TI) rfl (wpAny_bind (wpAny_seqItems hTI rfl ?_)))
  refine wpAny_bind (m := Builtin.SmallTypes.ownedTupleIsFree (.ref z)) ?_
  unfold Builtin.SmallTypes.ownedTupleIsFree
  refine wpAny_bind (wpAny_field hz rfl (x := .none) rfl (wpAny_pure ?_))
  simp only [if_true]
  refine wpAny_bind (wpAny_rule (wpAny_bind (wpAny_field hz rfl (x := .ref TO) rfl (wpAny_bind (wpAny_setField_rec hz (by simp) fun g zg sg => ?_)))))
  have zg : IsZip g z TI TO .ellipsis := zg
  refine wpAny_bind ?_
  simp only [List.zipIdx_cons, List.zipIdx_nil, List.forIn_cons, List.forIn_nil]
  refine wpAny_bind (wpAny_bind (wpAny_onRaise (wpAny_bind (m := Builtin.SmallTypes.nextOf (.ref i1)) ?_)))
  have hot2 : HotAt A x1 g := ⟨hh, o1, vs1, sg.extBut _ _ nz g1, d1, c1⟩
  refine lend_hot (s := { s with heap := g }) hot2 n1 (h1.extBut sg.extBut D.i1z) (hl1.extBut sg.extBut D.l1z) hend fun g2 e k he => ?_
  obtain ⟨oe, hoe, hce⟩ := he
  have z2 : IsZip g2 z TI TO .ellipsis := k _ _ D.i1z.symm zg
  have ez : e ≠ z := fun x => by
    rw [x, z2] at hoe
    cases hoe
    simp at hce
  exact wpAny_setField_rec z2 (by simp) fun g3 _ s3 => hE g3 e (fun c o nc1 nc2 q => s3.extBut _ _ nc1 (k _ _ nc2 (sg.extBut _ _ nc1 q))) ⟨oe, s3.extBut _ _ ez hoe, hce⟩
theorem zip_end_hot {z TI TO i1 i2 l1 l2 : Addr} {k1 : Nat} {xs : Array Value} {a b : Value} {Q : Option Value → Shared → Prop} (hot : HotAt A x1 s.heap) (nz : x1 ≠ z) (n1 : x1 ≠ i1) (D : ZipApart z TI TO i1 i2 l1 l2)
    (hz : IsZip s.heap z TI TO .none) (hTI : IsPair s.heap TI (.ref i1) (.ref i2)) (hTO : IsPair s.heap TO a b) (h1 : s.heap.IsListIter i1 l1 k1) (hl1 : s.heap.IsList l1 xs) (hend : xs[k1]? = none)
    (q : ∀ h', (∀ c o, c ≠ z → c ≠ i1 → s.heap.get? c = some o → h'.get? c = some o) → Q none { s with heap := h' }) : wpAny (model prog w) A (pyNext (.ref z)) Q E s := by
  have ty : s.TypeIs (.ref z) "zip" := ⟨_, hz, rfl⟩
  unfold pyNext
  refine wpAny_bind (wpAny_attempt (wpAny_callSpecial?_slot (name := Str.ofString "__next__") ty F.slot_zip_next (wpAny_call_entry F.slot_zip_next ty F.entry_zip_next (zend_hot hot nz n1 D hz hTI hTO h1 hl1 hend fun h' e hk ⟨o, ho, hc⟩ => ?_) (F.args_zip_next_1 _))))
  exact wpAny_bind (wpAny_isInstance (T := "StopIteration") (b := true) ⟨o, ho, hc⟩ isSubtype_stop (wpAny_pure (q _ hk)))
/-- the end of a tuple's iterator -/
theorem tend_hot {it l : Addr} {i : Nat} {items : Array Value} {Q : Option Value → Shared → Prop} (hot : HotAt A x1 s.heap) (ne : x1 ≠ it) (hit : s.heap.IsTupleIter it l i) (hl : s.heap.IsTuple l items) (hx : items[i]? = none)
    (q : ∀ h', (∀ c o, c ≠ it → s.heap.get? c = some o → h'.get? c = some o) → Q none { s with heap := h' }) : wpAny (model prog w) A (pyNext (.ref it)) Q E s := by
  obtain ⟨io, gi, ci, di⟩ := id hit
  obtain ⟨lo, gl, _, nl, dl⟩ := hl
  obtain ⟨hh, o1, vs1, g1, d1, c1⟩ := hot
  unfold pyNext
  refine wpAny_bind (wpAny_attempt (wpAny_callSpecial?_slot (name := Str.ofString "__next__") hit.typeIs F.slot_tuple_iterator_next (wpAny_call_entry F.slot_tuple_iterator_next hit.typeIs F.entry_tuple_iterator_next ?_ (F.args_tuple_iterator_next_1 _))))
  refine wpAny_bind (m := field (.ref it) 0) (wpAny_field gi di (x := .ref l) rfl ?_)
  have nn : ¬ ((Value.ref l == Value.none) = true) := Bool.false_ne_true
  show wpAny _ _ (if (Value.ref l == Value.none) = true then _ else _) _ _ s
  rw [if_neg nn]
  refine wpAny_bind (m := field (.ref it) 1) (wpAny_field gi di (x := .int i 0) rfl (wpAny_bind (m := seqItems? (.ref l)) (wpAny_seqItems gl dl ?_)))
  simp only [Int.toNat_natCast, hx]
  refine wpAny_bind (wpAny_rule (wpAny_bind (wpAny_setField gi di (by simp) ?_)))
  have keep : ∀ c o, c ≠ it → s.heap.get? c = some o → (s.heap.update it (Obj.mapFields (·.setIfInBounds 0 .none))).get? c = some o := fun c o n e => by
    rw [Heap.get?_update_other _ _ n.symm]
    exact e
  refine stop_hot (s := { s with heap := _ }) ⟨hh, o1, vs1, keep _ _ ne g1, d1, c1⟩ fun h' e k ⟨oe, hoe, hce⟩ => ?_
  exact wpAny_bind (wpAny_isInstance (T := "StopIteration") (b := true) ⟨oe, hoe, hce⟩ isSubtype_stop (wpAny_pure (q _ fun c o n z => k c o (keep c o n z))))
/-- (a, b, ..) = a tuple of that length -/
theorem assign_hot {env : Env} {elts : List Expr} {k : Nat} {pos : Pos} {t : Addr} {items : Array Value} {Q : Unit → Shared → Prop} (hot : HotAt A x1 s.heap) (ht : s.heap.IsTuple t items)
    (hn : (assignEach elts env).length = items.size) (hstar : (assignEach elts env).findIdx? (·.1) = none)
    (q : ∀ h', (∀ c o, s.heap.get? c = some o → h'.get? c = some o) → wpAny (model prog w) A (assignInOrder ((assignEach elts env).map (·.2)) items.toList) Q E { s with heap := h' }) :
    wpAny (model prog w) A (assign (.Tuple elts k pos) env (.ref t)) Q E s := by
  have tn : t ≠ s.heap.objs.size := by
    obtain ⟨o, ho, _⟩ := ht
    exact Nat.ne_of_lt (Heap.lt_size ho)
  have xn : x1 ≠ s.heap.objs.size := by
    obtain ⟨_, o, _, ho, _⟩ := hot
    exact Nat.ne_of_lt (Heap.lt_size ho)
  rw [arm_assign_Tuple]
  refine wpAny_bind (wpAny_standAt ?_)
  unfold unpack
  rw [hn, hstar]
  refine wpAny_bind (wpAny_holding ?_)
  unfold unpackItems notIterableAtAll
  refine wpAny_bind (wpAny_bind (wpAny_specialOf ht.typeIs F.slot_tuple_iter.lookup (wpAny_pure ?_)))
  simp only [Bool.false_eq_true, if_false]
  refine wpAny_bind (wpAny_holding (wpAny_pyIter_tuple ht (wpAny_bind (wpAny_holding (wpAny_draw_tuple tn items.size 0 _ _ ⟨_, Heap.get?_push_size _ rfl, rfl, rfl⟩ (ht.push _) (by omega) fun g1 it1 s1 => ?_)))))
  rw [List.drop_zero, List.take_of_length_le (by simp), if_neg (by simp)]
  have up : ∀ c o, s.heap.get? c = some o → g1.get? c = some o := fun c o e => s1.extBut c o (Nat.ne_of_lt (Heap.lt_size e)) (Heap.get?_push_of_some _ e)
  have hot1 : HotAt A x1 g1 := by
    obtain ⟨hh, o, vs, ho, r⟩ := hot
    exact ⟨hh, o, vs, up _ _ ho, r⟩
  refine wpAny_bind (wpAny_holding (tend_hot (s := { s with heap := g1 }) hot1 xn it1 ((ht.push _).extBut s1.extBut tn) (by simp) fun g2 k2 => ?_))
  simp only [Option.isSome_none, Bool.false_eq_true, if_false]
  exact wpAny_pure (q g2 fun c o e => k2 c o (Nat.ne_of_lt (Heap.lt_size e)) (up c o e))
end
end JgH
namespace JgH
open PySem PySem.Spec PyProof.Rows HotX L2 L2H
/-! ### zip of two lists, turn by turn, whatever is handled -/
structure Zst (z TI TO i1 i2 a b : Addr) (i : Nat) (h : Heap) : Prop where
  zip : IsZip h z TI TO .none
  ins : IsPair h TI (.ref i1) (.ref i2)
  out : ∃ x y, IsPair h TO x y
  it1 : h.IsListIter i1 a i
  it2 : h.IsListIter i2 b i
theorem mem5 {c z TI TO i1 i2 : Addr} : c ∈ [z, TI, TO, i1, i2] ↔ c = z ∨ c = TI ∨ c = TO ∨ c = i1 ∨ c = i2 := by simp
theorem Zst.obj {z TI TO i1 i2 a b c : Addr} {i : Nat} {h : Heap} (S : Zst z TI TO i1 i2 a b i h) (m : c ∈ [z, TI, TO, i1, i2]) : ∃ o, h.get? c = some o ∧ ∀ v, o.data ≠ .cell v := by
  obtain ⟨s1, s2, ⟨x, y, s3⟩, ⟨o4, e4, _, d4⟩, ⟨o5, e5, _, d5⟩⟩ := S
  rcases mem5.mp m with rfl | rfl | rfl | rfl | rfl
  · exact ⟨_, s1, fun v z => by cases z⟩
  · exact ⟨_, s2, fun v z => by cases z⟩
  · exact ⟨_, s3, fun v z => by cases z⟩
  · exact ⟨_, e4, fun v z => by (rw [d4] at z; cases z)⟩
  · exact ⟨_, e5, fun v z => by (rw [d5] at z; cases z)⟩
theorem Zst.keep {z TI TO i1 i2 a b : Addr} {i : Nat} {h g : Heap} (S : Zst z TI TO i1 i2 a b i h) (k : ∀ c ∈ [z, TI, TO, i1, i2], ∀ o, h.get? c = some o → g.get? c = some o) : Zst z TI TO i1 i2 a b i g := by
  obtain ⟨s1, s2, ⟨x, y, s3⟩, s4, s5⟩ := S
  exact ⟨k _ (by simp) _ s1, k _ (by simp) _ s2, ⟨x, y, k _ (by simp) _ s3⟩, s4.at fun o e => k _ (by simp) o e, s5.at fun o e => k _ (by simp) o e⟩
section
variable {X : Cx} {pins : List (Addr × Obj)} {σ : L2.St} {H : Hp} {s : Shared} {z TI TO i1 i2 a b : Addr} {xs ys : List V} {E : Value → Shared → Prop}
theorem zip_item {elts : List Expr} {kk i : Nat} {tpos : Pos} {x y : V} (D : ZipApart z TI TO i1 i2 a b) (I : L2.Inv X pins σ H s) (F : ∀ c ∈ [z, TI, TO, i1, i2], FpOk X pins H c) (S : Zst z TI TO i1 i2 a b i s.heap)
    (h1 : SqL X.K H a xs) (h2 : SqL X.K H b ys) (e1 : xs[i]? = some x) (e2 : ys[i]? = some y) :
    wpAny (model X.prog X.w) X.A (pyNext (.ref z)) (fun r t1 => ∃ T, r = some (.ref T) ∧ H T = none ∧ wpAny (model X.prog X.w) X.A (letOwnedTupleGo (.Tuple elts kk tpos) (.ref z) (.ref T)) (fun _ t2 =>
      L2.Inv X pins σ (upd H T (.tup [x, y])) t2 ∧ Zst z TI TO i1 i2 a b (i + 1) t2.heap ∧ ∀ c ∈ [z, TI, TO, i1, i2], (upd H T (.tup [x, y])) c = none) E t1) E s := by
  have S0 := S
  obtain ⟨s1, s2, ⟨x0, y0, s3⟩, s4, s5⟩ := S0
  obtain ⟨us, ru, pu, _⟩ := I.list h1
  obtain ⟨ws, rw', pw, _⟩ := I.list h2
  obtain ⟨u, gu, r1⟩ := ru.get e1
  obtain ⟨w, gw, r2⟩ := rw'.get e2
  have new : H s.heap.objs.size = none := I.hok.fresh (Nat.le_refl _)
  have lt : ∀ c ∈ [z, TI, TO, i1, i2], c ≠ s.heap.objs.size := fun c m => by
    obtain ⟨o, e, _⟩ := S.obj m
    exact Nat.ne_of_lt (Heap.lt_size e)
  refine wpAny_pyNext_zip_item D s1 s2 s3 s4 s5 pu.isList pw.isList (x := u) (y := w) (by simpa using gu) (by simpa using gw) fun g t1 t2 t3 t4 t5 _ tk => ⟨_, rfl, new, ?_⟩
  refine wpAny_letOwnedTupleGo_zip (s := { s with heap := g }) t1 fun g2 v1 sb => ?_
  have up : ∀ c o, c ∉ [z, TI, TO, i1, i2] → s.heap.get? c = some o → g2.get? c = some o := fun c o m e => by
    have m := fun k => m (mem5.mpr k)
    rw [sb.2 c fun k => m (Or.inl k)]
    exact tk c o (fun k => m (Or.inl k)) (fun k => m (Or.inr (Or.inr (Or.inl k)))) (fun k => m (Or.inr (Or.inr (Or.inr (Or.inl k))))) (fun k => m (Or.inr (Or.inr (Or.inr (Or.inr k))))) e
  have nz : s.heap.objs.size ≠ z := (lt z (by simp)).symm
  have made : ObjOk X.prog X.w (upd H s.heap.objs.size (.tup [x, y])) g2 s.heap.objs.size (.tup [x, y]) :=
    ⟨(by decide : 2 ≤ sizeLine), [u, w], .cons r1 (.cons r2 .nil), ⟨_, (sb.2 _ nz).trans t5, rfl, _, rfl⟩⟩
  refine ⟨I.turnedNew (t' := s.toks) up F (Nat.le_refl _) made, ⟨v1, (sb.2 _ D.TIz).trans (tk _ _ D.TIz D.TITO D.TIi1 D.TIi2 s2), ⟨u, w, (sb.2 _ D.TOz).trans t2⟩, t3.at fun o e => (sb.2 _ D.i1z).trans e, t4.at fun o e => (sb.2 _ D.i2z).trans e⟩, fun c m => ?_⟩
  rw [upd_ne (lt c m)]
  exact (F c m).1
theorem zip_done {x1 : Addr} {i : Nat} (hot : HotAt X.A x1 s.heap) (ne : ∀ c ∈ [z, TI, TO, i1, i2], x1 ≠ c) (D : ZipApart z TI TO i1 i2 a b) (I : L2.Inv X pins σ H s) (F : ∀ c ∈ [z, TI, TO, i1, i2], FpOk X pins H c) (S : Zst z TI TO i1 i2 a b i s.heap)
    (h1 : SqL X.K H a xs) (l : xs.length ≤ i) : wpAny (model X.prog X.w) X.A (pyNext (.ref z)) (fun r t1 => r = none ∧ L2.Inv X pins σ H t1) E s := by
  obtain ⟨s1, s2, ⟨x0, y0, s3⟩, s4, s5⟩ := S
  obtain ⟨us, ru, pu, _⟩ := I.list h1
  have lu := ru.length
  refine zip_end_hot hot (ne z (by simp)) (ne i1 (by simp)) D s1 s2 s3 s4 pu.isList (by simp; omega) fun g k => ⟨rfl, I.turnedL (t' := s.toks) (ch := [z, TI, TO, i1, i2]) (fun c o m e => ?_) F⟩
  have m := fun k => m (mem5.mpr k)
  exact k c o (fun k => m (Or.inl k)) (fun k => m (Or.inr (Or.inr (Or.inr (Or.inl k))))) e
end
/-- [elt for a, b in zip(..) if ..]: D the new list, W what holds behind so many turns -/
def zipIn (K : PySem.W.Frag) (gs : TGs) (tt : TT) (te : TE) (vs : List Nat) (σ : L2.St) (Q : VK) : List V → Hp → Prop := fun us H1 => ∃ a b xs ys, us = [.ref a, .ref b] ∧ SqL K H1 a xs ∧ SqL K H1 b ys ∧ xs.length = ys.length ∧ ∀ D, H1 D = none → ∃ W : Nat → Hp → Prop,
  W 0 (upd H1 D (.lst [])) ∧ (∀ i H, W i H → SqL K H a xs ∧ SqL K H b ys) ∧ (∀ H, W xs.length H → Q (.ref D) H) ∧ ∀ i x y H T, W i H → xs[i]? = some x → ys[i]? = some y → H T = none →
    gs [x, y] (wipe σ vs) (upd H T (.tup [x, y])) fun σ2 H2 => wipe σ2 vs = wipe σ vs ∧ tt σ2 H2 fun c H3 => if c = true then te σ2 H3 fun v H4 => ∃ acc, H4 D = some (.lst acc) ∧ acc.length < sizeLine ∧ W (i + 1) (upd H4 D (.lst (acc ++ [v]))) else W (i + 1) H3
def tZip (K : PySem.W.Frag) (ta : TA) (gs : TGs) (tt : TT) (te : TE) (vs : List Nat) : TE := fun σ H Q => ta σ H (zipIn K gs tt te vs σ Q)
theorem g_zip {K : PySem.W.Frag} {ta : TA} {gs : TGs} {tt : TT} {te : TE} {vs : List Nat} {σ : L2.St} {H : Hp} {Q : VK} (q : ta σ H (zipIn K gs tt te vs σ Q)) : tZip K ta gs tt te vs σ H Q := q
section
variable {X : Cx} {elt e1 e2 : Expr} {elts ifs : List Expr} {scope : Scope} {own : List (Str × Nat)} {pos zp zq tpos : Pos} {kk : Nat} {ta : TA} {gs : TGs} {tt : TT} {te : TE}
abbrev zipComp (elt e1 e2 : Expr) (elts ifs : List Expr) (scope : Scope) (pos zp zq tpos : Pos) (kk : Nat) : Expr := .ListComp elt [⟨.Tuple elts kk tpos, .Call (.Name "zip" zp) [e1, e2] [] zq, ifs, 0⟩] scope pos
/-- the loop alone, in the block's own frame -/
theorem zip_loop {Y : Cx} {ce : Env} {R : Result → Shared → Prop} {pins : List (Addr × Obj)} {σ0 : L2.St} {vs : List Nat} {z TI TO i1 i2 a b D x1 : Addr} {xs ys : List V} {s : Shared} {W : Nat → Hp → Prop} {H0 : Hp} (hce : Y.env = ce)
    (D5 : ZipApart z TI TO i1 i2 a b) (hgs : PGs Y elts gs) (ht : PTs Y ifs tt) (he : PE Y elt te) (hn : (assignEach elts Y.env).length = 2) (hst : (assignEach elts Y.env).findIdx? (·.1) = none)
    (stat : ∀ {H' : Hp} {t : Shared}, L2.Inv Y pins (wipe σ0 vs) H' t → (∀ c ∈ [z, TI, TO, i1, i2], H' c = none) → (∀ c ∈ [z, TI, TO, i1, i2], FpOk Y pins H' c) ∧ HotAt Y.A x1 t.heap) (ne : ∀ c ∈ [z, TI, TO, i1, i2], x1 ≠ c)
    (stat2 : ∀ {σ' : L2.St} {H' : Hp} {t : Shared} {pl : List (Addr × Obj)}, L2.Inv Y (pins ++ pl) σ' H' t → HotAt Y.A x1 t.heap)
    (len : xs.length = ys.length) (keep : ∀ i H, W i H → SqL Y.K H a xs ∧ SqL Y.K H b ys) (fin : ∀ H t, L2.Inv Y pins (wipe σ0 vs) H t → W xs.length H → R (.ok .next) t)
    (step : ∀ i x y H T, W i H → xs[i]? = some x → ys[i]? = some y → H T = none → gs [x, y] (wipe σ0 vs) (upd H T (.tup [x, y])) fun σ2 H2 => wipe σ2 vs = wipe σ0 vs ∧ tt σ2 H2 fun c H3 => if c = true then te σ2 H3 fun v H4 => ∃ acc, H4 D = some (.lst acc) ∧ acc.length < sizeLine ∧ W (i + 1) (upd H4 D (.lst (acc ++ [v]))) else W (i + 1) H3)
    (hx : Y.xe = fun _ _ => False) (I : L2.Inv Y pins (wipe σ0 vs) H0 s) (F : ∀ c ∈ [z, TI, TO, i1, i2], H0 c = none) (S : Zst z TI TO i1 i2 a b 0 s.heap) (w0 : W 0 H0) :
    codeAny (model Y.prog Y.w) Y.A (.compLoop (zipComp elt e1 e2 elts ifs scope pos zp zq tpos kk) 0 (.ref z) (.ref D) ce) R s := by
  subst hce
  refine compLoop_any (fun m t => ∃ i H', m + i = xs.length ∧ L2.Inv Y pins (wipe σ0 vs) H' t ∧ Zst z TI TO i1 i2 a b i t.heap ∧ (∀ c ∈ [z, TI, TO, i1, i2], H' c = none) ∧ W i H') ?_ xs.length ⟨0, H0, by omega, I, S, F, w0⟩
  rintro m t ⟨i, H1, mi, J, S1, F1, w1⟩
  obtain ⟨q1, q2⟩ := keep i H1 w1
  obtain ⟨FF, hot⟩ := stat J F1
  cases m with
  | zero =>
    refine thnF (zip_done hot ne D5 J FF S1 q1 (by omega)) fun r t1 ⟨er, J1⟩ => ?_
    subst er
    have ei : i = xs.length := by omega
    subst ei
    exact fin H1 t1 J1 w1
  | succ m =>
    have li : i < xs.length := by omega
    have g1 : xs[i]? = some xs[i] := by simp [li]
    have g2 : ys[i]? = some (ys[i]'(len ▸ li)) := by simp [len ▸ li]
    refine thnF (zip_item (elts := elts) (kk := kk) (tpos := tpos) D5 J FF S1 q1 q2 g1 g2) fun r t1 ⟨T, er, hT, lt⟩ => ?_
    subst er
    refine thnF lt fun _ t2 ⟨J2, S2, F2⟩ => ?_
    have FF2 := (stat J2 F2).1
    have J3 := J2.pinned FF2 fun c m => S2.obj m
    have hot3 := stat2 J3
    obtain ⟨its, ri, pi, _⟩ := J3.tuple (Or.inl (Or.inl (upd_same : (upd H1 T (.tup [xs[i], ys[i]'(len ▸ li)])) T = _)))
    have li2 := ri.length
    refine assign_hot hot3 pi (by rw [hn]; simp at li2 ⊢; omega) hst fun g kg => ?_
    have J4 := J3.kept (t' := t2.toks) kg
    have stand : ∀ {H' : Hp} {t' : Shared} {σ' : L2.St}, L2.Inv Y (pins ++ pinsAt [z, TI, TO, i1, i2] t2.heap) σ' H' t' → wipe σ' vs = wipe σ0 vs → W (i + 1) H' → ∃ m', m' < m + 1 ∧ ∃ i H', m' + i = xs.length ∧ L2.Inv Y pins (wipe σ0 vs) H' t' ∧ Zst z TI TO i1 i2 a b i t'.heap ∧ (∀ c ∈ [z, TI, TO, i1, i2], H' c = none) ∧ W i H' := fun {H' t' σ'} K1 ew wn => by
      have pin : ∀ c ∈ [z, TI, TO, i1, i2], ∀ o, t2.heap.get? c = some o → t'.heap.get? c = some o ∧ H' c = none := fun c m o e =>
        have y := K1.pin (c, o) (List.mem_append_right _ (List.mem_append_right _ (mem_pinsAt m e)))
        ⟨y.1, y.2.1⟩
      refine ⟨m, Nat.lt_succ_self m, i + 1, H', by omega, K1.unpinned.weak (by rw [← ew, wipe_length]) (fun j v e => ?_), S2.keep fun c m o e => (pin c m o e).1, fun c m => ?_, wn⟩
      · rw [← ew] at e
        exact (wipe_some e).1
      · obtain ⟨o, e, _⟩ := S2.obj m
        exact (pin c m o e).2
    refine wpAny_mono (hgs.run _ _ _ _ _ _ _ J4 ri (step i _ _ H1 T w1 g1 g2 hT)) (fun _ t3 ⟨σ3, H3, J5, ew, q3⟩ => ?_) (fun e t' x => by (rw [hx] at x; exact x.elim))
    refine wpAny_mono (ht.run _ _ _ _ _ J5 q3) (fun c t4 ⟨H4, J6, q4⟩ => ?_) (fun e t' x => by (rw [hx] at x; exact x.elim))
    cases c with
    | false =>
      rw [if_neg Bool.false_ne_true] at q4
      exact stand J6 ew q4
    | true =>
      rw [if_pos rfl] at q4
      refine wpAny_mono (he.run _ _ _ _ _ J6 q4) (fun v t5 ⟨y, H5, J7, ry, acc, eD, sz, wn⟩ => ?_) (fun e t' x => by (rw [hx] at x; exact x.elim))
      exact app_ok J7 eD sz ry fun t6 J8 => stand J8 ew wn
theorem pe_lcZip (hc : HotC X) (hN : X.N.Nodup) (hg : Gl X "zip") (hm : X.mg "zip" = none) (ha : PA X [e1, e2] ta) (ok : BlkOk X.N X.env.scope scope own)
    (hgs : ∀ (s : Shared) (H : Hp) (C : Addr) (cl : List (Str × Addr)) (fp : List Addr), PGs (X.blk s H scope (compEnvC scope cl C X.env) fp) elts gs) (ht : ∀ (s : Shared) (H : Hp) (C : Addr) (cl : List (Str × Addr)) (fp : List Addr), PTs (X.blk s H scope (compEnvC scope cl C X.env) fp) ifs tt)
    (he : ∀ (s : Shared) (H : Hp) (C : Addr) (cl : List (Str × Addr)) (fp : List Addr), PE (X.blk s H scope (compEnvC scope cl C X.env) fp) elt te)
    (hn : ∀ env, (assignEach elts env).length = 2 := by intro _; rfl) (hst : ∀ env, (assignEach elts env).findIdx? (·.1) = none := by intro _; rfl) (hs : ∀ x, foldedSetIterable (.Call (.Name "zip" zp) [e1, e2] [] zq) X.env x = pure x := by intro _; rfl)
    (hse : starEach [e1, e2] X.env = (false, eval e1 X.env) :: starEach [e2] X.env := by rfl) (hpl : (backTo zq (starEach [e2] X.env)).any (·.1) = false := by rfl) :
    PE X (zipComp elt e1 e2 elts ifs scope pos zp zq tpos kk) (tZip X.K ta gs tt te (own.map (·.2))) := by
  refine ⟨fun pins s σ H Q I h => ?_⟩
  have cells : ∀ y ∈ scope.names, y.2 = .free → ∃ c, X.env.cells.lookup y.1 = some c := fun y m e => (ok.free y m e).elim (fun k => I.ok.has _ (.inl k)) fun k => I.ok.has _ (.inr k)
  rw [eval_ListComp]
  refine wpAny_comprehension_free rfl hs (closure_ok cells) ok.kind (fun y m e => (ok.uniq y m).trans (by rw [e])) ?_
  refine Call_ (ld_blt I hg hm PyProof.Rows.boot_zip (PyProof.Rows.callWith_type1 (thn (ha.run zq pins s σ H _ I h) fun us s1 q => ?_) hse hpl))
  obtain ⟨vs, H1, I1, rv, a, b, xs, ys, rfl, q1, q2, len, q⟩ := q
  obtain ⟨u1, u2, rfl, r1, r2⟩ : ∃ u1 u2, us = [u1, u2] ∧ RelV (.ref a) u1 ∧ RelV (.ref b) u2 := by
    cases rv with
    | cons x1 x2 =>
    cases x2 with
    | cons x3 x4 =>
    cases x4
    exact ⟨_, _, rfl, x1, x3⟩
  obtain rfl : u1 = Value.ref a := r1
  obtain rfl : u2 = Value.ref b := r2
  obtain ⟨l1, _, p1, _⟩ := I1.list q1
  obtain ⟨l2, _, p2, _⟩ := I1.list q2
  refine call_zip_2 p1.isList p2.isList fun g z1 z2 z3 z4 z5 _ zk => wpAny_pyIter_zip z1 ?_
  generalize hn0 : s1.heap.objs.size = n0 at *
  have ap : ZipApart (n0 + 4) (n0 + 2) (n0 + 3) n0 (n0 + 1) a b := PySem.W.ktu_apart n0 a b (by rw [← hn0]; exact p1.lt) (by rw [← hn0]; exact p2.lt)
  have I2 : L2.Inv X pins σ H1 { s1 with heap := g } := I1.kept (t' := s1.toks) zk
  have S0 : Zst (n0 + 4) (n0 + 2) (n0 + 3) n0 (n0 + 1) a b 0 g := ⟨z1, z2, ⟨_, _, z3⟩, z4, z5⟩
  have above : ∀ c ∈ [n0 + 4, n0 + 2, n0 + 3, n0, n0 + 1], n0 ≤ c := fun c m => by
    rcases mem5.mp m with rfl | rfl | rfl | rfl | rfl <;> omega
  have F0 : ∀ c ∈ [n0 + 4, n0 + 2, n0 + 3, n0, n0 + 1], FpOk X pins H1 c := fun c m => I1.fpOk (by rw [hn0]; exact above c m) (I1.hok.fresh (by rw [hn0]; exact above c m))
  generalize hs2 : ({ s1 with heap := g } : Shared) = s2 at I2 ⊢
  have S0 : Zst (n0 + 4) (n0 + 2) (n0 + 3) n0 (n0 + 1) a b 0 s2.heap := by rw [← hs2]; exact S0
  refine wpAny_newObj_type (newEnv_comp ?_) (Nat.zero_le _)
  have nD : H1 s2.heap.objs.size = none := I2.hok.fresh (Nat.le_refl _)
  obtain ⟨W, w0, keep, fin, step⟩ := q _ nD
  generalize hD : s2.heap.objs.size = D at nD w0 fin step ⊢
  generalize hs3 : ({ s2 with heap := s2.heap.push { cls := .type "list", data := .seq ([] : List Value).toArray } } : Shared) = s3
  have g3 : s3.heap = s2.heap.push { cls := .type "list", data := .seq ([] : List Value).toArray } := by rw [← hs3]
  have I3 : L2.Inv X pins σ (upd H1 D (.lst [])) s3 := by
    subst hs3
    refine I2.laid (t' := s2.toks) (fun c o e => Heap.get?_push_of_some _ e) (Nat.le_of_eq hD) ⟨Nat.zero_le _, [], 0, .nil, ?_⟩
    subst hD
    exact Heap.get?_push_size _ rfl
  have lt3 : ∀ c ∈ [n0 + 4, n0 + 2, n0 + 3, n0, n0 + 1], c < s2.heap.objs.size := fun c m => by
    obtain ⟨o, e, _⟩ := S0.obj m
    exact Heap.lt_size e
  have F3 : ∀ c ∈ [n0 + 4, n0 + 2, n0 + 3, n0, n0 + 1], FpOk X pins (upd H1 D (.lst [])) c ∧ c < s3.heap.objs.size := fun c m => by
    refine ⟨⟨?_, (F0 c m).2⟩, by rw [g3, Heap.size_push]; exact Nat.lt_succ_of_lt (lt3 c m)⟩
    rw [upd_ne (by rw [← hD]; exact Nat.ne_of_lt (lt3 c m))]
    exact (F0 c m).1
  have S3 : Zst (n0 + 4) (n0 + 2) (n0 + 3) n0 (n0 + 1) a b 0 s3.heap := S0.keep fun c _ o e => by (rw [g3]; exact Heap.get?_push_of_some _ e)
  have J := block_start I3 ok hN F3
  generalize hH3 : upd H1 D (.lst []) = H3 at *
  have N0 : ∀ c ∈ [n0 + 4, n0 + 2, n0 + 3, n0, n0 + 1], H3 c = none := fun c m => (F3 c m).1.1
  obtain ⟨pn, hot1, hpn⟩ := hc
  have hotX : HotC X := ⟨pn, hot1, hpn⟩
  have apart : ∀ c ∈ [n0 + 4, n0 + 2, n0 + 3, n0, n0 + 1], pn.1 ≠ c := fun c m => (F3 c m).1.2.2.2.2.2 pn (List.mem_append_left _ hpn)
  have go := hgs s3 H3 s3.heap.objs.size (cellsFrom (s3.heap.objs.size + 1) scope.names (cloFrom X.env.cells scope.names [])) [n0 + 4, n0 + 2, n0 + 3, n0, n0 + 1]
  have to := ht s3 H3 s3.heap.objs.size (cellsFrom (s3.heap.objs.size + 1) scope.names (cloFrom X.env.cells scope.names [])) [n0 + 4, n0 + 2, n0 + 3, n0, n0 + 1]
  have eo := he s3 H3 s3.heap.objs.size (cellsFrom (s3.heap.objs.size + 1) scope.names (cloFrom X.env.cells scope.names [])) [n0 + 4, n0 + 2, n0 + 3, n0, n0 + 1]
  show codeAny _ _ (.compStart (zipComp elt e1 e2 elts ifs scope pos zp zq tpos kk) 0 (.ref (n0 + 4)) (.ref D) (compEnvC scope (cellsFrom (s3.heap.objs.size + 1) scope.names (cloFrom X.env.cells scope.names [])) s3.heap.objs.size X.env)) (compPost (model X.prog X.w) X.A X.xe none _ (.ref D) s3.heap.objs.size) { s3 with heap := pushCells (s3.heap.push { cls := .type "dict", data := .dict #[] }) scope.names }
  generalize hce : compEnvC scope (cellsFrom (s3.heap.objs.size + 1) scope.names (cloFrom X.env.cells scope.names [])) s3.heap.objs.size X.env = ce at J go to eo ⊢
  have cL : ce.locals = s3.heap.objs.size := by subst hce; rfl
  generalize hs4 : ({ s3 with heap := pushCells (s3.heap.push { cls := .type "dict", data := .dict #[] }) scope.names } : Shared) = s4 at J ⊢
  have S4 : Zst (n0 + 4) (n0 + 2) (n0 + 3) n0 (n0 + 1) a b 0 s4.heap := S3.keep fun c _ o e => by (rw [← hs4]; exact pushCells_keeps _ _ _ _ (Heap.get?_push_of_some _ e))
  have back : ∀ {σ' : L2.St} {H' : Hp} {t : Shared} {pl : List (Addr × Obj)}, L2.Inv (X.blk s3 H3 scope ce [n0 + 4, n0 + 2, n0 + 3, n0, n0 + 1]) pl σ' H' t → L2.Inv X pins σ H' t := fun {σ' H' t pl} K1 =>
    I3.call' (ch := [n0 + 4, n0 + 2, n0 + 3, n0, n0 + 1]) K1.os K1.base K1.hok K1.bare fun c m => ⟨(F3 c m).1.2.2.2.1, (F3 c m).1.2.1, (F3 c m).1.2.2.2.2.1, (F3 c m).1.2.2.2.2.2⟩
  have hotAt : ∀ {H' : Hp} {t : Shared}, L2.Inv X pins σ H' t → HotAt X.A pn.1 t.heap := fun {H' t} K1 => by
    obtain ⟨hh, v1, e1, c1⟩ := hot1
    exact ⟨hh, pn.2, v1, (K1.pin pn (List.mem_append_left _ hpn)).1, e1, c1⟩
  have loop := zip_loop (Y := X.blk s3 H3 scope ce [n0 + 4, n0 + 2, n0 + 3, n0, n0 + 1]) (ce := ce) (pins := []) (σ0 := σ) (vs := own.map (·.2)) (s := s4) (H0 := H3) (D := D) (x1 := pn.1) (W := W) (zp := zp) (zq := zq) (tpos := tpos) (kk := kk) (pos := pos) (scope := scope) (e1 := e1) (e2 := e2)
    (R := compPost (model X.prog X.w) X.A X.xe none (EP X pins σ Q) (.ref D) s3.heap.objs.size) rfl ap go to eo (hn _) (hst _)
    (fun {H' t} K1 hnone => ⟨fun c m => ⟨hnone c m, (K1.ok.exf c m).1, K1.ok.exfs c m, .inl m, fun x c' e => (K1.ok.exf c m).2 x c' e, fun p hp => absurd (hp : p ∈ ([] : List (Addr × Obj)) ++ []) (by simp)⟩, hotAt (back K1)⟩) apart (fun {σ' H' t pl} K1 => hotAt (back K1)) len keep
    (fun H' t K1 wn => by
      have K2 := back K1
      obtain ⟨m, hm1, _⟩ := K1.loc
      have hm1 : t.heap.Ns ce.locals m := hm1
      have hfree : H' ce.locals = none := K1.free
      rw [cL] at hm1 hfree
      obtain ⟨f0, f1, f2, f3, f4, f5⟩ := I3.fpOk (Nat.le_refl _) hfree
      exact ⟨m, hm1, fun h'' sb => ⟨.ref D, H', K2.turned (t' := t.toks) (fun c o hb e => (sb.2 c hb).trans e) f0 f1 f3 f4 f5, rfl, fin H' wn⟩⟩)
    step rfl J N0 S4 w0
  exact codeAny_compStart_list loop (wpAny_pyIter_zip S4.zip loop)
end
end JgH
namespace JgH
open PySem PySem.Spec PyProof.Rows HotX L2 L2H
/-- what a def promises that is called while the exception at p.1 is handled, repr's guards being empty; the promise may speak of that exception -/
structure FnX (P : Program) (w : World) (K : PySem.W.Frag) (mg : Str → Option Value) (base : Heap) (k : Nat) (f : Addr) (fd : FuncData) (ps : List Str) (sp : Addr → Value → Option Addr → Sp) : Prop where
  many : ∀ a c d vs H Q E, sp a c d vs H Q E → vs.length = ps.length
  go : ∀ (A : Around) (outer : List Env) (s : Shared) (H : Hp) (args : Args) (us : List Value) (vs : List V) (Q : VK) (E : XK) (p : Addr × Obj),
    RoomH k A → A.guards = some [] → Hot1 A p → PinOk outer H s p → Env0 P w K mg base A outer s H → BindsTo s fd args (ps.zip us) → Vals vs us → sp p.1 p.2.cls p.2.dict vs H Q E → codeAny (model P w) A (.call (.ref f) args) (CR CX0 outer P w H s Q E) s
section
variable {P : Program} {w : World} {K : PySem.W.Frag} {mg : Str → Option Value} {base : Heap}
theorem fnX_of {x qual : Str} {st : Stmt} {f : Addr} {fd : FuncData} {N ps : List Str} {k : Nat} {sp : Addr → Value → Option Addr → Sp} (F : Fun K x qual st f fd) (S : FnScope N ps (defScope st))
    (len : ∀ a c d vs H Q E, sp a c d vs H Q E → vs.length = ps.length)
    (body : ∀ (cdv : Value) (A : Around) (outer : List Env) (s : Shared) (H : Hp) (vs : List V) (Q : VK) (E : XK) (p : Addr × Obj),
      RoomH k (A.deeper (envOfC qual (defScope st) s.heap.objs.size f cdv)) → A.guards = some [] → Hot1 A p → sp p.1 p.2.cls p.2.dict vs H Q E →
      ∃ t, PSs (cxH CX0 P w K mg base N qual (defScope st) f cdv A outer s H E p).nox (defBody st) t ∧ t { nx := fun _ H' => Q .non H', rt := Q } (L2.start N vs) H) :
    FnX P w K mg base (k + 1) f fd ps sp := by
  obtain ⟨oc, od, kV, doc, pm, an, cdv, ct, osl, efd, lk, hcd⟩ := F.ex
  subst efd
  refine ⟨len, fun A outer s H args us vs Q E p room gua hot pin env bnd rel want => ?_⟩
  have kin : K.In s.heap := env.mod.kin.keeps fun b o e => (env.bs b o e).1
  have lim : s.heap.NoLimit := env.mod.nolimit.keeps fun b o e => (env.bs b o e).1
  have kinds : ∀ y ∈ ps.zip us, (defScope st).names.lookup y.1 = some .local ∨ ((defScope st).names.lookup y.1 = some .cell ∧ ((cellsFrom (s.heap.objs.size + 1) (defScope st).names []).lookup y.1).isSome = true) := by
    intro y hy
    cases S.par y.1 (List.of_mem_zip (a := y.1) (b := y.2) hy).1 with
    | inl q => exact Or.inl q
    | inr q => exact Or.inr ⟨q, PySem.W.cellsFrom_some _ _ _ (Or.inl q)⟩
  refine codeAny_call_function room.depth (kin _ _ lk) rfl S.co S.gen rfl (PySem.W.codeRec_of kin hcd) (bnd _ _ _ _ (wpAny_newFunctionEnv_cells S.kind kinds ?_))
  intro e2 he2 s1 x
  subst he2
  refine ⟨lim.keeps x.toInCall.keep, codeAny_func ?_⟩
  obtain ⟨t, ht, hq⟩ := body cdv A outer s H vs Q E p (room.deeper _) gua hot want
  have I := inv_startH (CX := CX0) (qual := qual) (f := f) (cd := cdv) (E := E) S pin env (len _ _ _ _ _ _ _ want) rel x
  refine wpAny_mono (ht.nox.run [] s1 (L2.start N vs) H _ I hq) ?_ (fun e s' hs => hs)
  intro fl s' hs
  cases fl with
  | ret u =>
    obtain ⟨v, σ', H', J, rv, q⟩ := hs
    exact ⟨v, H', J.os, J.bare, J.base, J.hok, rv, q⟩
  | next =>
    obtain ⟨σ', H', J, q⟩ := hs
    exact ⟨V.non, H', J.os, J.bare, J.base, J.hok, rfl, q⟩
  | brk =>
    obtain ⟨σ', H', J, q⟩ := hs
    exact False.elim q
  | cont =>
    obtain ⟨σ', H', J, q⟩ := hs
    exact False.elim q
end
section
variable {X : Cx} {k : Nat} {f : Addr} {fd : FuncData} {ps : List Str} {sp : Addr → Value → Option Addr → Sp} {x : Str} {p pos : Pos} {e : Expr} {es : List Expr} {t : TA} {pn : Addr × Obj}
/-- f(..) of such a def, in the suite or in a def called there -/
theorem pe_callX (F : FnX X.prog X.w X.K X.mg X.base k f fd ps sp) (room : RoomH k X.A) (gua : X.A.guards = some []) (hot : Hot1 X.A pn) (hpn : pn ∈ X.pn) (hg : Gl X x) (hm : X.mg x = some (.ref f)) (hk : PySem.W.keepIn X.K (.ref f) = true)
    (hb : Binds X.K fd ps []) (args : PA X (e :: es) t) (hdb : (x == ("__debug__" : Str)) = false := by decide)
    (he : starEach (e :: es) X.env = (false, eval e X.env) :: starEach es X.env := by rfl) (hpl : (backTo pos (starEach es X.env)).any (·.1) = false := by rfl) :
    PE X (.Call (.Name x p) (e :: es) [] pos) (fun σ H Q => t σ H fun vs H1 => sp pn.1 pn.2.cls pn.2.dict vs H1 Q E0) := by
  constructor
  intro pins s σ H Q I h
  refine wpAny_Call_Name_kw (ld_glob I hg hm ?_ hdb)
  refine PySem.W.callWith_K (h₀ := X.base) I.ok.mod.kin hk (thn (args.run pos pins s σ H _ I h) ?_) he hpl
  rintro us s1 ⟨vs, H1, I1, rel, want⟩
  refine ⟨I1.kIn, ?_⟩
  have hl : (us ++ []).length = ps.length := by
    rw [List.append_nil, ← rel.length]
    exact F.many _ _ _ _ _ _ _ want
  have P1 := I1.pin pn (List.mem_append_left _ hpn)
  have pin : PinOk X.stack H1 s1 pn := ⟨P1.1, P1.2.1, fun m => (List.mem_cons.mp (I1.stkSub pn.1 m)).elim P1.2.2.1 P1.2.2.2.1, P1.2.2.2.2⟩
  have b := hb s1 us I1.kIn hl
  rw [List.append_nil] at b
  refine wpAny_call (codeAny_mono (F.go X.A X.stack s1 H1 ⟨us, []⟩ us vs Q E0 pn room gua hot pin I1.env0 b rel want) ?_)
  intro r s' hq
  cases r with
  | error e => exact False.elim hq
  | ok fl =>
    cases fl with
    | ret u => exact I1.after hq
    | next => exact False.elim hq
    | brk => exact False.elim hq
    | cont => exact False.elim hq
/-- the same in the suite, by what is told of the exception there -/
theorem pe_callXs {a : Addr} {oe : Obj} {cls : Value} {dd : Option Addr} (h1 : oe.cls = cls) (h2 : oe.dict = dd) (F : FnX X.prog X.w X.K X.mg X.base k f fd ps sp) (room : RoomH k X.A) (gua : X.A.guards = some []) (hot : Hot1 X.A (a, oe)) (hpn : (a, oe) ∈ X.pn) (hg : Gl X x) (hm : X.mg x = some (.ref f)) (hk : PySem.W.keepIn X.K (.ref f) = true)
    (hb : Binds X.K fd ps []) (args : PA X (e :: es) t) (hdb : (x == ("__debug__" : Str)) = false := by decide)
    (he : starEach (e :: es) X.env = (false, eval e X.env) :: starEach es X.env := by rfl) (hpl : (backTo pos (starEach es X.env)).any (·.1) = false := by rfl) :
    PE X (.Call (.Name x p) (e :: es) [] pos) (fun σ H Q => t σ H fun vs H1 => sp a cls dd vs H1 Q E0) := by
  subst h1
  subst h2
  exact pe_callX (pn := (a, oe)) F room gua hot hpn hg hm hk hb args hdb he hpl
end
theorem _root_.L2H.RoomH.units {k : Nat} {A : Around} (r : RoomH k A) : A.units + 64 < cLine := by
  have := r.un
  omega
end JgH
namespace JgH
open PySem PySem.Spec PyProof.Rows HotX L2 L2H
/-! ### try: body, except TEST as n: suite, whatever the test is; here one of the named classes is met -/
theorem flying_kept {B h g : Heap} {l : List Env} {a : Addr} {Z : Obj → Prop} (x : HandSPX.FlyingZ B l a Z h) (k : ∀ c o, h.get? c = some o → g.get? c = some o) : HandSPX.FlyingZ B l a Z g := by
  obtain ⟨x1, x2, x3, oe, vs, T, oT, ts, y1, y2, y3, y4, y5, y6, y7, y8, y9⟩ := x
  exact ⟨fun c o e => k c o (x1 c o e), x2, x3.of_keeps fun b o e _ => ⟨o, k b o e, rfl⟩, oe, vs, T, oT, ts, k _ _ y1, y2, y3, y4, y5, y6, k _ _ y7, y8, y9⟩
/-- what a test of an except clause tells of a class, nothing but new things laid -/
def TestOk (X : Cx) (T : Expr) (m : Value → Option Bool) : Prop := ∀ {a : Addr} {pn pins : List (Addr × Obj)} {σ : L2.St} {H : Hp} {s : Shared} {cls : Value} {b : Bool} {A : Around} {Q : Bool → Shared → Prop} {E1 E2 : Value → Shared → Prop},
  L2.Inv (X.suite a pn) pins σ H s → PySem.W.Looks (model X.prog X.w) s.heap (typeOf (.ref a)) cls → m cls = some b → (∀ g, (∀ c o, s.heap.get? c = some o → g.get? c = some o) → Q b { s with heap := g }) →
  wpAny (model X.prog X.w) (X.A.mark (some (.ref a))) (eval T X.env) (fun c t => wpAny (model X.prog X.w) A (excMatches (.ref a) c) Q E2 t) E1 s
theorem test_two {X : Cx} {x1 x2 : Str} {c1 c2 : Value} {p1 p2 tp : Pos} {k : Nat} (g1 : Gl X x1) (g2 : Gl X x2) (m1 : X.mg x1 = some c1) (m2 : X.mg x2 = some c2) (d1 : (x1 == ("__debug__" : Str)) = false := by decide) (d2 : (x2 == ("__debug__" : Str)) = false := by decide) :
    TestOk X (.Tuple [.Name x1 p1, .Name x2 p2] k tp) fun cls => PySem.W.exmAny X.K cls [c1, c2] := by
  intro a pn pins σ H s cls b A Q E1 E2 I LT e q
  have up : ∀ c o, s.heap.get? c = some o → (s.heap.push { cls := .type "tuple", data := .seq [c1, c2].toArray }).get? c = some o := fun c o z => Heap.get?_push_of_some _ z
  refine wpAny_Tuple (wpAny_items_cons (ld_glob (X := X.suite a pn) I g1 m1 (wpAny_items_cons (ld_glob (X := X.suite a pn) I g2 m2 (wpAny_items_nil ⟨by size_fits, ?_⟩) d2)) d1))
  exact (PySem.W.exm_tup2 (I.kIn.keeps up) (LT.keeps up) (Heap.get?_push_size s.heap rfl) e).here (q _ up)
/-- what is let out of the body is met by the clause -/
def wHit (m : Value → Option Bool) (i : Nat) (ts : Addr → Value → Option Addr → TS) (D : Ends) : WX := fun cls d σ H =>
  m cls = some true ∧ ∀ a, H a = none → ts a cls d { nx := fun σ' H' => D.nx (σ'.set i none) H', rt := D.rt, bk := fun σ' H' => D.bk (σ'.set i none) H', ct := fun σ' H' => D.ct (σ'.set i none) H' } (σ.set i (some (.ref a))) H
section
variable {X : Cx} {n : Str} {i : Nat} {body suite : List Stmt} {b₀ : Stmt} {T : Expr} {pos pos' : Pos} {tb : WX → TS} {ts : Addr → Value → Option Addr → TS} {m : Value → Option Bool}
theorem ps_try_hit (hs : X.stack = X.env :: X.outer) (hf : X.env.frame = some X.env.locals) (hN : X.N.Nodup) (hi : X.N[i]? = some n) (hln : X.env.kindOf n = some .local) (test : TestOk X T m)
    (hb : ∀ (W : WX) (pn : List (Addr × Obj)) (xe : Value → Shared → Prop), L2N.Takes (X.tr pn xe) W → PassesOwn (model X.prog X.w) X.A X.env xe → PSs (X.tr pn xe) body (tb W))
    (hsu : ∀ (a : Addr) (oe : Obj) (cls : Value) (d : Option Addr) (pn : List (Addr × Obj)), L2N.Zn cls d oe → (∃ vs, oe.data = .fields vs) → PSs (X.suite a ((a, oe) :: pn)) (b₀ :: suite) (ts a cls d)) :
    PS X (.Try body [.ExceptHandler (some T) (some n) (b₀ :: suite) pos'] [] [] pos) (fun D σ H => tb (wHit m i ts D) D σ H) := by
  refine ⟨fun pins s σ H D I h => ?_⟩
  have ok := I.ok
  have fr : X.A.frames = some (X.env :: X.outer) := by rw [ok.frames, hs]
  let catch_ : Value → Shared → Prop := fun e t => wpAny (model X.prog X.w) X.A (noteFrame e X.env) (fun _ t2 => wpAny (model X.prog X.w) X.A (setFlight e none) (fun _ t3 => wpAny (model X.prog X.w) X.A (handleBy e X.env [.ExceptHandler (some T) (some n) (b₀ :: suite) pos']) (SP X pins D) X.xe t3) X.xe t2) X.xe t
  have caught : L2N.Takes (X.tr (X.pn ++ pins) catch_) (wHit m i ts D) := by
    rintro u t ⟨a, B, sI, pins', σ', H', cls, d, rfl, J', nb, up, sky, na, os, ag, met, hyes⟩
    have J : L2.Inv X pins σ' H' sI := J'.ofTry ok
    have sky : Sky B (X.env :: X.outer) a (L2N.Zn cls d) X.env.locals t.heap := by
      rw [← hs]
      exact sky
    refine L2N.Sky.land (A := X.A) L2N.Zn.steady fr hf sky fun h3 fl3 up3 => ?_
    have J3 : L2.Inv X pins σ' H' { t with heap := h3 } := J.landed nb fl3.1 (up.trans up3) os ag
    obtain ⟨oe3, vs3, he3, hz3, hd3⟩ := fl3.there
    have off : ∀ {g : Heap}, HandSPX.FlyingZ B (X.env :: X.outer) a (L2N.Zn cls d) g → a ∉ frs (X.env :: X.outer) := fun {g} fl mem => by
      obtain ⟨o1, v1, e1, _, q1⟩ := fl.there
      obtain ⟨_, o2, e2, no⟩ := fl.2.2.1.mem mem
      rw [e1] at e2
      cases e2
      exact no _ q1
    have out := off fl3
    have nL : a ≠ X.env.locals := fun z => out (List.mem_filterMap.mpr ⟨X.env, List.mem_cons_self, by rw [hf, z]⟩)
    have nF : a ∉ X.fs := fun mem => by
      obtain ⟨e, he, q⟩ := List.mem_filterMap.mp mem
      exact out (List.mem_filterMap.mpr ⟨e, List.mem_cons_of_mem _ he, q⟩)
    have S3 := J3.suite he3 hd3 na nL nF
    refine wpAny_handleBy_cons (codeAny_handlers_test ?_) (fun q => by cases q)
    have LT : PySem.W.Looks (model X.prog X.w) h3 (typeOf (.ref a)) cls := fun A Q E s k q => wpAny_typeOf_ref (k _ _ he3) (by rw [hz3.1]; exact q)
    refine test (s := { t with heap := h3 }) S3 LT met fun g kg => ?_
    have flg := flying_kept fl3 kg
    show codeAny _ _ _ _ _
    refine codeAny_handlers_suite_as (HandSPX.lands_againZ (s := { t with heap := g }) flg fun h4 fl4 up4 => ?_)
    have J4 : L2.Inv X pins σ' H' { t with heap := h4 } := J.landed nb fl4.1 (((up.trans up3).trans (Heap.UpToSlots.of_keeps kg)).trans up4) os ag
    obtain ⟨oe4, vs4, he4, hz4, hd4⟩ := fl4.there
    have S4 := J4.suite he4 hd4 na nL nF
    refine store_ok (X := X.suite a ((a, oe4) :: (X.pn ++ pins))) (v := .ref a) S4 hN hi (.inl hln) rfl (fun s5 S5 => ?_) (.inr hln)
    refine wpAny_mono ((hsu a oe4 cls d (X.pn ++ pins) hz4 ⟨_, hd4⟩).run [] s5 _ H' _ S5 (hyes a na)) (fun f s6 hsp => ?_) (fun _ _ z => False.elim z)
    have gone : ∀ {σ6 : L2.St} {H6 : Hp} {Q : Shared → Prop}, L2.Inv (X.suite a ((a, oe4) :: (X.pn ++ pins))) [] σ6 H6 s6 → (∀ s7, L2.Inv X pins (σ6.set i none) H6 s7 → Q s7) →
        wpAny (model X.prog X.w) X.A (do bindName X.env n .none; unbindBehindTheSuite X.env n pos') (fun _ s7 => Q s7) X.xe s6 := fun {σ6 H6 Q} S6 hq => gone_ok (S6.unsuite ok) hN hi hln hq
    cases f with
    | ret u =>
      obtain ⟨v6, σ6, H6, S6, r6, q6⟩ := hsp
      exact gone S6 fun s7 J7 => ⟨_, _, _, J7, r6, q6⟩
    | next =>
      obtain ⟨σ6, H6, S6, q6⟩ := hsp
      exact gone S6 fun s7 J7 => ⟨_, _, J7, q6⟩
    | brk =>
      obtain ⟨σ6, H6, S6, q6⟩ := hsp
      exact gone S6 fun s7 J7 => ⟨_, _, J7, q6⟩
    | cont =>
      obtain ⟨σ6, H6, S6, q6⟩ := hsp
      exact gone S6 fun s7 J7 => ⟨_, _, J7, q6⟩
  refine wpAny_Try_except (wpAny_mono ((hb (wHit m i ts D) (X.pn ++ pins) catch_ caught PassesOwn.looking).run [] s σ H D (I.toTry _) h) (fun f s1 hsp => ?_) (fun e s1 he => he))
  cases f with
  | ret u =>
    obtain ⟨v, σ', H', J', r, q⟩ := hsp
    exact ⟨v, σ', H', J'.ofTry ok, r, q⟩
  | next =>
    obtain ⟨σ', H', J', q⟩ := hsp
    exact wpAny_execs_nil ⟨σ', H', J'.ofTry ok, q⟩
  | brk =>
    obtain ⟨σ', H', J', q⟩ := hsp
    exact ⟨σ', H', J'.ofTry ok, q⟩
  | cont =>
    obtain ⟨σ', H', J', q⟩ := hsp
    exact ⟨σ', H', J'.ofTry ok, q⟩
end
end JgH
namespace JgX
open PySem PySem.W PySem.Calls PyProof.Rows PySem.Spec L2
/-! ### an exception that is kept as a value: what was said at its making stays -/
theorem frz_tup {o : Obj} {u : HO} {xs : List V} : HO.frz o u ≠ .tup xs := fun z => by cases z
theorem keptLaid {P : Program} {w : World} {H : Hp} {hp h' : Heap} {fs : List Addr} {a C dx t1 : Addr} {f : Str} {y : V} {u : Value} {z : Str} {tz : Tok} (hok : HOk P w H hp) (e : H a = some (exo a C none)) (ry : RelV y u)
    (dn : hp.objs.size ≤ dx) (dne : dx ≠ a) (tn : hp.objs.size ≤ t1) (tne : t1 ≠ a) (td : t1 ≠ dx) (k : ∀ b o, b ≠ a → hp.get? b = some o → h'.get? b = some o) (hx : h'.get? a = some (keptObj C t1 dx))
    (hn : h'.Ns1 dx (fun z => if z = f then some u else none)) (ht : h'.get? t1 = some (excTup [.str z tz])) :
    Un fs [] H (upd (upd (upd H t1 (.tup [.str z])) dx (exd dx [(f, y)])) a (.frz (keptObj C t1 dx) (exo a C (some dx)))) hp h' ∧
    HOk P w (upd (upd (upd H t1 (.tup [.str z])) dx (exd dx [(f, y)])) a (.frz (keptObj C t1 dx) (exo a C (some dx)))) h' := by
  have hnd : H dx = none := hok.fresh dn
  have hnt : H t1 = none := hok.fresh tn
  have nd : ∀ {b : Addr} {o : Obj}, hp.get? b = some o → b ≠ dx := fun {b o} q => Nat.ne_of_lt (Nat.lt_of_lt_of_le (Heap.lt_size q) dn)
  have nt : ∀ {b : Addr} {o : Obj}, hp.get? b = some o → b ≠ t1 := fun {b o} q => Nat.ne_of_lt (Nat.lt_of_lt_of_le (Heap.lt_size q) tn)
  have na : ∀ {b : Addr}, H b = none → b ≠ a := fun {b} n z => by
    rw [z, e] at n
    cases n
  -- what was tracked and isn't the exception stays tracked
  have st : ∀ {b : Addr} {o : HO}, H b = some o → b ≠ a → upd (upd (upd H t1 (.tup [.str z])) dx (exd dx [(f, y)])) a (.frz (keptObj C t1 dx) (exo a C (some dx))) b = some o := fun {b o} q hb => by
    rw [upd_ne hb, upd_ne (ne_of_none q hnd), upd_ne (ne_of_none q hnt)]
    exact q
  refine ⟨⟨fun b o q n _ _ => k b o (na n) q, fun b o q n _ _ => ⟨o.slots, k b o (na n) q⟩, fun b o q n _ => ?_, fun b o q _ => ?_, fun b xs q => st q (at_ne e q exo_tup), fun b o v q => st q (at_ne e q exo_frz), fun b ps q => ⟨#[], ?_⟩⟩, fun b o q => ?_⟩
  · rw [upd_ne (na n), upd_ne (nd q), upd_ne (nt q)]; exact n
  · by_cases hb : b = a
    · exact ⟨_, by rw [hb]; exact hx⟩
    · exact ⟨o, k b o hb q⟩
  · rw [st q (at_ne e q exo_tbl)]; simp
  by_cases hb : b = a
  · subst hb
    rw [upd_same] at q
    cases q
    exact ⟨hx, exo_ok hx⟩
  rw [upd_ne hb] at q
  by_cases hd : b = dx
  · subst hd
    rw [upd_same] at q
    cases q
    exact exd_ok hn (relO_put (fs := []) ry fun g => True.intro)
  rw [upd_ne hd] at q
  by_cases hb1 : b = t1
  · subst hb1
    rw [upd_same] at q
    cases q
    refine ⟨by rw [sizeLine_eq]; simp, [.str z tz], .cons ⟨tz, rfl⟩ .nil, _, ht, rfl, ⟨_, rfl⟩⟩
  rw [upd_ne hb1] at q
  refine (hok b o q).stay (fun c v hc z => k c v ?_ z) (fun c hc => st hc (at_ne e hc exo_own)) (fun c xs hc => st hc (at_ne e hc exo_tup))
  rcases hc with hc | hc
  · rw [hc]
    exact hb
  · exact at_ne e hc exo_own
end JgX
namespace JgX
open PySem PySem.W PySem.Calls PyProof.Rows PySem.Spec L2
section
variable {P : Program} {w : World} {K : Frag} {mg : Str → Option Value} {base : Heap} {CX : CXT} {k : Nat} {B newId i : String} {bmB : List Value} {C fI : Addr} {fd : FuncData} {qual f par text : Str} {params : Arguments} {scope : Scope}
  {p0 p1 p2 p3 p4 p5 p6 p7 p8 : Pos} {j : Nat}
/-- what such an __init__ promises where all of it is to be kept -/
def xKeep (C : Addr) (f : Str) (z : Str) : Sp := fun vs H Q _ => ∃ a y, vs = [.ref a, y] ∧ H a = some (exo a C none) ∧ ∀ dx t1, H dx = none → dx ≠ a → H t1 = none → t1 ≠ a → t1 ≠ dx →
  Q .non (upd (upd (upd H t1 (.tup [.str z])) dx (exd dx [(f, y)])) a (.frz (keptObj C t1 dx) (exo a C (some dx))))
theorem init_keep (X : XBase B newId i bmB) (T : XC K C B newId i bmB) (S : XFn P K C fI fd qual params (xBody text f par j p0 p1 p2 p3 p4 p5 p6 p7 p8) scope) (nf : findIn K (.ref C) f = some none)
    (opq : nsIn K cStatics "thirdparty.any" = some none) (msup : mg "super" = none) (htop : (P.main.scope.names.lookup ("super" : Str)).isSome = false)
    (hks : scope.names.lookup ("super" : Str) = some .globalImplicit) (hkc : scope.names.lookup ("__class__" : Str) = some .free) (hkS : scope.names.lookup ("self" : Str) = some .local) (hkP : scope.names.lookup par = some .local)
    (hk : scope.kind = .function) (hcell : ∀ x ∈ scope.names, x.2 ≠ .cell) (hco : scope.isCoroutine = false) (hgen : scope.isGenerator = false)
    (hpar : ∃ ar, (params.posonlyargs ++ params.args).head? = some ar ∧ ar.arg = ("self" : Str)) (hps : par ≠ ("self" : Str)) (hpd : (par == ("__debug__" : Str)) = false)
    (hev : ∀ en : Env, ∃ pl : Sem Bool, eval (.Call (.Attribute (.Call (.Name "super" p0) [] [] p1) "__init__" p2) [.Constant (.str text) j p3] [] p4) en = (do
      let ov ← attributeBase (.Call (.Name "super" p0) [] [] p1) "__init__" en (eval (.Call (.Name "super" p0) [] [] p1) en)
      standAt p2.atName
      let (f, first) ← holding [ov] (getMethod ov "__init__" pl)
      callWith p4 f first (backTo p4 (starEach [.Constant (.str text) j p3] en)) []))
    (hsx : ∀ en : Env, swapsWith (.Call (.Attribute (.Call (.Name "super" p0) [] [] p1) "__init__" p2) [.Constant (.str text) j p3] [] p4) none p4.line en = pure false)
    (hsw : ∀ env : Env, swapsWith (.Name par p7) (some (.Attribute (.Name "self" p5) f p6)) p8.line env = pure false) :
    FnOk P w K mg base CX (k + 1) fI fd [("self" : Str), par] (xKeep C f text) := by
  refine ⟨fun vs H Q E ⟨a, y, e, _⟩ => by rw [e]; rfl, fun A outer s H args us vs Q E room env bnd rel want => ?_⟩
  obtain ⟨a, y, rfl, ea, q⟩ := want
  obtain ⟨nm, cc, cda, oc, kV, doc, pm, ct, ccl, cl, od, an, cdd, cld, osl, ccs, csl, vs', file, tf, rfl, lk, hcd, lcd, hv2, hfile, lcc⟩ := S.ex
  obtain ⟨nmC, qC, NC, bsC, bmC, snC, sub, ab, col, dd, k0, k1, k2, k3, k5, hC, htail⟩ := T.cls
  obtain ⟨ar, har, harn⟩ := hpar
  cases rel with
  | @cons _ u0 _ ur ra rw' =>
  cases rw' with
  | @cons _ u _ ur' ru rz =>
  cases rz
  obtain rfl : u0 = Value.ref a := ra
  have bk : ∀ b o, base.get? b = some o → s.heap.get? b = some o := fun b o e => (env.bs b o e).1
  have kin : K.In s.heap := env.mod.kin.keeps bk
  obtain ⟨t1, hea⟩ := exo_at env.hok ea
  have clsC : clsIn K C = some { name := nmC, bases := bsC, mro := .ref C :: bmC, ns := NC, qualname := qC, hasDict := true, slotNames := snC, subclasses := sub, abstract := ab, collection := col, hasDel := false } := by
    unfold clsIn; rw [hC] <;> rfl
  have hsub : mroIn K C (.ref C) = some true := by
    unfold mroIn
    rw [clsC, Option.bind_some, if_neg (show ¬ (List.isEmpty (Value.ref C :: bmC) = true) from Bool.false_ne_true)]
    simp
  -- the heap without the exception
  have bh : ∀ b o, base.get? b = some o → (s.heap.hide a).get? b = some o := fun b o e =>
    (Heap.hide_ne s.heap fun z => by have n := (env.bs b o e).2; rw [z, ea] at n; cases n).trans (bk b o e)
  have kinH : K.In (s.heap.hide a) := env.mod.kin.keeps bh
  refine ks_codeAny_call_defAt (fd := ksFn nm qual params _ scope .none kV doc pm an (.ref cda) ct cc) (body := xBody text f par j p0 p1 p2 p3 p4 p5 p6 p7 p8) (binds := [(("self" : Str), Value.ref a), (par, u)]) room.depth (kin _ _ lk) rfl
    (env.mod.nolimit.keeps bk) (codeRec_of kin hcd) rfl bnd hcell (fun x hx => ?_) (fun h₁ hns hk₁ => ?_) hco hgen hk
  · rcases List.mem_cons.mp hx with rfl | hx
    · exact hkS
    · rcases List.mem_cons.mp hx with rfl | hx
      · exact hkP
      · cases hx
  have F1 : Fr (s.heap.hide a) s.heap.objs.size h₁ (fun y => [(("self" : Str), Value.ref a), (par, u)].reverse.lookup y) :=
    ⟨hns, fun b o e => hk₁ b o (Heap.of_hide e), Nat.le_of_eq (Heap.hide_size s.heap a)⟩
  have N1 : News (s.heap.hide a) s.heap.objs.size h₁ [(a, excObj C t1 none .none)] := fun p hp => by
    rcases List.mem_cons.mp hp with rfl | hp
    · exact ⟨hk₁ _ _ hea, Nat.ne_of_lt (Heap.lt_size hea), Heap.hide_self s.heap a⟩
    · cases hp
  have mself : (fun y => [(("self" : Str), Value.ref a), (par, u)].reverse.lookup y) ("self" : Str) = some (.ref a) := by
    have hb : (("self" : Str) == par) = false := by
      rw [beq_eq_false_iff_ne]; exact fun z => hps z.symm
    show List.lookup ("self" : Str) [(par, u), (("self" : Str), Value.ref a)] = _
    rw [List.lookup_cons, hb]
    simp [List.lookup_cons]
  have mpar : (fun y => [(("self" : Str), Value.ref a), (par, u)].reverse.lookup y) par = some u := by
    show List.lookup par [(par, u), (("self" : Str), Value.ref a)] = _
    simp [List.lookup_cons]
  have neA : ∀ {b : Addr} {o : Obj}, (s.heap.hide a).get? b = some o → b ≠ a := fun {b o} e z => by
    rw [z, Heap.hide_self] at e
    cases e
  obtain ⟨mb, hmb, hmbB⟩ := env.mod.blt
  have keep1 : ∀ b o, base.get? b = some o → h₁.get? b = some o := fun b o e => F1.keep b o (bh b o e)
  have kin1 : K.In h₁ := env.mod.kin.keeps keep1
  obtain ⟨pl, hev⟩ := hev (callEnv (ksFn nm qual params (xBody text f par j p0 p1 p2 p3 p4 p5 p6 p7 p8) scope .none kV doc pm an (.ref cda) ct cc) s.heap.objs.size fI)
  refine ks_wpAt_execs_cons (ks_wpAt_Expr_any (hi := by show (scope.kind == .module && _) = false; rw [hk]; rfl) (hs := hsx _) (ks_wpAt_MethodCall (pl := pl) (he := hev) (ks_wpAt_super_base (f := fI) (cc := cda) (ar := ar) (file := file) (tf := tf) hks hkc rfl rfl (kin1 _ _ lk) rfl har rfl (kin1 _ _ lcd) rfl hv2 hfile htop ?_)))
  refine ks_loadName_global hk hks (loadGlobal_builtin (mb := mb) (env.mod.glob.keeps keep1) msup (hmb.keeps keep1) ((hmbB _ (by decide)).trans (show bootBuiltins "super" = some (.type "super") by decide +kernel)) ⟨rfl, ?_⟩)
  refine wpAny_loadName_free hk hkc rfl ⟨_, kin1 _ _ lcc, rfl⟩ ?_
  rw [harn]
  refine wpAny_loadName_local hk hkS hns mself ?_
  refine ks_wpAny_isType_cls (kin1 _ _ hC) rfl ⟨rfl, ?_⟩
  refine ks_wpAny_call_super (kin1 _ _ hC) rfl (hk₁ _ _ hea) rfl (fun c z => by cases z) (looks_mroIn kin1 hsub) (fun h2 e2 keep2 => ?_)
  obtain ⟨F2, N2, l2⟩ := ks_newsPush (s := ⟨h₁, s.gens, s.drawn, s.toks + 2, s.os⟩) F1 N1 rfl e2 keep2
  refine kxs_method X.kf F2 kinH N2 (so := h₁.objs.size) (x := a) (C := C) (D := C) (by simp) (InstAt.of_exc0 (t := t1) (c2 := .none) N2 (by simp)) opq T.sup T.subB (by decide) (fun q3 h3 F3 N3 l3 => ?_)
  refine kxs_callWith1 (i := i) (x := a) N3 (by simp) (spliced_more (wpAny_Constant_str (spliced_none ⟨kxs_at N3 (by simp), ?_⟩)))
  have in3 : K.In h3 := kinH.keeps F3.keep
  refine call_wrap X (e := a) (t0 := t1) (in3 _ _ hC) (N3 (a, excObj C t1 none .none) (by simp)).1 (N3 (q3, kxs_mw i a) (by simp)).1 (by rw [sizeLine_eq]; simp) (fun h4 keep4 he4 tup4 => ?_)
  obtain ⟨oL, esL, epL, hL, restL⟩ := F3.ns
  have neL : s.heap.objs.size ≠ a := fun z => (N3 (a, excObj C t1 none .none) (by simp)).2.1 z.symm
  have hL4 : h4.Ns s.heap.objs.size (fun y => [(("self" : Str), Value.ref a), (par, u)].reverse.lookup y) := ⟨oL, esL, epL, keep4 _ _ neL hL, restL⟩
  have all4 : ∀ b o, b ≠ a → s.heap.get? b = some o → h4.get? b = some o := fun b o n e =>
    keep4 b o n (F3.keep b o ((Heap.hide_ne s.heap n).trans e))
  have in4 : K.In h4 := env.mod.kin.keeps fun b o e => all4 b o (neA (bh b o e)) (bk b o e)
  refine wpAt_of_wpAny (wpAny_execs_cons (plainObj_wpAny_Assign_Attribute ?_ (hsw _)))
  refine wpAny_Name (wpAny_loadName_local hk hkP hL4 mpar ?_) hpd
  refine wpAny_Name (wpAny_loadName_local hk hkS hL4 mself ?_)
  refine set_first X in4 he4 clsC rfl htail rfl nf T.sa (fun h5 tk dx keep5 hdx dne hx hn => wpAny_execs_nil ?_)
  have dn : s.heap.objs.size ≤ dx := Nat.le_trans (Nat.le_of_lt (Heap.lt_size (keep4 _ _ neL hL))) hdx
  have lt4 : h3.objs.size < h4.objs.size := Heap.lt_size tup4
  have t3n : s.heap.objs.size ≤ h3.objs.size := Nat.le_of_lt (Heap.lt_size hL)
  have t3a : h3.objs.size ≠ a := fun z => by
    have y : a < h3.objs.size := Heap.lt_size (N3 (a, excObj C t1 none .none) (by simp)).1
    exact Nat.lt_irrefl _ (z ▸ y)
  have t3d : h3.objs.size ≠ dx := Nat.ne_of_lt (Nat.lt_of_lt_of_le lt4 hdx)
  obtain ⟨un, ok⟩ := keptLaid (P := P) (w := w) (fs := frs outer) env.hok ea ru dn dne t3n t3a t3d (fun b o n e => keep5 b o n (all4 b o n e)) hx hn (keep5 _ _ t3a tup4)
  exact ⟨.non, _, rfl, env.bare, un, ok, rfl, q dx _ (env.hok.fresh dn) dne (env.hok.fresh t3n) t3a t3d⟩
end
end JgX
namespace JgX
open PySem PySem.W PySem.Calls PyProof.Rows PySem.Spec L2
/-- the text that such an __init__ says -/
def XSz (st : Stmt) (f par text : Str) : Prop := ∃ (j : Nat) (p0 p1 p2 p3 p4 p5 p6 p7 p8 : Pos), defBody st = xBody text f par j p0 p1 p2 p3 p4 p5 p6 p7 p8 ∧
    (∀ en : Env, ∃ pl : Sem Bool, eval (.Call (.Attribute (.Call (.Name "super" p0) [] [] p1) "__init__" p2) [.Constant (.str text) j p3] [] p4) en = (do
      let ov ← attributeBase (.Call (.Name "super" p0) [] [] p1) "__init__" en (eval (.Call (.Name "super" p0) [] [] p1) en)
      standAt p2.atName
      let (f, first) ← holding [ov] (getMethod ov "__init__" pl)
      callWith p4 f first (backTo p4 (starEach [.Constant (.str text) j p3] en)) [])) ∧
    (∀ en : Env, swapsWith (.Call (.Attribute (.Call (.Name "super" p0) [] [] p1) "__init__" p2) [.Constant (.str text) j p3] [] p4) none p4.line en = pure false) ∧
    (∀ env : Env, swapsWith (.Name par p7) (some (.Attribute (.Name "self" p5) f p6)) p8.line env = pure false)
theorem keep_st {P : Program} {w : World} {K : Frag} {mg : Str → Option Value} {base : Heap} {CX : CXT} {k : Nat} {B newId i : String} {bmB : List Value} {C fI : Addr} {fd : FuncData} {qual f par text : Str} {st : Stmt} (X : XBase B newId i bmB) (T : XC K C B newId i bmB)
    (S : XFn P K C fI fd qual (defArgs st) (defBody st) (defScope st)) (Z : XSt st f par) (Y : XSz st f par text) (nf : findIn K (.ref C) f = some none) (opq : nsIn K cStatics "thirdparty.any" = some none) (msup : mg "super" = none)
    (htop : (P.main.scope.names.lookup ("super" : Str)).isSome = false) : FnOk P w K mg base CX (k + 1) fI fd [("self" : Str), par] (xKeep C f text) := by
  obtain ⟨j, p0, p1, p2, p3, p4, p5, p6, p7, p8, eb, hev, hsx, hsw⟩ := Y
  rw [eb] at S
  exact init_keep X T S nf opq msup htop Z.ks Z.kc Z.kself Z.kpar Z.kind Z.cell Z.co Z.gen Z.par0 Z.ps Z.pd hev hsx hsw
/-- all that was tracked is tracked still -/
def All (H H' : Hp) : Prop := ∀ b o, H b = some o → H' b = some o
def tKx (C : Addr) (z : Str) (te : TE) : TE := fun σ H Q => te σ H fun y H1 => tNil σ H1 fun ys H2 => ∃ y2, y :: ys = [y2] ∧ ∀ a H3, H2 a = none → All H2 H3 → Kx H3 a C z → Q (.ref a) H3
section
variable {X : Cx} {x : Str} {C fI : Addr} {k : Nat} {fd : FuncData} {par f z : Str} {e : Expr} {te : TE} {p pos : Pos} {B i : String}
/-- C(v) as a value -/
theorem pe_kx (T : XC X.K C B "ValueError.__new__" i mroV) (iC : findIn X.K (.ref C) "__init__" = some (some (.ref fI))) (tI : typeIn X.K (.ref fI) = some (.type "function"))
    (F1 : FnOk X.prog X.w X.K X.mg X.base CX0 k fI fd [("self" : Str), par] (xKeep C f z)) (room : Room (k + 1) X.A) (hb : Binds X.K fd [("self" : Str), par] []) (hg : Gl X x) (hm : X.mg x = some (.ref C)) (he : PE X e te)
    (hdb : (x == ("__debug__" : Str)) = false := by decide) (hs : starEach [e] X.env = (false, eval e X.env) :: starEach [] X.env := by rfl) (hpl : (backTo pos (starEach [] X.env)).any (·.1) = false := by rfl) :
    PE X (.Call (.Name x p) [e] [] pos) (tKx C z te) := by
  constructor
  intro pins s σ H Q I h
  obtain ⟨nm, q, N, bs, bm, sn, sub, ab, col, dd, k0, k1, k2, k3, k5, hC, htail⟩ := T.cls
  have args : PA X [e] (tCons te tNil) := pa_cons he pa_nil hs
  refine wpAny_Call_Name_kw (ld_glob I hg hm ?_ hdb)
  refine PySem.W.callWith_K (h₀ := X.base) I.ok.mod.kin T.kC (thn (args.run pos pins s σ H (fun vs H1 => ∃ y, vs = [y] ∧ ∀ a H2, H1 a = none → All H1 H2 → Kx H2 a C z → Q (.ref a) H2) I h) ?_) hs hpl
  rintro us s1 ⟨vs, H1, I1, rel, y, rfl, q1⟩
  refine ⟨I1.kIn, ?_⟩
  show wpAny _ _ (call (.ref C) us) _ _ _
  obtain ⟨u, rfl, ru⟩ := vals1 rel
  obtain ⟨hp, g, dr, tk, os⟩ := s1
  have kk : ∀ b o, hp.get? b = some o → ((hp.push (PySem.W.kdv_tup [u])).push (PySem.HandSPX.excO C hp.objs.size)).get? b = some o := fun b o e =>
    Heap.get?_push_of_some _ (Heap.get?_push_of_some _ e)
  have fresh : H1 (hp.objs.size + 1) = none := I1.hok.fresh (Nat.le_succ _)
  have there : ((hp.push (PySem.W.kdv_tup [u])).push (PySem.HandSPX.excO C hp.objs.size)).get? (hp.objs.size + 1) = some (PySem.HandSPX.excO C hp.objs.size) := by heap_get
  have I2 : Inv X pins σ (upd H1 (hp.objs.size + 1) (exo (hp.objs.size + 1) C none)) ⟨(hp.push (PySem.W.kdv_tup [u])).push (PySem.HandSPX.excO C hp.objs.size), g, dr, tk, os⟩ :=
    I1.laid (t' := tk) kk (Nat.le_succ _) (exo_ok there)
  have want : xKeep C f z [V.ref (hp.objs.size + 1), y] (upd H1 (hp.objs.size + 1) (exo (hp.objs.size + 1) C none)) (fun v H3 => v = .non ∧ Q (.ref (hp.objs.size + 1)) H3) E0 := by
    refine ⟨_, y, rfl, upd_same, fun dx t1 hd hda ht hta htd => ⟨rfl, q1 _ _ fresh ?_ ?_⟩⟩
    · intro b o hbo
      have nb := ne_of_none hbo fresh
      rw [upd_ne hda] at hd
      rw [upd_ne hta] at ht
      rw [upd_ne nb, upd_ne (ne_of_none hbo hd), upd_ne (ne_of_none hbo ht), upd_ne nb]
      exact hbo
    · refine ⟨t1, dx, [(f, y)], upd_same, ?_, ?_⟩
      · rw [upd_ne hda, upd_same]
      · rw [upd_ne hta, upd_ne htd, upd_same]
  refine wpAny_call (PySem.HandSPX.call_own F.excBase_ValueError (fun Y => PySem.HandSPX.refsVE_contains Y bm (refs_tail htail)) (I1.kIn _ _ hC) (PySem.W.looks_findIn I1.kIn iC) (fun self => PySem.W.bind_fn I1.kIn self tI) (by rw [sizeLine_eq]; simp) ?_)
  have r2 : Vals [V.ref (hp.objs.size + 1), y] [Value.ref (hp.objs.size + 1), u] := .cons rfl (.cons ru .nil)
  refine codeAny_mono (F1.run _ X.stack _ _ ⟨[Value.ref (hp.objs.size + 1), u], []⟩ [Value.ref (hp.objs.size + 1), u] _ _ E0 (room.make C [u] []) (I2.env0.make C [u] []) ?_ r2 want) ?_
  · have b := hb _ [Value.ref (hp.objs.size + 1), u] I2.kIn (by simp)
    exact b
  intro r s' hq
  cases r with
  | error er => exact False.elim hq
  | ok fl =>
    cases fl with
    | ret v =>
      obtain ⟨v2, H2, J, rv, ev, q2⟩ := I2.after hq
      subst ev
      exact ⟨rv, V.ref (hp.objs.size + 1), H2, J, rfl, q2⟩
    | next => exact False.elim hq
    | brk => exact False.elim hq
    | cont => exact False.elim hq
end
end JgX
namespace JgX
open PySem PySem.W PySem.Calls PyProof.Rows PySem.Spec L2
theorem g_kx {C : Addr} {z : Str} {y : V} {σ : L2.St} {H : Hp} {Q : VK} (q : ∀ a H3, H a = none → All H H3 → Kx H3 a C z → Q (.ref a) H3) : tKx C z (tC y) σ H Q := ⟨_, rfl, q⟩
end JgX
namespace JgX
open PySem PySem.W PySem.Calls PySem.Spec PySem.HandSPX
open Builtin Builtin.ObjectAttr
/-! ### a class whose maker stands further up among its bases (KeyError has none of its own) -/
structure Up (B : String) (bm : List Value) : Prop where
  here : bm.contains (.type B) = true
  noA : bm.contains (.type "AttributeError") = false
  noN : bm.contains (.type "NameError") = false
section
variable {M : Model} {prog : Program} {w : World} {A : Around} {E : Value → Shared → Prop} {R : Result → Shared → Prop} {h : Heap} {g : Array GenState} {d : Drawn} {t : Nat} {os : OsState}
variable {nm q : Str} {C N : Addr} {bs bm bmB : List Value} {hdct : Bool} {sn : List Str} {sub : List Value} {ab : Bool} {col : Option Bool} {dd : Option Addr} {k0 k1 k2 k3 k5 : Option Value} {B newId initId : String}
theorem up_cons {T : String} {b : Bool} (h : bm.contains (.type T) = b) : (Value.ref C :: bm).contains (.type T) = b := by
  rw [List.contains_cons, h]
  cases b <;> rfl
theorem up_check (F : ExcBaseFacts B newId initId bmB) (U : Up B bm) {rest : List Value} {kw : List (Str × Value)} {Q : Unit → Shared → Prop} (lk : h.get? C = some (excClassObj nm q C N bs bm hdct sn sub ab col dd k0 k1 k2 k3 k5 newId)) (z : Q () ⟨h, g, d, t, os⟩) :
    wpAny M A (checkBuiltinCall newId ⟨.ref C :: rest, kw⟩) Q E ⟨h, g, d, t, os⟩ := by
  have here := up_cons (C := C) U.here
  have star := F.noStar
  simp only [checkBuiltinCall, F.newKind, F.newSplit, F.newRow]
  repeat (first
    | refine wpAny_loadPart_at lk ?_
    | (refine wpAny_isSubtype_exc lk ?_; rw [here])
    | refine wpAny_staticBase_exc lk ?_
    | refine wpAny_madeBy_exc lk ?_
    | simp only [bne_self_eq_false, Bool.false_eq_true, if_false]
    | wp_step)
  exact z
theorem up_new (F : ExcBaseFacts B newId initId bmB) (U : Up B bm) {rest : List Value} {kw : List (Str × Value)} (lk : h.get? C = some (excClassObj nm q C N bs bm hdct sn sub ab col dd k0 k1 k2 k3 k5 newId)) (few : rest.length ≤ sizeLine)
    (z : R (.ok (.ret (.ref (h.objs.size + 1)))) ⟨(h.push (kdv_tup rest)).push (excO C h.objs.size), g, d, t, os⟩) : codeAny (model prog w) A (.builtin newId ⟨.ref C :: rest, kw⟩) R ⟨h, g, d, t, os⟩ := by
  have ends := F.ends
  have here := up_cons (C := C) U.here
  have noA := up_cons (C := C) U.noA
  have noN := up_cons (C := C) U.noN
  refine codeAny_builtinAt F.entry ?_
  unfold Builtin.«BaseException.__new__»
  refine wpAt_bind ?_
  show wpAt _ _ _ (stack >>= _) _ _ _
  refine wpAt_bind (wpAt_stack fun p below => wpAt_of_wpAny ?_)
  wp_walk
  refine wpAt_of_wpAny ?_
  rw [F.owner]
  repeat (first
    | with_reducible refine wpAny_madeHere_exc F.canon lk ?_
    | with_reducible refine wpAny_loadPart_at lk ?_
    | (with_reducible refine wpAny_isSubtype_exc lk ?_; first | rw [here] | rw [noA] | rw [noN])
    | wp_step)
  show R _ _
  rw [Heap.size_push]
  exact z
theorem up_type (F : ExcBaseFacts B newId initId bmB) (U : Up B bm) {rest : List Value} {kw : List (Str × Value)} {fv : Value} {Q : Fin → Shared → Prop} (lk : h.get? C = some (excClassObj nm q C N bs bm hdct sn sub ab col dd k0 k1 k2 k3 k5 newId)) (few : rest.length ≤ sizeLine)
    (hi : Looks (model prog w) h (typeLookup (.ref C) "__init__") (some fv)) (hb : ∀ self, Looks (model prog w) h (bindSpecial fv self) (fv, [self]))
    (z : codeAny (model prog w) A (.call fv ⟨.ref (h.objs.size + 1) :: rest, kw⟩) (fun r s' => match r with | .ok (.ret v) => v = .none ∧ Q (.done (.ret (.ref (h.objs.size + 1)))) s' | .ok _ => False | .error e => E e s') ⟨(h.push (kdv_tup rest)).push (excO C h.objs.size), g, d, t, os⟩) :
    wpAny (model prog w) A (Builtin.«type.__call__» ⟨.ref C :: rest, kw⟩) Q E ⟨h, g, d, t, os⟩ := by
  repeat (first
    | with_reducible refine wpAny_loadPart_at lk ?_
    | with_reducible refine wpAny_madeBy_exc lk ?_
    | wp_step)
  refine codeAny_call_builtin_code (Code.quiet_builtin _ F.quiet) (up_check F U lk (up_new F U lk few ?_))
  show wpAny _ _ _ _ _ _
  have up : ∀ b o, h.get? b = some o → ((h.push (kdv_tup rest)).push (excO C h.objs.size)).get? b = some o := fun b o e => Heap.get?_push_of_some _ (Heap.get?_push_of_some _ e)
  have there : ((h.push (kdv_tup rest)).push (excO C h.objs.size)).get? (h.objs.size + 1) = some (excO C h.objs.size) := by heap_get
  have self_ : (Value.ref C :: bm).contains (.ref C) = true := by simp
  have lk2 := up _ _ lk
  unfold isInstance
  repeat (first
    | with_reducible refine wpAny_loadPart_at there ?_
    | (with_reducible refine wpAny_isSubtype_exc lk2 ?_; rw [self_])
    | wp_step)
  show wpAny _ _ (typeLookup (.ref C) _) _ _ _
  refine (hi.keeps up).at (wpAny_holding (wpAny_bind (((hb (.ref (h.objs.size + 1))).keeps up).at (wpAny_bind (wpAny_call (codeAny_mono z fun r s' y => ?_))))))
  cases r with
  | error e => exact y
  | ok fl =>
    cases fl with
    | ret v =>
      obtain ⟨e, y⟩ := y
      subst e
      first
        | exact wpAny_pure (wpAny_pure y)
        | (wp_walk; exact y)
    | next => exact y.elim
    | brk => exact y.elim
    | cont => exact y.elim
theorem up_call (F : ExcBaseFacts B newId initId bmB) (U : Up B bm) {rest : List Value} {kw : List (Str × Value)} {fv : Value} (lk : h.get? C = some (excClassObj nm q C N bs bm hdct sn sub ab col dd k0 k1 k2 k3 k5 newId)) (few : rest.length ≤ sizeLine)
    (hi : Looks (model prog w) h (typeLookup (.ref C) "__init__") (some fv)) (hb : ∀ self, Looks (model prog w) h (bindSpecial fv self) (fv, [self]))
    (z : codeAny (model prog w) (A.under (.builtin "type.__call__" ⟨.ref C :: rest, kw⟩)) (.call fv ⟨.ref (h.objs.size + 1) :: rest, kw⟩) (InitBack (h.objs.size + 1) R) ⟨(h.push (kdv_tup rest)).push (excO C h.objs.size), g, d, t, os⟩) :
    codeAny (model prog w) A (.call (.ref C) ⟨rest, kw⟩) R ⟨h, g, d, t, os⟩ := by
  have l1 := tc_lookup
  have l2 := tc_bind (.ref C)
  have ty : (⟨h, g, d, t, os⟩ : Shared).TypeIs (.ref C) "type" := ⟨_, lk, rfl⟩
  refine codeAny_of_tree ?_
  show wpAny _ _ (callAny (.ref C) _) _ _ _
  repeat (any_goals (first
    | assumption
    | with_reducible refine wpAny_loadPart_at lk ?_
    | wp_step))
  refine ⟨rfl, codeAny_call_builtin_at (Code.quiet_builtin _ (by decide +kernel)) entry_typeCall (wpAny_check_type_call_sub lk (up_type F U lk few hi hb (codeAny_mono z fun r s' y => ?_)))⟩
  cases r with
  | error e => exact y
  | ok fl => cases fl <;> exact y
end
end JgX
namespace JgX
open PySem PySem.W
theorem tail_contains {bmB : List Value} : ∀ {l : List Value}, excTail bmB l = true → ∀ Y : String, l.contains (.type Y) = bmB.contains (.type Y) := by
  intro l
  induction l with
  | nil =>
    intro h Y
    have e : bmB = [] := by simpa [excTail] using h
    rw [e]
  | cons a r ih =>
    intro h Y
    rcases excTail_cases _ h with ⟨c, r', e, h'⟩ | e
    · cases e
      rw [List.contains_cons, ih h' Y]
      rfl
    · rw [e]
theorem up_tail {M : String} {bmB l : List Value} (h : excTail bmB l = true) (u : Up M bmB) : Up M l :=
  ⟨(tail_contains h M).trans u.here, (tail_contains h _).trans u.noA, (tail_contains h _).trans u.noN⟩
/-- the makers of the three families -/
structure Maker (newId : String) (bmB : List Value) : Prop where
  ex : ∃ (M i : String) (bm : List Value), ExcBaseFacts M newId i bm ∧ Up M bmB
theorem mkValue : Maker "ValueError.__new__" [.type "ValueError", .type "Exception", .type "BaseException", .type "object"] := ⟨_, _, _, F.excBase_ValueError, by decide +kernel, by decide +kernel, by decide +kernel⟩
theorem mkLookup : Maker "LookupError.__new__" [.type "LookupError", .type "Exception", .type "BaseException", .type "object"] := ⟨_, _, _, F.excBase_LookupError, by decide +kernel, by decide +kernel, by decide +kernel⟩
theorem mkKey : Maker "LookupError.__new__" [.type "KeyError", .type "LookupError", .type "Exception", .type "BaseException", .type "object"] := ⟨_, _, _, F.excBase_LookupError, by decide +kernel, by decide +kernel, by decide +kernel⟩
end JgX
namespace JgX
open PySem PySem.W PySem.Calls PySem.Spec PySem.HandSPX
open Builtin Builtin.ObjectAttr
/-! ### C(v) of a class without an __init__ of its own -/
section
variable {M : Model} {prog : Program} {w : World} {A : Around} {E : Value → Shared → Prop} {R : Result → Shared → Prop} {h : Heap} {g : Array GenState} {d : Drawn} {t : Nat} {os : OsState}
variable {nm q : Str} {C N : Addr} {bs bm bmB : List Value} {hdct : Bool} {sn : List Str} {sub : List Value} {ab : Bool} {col : Option Bool} {dd : Option Addr} {k0 k1 k2 k3 k5 : Option Value} {B newId i : String}
theorem ini_call (F : IniFacts B i) (hB : bm.contains (.type B) = true) {e : Addr} {oe : Obj} {rest : List Value} {Q : Unit → Shared → Prop} (lk : h.get? C = some (excClassObj nm q C N bs bm hdct sn sub ab col dd k0 k1 k2 k3 k5 newId)) (he : h.get? e = some oe) (oc : oe.cls = .ref C)
    (sp : splitId i = some (B, "__init__")) (z : Q () ⟨h, g, d, t, os⟩) : wpAny M A (checkBuiltinCall i ⟨.ref e :: rest, []⟩) Q E ⟨h, g, d, t, os⟩ := by
  have here := up_cons (C := C) hB
  have star := F.star
  simp only [checkBuiltinCall, F.kind, sp, F.row]
  repeat (first
    | (with_reducible refine wpAny_loadPart_at he ?_; rw [oc])
    | with_reducible refine wpAny_loadPart_at lk ?_
    | (with_reducible refine wpAny_isSubtype_exc lk ?_; rw [here])
    | wp_step)
  refine wpAny_onRaise ?_
  have free : ∀ (a b : String) (n : Nat), Bind.check ⟨.positional, "*", B, .self, [⟨"args", .varPos, false⟩]⟩ a b n (({ pos := Value.ref e :: rest } : Args).kw.map fun x => x.fst) = pure () := fun a b n => check_star_args _ _ _ _ _ _
  rw [free]
  exact wpAny_pure z
theorem up_init (F : IniFacts B i) (hB : bm.contains (.type B) = true) (sp : splitId i = some (B, "__init__")) {e t0 : Addr} {rest : List Value} (lk : h.get? C = some (excClassObj nm q C N bs bm hdct sn sub ab col dd k0 k1 k2 k3 k5 newId)) (he : h.get? e = some (excO C t0)) (few : rest.length ≤ sizeLine)
    (z : ∀ h' t1, (∀ b o, b ≠ e → h.get? b = some o → h'.get? b = some o) → h'.get? e = some (excO C t1) → h'.get? t1 = some (excTup rest) → h.objs.size ≤ t1 → R (.ok (.ret .none)) ⟨h', g, d, t, os⟩) :
    codeAny (model prog w) A (.call (.builtin i) ⟨.ref e :: rest, []⟩) R ⟨h, g, d, t, os⟩ :=
  codeAny_call_builtin F.slot.plain F.entry (ini_call F hB lk he rfl sp (exc_init_tree (cls := .ref C) (t0 := t0) (dv := none) (c2 := .none) (c3 := .none) (b4 := .bool false) he few fun h' a b c => z h' _ a b c (Nat.le_refl _)))
end
end JgX
namespace JgX
open PySem PySem.W PySem.Calls PyProof.Rows PySem.Spec L2
/-! ### exceptions as values, with their fields told, under any base -/
/-- at a: an exception of the class at C, made with the text z, these its fields -/
def KxF (H : Hp) (a C : Addr) (z : Str) (fs : List (Str × V)) : Prop := ∃ t1 dx : Addr, H a = some (.frz (keptObj C t1 dx) (exo a C (some dx))) ∧ H dx = some (exd dx fs) ∧ H t1 = some (.tup [.str z])
theorem KxF.kx {H : Hp} {a C : Addr} {z : Str} {fs : List (Str × V)} (h : KxF H a C z fs) : Kx H a C z := by
  obtain ⟨t1, dx, h1, h2, h3⟩ := h
  exact ⟨t1, dx, fs, h1, h2, h3⟩
theorem KxF.all {H H' : Hp} {a C : Addr} {z : Str} {fs : List (Str × V)} (s : All H H') (h : KxF H a C z fs) : KxF H' a C z fs := by
  obtain ⟨t1, dx, h1, h2, h3⟩ := h
  exact ⟨t1, dx, s _ _ h1, s _ _ h2, s _ _ h3⟩
def tKxF (C : Addr) (f z : Str) (te : TE) : TE := fun σ H Q => te σ H fun y H1 => tNil σ H1 fun ys H2 => ∃ y2, y :: ys = [y2] ∧ ∀ a H3, H2 a = none → All H2 H3 → KxF H3 a C z [(f, y2)] → Q (.ref a) H3
theorem g_kxF {C : Addr} {f z : Str} {y : V} {σ : L2.St} {H : Hp} {Q : VK} (q : ∀ a H3, H a = none → All H H3 → KxF H3 a C z [(f, y)] → Q (.ref a) H3) : tKxF C f z (tC y) σ H Q := ⟨_, rfl, q⟩
theorem g_kxFV {C : Addr} {f z : Str} {i : Nat} {y : V} {σ : L2.St} {H : Hp} {Q : VK} (e : σ[i]? = some (some y)) (q : ∀ a H3, H a = none → All H H3 → KxF H3 a C z [(f, y)] → Q (.ref a) H3) : tKxF C f z (tVar i) σ H Q := ⟨y, e, _, rfl, q⟩
section
variable {X : Cx} {x : Str} {C fI : Addr} {k : Nat} {fd : FuncData} {par f z : Str} {e : Expr} {te : TE} {p pos kpos : Pos} {B newId i : String} {bmB : List Value}
/-- C(v) as a value, under any base that makes its own -/
theorem pe_kxF (MK : Maker newId bmB) (T : XC X.K C B newId i bmB) (iC : findIn X.K (.ref C) "__init__" = some (some (.ref fI))) (tI : typeIn X.K (.ref fI) = some (.type "function"))
    (F1 : FnOk X.prog X.w X.K X.mg X.base CX0 k fI fd [("self" : Str), par] (xKeep C f z)) (room : Room (k + 1) X.A) (hb : Binds X.K fd [("self" : Str), par] []) (hg : Gl X x) (hm : X.mg x = some (.ref C)) (he : PE X e te)
    (hdb : (x == ("__debug__" : Str)) = false := by decide) (hs : starEach [e] X.env = (false, eval e X.env) :: starEach [] X.env := by rfl) (hpl : (backTo pos (starEach [] X.env)).any (·.1) = false := by rfl) :
    PE X (.Call (.Name x p) [e] [] pos) (tKxF C f z te) := by
  constructor
  intro pins s σ H Q I h
  obtain ⟨nm, q, N, bs, bm, sn, sub, ab, col, dd, k0, k1, k2, k3, k5, hC, htail⟩ := T.cls
  obtain ⟨MM, iM, bmM, FM, up0⟩ := MK.ex
  have args : PA X [e] (tCons te tNil) := pa_cons he pa_nil hs
  refine wpAny_Call_Name_kw (ld_glob I hg hm ?_ hdb)
  refine PySem.W.callWith_K (h₀ := X.base) I.ok.mod.kin T.kC (thn (args.run pos pins s σ H (fun vs H1 => ∃ y, vs = [y] ∧ ∀ a H2, H1 a = none → All H1 H2 → KxF H2 a C z [(f, y)] → Q (.ref a) H2) I h) ?_) hs hpl
  rintro us s1 ⟨vs, H1, I1, rel, y, rfl, q1⟩
  refine ⟨I1.kIn, ?_⟩
  show wpAny _ _ (call (.ref C) us) _ _ _
  obtain ⟨u, rfl, ru⟩ := vals1 rel
  obtain ⟨hp, g, dr, tk, os⟩ := s1
  have up : ∀ b o, hp.get? b = some o → ((hp.push (PySem.W.kdv_tup [u])).push (PySem.HandSPX.excO C hp.objs.size)).get? b = some o := fun b o e =>
    Heap.get?_push_of_some _ (Heap.get?_push_of_some _ e)
  have fresh : H1 (hp.objs.size + 1) = none := I1.hok.fresh (Nat.le_succ _)
  have there : ((hp.push (PySem.W.kdv_tup [u])).push (PySem.HandSPX.excO C hp.objs.size)).get? (hp.objs.size + 1) = some (PySem.HandSPX.excO C hp.objs.size) := by heap_get
  have I2 : Inv X pins σ (upd H1 (hp.objs.size + 1) (exo (hp.objs.size + 1) C none)) ⟨(hp.push (PySem.W.kdv_tup [u])).push (PySem.HandSPX.excO C hp.objs.size), g, dr, tk, os⟩ :=
    I1.laid (t' := tk) up (Nat.le_succ _) (exo_ok there)
  have want : xKeep C f z [V.ref (hp.objs.size + 1), y] (upd H1 (hp.objs.size + 1) (exo (hp.objs.size + 1) C none)) (fun v H3 => v = .non ∧ Q (.ref (hp.objs.size + 1)) H3) E0 := by
    refine ⟨_, y, rfl, upd_same, fun dx t1 hd hda ht hta htd => ⟨rfl, q1 _ _ fresh ?_ ?_⟩⟩
    · intro b o hbo
      have nb := ne_of_none hbo fresh
      rw [upd_ne hda] at hd
      rw [upd_ne hta] at ht
      rw [upd_ne nb, upd_ne (ne_of_none hbo hd), upd_ne (ne_of_none hbo ht), upd_ne nb]
      exact hbo
    · refine ⟨t1, dx, upd_same, ?_, ?_⟩
      · rw [upd_ne hda, upd_same]
      · rw [upd_ne hta, upd_ne htd, upd_same]
  refine wpAny_call (up_call FM (up_tail htail up0) (I1.kIn _ _ hC) (by rw [sizeLine_eq]; simp) (PySem.W.looks_findIn I1.kIn iC) (fun self => PySem.W.bind_fn I1.kIn self tI) ?_)
  have r2 : Vals [V.ref (hp.objs.size + 1), y] [Value.ref (hp.objs.size + 1), u] := .cons rfl (.cons ru .nil)
  refine codeAny_mono (F1.run _ X.stack _ _ ⟨[Value.ref (hp.objs.size + 1), u], []⟩ [Value.ref (hp.objs.size + 1), u] _ _ E0 (room.make C [u] []) (I2.env0.make C [u] []) ?_ r2 want) ?_
  · have b := hb _ [Value.ref (hp.objs.size + 1), u] I2.kIn (by simp)
    exact b
  intro r s' hq
  cases r with
  | error er => exact False.elim hq
  | ok fl =>
    cases fl with
    | ret v =>
      obtain ⟨v2, H2, J, rv, ev, q2⟩ := I2.after hq
      subst ev
      exact ⟨rv, V.ref (hp.objs.size + 1), H2, J, rfl, q2⟩
    | next => exact False.elim hq
    | brk => exact False.elim hq
    | cont => exact False.elim hq
/-- C(par=v) as a value -/
theorem pe_kxK (MK : Maker newId bmB) (T : XC X.K C B newId i bmB) (iC : findIn X.K (.ref C) "__init__" = some (some (.ref fI))) (tI : typeIn X.K (.ref fI) = some (.type "function"))
    (F1 : FnOk X.prog X.w X.K X.mg X.base CX0 k fI fd [("self" : Str), par] (xKeep C f z)) (room : Room (k + 1) X.A) (hb : ∀ (s : Shared) (a v : Value), X.K.In s.heap → BindsTo s fd ⟨[a], [(par, v)]⟩ [(("self" : Str), a), (par, v)]) (hg : Gl X x) (hm : X.mg x = some (.ref C)) (he : PE X e te)
    (hdb : (x == ("__debug__" : Str)) = false := by decide) (named : (backToKw pos (keywordEach [⟨some par, e, kpos⟩] X.env)).all (·.1.isSome) = true := by rfl) (hks : (backToKw pos (keywordEach [⟨some par, e, kpos⟩] X.env)).filterMap (·.1) = [par] := by rfl)
    (hpl : ((backTo pos (starEach [] X.env)).any (·.1) || (backToKw pos (keywordEach [⟨some par, e, kpos⟩] X.env)).any (·.1.isNone)) = false := by rfl) :
    PE X (.Call (.Name x p) [] [⟨some par, e, kpos⟩] pos) (tKxF C f z te) := by
  constructor
  intro pins s σ H Q I h
  obtain ⟨nm, q, N, bs, bm, sn, sub, ab, col, dd, k0, k1, k2, k3, k5, hC, htail⟩ := T.cls
  obtain ⟨MM, iM, bmM, FM, up0⟩ := MK.ex
  have args : PK X [⟨some par, e, kpos⟩] (tCons te tNil) := pk_cons he pk_nil
  refine wpAny_Call_Name_kw (ld_glob I hg hm ?_ hdb)
  refine PySem.W.callWith_KW0 (h₀ := X.base) I.ok.mod.kin T.kC named (thn (args.run pos pins s σ H (fun vs H1 => ∃ y, vs = [y] ∧ ∀ a H2, H1 a = none → All H1 H2 → KxF H2 a C z [(f, y)] → Q (.ref a) H2) I h) ?_) hpl
  rintro us s1 ⟨vs, H1, I1, rel, y, rfl, q1⟩
  refine ⟨I1.kIn, ?_⟩
  rw [hks]
  show wpAny _ _ (call (.ref C) [] ([par].zip us)) _ _ _
  obtain ⟨u, rfl, ru⟩ := vals1 rel
  obtain ⟨hp, g, dr, tk, os⟩ := s1
  have up : ∀ b o, hp.get? b = some o → ((hp.push (PySem.W.kdv_tup [])).push (PySem.HandSPX.excO C hp.objs.size)).get? b = some o := fun b o e =>
    Heap.get?_push_of_some _ (Heap.get?_push_of_some _ e)
  have fresh : H1 (hp.objs.size + 1) = none := I1.hok.fresh (Nat.le_succ _)
  have there : ((hp.push (PySem.W.kdv_tup [])).push (PySem.HandSPX.excO C hp.objs.size)).get? (hp.objs.size + 1) = some (PySem.HandSPX.excO C hp.objs.size) := by heap_get
  have I2 : Inv X pins σ (upd H1 (hp.objs.size + 1) (exo (hp.objs.size + 1) C none)) ⟨(hp.push (PySem.W.kdv_tup [])).push (PySem.HandSPX.excO C hp.objs.size), g, dr, tk, os⟩ :=
    I1.laid (t' := tk) up (Nat.le_succ _) (exo_ok there)
  have want : xKeep C f z [V.ref (hp.objs.size + 1), y] (upd H1 (hp.objs.size + 1) (exo (hp.objs.size + 1) C none)) (fun v H3 => v = .non ∧ Q (.ref (hp.objs.size + 1)) H3) E0 := by
    refine ⟨_, y, rfl, upd_same, fun dx t1 hd hda ht hta htd => ⟨rfl, q1 _ _ fresh ?_ ?_⟩⟩
    · intro b o hbo
      have nb := ne_of_none hbo fresh
      rw [upd_ne hda] at hd
      rw [upd_ne hta] at ht
      rw [upd_ne nb, upd_ne (ne_of_none hbo hd), upd_ne (ne_of_none hbo ht), upd_ne nb]
      exact hbo
    · refine ⟨t1, dx, upd_same, ?_, ?_⟩
      · rw [upd_ne hda, upd_same]
      · rw [upd_ne hta, upd_ne htd, upd_same]
  refine wpAny_call (up_call FM (up_tail htail up0) (I1.kIn _ _ hC) (by rw [sizeLine_eq]; simp) (PySem.W.looks_findIn I1.kIn iC) (fun self => PySem.W.bind_fn I1.kIn self tI) ?_)
  have r2 : Vals [V.ref (hp.objs.size + 1), y] [Value.ref (hp.objs.size + 1), u] := .cons rfl (.cons ru .nil)
  refine codeAny_mono (F1.run _ X.stack _ _ ⟨[Value.ref (hp.objs.size + 1)], [(par, u)]⟩ [Value.ref (hp.objs.size + 1), u] _ _ E0 (room.make C [] [(par, u)]) (I2.env0.make C [] [(par, u)]) ?_ r2 want) ?_
  · exact hb _ _ _ I2.kIn
  intro r s' hq
  cases r with
  | error er => exact False.elim hq
  | ok fl =>
    cases fl with
    | ret v =>
      obtain ⟨v2, H2, J, rv, ev, q2⟩ := I2.after hq
      subst ev
      exact ⟨rv, V.ref (hp.objs.size + 1), H2, J, rfl, q2⟩
    | next => exact False.elim hq
    | brk => exact False.elim hq
    | cont => exact False.elim hq
end
/-! ### e.f of such a value -/
theorem KxF.inst {X : Cx} {pins : List (Addr × Obj)} {σ : L2.St} {H : Hp} {s : Shared} {a C : Addr} {z : Str} {fs : List (Str × V)} (I : Inv X pins σ H s) (e : KxF H a C z fs) :
    ∃ (oe od : Obj) (dx : Addr) (mA : Str → Option Value), InstAt s.heap a oe C (some od) ∧ s.heap.Ns1 dx mA ∧ (∀ f, RelO (fs.lookup f) (mA f)) ∧ s.heap.get? dx = some od := by
  obtain ⟨t1, dx, ea, ed, _⟩ := e
  have ho : s.heap.get? a = some (keptObj C t1 dx) := (I.hok a _ ea).1
  obtain ⟨mA, hns, rel⟩ := exd_at I.hok ed
  obtain ⟨od, hod, hl⟩ := lookIn_ns hns
  exact ⟨_, od, dx, mA, ⟨ho, rfl, rfl, hod⟩, hns, rel, hod⟩
def tKg (K : PySem.W.Frag) (f : Str) (te : TE) : TE := fun σ H Q => te σ H fun x H1 => ∃ (a C : Addr) (z : Str) (fs : List (Str × V)) (v : V), x = .ref a ∧ KxF H1 a C z fs ∧ XfC K C ∧ findIn K (.ref C) f = some none ∧ fs.lookup f = some v ∧ Q v H1
theorem pe_kg {X : Cx} {K : PySem.W.Frag} {e : Expr} {te : TE} {pos : Pos} {n : Str} (he : PE X e te) (hb : attributeBase e n X.env (eval e X.env) = eval e X.env := by rfl) (hK : X.K = K := by rfl) : PE X (.Attribute e n pos) (tKg K n te) := by
  subst hK
  refine ⟨fun pins s σ H Q I h => ?_⟩
  refine attr_of hb (thn (he.run pins s σ H _ I h) fun u s1 hh => ?_)
  obtain ⟨x, H1, I1, rx, a, C, z, fs, v, rfl, k, T, hno, l, q⟩ := hh
  obtain rfl : u = Value.ref a := rx
  obtain ⟨oe, od, dx, mA, J, hns, rel, hod⟩ := k.inst I1
  obtain ⟨od', ho', hl⟩ := lookIn_ns hns
  obtain rfl : od' = od := Option.some.inj (ho'.symm.trans hod)
  obtain ⟨w, hw, rw'⟩ := RelO.some_of (v := v) (o := mA n) (by rw [← l]; exact rel n)
  exact HandSPX.exc_get I1.kIn J T.ga T.gg T.exC (findObj_own T.hdC hno rfl (by rw [hl, hw])) (handed_of rw') ⟨v, H1, I1.tok _, rw', q⟩
/-! ### C(v) of a class without an __init__ of its own, as a value -/
/-- what the written part says of such a class -/
structure Plain (K : PySem.W.Frag) (C : Addr) (B newId i : String) (bmB : List Value) : Prop where
  cls : ∃ nm q N bs bm sn sub ab col dd k0 k1 k2 k3 k5, K.lookup C = some (excClassObj nm q C N bs bm true sn sub ab col dd k0 k1 k2 k3 k5 newId) ∧ excTail bmB bm = true
  kC : keepIn K (.ref C) = true
  ini : findIn K (.ref C) "__init__" = some (some (.builtin i))
def tPl (C : Addr) (te : TE) : TE := fun σ H Q => te σ H fun y H1 => tNil σ H1 fun ys H2 => ∃ y2, y :: ys = [y2] ∧ ∀ a, H2 a = none → Q (.ref a) (upd H2 a (exo a C none))
theorem g_pl {C : Addr} {y : V} {σ : L2.St} {H : Hp} {Q : VK} (q : ∀ a, H a = none → Q (.ref a) (upd H a (exo a C none))) : tPl C (tC y) σ H Q := ⟨_, rfl, q⟩
theorem pe_plain {X : Cx} {x : Str} {C : Addr} {e : Expr} {te : TE} {p pos : Pos} {B newId i : String} {bmB : List Value} (MK : Maker newId bmB) (F : IniFacts B i) (hB : bmB.contains (.type B) = true) (sp : splitId i = some (B, "__init__")) (T : Plain X.K C B newId i bmB)
    (hg : Gl X x) (hm : X.mg x = some (.ref C)) (he : PE X e te)
    (hdb : (x == ("__debug__" : Str)) = false := by decide) (hs : starEach [e] X.env = (false, eval e X.env) :: starEach [] X.env := by rfl) (hpl : (backTo pos (starEach [] X.env)).any (·.1) = false := by rfl) :
    PE X (.Call (.Name x p) [e] [] pos) (tPl C te) := by
  constructor
  intro pins s σ H Q I h
  obtain ⟨nm, q, N, bs, bm, sn, sub, ab, col, dd, k0, k1, k2, k3, k5, hC, htail⟩ := T.cls
  obtain ⟨MM, iM, bmM, FM, up0⟩ := MK.ex
  have args : PA X [e] (tCons te tNil) := pa_cons he pa_nil hs
  refine wpAny_Call_Name_kw (ld_glob I hg hm ?_ hdb)
  refine PySem.W.callWith_K (h₀ := X.base) I.ok.mod.kin T.kC (thn (args.run pos pins s σ H (fun vs H1 => ∃ y, vs = [y] ∧ ∀ a, H1 a = none → Q (.ref a) (upd H1 a (exo a C none))) I h) ?_) hs hpl
  rintro us s1 ⟨vs, H1, I1, rel, y, rfl, q1⟩
  refine ⟨I1.kIn, ?_⟩
  show wpAny _ _ (call (.ref C) us) _ _ _
  obtain ⟨u, rfl, ru⟩ := vals1 rel
  obtain ⟨hp, g, dr, tk, os⟩ := s1
  have one : [u].length ≤ sizeLine := by rw [sizeLine_eq]; simp
  have up : ∀ b o, hp.get? b = some o → ((hp.push (PySem.W.kdv_tup [u])).push (PySem.HandSPX.excO C hp.objs.size)).get? b = some o := fun b o e =>
    Heap.get?_push_of_some _ (Heap.get?_push_of_some _ e)
  have there : ((hp.push (PySem.W.kdv_tup [u])).push (PySem.HandSPX.excO C hp.objs.size)).get? (hp.objs.size + 1) = some (PySem.HandSPX.excO C hp.objs.size) := by heap_get
  have lk := I1.kIn _ _ hC
  have inB : bm.contains (.type B) = true := (tail_contains htail B).trans hB
  refine wpAny_call (up_call (fv := .builtin i) FM (up_tail htail up0) lk one (PySem.W.looks_findIn I1.kIn T.ini) (fun self => Looks.of_pure (F.slot.bind self)) ?_)
  refine up_init F inB sp (up _ _ lk) there one fun h2 t1 k2 e2 _ _ => ?_
  have fresh : H1 (hp.objs.size + 1) = none := I1.hok.fresh (Nat.le_succ _)
  have keep : ∀ b o, hp.get? b = some o → h2.get? b = some o := fun b o e => k2 b o (Nat.ne_of_lt (Nat.lt_succ_of_lt (Heap.lt_size e))) (up b o e)
  exact ⟨rfl, .ref (hp.objs.size + 1), _, I1.laid (t' := tk) keep (Nat.le_succ _) (exo_ok e2), rfl, q1 _ fresh⟩
def rIsiO (K : PySem.W.Frag) : List V → Hp → VK → Prop := fun xs H Q => ∃ (a C : Addr) (c : V) (u : Value) (b : Bool), xs = [.ref a, c] ∧ ClsV c u ∧ H a = some (exo a C none) ∧ XA K C ∧ kitOne K (.ref C) u = some b ∧ Q (.bl b) H
theorem call_isiO {X : Cx} : CallR X (.builtin "isinstance") (rIsiO X.K) := by
  intro pins s σ H xs us Q I r h
  obtain ⟨a, C, c, u, b, rfl, k, ea, T, e, q⟩ := h
  obtain ⟨u1, u2, rfl, r1, r2⟩ := vals2 r
  have e2 := k.eq r2
  subst e2
  cases (show u1 = Value.ref a from r1)
  obtain ⟨t1, ho⟩ := exo_at I.hok ea
  exact kia_one (kitx_exc T.cl T.f.ga T.f.gg T.f.exC T.ha T.hn T.tk T.hm) I.kIn (⟨ho, rfl, rfl, trivial⟩ : InstAt s.heap a _ C none) e (fun z => nomatch z) fun tk => ⟨.bl b, H, I.tok tk, rfl, q⟩
/-- isinstance of data, of an exception with fields, of one without -/
theorem call_isi3 {X : Cx} {K : PySem.W.Frag} (hK : X.K = K := by rfl) : CallR X (.builtin "isinstance") (rEith (rEith (rIsi K) (rIsiX K)) (rIsiO K)) := by
  subst hK
  exact call_eith (call_eith call_isi call_isiX) call_isiO
end JgX
namespace JgH
open PySem PySem.W PySem.Spec PyProof.Rows HotX L2 L2H JgX
/-! ### raising, the context kept in mind -/
section
variable {P : Program} {w : World} {K : PySem.W.Frag} {mg : Str → Option Value} {base : Heap}
theorem okN {x qual : Str} {st : Stmt} {f : Addr} {fd : FuncData} {N ps : List Str} {k : Nat} {sp : Sp} (F : Fun K x qual st f fd) (S : FnScope N ps (defScope st)) (len : ∀ vs H Q E, sp vs H Q E → vs.length = ps.length)
    (body : ∀ (cdv : Value) (A : Around) (outer : List Env) (s : Shared) (H : Hp) (vs : List V) (Q : VK) (E : XK), Room k (A.deeper (envOfC qual (defScope st) s.heap.objs.size f cdv)) → sp vs H Q E →
      ∃ t, PSs (cxOf (L2N.CX P w) P w K mg base N qual (defScope st) f cdv A outer s H E) (defBody st) t ∧ t { nx := fun _ H' => Q .non H', rt := Q } (L2.start N vs) H) : FnOk P w K mg base (L2N.CX P w) (k + 1) f fd ps sp := by
  obtain ⟨oc, od, kV, doc, pm, an, cdv, ct, osl, rfl, lk, hcd⟩ := F.ex
  exact fn_of lk hcd S len fun A outer s H vs Q E hr want => body cdv A outer s H vs Q E hr want
end
theorem passN {X : Cx} : Passes (L2N.CX X.prog X.w) X E0 := fun _ _ _ _ _ _ _ h => by
  obtain ⟨_, _, _, _, _, _, _, _, _, _, _, _, z⟩ := h
  exact z.elim
section
variable {X : Cx} {x : Str} {C fI : Addr} {k : Nat} {fd : FuncData} {ps : List Str} {sp : Sp} {e : Expr} {es : List Expr} {ta : TA} {p pos : Pos} {B newId i : String} {bmB : List Value}
theorem mk_xN (MK : Maker newId bmB) (T : XC X.K C B newId i bmB) (iC : findIn X.K (.ref C) "__init__" = some (some (.ref fI))) (tI : typeIn X.K (.ref fI) = some (.type "function"))
    (F1 : FnOk X.prog X.w X.K X.mg X.base CX0 k fI fd ps sp) (room : Room (k + 1) X.A) (hb : Binds X.K fd ps []) (hg : Gl X x) (hm : X.mg x = some (.ref C)) (ha : PA X (e :: es) ta)
    (hdb : (x == ("__debug__" : Str)) = false := by decide) (hs : starEach (e :: es) X.env = (false, eval e X.env) :: starEach es X.env := by rfl) (hpl : (backTo pos (starEach es X.env)).any (·.1) = false := by rfl) :
    L2N.PMk X (.Call (.Name x p) (e :: es) [] pos) (tMkO C sp [] ta) := by
  intro pins s σ H Q I h
  obtain ⟨nm, q, N, bs, bm, sn, sub, ab, col, dd, k0, k1, k2, k3, k5, hC, htail⟩ := T.cls
  refine wpAny_Call_Name_kw (ld_glob I hg hm ?_ hdb)
  refine PySem.W.callWith_K (h₀ := X.base) I.ok.mod.kin T.kC (thn (ha.run pos pins s σ H _ I h) ?_) hs hpl
  rintro us s1 ⟨vs, H1, I1, rel, hz, q1⟩
  refine ⟨I1.kIn, ?_⟩
  show wpAny _ _ (call (.ref C) us) _ _ _
  obtain ⟨hp, g, dr, tk, os⟩ := s1
  have up : ∀ b o, hp.get? b = some o → ((hp.push (PySem.W.kdv_tup us)).push (PySem.HandSPX.excO C hp.objs.size)).get? b = some o := fun b o e =>
    Heap.get?_push_of_some _ (Heap.get?_push_of_some _ e)
  have fresh : H1 (hp.objs.size + 1) = none := I1.hok.fresh (Nat.le_succ _)
  have there : ((hp.push (PySem.W.kdv_tup us)).push (PySem.HandSPX.excO C hp.objs.size)).get? (hp.objs.size + 1) = some (PySem.HandSPX.excO C hp.objs.size) := by heap_get
  have I2 : L2.Inv X pins σ (upd H1 (hp.objs.size + 1) (exo (hp.objs.size + 1) C none)) ⟨(hp.push (PySem.W.kdv_tup us)).push (PySem.HandSPX.excO C hp.objs.size), g, dr, tk, os⟩ :=
    I1.laid (t' := tk) up (Nat.le_succ _) (exo_ok there)
  have want := q1 (hp.objs.size + 1) fresh
  rw [List.append_nil] at want
  have r2 : Vals (V.ref (hp.objs.size + 1) :: vs) (Value.ref (hp.objs.size + 1) :: us) := .cons rfl rel
  have len : (Value.ref (hp.objs.size + 1) :: us ++ []).length = ps.length := by
    rw [List.append_nil, ← r2.length]
    exact F1.len _ _ _ _ want
  have few : us.length ≤ sizeLine := by
    rw [← Paired.length rel, sizeLine_eq]
    omega
  have b2 := hb _ (Value.ref (hp.objs.size + 1) :: us) I2.kIn len
  rw [List.append_nil] at b2
  obtain ⟨MM, iM, bmM, FM, up0⟩ := MK.ex
  refine wpAny_call (up_call FM (up_tail htail up0) (I1.kIn _ _ hC) few (PySem.W.looks_findIn I1.kIn iC) (fun self => PySem.W.bind_fn I1.kIn self tI) ?_)
  refine codeAny_mono (F1.run _ X.stack _ _ ⟨Value.ref (hp.objs.size + 1) :: us, []⟩ _ _ _ (fun _ _ _ => False) (room.make C us []) (I2.env0.make C us []) b2 r2 want) ?_
  intro r s' hq
  cases r with
  | error er => exact False.elim hq
  | ok fl =>
    cases fl with
    | ret u =>
      obtain ⟨v, H2, os2, bare2, un2, hok2, rv, ev, d, fs, ea, ed, hd1, q2⟩ := hq
      subst ev
      obtain ⟨h2, g2, d2, t2, os'⟩ := s'
      obtain ⟨t0, G, J, kG, ge, hoe, na⟩ := mk_end0 (d2 := d2) (t2 := t2) I1 (Nat.le_succ _) up un2 hok2 os2 bare2 ea ed hd1
      exact ⟨rv, hp.objs.size + 1, _, _, ⟨G, g2, d2, t2, os'⟩, _, .ref C, some d, rfl, J, kG, ge, hoe, ⟨rfl, rfl, fun vs hv => by (cases hv; rfl)⟩, rfl, rfl, na, rfl, bare2, raises_own T.exC T.tyC, q2⟩
    | next => exact False.elim hq
    | brk => exact False.elim hq
    | cont => exact False.elim hq
end
/-! ### the handled exception itself -/
def rIsiP (K : PySem.W.Frag) (pn : Addr × Obj) : List V → Hp → VK → Prop := fun xs H Q => ∃ (C dx : Addr) (c : V) (u : Value) (b : Bool) (fs : List (Str × V)), xs = [.ref pn.1, c] ∧ ClsV c u ∧ pn.2.cls = .ref C ∧ pn.2.dict = some dx ∧ H dx = some (.xd fs) ∧ XA K C ∧ kitOne K (.ref C) u = some b ∧ Q (.bl b) H
theorem call_isiP {X : Cx} {K : PySem.W.Frag} {pn : Addr × Obj} (hp : pn ∈ X.pn) (hd : ∃ vs, pn.2.data = .fields vs) (hK : X.K = K := by rfl) : CallR X (.builtin "isinstance") (rIsiP K pn) := by
  subst hK
  intro pins s σ H xs us Q I r h
  obtain ⟨C, dx, c, u, b, fs, rfl, k, hc, hdx, ed, T, e, q⟩ := h
  obtain ⟨u1, u2, rfl, r1, r2⟩ := vals2 r
  have e2 := k.eq r2
  subst e2
  cases (show u1 = Value.ref pn.1 from r1)
  have ho := (I.pin pn (List.mem_append_left _ hp)).1
  have hx : ObjOk X.prog X.w H s.heap dx (.xd fs) := I.hok dx _ ed
  obtain ⟨mA, hns, _⟩ := hx
  obtain ⟨od, hod, _⟩ := lookIn_ns hns
  obtain ⟨vs, hv⟩ := hd
  have J : PySem.W.InstAt s.heap pn.1 pn.2 C (some od) := ⟨ho, hc, by unfold PySem.W.notCls; rw [hv] <;> rfl, by rw [hdx]; exact hod⟩
  exact kia_one (kitx_exc T.cl T.f.ga T.f.gg T.f.exC T.ha T.hn T.tk T.hm) I.kIn J e (fun z => nomatch z) fun tk => ⟨.bl b, H, I.tok tk, rfl, q⟩
/-! ### [x for x, b in zip(xs, bs) if b] -/
def pick : List V → List Bool → List V
  | x :: xs, b :: bs => if b = true then x :: pick xs bs else pick xs bs
  | _, _ => []
theorem pick_take : ∀ (xs : List V) (bs : List Bool) (i : Nat) (x : V) (b : Bool), xs[i]? = some x → bs[i]? = some b → pick (xs.take (i + 1)) (bs.take (i + 1)) = pick (xs.take i) (bs.take i) ++ (if b = true then [x] else [])
  | [], _, i, x, b, h, _ => by simp at h
  | _ :: _, [], i, x, b, _, h => by simp at h
  | y :: xs, c :: bs, 0, x, b, h1, h2 => by
    simp at h1 h2
    subst h1
    subst h2
    cases c <;> simp [pick]
  | y :: xs, c :: bs, i + 1, x, b, h1, h2 => by
    have ih := pick_take xs bs i x b (by simpa using h1) (by simpa using h2)
    rw [List.take_succ_cons, List.take_succ_cons, List.take_succ_cons, List.take_succ_cons]
    cases c
    · simpa [pick] using ih
    · simpa [pick] using ih
theorem pick_len (xs : List V) (bs : List Bool) : (pick xs bs).length ≤ xs.length := by
  induction xs generalizing bs with
  | nil => cases bs <;> simp [pick]
  | cons x xs ih =>
    cases bs with
    | nil => simp [pick]
    | cons b bs =>
      have := ih bs
      cases b <;> simp [pick] <;> omega
theorem zip_sel {K : PySem.W.Frag} {σ : L2.St} {H1 : Hp} {Q : VK} {tt : TT} {te : TE} {a b : Addr} {xs : List V} {bs : List Bool} {iw ih : Nat}
    (hw : ∀ x y, wipe (((wipe σ [iw, ih]).set iw (some x)).set ih (some y)) [iw, ih] = wipe σ [iw, ih]) (htt : ∀ x b H B, B b H → tt (((wipe σ [iw, ih]).set iw (some x)).set ih (some (.bl b))) H B) (hte : ∀ x y H (R : VK), R x H → te (((wipe σ [iw, ih]).set iw (some x)).set ih (some y)) H R)
    (h1 : SqL K H1 a xs) (h2 : SqL K H1 b (bs.map V.bl)) (len : xs.length = bs.length) (sz : xs.length < sizeLine) (q : ∀ D H', H1 D = none → L2.Same H1 H' → H' D = some (.lst (pick xs bs)) → Q (.ref D) H') :
    zipIn K (gCons (gName iw) (gCons (gName ih) gNil)) tt te [iw, ih] σ Q [.ref a, .ref b] H1 := by
  refine ⟨a, b, xs, bs.map V.bl, rfl, h1, h2, by simpa using len, fun D hD => ⟨fun i H' => L2.Same H1 H' ∧ H' D = some (.lst (pick (xs.take i) (bs.take i))), ⟨fun c o e => Jg.upd_keep hD e, by simp [pick, upd_same]⟩, ?_, ?_, ?_⟩⟩
  · rintro i H' ⟨s, _⟩
    exact ⟨s.seq h1, s.seq h2⟩
  · rintro H' ⟨s, e⟩
    rw [List.take_length, len, List.take_length] at e
    exact q D H' hD s e
  · rintro i x y H' T ⟨s, e⟩ ex ey hT
    obtain ⟨c, ec, rfl⟩ : ∃ c, bs[i]? = some c ∧ V.bl c = y := by
      rw [List.getElem?_map] at ey
      cases hc : bs[i]? with
      | none => rw [hc] at ey; cases ey
      | some c => rw [hc] at ey; exact ⟨c, rfl, by simpa using ey⟩
    refine ⟨_, _, rfl, _, _, rfl, rfl, hw _ _, htt _ _ _ _ ?_⟩
    have eD : upd H' T (.tup [x, V.bl c]) D = some (.lst (pick (xs.take i) (bs.take i))) := Jg.upd_keep hT e
    have sT : L2.Same H1 (upd H' T (.tup [x, V.bl c])) := fun k o z => Jg.upd_keep hT (s k o z)
    cases c with
    | false =>
      refine ⟨sT, ?_⟩
      rw [eD, pick_take xs bs i x false ex ec]
      simp
    | true =>
      refine hte _ _ _ _ ⟨_, eD, ?_, fun k o z => ?_, ?_⟩
      · exact Nat.lt_of_le_of_lt (Nat.le_trans (pick_len _ _) (List.length_take_le _ _)) (Nat.lt_of_le_of_lt (by exact Nat.le_of_lt (List.getElem?_eq_some_iff.mp ex).1) sz)
      · rw [upd_ne (ne_of_none z hD)]
        exact sT k o z
      · rw [upd_same, pick_take xs bs i x true ex ec]
        rfl
/-! ### e.f of the handled exception, of whatever class of the program -/
def tXfA (K : PySem.W.Frag) (a : Addr) (cls : Value) (dd : Option Addr) (f : Str) (te : TE) : TE := fun σ H Q => te σ H fun x H1 => ∃ (C dx : Addr) (fs : List (Str × V)) (v : V), x = .ref a ∧ cls = .ref C ∧ dd = some dx ∧ H1 dx = some (.xd fs) ∧ XfC K C ∧ findIn K (.ref C) f = some none ∧ fs.lookup f = some v ∧ Q v H1
theorem pe_xfA {X : Cx} {K : PySem.W.Frag} {a : Addr} {oe : Obj} {cls : Value} {dd : Option Addr} {e : Expr} {te : TE} {pos : Pos} {n : Str} (hp : (a, oe) ∈ X.pn) (h1 : oe.cls = cls) (h2 : oe.dict = dd) (hd : ∃ vs, oe.data = .fields vs) (he : PE X e te)
    (hb : attributeBase e n X.env (eval e X.env) = eval e X.env := by rfl) (hK : X.K = K := by rfl) : PE X (.Attribute e n pos) (tXfA K a cls dd n te) := by
  subst hK
  refine ⟨fun pins s σ H Q I h => ?_⟩
  refine attr_of hb (thn (he.run pins s σ H _ I h) fun u s1 hh => ?_)
  obtain ⟨x, H1, I1, rx, C, dx, fs, v, rfl, rfl, rfl, ed, T, hno, l, q⟩ := hh
  obtain rfl : u = Value.ref a := rx
  have ho := (I1.pin (a, oe) (List.mem_append_left _ hp)).1
  have hx : ObjOk X.prog X.w H1 s1.heap dx (.xd fs) := I1.hok dx _ ed
  obtain ⟨mA, hns, rel⟩ := hx
  obtain ⟨od, hod, hl⟩ := lookIn_ns hns
  obtain ⟨vs, hv⟩ := hd
  have J : PySem.W.InstAt s1.heap a oe C (some od) := ⟨ho, h1, by unfold PySem.W.notCls; rw [hv] <;> rfl, by rw [h2]; exact hod⟩
  obtain ⟨w, hw, rw2⟩ := RelO.some_of (v := v) (o := mA n) (by rw [← l]; exact rel n)
  exact HandSPX.exc_get I1.kIn J T.ga T.gg T.exC (findObj_own T.hdC hno rfl (by rw [hl, hw])) (handed_of rw2) ⟨v, H1, I1.tok _, rw2, q⟩
theorem hot_suite {X : Cx} {a : Addr} {oe : Obj} {cls : Value} {dd : Option Addr} {pn : List (Addr × Obj)} (hz : L2N.Zn cls dd oe) (hf : ∃ vs, oe.data = .fields vs) : Hot1 (X.suite a ((a, oe) :: pn)).A (a, oe) := by
  obtain ⟨vs, hv⟩ := hf
  exact ⟨rfl, vs, hv, hz.2.2 vs hv⟩
theorem room_suite {k j : Nat} {A : Around} (r : Room k A) (h : Option Value) (l : j ≤ k) : RoomH j (A.mark h) := RoomH.mono (j := j) (k := k) ⟨r.dp, r.un⟩ l
theorem op_eqDK {X : Cx} {K : PySem.W.Frag} (hu : X.A.units + 64 < cLine) (hK : X.K = K := by rfl) : OpR X (compareOp .Eq) (rEqD K) := by
  subst hK
  exact op_eqD hu
theorem g_callS {sp : Sp} {E : L2.St → XK} {t : TA} {σ : L2.St} {H : Hp} {Q : VK} (q : t σ H fun vs H1 => sp vs H1 Q (E σ)) : tCallS sp E t σ H Q := q
theorem g_xfA {K : PySem.W.Frag} {a : Addr} {cls : Value} {dd : Option Addr} {n : Str} {te : TE} {σ : L2.St} {H : Hp} {Q : VK} (q : te σ H fun x H1 => ∃ (C dx : Addr) (fs : List (Str × V)) (v : V), x = .ref a ∧ cls = .ref C ∧ dd = some dx ∧ H1 dx = some (.xd fs) ∧ XfC K C ∧ findIn K (.ref C) n = some none ∧ fs.lookup n = some v ∧ Q v H1) : tXfA K a cls dd n te σ H Q := q
theorem exm_two {K : PySem.W.Frag} {t c1 c2 : Addr} {d1 d2 : ClassData} {b1 b2 : Bool} (e1 : subIn K (.ref c1) (.type "BaseException") = some true) (k1 : clsIn K c1 = some d1) (y1 : typeIn K (.ref c1) = some (.type "type")) (s1 : subIn K (.ref t) (.ref c1) = some b1)
    (e2 : subIn K (.ref c2) (.type "BaseException") = some true) (k2 : clsIn K c2 = some d2) (y2 : typeIn K (.ref c2) = some (.type "type")) (s2 : subIn K (.ref t) (.ref c2) = some b2) : exmAny K (.ref t) [.ref c1, .ref c2] = some (b1 || b2) := by
  have one : ∀ {c : Addr} {d : ClassData} {b : Bool}, subIn K (.ref c) (.type "BaseException") = some true → clsIn K c = some d → typeIn K (.ref c) = some (.type "type") → subIn K (.ref t) (.ref c) = some b → exmOne K (.ref t) (.ref c) = some b := fun {c d b} e k y s => by
    unfold exmOne kitCls
    simp only [e, k, y, s]
    rfl
  unfold exmAny exmAny exmAny
  rw [one e1 k1 y1 s1, one e2 k2 y2 s2]
  simp
/-- C(v) in a raise, C without an __init__ of its own -/
theorem mk_plain {X : Cx} {x : Str} {C : Addr} {e : Expr} {te : TE} {p pos : Pos} {B newId i : String} {bmB : List Value} (MK : Maker newId bmB) (F : IniFacts B i) (hB : bmB.contains (.type B) = true) (sp : splitId i = some (B, "__init__")) (T : Plain X.K C B newId i bmB) (ra : L2.Raises X (.ref C))
    (hg : Gl X x) (hm : X.mg x = some (.ref C)) (he : PE X e te)
    (hdb : (x == ("__debug__" : Str)) = false := by decide) (hs : starEach [e] X.env = (false, eval e X.env) :: starEach [] X.env := by rfl) (hpl : (backTo pos (starEach [] X.env)).any (·.1) = false := by rfl) :
    L2N.PMk X (.Call (.Name x p) [e] [] pos) (fun σ H Q => te σ H fun y H1 => tNil σ H1 fun ys H2 => ∃ y2, y :: ys = [y2] ∧ Q (.ref C) none H2) := by
  intro pins s σ H Q I h
  obtain ⟨nm, q, N, bs, bm, sn, sub, ab, col, dd, k0, k1, k2, k3, k5, hC, htail⟩ := T.cls
  obtain ⟨MM, iM, bmM, FM, up0⟩ := MK.ex
  have args : PA X [e] (tCons te tNil) := pa_cons he pa_nil hs
  refine wpAny_Call_Name_kw (ld_glob I hg hm ?_ hdb)
  refine PySem.W.callWith_K (h₀ := X.base) I.ok.mod.kin T.kC (thn (args.run pos pins s σ H (fun vs H1 => ∃ y, vs = [y] ∧ Q (.ref C) none H1) I h) ?_) hs hpl
  rintro us s1 ⟨vs, H1, I1, rel, y, rfl, q1⟩
  refine ⟨I1.kIn, ?_⟩
  show wpAny _ _ (call (.ref C) us) _ _ _
  obtain ⟨u, rfl, ru⟩ := vals1 rel
  obtain ⟨hp, g, dr, tk, os⟩ := s1
  have one : [u].length ≤ sizeLine := by rw [sizeLine_eq]; simp
  have up : ∀ b o, hp.get? b = some o → ((hp.push (PySem.W.kdv_tup [u])).push (PySem.HandSPX.excO C hp.objs.size)).get? b = some o := fun b o e =>
    Heap.get?_push_of_some _ (Heap.get?_push_of_some _ e)
  have there : ((hp.push (PySem.W.kdv_tup [u])).push (PySem.HandSPX.excO C hp.objs.size)).get? (hp.objs.size + 1) = some (PySem.HandSPX.excO C hp.objs.size) := by heap_get
  have lk := I1.kIn _ _ hC
  have inB : bm.contains (.type B) = true := (tail_contains htail B).trans hB
  refine wpAny_call (up_call (fv := .builtin i) FM (up_tail htail up0) lk one (PySem.W.looks_findIn I1.kIn T.ini) (fun self => Looks.of_pure (F.slot.bind self)) ?_)
  refine up_init F inB sp (up _ _ lk) there one fun h2 t1 k2 e2 _ _ => ?_
  have fresh : H1 (hp.objs.size + 1) = none := I1.hok.fresh (Nat.le_succ _)
  have keep : ∀ b o, hp.get? b = some o → h2.get? b = some o := fun b o e => k2 b o (Nat.ne_of_lt (Nat.lt_succ_of_lt (Heap.lt_size e))) (up b o e)
  have gone : hp.get? (hp.objs.size + 1) = none := by
    cases e9 : hp.get? (hp.objs.size + 1) with
    | none => rfl
    | some o => exact (Nat.lt_irrefl _ (Nat.lt_of_succ_lt (Heap.lt_size e9))).elim
  exact ⟨rfl, hp.objs.size + 1, _, _, ⟨hp, g, dr, tk, os⟩, H1, .ref C, none, rfl, I1, keep, gone, e2, ⟨rfl, rfl, fun vs hv => by (cases hv; rfl)⟩, rfl, rfl, fresh, rfl, I1.bare, ra, q1⟩
end JgH
namespace JgX
open PySem PySem.W PySem.Calls PyProof.Rows PySem.Spec L2
/-! ### an __init__ without a parameter: super().__init__('..') alone -/
theorem excSame {P : Program} {w : World} {H : Hp} {hp h' : Heap} {fs : List Addr} {a C : Addr} {t1 : Addr} (hok : HOk P w H hp) (e : H a = some (exo a C none)) (k : ∀ b o, b ≠ a → hp.get? b = some o → h'.get? b = some o)
    (hx : h'.get? a = some ({ cls := .ref C, dict := none, data := .fields #[.ref t1, .none, .none, .none, .bool false, .none] } : Obj)) : Un fs [] H H hp h' ∧ HOk P w H h' := by
  have na : ∀ {b : Addr}, H b = none → b ≠ a := fun {b} n z => by
    rw [z, e] at n
    cases n
  refine ⟨⟨fun b o q n _ _ => k b o (na n) q, fun b o q n _ _ => ⟨o.slots, k b o (na n) q⟩, fun b o q n _ => n, fun b o q _ => ?_, fun b xs q => q, fun b o v q => q, fun b ps q => ⟨#[], ?_⟩⟩, fun b o q => ?_⟩
  · by_cases hb : b = a
    · exact ⟨_, by rw [hb]; exact hx⟩
    · exact ⟨o, k b o hb q⟩
  · rw [q]
    simp
  by_cases hb : b = a
  · subst hb
    rw [e] at q
    cases q
    exact exo_ok hx
  refine (hok b o q).stay (fun c v hc z => k c v ?_ z) (fun c hc => hc) (fun c xs hc => hc)
  rcases hc with hc | hc
  · rw [hc]
    exact hb
  · exact at_ne e hc exo_own
def xNo (C : Addr) : Sp := fun vs H Q _ => ∃ a, vs = [.ref a] ∧ H a = some (exo a C none) ∧ Q .non H
section
variable {P : Program} {w : World} {K : Frag} {mg : Str → Option Value} {base : Heap} {CX : CXT} {k : Nat} {B newId i : String} {bmB : List Value} {C fI : Addr} {fd : FuncData} {qual text : Str} {params : Arguments} {scope : Scope}
  {p0 p1 p2 p3 p4 : Pos} {j : Nat}
theorem init_no (X : XBase B newId i bmB) (T : XC K C B newId i bmB) (S : XFn P K C fI fd qual params [.Expr (.Call (.Attribute (.Call (.Name "super" p0) [] [] p1) "__init__" p2) [.Constant (.str text) j p3] [] p4) p4] scope)
    (opq : nsIn K cStatics "thirdparty.any" = some none) (msup : mg "super" = none) (htop : (P.main.scope.names.lookup ("super" : Str)).isSome = false)
    (hks : scope.names.lookup ("super" : Str) = some .globalImplicit) (hkc : scope.names.lookup ("__class__" : Str) = some .free) (hkS : scope.names.lookup ("self" : Str) = some .local)
    (hk : scope.kind = .function) (hcell : ∀ x ∈ scope.names, x.2 ≠ .cell) (hco : scope.isCoroutine = false) (hgen : scope.isGenerator = false)
    (hpar : ∃ ar, (params.posonlyargs ++ params.args).head? = some ar ∧ ar.arg = ("self" : Str))
    (hev : ∀ en : Env, ∃ pl : Sem Bool, eval (.Call (.Attribute (.Call (.Name "super" p0) [] [] p1) "__init__" p2) [.Constant (.str text) j p3] [] p4) en = (do
      let ov ← attributeBase (.Call (.Name "super" p0) [] [] p1) "__init__" en (eval (.Call (.Name "super" p0) [] [] p1) en)
      standAt p2.atName
      let (f, first) ← holding [ov] (getMethod ov "__init__" pl)
      callWith p4 f first (backTo p4 (starEach [.Constant (.str text) j p3] en)) []))
    (hsx : ∀ en : Env, swapsWith (.Call (.Attribute (.Call (.Name "super" p0) [] [] p1) "__init__" p2) [.Constant (.str text) j p3] [] p4) none p4.line en = pure false) :
    FnOk P w K mg base CX (k + 1) fI fd [("self" : Str)] (xNo C) := by
  refine ⟨fun vs H Q E ⟨a, e, _⟩ => by rw [e]; rfl, fun A outer s H args us vs Q E room env bnd rel want => ?_⟩
  obtain ⟨a, rfl, ea, q⟩ := want
  obtain ⟨nm, cc, cda, oc, kV, doc, pm, ct, ccl, cl, od, an, cdd, cld, osl, ccs, csl, vs', file, tf, rfl, lk, hcd, lcd, hv2, hfile, lcc⟩ := S.ex
  obtain ⟨nmC, qC, NC, bsC, bmC, snC, sub, ab, col, dd, k0, k1, k2, k3, k5, hC, htail⟩ := T.cls
  obtain ⟨ar, har, harn⟩ := hpar
  cases rel with
  | @cons _ u0 _ ur ra rw' =>
  cases rw'
  obtain rfl : u0 = Value.ref a := ra
  have bk : ∀ b o, base.get? b = some o → s.heap.get? b = some o := fun b o e => (env.bs b o e).1
  have kin : K.In s.heap := env.mod.kin.keeps bk
  obtain ⟨t1, hea⟩ := exo_at env.hok ea
  have clsC : clsIn K C = some { name := nmC, bases := bsC, mro := .ref C :: bmC, ns := NC, qualname := qC, hasDict := true, slotNames := snC, subclasses := sub, abstract := ab, collection := col, hasDel := false } := by
    unfold clsIn; rw [hC] <;> rfl
  have hsub : mroIn K C (.ref C) = some true := by
    unfold mroIn
    rw [clsC, Option.bind_some, if_neg (show ¬ (List.isEmpty (Value.ref C :: bmC) = true) from Bool.false_ne_true)]
    simp
  -- the heap without the exception
  have bh : ∀ b o, base.get? b = some o → (s.heap.hide a).get? b = some o := fun b o e =>
    (Heap.hide_ne s.heap fun z => by have n := (env.bs b o e).2; rw [z, ea] at n; cases n).trans (bk b o e)
  have kinH : K.In (s.heap.hide a) := env.mod.kin.keeps bh
  refine ks_codeAny_call_defAt (fd := ksFn nm qual params _ scope .none kV doc pm an (.ref cda) ct cc) (body := [.Expr (.Call (.Attribute (.Call (.Name "super" p0) [] [] p1) "__init__" p2) [.Constant (.str text) j p3] [] p4) p4]) (binds := [(("self" : Str), Value.ref a)]) room.depth (kin _ _ lk) rfl
    (env.mod.nolimit.keeps bk) (codeRec_of kin hcd) rfl bnd hcell (fun x hx => ?_) (fun h₁ hns hk₁ => ?_) hco hgen hk
  · rcases List.mem_cons.mp hx with rfl | hx
    · exact hkS
    · cases hx
  have F1 : Fr (s.heap.hide a) s.heap.objs.size h₁ (fun y => [(("self" : Str), Value.ref a)].reverse.lookup y) :=
    ⟨hns, fun b o e => hk₁ b o (Heap.of_hide e), Nat.le_of_eq (Heap.hide_size s.heap a)⟩
  have N1 : News (s.heap.hide a) s.heap.objs.size h₁ [(a, excObj C t1 none .none)] := fun p hp => by
    rcases List.mem_cons.mp hp with rfl | hp
    · exact ⟨hk₁ _ _ hea, Nat.ne_of_lt (Heap.lt_size hea), Heap.hide_self s.heap a⟩
    · cases hp
  have mself : (fun y => [(("self" : Str), Value.ref a)].reverse.lookup y) ("self" : Str) = some (.ref a) := by
    simp [List.lookup_cons]
  have neA : ∀ {b : Addr} {o : Obj}, (s.heap.hide a).get? b = some o → b ≠ a := fun {b o} e z => by
    rw [z, Heap.hide_self] at e
    cases e
  obtain ⟨mb, hmb, hmbB⟩ := env.mod.blt
  have keep1 : ∀ b o, base.get? b = some o → h₁.get? b = some o := fun b o e => F1.keep b o (bh b o e)
  have kin1 : K.In h₁ := env.mod.kin.keeps keep1
  obtain ⟨pl, hev⟩ := hev (callEnv (ksFn nm qual params [.Expr (.Call (.Attribute (.Call (.Name "super" p0) [] [] p1) "__init__" p2) [.Constant (.str text) j p3] [] p4) p4] scope .none kV doc pm an (.ref cda) ct cc) s.heap.objs.size fI)
  refine ks_wpAt_execs_cons (ks_wpAt_Expr_any (hi := by show (scope.kind == .module && _) = false; rw [hk]; rfl) (hs := hsx _) (ks_wpAt_MethodCall (pl := pl) (he := hev) (ks_wpAt_super_base (f := fI) (cc := cda) (ar := ar) (file := file) (tf := tf) hks hkc rfl rfl (kin1 _ _ lk) rfl har rfl (kin1 _ _ lcd) rfl hv2 hfile htop ?_)))
  refine ks_loadName_global hk hks (loadGlobal_builtin (mb := mb) (env.mod.glob.keeps keep1) msup (hmb.keeps keep1) ((hmbB _ (by decide)).trans (show bootBuiltins "super" = some (.type "super") by decide +kernel)) ⟨rfl, ?_⟩)
  refine wpAny_loadName_free hk hkc rfl ⟨_, kin1 _ _ lcc, rfl⟩ ?_
  rw [harn]
  refine wpAny_loadName_local hk hkS hns mself ?_
  refine ks_wpAny_isType_cls (kin1 _ _ hC) rfl ⟨rfl, ?_⟩
  refine ks_wpAny_call_super (kin1 _ _ hC) rfl (hk₁ _ _ hea) rfl (fun c z => by cases z) (looks_mroIn kin1 hsub) (fun h2 e2 keep2 => ?_)
  obtain ⟨F2, N2, l2⟩ := ks_newsPush (s := ⟨h₁, s.gens, s.drawn, s.toks + 2, s.os⟩) F1 N1 rfl e2 keep2
  refine kxs_method X.kf F2 kinH N2 (so := h₁.objs.size) (x := a) (C := C) (D := C) (by simp) (InstAt.of_exc0 (t := t1) (c2 := .none) N2 (by simp)) opq T.sup T.subB (by decide) (fun q3 h3 F3 N3 l3 => ?_)
  refine kxs_callWith1 (i := i) (x := a) N3 (by simp) (spliced_more (wpAny_Constant_str (spliced_none ⟨kxs_at N3 (by simp), ?_⟩)))
  have in3 : K.In h3 := kinH.keeps F3.keep
  refine call_wrap X (e := a) (t0 := t1) (in3 _ _ hC) (N3 (a, excObj C t1 none .none) (by simp)).1 (N3 (q3, kxs_mw i a) (by simp)).1 (by rw [sizeLine_eq]; simp) (fun h4 keep4 he4 _ => ?_)
  obtain ⟨oL, esL, epL, hL, restL⟩ := F3.ns
  have neL : s.heap.objs.size ≠ a := fun z => (N3 (a, excObj C t1 none .none) (by simp)).2.1 z.symm
  have hL4 : h4.Ns s.heap.objs.size (fun y => [(("self" : Str), Value.ref a)].reverse.lookup y) := ⟨oL, esL, epL, keep4 _ _ neL hL, restL⟩
  have all4 : ∀ b o, b ≠ a → s.heap.get? b = some o → h4.get? b = some o := fun b o n e =>
    keep4 b o n (F3.keep b o ((Heap.hide_ne s.heap n).trans e))
  have in4 : K.In h4 := env.mod.kin.keeps fun b o e => all4 b o (neA (bh b o e)) (bk b o e)
  refine wpAt_of_wpAny (wpAny_execs_nil ?_)
  obtain ⟨un, ok⟩ := excSame (P := P) (w := w) (fs := frs outer) env.hok ea all4 he4
  exact ⟨.non, H, rfl, env.bare, un, ok, rfl, q⟩
end
section
variable {X : Cx} {x : Str} {C fI : Addr} {k : Nat} {fd : FuncData} {p pos : Pos} {B newId i : String} {bmB : List Value}
/-- C() as a value -/
theorem pe_no (MK : Maker newId bmB) (T : XC X.K C B newId i bmB) (iC : findIn X.K (.ref C) "__init__" = some (some (.ref fI))) (tI : typeIn X.K (.ref fI) = some (.type "function"))
    (F1 : FnOk X.prog X.w X.K X.mg X.base CX0 k fI fd [("self" : Str)] (xNo C)) (room : Room (k + 1) X.A) (hb : Binds X.K fd [("self" : Str)] []) (hg : Gl X x) (hm : X.mg x = some (.ref C)) (hdb : (x == ("__debug__" : Str)) = false := by decide) :
    PE X (.Call (.Name x p) [] [] pos) (fun _ H Q => ∀ a, H a = none → Q (.ref a) (upd H a (exo a C none))) := by
  constructor
  intro pins s σ H Q I q1
  obtain ⟨nm, q, N, bs, bm, sn, sub, ab, col, dd, k0, k1, k2, k3, k5, hC, htail⟩ := T.cls
  obtain ⟨MM, iM, bmM, FM, up0⟩ := MK.ex
  refine wpAny_Call_Name_kw (ld_glob I hg hm ?_ hdb)
  refine PySem.W.callWith_K0 I.kIn T.kC ?_
  show wpAny _ _ (call (.ref C) []) _ _ _
  obtain ⟨hp, g, dr, tk, os⟩ := s
  have up : ∀ b o, hp.get? b = some o → ((hp.push (PySem.W.kdv_tup [])).push (PySem.HandSPX.excO C hp.objs.size)).get? b = some o := fun b o e =>
    Heap.get?_push_of_some _ (Heap.get?_push_of_some _ e)
  have fresh : H (hp.objs.size + 1) = none := I.hok.fresh (Nat.le_succ _)
  have there : ((hp.push (PySem.W.kdv_tup [])).push (PySem.HandSPX.excO C hp.objs.size)).get? (hp.objs.size + 1) = some (PySem.HandSPX.excO C hp.objs.size) := by heap_get
  have I2 : Inv X pins σ (upd H (hp.objs.size + 1) (exo (hp.objs.size + 1) C none)) ⟨(hp.push (PySem.W.kdv_tup [])).push (PySem.HandSPX.excO C hp.objs.size), g, dr, tk, os⟩ :=
    I.laid (t' := tk) up (Nat.le_succ _) (exo_ok there)
  have want : xNo C [V.ref (hp.objs.size + 1)] (upd H (hp.objs.size + 1) (exo (hp.objs.size + 1) C none)) (fun v H3 => v = .non ∧ Q (.ref (hp.objs.size + 1)) H3) E0 := ⟨_, rfl, upd_same, rfl, q1 _ fresh⟩
  refine wpAny_call (up_call FM (up_tail htail up0) (I.kIn _ _ hC) (Nat.zero_le _) (PySem.W.looks_findIn I.kIn iC) (fun self => PySem.W.bind_fn I.kIn self tI) ?_)
  have r2 : Vals [V.ref (hp.objs.size + 1)] [Value.ref (hp.objs.size + 1)] := .cons rfl .nil
  refine codeAny_mono (F1.run _ X.stack _ _ ⟨[Value.ref (hp.objs.size + 1)], []⟩ [Value.ref (hp.objs.size + 1)] _ _ E0 (room.make C [] []) (I2.env0.make C [] []) (hb _ [Value.ref (hp.objs.size + 1)] I2.kIn (by simp)) r2 want) ?_
  intro r s' hq
  cases r with
  | error er => exact False.elim hq
  | ok fl =>
    cases fl with
    | ret v =>
      obtain ⟨v2, H2, J, rv, ev, q2⟩ := I2.after hq
      subst ev
      exact ⟨rv, V.ref (hp.objs.size + 1), H2, J, rfl, q2⟩
    | next => exact False.elim hq
    | brk => exact False.elim hq
    | cont => exact False.elim hq
end
end JgX
namespace Dl
open PySem PySem.Spec PyProof.Rows L2
/-! ### things as trees -/
inductive D where
  | non | bl (b : Bool) | int (i : Int) | str (z : Str) | ty (n : String)
  | adr (a : Addr) | num (i : Nat)
  /-- a class of the program's own, by its tag -/
  | cls (k : Nat)
  | lst (xs : List D) | tup (xs : List D)
  /-- a list or a tuple that is read alone -/
  | scr (xs : List D)
  | dic (kvs : List (Key × D)) | dit (kvs : List (List Key × D))
  | obj (k : Nat) (a : Addr) (fs : List D)
  /-- the thing of its own that the slot i holds: in passing alone -/
  | var (i : Nat)
/-- what changes and is known whole -/
inductive M where
  | lst (xs : List D) | dic (kvs : List (Key × D)) | dit (kvs : List (List Key × D)) | ins (k : Nat) (a : Addr) (fs : List (Str × D)) | box (n : Nat) | gone
/-- what a slot holds -/
inductive SV where
  | unk | val (d : D) | own (m : M)
def D.flat : D → Bool
  | .non => true
  | .bl _ => true
  | .int _ => true
  | .str _ => true
  | .ty _ => true
  | .adr _ => true
  | _ => false
def M.flat : M → Bool
  | .lst xs => xs.all D.flat
  | .box _ => true
  | .gone => true
  | _ => false
/-- the classes of instances that never change, by a tag; their fields; what is found late and kept -/
structure Sh where
  flds : Nat → List Str
  memo : Nat → Str → Option (List D → D)
  /-- which class is under which; under which built-in one -/
  sub : Nat → Nat → Bool
  subT : Nat → String → Bool
structure Objs where
  tag : Addr → Option Nat
  /-- the classes of exceptions -/
  etag : Addr → Option Nat
  sh : Sh
abbrev Objs.flds (O : Objs) := O.sh.flds
abbrev Objs.memo (O : Objs) := O.sh.memo
section
variable (O : Objs) (K : PySem.W.Frag)
mutual
/-- v is d in H, things that change standing at as -/
inductive Rep (as : List Addr) (H : Hp) : V → D → Prop
  | non : Rep as H .non .non
  | bl (b : Bool) : Rep as H (.bl b) (.bl b)
  | int (i : Int) : Rep as H (.int i) (.int i)
  | str (z : Str) : Rep as H (.str z) (.str z)
  | ty (n : String) : Rep as H (.ty n) (.ty n)
  | adr (a : Addr) : Rep as H (.ref a) (.adr a)
  | num {i : Nat} {p : Addr} : as[i]? = some p → Rep as H (.ref p) (.num i)
  | cls {k : Nat} {C : Addr} : O.tag C = some k → Rep as H (.ref C) (.cls k)
  | lst {a : Addr} {vs : List V} {ds : List D} : H a = some (.lst vs) → Reps as H vs ds → Rep as H (.ref a) (.lst ds)
  | scr {a : Addr} {vs : List V} {ds : List D} : (SqL K H a vs ∨ SqT K H a vs) → Reps as H vs ds → Rep as H (.ref a) (.scr ds)
  | tup {a : Addr} {vs : List V} {ds : List D} : H a = some (.tup vs) → Reps as H vs ds → Rep as H (.ref a) (.tup ds)
  | dic {a : Addr} {kvs : List (Key × V)} {ds : List (Key × D)} : Rd H a (.dK kvs) → kvs.map (·.1) = ds.map (·.1) → Reps as H (kvs.map (·.2)) (ds.map (·.2)) → Rep as H (.ref a) (.dic ds)
  | dit {a : Addr} {kvs : List (List Key × V)} {ds : List (List Key × D)} : Rd H a (.dT kvs) → kvs.map (·.1) = ds.map (·.1) → Reps as H (kvs.map (·.2)) (ds.map (·.2)) → Rep as H (.ref a) (.dit ds)
  | obj {k : Nat} {a C dx : Addr} {fs : List (Str × V)} {vs : List V} {ds : List D} (w : Str → V) : H a = some (.ins C dx fs) → O.tag C = some k → (O.flds k).map (fs.lookup ·) = vs.map some → Reps as H vs ds →
      (∀ f g, O.memo k f = some g → fs.lookup f = some (w f)) → (∀ f g, O.memo k f = some g → w f ≠ .non → Rep as H (w f) (g ds)) → (∀ f v, fs.lookup f = some v → f ∈ O.flds k ∨ (O.memo k f).isSome = true) → Rep as H (.ref a) (.obj k a ds)
inductive Reps (as : List Addr) (H : Hp) : List V → List D → Prop
  | nil : Reps as H [] []
  | cons {v : V} {d : D} {vs : List V} {ds : List D} : Rep as H v d → Reps as H vs ds → Reps as H (v :: vs) (d :: ds)
end
end
open Classical in
/-- what of H is seen -/
noncomputable def Res (W : Addr → Prop) (H : Hp) : Hp := fun a => if W a then H a else none
theorem res_some {W : Addr → Prop} {H : Hp} {a : Addr} {o : HO} : Res W H a = some o ↔ W a ∧ H a = some o := by
  unfold Res
  by_cases w : W a
  · rw [if_pos w]
    exact ⟨fun h => ⟨w, h⟩, fun h => h.2⟩
  · rw [if_neg w]
    exact ⟨fun h => (nomatch h), fun h => absurd h.1 w⟩
theorem res_le {W W' : Addr → Prop} {H H' : Hp} (h : ∀ a o, W a → H a = some o → W' a ∧ H' a = some o) : ∀ a o, Res W H a = some o → Res W' H' a = some o := fun a o e => res_some.mpr (h a o (res_some.mp e).1 (res_some.mp e).2)
theorem res_sub {W : Addr → Prop} {H : Hp} : ∀ a o, Res W H a = some o → H a = some o := fun a o e => (res_some.mp e).2
section
variable {O : Objs} {K : PySem.W.Frag} {as : List Addr} {H H' : Hp}
theorem rd_le {a : Addr} {u : HO} (h : ∀ a o, H a = some o → H' a = some o) (r : Rd H a u) : Rd H' a u := by
  rcases r with r | ⟨o, r⟩
  · exact Or.inl (h _ _ r)
  · exact Or.inr ⟨o, h _ _ r⟩
theorem sqL_le {a : Addr} {vs : List V} (h : ∀ a o, H a = some o → H' a = some o) (r : SqL K H a vs) : SqL K H' a vs := by
  rcases r with r | r
  · exact Or.inl (rd_le h r)
  · exact Or.inr r
theorem sqT_le {a : Addr} {vs : List V} (h : ∀ a o, H a = some o → H' a = some o) (r : SqT K H a vs) : SqT K H' a vs := by
  rcases r with r | r
  · exact Or.inl (rd_le h r)
  · exact Or.inr r
theorem sq_le {a : Addr} {vs : List V} (h : ∀ a o, H a = some o → H' a = some o) (r : SqL K H a vs ∨ SqT K H a vs) : SqL K H' a vs ∨ SqT K H' a vs := r.elim (fun r => Or.inl (sqL_le h r)) fun r => Or.inr (sqT_le h r)
mutual
/-- more is seen -/
theorem Rep.le (h : ∀ a o, H a = some o → H' a = some o) : ∀ {v : V} {d : D}, Rep O K as H v d → Rep O K as H' v d
  | _, _, .non => .non
  | _, _, .bl b => .bl b
  | _, _, .int i => .int i
  | _, _, .str z => .str z
  | _, _, .ty n => .ty n
  | _, _, .adr a => .adr a
  | _, _, .num e => .num e
  | _, _, .cls e => .cls e
  | _, _, .lst s r => .lst (h _ _ s) (Reps.le h r)
  | _, _, .scr s r => .scr (sq_le h s) (Reps.le h r)
  | _, _, .tup s r => .tup (h _ _ s) (Reps.le h r)
  | _, _, .dic s e r => .dic (rd_le h s) e (Reps.le h r)
  | _, _, .dit s e r => .dit (rd_le h s) e (Reps.le h r)
  | _, _, .obj w e t l r m1 m2 no => .obj w (h _ _ e) t l (Reps.le h r) m1 (fun f g a b => Rep.le h (m2 f g a b)) no
theorem Reps.le (h : ∀ a o, H a = some o → H' a = some o) : ∀ {vs : List V} {ds : List D}, Reps O K as H vs ds → Reps O K as H' vs ds
  | _, _, .nil => .nil
  | _, _, .cons a r => .cons (Rep.le h a) (Reps.le h r)
end
theorem Reps.length : ∀ {vs : List V} {ds : List D}, Reps O K as H vs ds → vs.length = ds.length
  | _, _, .nil => rfl
  | _, _, .cons _ r => by rw [List.length_cons, List.length_cons, Reps.length r]
theorem Reps.get : ∀ {vs : List V} {ds : List D}, Reps O K as H vs ds → ∀ (i : Nat) (v : V), vs[i]? = some v → ∃ d, ds[i]? = some d ∧ Rep O K as H v d
  | _, _, .nil, i, v, e => by simp at e
  | _, _, .cons a _, 0, v, e => by
    simp at e
    subst e
    exact ⟨_, rfl, a⟩
  | _, _, .cons _ r, i + 1, v, e => by
    obtain ⟨d, h1, h2⟩ := Reps.get r i v (by simpa using e)
    exact ⟨d, by simpa using h1, h2⟩
theorem Reps.getD : ∀ {vs : List V} {ds : List D}, Reps O K as H vs ds → ∀ (i : Nat) (d : D), ds[i]? = some d → ∃ v, vs[i]? = some v ∧ Rep O K as H v d
  | _, _, .nil, i, v, e => by simp at e
  | _, _, .cons a _, 0, v, e => by
    simp at e
    subst e
    exact ⟨_, rfl, a⟩
  | _, _, .cons _ r, i + 1, v, e => by
    obtain ⟨d, h1, h2⟩ := Reps.getD r i v (by simpa using e)
    exact ⟨d, by simpa using h1, h2⟩
theorem Reps.app : ∀ {vs ws : List V} {ds es : List D}, Reps O K as H vs ds → Reps O K as H ws es → Reps O K as H (vs ++ ws) (ds ++ es)
  | _, _, _, _, .nil, b => b
  | _, _, _, _, .cons a r, b => .cons a (Reps.app r b)
theorem Reps.cut : ∀ {vs : List V} {ds : List D} (n : Nat), Reps O K as H vs ds → Reps O K as H (vs.take n) (ds.take n) ∧ Reps O K as H (vs.drop n) (ds.drop n)
  | _, _, 0, h => ⟨.nil, h⟩
  | _, _, n + 1, .nil => ⟨.nil, .nil⟩
  | _, _, n + 1, .cons a r => ⟨.cons a (Reps.cut n r).1, (Reps.cut n r).2⟩
theorem Reps.set : ∀ {vs : List V} {ds : List D} (n : Nat) {v : V} {d : D}, Reps O K as H vs ds → Rep O K as H v d → Reps O K as H (vs.set n v) (ds.set n d)
  | _, _, _, _, _, .nil, _ => .nil
  | _, _, 0, _, _, .cons _ r, q => .cons q r
  | _, _, n + 1, _, _, .cons a r, q => .cons a (Reps.set n r q)
theorem Reps.rev : ∀ {vs : List V} {ds : List D}, Reps O K as H vs ds → Reps O K as H vs.reverse ds.reverse
  | _, _, .nil => .nil
  | _, _, .cons a r => by
    rw [List.reverse_cons, List.reverse_cons]
    exact Reps.app (Reps.rev r) (.cons a .nil)
theorem Rep.flat {as' : List Addr} : ∀ {v : V} {d : D}, d.flat = true → Rep O K as H v d → Rep O K as' H' v d
  | _, _, _, .non => .non
  | _, _, _, .bl b => .bl b
  | _, _, _, .int i => .int i
  | _, _, _, .str z => .str z
  | _, _, _, .ty n => .ty n
  | _, _, _, .adr a => .adr a
  | _, .num _, h, _ => nomatch h
  | _, .cls _, h, _ => nomatch h
  | _, .lst _, h, _ => nomatch h
  | _, .tup _, h, _ => nomatch h
  | _, .scr _, h, _ => nomatch h
  | _, .dic _, h, _ => nomatch h
  | _, .dit _, h, _ => nomatch h
  | _, .obj _ _ _, h, _ => nomatch h
theorem Reps.flat {as' : List Addr} : ∀ {vs : List V} {ds : List D}, ds.all D.flat = true → Reps O K as H vs ds → Reps O K as' H' vs ds
  | _, _, _, .nil => .nil
  | _, d :: ds, h, .cons a r => by
    rw [List.all_cons, Bool.and_eq_true] at h
    exact .cons (a.flat h.1) (Reps.flat h.2 r)
end
/-! ### how a heap goes on -/
section
variable (O : Objs) (K : PySem.W.Frag)
/-- an instance's late fields are filled, by new things -/
def Fill (as : List Addr) (X : Addr → Prop) (H : Hp) (as' : List Addr) (X' : Addr → Prop) (H' : Hp) (o o' : HO) : Prop :=
  ∃ (k : Nat) (C dx : Addr) (fs fs' : List (Str × V)), o = .ins C dx fs ∧ o' = .ins C dx fs' ∧ O.tag C = some k ∧ (∀ f, O.memo k f = none → fs'.lookup f = fs.lookup f) ∧ (∀ f ∈ O.flds k, O.memo k f = none) ∧
    ∀ f g v, O.memo k f = some g → fs.lookup f = some v → fs'.lookup f = some v ∨ (v = .non ∧ ∃ v', fs'.lookup f = some v' ∧
      ∀ (vs : List V) (ds : List D), (O.flds k).map (fs.lookup ·) = vs.map some → Reps O K as (Res (fun a => ¬ X a) H) vs ds → Rep O K as' (Res (fun a => H a = none ∧ ¬ X' a) H') v' (g ds))
/-- a dict may be found locked -/
def Lk (o o' : HO) : Prop := o' = o ∨ ∃ u, o' = .frz u o ∧ ((∃ kvs, o = .dK kvs) ∨ ∃ kvs, o = .dT kvs)
/-- X: what is out of sight -/
structure Grow (as : List Addr) (X : Addr → Prop) (H : Hp) (as' : List Addr) (X' : Addr → Prop) (H' : Hp) : Prop where
  pre : ∃ t, as' = as ++ t
  new : ∀ p, X' p → ¬ X p → H p = none
  raw : ∀ p o, ¬ X p → H p = some o → ∃ o', H' p = some o' ∧ (Lk o o' ∨ Fill O K as X H as' X' H' o o')
  trk : ∀ p, H' p = none → H p = none
end
/-- H0: what is seen of H, nothing out of sight among it; H1: what is seen of H' -/
structure See (X : Addr → Prop) (H : Hp) (X' : Addr → Prop) (H' H0 H1 : Hp) : Prop where
  sub : ∀ a o, H0 a = some o → ¬ X a ∧ H a = some o
  old : ∀ a o o', H0 a = some o → H' a = some o' → H1 a = some o'
  new : ∀ a o', H a = none → ¬ X' a → H' a = some o' → H1 a = some o'
section
variable {O : Objs} {K : PySem.W.Frag} {as as' as1 as2 as3 : List Addr} {H H' H1 H2 H3 H0 : Hp} {X X' X1 X2 X3 : Addr → Prop}
/-- what stays as it is, once it is there -/
def still : HO → Bool
  | .ins _ _ _ => false
  | .dK _ => false
  | .dT _ => false
  | _ => true
theorem Lk.refl {o : HO} : Lk o o := Or.inl rfl
theorem Lk.still {o o' : HO} (h : Lk o o') (s : Dl.still o = true) : o' = o := by
  rcases h with h | ⟨u, _, ⟨kvs, h⟩ | ⟨kvs, h⟩⟩
  · exact h
  · subst h; cases s
  · subst h; cases s
theorem Lk.ins {o o' : HO} {C dx : Addr} {fs : List (Str × V)} (h : Lk o o') (e : o = .ins C dx fs) : o' = o := by
  subst e
  rcases h with h | ⟨u, _, ⟨kvs, h⟩ | ⟨kvs, h⟩⟩
  · exact h
  · cases h
  · cases h
theorem Lk.ins' {o o' : HO} {C dx : Addr} {fs : List (Str × V)} (h : Lk o o') (e : o' = .ins C dx fs) : o' = o := by
  subst e
  rcases h with h | ⟨u, h, _⟩
  · exact h
  · cases h
theorem Lk.trans {o o1 o2 : HO} (h : Lk o o1) (h' : Lk o1 o2) : Lk o o2 := by
  rcases h with rfl | ⟨u, rfl, q⟩
  · exact h'
  · rcases h' with rfl | ⟨u', _, ⟨kvs, h⟩ | ⟨kvs, h⟩⟩
    · exact Or.inr ⟨u, rfl, q⟩
    · cases h
    · cases h
theorem Grow.refl : Grow O K as X H as X H := ⟨⟨[], by simp⟩, fun p a b => absurd a b, fun p o _ e => ⟨o, e, Or.inl Lk.refl⟩, fun _ e => e⟩
theorem Grow.mem (g : Grow O K as X H as' X' H') {p : Addr} (h : p ∈ as) : p ∈ as' := by
  obtain ⟨t, rfl⟩ := g.pre
  exact List.mem_append_left _ h
theorem Grow.at (g : Grow O K as X H as' X' H') {i : Nat} {p : Addr} (h : as[i]? = some p) : as'[i]? = some p := by
  obtain ⟨t, rfl⟩ := g.pre
  exact (List.getElem?_append_left (List.getElem?_eq_some_iff.mp h).1).trans h
/-- what is in sight and there stays in sight -/
theorem Grow.out (g : Grow O K as X H as' X' H') {p : Addr} {o : HO} (n : ¬ X p) (e : H p = some o) : ¬ X' p := fun c => by
  have := g.new p c n
  rw [e] at this
  cases this
/-- an object that isn't an instance stays -/
theorem Grow.same (g : Grow O K as X H as' X' H') {p : Addr} {o : HO} (n : ¬ X p) (e : H p = some o) (no : still o = true) : H' p = some o := by
  obtain ⟨o', e', h | ⟨k, C, dx, fs, fs', h, _⟩⟩ := g.raw p o n e
  · rw [e', h.still no]
  · subst h
    cases no
theorem Grow.rd (g : Grow O K as X H as' X' H') (c : See X H X' H' H0 H1) {a : Addr} {u : HO} (no : ∀ C dx fs, u ≠ .ins C dx fs) (r : Rd H0 a u) : Rd H1 a u := by
  rcases r with r | ⟨o, r⟩
  · obtain ⟨w, e⟩ := c.sub _ _ r
    obtain ⟨o', e', (h | ⟨o2, h, _⟩) | ⟨k, C, dx, fs, fs', h, _⟩⟩ := g.raw _ _ w e
    · subst h
      exact Or.inl (c.old _ _ _ r e')
    · subst h
      exact Or.inr ⟨o2, c.old _ _ _ r e'⟩
    · exact absurd h (no _ _ _)
  · obtain ⟨w, e⟩ := c.sub _ _ r
    exact Or.inr ⟨o, c.old _ _ _ r (g.same w e rfl)⟩
theorem Grow.rdK (g : Grow O K as X H as' X' H') (c : See X H X' H' H0 H1) {a : Addr} {kvs : List (Key × V)} (r : Rd H0 a (.dK kvs)) : Rd H1 a (.dK kvs) := g.rd c (fun _ _ _ z => nomatch z) r
theorem Grow.rdT (g : Grow O K as X H as' X' H') (c : See X H X' H' H0 H1) {a : Addr} {kvs : List (List Key × V)} (r : Rd H0 a (.dT kvs)) : Rd H1 a (.dT kvs) := g.rd c (fun _ _ _ z => nomatch z) r
theorem Grow.lst (g : Grow O K as X H as' X' H') (c : See X H X' H' H0 H1) {a : Addr} {vs : List V} (r : H0 a = some (.lst vs)) : H1 a = some (.lst vs) := by
  obtain ⟨w, e⟩ := c.sub _ _ r
  exact c.old _ _ _ r (g.same w e rfl)
theorem Grow.sqL (g : Grow O K as X H as' X' H') (c : See X H X' H' H0 H1) {a : Addr} {vs : List V} (r : SqL K H0 a vs) : SqL K H1 a vs := by
  rcases r with r | r
  · exact Or.inl (g.rd c (fun _ _ _ z => nomatch z) r)
  · exact Or.inr r
theorem Grow.sqT (g : Grow O K as X H as' X' H') (c : See X H X' H' H0 H1) {a : Addr} {vs : List V} (r : SqT K H0 a vs) : SqT K H1 a vs := by
  rcases r with r | r
  · exact Or.inl (g.rd c (fun _ _ _ z => nomatch z) r)
  · exact Or.inr r
theorem Grow.tup (g : Grow O K as X H as' X' H') (c : See X H X' H' H0 H1) {a : Addr} {vs : List V} (r : H0 a = some (.tup vs)) : H1 a = some (.tup vs) := by
  obtain ⟨w, e⟩ := c.sub _ _ r
  exact c.old _ _ _ r (g.same w e rfl)
theorem Grow.sq (g : Grow O K as X H as' X' H') (c : See X H X' H' H0 H1) {a : Addr} {vs : List V} (r : SqL K H0 a vs ∨ SqT K H0 a vs) : SqL K H1 a vs ∨ SqT K H1 a vs := r.elim (fun r => Or.inl (g.sqL c r)) fun r => Or.inr (g.sqT c r)
theorem flds_keep {k : Nat} {fs fs' : List (Str × V)} (e : ∀ f, O.memo k f = none → fs'.lookup f = fs.lookup f) (n : ∀ f ∈ O.flds k, O.memo k f = none) : (O.flds k).map (fs'.lookup ·) = (O.flds k).map (fs.lookup ·) :=
  List.map_congr_left fun f hf => e f (n f hf)
theorem Grow.obj (g : Grow O K as X H as' X' H') (c : See X H X' H' H0 H1) {k : Nat} {a C dx : Addr} {fs : List (Str × V)} {vs : List V} {ds : List D} (w : Str → V)
    (e : H0 a = some (.ins C dx fs)) (t : O.tag C = some k) (l : (O.flds k).map (fs.lookup ·) = vs.map some) (r : Reps O K as H0 vs ds) (r' : Reps O K as' H1 vs ds)
    (m1 : ∀ f g, O.memo k f = some g → fs.lookup f = some (w f)) (m3 : ∀ f g', O.memo k f = some g' → w f ≠ .non → Rep O K as' H1 (w f) (g' ds)) (no : ∀ f v, fs.lookup f = some v → f ∈ O.flds k ∨ (O.memo k f).isSome = true) : Rep O K as' H1 (.ref a) (.obj k a ds) := by
  obtain ⟨wa, e1⟩ := c.sub _ _ e
  obtain ⟨o', e', h | ⟨k2, C2, dx2, fs2, fs3, h1, h2, h3, h4, h5, h6⟩⟩ := g.raw _ _ wa e1
  · have h := h.ins rfl
    subst h
    exact .obj w (c.old _ _ _ e e') t l r' m1 m3 no
  · cases h1
    subst h2
    rw [t] at h3
    cases h3
    have rr : Reps O K as (Res (fun a => ¬ X a) H) vs ds := r.le fun a o x => res_some.mpr (c.sub _ _ x)
    have got : ∀ f, ∃ x, ∀ g', O.memo k f = some g' → fs3.lookup f = some x ∧ (x ≠ .non → Rep O K as' H1 x (g' ds)) := fun f => by
      cases q : O.memo k f with
      | none => exact ⟨.non, fun _ z => nomatch z⟩
      | some g0 =>
        rcases h6 f g0 (w f) q (m1 f g0 q) with z | ⟨z1, v', z2, z3⟩
        · exact ⟨w f, fun g' z' => by cases z'; exact ⟨z, m3 f g0 q⟩⟩
        · exact ⟨v', fun g' z' => by
            cases z'
            exact ⟨z2, fun _ => (z3 vs ds l rr).le fun a o x => c.new _ _ (res_some.mp x).1.1 (res_some.mp x).1.2 (res_some.mp x).2⟩⟩
    exact .obj (fun f => Classical.choose (got f)) (c.old _ _ _ e e') t ((flds_keep h4 h5).trans l) r' (fun f g' a => (Classical.choose_spec (got f) g' a).1) (fun f g' a => (Classical.choose_spec (got f) g' a).2) fun f v e => by
      cases hm : O.memo k f with
      | none => rw [h4 f hm] at e; rw [← hm]; exact no f v e
      | some g' => exact Or.inr rfl
mutual
theorem Grow.rep (g : Grow O K as X H as' X' H') (c : See X H X' H' H0 H1) : ∀ {v : V} {d : D}, Rep O K as H0 v d → Rep O K as' H1 v d
  | _, _, .non => .non
  | _, _, .bl b => .bl b
  | _, _, .int i => .int i
  | _, _, .str z => .str z
  | _, _, .ty n => .ty n
  | _, _, .adr a => .adr a
  | _, _, .num e => .num (g.at e)
  | _, _, .cls e => .cls e
  | _, _, .lst s r => .lst (g.lst c s) (Grow.reps g c r)
  | _, _, .scr s r => .scr (g.sq c s) (Grow.reps g c r)
  | _, _, .tup s r => .tup (g.tup c s) (Grow.reps g c r)
  | _, _, .dic s e r => .dic (g.rdK c s) e (Grow.reps g c r)
  | _, _, .dit s e r => .dit (g.rdT c s) e (Grow.reps g c r)
  | _, _, .obj w e t l r m1 m2 no => Grow.obj g c w e t l r (Grow.reps g c r) m1 (fun f g' a b => Grow.rep g c (m2 f g' a b)) no
theorem Grow.reps (g : Grow O K as X H as' X' H') (c : See X H X' H' H0 H1) : ∀ {vs : List V} {ds : List D}, Reps O K as H0 vs ds → Reps O K as' H1 vs ds
  | _, _, .nil => .nil
  | _, _, .cons a r => .cons (Grow.rep g c a) (Grow.reps g c r)
end
/-- what is seen in W -/
theorem See.of {W W' : Addr → Prop} (hW : ∀ a, W a → ¬ X a) (hV : ∀ a o, W a → H a = some o → W' a) (hN : ∀ a, H a = none → ¬ X' a → W' a) : See X H X' H' (Res W H) (Res W' H') :=
  ⟨fun a o e => ⟨hW a (res_some.mp e).1, (res_some.mp e).2⟩, fun a o o' e e' => res_some.mpr ⟨hV a o (res_some.mp e).1 (res_some.mp e).2, e'⟩, fun a o' e n e' => res_some.mpr ⟨hN a e n, e'⟩⟩
/-- all that is in sight -/
theorem Grow.see (g : Grow O K as X H as' X' H') : See X H X' H' (Res (fun a => ¬ X a) H) (Res (fun a => ¬ X' a) H') := See.of (fun _ h => h) (fun _ _ n e => g.out n e) fun _ _ n => n
theorem Grow.trans (g : Grow O K as1 X1 H1 as2 X2 H2) (g' : Grow O K as2 X2 H2 as3 X3 H3) : Grow O K as1 X1 H1 as3 X3 H3 where
  pre := by
    obtain ⟨t, rfl⟩ := g.pre
    obtain ⟨u, rfl⟩ := g'.pre
    exact ⟨t ++ u, by rw [List.append_assoc]⟩
  new := fun p a b => by
    cases e : H1 p with
    | none => rfl
    | some o =>
      obtain ⟨o', e', _⟩ := g.raw p o b e
      have := g'.new p a (g.out b e)
      rw [e'] at this
      cases this
  trk := fun p e => g.trk p (g'.trk p e)
  raw := fun p o n e => by
    have n2 := g.out n e
    have seeN : See X2 H2 X3 H3 (Res (fun a => H1 a = none ∧ ¬ X2 a) H2) (Res (fun a => H1 a = none ∧ ¬ X3 a) H3) :=
      See.of (fun a h => h.2) (fun a o h e => ⟨h.1, g'.out h.2 e⟩) fun a e n => ⟨g.trk a e, n⟩
    have wide : ∀ {v : V} {d : D}, Rep O K as3 (Res (fun a => H2 a = none ∧ ¬ X3 a) H3) v d → Rep O K as3 (Res (fun a => H1 a = none ∧ ¬ X3 a) H3) v d := fun r =>
      r.le (res_le fun a o w e => ⟨⟨g.trk a w.1, w.2⟩, e⟩)
    obtain ⟨o1, e1, h1⟩ := g.raw p o n e
    obtain ⟨o2, e2, h2⟩ := g'.raw p o1 n2 e1
    refine ⟨o2, e2, ?_⟩
    rcases h1 with h1 | ⟨k, C, dx, fs, fs', rfl, rfl, t, a1, a2, a3⟩
    · rcases h2 with h2 | ⟨k, C, dx, fs, fs', q1, rfl, t, a1, a2, a3⟩
      · exact Or.inl (h1.trans h2)
      · have q0 := h1.ins' q1
        subst q0
        subst q1
        refine Or.inr ⟨k, C, dx, fs, fs', rfl, rfl, t, a1, a2, fun f gm v m l => ?_⟩
        rcases a3 f gm v m l with z | ⟨z, v', l', q⟩
        · exact Or.inl z
        · exact Or.inr ⟨z, v', l', fun vs ds lv r => wide (q vs ds lv (g.reps g.see r))⟩
    · rcases h2 with h2 | ⟨k2, C2, dx2, fs2, fs3, q1, rfl, t2, b1, b2, b3⟩
      · have h2 := h2.ins rfl
        subst h2
        refine Or.inr ⟨k, C, dx, fs, fs', rfl, rfl, t, a1, a2, fun f gm v m l => ?_⟩
        rcases a3 f gm v m l with z | ⟨z, v', l', q⟩
        · exact Or.inl z
        · exact Or.inr ⟨z, v', l', fun vs ds lv r => g'.rep seeN (q vs ds lv r)⟩
      · cases q1
        rw [t] at t2
        cases t2
        refine Or.inr ⟨k, C, dx, fs, fs3, rfl, rfl, t, fun f m => (b1 f m).trans (a1 f m), a2, fun f gm v m l => ?_⟩
        rcases a3 f gm v m l with z | ⟨z, v', l', q⟩
        · rcases b3 f gm v m z with y | ⟨y, v'', l'', q'⟩
          · exact Or.inl y
          · exact Or.inr ⟨y, v'', l'', fun vs ds lv r => wide (q' vs ds ((flds_keep a1 a2).trans lv) (g.reps g.see r))⟩
        · rcases b3 f gm v' m l' with y | ⟨y, v'', l'', q'⟩
          · exact Or.inr ⟨z, v', y, fun vs ds lv r => g'.rep seeN (q vs ds lv r)⟩
          · exact Or.inr ⟨z, v'', l'', fun vs ds lv r => wide (q' vs ds ((flds_keep a1 a2).trans lv) (g.reps g.see r))⟩
/-- a new thing -/
theorem Grow.lay {p : Addr} {o : HO} (n : H p = none) : Grow O K as X H as X (upd H p o) :=
  ⟨⟨[], by simp⟩, fun q a b => absurd a b, fun q u _ e => ⟨u, by rw [upd_ne (ne_of_none e n)]; exact e, Or.inl Lk.refl⟩, fun q e => by
    by_cases z : q = p
    · rw [z]
      exact n
    · rw [upd_ne z] at e
      exact e⟩
theorem upd_trk {p q : Addr} {o : HO} (e : upd H p o q = none) : H q = none ∧ q ≠ p := by
  by_cases z : q = p
  · rw [z, upd_same] at e
    cases e
  · rw [upd_ne z] at e
    exact ⟨e, z⟩
/-- what is out of sight is changed -/
theorem Grow.put {p : Addr} {o : HO} (n : X p) : Grow O K as X H as X (upd H p o) :=
  ⟨⟨[], by simp⟩, fun q a b => absurd a b, fun q u m e => ⟨u, by rw [upd_ne (fun z => m (by rw [z]; exact n))]; exact e, Or.inl Lk.refl⟩, fun q e => (upd_trk e).1⟩
/-- more comes into sight -/
theorem Grow.shrink (g : Grow O K as X H as' X' H') {X2 : Addr → Prop} (h : ∀ a, X2 a → X' a) : Grow O K as X H as' X2 H' :=
  ⟨g.pre, fun p a b => g.new p (h p a) b, fun p o n e => by
    obtain ⟨o', e', q | ⟨k, C, dx, fs, fs', e1, e2, t, a1, a2, a3⟩⟩ := g.raw p o n e
    · exact ⟨o', e', Or.inl q⟩
    · refine ⟨o', e', Or.inr ⟨k, C, dx, fs, fs', e1, e2, t, a1, a2, fun f gm v m l => ?_⟩⟩
      rcases a3 f gm v m l with z | ⟨z, v', l', q⟩
      · exact Or.inl z
      · exact Or.inr ⟨z, v', l', fun vs ds lv r => (q vs ds lv r).le (res_le fun a o w e => ⟨⟨w.1, fun c => w.2 (h a c)⟩, e⟩)⟩, g.trk⟩
/-- a new thing goes out of sight: nothing in sight leans on it yet -/
theorem Grow.hide {p : Addr} {o : HO} (n : H p = none) : Grow O K as X H as (fun a => X a ∨ a = p) (upd H p o) :=
  ⟨⟨[], by simp⟩, fun q a b => by
    rcases a with a | a
    · exact absurd a b
    · rw [a]
      exact n, fun q u _ e => ⟨u, by rw [upd_ne (ne_of_none e n)]; exact e, Or.inl Lk.refl⟩, fun q e => (upd_trk e).1⟩
/-- everything stays, more is laid -/
theorem Grow.ext (h : ∀ a o, H a = some o → H' a = some o) : Grow O K as X H as X H' :=
  ⟨⟨[], by simp⟩, fun q a b => absurd a b, fun q u _ e => ⟨u, h q u e, Or.inl Lk.refl⟩, fun q e => by
    cases z : H q with
    | none => rfl
    | some o =>
      rw [h q o z] at e
      cases e⟩
end
section
variable {O : Objs} {K : PySem.W.Frag} {as as' : List Addr} {H : Hp}
mutual
theorem Rep.renum (h : ∀ (i : Nat) (p : Addr), as[i]? = some p → as'[i]? = some p) : ∀ {v : V} {d : D}, Rep O K as H v d → Rep O K as' H v d
  | _, _, .non => .non
  | _, _, .bl b => .bl b
  | _, _, .int i => .int i
  | _, _, .str z => .str z
  | _, _, .ty n => .ty n
  | _, _, .adr a => .adr a
  | _, _, .num e => .num (h _ _ e)
  | _, _, .cls e => .cls e
  | _, _, .lst s r => .lst s (Reps.renum h r)
  | _, _, .scr s r => .scr s (Reps.renum h r)
  | _, _, .tup s r => .tup s (Reps.renum h r)
  | _, _, .dic s e r => .dic s e (Reps.renum h r)
  | _, _, .dit s e r => .dit s e (Reps.renum h r)
  | _, _, .obj w e t l r m1 m2 no => .obj w e t l (Reps.renum h r) m1 (fun f g a b => Rep.renum h (m2 f g a b)) no
theorem Reps.renum (h : ∀ (i : Nat) (p : Addr), as[i]? = some p → as'[i]? = some p) : ∀ {vs : List V} {ds : List D}, Reps O K as H vs ds → Reps O K as' H vs ds
  | _, _, .nil => .nil
  | _, _, .cons a r => .cons (Rep.renum h a) (Reps.renum h r)
end
end
end Dl
namespace Dl
open PySem PySem.Spec PyProof.Rows L2
/-! ### a def's body, by trees -/
abbrev Rho := List SV
abbrev Mu := List M
/-- an exception: its class by a tag, its fields -/
structure Exn where
  c : Nat
  fs : List (Str × D)
/-- where a body began: what its callers keep to themselves, what may change by number, what was out of sight, the heap -/
inductive Pin where
  | rep (v : V) (d : D) | raw (a : Addr) (o : HO)
structure Fm where
  F : Addr → Prop
  as : List Addr
  X : Addr → Prop
  H : Hp
  /-- what the callers keep stands as here -/
  S : Hp
  /-- what is told of things in sight, all along -/
  P : List Pin
/-- the things that the slots hold as their own -/
def Own (ρ : Rho) (σ : L2.St) (p : Addr) : Prop := ∃ (i : Nat) (m : M), ρ[i]? = some (SV.own m) ∧ σ[i]? = some (some (V.ref p))
def XX (F : Addr → Prop) (as : List Addr) (ρ : Rho) (σ : L2.St) : Addr → Prop := fun a => a ∈ as ∨ F a ∨ Own ρ σ a
section
variable (O : Objs) (K : PySem.W.Frag)
/-- the object o is m, what it holds being seen in Hv -/
def MObj (as : List Addr) (Hv : Hp) (p : Addr) : HO → M → Prop
  | o, .lst xs => ∃ vs, o = .lst vs ∧ Reps O K as Hv vs xs
  | o, .dic ds => ∃ kvs, o = .dK kvs ∧ kvs.map (·.1) = ds.map (·.1) ∧ Reps O K as Hv (kvs.map (·.2)) (ds.map (·.2))
  | o, .dit ds => ∃ kvs, o = .dT kvs ∧ kvs.map (·.1) = ds.map (·.1) ∧ Reps O K as Hv (kvs.map (·.2)) (ds.map (·.2))
  | o, .ins k a fs => a = p ∧ ∃ C dx vs, o = .ins C dx vs ∧ O.tag C = some k ∧ vs.map (·.1) = fs.map (·.1) ∧ Reps O K as Hv (vs.map (·.2)) (fs.map (·.2))
  | o, .box n => ∃ a b c : Int, o = .lst [.int a, .int b, .int c] ∧ 0 ≤ b ∧ b < 2147483648 ∧ 0 ≤ c ∧ c ≤ (n : Int)
  | _, .gone => True
def MRep (as : List Addr) (Hv H : Hp) (p : Addr) (m : M) : Prop := ∃ o, H p = some o ∧ MObj O K as Hv p o m
structure MuOk (as : List Addr) (Hv H : Hp) (μ : Mu) : Prop where
  len : as.length = μ.length
  nod : as.Nodup
  mu : ∀ (j : Nat) m p, μ[j]? = some m → as[j]? = some p → MRep O K as Hv H p m
def PinOk (as : List Addr) (Hv : Hp) : Pin → Prop
  | .rep v d => Rep O K as Hv v d
  | .raw a o => Hv a = some o ∧ still o = true
structure Sim (fm : Fm) (as : List Addr) (ρ : Rho) (μ : Mu) (σ : L2.St) (H : Hp) : Prop where
  len : ρ.length = σ.length
  val : ∀ (i : Nat) (d : D), ρ[i]? = some (.val d) → ∃ v, σ[i]? = some (some v) ∧ Rep O K as (Res (fun a => ¬ XX fm.F as ρ σ a) H) v d
  own : ∀ (i : Nat) (m : M), ρ[i]? = some (.own m) → ∃ p, σ[i]? = some (some (.ref p)) ∧ MRep O K as (Res (fun a => ¬ XX fm.F as ρ σ a) H) H p m ∧ p ∉ as ∧ ¬ fm.F p
  one : ∀ (i j : Nat) (m n : M) p, ρ[i]? = some (.own m) → ρ[j]? = some (.own n) → σ[i]? = some (some (.ref p)) → σ[j]? = some (some (.ref p)) → i = j
  mu : MuOk O K as (Res (fun a => ¬ XX fm.F as ρ σ a) H) H μ
  base : Grow O K fm.as fm.X fm.H as (XX fm.F as ρ σ) H
  stay : ∀ p, fm.F p → H p = fm.S p
  ftrk : ∀ p, fm.F p → H p ≠ none
  fas : ∀ p, fm.F p → p ∉ as
  pin : ∀ q ∈ fm.P, PinOk O K as (Res (fun a => ¬ XX fm.F as ρ σ a) H) q
/-- what an expression tells: a tree, or a slot's own thing in passing -/
def RepT (as : List Addr) (σ : L2.St) (Hv : Hp) : V → D → Prop
  | v, .var i => ∃ p, v = .ref p ∧ σ[i]? = some (some (.ref p))
  | v, d => Rep O K as Hv v d
inductive RepTs (as : List Addr) (σ : L2.St) (Hv : Hp) : List V → List D → Prop
  | nil : RepTs as σ Hv [] []
  | cons {v : V} {d : D} {vs : List V} {ds : List D} : RepT O K as σ Hv v d → RepTs as σ Hv vs ds → RepTs as σ Hv (v :: vs) (d :: ds)
end
def SV.owns : SV → Bool
  | .own _ => true
  | _ => false
section
variable {O : Objs} {K : PySem.W.Frag} {fm : Fm} {as as' : List Addr} {ρ ρ' : Rho} {μ μ' : Mu} {σ : L2.St} {H H' Hv : Hp} {v : V} {d : D}
theorem Rep.t (r : Rep O K as Hv v d) : RepT O K as σ Hv v d := by
  cases r <;> first | exact .non | exact .bl _ | exact .int _ | exact .str _ | exact .ty _ | exact .adr _ | (exact .num (by assumption)) | (exact .cls (by assumption)) | (exact .lst (by assumption) (by assumption)) | (exact .tup (by assumption) (by assumption)) | (exact .scr (by assumption) (by assumption)) | (exact .dic (by assumption) (by assumption) (by assumption)) | (exact .dit (by assumption) (by assumption) (by assumption)) | (exact .obj _ (by assumption) (by assumption) (by assumption) (by assumption) (by assumption) (by assumption) (by assumption))
/-- no thing in passing -/
def D.kept : D → Bool
  | .var _ => false
  | _ => true
theorem RepT.rep (k : d.kept = true) (r : RepT O K as σ Hv v d) : Rep O K as Hv v d := by
  cases d <;> first | exact r | cases k
theorem RepT.cases (r : RepT O K as σ Hv v d) : (∃ i p, d = .var i ∧ v = .ref p ∧ σ[i]? = some (some (.ref p))) ∨ (d.kept = true ∧ Rep O K as Hv v d) := by
  cases d with
  | var i =>
    obtain ⟨p, a, b⟩ := r
    exact Or.inl ⟨i, p, rfl, a, b⟩
  | _ => exact Or.inr ⟨rfl, r⟩
/-- a value told ahead is told behind a further step -/
theorem RepT.step (g : Grow O K as (XX fm.F as ρ σ) H as' (XX fm.F as' ρ' σ) H') (r : RepT O K as σ (Res (fun a => ¬ XX fm.F as ρ σ a) H) v d) : RepT O K as' σ (Res (fun a => ¬ XX fm.F as' ρ' σ a) H') v d := by
  rcases r.cases with ⟨i, p, rfl, e, s⟩ | ⟨_, r⟩
  · exact ⟨p, e, s⟩
  · exact (g.rep g.see r).t
theorem RepTs.step (g : Grow O K as (XX fm.F as ρ σ) H as' (XX fm.F as' ρ' σ) H') : ∀ {vs : List V} {ds : List D}, RepTs O K as σ (Res (fun a => ¬ XX fm.F as ρ σ a) H) vs ds → RepTs O K as' σ (Res (fun a => ¬ XX fm.F as' ρ' σ a) H') vs ds
  | _, _, .nil => .nil
  | _, _, .cons a r => .cons (a.step g) (RepTs.step g r)
theorem RepTs.reps : ∀ {vs : List V} {ds : List D}, ds.all D.kept = true → RepTs O K as σ Hv vs ds → Reps O K as Hv vs ds
  | _, _, _, .nil => .nil
  | _, _, h, .cons a r => by
    rw [List.all_cons, Bool.and_eq_true] at h
    exact .cons (a.rep h.1) (RepTs.reps h.2 r)
theorem RepTs.length : ∀ {vs : List V} {ds : List D}, RepTs O K as σ Hv vs ds → vs.length = ds.length
  | _, _, .nil => rfl
  | _, _, .cons _ r => by rw [List.length_cons, List.length_cons, RepTs.length r]
/-! more is laid -/
theorem MObj.le {p : Addr} {o : HO} {m : M} (h : ∀ a u, Hv a = some u → H' a = some u) (r : MObj O K as Hv p o m) : MObj O K as H' p o m := by
  cases m with
  | lst xs => obtain ⟨vs, e, q⟩ := r; exact ⟨vs, e, q.le h⟩
  | dic ds => obtain ⟨vs, e, f, q⟩ := r; exact ⟨vs, e, f, q.le h⟩
  | dit ds => obtain ⟨vs, e, f, q⟩ := r; exact ⟨vs, e, f, q.le h⟩
  | ins k a fs => obtain ⟨ea, C, dx, vs, e, t, f, q⟩ := r; exact ⟨ea, C, dx, vs, e, t, f, q.le h⟩
  | box n => exact r
  | gone => exact r
theorem MObj.grow {p : Addr} {o : HO} {m : M} {X X' : Addr → Prop} {H0 H1 : Hp} (g : Grow O K as X H as' X' H') (c : See X H X' H' H0 H1) (r : MObj O K as H0 p o m) : MObj O K as' H1 p o m := by
  cases m with
  | lst xs => obtain ⟨vs, e, q⟩ := r; exact ⟨vs, e, g.reps c q⟩
  | dic ds => obtain ⟨vs, e, f, q⟩ := r; exact ⟨vs, e, f, g.reps c q⟩
  | dit ds => obtain ⟨vs, e, f, q⟩ := r; exact ⟨vs, e, f, g.reps c q⟩
  | ins k a fs => obtain ⟨ea, C, dx, vs, e, t, f, q⟩ := r; exact ⟨ea, C, dx, vs, e, t, f, g.reps c q⟩
  | box n => exact r
  | gone => exact r
theorem PinOk.le {q : Pin} (h : ∀ a u, Hv a = some u → H' a = some u) (r : PinOk O K as Hv q) : PinOk O K as H' q := by
  cases q with
  | rep v d => exact Rep.le h r
  | raw a o => exact ⟨h _ _ r.1, r.2⟩
theorem PinOk.grow {q : Pin} {X X' : Addr → Prop} {H0 H1 : Hp} (g : Grow O K as X H as' X' H') (c : See X H X' H' H0 H1) (r : PinOk O K as H0 q) : PinOk O K as' H1 q := by
  cases q with
  | rep v d => exact g.rep c r
  | raw a o =>
    obtain ⟨n, e⟩ := c.sub _ _ r.1
    exact ⟨c.old _ _ _ r.1 (g.same n e r.2), r.2⟩
theorem res_ext {W : Addr → Prop} (h : ∀ a o, H a = some o → H' a = some o) : ∀ a o, Res W H a = some o → Res W H' a = some o := res_le fun a o w e => ⟨w, h a o e⟩
theorem Sim.ext (S : Sim O K fm as ρ μ σ H) (h : ∀ a o, H a = some o → H' a = some o) : Sim O K fm as ρ μ σ H' where
  len := S.len
  val := fun i d e => by
    obtain ⟨v, s, r⟩ := S.val i d e
    exact ⟨v, s, r.le (res_ext h)⟩
  own := fun i m e => by
    obtain ⟨p, s, ⟨o, ho, r⟩, n, f⟩ := S.own i m e
    exact ⟨p, s, ⟨o, h _ _ ho, r.le (res_ext h)⟩, n, f⟩
  one := S.one
  mu := ⟨S.mu.len, S.mu.nod, fun j m p a b => by
    obtain ⟨o, ho, r⟩ := S.mu.mu j m p a b
    exact ⟨o, h _ _ ho, r.le (res_ext h)⟩⟩
  base := S.base.trans (Grow.ext h)
  stay := fun p f => by
    have := S.ftrk p f
    cases e : H p with
    | none => exact absurd e this
    | some o => rw [h p o e, ← S.stay p f, e]
  ftrk := fun p f z => by
    cases e : H p with
    | none => exact S.ftrk p f e
    | some o =>
      rw [h p o e] at z
      cases z
  fas := S.fas
  pin := fun q hq => (S.pin q hq).le (res_ext h)
theorem ext_lay {p : Addr} {o : HO} (n : H p = none) : ∀ a u, H a = some u → upd H p o a = some u := fun a u e => by
  rw [upd_ne (ne_of_none e n)]
  exact e
/-- a place that is new is in sight -/
theorem Sim.sight (S : Sim O K fm as ρ μ σ H) {p : Addr} (n : H p = none) : ¬ XX fm.F as ρ σ p := by
  rintro (h | h | ⟨i, m, a, b⟩)
  · obtain ⟨j, hj, e⟩ := List.mem_iff_getElem.mp h
    have hm : μ[j]? = some (μ[j]'(by rw [← S.mu.len]; exact hj)) := List.getElem?_eq_getElem _
    obtain ⟨o, ho, _⟩ := S.mu.mu j _ p hm (by rw [← e]; exact List.getElem?_eq_getElem hj)
    rw [n] at ho
    cases ho
  · exact S.ftrk p h n
  · obtain ⟨q, s, ⟨o, ho, _⟩, _⟩ := S.own i m a
    rw [b] at s
    cases s
    rw [n] at ho
    cases ho
/-- a slot is set -/
theorem getElem?_set_cases {α : Type} {l : List α} {i j : Nat} {x y : α} (h : (l.set i x)[j]? = some y) : (j = i ∧ y = x ∧ i < l.length) ∨ (j ≠ i ∧ l[j]? = some y) := by
  by_cases e : j = i
  · subst e
    have hl : j < l.length := by
      have := (List.getElem?_eq_some_iff.mp h).1
      simpa using this
    rw [List.getElem?_set_self hl] at h
    exact Or.inl ⟨rfl, (Option.some.inj h).symm, hl⟩
  · rw [List.getElem?_set_ne (Ne.symm e)] at h
    exact Or.inr ⟨e, h⟩
theorem own_set {i : Nat} {x : SV} {v : Option V} {p : Addr} (no : x.owns = false) (h : Own (ρ.set i x) (σ.set i v) p) : Own ρ σ p := by
  obtain ⟨j, m, a, b⟩ := h
  rcases getElem?_set_cases a with ⟨_, e, _⟩ | ⟨ne, a⟩
  · rw [← e] at no
    cases no
  · rcases getElem?_set_cases b with ⟨e, _⟩ | ⟨_, b⟩
    · exact absurd e ne
    · exact ⟨j, m, a, b⟩
theorem XX.set {i : Nat} {x : SV} {v : Option V} {p : Addr} (no : x.owns = false) (h : XX fm.F as (ρ.set i x) (σ.set i v) p) : XX fm.F as ρ σ p := by
  rcases h with h | h | h
  · exact Or.inl h
  · exact Or.inr (Or.inl h)
  · exact Or.inr (Or.inr (own_set no h))
theorem see_more {W W' : Addr → Prop} (h : ∀ a, W a → W' a) : ∀ a o, Res W H a = some o → Res W' H a = some o := res_le fun a _ w e => ⟨h a w, e⟩
theorem Sim.set (S : Sim O K fm as ρ μ σ H) {i : Nat} {x : SV} {v : Option V} (no : x.owns = false)
    (hx : ∀ d, x = .val d → ∃ w, v = some w ∧ Rep O K as (Res (fun a => ¬ XX fm.F as (ρ.set i x) (σ.set i v) a) H) w d) : Sim O K fm as (ρ.set i x) μ (σ.set i v) H := by
  have more : ∀ a o, Res (fun a => ¬ XX fm.F as ρ σ a) H a = some o → Res (fun a => ¬ XX fm.F as (ρ.set i x) (σ.set i v) a) H a = some o := see_more fun a w z => w (XX.set no z)
  refine ⟨by simpa using S.len, fun j d e => ?_, fun j m e => ?_, fun j k m n p a b c d => ?_, ⟨S.mu.len, S.mu.nod, fun j m p a b => ?_⟩, S.base.shrink fun a => XX.set no, S.stay, S.ftrk, S.fas, fun q hq => (S.pin q hq).le more⟩
  · rcases getElem?_set_cases e with ⟨rfl, e, hl⟩ | ⟨ne, e⟩
    · obtain ⟨w, e1, r⟩ := hx d e.symm
      refine ⟨w, ?_, r⟩
      rw [List.getElem?_set_self (by rw [← S.len]; exact hl), e1]
    · obtain ⟨w, s, r⟩ := S.val j d e
      exact ⟨w, by rw [List.getElem?_set_ne (Ne.symm ne)]; exact s, r.le more⟩
  · rcases getElem?_set_cases e with ⟨rfl, e, hl⟩ | ⟨ne, e⟩
    · rw [← e] at no
      cases no
    · obtain ⟨p, s, ⟨o, ho, r⟩, n, f⟩ := S.own j m e
      exact ⟨p, by rw [List.getElem?_set_ne (Ne.symm ne)]; exact s, ⟨o, ho, r.le more⟩, n, f⟩
  · rcases getElem?_set_cases a with ⟨_, e, _⟩ | ⟨n1, a⟩
    · rw [← e] at no
      cases no
    · rcases getElem?_set_cases b with ⟨_, e, _⟩ | ⟨n2, b⟩
      · rw [← e] at no
        cases no
      · rw [List.getElem?_set_ne (Ne.symm n1)] at c
        rw [List.getElem?_set_ne (Ne.symm n2)] at d
        exact S.one j k m n p a b c d
  · obtain ⟨o, ho, r⟩ := S.mu.mu j m p a b
    exact ⟨o, ho, r.le more⟩
theorem Sim.setD (S : Sim O K fm as ρ μ σ H) {i : Nat} (r : Rep O K as (Res (fun a => ¬ XX fm.F as ρ σ a) H) v d) : Sim O K fm as (ρ.set i (.val d)) μ (σ.set i (some v)) H :=
  S.set rfl fun d' e => by
    cases e
    exact ⟨v, rfl, r.le (see_more fun a w z => w (XX.set rfl z))⟩
theorem Sim.forget (S : Sim O K fm as ρ μ σ H) {i : Nat} {v : Option V} : Sim O K fm as (ρ.set i .unk) μ (σ.set i v) H := S.set rfl fun d e => nomatch e
end
end Dl
namespace Dl
open PySem PySem.Spec PyProof.Rows L2
/-! ### readings by trees, led back to readings by values -/
abbrev KD := D → Rho → Mu → Prop
abbrev KX := Exn → Rho → Mu → Prop
abbrev DE := Rho → Mu → KD → KX → Prop
abbrev DT := Rho → Mu → (Bool → Rho → Mu → Prop) → KX → Prop
abbrev DA := Rho → Mu → (List D → Rho → Mu → Prop) → KX → Prop
/-- a new thing, not yet kept anywhere -/
abbrev DF := Rho → Mu → (M → Rho → Mu → Prop) → KX → Prop
/-- what the readings lean on: the classes, the written part, where the body began, the wish about exceptions -/
structure Par where
  O : Objs
  K : PySem.W.Frag
  fm : Fm
  W : WX
/-- what is in sight -/
noncomputable abbrev vis (B : Par) (as : List Addr) (ρ : Rho) (σ : L2.St) (H : Hp) : Hp := Res (fun a => ¬ XX B.fm.F as ρ σ a) H
abbrev SimB (B : Par) (as : List Addr) (ρ : Rho) (μ : Mu) (σ : L2.St) (H : Hp) : Prop := Sim B.O B.K B.fm as ρ μ σ H
abbrev RepB (B : Par) (as : List Addr) (ρ : Rho) (σ : L2.St) (H : Hp) (v : V) (d : D) : Prop := Rep B.O B.K as (vis B as ρ σ H) v d
abbrev RepsB (B : Par) (as : List Addr) (ρ : Rho) (σ : L2.St) (H : Hp) (vs : List V) (ds : List D) : Prop := Reps B.O B.K as (vis B as ρ σ H) vs ds
abbrev RepTB (B : Par) (as : List Addr) (ρ : Rho) (σ : L2.St) (H : Hp) (v : V) (d : D) : Prop := RepT B.O B.K as σ (vis B as ρ σ H) v d
abbrev RepTsB (B : Par) (as : List Addr) (ρ : Rho) (σ : L2.St) (H : Hp) (vs : List V) (ds : List D) : Prop := RepTs B.O B.K as σ (vis B as ρ σ H) vs ds
/-- one step on: what was in sight goes on -/
structure StepB (B : Par) (as : List Addr) (ρ : Rho) (σ : L2.St) (H : Hp) (as' : List Addr) (ρ' : Rho) (H' : Hp) : Prop where
  g : Grow B.O B.K as (XX B.fm.F as ρ σ) H as' (XX B.fm.F as' ρ' σ) H'
def ExOk (B : Par) (as : List Addr) (Hv : Hp) (cls : Value) (dx : Option Addr) (e : Exn) : Prop :=
  ∃ C, cls = .ref C ∧ B.O.etag C = some e.c ∧ ((dx = none ∧ e.fs = []) ∨ ∃ a fs, dx = some a ∧ Hv a = some (.xd fs) ∧ fs.map (·.1) = e.fs.map (·.1) ∧ Reps B.O B.K as Hv (fs.map (·.2)) (e.fs.map (·.2)))
def EndX (B : Par) (σ : L2.St) (Ψ : KX) : Prop := ∀ e as ρ μ H cls dx, Ψ e ρ μ → SimB B as ρ μ σ H → ExOk B as (vis B as ρ σ H) cls dx e → B.W cls dx σ H
def LE (B : Par) (r : DE) : TE := fun σ H Q => ∃ as ρ μ Φ Ψ, SimB B as ρ μ σ H ∧ r ρ μ Φ Ψ ∧ EndX B σ Ψ ∧
  ∀ d as' ρ' μ' H' v, Φ d ρ' μ' → StepB B as ρ σ H as' ρ' H' → SimB B as' ρ' μ' σ H' → RepTB B as' ρ' σ H' v d → Q v H'
def LT (B : Par) (r : DT) : TT := fun σ H Q => ∃ as ρ μ Φ Ψ, SimB B as ρ μ σ H ∧ r ρ μ Φ Ψ ∧ EndX B σ Ψ ∧
  ∀ b as' ρ' μ' H', Φ b ρ' μ' → StepB B as ρ σ H as' ρ' H' → SimB B as' ρ' μ' σ H' → Q b H'
def LA (B : Par) (r : DA) : TA := fun σ H Q => ∃ as ρ μ Φ Ψ, SimB B as ρ μ σ H ∧ r ρ μ Φ Ψ ∧ EndX B σ Ψ ∧
  ∀ ds as' ρ' μ' H' vs, Φ ds ρ' μ' → StepB B as ρ σ H as' ρ' H' → SimB B as' ρ' μ' σ H' → RepTsB B as' ρ' σ H' vs ds → Q vs H'
def LF (B : Par) (r : DF) : TE := fun σ H Q => ∃ as ρ μ Φ Ψ, SimB B as ρ μ σ H ∧ r ρ μ Φ Ψ ∧ EndX B σ Ψ ∧
  ∀ m as' ρ' μ' H' p o, Φ m ρ' μ' → StepB B as ρ σ H as' ρ' H' → SimB B as' ρ' μ' σ H' → H' p = none → MObj B.O B.K as' (vis B as' ρ' σ H') p o m → (∀ C dx fs, o ≠ .ins C dx fs) → Q (.ref p) (upd H' p o)
def PD (X : Cx) (B : Par) (e : Expr) (r : DE) : Prop := PE X e (LE B r)
def PDT (X : Cx) (B : Par) (e : Expr) (r : DT) : Prop := PT X e (LT B r)
def PDW (X : Cx) (B : Par) (e : Expr) (r : DT) : Prop := PW X e (LT B r)
def PDA (X : Cx) (B : Par) (es : List Expr) (r : DA) : Prop := PA X es (LA B r)
def PDF (X : Cx) (B : Par) (e : Expr) (r : DF) : Prop := PE X e (LF B r)
section
variable {B : Par} {X : Cx} {as as' as2 : List Addr} {ρ ρ' ρ2 : Rho} {μ μ' : Mu} {σ : L2.St} {H H' H2 : Hp} {v : V} {d : D}
theorem StepB.refl : StepB B as ρ σ H as ρ H := ⟨Grow.refl⟩
theorem StepB.trans (a : StepB B as ρ σ H as' ρ' H') (b : StepB B as' ρ' σ H' as2 ρ2 H2) : StepB B as ρ σ H as2 ρ2 H2 := ⟨a.g.trans b.g⟩
theorem StepB.ext (h : ∀ a o, H a = some o → H' a = some o) : StepB B as ρ σ H as ρ H' := ⟨Grow.ext h⟩
theorem _root_.L2.PE.imp {X : Cx} {e : Expr} {t t' : TE} (h : PE X e t) (w : ∀ σ H Q, t' σ H Q → t σ H Q) : PE X e t' := ⟨fun pins s σ H Q I q => h.run pins s σ H Q I (w σ H Q q)⟩
theorem _root_.L2.PT.imp {X : Cx} {e : Expr} {t t' : TT} (h : PT X e t) (w : ∀ σ H Q, t' σ H Q → t σ H Q) : PT X e t' := ⟨fun pins s σ H Q I q => h.run pins s σ H Q I (w σ H Q q)⟩
theorem _root_.L2.PW.imp {X : Cx} {e : Expr} {t t' : TT} (h : PW X e t) (w : ∀ σ H Q, t' σ H Q → t σ H Q) : PW X e t' := ⟨fun whole pins s σ H Q I q => h.run whole pins s σ H Q I (w σ H Q q)⟩
theorem _root_.L2.PA.imp {X : Cx} {es : List Expr} {t t' : TA} (h : PA X es t) (w : ∀ σ H Q, t' σ H Q → t σ H Q) : PA X es t' := ⟨fun pos pins s σ H Q I q => h.run pos pins s σ H Q I (w σ H Q q)⟩
theorem _root_.L2.PS.imp {X : Cx} {st : Stmt} {t t' : TS} (h : PS X st t) (w : ∀ D σ H, t' D σ H → t D σ H) : PS X st t' := ⟨fun pins s σ H D I q => h.run pins s σ H D I (w D σ H q)⟩
theorem _root_.L2.PSs.imp {X : Cx} {st : List Stmt} {t t' : TS} (h : PSs X st t) (w : ∀ D σ H, t' D σ H → t D σ H) : PSs X st t' := ⟨fun pins s σ H D I q => h.run pins s σ H D I (w D σ H q)⟩
/-! names, constants -/
def rName (i : Nat) : DE := fun ρ μ Φ _ => match ρ[i]? with
  | some (.val d) => Φ d ρ μ
  | some (.own _) => Φ (.var i) ρ μ
  | _ => False
theorem pd_name {i : Nat} {x : Str} {pos : Pos} (hN : X.N[i]? = some x) (hv : Vis X.env.scope x) (hd : (x == ("__debug__" : Str)) = false := by decide) (hcd : (x == ("__classdict__" : Str)) = false := by decide) : PD X B (.Name x pos) (rName i) :=
  (pe_var hN hv hd hcd).imp fun σ H Q h => by
    obtain ⟨as, ρ, μ, Φ, Ψ, S, r, _, fin⟩ := h
    unfold rName at r
    split at r
    · rename_i d e
      obtain ⟨v, s, rv⟩ := S.val i d e
      exact ⟨v, s, fin d as ρ μ H v r .refl S rv.t⟩
    · rename_i m e
      obtain ⟨p, s, _⟩ := S.own i m e
      exact ⟨.ref p, s, fin (.var i) as ρ μ H _ r .refl S ⟨p, rfl, s⟩⟩
    · exact r.elim
/-- a constant, a name of the module -/
def rC (d : D) : DE := fun ρ μ Φ _ => Φ d ρ μ
theorem pd_c {e : Expr} {v : V} {d : D} (h : PE X e (tC v)) (r : ∀ as H, Rep B.O B.K as H v d) : PD X B e (rC d) :=
  h.imp fun σ H Q h => by
    obtain ⟨as, ρ, μ, Φ, Ψ, S, q, _, fin⟩ := h
    exact fin d as ρ μ H v q .refl S (r _ _).t
theorem pd_int {i j pos} : PD X B (.Constant (.int i) j pos) (rC (.int i)) := pd_c pe_int fun _ _ => .int _
theorem pd_bl {b j pos} : PD X B (.Constant (.bool b) j pos) (rC (.bl b)) := pd_c pe_bl fun _ _ => .bl _
theorem pd_non {j pos} : PD X B (.Constant .none j pos) (rC .non) := pd_c pe_non fun _ _ => .non
theorem pd_str {z j pos} : PD X B (.Constant (.str z) j pos) (rC (.str z)) := pd_c pe_str fun _ _ => .str _
/-! operators -/
/-- a value's operation as one of trees -/
def OpS (B : Par) (r2 : R2) (o : D → D → Rho → Mu → (D → Prop) → Prop) : Prop :=
  ∀ {as ρ μ σ H x y va vb} {Φ : D → Prop} {Q : VK}, SimB B as ρ μ σ H → RepTB B as ρ σ H va x → RepTB B as ρ σ H vb y → o x y ρ μ Φ →
    (∀ d v H', Φ d → (∀ a u, H a = some u → H' a = some u) → RepB B as ρ σ H' v d → Q v H') → r2 va vb H Q
def rBin (o : D → D → Rho → Mu → (D → Prop) → Prop) (ra rb : DE) : DE := fun ρ μ Φ Ψ => ra ρ μ (fun x ρ1 μ1 => rb ρ1 μ1 (fun y ρ2 μ2 => o x y ρ2 μ2 fun d => Φ d ρ2 μ2) Ψ) Ψ
theorem lift_bin {r2 : R2} {o : D → D → Rho → Mu → (D → Prop) → Prop} {ra rb : DE} (s : OpS B r2 o) {Q : VK} (h : LE B (rBin o ra rb) σ H Q) : tOp r2 (LE B ra) (LE B rb) σ H Q := by
  obtain ⟨as, ρ, μ, Φ, Ψ, S, r, x, fin⟩ := h
  refine ⟨as, ρ, μ, _, Ψ, S, r, x, fun d1 as1 ρ1 μ1 H1 v1 q1 k1 S1 t1 => ⟨as1, ρ1, μ1, _, Ψ, S1, q1, x, fun d2 as2 ρ2 μ2 H2 v2 q2 k2 S2 t2 => ?_⟩⟩
  exact s S2 (t1.step k2.g) t2 q2 fun d v H' q up rv => fin d as2 ρ2 μ2 H' v q ((k1.trans k2).trans (.ext up)) (S2.ext up) rv.t
theorem pd_bin {op : Operator} {a b : Expr} {r2 : R2} {o : D → D → Rho → Mu → (D → Prop) → Prop} {ra rb : DE} {pos : Pos} (h : OpR X (binaryOp op) r2) (s : OpS B r2 o) (ha : PD X B a ra) (hb : PD X B b rb) : PD X B (.BinOp a op b pos) (rBin o ra rb) :=
  (pe_op h ha hb).imp fun _ _ _ h => lift_bin s h
theorem pd_cmp {op : CmpOp} {a b : Expr} {r2 : R2} {o : D → D → Rho → Mu → (D → Prop) → Prop} {ra rb : DE} {pos : Pos} (h : OpR X (compareOp op) r2) (s : OpS B r2 o) (ha : PD X B a ra) (hb : PD X B b rb) (hm : behindInMarks op b = false) : PD X B (.Compare a [op] [b] pos) (rBin o ra rb) :=
  (pe_cmpR h ha hb hm).imp fun _ _ _ h => lift_bin s h
def UnS (B : Par) (r1 : V → Hp → VK → Prop) (o : D → Rho → Mu → (D → Prop) → Prop) : Prop :=
  ∀ {as ρ μ σ H x va} {Φ : D → Prop} {Q : VK}, SimB B as ρ μ σ H → RepTB B as ρ σ H va x → o x ρ μ Φ →
    (∀ d v H', Φ d → (∀ a u, H a = some u → H' a = some u) → RepB B as ρ σ H' v d → Q v H') → r1 va H Q
def rUn (o : D → Rho → Mu → (D → Prop) → Prop) (ra : DE) : DE := fun ρ μ Φ Ψ => ra ρ μ (fun x ρ1 μ1 => o x ρ1 μ1 fun d => Φ d ρ1 μ1) Ψ
theorem pd_un {op : UnaryOp} {a : Expr} {r1 : V → Hp → VK → Prop} {o : D → Rho → Mu → (D → Prop) → Prop} {ra : DE} {pos : Pos} (h : UnR X (unaryOp op) r1) (s : UnS B r1 o) (ha : PD X B a ra) : PD X B (.UnaryOp op a pos) (rUn o ra) :=
  (pe_un h ha).imp fun σ H Q h => by
    obtain ⟨as, ρ, μ, Φ, Ψ, S, r, x, fin⟩ := h
    refine ⟨as, ρ, μ, _, Ψ, S, r, x, fun d1 as1 ρ1 μ1 H1 v1 q1 k1 S1 t1 => ?_⟩
    exact s S1 t1 q1 fun d v H' q up rv => fin d as1 ρ1 μ1 H' v q (k1.trans (.ext up)) (S1.ext up) rv.t
/-! arguments -/
def rNil : DA := fun ρ μ Φ _ => Φ [] ρ μ
def rCons (ra : DE) (rs : DA) : DA := fun ρ μ Φ Ψ => ra ρ μ (fun x ρ1 μ1 => rs ρ1 μ1 (fun xs ρ2 μ2 => Φ (x :: xs) ρ2 μ2) Ψ) Ψ
theorem pda_nil : PDA X B [] rNil := (pa_nil (X := X)).imp fun σ H Q h => by
  obtain ⟨as, ρ, μ, Φ, Ψ, S, r, x, fin⟩ := h
  exact fin [] as ρ μ H [] r .refl S .nil
theorem pda_cons {e : Expr} {es : List Expr} {ra : DE} {rs : DA} (ha : PD X B e ra) (hr : PDA X B es rs) (hs : starEach (e :: es) X.env = (false, eval e X.env) :: starEach es X.env := by rfl) : PDA X B (e :: es) (rCons ra rs) :=
  (pa_cons ha hr hs).imp fun σ H Q h => by
    obtain ⟨as, ρ, μ, Φ, Ψ, S, r, x, fin⟩ := h
    refine ⟨as, ρ, μ, _, Ψ, S, r, x, fun d1 as1 ρ1 μ1 H1 v1 q1 k1 S1 t1 => ⟨as1, ρ1, μ1, _, Ψ, S1, q1, x, fun ds as2 ρ2 μ2 H2 vs q2 k2 S2 t2 => ?_⟩⟩
    exact fin (d1 :: ds) as2 ρ2 μ2 H2 (v1 :: vs) q2 (k1.trans k2) S2 (.cons (t1.step k2.g) t2)
/-! tests -/
def rVal (ra : DE) : DT := fun ρ μ Φ Ψ => ra ρ μ (fun x ρ1 μ1 => ∃ b, x = .bl b ∧ Φ b ρ1 μ1) Ψ
theorem RepT.bl {b : Bool} {O : Objs} {K : PySem.W.Frag} {Hv : Hp} (r : RepT O K as σ Hv v (.bl b)) : v = .bl b := by
  cases (r.rep rfl)
  rfl
theorem RepT.int {i : Int} {O : Objs} {K : PySem.W.Frag} {Hv : Hp} (r : RepT O K as σ Hv v (.int i)) : v = .int i := by
  cases (r.rep rfl)
  rfl
theorem RepT.str {z : Str} {O : Objs} {K : PySem.W.Frag} {Hv : Hp} (r : RepT O K as σ Hv v (.str z)) : v = .str z := by
  cases (r.rep rfl)
  rfl
theorem RepT.non {O : Objs} {K : PySem.W.Frag} {Hv : Hp} (r : RepT O K as σ Hv v .non) : v = .non := by
  cases (r.rep rfl)
  rfl
theorem RepT.ty {n : String} {O : Objs} {K : PySem.W.Frag} {Hv : Hp} (r : RepT O K as σ Hv v (.ty n)) : v = .ty n := by
  cases (r.rep rfl)
  rfl
theorem RepT.adr {a : Addr} {O : Objs} {K : PySem.W.Frag} {Hv : Hp} (r : RepT O K as σ Hv v (.adr a)) : v = .ref a := by
  cases (r.rep rfl)
  rfl
theorem pdt_val {e : Expr} {ra : DE} (h : PD X B e ra) (he : ∀ whole, isTrue e X.env whole = (do let v ← whole; standAt e.pos; holding [v] (truthy v)) := by intro _; rfl) : PDT X B e (rVal ra) :=
  (pt_val h he).imp fun σ H Q h => by
    obtain ⟨as, ρ, μ, Φ, Ψ, S, r, x, fin⟩ := h
    refine ⟨as, ρ, μ, _, Ψ, S, r, x, fun d1 as1 ρ1 μ1 H1 v1 q1 k1 S1 t1 => ?_⟩
    obtain ⟨b, rfl, q⟩ := q1
    exact ⟨b, t1.bl, fin b as1 ρ1 μ1 H1 q k1 S1⟩
/-- a comparison as a test -/
theorem pdt_cmp {op : CmpOp} {a b : Expr} {r2 : R2} {o : D → D → Rho → Mu → (D → Prop) → Prop} {ra rb : DE} {pos : Pos} (h : OpR X (compareOp op) r2) (s : OpS B r2 o) (ha : PD X B a ra) (hb : PD X B b rb) (hm : behindInMarks op b = false) : PDT X B (.Compare a [op] [b] pos) (rVal (rBin o ra rb)) :=
  (pt_cmpR h ha hb hm).imp fun σ H Q h => by
    obtain ⟨as, ρ, μ, Φ, Ψ, S, r, x, fin⟩ := h
    refine lift_bin s ⟨as, ρ, μ, _, Ψ, S, r, x, fun d1 as1 ρ1 μ1 H1 v1 q1 k1 S1 t1 => ?_⟩
    obtain ⟨b, rfl, q⟩ := q1
    exact ⟨b, t1.bl, fin b as1 ρ1 μ1 H1 q k1 S1⟩
def rAnd (ra rb : DT) : DT := fun ρ μ Φ Ψ => ra ρ μ (fun b ρ1 μ1 => if b = true then rb ρ1 μ1 Φ Ψ else Φ false ρ1 μ1) Ψ
def rOr (ra rb : DT) : DT := fun ρ μ Φ Ψ => ra ρ μ (fun b ρ1 μ1 => if b = true then Φ true ρ1 μ1 else rb ρ1 μ1 Φ Ψ) Ψ
def rNot (ra : DT) : DT := fun ρ μ Φ Ψ => ra ρ μ (fun b ρ1 μ1 => Φ (!b) ρ1 μ1) Ψ
variable {a b : Expr} {rest : List Expr} {ta tb : DT} {ra rb : DE} {pos : Pos}
theorem pdw_and1 (h : PDT X B a ta) : PDW X B (.BoolOp .And [a] pos) ta := pw_and1 h
theorem pdw_or1 (h : PDT X B a ta) : PDW X B (.BoolOp .Or [a] pos) ta := pw_or1 h
theorem pdw_and (ha : PDT X B a ta) (hb : PDW X B (.BoolOp .And (b :: rest) pos) tb) : PDW X B (.BoolOp .And (a :: b :: rest) pos) (rAnd ta tb) :=
  (pw_and ha hb).imp fun σ H Q h => by
    obtain ⟨as, ρ, μ, Φ, Ψ, S, r, x, fin⟩ := h
    refine ⟨as, ρ, μ, _, Ψ, S, r, x, fun b1 as1 ρ1 μ1 H1 q1 k1 S1 => ?_⟩
    cases b1 with
    | true => exact ⟨as1, ρ1, μ1, Φ, Ψ, S1, q1, x, fun b2 as2 ρ2 μ2 H2 q2 k2 S2 => fin b2 as2 ρ2 μ2 H2 q2 (k1.trans k2) S2⟩
    | false => exact fin false as1 ρ1 μ1 H1 q1 k1 S1
theorem pdw_or (ha : PDT X B a ta) (hb : PDW X B (.BoolOp .Or (b :: rest) pos) tb) : PDW X B (.BoolOp .Or (a :: b :: rest) pos) (rOr ta tb) :=
  (pw_or ha hb).imp fun σ H Q h => by
    obtain ⟨as, ρ, μ, Φ, Ψ, S, r, x, fin⟩ := h
    refine ⟨as, ρ, μ, _, Ψ, S, r, x, fun b1 as1 ρ1 μ1 H1 q1 k1 S1 => ?_⟩
    cases b1 with
    | false => exact ⟨as1, ρ1, μ1, Φ, Ψ, S1, q1, x, fun b2 as2 ρ2 μ2 H2 q2 k2 S2 => fin b2 as2 ρ2 μ2 H2 q2 (k1.trans k2) S2⟩
    | true => exact fin true as1 ρ1 μ1 H1 q1 k1 S1
theorem PDW.pt {e : Expr} {t : DT} (h : PDW X B e t) : PDT X B e t := L2.PW.pt h
theorem pdt_not (h : PDT X B a ta) : PDT X B (.UnaryOp .Not a pos) (rNot ta) :=
  (pt_not h).imp fun σ H Q h => by
    obtain ⟨as, ρ, μ, Φ, Ψ, S, r, x, fin⟩ := h
    exact ⟨as, ρ, μ, _, Ψ, S, r, x, fun b1 as1 ρ1 μ1 H1 q1 k1 S1 => fin (!b1) as1 ρ1 μ1 H1 q1 k1 S1⟩
/-- and, or, not of truths, as values -/
def rAndV (ra rb : DE) : DE := fun ρ μ Φ Ψ => ra ρ μ (fun x ρ1 μ1 => ∃ b, x = .bl b ∧ if b = true then rb ρ1 μ1 Φ Ψ else Φ (.bl false) ρ1 μ1) Ψ
def rOrV (ra rb : DE) : DE := fun ρ μ Φ Ψ => ra ρ μ (fun x ρ1 μ1 => ∃ b, x = .bl b ∧ if b = true then Φ (.bl true) ρ1 μ1 else rb ρ1 μ1 Φ Ψ) Ψ
def rNotV (ra : DE) : DE := fun ρ μ Φ Ψ => ra ρ μ (fun x ρ1 μ1 => ∃ b, x = .bl b ∧ Φ (.bl (!b)) ρ1 μ1) Ψ
theorem pd_one {op} {r : DE} (h : PD X B a r) : PD X B (.BoolOp op [a] pos) r := pe_one h
theorem pd_and (ha : PD X B a ra) (hb : PD X B (.BoolOp .And (b :: rest) pos) rb) : PD X B (.BoolOp .And (a :: b :: rest) pos) (rAndV ra rb) :=
  (pe_and ha hb).imp fun σ H Q h => by
    obtain ⟨as, ρ, μ, Φ, Ψ, S, r, x, fin⟩ := h
    refine ⟨as, ρ, μ, _, Ψ, S, r, x, fun d1 as1 ρ1 μ1 H1 v1 q1 k1 S1 t1 => ?_⟩
    obtain ⟨b1, rfl, q1⟩ := q1
    refine ⟨b1, t1.bl, ?_⟩
    cases b1 with
    | true => exact ⟨as1, ρ1, μ1, Φ, Ψ, S1, q1, x, fun d2 as2 ρ2 μ2 H2 v2 q2 k2 S2 t2 => fin d2 as2 ρ2 μ2 H2 v2 q2 (k1.trans k2) S2 t2⟩
    | false => exact fin (.bl false) as1 ρ1 μ1 H1 _ q1 k1 S1 (Rep.bl false).t
theorem pd_or (ha : PD X B a ra) (hb : PD X B (.BoolOp .Or (b :: rest) pos) rb) : PD X B (.BoolOp .Or (a :: b :: rest) pos) (rOrV ra rb) :=
  (pe_or ha hb).imp fun σ H Q h => by
    obtain ⟨as, ρ, μ, Φ, Ψ, S, r, x, fin⟩ := h
    refine ⟨as, ρ, μ, _, Ψ, S, r, x, fun d1 as1 ρ1 μ1 H1 v1 q1 k1 S1 t1 => ?_⟩
    obtain ⟨b1, rfl, q1⟩ := q1
    refine ⟨b1, t1.bl, ?_⟩
    cases b1 with
    | false => exact ⟨as1, ρ1, μ1, Φ, Ψ, S1, q1, x, fun d2 as2 ρ2 μ2 H2 v2 q2 k2 S2 t2 => fin d2 as2 ρ2 μ2 H2 v2 q2 (k1.trans k2) S2 t2⟩
    | true => exact fin (.bl true) as1 ρ1 μ1 H1 _ q1 k1 S1 (Rep.bl true).t
theorem pd_not (h : PD X B a ra) : PD X B (.UnaryOp .Not a pos) (rNotV ra) :=
  (pe_not h).imp fun σ H Q h => by
    obtain ⟨as, ρ, μ, Φ, Ψ, S, r, x, fin⟩ := h
    refine ⟨as, ρ, μ, _, Ψ, S, r, x, fun d1 as1 ρ1 μ1 H1 v1 q1 k1 S1 t1 => ?_⟩
    obtain ⟨b1, rfl, q1⟩ := q1
    exact ⟨b1, t1.bl, fin (.bl (!b1)) as1 ρ1 μ1 H1 _ q1 k1 S1 (Rep.bl _).t⟩
def rIfE (c : DT) (ra rb : DE) : DE := fun ρ μ Φ Ψ => c ρ μ (fun b ρ1 μ1 => if b = true then ra ρ1 μ1 Φ Ψ else rb ρ1 μ1 Φ Ψ) Ψ
theorem pd_ifExp {c : Expr} {tc : DT} (hc : PDT X B c tc) (ha : PD X B a ra) (hb : PD X B b rb) : PD X B (.IfExp c a b pos) (rIfE tc ra rb) :=
  (pe_ifExp hc ha hb).imp fun σ H Q h => by
    obtain ⟨as, ρ, μ, Φ, Ψ, S, r, x, fin⟩ := h
    refine ⟨as, ρ, μ, _, Ψ, S, r, x, fun b1 as1 ρ1 μ1 H1 q1 k1 S1 => ?_⟩
    cases b1 with
    | true => exact ⟨as1, ρ1, μ1, Φ, Ψ, S1, q1, x, fun d2 as2 ρ2 μ2 H2 v2 q2 k2 S2 t2 => fin d2 as2 ρ2 μ2 H2 v2 q2 (k1.trans k2) S2 t2⟩
    | false => exact ⟨as1, ρ1, μ1, Φ, Ψ, S1, q1, x, fun d2 as2 ρ2 μ2 H2 v2 q2 k2 S2 t2 => fin d2 as2 ρ2 μ2 H2 v2 q2 (k1.trans k2) S2 t2⟩
/-- weaker readings -/
theorem PD.imp {e : Expr} {r r' : DE} (h : PD X B e r) (w : ∀ ρ μ Φ Ψ, r' ρ μ Φ Ψ → r ρ μ Φ Ψ) : PD X B e r' := L2.PE.imp h fun σ H Q h => by
  obtain ⟨as, ρ, μ, Φ, Ψ, S, q, x, fin⟩ := h
  exact ⟨as, ρ, μ, Φ, Ψ, S, w _ _ _ _ q, x, fin⟩
/-- either reading -/
theorem PD.or {e : Expr} {r r' : DE} (h : PD X B e r) (h' : PD X B e r') : PD X B e (fun ρ μ Φ Ψ => r ρ μ Φ Ψ ∨ r' ρ μ Φ Ψ) := ⟨fun pins s σ H Q I q => by
  obtain ⟨as, ρ, μ, Φ, Ψ, S, q, x, fin⟩ := q
  rcases q with q | q
  · exact L2.PE.run h pins s σ H Q I ⟨as, ρ, μ, Φ, Ψ, S, q, x, fin⟩
  · exact L2.PE.run h' pins s σ H Q I ⟨as, ρ, μ, Φ, Ψ, S, q, x, fin⟩⟩
end
end Dl
namespace Dl
open PySem PySem.Spec PyProof.Rows L2
/-! ### what a thing is just now -/
def M.tree : M → Option D
  | .lst xs => some (.lst xs)
  | .dic ds => some (.dic ds)
  | .dit ds => some (.dit ds)
  | _ => none
def lookD (ρ : Rho) (μ : Mu) : D → Option D
  | .var i => match ρ[i]? with
    | some (.own m) => m.tree
    | some (.val d) => some d
    | _ => none
  | .num j => match μ[j]? with
    | some m => m.tree
    | none => none
  | d => some d
def D.items : D → Option (List D)
  | .lst xs => some xs
  | .tup xs => some xs
  | .scr xs => some xs
  | _ => none
def seqD (ρ : Rho) (μ : Mu) (d : D) : Option (List D) := (lookD ρ μ d).bind D.items
section
variable {B : Par} {X : Cx} {as as' : List Addr} {ρ ρ' : Rho} {μ μ' : Mu} {σ : L2.St} {H H' : Hp} {v w : V} {d d' : D}
theorem SimB.numAt (S : SimB B as ρ μ σ H) {j : Nat} {m : M} (e : μ[j]? = some m) : ∃ p, as[j]? = some p ∧ MRep B.O B.K as (vis B as ρ σ H) H p m := by
  have hl : j < as.length := by
    rw [S.mu.len]
    exact (List.getElem?_eq_some_iff.mp e).1
  exact ⟨as[j], List.getElem?_eq_getElem hl, S.mu.mu j m _ e (List.getElem?_eq_getElem hl)⟩
/-- a thing that changes, or a tree -/
theorem look_cases (S : SimB B as ρ μ σ H) (r : RepTB B as ρ σ H v d) (e : lookD ρ μ d = some d') :
    (∃ p m, v = .ref p ∧ MRep B.O B.K as (vis B as ρ σ H) H p m ∧ m.tree = some d') ∨ RepB B as ρ σ H v d' := by
  cases d with
  | var i =>
    obtain ⟨p, rfl, s⟩ := r
    simp only [lookD] at e
    split at e
    · rename_i m o
      obtain ⟨p', s', q, _⟩ := S.own i m o
      rw [s] at s'
      cases s'
      exact Or.inl ⟨p, m, rfl, q, e⟩
    · rename_i d o
      cases e
      obtain ⟨v', s', q⟩ := S.val i _ o
      rw [s] at s'
      cases s'
      exact Or.inr q
    · cases e
  | num j =>
    have r' := r.rep rfl
    cases r' with
    | num ea =>
      rename_i p
      simp only [lookD] at e
      cases hm : μ[j]? with
      | none => rw [hm] at e; cases e
      | some m =>
        rw [hm] at e
        obtain ⟨p', ep, q⟩ := S.numAt hm
        rw [ea] at ep
        cases ep
        exact Or.inl ⟨p, m, rfl, q, e⟩
  | _ =>
    simp only [lookD, Option.some.injEq] at e
    subst e
    exact Or.inr (r.rep rfl)
theorem MRep.lst {p : Addr} {m : M} {xs : List D} {Hv : Hp} (q : MRep B.O B.K as Hv H p m) (e : m.tree = some (.lst xs)) : ∃ vs, H p = some (.lst vs) ∧ Reps B.O B.K as Hv vs xs := by
  cases m <;> simp only [M.tree, Option.some.injEq, reduceCtorEq] at e
  cases e
  obtain ⟨o, ho, vs, rfl, r⟩ := q
  exact ⟨vs, ho, r⟩
theorem MRep.dic {p : Addr} {m : M} {ds : List (Key × D)} {Hv : Hp} (q : MRep B.O B.K as Hv H p m) (e : m.tree = some (.dic ds)) : ∃ kvs, H p = some (.dK kvs) ∧ kvs.map (·.1) = ds.map (·.1) ∧ Reps B.O B.K as Hv (kvs.map (·.2)) (ds.map (·.2)) := by
  cases m <;> simp only [M.tree, Option.some.injEq, reduceCtorEq] at e
  cases e
  obtain ⟨o, ho, kvs, rfl, h, r⟩ := q
  exact ⟨kvs, ho, h, r⟩
theorem MRep.dit {p : Addr} {m : M} {ds : List (List Key × D)} {Hv : Hp} (q : MRep B.O B.K as Hv H p m) (e : m.tree = some (.dit ds)) : ∃ kvs, H p = some (.dT kvs) ∧ kvs.map (·.1) = ds.map (·.1) ∧ Reps B.O B.K as Hv (kvs.map (·.2)) (ds.map (·.2)) := by
  cases m <;> simp only [M.tree, Option.some.injEq, reduceCtorEq] at e
  cases e
  obtain ⟨o, ho, kvs, rfl, h, r⟩ := q
  exact ⟨kvs, ho, h, r⟩
theorem look_lst (S : SimB B as ρ μ σ H) (r : RepTB B as ρ σ H v d) {xs : List D} (e : lookD ρ μ d = some (.lst xs)) : ∃ p vs, v = .ref p ∧ H p = some (.lst vs) ∧ RepsB B as ρ σ H vs xs := by
  rcases look_cases S r e with ⟨p, m, rfl, q, t⟩ | r
  · obtain ⟨vs, h, r⟩ := q.lst t
    exact ⟨p, vs, rfl, h, r⟩
  · cases r with
    | lst h r => exact ⟨_, _, rfl, res_sub _ _ h, r⟩
theorem look_tup (S : SimB B as ρ μ σ H) (r : RepTB B as ρ σ H v d) {xs : List D} (e : lookD ρ μ d = some (.tup xs)) : ∃ p vs, v = .ref p ∧ H p = some (.tup vs) ∧ RepsB B as ρ σ H vs xs := by
  rcases look_cases S r e with ⟨p, m, rfl, q, t⟩ | r
  · cases m <;> simp [M.tree] at t
  · cases r with
    | tup h r => exact ⟨_, _, rfl, res_sub _ _ h, r⟩
theorem look_dic (S : SimB B as ρ μ σ H) (r : RepTB B as ρ σ H v d) {ds : List (Key × D)} (e : lookD ρ μ d = some (.dic ds)) : ∃ p kvs, v = .ref p ∧ Rd H p (.dK kvs) ∧ kvs.map (·.1) = ds.map (·.1) ∧ RepsB B as ρ σ H (kvs.map (·.2)) (ds.map (·.2)) := by
  rcases look_cases S r e with ⟨p, m, rfl, q, t⟩ | r
  · obtain ⟨kvs, h, k, r⟩ := q.dic t
    exact ⟨p, kvs, rfl, Or.inl h, k, r⟩
  · cases r with
    | dic h k r => exact ⟨_, _, rfl, rd_le res_sub h, k, r⟩
theorem look_dit (S : SimB B as ρ μ σ H) (r : RepTB B as ρ σ H v d) {ds : List (List Key × D)} (e : lookD ρ μ d = some (.dit ds)) : ∃ p kvs, v = .ref p ∧ Rd H p (.dT kvs) ∧ kvs.map (·.1) = ds.map (·.1) ∧ RepsB B as ρ σ H (kvs.map (·.2)) (ds.map (·.2)) := by
  rcases look_cases S r e with ⟨p, m, rfl, q, t⟩ | r
  · obtain ⟨kvs, h, k, r⟩ := q.dit t
    exact ⟨p, kvs, rfl, Or.inl h, k, r⟩
  · cases r with
    | dit h k r => exact ⟨_, _, rfl, rd_le res_sub h, k, r⟩
theorem look_seq (S : SimB B as ρ μ σ H) (r : RepTB B as ρ σ H v d) {xs : List D} (e : seqD ρ μ d = some xs) : ∃ p vs, v = .ref p ∧ (SqL B.K H p vs ∨ SqT B.K H p vs) ∧ RepsB B as ρ σ H vs xs := by
  unfold seqD at e
  cases h : lookD ρ μ d with
  | none => rw [h] at e; cases e
  | some d' =>
    rw [h, Option.bind_some] at e
    cases d' <;> simp only [D.items, Option.some.injEq, reduceCtorEq] at e
    · subst e
      obtain ⟨p, vs, rfl, h, r⟩ := look_lst S r h
      exact ⟨p, vs, rfl, Or.inl (SqL.of h), r⟩
    · subst e
      obtain ⟨p, vs, rfl, h, r⟩ := look_tup S r h
      exact ⟨p, vs, rfl, Or.inr (SqT.of h), r⟩
    · subst e
      rcases look_cases S r h with ⟨p, m, rfl, q, t⟩ | r
      · cases m <;> simp [M.tree] at t
      · cases r with
        | scr h r => exact ⟨_, _, rfl, sq_le res_sub h, r⟩
/-! operators by values, either -/
/-! + -/
def oAdd : D → D → Rho → Mu → (D → Prop) → Prop
  | .int i, .int j, _, _, Φ => Φ (.int (i + j))
  | .str a, .str b, _, _, Φ => a.length + b.length ≤ sizeLine ∧ Φ (.str (a ++ b))
  | .tup xs, .tup ys, _, _, Φ => xs.length + ys.length ≤ sizeLine ∧ Φ (.tup (xs ++ ys))
  | _, _, _, _, _ => False
def vAdd (K : PySem.W.Frag) : R2 := fun x y H Q => rI0 (fun i j => .int (i + j)) x y H Q ∨ Jg.rAddS x y H Q ∨ rCatA K x y H Q
theorem opr_add (hK : X.K = B.K := by rfl) : OpR X (binaryOp .Add) (vAdd B.K) := by
  rw [← hK]
  exact op_add.or (Jg.op_addS.or op_catA)
theorem ops_add : OpS B (vAdd B.K) oAdd := by
  intro as ρ μ σ H x y va vb Φ Q S rx ry o fin
  cases x <;> cases y <;> first | exact o.elim | skip
  · cases rx.int
    cases ry.int
    exact Or.inl ⟨_, _, rfl, rfl, fin _ _ H o (fun _ _ e => e) (.int _)⟩
  · cases rx.str
    cases ry.str
    exact Or.inr (Or.inl ⟨_, _, rfl, rfl, o.1, fin _ _ H o.2 (fun _ _ e => e) (.str _)⟩)
  · obtain ⟨p, vs, rfl, h1, r1⟩ := look_tup S rx rfl
    obtain ⟨q, ws, rfl, h2, r2⟩ := look_tup S ry rfl
    refine Or.inr (Or.inr ⟨p, q, vs, ws, rfl, rfl, SqT.of h1, SqT.of h2, by rw [r1.length, r2.length]; exact o.1, fun e => ?_, fun e1 e2 => ?_, fun e1 e2 a na => ?_⟩)
    · subst e
      cases r1
      exact fin _ _ H o.2 (fun _ _ e => e) (ry.rep rfl)
    · subst e2
      cases r2
      refine fin _ _ H o.2 (fun _ _ e => e) ?_
      rw [List.append_nil]
      exact rx.rep rfl
    · have up := ext_lay (o := HO.tup (vs ++ ws)) na
      refine fin _ _ _ o.2 up (.tup (res_some.mpr ⟨S.sight na, upd_same⟩) ((r1.app r2).le (res_ext up)))
/-! ints -/
def oInt (C : Int → Int → Prop) (g : Int → Int → D) : D → D → Rho → Mu → (D → Prop) → Prop
  | .int i, .int j, _, _, Φ => C i j ∧ Φ (g i j)
  | _, _, _, _, _ => False
theorem ops_int {C : Int → Int → Prop} {g : Int → Int → D} {gv : Int → Int → V} (h : ∀ i j, ∀ as Hv, Rep B.O B.K as Hv (gv i j) (g i j)) : OpS B (rI C gv) (oInt C g) := by
  intro as ρ μ σ H x y va vb Φ Q S rx ry o fin
  cases x <;> cases y <;> first | exact o.elim | skip
  cases rx.int
  cases ry.int
  exact ⟨_, _, rfl, rfl, o.1, fin _ _ H o.2 (fun _ _ e => e) (h _ _ _ _)⟩
def oInt0 (g : Int → Int → D) : D → D → Rho → Mu → (D → Prop) → Prop
  | .int i, .int j, _, _, Φ => Φ (g i j)
  | _, _, _, _, _ => False
theorem ops_int0 {g : Int → Int → D} {gv : Int → Int → V} (h : ∀ i j, ∀ as Hv, Rep B.O B.K as Hv (gv i j) (g i j)) : OpS B (rI0 gv) (oInt0 g) := by
  intro as ρ μ σ H x y va vb Φ Q S rx ry o fin
  cases x <;> cases y <;> first | exact o.elim | skip
  cases rx.int
  cases ry.int
  exact ⟨_, _, rfl, rfl, fin _ _ H o (fun _ _ e => e) (h _ _ _ _)⟩
abbrev oSub := oInt0 fun i j => .int (i - j)
theorem ops_sub : OpS B (rI0 fun i j => .int (i - j)) oSub := ops_int0 fun _ _ _ _ => .int _
abbrev oMul := oInt CMulW fun i j => .int (i * j)
theorem ops_mul : OpS B (rI CMulW fun i j => .int (i * j)) oMul := ops_int fun _ _ _ _ => .int _
abbrev oMod := oInt (fun _ j => 0 < j) fun i j => .int (i % j)
theorem ops_mod : OpS B (rI (fun _ j => 0 < j) fun i j => .int (i % j)) oMod := ops_int fun _ _ _ _ => .int _
abbrev oDiv := oInt CDivW fun i j => .int (i / j)
theorem ops_div : OpS B (rI CDivW fun i j => .int (i / j)) oDiv := ops_int fun _ _ _ _ => .int _
abbrev oPow := oInt CPow fun i j => .int (i ^ j.toNat)
theorem ops_pow : OpS B (rI CPow fun i j => .int (i ^ j.toNat)) oPow := ops_int fun _ _ _ _ => .int _
abbrev oLt := oInt0 fun i j => .bl (decide (i < j))
theorem ops_lt : OpS B (rI0 fun i j => .bl (decide (i < j))) oLt := ops_int0 fun _ _ _ _ => .bl _
abbrev oLe := oInt0 fun i j => .bl (decide (i ≤ j))
theorem ops_le : OpS B (rI0 fun i j => .bl (decide (i ≤ j))) oLe := ops_int0 fun _ _ _ _ => .bl _
abbrev oGt := oInt0 fun i j => .bl (decide (j < i))
theorem ops_gt : OpS B (rI0 fun i j => .bl (decide (j < i))) oGt := ops_int0 fun _ _ _ _ => .bl _
abbrev oGe := oInt0 fun i j => .bl (decide (j ≤ i))
theorem ops_ge : OpS B (rI0 fun i j => .bl (decide (j ≤ i))) oGe := ops_int0 fun _ _ _ _ => .bl _
def oNeg : D → Rho → Mu → (D → Prop) → Prop
  | .int i, _, _, Φ => Φ (.int (-i))
  | _, _, _, _ => False
theorem uns_neg : UnS B (rU fun i => .int (-i)) oNeg := by
  intro as ρ μ σ H x va Φ Q S rx o fin
  cases x <;> first | exact o.elim | skip
  cases rx.int
  exact ⟨_, rfl, fin _ _ H o (fun _ _ e => e) (.int _)⟩
/-! data -/
mutual
def D.pyd : D → PyData
  | .bl b => .bool b
  | .int i => .int i
  | .str z => .str z
  | .lst xs => .list (D.pyds xs)
  | .tup xs => .tuple (D.pyds xs)
  | _ => .none
def D.pyds : List D → List PyData
  | [] => []
  | x :: xs => D.pyd x :: D.pyds xs
end
mutual
/-- data without dicts -/
def D.data : D → Bool
  | .non => true
  | .bl _ => true
  | .int _ => true
  | .str _ => true
  | .lst xs => D.datas xs
  | .tup xs => D.datas xs
  | _ => false
def D.datas : List D → Bool
  | [] => true
  | x :: xs => D.data x && D.datas xs
end
mutual
theorem Rep.dp {K : PySem.W.Frag} {O : Objs} : ∀ {v : V} {d : D}, d.data = true → Rep O K as H v d → Dp K H v d.pyd
  | _, _, _, .non => .non
  | _, _, _, .bl b => .bl b
  | _, _, _, .int i => .int i
  | _, _, _, .str z => .str z
  | _, _, h, .lst e r => .lst (SqL.of e) (Reps.dps (by simpa [D.data] using h) r)
  | _, _, h, .tup e r => .tup (SqT.of e) (Reps.dps (by simpa [D.data] using h) r)
  | _, _, h, .ty _ => by simp [D.data] at h
  | _, _, h, .adr _ => by simp [D.data] at h
  | _, _, h, .num _ => by simp [D.data] at h
  | _, _, h, .cls _ => by simp [D.data] at h
  | _, _, h, .scr _ _ => by simp [D.data] at h
  | _, _, h, .dic _ _ _ => by simp [D.data] at h
  | _, _, h, .dit _ _ _ => by simp [D.data] at h
  | _, _, h, .obj _ _ _ _ _ _ _ _ => by simp [D.data] at h
theorem Reps.dps {K : PySem.W.Frag} {O : Objs} : ∀ {vs : List V} {ds : List D}, D.datas ds = true → Reps O K as H vs ds → DpAll K H vs (D.pyds ds)
  | _, _, _, .nil => .nil
  | _, d :: ds, h, .cons a r => by
    have h' : d.data = true ∧ D.datas ds = true := by simpa [D.datas] using h
    exact .cons (Rep.dp h'.1 a) (Reps.dps h'.2 r)
end
mutual
theorem pyd_plain : ∀ d : D, d.pyd.plain = true
  | .non => rfl
  | .bl b => rfl
  | .int i => rfl
  | .str z => rfl
  | .ty n => rfl
  | .adr a => rfl
  | .num i => rfl
  | .cls k => rfl
  | .lst xs => by simp only [D.pyd, PyData.plain]; exact pyds_plain xs
  | .tup xs => by simp only [D.pyd, PyData.plain]; exact pyds_plain xs
  | .scr xs => rfl
  | .dic ds => rfl
  | .dit ds => rfl
  | .obj k a fs => rfl
  | .var i => rfl
theorem pyds_plain : ∀ ds : List D, PyData.plainAll (D.pyds ds) = true
  | [] => by simp only [D.pyds, PyData.plainAll]
  | d :: ds => by simp only [D.pyds, PyData.plainAll, pyd_plain d, pyds_plain ds, Bool.and_self]
end
/-- == of data -/
def D.deq (x y : D) : Bool := PyData.eqv x.pyd y.pyd
def D.low (x : D) : Prop := x.pyd.depth ≤ 60
/-- a datum, at last -/
def dataD (ρ : Rho) (μ : Mu) (d d' : D) : Prop := lookD ρ μ d = some d' ∧ d'.data = true
theorem Rep.full {v : V} {d : D} (r : RepB B as ρ σ H v d) : Rep B.O B.K as H v d := r.le res_sub
theorem look_dp (S : SimB B as ρ μ σ H) (r : RepTB B as ρ σ H v d) (e : dataD ρ μ d d') : Dp B.K H v d'.pyd := by
  rcases look_cases S r e.1 with ⟨p, m, rfl, q, t⟩ | r
  · have h := e.2
    cases m <;> simp only [M.tree, Option.some.injEq, reduceCtorEq] at t
    · subst t
      obtain ⟨o, ho, vs, rfl, r⟩ := q
      exact (Rep.lst ho (r.le res_sub) : Rep B.O B.K as H _ _).dp h
    · subst t
      simp [D.data] at h
    · subst t
      simp [D.data] at h
  · exact (r.le res_sub).dp e.2
def oEq : D → D → Rho → Mu → (D → Prop) → Prop := fun x y ρ μ Φ => ∃ x' y', dataD ρ μ x x' ∧ dataD ρ μ y y' ∧ (x'.low ∨ y'.low) ∧ Φ (.bl (x'.deq y'))
def oNe : D → D → Rho → Mu → (D → Prop) → Prop := fun x y ρ μ Φ => ∃ x' y', dataD ρ μ x x' ∧ dataD ρ μ y y' ∧ (x'.low ∨ y'.low) ∧ Φ (.bl (!x'.deq y'))
def vEq (K : PySem.W.Frag) : R2 := fun x y H Q => ∃ d e, Dp K H x d ∧ Dp K H y e ∧ d.plain = true ∧ e.plain = true ∧ (d.depth ≤ 60 ∨ e.depth ≤ 60) ∧ Q (.bl (PyData.eqv d e)) H
def vNe (K : PySem.W.Frag) : R2 := fun x y H Q => ∃ d e, Dp K H x d ∧ Dp K H y e ∧ d.plain = true ∧ e.plain = true ∧ (d.depth ≤ 60 ∨ e.depth ≤ 60) ∧ Q (.bl (!PyData.eqv d e)) H
theorem opr_eq {K : PySem.W.Frag} (hu : X.A.units + 64 < cLine) (hK : X.K = K := by rfl) : OpR X (compareOp .Eq) (vEq K) := by
  subst hK
  intro pins s σ H x y v u Q I rx ry h
  obtain ⟨d, e, hd, he, pd, pe, dep, q⟩ := h
  obtain ⟨as, r1⟩ := Dp.reads I d x v hd rx
  obtain ⟨bs, r2⟩ := Dp.reads I e y u he ry
  exact SeqAt.eq_plain r1 r2 pd pe (by omega) ⟨.bl _, H, I, rfl, q⟩
theorem opr_ne {K : PySem.W.Frag} (hu : X.A.units + 64 < cLine) (hK : X.K = K := by rfl) : OpR X (compareOp .NotEq) (vNe K) := by
  subst hK
  intro pins s σ H x y v u Q I rx ry h
  obtain ⟨d, e, hd, he, pd, pe, dep, q⟩ := h
  obtain ⟨as, r1⟩ := Dp.reads I d x v hd rx
  obtain ⟨bs, r2⟩ := Dp.reads I e y u he ry
  exact SeqAt.ne_plain r1 r2 pd pe (by omega) ⟨.bl _, H, I, rfl, q⟩
theorem ops_eq : OpS B (vEq B.K) oEq := by
  intro as ρ μ σ H x y va vb Φ Q S rx ry o fin
  obtain ⟨x', y', h1, h2, dep, q⟩ := o
  exact ⟨_, _, look_dp S rx h1, look_dp S ry h2, pyd_plain _, pyd_plain _, dep, fin _ _ H q (fun _ _ e => e) (.bl _)⟩
theorem ops_ne : OpS B (vNe B.K) oNe := by
  intro as ρ μ σ H x y va vb Φ Q S rx ry o fin
  obtain ⟨x', y', h1, h2, dep, q⟩ := o
  exact ⟨_, _, look_dp S rx h1, look_dp S ry h2, pyd_plain _, pyd_plain _, dep, fin _ _ H q (fun _ _ e => e) (.bl _)⟩
end
end Dl
namespace Dl
open PySem PySem.Spec PyProof.Rows L2
section
variable {B : Par} {X : Cx} {as as' : List Addr} {ρ ρ' : Rho} {μ μ' : Mu} {σ σ' : L2.St} {H H' : Hp} {v w : V} {d d' : D} {i : Nat} {m m' : M} {p : Addr} {o : HO}
theorem set_self {α : Type} : ∀ {l : List α} {i : Nat} {x : α}, l[i]? = some x → l.set i x = l
  | [], _, _, h => by simp at h
  | y :: l, 0, x, h => by
    simp at h
    rw [List.set_cons_zero, h]
  | y :: l, i + 1, x, h => by
    rw [List.set_cons_succ, set_self (by simpa using h)]
theorem MObj.tree {Hv H1 : Hp} (q : MObj B.O B.K as Hv p o m) (e : m.tree = some d) (up : ∀ a u, Hv a = some u → H1 a = some u) (h : H1 p = some o) : Rep B.O B.K as H1 (.ref p) d := by
  cases m <;> simp only [M.tree, Option.some.injEq, reduceCtorEq] at e
  · subst e
    obtain ⟨vs, rfl, r⟩ := q
    exact .lst h (r.le up)
  · subst e
    obtain ⟨kvs, rfl, k, r⟩ := q
    exact .dic (Or.inl h) k (r.le up)
  · subst e
    obtain ⟨kvs, rfl, k, r⟩ := q
    exact .dit (Or.inl h) k (r.le up)
/-! a slot's own thing goes out of its hands: it changes no more -/
theorem SimB.freeze (S : SimB B as ρ μ σ H) (e : ρ[i]? = some (.own m)) (t : m.tree = some d) :
    SimB B as (ρ.set i (.val d)) μ σ H ∧ ∃ p, σ[i]? = some (some (.ref p)) ∧ RepB B as (ρ.set i (.val d)) σ H (.ref p) d := by
  obtain ⟨p, s, ⟨o, ho, q⟩, n, f⟩ := S.own i m e
  have same : σ.set i (some (.ref p)) = σ := set_self s
  have out : ¬ XX B.fm.F as (ρ.set i (.val d)) (σ.set i (some (.ref p))) p := by
    rintro (h | h | ⟨j, m2, a, b⟩)
    · exact n h
    · exact f h
    · rcases getElem?_set_cases a with ⟨_, z, _⟩ | ⟨ne, a⟩
      · cases z
      · rw [List.getElem?_set_ne (Ne.symm ne)] at b
        exact ne (S.one j i m2 m p a e b s)
  have r : RepB B as (ρ.set i (.val d)) (σ.set i (some (.ref p))) H (.ref p) d :=
    q.tree t (see_more fun a w z => w (XX.set rfl z)) (res_some.mpr ⟨out, ho⟩)
  have S' : SimB B as (ρ.set i (.val d)) μ (σ.set i (some (.ref p))) H := S.set rfl fun d' e' => by
    cases e'
    exact ⟨_, rfl, r⟩
  rw [same] at S' r
  exact ⟨S', p, s, r⟩
/-- a thing that is to be kept: if it is a slot's own it changes no more -/
def stow (ρ : Rho) : D → Option (Rho × D)
  | .var i => match ρ[i]? with
    | some (.own m) => m.tree.map fun d => (ρ.set i (.val d), d)
    | some (.val d) => some (ρ, d)
    | _ => none
  | d => some (ρ, d)
theorem XX.own_sub {i : Nat} {d : D} {F : Addr → Prop} {a : Addr} (h : XX F as (ρ.set i (.val d)) σ a) : XX F as ρ σ a := by
  rcases h with h | h | ⟨j, m, a, b⟩
  · exact Or.inl h
  · exact Or.inr (Or.inl h)
  · rcases getElem?_set_cases a with ⟨_, z, _⟩ | ⟨ne, a⟩
    · cases z
    · exact Or.inr (Or.inr ⟨j, m, a, b⟩)
theorem SimB.stow (S : SimB B as ρ μ σ H) (r : RepTB B as ρ σ H v d) (e : stow ρ d = some (ρ', d')) : SimB B as ρ' μ σ H ∧ RepB B as ρ' σ H v d' ∧ StepB B as ρ σ H as ρ' H := by
  cases d with
  | var i =>
    obtain ⟨p, rfl, s⟩ := r
    simp only [Dl.stow] at e
    split at e
    · rename_i m o
      cases ht : m.tree with
      | none => rw [ht] at e; cases e
      | some d2 =>
        rw [ht] at e
        cases e
        obtain ⟨S', p', s', r⟩ := S.freeze o ht
        rw [s] at s'
        cases s'
        exact ⟨S', r, ⟨Grow.refl.shrink fun a h => XX.own_sub h⟩⟩
    · rename_i d2 o
      cases e
      obtain ⟨v', s', q⟩ := S.val i _ o
      rw [s] at s'
      cases s'
      exact ⟨S, q, .refl⟩
    · cases e
  | _ =>
    simp only [Dl.stow, Option.some.injEq, Prod.mk.injEq] at e
    obtain ⟨rfl, rfl⟩ := e
    exact ⟨S, r.rep rfl, .refl⟩
theorem stow_kept (k : d.kept = true) : stow ρ d = some (ρ, d) := by
  cases d <;> first | rfl | cases k
theorem Rep.kept {O : Objs} {K : PySem.W.Frag} {Hv : Hp} (r : Rep O K as Hv v d) : d.kept = true := by
  cases r <;> rfl
theorem SV.no (x : D) : (SV.val x).owns = false := rfl
/-! a new thing of a slot's own -/
theorem SimB.fresh (S : SimB B as ρ μ σ H) (n : H p = none) : p ∉ as ∧ ¬ B.fm.F p ∧ ¬ Own ρ σ p := by
  have := S.sight n
  exact ⟨fun h => this (Or.inl h), fun h => this (Or.inr (Or.inl h)), fun h => this (Or.inr (Or.inr h))⟩
theorem SimB.newOwn (S : SimB B as ρ μ σ H) (hi : i < ρ.length) (n : H p = none) (q : MObj B.O B.K as (vis B as ρ σ H) p o m) :
    SimB B as (ρ.set i (.own m)) μ (σ.set i (some (.ref p))) (upd H p o) := by
  obtain ⟨n1, n2, n3⟩ := S.fresh n
  have hiσ : i < σ.length := by rw [← S.len]; exact hi
  -- what is out of sight now
  have sub : ∀ a, XX B.fm.F as (ρ.set i (.own m)) (σ.set i (some (.ref p))) a → XX B.fm.F as ρ σ a ∨ a = p := by
    rintro a (h | h | ⟨j, m2, e1, e2⟩)
    · exact Or.inl (Or.inl h)
    · exact Or.inl (Or.inr (Or.inl h))
    · rcases getElem?_set_cases e1 with ⟨rfl, _, _⟩ | ⟨ne, e1⟩
      · rw [List.getElem?_set_self hiσ] at e2
        cases e2
        exact Or.inr rfl
      · rw [List.getElem?_set_ne (Ne.symm ne)] at e2
        exact Or.inl (Or.inr (Or.inr ⟨j, m2, e1, e2⟩))
  have more : ∀ a u, vis B as ρ σ H a = some u → vis B as (ρ.set i (.own m)) (σ.set i (some (.ref p))) (upd H p o) a = some u := res_le fun a u w e => by
    refine ⟨fun z => ?_, by rw [upd_ne (ne_of_none e n)]; exact e⟩
    rcases sub a z with z | z
    · exact w z
    · subst z
      rw [n] at e
      cases e
  have keep : ∀ a u, H a = some u → upd H p o a = some u := ext_lay n
  refine ⟨by simpa using S.len, fun j d e => ?_, fun j m2 e => ?_, fun j k m2 n2' p' a b c d => ?_, ⟨S.mu.len, S.mu.nod, fun j m2 p' a b => ?_⟩, ?_, fun a f => ?_, fun a f z => ?_, S.fas, fun q hq => (S.pin q hq).le more⟩
  · rcases getElem?_set_cases e with ⟨_, e, _⟩ | ⟨ne, e⟩
    · cases e
    · obtain ⟨w, s, r⟩ := S.val j d e
      exact ⟨w, by rw [List.getElem?_set_ne (Ne.symm ne)]; exact s, r.le more⟩
  · rcases getElem?_set_cases e with ⟨rfl, e, _⟩ | ⟨ne, e⟩
    · cases e
      exact ⟨p, List.getElem?_set_self hiσ, ⟨o, upd_same, q.le more⟩, n1, n2⟩
    · obtain ⟨p', s, ⟨o', ho, r⟩, x, y⟩ := S.own j m2 e
      exact ⟨p', by rw [List.getElem?_set_ne (Ne.symm ne)]; exact s, ⟨o', keep _ _ ho, r.le more⟩, x, y⟩
  · rcases getElem?_set_cases a with ⟨ja, _, _⟩ | ⟨na, a2⟩
    · rw [ja, List.getElem?_set_self hiσ] at c
      cases c
      rcases getElem?_set_cases b with ⟨kb, _, _⟩ | ⟨nb, b2⟩
      · rw [ja, kb]
      · rw [List.getElem?_set_ne (Ne.symm nb)] at d
        exact absurd ⟨k, n2', b2, d⟩ n3
    · rw [List.getElem?_set_ne (Ne.symm na)] at c
      rcases getElem?_set_cases b with ⟨kb, _, _⟩ | ⟨nb, b2⟩
      · rw [kb, List.getElem?_set_self hiσ] at d
        cases d
        exact absurd ⟨j, m2, a2, c⟩ n3
      · rw [List.getElem?_set_ne (Ne.symm nb)] at d
        exact S.one j k m2 n2' p' a2 b2 c d
  · obtain ⟨o', ho, r⟩ := S.mu.mu j m2 p' a b
    exact ⟨o', keep _ _ ho, r.le more⟩
  · exact (S.base.trans (Grow.hide n)).shrink sub
  · rw [upd_ne (fun z => n2 (by rw [← z]; exact f))]
    exact S.stay a f
  · exact S.ftrk a f (upd_trk z).1
/-! a slot's own thing is changed -/
theorem SimB.change (S : SimB B as ρ μ σ H) (e : ρ[i]? = some (.own m)) (s : σ[i]? = some (some (.ref p))) (q : MObj B.O B.K as (vis B as ρ σ H) p o m') :
    SimB B as (ρ.set i (.own m')) μ σ (upd H p o) ∧ StepB B as ρ σ H as (ρ.set i (.own m')) (upd H p o) := by
  obtain ⟨p', s', ⟨o0, ho, _⟩, n1, n2⟩ := S.own i m e
  rw [s] at s'
  cases s'
  have hi : i < ρ.length := (List.getElem?_eq_some_iff.mp e).1
  have ownE : ∀ a, Own (ρ.set i (.own m')) σ a ↔ Own ρ σ a := fun a => by
    constructor
    · rintro ⟨j, m2, e1, e2⟩
      rcases getElem?_set_cases e1 with ⟨rfl, _, _⟩ | ⟨ne, e1⟩
      · exact ⟨j, m, e, e2⟩
      · exact ⟨j, m2, e1, e2⟩
    · rintro ⟨j, m2, e1, e2⟩
      by_cases z : j = i
      · subst z
        exact ⟨j, m', List.getElem?_set_self hi, e2⟩
      · exact ⟨j, m2, by rw [List.getElem?_set_ne (Ne.symm z)]; exact e1, e2⟩
  have xxE : ∀ a, XX B.fm.F as (ρ.set i (.own m')) σ a ↔ XX B.fm.F as ρ σ a := fun a => by
    unfold XX
    rw [ownE]
  have px : XX B.fm.F as ρ σ p := Or.inr (Or.inr ⟨i, m, e, s⟩)
  have more : ∀ a u, vis B as ρ σ H a = some u → vis B as (ρ.set i (.own m')) σ (upd H p o) a = some u := res_le fun a u w h => ⟨fun z => w ((xxE a).mp z), by
    rw [upd_ne (fun z => w (by rw [z]; exact px))]
    exact h⟩
  have g : Grow B.O B.K as (XX B.fm.F as ρ σ) H as (XX B.fm.F as (ρ.set i (.own m')) σ) (upd H p o) := (Grow.put px).shrink fun a => (xxE a).mp
  refine ⟨⟨by simpa using S.len, fun j d h => ?_, fun j m2 h => ?_, fun j k m2 n2' p' a b c d => ?_, ⟨S.mu.len, S.mu.nod, fun j m2 p' a b => ?_⟩, S.base.trans g, fun a f => ?_, fun a f z => ?_, S.fas, fun q hq => (S.pin q hq).le more⟩, ⟨g⟩⟩
  · rcases getElem?_set_cases h with ⟨_, h, _⟩ | ⟨ne, h⟩
    · cases h
    · obtain ⟨w, s, r⟩ := S.val j d h
      exact ⟨w, s, r.le more⟩
  · rcases getElem?_set_cases h with ⟨rfl, h, _⟩ | ⟨ne, h⟩
    · cases h
      exact ⟨p, s, ⟨o, upd_same, q.le more⟩, n1, n2⟩
    · obtain ⟨p', s', ⟨o', ho', r⟩, x, y⟩ := S.own j m2 h
      refine ⟨p', s', ⟨o', ?_, r.le more⟩, x, y⟩
      rw [upd_ne fun z => ne (S.one j i m2 m p h e (by rw [← z]; exact s') s)]
      exact ho'
  · have back : ∀ (j : Nat) (m2 : M), (ρ.set i (.own m'))[j]? = some (.own m2) → ∃ m3, ρ[j]? = some (.own m3) := fun j m2 h => by
      rcases getElem?_set_cases h with ⟨rfl, _, _⟩ | ⟨_, h⟩
      · exact ⟨m, e⟩
      · exact ⟨m2, h⟩
    obtain ⟨m3, a'⟩ := back j m2 a
    obtain ⟨m4, b'⟩ := back k n2' b
    exact S.one j k m3 m4 p' a' b' c d
  · obtain ⟨o', ho', r⟩ := S.mu.mu j m2 p' a b
    refine ⟨o', ?_, r.le more⟩
    rw [upd_ne fun z => n1 (by rw [← z]; exact List.mem_of_getElem? b)]
    exact ho'
  · rw [upd_ne (fun z => n2 (by rw [← z]; exact f))]
    exact S.stay a f
  · exact S.ftrk a f (upd_trk z).1
/-- a thing that changes, by its number, is changed -/
theorem SimB.changeN (S : SimB B as ρ μ σ H) {j : Nat} (e : μ[j]? = some m) (s : as[j]? = some p) (q : MObj B.O B.K as (vis B as ρ σ H) p o m') :
    SimB B as ρ (μ.set j m') σ (upd H p o) ∧ StepB B as ρ σ H as ρ (upd H p o) := by
  have pin : p ∈ as := List.mem_of_getElem? s
  have px : XX B.fm.F as ρ σ p := Or.inl pin
  have hj : j < μ.length := (List.getElem?_eq_some_iff.mp e).1
  have more : ∀ a u, vis B as ρ σ H a = some u → vis B as ρ σ (upd H p o) a = some u := res_le fun a u w h => ⟨w, by
    rw [upd_ne (fun z => w (by rw [z]; exact px))]
    exact h⟩
  have g : Grow B.O B.K as (XX B.fm.F as ρ σ) H as (XX B.fm.F as ρ σ) (upd H p o) := Grow.put px
  refine ⟨⟨S.len, fun j d h => ?_, fun j m2 h => ?_, S.one, ⟨by rw [List.length_set]; exact S.mu.len, S.mu.nod, fun k m2 p' a b => ?_⟩, S.base.trans g, fun a f => ?_, fun a f z => ?_, S.fas, fun q hq => (S.pin q hq).le more⟩, ⟨g⟩⟩
  · obtain ⟨w, s, r⟩ := S.val j d h
    exact ⟨w, s, r.le more⟩
  · obtain ⟨p', s', ⟨o', ho', r⟩, x, y⟩ := S.own j m2 h
    refine ⟨p', s', ⟨o', ?_, r.le more⟩, x, y⟩
    rw [upd_ne fun z => x (by rw [z]; exact pin)]
    exact ho'
  · rcases getElem?_set_cases a with ⟨rfl, h, _⟩ | ⟨ne, a⟩
    · subst h
      rw [s] at b
      cases b
      exact ⟨o, upd_same, q.le more⟩
    · obtain ⟨o', ho', r⟩ := S.mu.mu k m2 p' a b
      refine ⟨o', ?_, r.le more⟩
      rw [upd_ne ?_]
      · exact ho'
      · rintro rfl
        exact ne ((List.getElem?_inj (List.getElem?_eq_some_iff.mp b).1 S.mu.nod).mp (b.trans s.symm))
  · rw [upd_ne (fun z => S.fas a f (by rw [z]; exact pin))]
    exact S.stay a f
  · exact S.ftrk a f (upd_trk z).1
end
end Dl
namespace Dl
open PySem PySem.Spec PyProof.Rows L2
/-! ### statements -/
structure DN where
  nx : Rho → Mu → Prop
  rt : D → Mu → Prop
  bk : Rho → Mu → Prop := fun _ _ => False
  ct : Rho → Mu → Prop := fun _ _ => False
  ex : KX
abbrev DS := DN → Rho → Mu → Prop
structure Goes (B : Par) (N : DN) (E : Ends) : Prop where
  nx : ∀ as ρ μ σ H, SimB B as ρ μ σ H → N.nx ρ μ → E.nx σ H
  rt : ∀ as ρ μ σ H v d, SimB B as ρ μ σ H → RepB B as ρ σ H v d → N.rt d μ → E.rt v H
  bk : ∀ as ρ μ σ H, SimB B as ρ μ σ H → N.bk ρ μ → E.bk σ H
  ct : ∀ as ρ μ σ H, SimB B as ρ μ σ H → N.ct ρ μ → E.ct σ H
  ex : ∀ σ, EndX B σ N.ex
def LS (B : Par) (r : DS) : TS := fun E σ H => ∃ as ρ μ N, SimB B as ρ μ σ H ∧ r N ρ μ ∧ Goes B N E
def PDS (X : Cx) (B : Par) (st : Stmt) (r : DS) : Prop := PS X st (LS B r)
def PDSs (X : Cx) (B : Par) (sts : List Stmt) (r : DS) : Prop := PSs X sts (LS B r)
section
variable {B : Par} {X : Cx} {e : Expr} {st : Stmt} {sts body orelse : List Stmt} {re : DE} {rf : DF} {rt : DT} {r r' : DS} {pos : Pos} {i : Nat} {x : Str}
def rNext : DS := fun N ρ μ => N.nx ρ μ
def rSeq (r r' : DS) : DS := fun N ρ μ => r { N with nx := fun ρ μ => r' N ρ μ } ρ μ
theorem pds_nil : PDSs X B [] rNext := (pss_nil (X := X)).imp fun E σ H h => by
  obtain ⟨as, ρ, μ, N, S, q, g⟩ := h
  exact g.nx as ρ μ σ H S q
theorem pds_cons (h1 : PDS X B st r) (h2 : PDSs X B sts r') : PDSs X B (st :: sts) (rSeq r r') := (pss_cons h1 h2).imp fun E σ H h => by
  obtain ⟨as, ρ, μ, N, S, q, g⟩ := h
  exact ⟨as, ρ, μ, _, S, q, ⟨fun as ρ μ σ H S q => ⟨as, ρ, μ, N, S, q, g⟩, g.rt, g.bk, g.ct, g.ex⟩⟩
theorem pds_one (h1 : PDS X B st r) : PDSs X B [st] r := pss_one h1
theorem pds_pass : PDS X B (.Pass pos) rNext := (ps_pass (X := X)).imp fun E σ H h => by
  obtain ⟨as, ρ, μ, N, S, q, g⟩ := h
  exact g.nx as ρ μ σ H S q
theorem pds_doc {z j pos pos'} : PDS X B (.Expr (.Constant (.str z) j pos) pos') rNext := (ps_doc (X := X)).imp fun E σ H h => by
  obtain ⟨as, ρ, μ, N, S, q, g⟩ := h
  exact g.nx as ρ μ σ H S q
def rBreak : DS := fun N ρ μ => N.bk ρ μ
def rCont : DS := fun N ρ μ => N.ct ρ μ
theorem pds_break : PDS X B (.Break pos) rBreak := (ps_break (X := X)).imp fun E σ H h => by
  obtain ⟨as, ρ, μ, N, S, q, g⟩ := h
  exact g.bk as ρ μ σ H S q
theorem pds_continue : PDS X B (.Continue pos) rCont := (ps_continue (X := X)).imp fun E σ H h => by
  obtain ⟨as, ρ, μ, N, S, q, g⟩ := h
  exact g.ct as ρ μ σ H S q
def rDrop (re : DE) : DS := fun N ρ μ => re ρ μ (fun _ ρ' μ' => N.nx ρ' μ') N.ex
theorem pds_expr (he : PD X B e re) (hs : swapsWith e none pos.line X.env = pure false := by rfl) : PDS X B (.Expr e pos) (rDrop re) := (ps_expr he hs).imp fun E σ H h => by
  obtain ⟨as, ρ, μ, N, S, q, g⟩ := h
  exact ⟨as, ρ, μ, _, _, S, q, g.ex σ, fun d as' ρ' μ' H' v q' _ S' _ => g.nx as' ρ' μ' σ H' S' q'⟩
def rRet (re : DE) : DS := fun N ρ μ => re ρ μ (fun d ρ' μ' => ∃ ρ2 d2, stow ρ' d = some (ρ2, d2) ∧ N.rt d2 μ') N.ex
theorem pds_ret (he : PD X B e re) : PDS X B (.Return (some e) pos) (rRet re) := (ps_ret he).imp fun E σ H h => by
  obtain ⟨as, ρ, μ, N, S, q, g⟩ := h
  refine ⟨as, ρ, μ, _, _, S, q, g.ex σ, fun d as' ρ' μ' H' v q' _ S' rv => ?_⟩
  obtain ⟨ρ2, d2, e2, q2⟩ := q'
  obtain ⟨S2, r2, _⟩ := S'.stow rv e2
  exact g.rt as' ρ2 μ' σ H' v d2 S2 r2 q2
def rRetN : DS := fun N _ μ => N.rt .non μ
theorem pds_retN : PDS X B (.Return none pos) rRetN := (ps_retN (X := X)).imp fun E σ H h => by
  obtain ⟨as, ρ, μ, N, S, q, g⟩ := h
  exact g.rt as ρ μ σ H .non .non S .non q
/-- x = e -/
def rSet (i : Nat) (re : DE) : DS := fun N ρ μ => re ρ μ (fun d ρ' μ' => ∃ ρ2 d2, stow ρ' d = some (ρ2, d2) ∧ N.nx (ρ2.set i (.val d2)) μ') N.ex
theorem pds_set {pos' : Pos} (hN : X.N.Nodup) (hi : X.N[i]? = some x) (hx : Loc X.env.scope x) (he : PD X B e re) (hs : swapsWith e (some (.Name x pos')) pos.line X.env = pure false := by rfl)
    (hf : X.fn x = true ∨ X.env.scope.names.lookup x = some .local := by first | exact .inl rfl | exact .inr rfl | assumption) : PDS X B (.Assign [.Name x pos'] e pos) (rSet i re) :=
  (ps_set hN hi hx he hs hf).imp fun E σ H h => by
    obtain ⟨as, ρ, μ, N, S, q, g⟩ := h
    refine ⟨as, ρ, μ, _, _, S, q, g.ex σ, fun d as' ρ' μ' H' v q' _ S' rv => ?_⟩
    obtain ⟨ρ2, d2, e2, q2⟩ := q'
    obtain ⟨S2, r2, _⟩ := S'.stow rv e2
    exact g.nx as' _ μ' _ H' (S2.setD r2) q2
/-- x = a new thing, x's own -/
def rOwn (i : Nat) (rf : DF) : DS := fun N ρ μ => rf ρ μ (fun m ρ' μ' => i < ρ'.length ∧ N.nx (ρ'.set i (.own m)) μ') N.ex
theorem pds_own {pos' : Pos} (hN : X.N.Nodup) (hi : X.N[i]? = some x) (hx : Loc X.env.scope x) (he : PDF X B e rf) (hs : swapsWith e (some (.Name x pos')) pos.line X.env = pure false := by rfl)
    (hf : X.fn x = true ∨ X.env.scope.names.lookup x = some .local := by first | exact .inl rfl | exact .inr rfl | assumption) : PDS X B (.Assign [.Name x pos'] e pos) (rOwn i rf) :=
  (ps_set hN hi hx he hs hf).imp fun E σ H h => by
    obtain ⟨as, ρ, μ, N, S, q, g⟩ := h
    refine ⟨as, ρ, μ, _, _, S, q, g.ex σ, fun m as' ρ' μ' H' p o q' _ S' n mo _ => ?_⟩
    exact g.nx as' _ μ' _ _ (S'.newOwn q'.1 n mo) q'.2
def rIf (rt : DT) (r r' : DS) : DS := fun N ρ μ => rt ρ μ (fun b ρ' μ' => if b = true then r N ρ' μ' else r' N ρ' μ') N.ex
theorem pds_if {c : Expr} (hc : PDT X B c rt) (ha : PDSs X B body r) (hb : PDSs X B orelse r') : PDS X B (.If c body orelse pos) (rIf rt r r') := (ps_if hc ha hb).imp fun E σ H h => by
  obtain ⟨as, ρ, μ, N, S, q, g⟩ := h
  refine ⟨as, ρ, μ, _, _, S, q, g.ex σ, fun b as' ρ' μ' H' q' _ S' => ?_⟩
  cases b with
  | true => exact ⟨as', ρ', μ', N, S', q', g⟩
  | false => exact ⟨as', ρ', μ', N, S', q', g⟩
/-- x += e -/
def rAug (i : Nat) (o : D → D → Rho → Mu → (D → Prop) → Prop) (re : DE) : DS := fun N ρ μ => match ρ[i]? with
  | some (.val x) => re ρ μ (fun y ρ' μ' => o x y ρ' μ' fun d => N.nx (ρ'.set i (.val d)) μ') N.ex
  | _ => False
theorem pds_aug {op : Operator} {pos' : Pos} {r2 : R2} {o : D → D → Rho → Mu → (D → Prop) → Prop} (hN : X.N.Nodup) (hi : X.N[i]? = some x) (hx : Loc X.env.scope x) (he : PD X B e re) (ho : PIp X op r2) (s : OpS B r2 o)
    (hf : X.fn x = true ∨ X.env.scope.names.lookup x = some .local := by first | exact .inl rfl | exact .inr rfl | assumption) : PDS X B (.AugAssign (.Name x pos') op e pos) (rAug i o re) :=
  (ps_aug hN hi hx he ho hf).imp fun E σ H h => by
    obtain ⟨as, ρ, μ, N, S, q, g⟩ := h
    unfold rAug at q
    split at q
    · rename_i d hd
      obtain ⟨v, sv, rv⟩ := S.val i d hd
      refine ⟨v, sv, as, ρ, μ, _, _, S, q, g.ex σ, fun y as' ρ' μ' H' w q' k S' rw' => ?_⟩
      exact s S' (RepT.step k.g rv.t) rw' q' fun d v' H2 q2 up r2 => g.nx as' _ μ' _ H2 ((S'.ext up).setD r2) q2
    · exact q.elim
end
/-! ### defs -/
abbrev SpD := List D → Mu → (D → Mu → Prop) → (Exn → Mu → Prop) → Prop
/-- what is out of sight at a call -/
def X0 (F : Addr → Prop) (as : List Addr) : Addr → Prop := fun a => a ∈ as ∨ F a
noncomputable abbrev vis0 (F : Addr → Prop) (as : List Addr) (H : Hp) : Hp := Res (fun a => ¬ X0 F as a) H
structure Post (O : Objs) (K : PySem.W.Frag) (F : Addr → Prop) (as : List Addr) (H : Hp) (as' : List Addr) (H' : Hp) (μ' : Mu) : Prop where
  g : Grow O K as (X0 F as) H as' (X0 F as') H'
  mu : MuOk O K as' (vis0 F as' H') H' μ'
  stay : ∀ p, F p → H' p = H p
  fas : ∀ p, F p → p ∉ as'
def spV (O : Objs) (K : PySem.W.Frag) (sp : SpD) : Sp := fun vs H Q E => ∃ (F : Addr → Prop) (as : List Addr) (ds : List D) (μ : Mu) (Φ : D → Mu → Prop) (Ψ : Exn → Mu → Prop),
  Reps O K as (vis0 F as H) vs ds ∧ MuOk O K as (vis0 F as H) H μ ∧ (∀ p, F p → H p ≠ none) ∧ (∀ p, F p → p ∉ as) ∧ sp ds μ Φ Ψ ∧
  (∀ d μ' as' H' v, Φ d μ' → Post O K F as H as' H' μ' → Rep O K as' (vis0 F as' H') v d → Q v H') ∧
  ∀ e μ' as' H' cls dx, Ψ e μ' → Post O K F as H as' H' μ' → (∃ C, cls = .ref C ∧ O.etag C = some e.c ∧ ((dx = none ∧ e.fs = []) ∨ ∃ a fs, dx = some a ∧ vis0 F as' H' a = some (.xd fs) ∧ fs.map (·.1) = e.fs.map (·.1) ∧ Reps O K as' (vis0 F as' H') (fs.map (·.2)) (e.fs.map (·.2)))) → E cls dx H'
/-- a def that keeps a promise where no repr runs around it -/
structure FnC (P : Program) (w : World) (K : PySem.W.Frag) (mg : Str → Option Value) (base : Heap) (CX : CXT) (k : Nat) (f : Addr) (fd : FuncData) (ps : List Str) (sp : Sp) : Prop where
  many : ∀ vs H Q E, sp vs H Q E → vs.length = ps.length
  go : ∀ (A : Around) (outer : List Env) (s : Shared) (H : Hp) (args : Args) (us : List Value) (vs : List V) (Q : VK) (E : XK),
    Room k A → A.guards = some [] → Env0 P w K mg base A outer s H → BindsTo s fd args (ps.zip us) → Vals vs us → sp vs H Q E →
    codeAny (model P w) A (.call (.ref f) args) (CR CX outer P w H s Q E) s
abbrev FnD (O : Objs) (P : Program) (w : World) (K : PySem.W.Frag) (mg : Str → Option Value) (base : Heap) (k : Nat) (f : Addr) (fd : FuncData) (ps : List Str) (sp : SpD) : Prop := FnC P w K mg base (L2N.CX P w) k f fd ps (spV O K sp)
section
variable {P : Program} {w : World} {K : PySem.W.Frag} {mg : Str → Option Value} {base : Heap} {O : Objs}
theorem FnC.mono {CX : CXT} {j k : Nat} {f : Addr} {fd : FuncData} {ps : List Str} {sp : Sp} (F : FnC P w K mg base CX j f fd ps sp) (h : j ≤ k) : FnC P w K mg base CX k f fd ps sp :=
  ⟨F.many, fun A outer s H args us vs Q E hr => F.go A outer s H args us vs Q E (hr.mono h)⟩
theorem FnC.imp {CX : CXT} {k : Nat} {f : Addr} {fd : FuncData} {ps : List Str} {sp sp' : Sp} (F : FnC P w K mg base CX k f fd ps sp) (h : ∀ vs H Q E, sp' vs H Q E → sp vs H Q E) : FnC P w K mg base CX k f fd ps sp' :=
  ⟨fun vs H Q E q => F.many vs H Q E (h _ _ _ _ q), fun A outer s H args us vs Q E hr g he hb hv hs => F.go A outer s H args us vs Q E hr g he hb hv (h _ _ _ _ hs)⟩
theorem fnC_of {CX : CXT} {x qual : Str} {params : Arguments} {sbody : List Stmt} {scope : Scope} {dV kV doc pm cdv ct oc : Value} {an od : Option Addr} {osl : Array (Option Value)} {f : Addr} {N ps : List Str} {k : Nat} {sp : Sp}
    (lk : K.lookup f = some ⟨oc, od, .func (PySem.W.fnOf x qual params sbody scope dV kV doc pm an cdv ct), osl⟩) (hcd : PySem.W.codeIn K cdv qual = true) (S : FnScope N ps scope)
    (len : ∀ vs H Q E, sp vs H Q E → vs.length = ps.length)
    (body : ∀ (A : Around) (outer : List Env) (s : Shared) (H : Hp) (vs : List V) (Q : VK) (E : XK),
      Room k (A.deeper (envOfC qual scope s.heap.objs.size f cdv)) → A.guards = some [] → sp vs H Q E →
      ∃ t, PSs (cxOf CX P w K mg base N qual scope f cdv A outer s H E) sbody t ∧ t { nx := fun _ H' => Q .non H', rt := Q } (start N vs) H) :
    FnC P w K mg base CX (k + 1) f (PySem.W.fnOf x qual params sbody scope dV kV doc pm an cdv ct) ps sp := by
  refine ⟨len, fun A outer s H args us vs Q E room gua env bnd rel want => ?_⟩
  have hl := len _ _ _ _ want
  have kin : K.In s.heap := env.mod.kin.keeps fun b o e => (env.bs b o e).1
  have lim : s.heap.NoLimit := env.mod.nolimit.keeps fun b o e => (env.bs b o e).1
  have kinds : ∀ y ∈ ps.zip us, scope.names.lookup y.1 = some .local ∨ (scope.names.lookup y.1 = some .cell ∧ ((cellsFrom (s.heap.objs.size + 1) scope.names []).lookup y.1).isSome = true) := by
    intro y hy
    obtain ⟨n, v⟩ := y
    have hp := S.par n (List.of_mem_zip hy).1
    cases hp with
    | inl q => exact Or.inl q
    | inr q => exact Or.inr ⟨q, PySem.W.cellsFrom_some _ _ _ (Or.inl q)⟩
  refine codeAny_call_function room.depth (kin _ _ lk) rfl S.co S.gen rfl (PySem.W.codeRec_of kin hcd) (bnd _ _ _ _ ?_)
  refine wpAny_newFunctionEnv_cells S.kind kinds ?_
  intro e2 he2 s1 x
  subst he2
  refine ⟨lim.keeps x.toInCall.keep, codeAny_func ?_⟩
  obtain ⟨t, ht, hq⟩ := body A outer s H vs Q E (room.deeper _) gua want
  have I : L2.Inv (cxOf CX P w K mg base N qual scope f cdv A outer s H E) [] (start N vs) H s1 := inv_start S room.hd env hl rel x
  refine wpAny_mono (ht.run [] s1 (start N vs) H _ I hq) ?_ (fun e s' hs => hs)
  intro fl s' hs
  cases fl with
  | ret u =>
    obtain ⟨v, σ', H', J, rv, q⟩ := hs
    exact ⟨v, H', J.os, J.bare, J.base, J.hok, rv, q⟩
  | next =>
    obtain ⟨σ', H', J, q⟩ := hs
    exact ⟨V.non, H', J.os, J.bare, J.base, J.hok, rfl, q⟩
  | brk =>
    obtain ⟨σ', H', J, q⟩ := hs
    exact False.elim q
  | cont =>
    obtain ⟨σ', H', J, q⟩ := hs
    exact False.elim q
/-- the slots at a body's begin -/
def startD (N : List Str) (ds : List D) : Rho := ds.map SV.val ++ List.replicate (N.length - ds.length) SV.unk
theorem start_val {N : List Str} {ds : List D} {vs : List V} {as : List Addr} {Hv : Hp} (r : Reps O K as Hv vs ds) : ∀ (i : Nat) (d : D), (startD N ds)[i]? = some (.val d) → ∃ v, (start N vs)[i]? = some (some v) ∧ Rep O K as Hv v d := by
  intro i d e
  have hl := r.length
  unfold startD at e
  by_cases h : i < ds.length
  · rw [List.getElem?_append_left (by simpa using h), List.getElem?_map] at e
    cases q : ds[i]? with
    | none => rw [q] at e; cases e
    | some d' =>
      rw [q] at e
      cases e
      obtain ⟨v, hv, rv⟩ := r.getD i d q
      refine ⟨v, ?_, rv⟩
      unfold L2.start
      rw [List.getElem?_append_left (by rw [List.length_map, hl]; exact h), List.getElem?_map, hv]
      rfl
  · rw [List.getElem?_append_right (by simpa using h), List.getElem?_replicate] at e
    split at e <;> cases e
theorem start_own {N : List Str} {ds : List D} {i : Nat} {m : M} (e : (startD N ds)[i]? = some (.own m)) : False := by
  unfold startD at e
  by_cases h : i < ds.length
  · rw [List.getElem?_append_left (by simpa using h), List.getElem?_map] at e
    cases q : ds[i]? with
    | none => rw [q] at e; cases e
    | some d' => rw [q] at e; cases e
  · rw [List.getElem?_append_right (by simpa using h), List.getElem?_replicate] at e
    split at e <;> cases e
theorem fnD_of {x qual : Str} {st : Stmt} {f : Addr} {fd : FuncData} {N ps : List Str} {k : Nat} {sp : SpD} (F : Fun K x qual st f fd) (S : FnScope N ps (defScope st))
    (len : ∀ ds μ Φ Ψ, sp ds μ Φ Ψ → ds.length = ps.length)
    (body : ∃ r : DS, (∀ (B : Par) (cdv : Value) (A : Around) (outer : List Env) (s : Shared) (H : Hp) (E : XK), B.O = O → B.K = K → B.W = (fun cls d _ H => E cls d H) →
        Room k (A.deeper (envOfC qual (defScope st) s.heap.objs.size f cdv)) → A.guards = some [] → L2N.Takes (cxOf (L2N.CX P w) P w K mg base N qual (defScope st) f cdv A outer s H E) B.W →
        PassesOwn (model P w) (A.deeper (envOfC qual (defScope st) s.heap.objs.size f cdv)) (envOfC qual (defScope st) s.heap.objs.size f cdv) (cxOf (L2N.CX P w) P w K mg base N qual (defScope st) f cdv A outer s H E).xe →
        PDSs (cxOf (L2N.CX P w) P w K mg base N qual (defScope st) f cdv A outer s H E) B (defBody st) r) ∧
      ∀ ds μ Φ Ψ, ds.all D.kept = true → sp ds μ Φ Ψ → r { nx := fun _ μ' => Φ .non μ', rt := Φ, ex := fun e _ μ' => Ψ e μ' } (startD N ds) μ) :
    FnD O P w K mg base (k + 1) f fd ps sp := by
  obtain ⟨oc, od, kV, doc, pm, an, cdv, ct, osl, efd, lk, hcd⟩ := F.ex
  subst efd
  obtain ⟨r, der, want⟩ := body
  refine fnC_of lk hcd S (fun vs H Q E h => ?_) fun A outer s H vs Q E room gua h => ?_
  · obtain ⟨F, as, ds, μ, Φ, Ψ, rs, _, _, _, q, _⟩ := h
    rw [rs.length]
    exact len _ _ _ _ q
  obtain ⟨F, as, ds, μ, Φ, Ψ, rs, mo, ft, fa, q, fin, exc⟩ := h
  let B : Par := ⟨O, K, ⟨F, as, X0 F as, H, H, []⟩, fun cls d _ H => E cls d H⟩
  refine ⟨_, der B cdv A outer s H E rfl rfl rfl room gua (L2N.takes_of rfl rfl rfl rfl) PassesOwn.leaving, ?_⟩
  have noOwn : ∀ a, ¬ Own (startD N ds) (start N vs) a := fun a ⟨i, m, e, _⟩ => start_own e
  have xx : XX F as (startD N ds) (start N vs) = X0 F as := funext fun a => propext ⟨fun h => by
    rcases h with h | h | h
    · exact Or.inl h
    · exact Or.inr h
    · exact absurd h (noOwn a), fun h => by
    rcases h with h | h
    · exact Or.inl h
    · exact Or.inr (Or.inl h)⟩
  have S0 : SimB B as (startD N ds) μ (start N vs) H := by
    refine ⟨?_, fun i d e => ?_, fun i m e => (start_own e).elim, fun i j m n p e => (start_own e).elim, ?_, ?_, fun _ _ => rfl, ft, fa, fun q hq => nomatch hq⟩
    · unfold startD L2.start
      simp [rs.length]
    · show ∃ v, _ ∧ Rep O K as (Res (fun a => ¬ XX F as (startD N ds) (start N vs) a) H) v d
      rw [xx]
      exact start_val rs i d e
    · show MuOk O K as (Res (fun a => ¬ XX F as (startD N ds) (start N vs) a) H) H μ
      rw [xx]
      exact mo
    · show Grow O K as (X0 F as) H as (XX F as (startD N ds) (start N vs)) H
      rw [xx]
      exact Grow.refl
  have kp : ∀ {vs : List V} {ds : List D} {Hv : Hp}, Reps O K as Hv vs ds → ds.all D.kept = true := fun {vs ds Hv} r => by
    induction ds generalizing vs with
    | nil => rfl
    | cons d ds ih =>
      cases r with
      | cons a r => rw [List.all_cons, a.kept, ih r]; rfl
  have post : ∀ {as' : List Addr} {ρ' : Rho} {μ' : Mu} {σ' : L2.St} {H' : Hp}, SimB B as' ρ' μ' σ' H' → Post O K F as H as' H' μ' := fun {as' ρ' μ' σ' H'} S' => by
    have le : ∀ a, X0 F as' a → XX F as' ρ' σ' a := fun a h => by
      rcases h with h | h
      · exact Or.inl h
      · exact Or.inr (Or.inl h)
    exact ⟨S'.base.shrink le, ⟨S'.mu.len, S'.mu.nod, fun j m p a b => by
      obtain ⟨o, ho, q⟩ := S'.mu.mu j m p a b
      exact ⟨o, ho, q.le (see_more fun a w z => w (le a z))⟩⟩, S'.stay, S'.fas⟩
  have wide : ∀ {as' : List Addr} {ρ' : Rho} {σ' : L2.St} {H' : Hp} (a : Addr) (o : HO), vis B as' ρ' σ' H' a = some o → vis0 F as' H' a = some o := fun {as' ρ' σ' H'} => see_more fun a w z => w (by
    rcases z with z | z
    · exact Or.inl z
    · exact Or.inr (Or.inl z))
  refine ⟨as, startD N ds, μ, _, S0, want ds μ Φ Ψ (kp rs) q, ⟨fun as' ρ' μ' σ' H' S' q' => ?_, fun as' ρ' μ' σ' H' v d S' rv q' => ?_, fun _ _ _ _ _ _ z => z.elim, fun _ _ _ _ _ _ z => z.elim, fun σ e as' ρ' μ' H' cls dx q' S' ok => ?_⟩⟩
  · exact fin .non μ' as' H' .non q' (post S') .non
  · exact fin d μ' as' H' v q' (post S') (rv.le wide)
  · refine exc e μ' as' H' cls dx q' (post S') ?_
    obtain ⟨C, e1, e2, h⟩ := ok
    refine ⟨C, e1, e2, ?_⟩
    rcases h with h | ⟨a, fs, h1, h2, h3, h4⟩
    · exact Or.inl h
    · exact Or.inr ⟨a, fs, h1, wide _ _ h2, h3, h4.le wide⟩
end
end Dl
namespace Dl
open PySem PySem.Spec PyProof.Rows L2
/-! ### calls -/
def tCallC (sp : Sp) (E : L2.St → XK) (t : TA) : TE := fun σ H Q => t σ H fun vs H1 => sp vs H1 Q (E σ)
section
variable {X : Cx} {CX : CXT} {k : Nat} {f : Addr} {fd : FuncData} {ps : List Str} {sp : Sp} {E : L2.St → XK} {x : Str} {p pos : Pos} {e : Expr} {es : List Expr} {t : TA}
theorem run_fnC {pins : List (Addr × Obj)} {σ : L2.St} {H : Hp} {s : Shared} {Q : VK} {us : List Value} {vs : List V} (F : FnC X.prog X.w X.K X.mg X.base CX k f fd ps sp) (hr : Room k X.A) (gua : X.A.guards = some []) (hb : Binds X.K fd ps []) (hx : PassesAt CX X σ (E σ))
    (I : L2.Inv X pins σ H s) (r : Vals vs us) (h : sp vs H Q (E σ)) : wpAny (model X.prog X.w) X.A (call (.ref f) us) (EP X pins σ Q) X.xe s := by
  have hl : (us ++ []).length = ps.length := by
    rw [List.append_nil, ← r.length]
    exact F.many _ _ _ _ h
  have b := hb s us I.kIn hl
  rw [List.append_nil] at b
  refine wpAny_call (codeAny_mono (F.go X.A X.stack s H ⟨us, []⟩ us vs Q (E σ) hr gua I.env0 b r h) fun r s' hq => ?_)
  cases r with
  | error e => exact hx pins H s e s' I hq
  | ok fl =>
    cases fl with
    | ret u => exact I.after hq
    | next => exact False.elim hq
    | brk => exact False.elim hq
    | cont => exact False.elim hq
theorem pe_callC (F : FnC X.prog X.w X.K X.mg X.base CX k f fd ps sp) (hr : Room k X.A) (gua : X.A.guards = some []) (hg : Gl X x) (hm : X.mg x = some (.ref f)) (hk : PySem.W.keepIn X.K (.ref f) = true) (hb : Binds X.K fd ps []) (hx : ∀ σ, PassesAt CX X σ (E σ))
    (ha : PA X (e :: es) t) (hdb : (x == ("__debug__" : Str)) = false := by decide) (he : starEach (e :: es) X.env = (false, eval e X.env) :: starEach es X.env := by rfl) (hpl : (backTo pos (starEach es X.env)).any (·.1) = false := by rfl) :
    PE X (.Call (.Name x p) (e :: es) [] pos) (tCallC sp E t) := by
  refine ⟨fun pins s σ H Q I h => ?_⟩
  refine wpAny_Call_Name_kw (ld_glob I hg hm ?_ hdb)
  refine PySem.W.callWith_K (h₀ := X.base) I.ok.mod.kin hk (thn (ha.run pos pins s σ H _ I h) fun us s1 ⟨vs, H1, I1, r, q⟩ => ⟨I1.kIn, ?_⟩) he hpl
  exact run_fnC F hr gua hb (hx σ) I1 r q
theorem pe_callC0 (F : FnC X.prog X.w X.K X.mg X.base CX k f fd ps sp) (hr : Room k X.A) (gua : X.A.guards = some []) (hg : Gl X x) (hm : X.mg x = some (.ref f)) (hk : PySem.W.keepIn X.K (.ref f) = true) (hb : Binds X.K fd ps []) (hx : ∀ σ, PassesAt CX X σ (E σ))
    (hdb : (x == ("__debug__" : Str)) = false := by decide) : PE X (.Call (.Name x p) [] [] pos) (tCallC sp E tNil) := by
  refine ⟨fun pins s σ H Q I h => ?_⟩
  refine wpAny_Call_Name_kw (ld_glob I hg hm ?_ hdb)
  exact PySem.W.callWith_K0 I.kIn hk (run_fnC (us := []) F hr gua hb (hx σ) I .nil h)
end
/-- what is handed in: trees; whether a slot's own thing is among them -/
def pass (ρ : Rho) : List D → Option (List D × Bool)
  | [] => some ([], false)
  | .var i :: ds => match ρ[i]?, pass ρ ds with
    | some (.own m), some (es, _) => m.tree.map fun d => (d :: es, true)
    | some (.val d), some (es, b) => some (d :: es, b)
    | _, _ => none
  | d :: ds => match pass ρ ds with
    | some (es, b) => some (d :: es, b)
    | none => none
def SV.noIns : SV → Bool
  | .own (.ins _ _ _) => false
  | .own (.dic _) => false
  | .own (.dit _) => false
  | .own .gone => false
  | _ => true
section
variable {B : Par} {X : Cx} {as as' : List Addr} {ρ ρ' : Rho} {μ μ' : Mu} {σ σ' : L2.St} {H H' : Hp} {v w : V} {d d' : D} {i : Nat} {m m' : M} {p : Addr} {o : HO}
theorem Grow.widen {O : Objs} {K : PySem.W.Frag} {X X' S : Addr → Prop} (g : Grow O K as X H as' X' H') (t : ∀ a, S a → H a ≠ none) : Grow O K as (fun a => X a ∨ S a) H as' (fun a => X' a ∨ S a) H' where
  pre := g.pre
  new := fun p a b => by
    rcases a with a | a
    · exact g.new p a fun z => b (Or.inl z)
    · exact absurd (Or.inr a) b
  raw := fun p o n e => by
    obtain ⟨o', e', h | ⟨k, C, dx, fs, fs', e1, e2, tg, a1, a2, a3⟩⟩ := g.raw p o (fun z => n (Or.inl z)) e
    · exact ⟨o', e', Or.inl h⟩
    · refine ⟨o', e', Or.inr ⟨k, C, dx, fs, fs', e1, e2, tg, a1, a2, fun f gm v m l => ?_⟩⟩
      rcases a3 f gm v m l with z | ⟨z, v', l', q⟩
      · exact Or.inl z
      · refine Or.inr ⟨z, v', l', fun vs ds lv r => (q vs ds lv (r.le (see_more fun a w z => w (Or.inl z)))).le (see_more fun a w => ⟨w.1, fun z => ?_⟩)⟩
        rcases z with z | z
        · exact w.2 z
        · exact t a z w.1
  trk := g.trk
theorem xx_eq {F : Addr → Prop} : X0 (fun a => F a ∨ Own ρ σ a) as = XX F as ρ σ := rfl
/-- behind a call -/
theorem SimB.after (S : SimB B as ρ μ σ H) (q : Post B.O B.K (fun a => B.fm.F a ∨ Own ρ σ a) as H as' H' μ') : SimB B as' ρ μ' σ H' ∧ StepB B as ρ σ H as' ρ H' := by
  have g : Grow B.O B.K as (XX B.fm.F as ρ σ) H as' (XX B.fm.F as' ρ σ) H' := q.g
  have hF : ∀ p, B.fm.F p → H' p = H p := fun p h => q.stay p (Or.inl h)
  refine ⟨⟨S.len, fun i d e => ?_, fun i m e => ?_, S.one, q.mu, S.base.trans g, fun p h => (hF p h).trans (S.stay p h), fun p h => by rw [hF p h]; exact S.ftrk p h, fun p h => q.fas p (Or.inl h), fun z hz => (S.pin z hz).grow g g.see⟩, ⟨g⟩⟩
  · obtain ⟨v, s, r⟩ := S.val i d e
    exact ⟨v, s, g.rep g.see r⟩
  · obtain ⟨p, s, ⟨o, ho, r⟩, n, f⟩ := S.own i m e
    have ow : Own ρ σ p := ⟨i, m, e, s⟩
    exact ⟨p, s, ⟨o, by rw [q.stay p (Or.inr ow)]; exact ho, MObj.grow g g.see r⟩, q.fas p (Or.inr ow), f⟩
theorem MObj.flat {as2 : List Addr} {O : Objs} {K : PySem.W.Frag} {Hv H2 : Hp} (f : m.flat = true) (q : MObj O K as Hv p o m) : MObj O K as2 H2 p o m := by
  cases m with
  | lst xs => obtain ⟨vs, e, r⟩ := q; exact ⟨vs, e, r.flat f⟩
  | dic ds => cases f
  | dit ds => cases f
  | ins k a fs => cases f
  | box n => exact q
  | gone => exact q
/-- behind a call that was handed a slot's own thing to look at -/
theorem SimB.afterB (S : SimB B as ρ μ σ H) (ni : ρ.all SV.noIns = true) (fl : μ'.all M.flat = true) (q : Post B.O B.K B.fm.F as H as' H' μ') : SimB B as' ρ μ' σ H' ∧ StepB B as ρ σ H as' ρ H' := by
  have trk : ∀ a, Own ρ σ a → H a ≠ none := fun a ⟨i, m, e, s⟩ z => by
    obtain ⟨p, s', ⟨o, ho, _⟩, _⟩ := S.own i m e
    rw [s] at s'
    cases s'
    rw [z] at ho
    cases ho
  have eq : ∀ as2, (fun a => X0 B.fm.F as2 a ∨ Own ρ σ a) = XX B.fm.F as2 ρ σ := fun as2 => funext fun a => propext (by unfold X0 XX; rw [or_assoc])
  have g : Grow B.O B.K as (XX B.fm.F as ρ σ) H as' (XX B.fm.F as' ρ σ) H' := by
    have := q.g.widen trk
    rw [eq, eq] at this
    exact this
  refine ⟨⟨S.len, fun i d e => ?_, fun i m e => ?_, S.one, ⟨q.mu.len, q.mu.nod, fun j m p a b => ?_⟩, S.base.trans g, fun p h => (q.stay p h).trans (S.stay p h), fun p h => by rw [q.stay p h]; exact S.ftrk p h, q.fas, fun z hz => (S.pin z hz).grow g g.see⟩, ⟨g⟩⟩
  · obtain ⟨v, s, r⟩ := S.val i d e
    exact ⟨v, s, g.rep g.see r⟩
  · obtain ⟨p, s, ⟨o, ho, r⟩, n, f⟩ := S.own i m e
    have out : ¬ X0 B.fm.F as p := by
      rintro (z | z)
      · exact n z
      · exact f z
    have no : still o = true := by
      have := List.all_eq_true.mp ni _ (List.mem_of_getElem? e)
      cases m with
      | ins k a fs => cases this
      | lst xs => obtain ⟨vs, rfl, _⟩ := r; rfl
      | dic ds => cases this
      | dit ds => cases this
      | box n => obtain ⟨a, b, c, rfl, _⟩ := r; rfl
      | gone => cases this
    exact ⟨p, s, ⟨o, q.g.same out ho no, MObj.grow g g.see r⟩, fun z => q.g.out out ho (Or.inl z), f⟩
  · obtain ⟨o, ho, r⟩ := q.mu.mu j m p a b
    exact ⟨o, ho, r.flat (List.all_eq_true.mp fl _ (List.mem_of_getElem? a))⟩
theorem pass_kept (S : SimB B as ρ μ σ H) : ∀ {vs : List V} {ds ds' : List D}, RepTsB B as ρ σ H vs ds → pass ρ ds = some (ds', false) → RepsB B as ρ σ H vs ds'
  | _, _, _, .nil, e => by
    cases e
    exact .nil
  | _, _, ds', .cons (d := d) (ds := ds) a r, e => by
    rcases a.cases with ⟨i, p, rfl, rfl, s⟩ | ⟨k, a⟩
    · simp only [pass] at e
      cases h1 : ρ[i]? with
      | none => rw [h1] at e; simp at e
      | some sv =>
        rw [h1] at e
        cases h2 : pass ρ ds with
        | none => rw [h2] at e; cases sv <;> simp at e
        | some y =>
          obtain ⟨es, b⟩ := y
          rw [h2] at e
          cases sv with
          | unk => simp at e
          | own m => cases hm : m.tree <;> simp [hm] at e
          | val d =>
            simp at e
            obtain ⟨e1, e2⟩ := e
            subst e1
            subst e2
            obtain ⟨v, s', q⟩ := S.val i _ h1
            rw [s] at s'
            cases s'
            exact .cons q (pass_kept S r h2)
    · have e' : (match pass ρ ds with | some (es, b) => some (d :: es, b) | none => none) = some (ds', false) := by
        cases d <;> first | exact e | cases k
      cases h2 : pass ρ ds with
      | none => rw [h2] at e'; cases e'
      | some y =>
        obtain ⟨es, b⟩ := y
        rw [h2] at e'
        simp at e'
        obtain ⟨e1, e2⟩ := e'
        subst e1
        subst e2
        exact .cons a (pass_kept S r h2)
theorem le0 : ∀ a o, vis B as ρ σ H a = some o → vis0 B.fm.F as H a = some o := see_more fun a w z => w (by
  rcases z with z | z
  · exact Or.inl z
  · exact Or.inr (Or.inl z))
/-- .. a slot's own thing looked at as it is -/
theorem pass_any (S : SimB B as ρ μ σ H) : ∀ {vs : List V} {ds ds' : List D} {b : Bool}, RepTsB B as ρ σ H vs ds → pass ρ ds = some (ds', b) → Reps B.O B.K as (vis0 B.fm.F as H) vs ds'
  | _, _, _, _, .nil, e => by
    cases e
    exact .nil
  | _, _, ds', b, .cons (d := d) (ds := ds) a r, e => by
    rcases a.cases with ⟨i, p, rfl, rfl, s⟩ | ⟨k, a⟩
    · simp only [pass] at e
      cases h1 : ρ[i]? with
      | none => rw [h1] at e; simp at e
      | some sv =>
        rw [h1] at e
        cases h2 : pass ρ ds with
        | none => rw [h2] at e; cases sv <;> simp at e
        | some y =>
          obtain ⟨es, b2⟩ := y
          rw [h2] at e
          cases sv with
          | unk => simp at e
          | own m =>
            cases hm : m.tree with
            | none => simp [hm] at e
            | some d2 =>
              simp [hm] at e
              obtain ⟨e1, e2⟩ := e
              subst e1
              obtain ⟨p', s', ⟨o, ho, q⟩, n, f⟩ := S.own i m h1
              rw [s] at s'
              cases s'
              refine .cons (q.tree hm le0 (res_some.mpr ⟨?_, ho⟩)) (pass_any S r h2)
              rintro (z | z)
              · exact n z
              · exact f z
          | val d =>
            simp at e
            obtain ⟨e1, e2⟩ := e
            subst e1
            obtain ⟨v, s', q⟩ := S.val i _ h1
            rw [s] at s'
            cases s'
            exact .cons (q.le le0) (pass_any S r h2)
    · have e' : (match pass ρ ds with | some (es, b) => some (d :: es, b) | none => none) = some (ds', b) := by
        cases d <;> first | exact e | cases k
      cases h2 : pass ρ ds with
      | none => rw [h2] at e'; cases e'
      | some y =>
        obtain ⟨es, b2⟩ := y
        rw [h2] at e'
        simp at e'
        obtain ⟨e1, e2⟩ := e'
        subst e1
        exact .cons (a.le le0) (pass_any S r h2)
def rCall (sp : SpD) (ra : DA) : DE := fun ρ μ Φ Ψ => ra ρ μ (fun ds ρ1 μ1 => ∃ ds2 fl, pass ρ1 ds = some (ds2, fl) ∧ (fl = true → ρ1.all SV.noIns = true) ∧
  sp ds2 μ1 (fun d μ2 => (fl = true → d.flat = true ∧ μ2.all M.flat = true) ∧ Φ d ρ1 μ2) fun e μ2 => fl = false ∧ Ψ e ρ1 μ2) Ψ
/-- what a def promises is enough for what is wanted of its call -/
theorem lift_call {sp : SpD} {ra : DA} {Q : VK} (h : LE B (rCall sp ra) σ H Q) : tCallC (spV B.O B.K sp) (fun σ => WE B.W σ) (LA B ra) σ H Q := by
  obtain ⟨as, ρ, μ, Φ, Ψ, S, r, x, fin⟩ := h
  refine ⟨as, ρ, μ, _, Ψ, S, r, x, fun ds as1 ρ1 μ1 H1 vs q1 k1 S1 t1 => ?_⟩
  obtain ⟨ds2, fl, e, ni, q⟩ := q1
  cases fl with
  | false =>
    have trk : ∀ p, (B.fm.F p ∨ Own ρ1 σ p) → H1 p ≠ none := fun p h z => by
      have := S1.sight z
      exact this (Or.inr h)
    have fas : ∀ p, (B.fm.F p ∨ Own ρ1 σ p) → p ∉ as1 := fun p h => by
      rcases h with h | ⟨i, m, e1, e2⟩
      · exact S1.fas p h
      · obtain ⟨p', s, _, n, _⟩ := S1.own i m e1
        rw [e2] at s
        cases s
        exact n
    refine ⟨fun a => B.fm.F a ∨ Own ρ1 σ a, as1, ds2, μ1, _, _, pass_kept S1 t1 e, S1.mu, trk, fas, q, fun d μ' as' H' v q' P r' => ?_, fun e' μ' as' H' cls dx q' P ok => ?_⟩
    · obtain ⟨S2, k2⟩ := S1.after P
      exact fin d as' ρ1 μ' H' v q'.2 (k1.trans k2) S2 (show RepB B as' ρ1 σ H' v d from r').t
    · obtain ⟨S2, k2⟩ := S1.after P
      exact x e' as' ρ1 μ' H' cls dx q'.2 S2 ok
  | true =>
    refine ⟨B.fm.F, as1, ds2, μ1, _, _, pass_any S1 t1 e, ⟨S1.mu.len, S1.mu.nod, fun j m p a b => ?_⟩, S1.ftrk, S1.fas, q, fun d μ' as' H' v q' P r' => ?_, fun e' μ' as' H' cls dx q' P ok => by cases q'.1⟩
    · obtain ⟨o, ho, r⟩ := S1.mu.mu j m p a b
      exact ⟨o, ho, r.le le0⟩
    · obtain ⟨f1, f2⟩ := q'.1 rfl
      obtain ⟨S2, k2⟩ := S1.afterB (ni rfl) f2 P
      exact fin d as' ρ1 μ' H' v q'.2 (k1.trans k2) S2 (r'.flat f1).t
variable {k : Nat} {f : Addr} {fd : FuncData} {ps : List Str} {sp : SpD} {x : Str} {pp pos : Pos} {e : Expr} {es : List Expr} {ra : DA}
theorem pd_call (F : FnD B.O X.prog X.w B.K X.mg X.base k f fd ps sp) (hr : Room k X.A) (gua : X.A.guards = some []) (tk : L2N.Takes X B.W) (hg : Gl X x) (hm : X.mg x = some (.ref f)) (hk : PySem.W.keepIn B.K (.ref f) = true) (hb : Binds B.K fd ps [])
    (ha : PDA X B (e :: es) ra) (hK : X.K = B.K := by rfl) (hdb : (x == ("__debug__" : Str)) = false := by decide) (he : starEach (e :: es) X.env = (false, eval e X.env) :: starEach es X.env := by rfl) (hpl : (backTo pos (starEach es X.env)).any (·.1) = false := by rfl) :
    PD X B (.Call (.Name x pp) (e :: es) [] pos) (rCall sp ra) := by
  refine (pe_callC (X := X) (E := fun σ => WE B.W σ) (sp := spV B.O B.K sp) (CX := L2N.CX X.prog X.w) (k := k) (f := f) (fd := fd) (ps := ps) ?_ hr gua hg hm ?_ ?_ (fun σ => L2N.passAt tk σ) ha hdb he hpl).imp fun σ H Q h => lift_call h
  · rw [hK]; exact F
  · rw [hK]; exact hk
  · rw [hK]; exact hb
theorem pd_call0 (F : FnD B.O X.prog X.w B.K X.mg X.base k f fd ps sp) (hr : Room k X.A) (gua : X.A.guards = some []) (tk : L2N.Takes X B.W) (hg : Gl X x) (hm : X.mg x = some (.ref f)) (hk : PySem.W.keepIn B.K (.ref f) = true) (hb : Binds B.K fd ps [])
    (hK : X.K = B.K := by rfl) (hdb : (x == ("__debug__" : Str)) = false := by decide) : PD X B (.Call (.Name x pp) [] [] pos) (rCall sp rNil) := by
  refine (pe_callC0 (X := X) (E := fun σ => WE B.W σ) (sp := spV B.O B.K sp) (CX := L2N.CX X.prog X.w) (k := k) (f := f) (fd := fd) (ps := ps) ?_ hr gua hg hm ?_ ?_ (fun σ => L2N.passAt tk σ) hdb).imp fun σ H Q h => ?_
  · rw [hK]; exact F
  · rw [hK]; exact hk
  · rw [hK]; exact hb
  · obtain ⟨as, ρ, μ, Φ, Ψ, S, r, x, fin⟩ := lift_call h
    exact fin [] as ρ μ H [] r .refl S .nil
end
end Dl
namespace Dl
open PySem PySem.Spec PyProof.Rows L2
section
variable {B : Par} {X : Cx} {as as' : List Addr} {ρ ρ' : Rho} {μ μ' : Mu} {σ σ' : L2.St} {H H' : Hp} {v w : V} {d d' : D} {i : Nat} {m m' : M} {p : Addr} {o : HO}
/-! ### displays -/
def rTup (ra : DA) : DE := fun ρ μ Φ Ψ => ra ρ μ (fun ds ρ1 μ1 => ds.all D.kept = true ∧ ds.length ≤ sizeLine ∧ Φ (.tup ds) ρ1 μ1) Ψ
theorem pd_tup {es : List Expr} {ra : DA} {x1} {pos : Pos} (h : PDA X B es ra) : PD X B (.Tuple es x1 pos) (rTup ra) := (pe_tup h).imp fun σ H Q h => by
  obtain ⟨as, ρ, μ, Φ, Ψ, S, r, x, fin⟩ := h
  refine ⟨as, ρ, μ, _, Ψ, S, r, x, fun ds as1 ρ1 μ1 H1 vs q1 k1 S1 t1 => ?_⟩
  obtain ⟨kp, hz, q⟩ := q1
  have rs := t1.reps kp
  refine ⟨by rw [rs.length]; exact hz, fun p n => ?_⟩
  have up := ext_lay (o := HO.tup vs) n
  exact fin _ as1 ρ1 μ1 _ _ q (k1.trans (.ext up)) (S1.ext up) (show RepB B as1 ρ1 σ _ _ _ from .tup (res_some.mpr ⟨S1.sight n, upd_same⟩) (rs.le (res_ext up))).t
def rLst (ra : DA) : DF := fun ρ μ Φ Ψ => ra ρ μ (fun ds ρ1 μ1 => ds.all D.kept = true ∧ ds.length ≤ sizeLine ∧ Φ (.lst ds) ρ1 μ1) Ψ
theorem pdf_lst {es : List Expr} {ra : DA} {pos : Pos} (h : PDA X B es ra) : PDF X B (.List es pos) (rLst ra) := (pe_lst h).imp fun σ H Q h => by
  obtain ⟨as, ρ, μ, Φ, Ψ, S, r, x, fin⟩ := h
  refine ⟨as, ρ, μ, _, Ψ, S, r, x, fun ds as1 ρ1 μ1 H1 vs q1 k1 S1 t1 => ?_⟩
  obtain ⟨kp, hz, q⟩ := q1
  have rs := t1.reps kp
  refine ⟨by rw [rs.length]; exact hz, fun p n => ?_⟩
  exact fin _ as1 ρ1 μ1 H1 p (.lst vs) q k1 S1 n ⟨vs, rfl, rs⟩ fun _ _ _ z => nomatch z
/-- a new thing, as a tree -/
def rTree (rf : DF) : DE := fun ρ μ Φ Ψ => rf ρ μ (fun m ρ1 μ1 => ∃ d, m.tree = some d ∧ Φ d ρ1 μ1) Ψ
theorem PDF.pd {e : Expr} {rf : DF} (h : PDF X B e rf) : PD X B e (rTree rf) := L2.PE.imp h fun σ H Q h => by
  obtain ⟨as, ρ, μ, Φ, Ψ, S, r, x, fin⟩ := h
  refine ⟨as, ρ, μ, _, Ψ, S, r, x, fun m as1 ρ1 μ1 H1 p o q1 k1 S1 n mo _ => ?_⟩
  obtain ⟨d, t, q⟩ := q1
  have up := ext_lay (o := o) n
  exact fin _ as1 ρ1 μ1 _ _ q (k1.trans (.ext up)) (S1.ext up) (show RepB B as1 ρ1 σ _ _ _ from mo.tree t (res_ext up) (res_some.mpr ⟨S1.sight n, upd_same⟩)).t
/-! ### built-in functions -/
def CallS (B : Par) (r : List V → Hp → VK → Prop) (o : List D → Rho → Mu → (D → Prop) → Prop) : Prop :=
  ∀ {as ρ μ σ H ds vs} {Φ : D → Prop} {Q : VK}, SimB B as ρ μ σ H → RepTsB B as ρ σ H vs ds → o ds ρ μ Φ →
    (∀ d v H', Φ d → (∀ a u, H a = some u → H' a = some u) → RepB B as ρ σ H' v d → Q v H') → r vs H Q
def rFn (o : List D → Rho → Mu → (D → Prop) → Prop) (ra : DA) : DE := fun ρ μ Φ Ψ => ra ρ μ (fun ds ρ1 μ1 => o ds ρ1 μ1 fun d => Φ d ρ1 μ1) Ψ
theorem lift_fn {r : List V → Hp → VK → Prop} {o : List D → Rho → Mu → (D → Prop) → Prop} {ra : DA} (s : CallS B r o) {Q : VK} (h : LE B (rFn o ra) σ H Q) : tCB r (LA B ra) σ H Q := by
  obtain ⟨as, ρ, μ, Φ, Ψ, S, q, x, fin⟩ := h
  refine ⟨as, ρ, μ, _, Ψ, S, q, x, fun ds as1 ρ1 μ1 H1 vs q1 k1 S1 t1 => ?_⟩
  exact s S1 t1 q1 fun d v H' q up rv => fin d as1 ρ1 μ1 H' v q (k1.trans (.ext up)) (S1.ext up) rv.t
variable {x : Str} {pp pos : Pos} {e : Expr} {es : List Expr} {ra : DA} {id T : String} {r : List V → Hp → VK → Prop} {of : List D → Rho → Mu → (D → Prop) → Prop}
theorem pd_fn (hc : CallR X (.builtin id) r) (s : CallS B r of) (hg : Gl X x) (hm : X.mg x = none) (hv : bootBuiltins x = some (.builtin id)) (ha : PDA X B (e :: es) ra) (hn : x ≠ "__name__" := by decide) (hdb : (x == ("__debug__" : Str)) = false := by decide)
    (he : starEach (e :: es) X.env = (false, eval e X.env) :: starEach es X.env := by rfl) (hpl : (backTo pos (starEach es X.env)).any (·.1) = false := by rfl) : PD X B (.Call (.Name x pp) (e :: es) [] pos) (rFn of ra) :=
  (pe_callB hc hg hm hv ha hn hdb he hpl).imp fun _ _ _ h => lift_fn s h
theorem pd_ty (hc : CallR X (.type T) r) (s : CallS B r of) (hg : Gl X x) (hm : X.mg x = none) (hv : bootBuiltins x = some (.type T)) (ha : PDA X B (e :: es) ra) (hn : x ≠ "__name__" := by decide) (hdb : (x == ("__debug__" : Str)) = false := by decide)
    (he : starEach (e :: es) X.env = (false, eval e X.env) :: starEach es X.env := by rfl) (hpl : (backTo pos (starEach es X.env)).any (·.1) = false := by rfl) : PD X B (.Call (.Name x pp) (e :: es) [] pos) (rFn of ra) :=
  (pe_callTy hc hg hm hv ha hn hdb he hpl).imp fun _ _ _ h => lift_fn s h
/-- .. that make a new thing -/
def CallF (B : Par) (r : List V → Hp → VK → Prop) (o : List D → Rho → Mu → (M → Prop) → Prop) : Prop :=
  ∀ {as ρ μ σ H ds vs} {Φ : M → Prop} {Q : VK}, SimB B as ρ μ σ H → RepTsB B as ρ σ H vs ds → o ds ρ μ Φ →
    (∀ m p u, Φ m → H p = none → MObj B.O B.K as (vis B as ρ σ H) p u m → (∀ C dx fs, u ≠ .ins C dx fs) → Q (.ref p) (upd H p u)) → r vs H Q
def rMk (o : List D → Rho → Mu → (M → Prop) → Prop) (ra : DA) : DF := fun ρ μ Φ Ψ => ra ρ μ (fun ds ρ1 μ1 => o ds ρ1 μ1 fun m => Φ m ρ1 μ1) Ψ
variable {om : List D → Rho → Mu → (M → Prop) → Prop}
theorem lift_mk (s : CallF B r om) {Q : VK} (h : LF B (rMk om ra) σ H Q) : tCB r (LA B ra) σ H Q := by
  obtain ⟨as, ρ, μ, Φ, Ψ, S, q, x, fin⟩ := h
  refine ⟨as, ρ, μ, _, Ψ, S, q, x, fun ds as1 ρ1 μ1 H1 vs q1 k1 S1 t1 => ?_⟩
  exact s S1 t1 q1 fun m p u q n mo ni => fin m as1 ρ1 μ1 H1 p u q k1 S1 n mo ni
theorem pdf_fn (hc : CallR X (.builtin id) r) (s : CallF B r om) (hg : Gl X x) (hm : X.mg x = none) (hv : bootBuiltins x = some (.builtin id)) (ha : PDA X B (e :: es) ra) (hn : x ≠ "__name__" := by decide) (hdb : (x == ("__debug__" : Str)) = false := by decide)
    (he : starEach (e :: es) X.env = (false, eval e X.env) :: starEach es X.env := by rfl) (hpl : (backTo pos (starEach es X.env)).any (·.1) = false := by rfl) : PDF X B (.Call (.Name x pp) (e :: es) [] pos) (rMk om ra) :=
  (pe_callB hc hg hm hv ha hn hdb he hpl).imp fun _ _ _ h => lift_mk s h
theorem pdf_ty (hc : CallR X (.type T) r) (s : CallF B r om) (hg : Gl X x) (hm : X.mg x = none) (hv : bootBuiltins x = some (.type T)) (ha : PDA X B (e :: es) ra) (hn : x ≠ "__name__" := by decide) (hdb : (x == ("__debug__" : Str)) = false := by decide)
    (he : starEach (e :: es) X.env = (false, eval e X.env) :: starEach es X.env := by rfl) (hpl : (backTo pos (starEach es X.env)).any (·.1) = false := by rfl) : PDF X B (.Call (.Name x pp) (e :: es) [] pos) (rMk om ra) :=
  (pe_callTy hc hg hm hv ha hn hdb he hpl).imp fun _ _ _ h => lift_mk s h
/-! len -/
def oLen : List D → Rho → Mu → (D → Prop) → Prop
  | [.str z], _, _, Φ => z.length ≤ sizeLine ∧ Φ (.int z.length)
  | [d], ρ, μ, Φ => (∃ ds, lookD ρ μ d = some (.dic ds) ∧ Φ (.int ds.length)) ∨ ∃ xs, seqD ρ μ d = some xs ∧ Φ (.int xs.length)
  | _, _, _, _ => False
def vLen (K : PySem.W.Frag) : List V → Hp → VK → Prop := fun xs H Q => Jg.rLen K xs H Q ∨ (∃ d kvs, xs = [.ref d] ∧ Rd H d (.dK kvs) ∧ Q (.int kvs.length) H)
theorem call_lenRd : CallR X (.builtin "len") (fun xs H Q => ∃ d kvs, xs = [.ref d] ∧ Rd H d (.dK kvs) ∧ Q (.int kvs.length) H) := by
  intro pins s σ H xs us Q I r h
  obtain ⟨p, kvs, rfl, hd, q⟩ := h
  obtain ⟨u, rfl, rx⟩ := vals1 r
  cases rx
  exact d_len I hd fun t s' I' => ⟨.int kvs.length, H, I', ⟨t, rfl⟩, q⟩
theorem callr_len (hK : X.K = B.K := by rfl) : CallR X (.builtin "len") (vLen B.K) := by
  rw [← hK]
  exact CallR.or Jg.call_lenV call_lenRd
theorem RepTsB.one {vs : List V} {d : D} (h : RepTsB B as ρ σ H vs [d]) : ∃ v, vs = [v] ∧ RepTB B as ρ σ H v d := by
  cases h with
  | cons a r =>
    cases r
    exact ⟨_, rfl, a⟩
theorem RepTsB.two {vs : List V} {d e : D} (h : RepTsB B as ρ σ H vs [d, e]) : ∃ v w, vs = [v, w] ∧ RepTB B as ρ σ H v d ∧ RepTB B as ρ σ H w e := by
  cases h with
  | cons a r =>
    obtain ⟨w, rfl, b⟩ := RepTsB.one r
    exact ⟨_, _, rfl, a, b⟩
theorem calls_len : CallS B (vLen B.K) oLen := by
  intro as ρ μ σ H ds vs Φ Q S rs o fin
  unfold oLen at o
  split at o
  · obtain ⟨v, rfl, r⟩ := rs.one
    cases r.str
    exact Or.inl ⟨_, _, rfl, ⟨o.1, rfl⟩, fin _ _ H o.2 (fun _ _ e => e) (.int _)⟩
  · rename_i d _
    obtain ⟨v, rfl, r⟩ := rs.one
    rcases o with ⟨ds', e, o⟩ | ⟨xs, e, o⟩
    · obtain ⟨p, kvs, rfl, h, k, r⟩ := look_dic S r e
      have hl : kvs.length = ds'.length := by
        have := congrArg List.length k
        simpa using this
      exact Or.inr ⟨p, kvs, rfl, h, by rw [hl]; exact fin _ _ H o (fun _ _ e => e) (.int _)⟩
    · obtain ⟨p, ws, rfl, h, r⟩ := look_seq S r e
      refine Or.inl ⟨_, ws.length, rfl, ?_, ?_⟩
      · rcases h with h | h
        · exact Or.inl ⟨_, h, rfl⟩
        · exact Or.inr ⟨_, h, rfl⟩
      · rw [r.length]
        exact fin _ _ H o (fun _ _ e => e) (.int _)
  · exact o.elim
/-! ### isinstance -/
def D.kind : D → Option (Sum String Nat)
  | .non => some (.inl "NoneType")
  | .bl _ => some (.inl "bool")
  | .int _ => some (.inl "int")
  | .str _ => some (.inl "str")
  | .lst _ => some (.inl "list")
  | .tup _ => some (.inl "tuple")
  | .dic _ => some (.inl "dict")
  | .obj k _ _ => some (.inr k)
  | _ => none
def M.kind : M → Option (Sum String Nat)
  | .lst _ => some (.inl "list")
  | .dic _ => some (.inl "dict")
  | .dit _ => some (.inl "dict")
  | .ins k _ _ => some (.inr k)
  | .box _ => some (.inl "list")
  | .gone => none
def kindD (ρ : Rho) (μ : Mu) : D → Option (Sum String Nat)
  | .var i => match ρ[i]? with
    | some (.own m) => m.kind
    | some (.val d) => d.kind
    | _ => none
  | .num j => match μ[j]? with
    | some m => m.kind
    | none => none
  | d => d.kind
def tyIs (a b : String) : Bool := (a == b || (a == "bool" && b == "int"))
def isKind (sh : Sh) : Sum String Nat → D → Option Bool
  | .inl a, .ty n => if n ∈ ["str", "int", "bool", "list", "tuple", "dict"] then some (tyIs a n) else none
  | .inr k, .ty n => if n ∈ ["str", "int", "bool", "list", "tuple", "dict"] then some (sh.subT k n) else none
  | .inl _, .cls _ => some false
  | .inr k, .cls c => some (sh.sub k c)
  | _, _ => none
def isAny (sh : Sh) (k : Sum String Nat) : List D → Option Bool
  | [] => some false
  | c :: cs => match isKind sh k c, isAny sh k cs with
    | some a, some b => some (a || b)
    | _, _ => none
def oIsi (sh : Sh) : List D → Rho → Mu → (D → Prop) → Prop
  | [x, .tup cs], ρ, μ, Φ => ∃ k b, kindD ρ μ x = some k ∧ isAny sh k cs = some b ∧ Φ (.bl b)
  | [x, c], ρ, μ, Φ => ∃ k b, kindD ρ μ x = some k ∧ isKind sh k c = some b ∧ Φ (.bl b)
  | _, _, _, _ => False
/-- what is said of the program's own classes -/
structure InsK (K : PySem.W.Frag) (C : Addr) : Prop where
  cl : Cls K C
  ha : PySem.W.findIn K (.ref C) "__class__" = some (some (.builtin "object.__class__"))
  hn : PySem.W.specialIn K (.builtin "object.__class__") "__get__" = some (some (.builtin "getset_descriptor.__get__"))
  tk : PySem.W.takesIn K (.builtin "object.__class__") = some true
  hm : PySem.W.mroIn K C (.type "object") = some true
def kinds : List String := ["NoneType", "bool", "int", "str", "list", "tuple", "dict"]
def KindT (O : Objs) (t : Value) : Sum String Nat → Prop
  | .inl a => t = .type a ∧ a ∈ kinds
  | .inr k => ∃ C, t = .ref C ∧ O.tag C = some k
structure KitOk (O : Objs) (K : PySem.W.Frag) : Prop where
  /-- classes that have instances that are seen -/
  ins : ∀ {H : Hp} {a C dx : Addr} {fs : List (Str × V)} {k : Nat}, H a = some (.ins C dx fs) → O.tag C = some k → InsK K C
  own : ∀ {C C' : Addr} {k k' : Nat}, O.tag C = some k → O.tag C' = some k' → PySem.W.kitOne K (.ref C) (.ref C') = some (O.sh.sub k k')
  ownT : ∀ {C : Addr} {k : Nat} {n : String}, O.tag C = some k → n ∈ ["str", "int", "bool", "list", "tuple", "dict"] → PySem.W.kitOne K (.ref C) (.type n) = some (O.sh.subT k n)
  tyO : ∀ {C : Addr} {k : Nat} {n : String}, O.tag C = some k → n ∈ kinds → PySem.W.kitOne K (.type n) (.ref C) = some false
theorem kit_base {K : PySem.W.Frag} {a n : String} (ha : a ∈ kinds) (hn : n ∈ ["str", "int", "bool", "list", "tuple", "dict"]) : PySem.W.kitOne K (.type a) (.type n) = some (tyIs a n) := by
  have all : ∀ a ∈ kinds, ∀ n ∈ ["str", "int", "bool", "list", "tuple", "dict"], kitB a n = some (tyIs a n) := by decide +kernel
  exact kit_ty (all a ha n hn)
theorem rd_ty {kvs : List (Key × V)} {p : Addr} (h : Rd H p (.dK kvs)) : TyX B.K H (.ref p) (.type "dict") := by
  rcases h with h | ⟨o, h⟩
  · exact .base (.dK h)
  · exact .fDict h
theorem rep_kind (kit : KitOk B.O B.K) (r : RepB B as ρ σ H v d) {k : Sum String Nat} (e : d.kind = some k) :
    ∃ t, TyX B.K H v t ∧ KindT B.O t k := by
  cases r with
  | non => cases e; exact ⟨_, .base .non, rfl, by decide⟩
  | bl b => cases e; exact ⟨_, .base (.bl b), rfl, by decide⟩
  | int i => cases e; exact ⟨_, .base (.int i), rfl, by decide⟩
  | str z => cases e; exact ⟨_, .base (.str z), rfl, by decide⟩
  | lst h _ => cases e; exact ⟨_, .base (.lst (res_sub _ _ h)), rfl, by decide⟩
  | tup h _ => cases e; exact ⟨_, .base (.tup (res_sub _ _ h)), rfl, by decide⟩
  | dic h _ _ => cases e; exact ⟨_, rd_ty (rd_le res_sub h), rfl, by decide⟩
  | obj w h t _ _ _ _ _ =>
    cases e
    have h' := res_sub _ _ h
    have q := kit.ins h' t
    exact ⟨_, .base (.ins h' q.cl q.ha q.hn q.tk q.hm), _, rfl, t⟩
  | _ => cases e
theorem mobj_kind (kit : KitOk B.O B.K) (h : H p = some o) (r : MObj B.O B.K as (vis B as ρ σ H) p o m) {k : Sum String Nat} (e : m.kind = some k) :
    ∃ t, TyX B.K H (.ref p) t ∧ KindT B.O t k := by
  cases m with
  | lst xs => obtain ⟨vs, rfl, _⟩ := r; cases e; exact ⟨_, .base (.lst h), rfl, by decide⟩
  | dic xs => obtain ⟨vs, rfl, _⟩ := r; cases e; exact ⟨_, .base (.dK h), rfl, by decide⟩
  | dit xs => obtain ⟨vs, rfl, _⟩ := r; cases e; exact ⟨_, .base (.dT h), rfl, by decide⟩
  | box n => obtain ⟨_, _, _, rfl, _⟩ := r; cases e; exact ⟨_, .base (.lst h), rfl, by decide⟩
  | gone => cases e
  | ins k a fs =>
    obtain ⟨_, C, dx, vs, rfl, t, _⟩ := r
    cases e
    have q := kit.ins h t
    exact ⟨_, .base (.ins h q.cl q.ha q.hn q.tk q.hm), _, rfl, t⟩
theorem kind_of (kit : KitOk B.O B.K) (S : SimB B as ρ μ σ H) (r : RepTB B as ρ σ H v d) {k : Sum String Nat} (e : kindD ρ μ d = some k) :
    ∃ t, TyX B.K H v t ∧ KindT B.O t k := by
  cases d with
  | var i =>
    obtain ⟨p, rfl, s⟩ := r
    simp only [kindD] at e
    split at e
    · rename_i m q
      obtain ⟨p', s', ⟨o, ho, q⟩, _⟩ := S.own i m q
      rw [s] at s'
      cases s'
      exact mobj_kind kit ho q e
    · rename_i d q
      obtain ⟨v', s', q⟩ := S.val i d q
      rw [s] at s'
      cases s'
      exact rep_kind kit q e
    · cases e
  | num j =>
    cases (r.rep rfl) with
    | num ea =>
      simp only [kindD] at e
      split at e
      · rename_i m q
        obtain ⟨p', ep, o, ho, q⟩ := S.numAt q
        rw [ea] at ep
        cases ep
        exact mobj_kind kit ho q e
      · cases e
  | _ => exact rep_kind kit (r.rep rfl) e
/-- a class handed in, as the library's answers name it -/
theorem cls_of {c : D} {sh : Sum String Nat} {b : Bool} {t : Value} (kit : KitOk B.O B.K) (r : RepTB B as ρ σ H v c) (e : isKind B.O.sh sh c = some b)
    (ht : KindT B.O t sh) : ∃ u, ClsV v u ∧ PySem.W.kitOne B.K t u = some b := by
  cases c with
  | ty n =>
    cases r.ty
    cases sh with
    | inl a =>
      simp only [isKind] at e
      split at e
      · rename_i hn
        cases e
        exact ⟨_, .ty n, by rw [ht.1]; exact kit_base ht.2 hn⟩
      · cases e
    | inr k =>
      simp only [isKind] at e
      split at e
      · rename_i hn
        cases e
        obtain ⟨C, rfl, tg⟩ := ht
        exact ⟨_, .ty n, kit.ownT tg hn⟩
      · cases e
  | cls c =>
    cases (r.rep rfl) with
    | cls tc =>
      rename_i C'
      cases sh with
      | inl a =>
        simp only [isKind, Option.some.injEq] at e
        subst e
        exact ⟨_, .own C', by rw [ht.1]; exact kit.tyO tc ht.2⟩
      | inr k =>
        simp only [isKind, Option.some.injEq] at e
        subst e
        obtain ⟨C, rfl, tg⟩ := ht
        exact ⟨_, .own C', kit.own tg tc⟩
  | _ => cases sh <;> simp [isKind] at e
theorem clss_of {t : Value} {sh : Sum String Nat} (kit : KitOk B.O B.K) (ht : KindT B.O t sh) :
    ∀ {vs : List V} {cs : List D} {b : Bool}, RepsB B as ρ σ H vs cs → isAny B.O.sh sh cs = some b → ∃ us, Paired ClsV vs us ∧ PySem.W.kitAny B.K t us = some b
  | _, _, b, .nil, e => by
    simp only [isAny, Option.some.injEq] at e
    subst e
    exact ⟨[], .nil, kitAny_nil⟩
  | _, _, b, .cons (d := c) (ds := cs) a r, e => by
    simp only [isAny] at e
    split at e
    · rename_i b1 b2 e1 e2
      cases e
      obtain ⟨u, k1, k2⟩ := cls_of kit a.t e1 ht
      obtain ⟨us, p1, p2⟩ := clss_of kit ht r e2
      refine ⟨u :: us, .cons k1 p1, kitAny_cons k2 (fun h => ?_) fun h => ?_⟩
      · rw [h, Bool.false_or]
        exact p2
      · rw [h, Bool.true_or]
    · cases e
theorem callr_isi (hK : X.K = B.K := by rfl) : CallR X (.builtin "isinstance") (fun xs H Q => rIsiT B.K xs H Q ∨ rIsi B.K xs H Q) := by
  rw [← hK]
  exact CallR.or call_isiT call_isi
theorem calls_isi (kit : KitOk B.O B.K) {sh : Sh} (hs : B.O.sh = sh) : CallS B (fun xs H Q => rIsiT B.K xs H Q ∨ rIsi B.K xs H Q) (oIsi sh) := by
  subst hs
  intro as ρ μ σ H ds vs Φ Q S rs o fin
  unfold oIsi at o
  split at o
  · rename_i x cs
    obtain ⟨v, w, rfl, r1, r2⟩ := rs.two
    obtain ⟨k, b, e1, e2, q⟩ := o
    obtain ⟨t, ty, ht⟩ := kind_of kit S r1 e1
    obtain ⟨p, ws, rfl, h, r⟩ := look_tup S r2 rfl
    obtain ⟨us, p1, p2⟩ := clss_of kit ht r e2
    exact Or.inl ⟨_, _, _, _, _, _, rfl, h, p1, ty, p2, fin _ _ H q (fun _ _ e => e) (.bl _)⟩
  · rename_i x c _
    obtain ⟨v, w, rfl, r1, r2⟩ := rs.two
    obtain ⟨k, b, e1, e2, q⟩ := o
    obtain ⟨t, ty, ht⟩ := kind_of kit S r1 e1
    obtain ⟨u, k1, k2⟩ := cls_of kit r2 e2 ht
    exact Or.inr ⟨_, _, _, _, _, rfl, k1, ty, k2, fin _ _ H q (fun _ _ e => e) (.bl _)⟩
  · exact o.elim
/-! ### numbers and texts -/
def oMax : List D → Rho → Mu → (D → Prop) → Prop
  | [.int i, .int j], _, _, Φ => Φ (.int (max i j))
  | _, _, _, _ => False
def oMin : List D → Rho → Mu → (D → Prop) → Prop
  | [.int i, .int j], _, _, Φ => Φ (.int (min i j))
  | _, _, _, _ => False
theorem calls_max : CallS B Jg.rMax oMax := by
  intro as ρ μ σ H ds vs Φ Q S rs o fin
  unfold oMax at o
  split at o
  · rename_i i j
    obtain ⟨v, w, rfl, r1, r2⟩ := rs.two
    cases r1.int
    cases r2.int
    refine ⟨_, _, rfl, ?_⟩
    have e : (if j > i then j else i) = max i j := by split <;> omega
    rw [e]
    exact fin _ _ H o (fun _ _ e => e) (.int _)
  · exact o.elim
theorem calls_min : CallS B Jg.rMin oMin := by
  intro as ρ μ σ H ds vs Φ Q S rs o fin
  unfold oMin at o
  split at o
  · rename_i i j
    obtain ⟨v, w, rfl, r1, r2⟩ := rs.two
    cases r1.int
    cases r2.int
    refine ⟨_, _, rfl, ?_⟩
    have e : (if j < i then j else i) = min i j := by split <;> omega
    rw [e]
    exact fin _ _ H o (fun _ _ e => e) (.int _)
  · exact o.elim
/-- str(n), str(s) -/
def oStr : List D → Rho → Mu → (D → Prop) → Prop
  | [.int i], _, _, Φ => i.natAbs.log2 < 1920 ∧ Φ (.str (toString i))
  | _, _, _, _ => False
theorem calls_str : CallS B (fun xs H Q => ∃ i, xs = [.int i] ∧ i.natAbs.log2 < 1920 ∧ Q (.str (toString i)) H) oStr := by
  intro as ρ μ σ H ds vs Φ Q S rs o fin
  unfold oStr at o
  split at o
  · obtain ⟨v, rfl, r⟩ := rs.one
    cases r.int
    exact ⟨_, rfl, o.1, fin _ _ H o.2 (fun _ _ e => e) (.str _)⟩
  · exact o.elim
/-- list(x), of a list or a tuple -/
def oList : List D → Rho → Mu → (M → Prop) → Prop
  | [d], ρ, μ, Φ => ∃ xs, seqD ρ μ d = some xs ∧ Φ (.lst xs)
  | _, _, _, _ => False
def vList (K : PySem.W.Frag) : List V → Hp → VK → Prop := fun xs H Q => ∃ p ys, xs = [.ref p] ∧ (SqL K H p ys ∨ SqT K H p ys) ∧ ∀ l, H l = none → Q (.ref l) (upd H l (.lst ys))
theorem callr_list (hK : X.K = B.K := by rfl) : CallR X (.type "list") (vList B.K) := by
  rw [← hK]
  exact call_list_of
theorem callf_list : CallF B (vList B.K) oList := by
  intro as ρ μ σ H ds vs Φ Q S rs o fin
  unfold oList at o
  split at o
  · obtain ⟨v, rfl, r⟩ := rs.one
    obtain ⟨xs, e, q⟩ := o
    obtain ⟨p, ws, rfl, h, r⟩ := look_seq S r e
    exact ⟨p, ws, rfl, h, fun l n => fin _ l (.lst ws) q n ⟨ws, rfl, r⟩ fun _ _ _ z => nomatch z⟩
  · exact o.elim
/-- tuple(x) -/
def oTuple : List D → Rho → Mu → (D → Prop) → Prop
  | [.tup xs], _, _, Φ => Φ (.tup xs)
  | [d], ρ, μ, Φ => ∃ xs, lookD ρ μ d = some (.lst xs) ∧ Φ (.tup xs)
  | _, _, _, _ => False
def vTuple (K : PySem.W.Frag) : List V → Hp → VK → Prop := fun xs H Q => ∃ p ys, xs = [.ref p] ∧ ((SqL K H p ys ∧ ∀ l, H l = none → Q (.ref l) (upd H l (.tup ys))) ∨ (SqT K H p ys ∧ Q (.ref p) H))
theorem callr_tuple (hK : X.K = B.K := by rfl) : CallR X (.type "tuple") (vTuple B.K) := by
  rw [← hK]
  exact call_tuple_of
theorem calls_tuple : CallS B (vTuple B.K) oTuple := by
  intro as ρ μ σ H ds vs Φ Q S rs o fin
  unfold oTuple at o
  split at o
  · obtain ⟨v, rfl, r⟩ := rs.one
    obtain ⟨p, ws, rfl, h, r'⟩ := look_tup S r rfl
    exact ⟨p, ws, rfl, Or.inr ⟨SqT.of h, fin _ _ H o (fun _ _ e => e) (r.rep rfl)⟩⟩
  · obtain ⟨v, rfl, r⟩ := rs.one
    obtain ⟨xs, e, q⟩ := o
    obtain ⟨p, ws, rfl, h, r⟩ := look_lst S r e
    refine ⟨p, ws, rfl, Or.inl ⟨SqL.of h, fun l n => ?_⟩⟩
    have up := ext_lay (o := HO.tup ws) n
    exact fin _ _ _ q up (.tup (res_some.mpr ⟨S.sight n, upd_same⟩) (r.le (res_ext up)))
  · exact o.elim
/-! ### any, all -/
def oAll : List D → Rho → Mu → (D → Prop) → Prop
  | [d], ρ, μ, Φ => ∃ bs : List Bool, lookD ρ μ d = some (.lst (bs.map .bl)) ∧ Φ (.bl (bs.all _root_.id))
  | _, _, _, _ => False
def oAny : List D → Rho → Mu → (D → Prop) → Prop
  | [d], ρ, μ, Φ => ∃ bs : List Bool, lookD ρ μ d = some (.lst (bs.map .bl)) ∧ Φ (.bl (bs.any _root_.id))
  | _, _, _, _ => False
theorem reps_bl {as : List Addr} {Hv : Hp} : ∀ {bs : List Bool} {vs : List V}, Reps B.O B.K as Hv vs (bs.map .bl) → vs = bs.map V.bl
  | [], _, .nil => rfl
  | b :: bs, _, .cons a r => by
    cases a
    rw [reps_bl r, List.map_cons]
theorem reps_str {as : List Addr} {Hv : Hp} : ∀ {zs : List Str} {vs : List V}, Reps B.O B.K as Hv vs (zs.map .str) → vs = zs.map V.str
  | [], _, .nil => rfl
  | b :: bs, _, .cons a r => by
    cases a
    rw [reps_str r, List.map_cons]
theorem reps_int {as : List Addr} {Hv : Hp} : ∀ {zs : List Int} {vs : List V}, Reps B.O B.K as Hv vs (zs.map .int) → vs = zs.map V.int
  | [], _, .nil => rfl
  | b :: bs, _, .cons a r => by
    cases a
    rw [reps_int r, List.map_cons]
theorem callr_all (hc : X.calm = true) (hK : X.K = B.K := by rfl) : CallR X (.builtin "all") (rAll B.K) := by
  rw [← hK]
  exact cr_all hc
theorem callr_any (hc : X.calm = true) (hK : X.K = B.K := by rfl) : CallR X (.builtin "any") (rAny B.K) := by
  rw [← hK]
  exact cr_any hc
theorem calls_all : CallS B (rAll B.K) oAll := by
  intro as ρ μ σ H ds vs Φ Q S rs o fin
  unfold oAll at o
  split at o
  · obtain ⟨v, rfl, r⟩ := rs.one
    obtain ⟨bs, e, q⟩ := o
    obtain ⟨p, ws, rfl, h, r⟩ := look_lst S r e
    cases reps_bl r
    exact ⟨p, bs, rfl, SqL.of h, fin _ _ H q (fun _ _ e => e) (.bl _)⟩
  · exact o.elim
theorem calls_any : CallS B (rAny B.K) oAny := by
  intro as ρ μ σ H ds vs Φ Q S rs o fin
  unfold oAny at o
  split at o
  · obtain ⟨v, rfl, r⟩ := rs.one
    obtain ⟨bs, e, q⟩ := o
    obtain ⟨p, ws, rfl, h, r⟩ := look_lst S r e
    cases reps_bl r
    exact ⟨p, bs, rfl, SqL.of h, fin _ _ H q (fun _ _ e => e) (.bl _)⟩
  · exact o.elim
end
end Dl
namespace Dl
open PySem PySem.Spec PyProof.Rows L2
/-! ### dicts as rows of pairs -/
section
variable {κ : Type} [DecidableEq κ]
def dval (kvs : List (κ × D)) (k : κ) : Option D := (kvs.find? fun kv => decide (kv.1 = k)).map (·.2)
def dput (kvs : List (κ × D)) (k : κ) (d : D) : List (κ × D) := if (kvs.any fun kv => decide (kv.1 = k)) = true then kvs.map (fun kv => if kv.1 = k then (kv.1, d) else kv) else kvs ++ [(k, d)]
def ddrop (kvs : List (κ × D)) (k : κ) : List (κ × D) := kvs.filter fun kv => decide (kv.1 ≠ k)
end
def keyD : D → Option Key
  | .int i => some (.inl i)
  | .str z => some (.inr z)
  | _ => none
def keysD : List D → Option (List Key)
  | [] => some []
  | d :: ds => match keyD d, keysD ds with
    | some k, some ks => some (k :: ks)
    | _, _ => none
def tkeyD : D → Option (List Key)
  | .tup xs => keysD xs
  | _ => none
section
variable {O : Objs} {K : PySem.W.Frag} {as : List Addr} {Hv : Hp} {κ : Type} [DecidableEq κ]
theorem key_v {d : D} {k : Key} {v : V} (e : keyD d = some k) (r : Rep O K as Hv v d) : v = kV k := by
  cases r <;> simp only [keyD, Option.some.injEq, reduceCtorEq] at e <;> subst e <;> rfl
theorem keys_v : ∀ {ds : List D} {ks : List Key} {vs : List V}, keysD ds = some ks → Reps O K as Hv vs ds → vs = ks.map kV
  | [], _, _, e, .nil => by
    cases e
    rfl
  | d :: ds, ks, _, e, .cons a r => by
    simp only [keysD] at e
    split at e
    · rename_i k ks' e1 e2
      cases e
      rw [key_v e1 a, keys_v e2 r, List.map_cons]
    · cases e
/-- the same keys, values that stand for trees -/
structure KR (O : Objs) (K : PySem.W.Frag) (as : List Addr) (Hv : Hp) (kvs : List (κ × V)) (ds : List (κ × D)) : Prop where
  k : kvs.map (·.1) = ds.map (·.1)
  r : Reps O K as Hv (kvs.map (·.2)) (ds.map (·.2))
theorem KR.nil : KR O K as Hv ([] : List (κ × V)) [] := ⟨rfl, .nil⟩
theorem KR.cons {k : κ} {v : V} {d : D} {kvs : List (κ × V)} {ds : List (κ × D)} (a : Rep O K as Hv v d) (h : KR O K as Hv kvs ds) : KR O K as Hv ((k, v) :: kvs) ((k, d) :: ds) :=
  ⟨by simp [h.k], .cons a h.r⟩
theorem KR.un {p : κ × V} {q : κ × D} {kvs : List (κ × V)} {ds : List (κ × D)} (h : KR O K as Hv (p :: kvs) (q :: ds)) : p.1 = q.1 ∧ Rep O K as Hv p.2 q.2 ∧ KR O K as Hv kvs ds := by
  obtain ⟨hk, hr⟩ := h
  simp only [List.map_cons, List.cons.injEq] at hk
  simp only [List.map_cons] at hr
  cases hr with
  | cons a r => exact ⟨hk.1, a, hk.2, r⟩
theorem KR.rec' {P : List (κ × V) → List (κ × D) → Prop} (h0 : P [] []) (h1 : ∀ k v d kvs ds, Rep O K as Hv v d → KR O K as Hv kvs ds → P kvs ds → P ((k, v) :: kvs) ((k, d) :: ds)) : ∀ {kvs : List (κ × V)} {ds : List (κ × D)}, KR O K as Hv kvs ds → P kvs ds
  | [], [], _ => h0
  | [], q :: ds, h => by have := h.k; simp at this
  | p :: kvs, [], h => by have := h.k; simp at this
  | (k, v) :: kvs, (k', d) :: ds, h => by
    obtain ⟨e, a, r⟩ := h.un
    have e' : k = k' := e
    subst e'
    exact h1 k v d kvs ds a r (KR.rec' h0 h1 r)
theorem KR.got {kvs : List (κ × V)} {ds : List (κ × D)} {k : κ} {d : D} (h : KR O K as Hv kvs ds) : dval ds k = some d → ∃ v, valV kvs k = some v ∧ Rep O K as Hv v d := by
  refine KR.rec' (P := fun kvs ds => dval ds k = some d → ∃ v, valV kvs k = some v ∧ Rep O K as Hv v d) ?_ ?_ h
  · intro e; cases e
  · intro k' v d' kvs ds a r ih e
    by_cases c : k' = k
    · subst c
      simp [dval] at e
      subst e
      exact ⟨v, by simp [valV], a⟩
    · simp only [dval, List.find?_cons, decide_eq_false c] at e
      obtain ⟨v2, h1, h2⟩ := ih e
      exact ⟨v2, by simpa [valV, List.find?_cons, c] using h1, h2⟩
theorem KR.lacks {kvs : List (κ × V)} {ds : List (κ × D)} {k : κ} (h : KR O K as Hv kvs ds) : dval ds k = none → valV kvs k = none := by
  refine KR.rec' (P := fun kvs ds => dval ds k = none → valV kvs k = none) ?_ ?_ h
  · intro _; rfl
  · intro k' v d' kvs ds a r ih e
    by_cases c : k' = k
    · subst c
      simp [dval] at e
    · simp only [dval, List.find?_cons, decide_eq_false c] at e
      simpa [valV, List.find?_cons, c] using ih e
theorem KR.any {kvs : List (κ × V)} {ds : List (κ × D)} (h : KR O K as Hv kvs ds) (k : κ) : (kvs.any fun kv => decide (kv.1 = k)) = ds.any fun kv => decide (kv.1 = k) := by
  refine KR.rec' (P := fun kvs ds => (kvs.any fun kv => decide (kv.1 = k)) = ds.any fun kv => decide (kv.1 = k)) rfl ?_ h
  intro k' v d kvs ds _ _ ih
  rw [List.any_cons, List.any_cons, ih]
theorem KR.app {kvs kvs' : List (κ × V)} {ds ds' : List (κ × D)} (h : KR O K as Hv kvs ds) (h' : KR O K as Hv kvs' ds') : KR O K as Hv (kvs ++ kvs') (ds ++ ds') :=
  ⟨by rw [List.map_append, List.map_append, h.k, h'.k], by rw [List.map_append, List.map_append]; exact h.r.app h'.r⟩
theorem KR.put {kvs : List (κ × V)} {ds : List (κ × D)} {k : κ} {v : V} {d : D} (h : KR O K as Hv kvs ds) (a : Rep O K as Hv v d) : KR O K as Hv (putK kvs k v) (dput ds k d) := by
  unfold putK dput
  rw [h.any k]
  split
  · refine KR.rec' (P := fun kvs ds => KR O K as Hv (kvs.map fun kv => if kv.1 = k then (kv.1, v) else kv) (ds.map fun kv => if kv.1 = k then (kv.1, d) else kv)) .nil ?_ h
    intro k' v' d' kvs ds a' r ih
    rw [List.map_cons, List.map_cons]
    by_cases c : k' = k
    · rw [if_pos c, if_pos c]
      exact .cons a ih
    · rw [if_neg c, if_neg c]
      exact .cons a' ih
  · exact h.app (.cons a .nil)
theorem KR.drop {kvs : List (κ × V)} {ds : List (κ × D)} {k : κ} (h : KR O K as Hv kvs ds) : KR O K as Hv (dropK kvs k) (ddrop ds k) := by
  unfold dropK ddrop
  refine KR.rec' (P := fun kvs ds => KR O K as Hv (kvs.filter fun kv => decide (kv.1 ≠ k)) (ds.filter fun kv => decide (kv.1 ≠ k))) .nil ?_ h
  intro k' v' d' kvs ds a' r ih
  by_cases c : k' = k
  · rw [List.filter_cons, List.filter_cons, if_neg (by simp [c]), if_neg (by simp [c])]
    exact ih
  · rw [List.filter_cons, List.filter_cons, if_pos (by simp [c]), if_pos (by simp [c])]
    exact .cons a' ih
theorem KR.length {kvs : List (κ × V)} {ds : List (κ × D)} (h : KR O K as Hv kvs ds) : kvs.length = ds.length := by
  have := congrArg List.length h.k
  simpa using this
end
section
variable {B : Par} {X : Cx} {as as' : List Addr} {ρ ρ' : Rho} {μ μ' : Mu} {σ σ' : L2.St} {H H' : Hp} {v w : V} {d d' : D} {i : Nat} {m m' : M} {p : Addr} {o : HO}
/-! ### e[i] -/
def oIx : D → D → Rho → Mu → (D → Prop) → Prop := fun x y ρ μ Φ => match x, y with
  | .str z, .int i => ∃ c, z.length ≤ sizeLine ∧ atI z.cps.toList i = some c ∧ Φ (.str ⟨#[c]⟩)
  | x, .int i => (∃ xs d, seqD ρ μ x = some xs ∧ atI xs i = some d ∧ Φ d) ∨ ∃ ds d, lookD ρ μ x = some (.dic ds) ∧ dval ds (.inl i) = some d ∧ Φ d
  | x, .str z => ∃ ds d, lookD ρ μ x = some (.dic ds) ∧ dval ds (.inr z) = some d ∧ Φ d
  | x, .tup ys => ∃ ds ks d, lookD ρ μ x = some (.dit ds) ∧ keysD ys = some ks ∧ dval ds ks = some d ∧ Φ d
  | _, _ => False
def vIxD : R2 := fun x y H Q => ∃ a v, x = .ref a ∧ DGet H a y (some v) ∧ Q v H
theorem ix_dict (hu : X.A.units + 1 < cLine) : IxR X vIxD := by
  intro value slice pins s σ H x y v u Q I rx ry h hs
  obtain ⟨a, z, rfl, g, q⟩ := h
  cases rx
  exact tail_any (dict_typeIs I g) PySem.F.slot_dict_getitem.lookup (d_getItem hu I g ry fun w' s' I' rw' => ⟨z, H, I', rw', q⟩) hs
def vIx (K : PySem.W.Frag) : R2 := fun x y H Q => rIxL K x y H Q ∨ rIxT K x y H Q ∨ rIxS x y H Q ∨ vIxD x y H Q
theorem ixr_all (hu : X.A.units + 1 < cLine) (hK : X.K = B.K := by rfl) : IxR X (vIx B.K) := by
  rw [← hK]
  exact ix_list.or (ix_tup.or (ix_str.or (ix_dict hu)))
theorem at_rep {vs : List V} {xs : List D} {Hv : Hp} {n : Int} (r : Reps B.O B.K as Hv vs xs) (e : atI xs n = some d) : ∃ v, atI vs n = some v ∧ Rep B.O B.K as Hv v d := by
  unfold atI at e ⊢
  rw [r.length]
  cases h : ixN xs.length n with
  | none => rw [h] at e; cases e
  | some j =>
    rw [h, Option.bind_some] at e
    exact r.getD j d e
theorem ops_ix : OpS B (vIx B.K) oIx := by
  intro as ρ μ σ H x y va vb Φ Q S rx ry o fin
  have dic : ∀ {ds : List (Key × D)} {k : Key} {d : D}, lookD ρ μ x = some (.dic ds) → dval ds k = some d → vb = kV k → Φ d → vIx B.K va vb H Q := fun {ds k d} e1 e2 e3 q => by
    obtain ⟨p, kvs, rfl, h, hk, r⟩ := look_dic S rx e1
    obtain ⟨v, e, rv⟩ := (KR.mk hk r).got e2
    exact Or.inr (Or.inr (Or.inr ⟨p, v, rfl, Or.inl ⟨kvs, k, h, e3, e.symm⟩, fin d v H q (fun _ _ e => e) rv⟩))
  unfold oIx at o
  split at o
  · cases rx.str
    cases ry.int
    obtain ⟨c, hz, e, q⟩ := o
    exact Or.inr (Or.inr (Or.inl ⟨_, _, c, rfl, rfl, hz, e, fin _ _ H q (fun _ _ e => e) (.str _)⟩))
  · cases ry.int
    rcases o with ⟨xs, d, e1, e2, q⟩ | ⟨ds, d, e1, e2, q⟩
    · obtain ⟨p, vs, rfl, h, r⟩ := look_seq S rx e1
      obtain ⟨v, e, rv⟩ := at_rep r e2
      rcases h with h | h
      · exact Or.inl ⟨p, vs, _, v, rfl, rfl, h, e, fin d v H q (fun _ _ e => e) rv⟩
      · exact Or.inr (Or.inl ⟨p, vs, _, v, rfl, rfl, h, e, fin d v H q (fun _ _ e => e) rv⟩)
    · exact dic e1 e2 rfl q
  · cases ry.str
    obtain ⟨ds, d, e1, e2, q⟩ := o
    exact dic e1 e2 rfl q
  · obtain ⟨ds, ks, d, e1, e2, e3, q⟩ := o
    obtain ⟨p, kvs, rfl, h, hk, r⟩ := look_dit S rx e1
    obtain ⟨v, e, rv⟩ := (KR.mk hk r).got e3
    obtain ⟨b, ws, rfl, hb, r2⟩ := look_tup S ry rfl
    rw [keys_v e2 r2] at hb
    exact Or.inr (Or.inr (Or.inr ⟨p, v, rfl, Or.inr ⟨kvs, ks, b, h, rfl, hb, e.symm⟩, fin d v H q (fun _ _ e => e) rv⟩))
  · exact o.elim
theorem pd_ix {a b : Expr} {ra rb : DE} {pos : Pos} (hu : X.A.units + 1 < cLine) (ha : PD X B a ra) (hb : PD X B b rb) (hs : PlainIx b) (hK : X.K = B.K := by rfl) : PD X B (.Subscript a b pos) (rBin oIx ra rb) :=
  (pe_ix (ixr_all hu hK) ha hb hs).imp fun _ _ _ h => lift_bin ops_ix h
/-! ### in, not in -/
def inD : D → D → Rho → Mu → (Bool → Prop) → Prop := fun x y ρ μ Φ =>
  (∃ (c : Nat) (z : Str), x = .str ⟨#[c]⟩ ∧ y = .str z ∧ Φ (decide (c ∈ z.cps.toList))) ∨
  (∃ ds k, lookD ρ μ y = some (.dic ds) ∧ keyD x = some k ∧ Φ (dval ds k).isSome) ∨ (∃ ds k, lookD ρ μ y = some (.dit ds) ∧ tkeyD x = some k ∧ Φ (dval ds k).isSome) ∨
  ∃ xs, seqD ρ μ y = some xs ∧ x.data = true ∧ D.datas xs = true ∧ x.low ∧ Φ (xs.any fun z => z.deq x)
def oIn : D → D → Rho → Mu → (D → Prop) → Prop := fun x y ρ μ Φ => inD x y ρ μ fun b => Φ (.bl b)
def oNotIn : D → D → Rho → Mu → (D → Prop) → Prop := fun x y ρ μ Φ => inD x y ρ μ fun b => Φ (.bl (!b))
/-- .. by values -/
def vInG (K : PySem.W.Frag) (f : Bool → Bool) : R2 := fun x y H Q =>
  (∃ (c : Nat) (z : Str), x = .str ⟨#[c]⟩ ∧ y = .str z ∧ Q (.bl (f (decide (c ∈ z.cps.toList)))) H) ∨ (∃ a o, y = .ref a ∧ DGet H a x o ∧ Q (.bl (f o.isSome)) H) ∨
  ∃ d p vs ds, Dp K H x d ∧ y = .ref p ∧ (SqL K H p vs ∨ SqT K H p vs) ∧ DpAll K H vs ds ∧ d.plain = true ∧ PyData.plainAll ds = true ∧ d.depth ≤ 60 ∧ Q (.bl (f (ds.any fun z => PyData.eqv z d))) H
theorem opr_in (hu : X.A.units + 64 < cLine) (hK : X.K = B.K := by rfl) : OpR X (compareOp .In) (vInG B.K _root_.id) := by
  rw [← hK]
  intro pins s σ H x y v u Q I rx ry h
  rcases h with ⟨c, z, e1, e2, q⟩ | ⟨a, o, rfl, g, q⟩ | ⟨d, p, vs, ds, hd, rfl, hs, ha, pd, pds, low, q⟩
  · exact op_in_sign pins s σ H x y v u Q I rx ry ⟨c, z, e1, e2, q⟩
  · cases ry
    exact d_in (by omega) I g rx fun s' I' => ⟨.bl _, H, I', rfl, q⟩
  · cases ry
    obtain ⟨as, r1⟩ := Dp.reads I d x v hd rx
    rcases hs with hs | hs
    · obtain ⟨bs, r2⟩ := Dp.reads I (.list ds) (.ref p) (.ref p) (.lst hs ha) rfl
      exact SeqAt.in_list_data r2 r1 pds pd (by omega) ⟨.bl _, H, I, rfl, q⟩
    · obtain ⟨bs, r2⟩ := Dp.reads I (.tuple ds) (.ref p) (.ref p) (.tup hs ha) rfl
      exact SeqAt.in_tuple_data r2 r1 pds pd (by omega) ⟨.bl _, H, I, rfl, q⟩
theorem opr_notIn (hu : X.A.units + 64 < cLine) (hK : X.K = B.K := by rfl) : OpR X (compareOp .NotIn) (vInG B.K not) := by
  rw [← hK]
  intro pins s σ H x y v u Q I rx ry h
  rcases h with ⟨c, z, e1, e2, q⟩ | ⟨a, o, rfl, g, q⟩ | ⟨d, p, vs, ds, hd, rfl, hs, ha, pd, pds, low, q⟩
  · exact op_notIn_sign pins s σ H x y v u Q I rx ry ⟨c, z, e1, e2, q⟩
  · cases ry
    exact d_notIn (by omega) I g rx fun s' I' => ⟨.bl _, H, I', rfl, q⟩
  · cases ry
    obtain ⟨as, r1⟩ := Dp.reads I d x v hd rx
    rcases hs with hs | hs
    · obtain ⟨bs, r2⟩ := Dp.reads I (.list ds) (.ref p) (.ref p) (.lst hs ha) rfl
      exact SeqAt.notIn_list_data r2 r1 pds pd (by omega) ⟨.bl _, H, I, rfl, q⟩
    · obtain ⟨bs, r2⟩ := Dp.reads I (.tuple ds) (.ref p) (.ref p) (.tup hs ha) rfl
      exact SeqAt.notIn_tuple_data r2 r1 pds pd (by omega) ⟨.bl _, H, I, rfl, q⟩
theorem pyds_any {x : D} (f : D → PyData → Bool) : ∀ xs : List D, ((D.pyds xs).any fun z => PyData.eqv z x.pyd) = xs.any fun z => z.deq x
  | [] => rfl
  | y :: xs => by
    simp only [D.pyds, List.any_cons, pyds_any f xs]
    rfl
theorem look_data (S : SimB B as ρ μ σ H) (r : RepTB B as ρ σ H v d) (h : d.data = true) : Dp B.K H v d.pyd := by
  have k : d.kept = true := by cases d <;> first | rfl | simp [D.data] at h
  exact ((r.rep k).le res_sub).dp h
theorem ops_inG {f : Bool → Bool} : OpS B (vInG B.K f) (fun x y ρ μ Φ => inD x y ρ μ fun b => Φ (.bl (f b))) := by
  intro as ρ μ σ H x y va vb Φ Q S rx ry o fin
  have o' := o
  unfold inD at o'
  have gen : ((∃ ds k, lookD ρ μ y = some (.dic ds) ∧ keyD x = some k ∧ Φ (.bl (f (dval ds k).isSome))) ∨ (∃ ds k, lookD ρ μ y = some (.dit ds) ∧ tkeyD x = some k ∧ Φ (.bl (f (dval ds k).isSome))) ∨
      ∃ xs, seqD ρ μ y = some xs ∧ x.data = true ∧ D.datas xs = true ∧ x.low ∧ Φ (.bl (f (xs.any fun z => z.deq x)))) → vInG B.K f va vb H Q := by
    rintro (⟨ds, k, e1, e2, q⟩ | ⟨ds, k, e1, e2, q⟩ | ⟨xs, e1, h1, h2, h3, q⟩)
    · obtain ⟨p, kvs, rfl, h, hk, r⟩ := look_dic S ry e1
      have kx : x.kept = true := by cases x <;> first | rfl | cases e2
      have ek := key_v e2 (rx.rep kx)
      refine Or.inr (Or.inl ⟨p, valV kvs k, rfl, Or.inl ⟨kvs, k, h, ek, rfl⟩, ?_⟩)
      have : (valV kvs k).isSome = (dval ds k).isSome := by
        cases e : dval ds k with
        | none => rw [(KR.mk hk r).lacks e]; rfl
        | some d =>
          obtain ⟨v, e', _⟩ := (KR.mk hk r).got e
          rw [e']
          rfl
      rw [this]
      exact fin _ _ H q (fun _ _ e => e) (.bl _)
    · obtain ⟨p, kvs, rfl, h, hk, r⟩ := look_dit S ry e1
      cases x with
      | tup ys =>
        obtain ⟨b, ws, rfl, hb, r2⟩ := look_tup S rx rfl
        rw [keys_v (show keysD ys = some k from e2) r2] at hb
        refine Or.inr (Or.inl ⟨p, valV kvs k, rfl, Or.inr ⟨kvs, k, b, h, rfl, hb, rfl⟩, ?_⟩)
        have : (valV kvs k).isSome = (dval ds k).isSome := by
          cases e : dval ds k with
          | none => rw [(KR.mk hk r).lacks e]; rfl
          | some d =>
            obtain ⟨v, e', _⟩ := (KR.mk hk r).got e
            rw [e']
            rfl
        rw [this]
        exact fin _ _ H q (fun _ _ e => e) (.bl _)
      | _ => cases e2
    · obtain ⟨p, vs, rfl, h, r⟩ := look_seq S ry e1
      refine Or.inr (Or.inr ⟨_, p, vs, _, look_data S rx h1, rfl, h, (r.le res_sub).dps h2, pyd_plain _, pyds_plain _, h3, ?_⟩)
      rw [pyds_any (fun _ _ => true)]
      exact fin _ _ H q (fun _ _ e => e) (.bl _)
  rcases o' with ⟨c, z, rfl, rfl, q⟩ | q
  · cases rx.str
    cases ry.str
    exact Or.inl ⟨_, _, rfl, rfl, fin _ _ H q (fun _ _ e => e) (.bl _)⟩
  · exact gen q
theorem ops_in : OpS B (vInG B.K _root_.id) oIn := ops_inG (f := _root_.id)
theorem ops_notIn : OpS B (vInG B.K not) oNotIn := ops_inG (f := not)
/-! ### is None, is True, is False -/
def D.isNon : D → Bool
  | .non => true
  | _ => false
def oIs : D → D → Rho → Mu → (D → Prop) → Prop := fun x y _ _ Φ => match x, y with
  | x, .non => Φ (.bl x.isNon)
  | .bl a, .bl b => Φ (.bl (decide (a = b)))
  | _, _ => False
def oIsNot : D → D → Rho → Mu → (D → Prop) → Prop := fun x y _ _ Φ => match x, y with
  | x, .non => Φ (.bl (!x.isNon))
  | .bl a, .bl b => Φ (.bl (!decide (a = b)))
  | _, _ => False
theorem non_iff (r : RepTB B as ρ σ H v d) : decide (v = .non) = d.isNon := by
  rcases r.cases with ⟨i, p, rfl, rfl, _⟩ | ⟨_, r⟩
  · rfl
  · cases r <;> rfl
theorem opr_is : OpR X (compareOp .Is) (fun x y H Q => Jg.rIs x y H Q ∨ rIsB x y H Q) := Jg.op_isV.or op_isBl
theorem opr_isNot : OpR X (compareOp .IsNot) (fun x y H Q => Jg.rIsNot x y H Q ∨ rNotB x y H Q) := Jg.op_isNotV.or op_notBl
theorem ops_is : OpS B (fun x y H Q => Jg.rIs x y H Q ∨ rIsB x y H Q) oIs := by
  intro as ρ μ σ H x y va vb Φ Q S rx ry o fin
  unfold oIs at o
  split at o
  · refine Or.inl ⟨ry.non, ?_⟩
    rw [non_iff rx]
    exact fin _ _ H o (fun _ _ e => e) (.bl _)
  · exact Or.inr ⟨_, _, rx.bl, ry.bl, fin _ _ H o (fun _ _ e => e) (.bl _)⟩
  · exact o.elim
theorem ops_isNot : OpS B (fun x y H Q => Jg.rIsNot x y H Q ∨ rNotB x y H Q) oIsNot := by
  intro as ρ μ σ H x y va vb Φ Q S rx ry o fin
  unfold oIsNot at o
  split at o
  · refine Or.inl ⟨ry.non, ?_⟩
    rw [non_iff rx]
    exact fin _ _ H o (fun _ _ e => e) (.bl _)
  · exact Or.inr ⟨_, _, rx.bl, ry.bl, fin _ _ H o (fun _ _ e => e) (.bl _)⟩
  · exact o.elim
/-! ### truth -/
def truD : D → Rho → Mu → (Bool → Prop) → Prop := fun x ρ μ Φ => match x with
  | .bl b => Φ b
  | .int i => Φ (i != 0)
  | .str z => z.length ≤ sizeLine ∧ Φ ((z.length : Int) != 0)
  | .non => Φ false
  | x => (∃ xs, seqD ρ μ x = some xs ∧ Φ (!xs.isEmpty))
def rTru (ra : DE) : DT := fun ρ μ Φ Ψ => ra ρ μ (fun x ρ1 μ1 => truD x ρ1 μ1 fun b => Φ b ρ1 μ1) Ψ
theorem tru_of (S : SimB B as ρ μ σ H) (r : RepTB B as ρ σ H v d) {Φ : Bool → Prop} (t : truD d ρ μ Φ) : ∃ k, TruV B.K v H k ∧ Φ k := by
  unfold truD at t
  split at t
  · cases r.bl
    exact ⟨_, rfl, t⟩
  · cases r.int
    exact ⟨_, rfl, t⟩
  · cases r.str
    exact ⟨_, ⟨t.1, rfl⟩, t.2⟩
  · cases r.non
    exact ⟨_, rfl, t⟩
  · obtain ⟨xs, e, q⟩ := t
    obtain ⟨p, vs, rfl, h, rs⟩ := look_seq S r e
    have he : vs.isEmpty = xs.isEmpty := by cases rs <;> rfl
    refine ⟨!vs.isEmpty, ?_, by rw [he]; exact q⟩
    rcases h with h | h
    · exact Or.inl ⟨vs, h, rfl⟩
    · exact Or.inr (Or.inl ⟨vs, h, rfl⟩)
theorem pdt_tru {a : Expr} {ra : DE} (h : PD X B a ra) (he : ∀ whole, isTrue a X.env whole = (do let v ← whole; standAt a.pos; holding [v] (truthy v)) := by intro _; rfl) (hK : X.K = B.K := by rfl) : PDT X B a (rTru ra) :=
  (pt_truth h he).imp fun σ H Q h => by
    obtain ⟨as, ρ, μ, Φ, Ψ, S, r, x, fin⟩ := h
    refine ⟨as, ρ, μ, _, Ψ, S, r, x, fun d1 as1 ρ1 μ1 H1 v1 q1 k1 S1 t1 => ?_⟩
    obtain ⟨k, tv, q⟩ := tru_of S1 t1 q1
    rw [← hK] at tv
    exact ⟨k, tv, fin k as1 ρ1 μ1 H1 q k1 S1⟩
end
end Dl
namespace Dl
open PySem PySem.Spec PyProof.Rows L2
section
variable {B : Par} {X : Cx} {as as' : List Addr} {ρ ρ' : Rho} {μ μ' : Mu} {σ σ' : L2.St} {H H' : Hp} {v w : V} {d d' : D} {i : Nat} {m m' : M} {p : Addr} {o : HO}
/-! ### methods of built-in types -/
def MtS (B : Par) (r : V → List V → Hp → VK → Prop) (o : D → List D → Rho → Mu → KD → Prop) : Prop :=
  ∀ {as ρ μ σ H x ds va vs} {Φ : KD} {Q : VK}, SimB B as ρ μ σ H → RepTB B as ρ σ H va x → RepTsB B as ρ σ H vs ds → o x ds ρ μ Φ →
    (∀ d ρ' μ' H' v, Φ d ρ' μ' → SimB B as ρ' μ' σ H' → StepB B as ρ σ H as ρ' H' → RepTB B as ρ' σ H' v d → Q v H') → r va vs H Q
def tyD (T : String) (x : D) (ρ : Rho) (μ : Mu) : Prop := (T = "str" ∧ ∃ z, x = .str z) ∨ (T = "list" ∧ ∃ xs, lookD ρ μ x = some (.lst xs))
theorem ty_of {T : String} (S : SimB B as ρ μ σ H) (r : RepTB B as ρ σ H v d) (t : tyD T d ρ μ) : tyV B.K T v H := by
  rcases t with ⟨rfl, z, rfl⟩ | ⟨rfl, xs, e⟩
  · cases r.str
    rfl
  · obtain ⟨p, vs, rfl, h, _⟩ := look_lst S r e
    exact Or.inl ⟨rfl, _, SqL.of h⟩
def rMeth (T : String) (o : D → List D → Rho → Mu → KD → Prop) (ra : DE) (rs : DA) : DE := fun ρ μ Φ Ψ => ra ρ μ (fun x ρ1 μ1 => tyD T x ρ1 μ1 ∧ rs ρ1 μ1 (fun ds ρ2 μ2 => o x ds ρ2 μ2 Φ) Ψ) Ψ
variable {ob e : Expr} {es : List Expr} {ra : DE} {rs : DA} {name : Str} {apos cpos : Pos} {T id : String} {r : V → List V → Hp → VK → Prop} {om : D → List D → Rho → Mu → KD → Prop}
theorem pd_bm (pa : PlainAttrs T) (slot : Slot T name id) (hty : typeOf (.builtin id) = pure (.type "method_descriptor")) (hm : MtR X id r) (s : MtS B r om) (ho : PD X B ob ra) (ha : PDA X B (e :: es) rs) (hK : X.K = B.K := by rfl)
    (hbase : attributeBase ob name X.env (eval ob X.env) = eval ob X.env := by rfl)
    (hfew : ((backTo cpos (starEach (e :: es) X.env)).all (fun x => !x.1) && (backToKw cpos (keywordEach [] X.env)).all (fun x => x.1.isSome)
      && decide ((e :: es).length + ([] : List Keyword).length + (if ([] : List Keyword).isEmpty then 0 else 1) < 30)) = true := by rfl)
    (hline : (apos.endLine == cpos.line) = true := by rfl) (hs : starEach (e :: es) X.env = (false, eval e X.env) :: starEach es X.env := by rfl) (hplain : (backTo cpos (starEach es X.env)).any (·.1) = false := by rfl) :
    PD X B (.Call (.Attribute ob name apos) (e :: es) [] cpos) (rMeth T om ra rs) :=
  (pe_bm pa slot hty hm ho ha hbase hfew hline hs hplain).imp fun σ H Q h => by
    obtain ⟨as, ρ, μ, Φ, Ψ, S, q, x, fin⟩ := h
    refine ⟨as, ρ, μ, _, Ψ, S, q, x, fun d1 as1 ρ1 μ1 H1 v1 q1 k1 S1 t1 => ?_⟩
    obtain ⟨ty, q1⟩ := q1
    refine ⟨by rw [hK]; exact ty_of S1 t1 ty, as1, ρ1, μ1, _, Ψ, S1, q1, x, fun ds as2 ρ2 μ2 H2 vs q2 k2 S2 t2 => ?_⟩
    exact s S2 (t1.step k2.g) t2 q2 fun d ρ' μ' H' v q S' k rv => fin d as2 ρ' μ' H' v q ((k1.trans k2).trans k) S' rv
theorem pd_bm0 (pa : PlainAttrs T) (slot : Slot T name id) (hty : typeOf (.builtin id) = pure (.type "method_descriptor")) (hm : MtR X id r) (s : MtS B r om) (ho : PD X B ob ra) (hK : X.K = B.K := by rfl)
    (hbase : attributeBase ob name X.env (eval ob X.env) = eval ob X.env := by rfl) (hline : (apos.endLine == cpos.line) = true := by rfl) : PD X B (.Call (.Attribute ob name apos) [] [] cpos) (rMeth T om ra rNil) :=
  (pe_bm0 pa slot hty hm ho hbase hline).imp fun σ H Q h => by
    obtain ⟨as, ρ, μ, Φ, Ψ, S, q, x, fin⟩ := h
    refine ⟨as, ρ, μ, _, Ψ, S, q, x, fun d1 as1 ρ1 μ1 H1 v1 q1 k1 S1 t1 => ?_⟩
    obtain ⟨ty, q1⟩ := q1
    refine ⟨by rw [hK]; exact ty_of S1 t1 ty, ?_⟩
    exact s S1 t1 .nil q1 fun d ρ' μ' H' v q S' k rv => fin d as1 ρ' μ' H' v q (k1.trans k) S' rv
/-! what changes: a slot's own thing, or a thing by its number -/
def getM (ρ : Rho) (μ : Mu) : D → Option M
  | .var i => match ρ[i]? with
    | some (.own m) => some m
    | _ => none
  | .num j => μ[j]?
  | _ => none
def putM (ρ : Rho) (μ : Mu) : D → M → Rho × Mu
  | .var i, m => (ρ.set i (.own m), μ)
  | .num j, m => (ρ, μ.set j m)
  | _, _ => (ρ, μ)
theorem SimB.got (S : SimB B as ρ μ σ H) (r : RepTB B as ρ σ H v d) (e : getM ρ μ d = some m) : ∃ p o, v = .ref p ∧ H p = some o ∧ MObj B.O B.K as (vis B as ρ σ H) p o m ∧
    ∀ {o' : HO} {m' : M}, MObj B.O B.K as (vis B as ρ σ H) p o' m' → SimB B as (putM ρ μ d m').1 (putM ρ μ d m').2 σ (upd H p o') ∧ StepB B as ρ σ H as (putM ρ μ d m').1 (upd H p o') := by
  cases d with
  | var i =>
    obtain ⟨p, rfl, s⟩ := r
    simp only [getM] at e
    split at e
    · rename_i m' q
      cases e
      obtain ⟨p', s', ⟨o, ho, q'⟩, _⟩ := S.own i _ q
      rw [s] at s'
      cases s'
      exact ⟨p, o, rfl, ho, q', fun mo => S.change q s mo⟩
    · cases e
  | num j =>
    cases (r.rep rfl) with
    | num ea =>
      rename_i p
      simp only [getM] at e
      obtain ⟨p', ep, o, ho, q⟩ := S.numAt e
      rw [ea] at ep
      cases ep
      exact ⟨p, o, rfl, ho, q, fun mo => S.changeN e ea mo⟩
  | _ => cases e
/-- .. what is put in is kept as a tree -/
def oAppend : D → List D → Rho → Mu → KD → Prop
  | x, [d], ρ, μ, Φ => ∃ ρ1 d1 xs, stow ρ d = some (ρ1, d1) ∧ getM ρ1 μ x = some (.lst xs) ∧ xs.length < sizeLine ∧ Φ .non (putM ρ1 μ x (.lst (xs ++ [d1]))).1 (putM ρ1 μ x (.lst (xs ++ [d1]))).2
  | _, _, _, _, _ => False
theorem RepTB.move (k : StepB B as ρ σ H as ρ' H') (r : RepTB B as ρ σ H v d) : RepTB B as ρ' σ H' v d := RepT.step k.g r
theorem mts_append : MtS B rAppend oAppend := by
  intro as ρ μ σ H x ds va vs Φ Q S rx rs o fin
  unfold oAppend at o
  split at o
  · obtain ⟨w, rfl, rd⟩ := rs.one
    obtain ⟨ρ1, d1, xs, e1, e2, hz, q⟩ := o
    obtain ⟨S1, r1, k1⟩ := S.stow rd e1
    obtain ⟨p, o, rfl, ho, mo, ch⟩ := S1.got (RepTB.move k1 rx) e2
    obtain ⟨ws, rfl, r⟩ := mo
    refine ⟨p, ws, w, rfl, rfl, ho, by rw [r.length]; exact hz, ?_⟩
    obtain ⟨S2, k2⟩ := ch (o' := .lst (ws ++ [w])) (m' := .lst (xs ++ [d1])) ⟨_, rfl, r.app (.cons r1 .nil)⟩
    exact fin _ _ _ _ _ q S2 (k1.trans k2) Rep.non.t
  · exact o.elim
theorem mtr_append : MtR X "list.append" rAppend := mt_append
def oExtend : D → List D → Rho → Mu → KD → Prop
  | x, [d], ρ, μ, Φ => ∃ xs ys, getM ρ μ x = some (.lst xs) ∧ lookD ρ μ d = some (.lst ys) ∧ xs.length + ys.length ≤ sizeLine ∧ Φ .non (putM ρ μ x (.lst (xs ++ ys))).1 (putM ρ μ x (.lst (xs ++ ys))).2
  | _, _, _, _, _ => False
theorem mts_extend : MtS B rExtend oExtend := by
  intro as ρ μ σ H x ds va vs Φ Q S rx rs o fin
  unfold oExtend at o
  split at o
  · obtain ⟨w, rfl, rd⟩ := rs.one
    obtain ⟨xs, ys, e1, e2, hz, q⟩ := o
    obtain ⟨p, o, rfl, ho, mo, ch⟩ := S.got rx e1
    obtain ⟨ws, rfl, r⟩ := mo
    obtain ⟨b, zs, rfl, hb, r2⟩ := look_lst S rd e2
    refine ⟨p, b, ws, zs, rfl, rfl, ho, hb, by rw [r.length, r2.length]; exact hz, ?_⟩
    obtain ⟨S2, k2⟩ := ch (o' := .lst (ws ++ zs)) (m' := .lst (xs ++ ys)) ⟨_, rfl, r.app r2⟩
    exact fin _ _ _ _ _ q S2 k2 Rep.non.t
  · exact o.elim
/-- x.pop() -/
def oPop : D → List D → Rho → Mu → KD → Prop
  | x, [], ρ, μ, Φ => ∃ xs d, getM ρ μ x = some (.lst (xs ++ [d])) ∧ Φ d (putM ρ μ x (.lst xs)).1 (putM ρ μ x (.lst xs)).2
  | _, _, _, _, _ => False
theorem Reps.snoc {O : Objs} {K : PySem.W.Frag} {Hv : Hp} {vs : List V} {xs : List D} (r : Reps O K as Hv vs (xs ++ [d])) : ∃ ws w, vs = ws ++ [w] ∧ Reps O K as Hv ws xs ∧ Rep O K as Hv w d := by
  have hl := r.length
  have h1 := (r.cut xs.length).1
  have h2 := (r.cut xs.length).2
  rw [List.take_left'  rfl] at h1
  rw [List.drop_left' rfl] at h2
  have e : vs = vs.take xs.length ++ vs.drop xs.length := (List.take_append_drop _ _).symm
  cases h : vs.drop xs.length with
  | nil => rw [h] at h2; cases h2
  | cons a t =>
    rw [h] at h2
    cases h2 with
    | cons ra rt =>
      cases rt
      exact ⟨_, a, by rw [← h]; exact e, h1, ra⟩
theorem mts_pop : MtS B rPop oPop := by
  intro as ρ μ σ H x ds va vs Φ Q S rx rs o fin
  unfold oPop at o
  split at o
  · cases rs
    obtain ⟨xs, d, e1, q⟩ := o
    obtain ⟨p, o, rfl, ho, mo, ch⟩ := S.got rx e1
    obtain ⟨ws0, rfl, r⟩ := mo
    obtain ⟨ws, w, rfl, r1, r2⟩ := r.snoc
    refine ⟨p, _, w, rfl, rfl, ho, by simp, ?_⟩
    rw [List.dropLast_concat]
    obtain ⟨S2, k2⟩ := ch (o' := .lst ws) (m' := .lst xs) ⟨_, rfl, r1⟩
    exact fin _ _ _ _ _ q S2 k2 (RepTB.move k2 r2.t)
  · exact o.elim
def oReverse : D → List D → Rho → Mu → KD → Prop
  | x, [], ρ, μ, Φ => ∃ xs, getM ρ μ x = some (.lst xs) ∧ Φ .non (putM ρ μ x (.lst xs.reverse)).1 (putM ρ μ x (.lst xs.reverse)).2
  | _, _, _, _, _ => False
theorem mts_reverse : MtS B rReverse oReverse := by
  intro as ρ μ σ H x ds va vs Φ Q S rx rs o fin
  unfold oReverse at o
  split at o
  · cases rs
    obtain ⟨xs, e1, q⟩ := o
    obtain ⟨p, o, rfl, ho, mo, ch⟩ := S.got rx e1
    obtain ⟨ws, rfl, r⟩ := mo
    refine ⟨p, _, rfl, rfl, ho, ?_⟩
    obtain ⟨S2, k2⟩ := ch (o' := .lst ws.reverse) (m' := .lst xs.reverse) ⟨_, rfl, r.rev⟩
    exact fin _ _ _ _ _ q S2 k2 Rep.non.t
  · exact o.elim
def oClear : D → List D → Rho → Mu → KD → Prop
  | x, [], ρ, μ, Φ => ∃ xs, getM ρ μ x = some (.lst xs) ∧ Φ .non (putM ρ μ x (.lst [])).1 (putM ρ μ x (.lst [])).2
  | _, _, _, _, _ => False
theorem mts_clear : MtS B rClear oClear := by
  intro as ρ μ σ H x ds va vs Φ Q S rx rs o fin
  unfold oClear at o
  split at o
  · cases rs
    obtain ⟨xs, e1, q⟩ := o
    obtain ⟨p, o, rfl, ho, mo, ch⟩ := S.got rx e1
    obtain ⟨ws, rfl, r⟩ := mo
    refine ⟨p, _, rfl, rfl, ho, ?_⟩
    obtain ⟨S2, k2⟩ := ch (o' := .lst []) (m' := .lst []) ⟨_, rfl, .nil⟩
    exact fin _ _ _ _ _ q S2 k2 Rep.non.t
  · exact o.elim
/-- sep.join(texts) -/
def oJoin : D → List D → Rho → Mu → KD → Prop
  | .str a, [d], ρ, μ, Φ => ∃ ys : List Str, seqD ρ μ d = some (ys.map .str) ∧ (ys.map (·.length)).sum + ys.length * a.length ≤ 16777216 ∧ Φ (.str (Txt.join a ys)) ρ μ
  | _, _, _, _, _ => False
theorem mts_join : MtS B (Jg.rJoin B.K) oJoin := by
  intro as ρ μ σ H x ds va vs Φ Q S rx rs o fin
  unfold oJoin at o
  split at o
  · cases rx.str
    obtain ⟨w, rfl, rd⟩ := rs.one
    obtain ⟨ys, e, hz, q⟩ := o
    obtain ⟨p, ws, rfl, h, r⟩ := look_seq S rd e
    cases reps_str r
    exact ⟨_, p, ys, rfl, rfl, h, hz, fin _ _ _ H _ q S .refl (Rep.str _).t⟩
  · exact o.elim
/-- text.split(sep): a new list of texts -/
def oSplit : D → List D → Rho → Mu → KD → Prop
  | .str a, [.str b], ρ, μ, Φ => (b.length == 0) = false ∧ a.length + 2 ≤ sizeLine ∧ Φ (.lst ((Txt.split a b).map .str)) ρ μ
  | _, _, _, _, _ => False
theorem reps_strs {O : Objs} {K : PySem.W.Frag} {Hv : Hp} : ∀ zs : List Str, Reps O K as Hv (zs.map V.str) (zs.map .str)
  | [] => .nil
  | z :: zs => .cons (.str z) (reps_strs zs)
theorem reps_ints {O : Objs} {K : PySem.W.Frag} {Hv : Hp} : ∀ zs : List Int, Reps O K as Hv (zs.map V.int) (zs.map .int)
  | [] => .nil
  | z :: zs => .cons (.int z) (reps_ints zs)
theorem mts_split : MtS B Jg.rSplit oSplit := by
  intro as ρ μ σ H x ds va vs Φ Q S rx rs o fin
  unfold oSplit at o
  split at o
  · rename_i a b
    cases rx.str
    obtain ⟨w, rfl, rd⟩ := rs.one
    cases rd.str
    obtain ⟨h1, h2, q⟩ := o
    refine ⟨_, _, rfl, rfl, h1, h2, fun p n => ?_⟩
    have up := ext_lay (o := HO.lst ((Txt.split a b).map V.str)) n
    exact fin _ ρ μ _ _ q (S.ext up) (.ext up) (show RepB B as ρ σ _ _ _ from .lst (res_some.mpr ⟨S.sight n, upd_same⟩) (reps_strs _)).t
  · exact o.elim
/-- text.upper(), text.lower() -/
def oUpper : D → List D → Rho → Mu → KD → Prop
  | .str a, [], ρ, μ, Φ => a.length ≤ 5592405 ∧ Φ (.str (Txt.upper a)) ρ μ
  | _, _, _, _, _ => False
theorem mts_upper : MtS B (fun x xs H Q => ∃ a, x = .str a ∧ xs = [] ∧ a.length ≤ 5592405 ∧ Q (.str (Txt.upper a)) H) oUpper := by
  intro as ρ μ σ H x ds va vs Φ Q S rx rs o fin
  unfold oUpper at o
  split at o
  · cases rx.str
    cases rs
    exact ⟨_, rfl, rfl, o.1, fin _ _ _ H _ o.2 S .refl (Rep.str _).t⟩
  · exact o.elim
/-- x.index(y): the first place of an equal one -/
def oIndex : D → List D → Rho → Mu → KD → Prop
  | x, [y], ρ, μ, Φ => ∃ (xs : List D) (j : Nat) (z : D), lookD ρ μ x = some (.lst xs) ∧ xs[j]? = some z ∧ D.datas xs = true ∧ y.data = true ∧ PyData.canLay0 y.pyd = true ∧ PyData.canLayAll0 (D.pyds xs) = true ∧ y.low ∧ PyData.depthAll (D.pyds xs) ≤ 60 ∧
      z.deq y = true ∧ (∀ (m : Nat) (z' : D), m < j → xs[m]? = some z' → z'.deq y = false) ∧ Φ (.int (j : Nat)) ρ μ
  | _, _, _, _, _ => False
theorem pyds_get : ∀ (xs : List D) (j : Nat), (D.pyds xs)[j]? = (xs[j]?).map D.pyd
  | [], j => by simp [D.pyds]
  | x :: xs, 0 => by simp [D.pyds]
  | x :: xs, j + 1 => by simp only [D.pyds, List.getElem?_cons_succ, pyds_get xs j]
theorem mts_index : MtS B (rIndexD B.K) oIndex := by
  intro as ρ μ σ H x ds va vs Φ Q S rx rs o fin
  unfold oIndex at o
  split at o
  · rename_i y
    obtain ⟨w, rfl, rd⟩ := rs.one
    obtain ⟨xs, j, z, e1, e2, h1, h2, h3, h4, h5, h6, h7, h8, q⟩ := o
    obtain ⟨p, ws, rfl, h, r⟩ := look_lst S rx e1
    refine ⟨p, w, _, D.pyds xs, j, z.pyd, rfl, rfl, .lst (SqL.of h) ((r.le res_sub).dps h1), look_data S rd h2, ?_, ?_, by rw [pyds_get, e2]; rfl, h7, fun m z' lt e => ?_, fin _ _ _ H _ q S .refl (Rep.int _).t⟩
    · unfold SeqAt.shaped
      rw [Bool.and_eq_true]
      refine ⟨by simpa [PyData.canLay0] using h4, decide_eq_true ?_⟩
      simp only [PyData.depth]
      omega
    · unfold SeqAt.shaped
      rw [Bool.and_eq_true]
      exact ⟨h3, decide_eq_true (Nat.le_trans h5 (by decide))⟩
    · rw [pyds_get] at e
      cases e3 : xs[m]? with
      | none => rw [e3] at e; cases e
      | some z2 =>
        rw [e3] at e
        cases e
        exact h8 m z2 lt e3
  · exact o.elim
theorem mtr_index (hu : X.A.units + 65 < cLine) (hK : X.K = B.K := by rfl) : MtR X "list.index" (rIndexD B.K) := by
  rw [← hK]
  exact mt_indexD hu
theorem mtr_join (hK : X.K = B.K := by rfl) : MtR X "str.join" (Jg.rJoin B.K) := Jg.mt_joinV hK
/-! ### slices -/
abbrev DO := Rho → Mu → (Option Int → Rho → Mu → Prop) → KX → Prop
def LO (B : Par) (r : DO) : TO := fun σ H Q => ∃ as ρ μ Φ Ψ, SimB B as ρ μ σ H ∧ r ρ μ Φ Ψ ∧ EndX B σ Ψ ∧
  ∀ b as' ρ' μ' H', Φ b ρ' μ' → StepB B as ρ σ H as' ρ' H' → SimB B as' ρ' μ' σ H' → Q b H'
structure PDO (X : Cx) (B : Par) (e : Option Expr) (r : DO) : Prop where
  po : PO X e (LO B r)
def rNoPart : DO := fun ρ μ Φ _ => Φ none ρ μ
def rPart (ra : DE) : DO := fun ρ μ Φ Ψ => ra ρ μ (fun x ρ1 μ1 => ∃ i, x = .int i ∧ Φ (some i) ρ1 μ1) Ψ
theorem pdo_none : PDO X B none rNoPart := ⟨⟨fun pins s σ H Q I h => po_none.run pins s σ H Q I (by
  obtain ⟨as, ρ, μ, Φ, Ψ, S, r, x, fin⟩ := h
  exact fin none as ρ μ H r .refl S)⟩⟩
theorem pdo_some (h : PD X B e ra) : PDO X B (some e) (rPart ra) := ⟨⟨fun pins s σ H Q I q => (po_some h).run pins s σ H Q I (by
  obtain ⟨as, ρ, μ, Φ, Ψ, S, r, x, fin⟩ := q
  refine ⟨as, ρ, μ, _, Ψ, S, r, x, fun d1 as1 ρ1 μ1 H1 v1 q1 k1 S1 t1 => ?_⟩
  obtain ⟨n, rfl, q1⟩ := q1
  exact ⟨n, t1.int, fin (some n) as1 ρ1 μ1 H1 q1 k1 S1⟩)⟩⟩
def cutD (xs : List D) (lo hi : Option Int) : List D := (xs.drop (HT.sIx xs.length 0 lo)).take (HT.sIx xs.length xs.length hi - HT.sIx xs.length 0 lo)
theorem Reps.cutR {O : Objs} {K : PySem.W.Frag} {Hv : Hp} {vs : List V} {xs : List D} {lo hi : Option Int} (r : Reps O K as Hv vs xs) : Reps O K as Hv (cutV vs lo hi) (cutD xs lo hi) := by
  unfold cutV cutD
  rw [r.length]
  exact ((r.cut _).2.cut _).1
variable {lo hi : Option Expr} {rl rh : DO} {p2 pos : Pos}
def rSl (o : D → Option Int → Option Int → Rho → Mu → (D → Prop) → Prop) (ra : DE) (rl rh : DO) : DE := fun ρ μ Φ Ψ => ra ρ μ (fun x ρ1 μ1 => rl ρ1 μ1 (fun l ρ2 μ2 => rh ρ2 μ2 (fun h ρ3 μ3 => o x l h ρ3 μ3 fun d => Φ d ρ3 μ3) Ψ) Ψ) Ψ
def oSl : D → Option Int → Option Int → Rho → Mu → (D → Prop) → Prop
  | .str z, l, h, _, _, Φ => z.length ≤ sizeLine ∧ Φ (.str (cutS z l h))
  | .tup xs, l, h, _, _, Φ => Φ (.tup (cutD xs l h))
  | _, _, _, _, _, _ => False
theorem slr_all (hK : X.K = B.K := by rfl) : SlR X (fun x lo hi H Q => rSlS x lo hi H Q ∨ rSlA B.K x lo hi H Q) := by
  rw [← hK]
  exact SlR.or sl_str sl_tupA
theorem sIx_lo {n : Nat} (h : HT.sIx n 0 a = 0) {xs : List D} : xs.drop (HT.sIx n 0 a) = xs := by rw [h, List.drop_zero]
theorem pd_slice (ha : PD X B e ra) (hl : PDO X B lo rl) (hh : PDO X B hi rh) (hK : X.K = B.K := by rfl) : PD X B (.Subscript e (.Slice lo hi none p2) pos) (rSl oSl ra rl rh) :=
  (pe_slice (slr_all hK) ha hl.po hh.po).imp fun σ H Q h => by
    obtain ⟨as, ρ, μ, Φ, Ψ, S, r, x, fin⟩ := h
    refine ⟨as, ρ, μ, _, Ψ, S, r, x, fun d1 as1 ρ1 μ1 H1 v1 q1 k1 S1 t1 => ⟨as1, ρ1, μ1, _, Ψ, S1, q1, x, fun l as2 ρ2 μ2 H2 q2 k2 S2 => ⟨as2, ρ2, μ2, _, Ψ, S2, q2, x, fun h as3 ρ3 μ3 H3 q3 k3 S3 => ?_⟩⟩⟩
    have t3 := (t1.step k2.g).step k3.g
    have k := (k1.trans k2).trans k3
    cases d1 <;> first | exact q3.elim | skip
    · cases t3.str
      exact Or.inl ⟨_, rfl, q3.1, fin _ as3 ρ3 μ3 H3 _ q3.2 k S3 (Rep.str _).t⟩
    · obtain ⟨p, vs, rfl, hp, rs⟩ := look_tup S3 t3 rfl
      refine Or.inr ⟨p, vs, rfl, SqT.of hp, fun w => ?_, fun _ a na => ?_⟩
      · refine fin _ as3 ρ3 μ3 H3 _ q3 k S3 ?_
        have e2 : ∀ xs : List D, xs.length = vs.length → cutD xs l h = xs := fun xs e => by
          unfold cutD
          rw [e, w.1, w.2, List.drop_zero, Nat.sub_zero, ← e, List.take_length]
        rw [e2 _ rs.length.symm]
        exact t3
      · have up := ext_lay (o := HO.tup (cutV vs l h)) na
        exact fin _ as3 ρ3 μ3 _ _ q3 (k.trans (.ext up)) (S3.ext up) (show RepB B as3 ρ3 σ _ _ _ from .tup (res_some.mpr ⟨S3.sight na, upd_same⟩) (rs.cutR.le (res_ext up))).t
/-- a slice of a list: a new list -/
def rSlF (ra : DE) (rl rh : DO) : DF := fun ρ μ Φ Ψ => ra ρ μ (fun x ρ1 μ1 => rl ρ1 μ1 (fun l ρ2 μ2 => rh ρ2 μ2 (fun h ρ3 μ3 => ∃ xs, lookD ρ3 μ3 x = some (.lst xs) ∧ Φ (.lst (cutD xs l h)) ρ3 μ3) Ψ) Ψ) Ψ
theorem slr_list (hK : X.K = B.K := by rfl) : SlR X (rSlL B.K) := by
  rw [← hK]
  exact sl_list
theorem pdf_slice (ha : PD X B e ra) (hl : PDO X B lo rl) (hh : PDO X B hi rh) (hK : X.K = B.K := by rfl) : PDF X B (.Subscript e (.Slice lo hi none p2) pos) (rSlF ra rl rh) :=
  (pe_slice (slr_list hK) ha hl.po hh.po).imp fun σ H Q h => by
    obtain ⟨as, ρ, μ, Φ, Ψ, S, r, x, fin⟩ := h
    refine ⟨as, ρ, μ, _, Ψ, S, r, x, fun d1 as1 ρ1 μ1 H1 v1 q1 k1 S1 t1 => ⟨as1, ρ1, μ1, _, Ψ, S1, q1, x, fun l as2 ρ2 μ2 H2 q2 k2 S2 => ⟨as2, ρ2, μ2, _, Ψ, S2, q2, x, fun h as3 ρ3 μ3 H3 q3 k3 S3 => ?_⟩⟩⟩
    have t3 := (t1.step k2.g).step k3.g
    obtain ⟨xs, e, q⟩ := q3
    obtain ⟨p, vs, rfl, hp, rs⟩ := look_lst S3 t3 e
    exact ⟨p, vs, rfl, SqL.of hp, fun a na => fin _ as3 ρ3 μ3 H3 a (.lst (cutV vs l h)) q ((k1.trans k2).trans k3) S3 na ⟨_, rfl, rs.cutR⟩ fun _ _ _ z => nomatch z⟩
/-- list + list, list * n: new lists -/
def rCatF (ra rb : DE) : DF := fun ρ μ Φ Ψ => ra ρ μ (fun x ρ1 μ1 => rb ρ1 μ1 (fun y ρ2 μ2 => ∃ xs ys, lookD ρ2 μ2 x = some (.lst xs) ∧ lookD ρ2 μ2 y = some (.lst ys) ∧ xs.length + ys.length ≤ sizeLine ∧ Φ (.lst (xs ++ ys)) ρ2 μ2) Ψ) Ψ
theorem pdf_cat {a b : Expr} {rb : DE} (ha : PD X B a ra) (hb : PD X B b rb) : PDF X B (.BinOp a .Add b pos) (rCatF ra rb) :=
  (pe_op op_cat ha hb).imp fun σ H Q h => by
    obtain ⟨as, ρ, μ, Φ, Ψ, S, r, x, fin⟩ := h
    refine ⟨as, ρ, μ, _, Ψ, S, r, x, fun d1 as1 ρ1 μ1 H1 v1 q1 k1 S1 t1 => ⟨as1, ρ1, μ1, _, Ψ, S1, q1, x, fun d2 as2 ρ2 μ2 H2 v2 q2 k2 S2 t2 => ?_⟩⟩
    obtain ⟨xs, ys, e1, e2, hz, q⟩ := q2
    obtain ⟨p, vs, rfl, h1, r1⟩ := look_lst S2 (t1.step k2.g) e1
    obtain ⟨p', ws, rfl, h2, r2⟩ := look_lst S2 t2 e2
    exact ⟨p, p', vs, ws, rfl, rfl, h1, h2, by rw [r1.length, r2.length]; exact hz, fun a na => fin _ as2 ρ2 μ2 H2 a (.lst (vs ++ ws)) q (k1.trans k2) S2 na ⟨_, rfl, r1.app r2⟩ fun _ _ _ z => nomatch z⟩
theorem Reps.many {O : Objs} {K : PySem.W.Frag} {Hv : Hp} {vs : List V} {xs : List D} (r : Reps O K as Hv vs xs) : ∀ n, Reps O K as Hv (List.replicate n vs).flatten (List.replicate n xs).flatten
  | 0 => .nil
  | n + 1 => by
    rw [List.replicate_succ, List.replicate_succ, List.flatten_cons, List.flatten_cons]
    exact r.app (Reps.many r n)
def rRepF (ra rb : DE) : DF := fun ρ μ Φ Ψ => ra ρ μ (fun x ρ1 μ1 => rb ρ1 μ1 (fun y ρ2 μ2 => ∃ xs n, lookD ρ2 μ2 x = some (.lst xs) ∧ y = .int n ∧ -(2 ^ 63) ≤ n ∧ n < 2 ^ 63 ∧ xs.length * n.toNat ≤ sizeLine ∧ Φ (.lst (List.replicate n.toNat xs).flatten) ρ2 μ2) Ψ) Ψ
theorem pdf_rep {a b : Expr} {rb : DE} (ha : PD X B a ra) (hb : PD X B b rb) : PDF X B (.BinOp a .Mult b pos) (rRepF ra rb) :=
  (pe_op op_rep ha hb).imp fun σ H Q h => by
    obtain ⟨as, ρ, μ, Φ, Ψ, S, r, x, fin⟩ := h
    refine ⟨as, ρ, μ, _, Ψ, S, r, x, fun d1 as1 ρ1 μ1 H1 v1 q1 k1 S1 t1 => ⟨as1, ρ1, μ1, _, Ψ, S1, q1, x, fun d2 as2 ρ2 μ2 H2 v2 q2 k2 S2 t2 => ?_⟩⟩
    obtain ⟨xs, n, e1, rfl, n1, n2, hz, q⟩ := q2
    obtain ⟨p, vs, rfl, h1, r1⟩ := look_lst S2 (t1.step k2.g) e1
    exact ⟨p, n, vs, rfl, t2.int, h1, n1, n2, by rw [r1.length]; exact hz, fun a na => fin _ as2 ρ2 μ2 H2 a (.lst _) q (k1.trans k2) S2 na ⟨_, rfl, r1.many _⟩ fun _ _ _ z => nomatch z⟩
end
end Dl
namespace Dl
open PySem PySem.Spec PyProof.Rows L2
/-! ### targets -/
abbrev DG := D → Rho → Mu → (Rho → Mu → Prop) → Prop
abbrev DGs := List D → Rho → Mu → (Rho → Mu → Prop) → Prop
/-- ts: the slots that may be set -/
def LG (B : Par) (ts : List Nat) (g : DG) : TG := fun v σ H Q => ∃ as ρ μ d N, SimB B as ρ μ σ H ∧ RepB B as ρ σ H v d ∧ g d ρ μ N ∧ ∀ as' ρ' μ' σ' H', wipe σ' ts = wipe σ ts → SimB B as' ρ' μ' σ' H' → N ρ' μ' → Q σ' H'
def LGs (B : Par) (ts : List Nat) (g : DGs) : TGs := fun vs σ H Q => ∃ as ρ μ ds N, SimB B as ρ μ σ H ∧ RepsB B as ρ σ H vs ds ∧ g ds ρ μ N ∧ ∀ as' ρ' μ' σ' H', wipe σ' ts = wipe σ ts → SimB B as' ρ' μ' σ' H' → N ρ' μ' → Q σ' H'
def PDG (X : Cx) (B : Par) (ts : List Nat) (t : Expr) (g : DG) : Prop := PG X t (LG B ts g)
def PDGs (X : Cx) (B : Par) (ts : List Nat) (es : List Expr) (g : DGs) : Prop := PGs X es (LGs B ts g)
/-- more is told of things in sight -/
def Par.pin (B : Par) (ps : List Pin) : Par := { B with fm := { B.fm with P := ps ++ B.fm.P } }
theorem wipe_set {σ : L2.St} {i : Nat} {x : Option V} : ∀ {ts : List Nat}, i ∈ ts → wipe (σ.set i x) ts = wipe σ ts
  | j :: ts, h => by
    unfold wipe
    by_cases hi : i ∈ ts
    · rw [wipe_set hi]
    · have e : i = j := by
        rcases List.mem_cons.mp h with h | h
        · exact h
        · exact absurd h hi
      subst e
      have comm : ∀ {us : List Nat}, i ∉ us → wipe (σ.set i x) us = (wipe σ us).set i x := fun {us} => by
        induction us with
        | nil => intro _; rfl
        | cons k us ih =>
          intro hn
          unfold wipe
          rw [ih fun z => hn (List.mem_cons_of_mem _ z), List.set_comm _ _ (fun z => hn (by rw [z]; exact List.mem_cons_self))]
      rw [comm hi, List.set_set]
section
variable {B : Par} {X : Cx} {as as' : List Addr} {ρ ρ' : Rho} {μ μ' : Mu} {σ σ' : L2.St} {H H' : Hp} {v w : V} {d d' : D} {i : Nat} {m m' : M} {p : Addr} {o : HO} {ts : List Nat}
theorem _root_.L2.PG.imp {t : Expr} {g g' : TG} (h : PG X t g) (w : ∀ v σ H Q, g' v σ H Q → g v σ H Q) : PG X t g' := ⟨fun pins s σ H v u Q I r q => h.run pins s σ H v u Q I r (w v σ H Q q)⟩
theorem _root_.L2.PGs.imp {es : List Expr} {g g' : TGs} (h : PGs X es g) (w : ∀ vs σ H Q, g' vs σ H Q → g vs σ H Q) : PGs X es g' := ⟨fun pins s σ H vs us Q I r q => h.run pins s σ H vs us Q I r (w vs σ H Q q)⟩
def gdName (i : Nat) : DG := fun d ρ μ N => N (ρ.set i (.val d)) μ
theorem pdg_name {x : Str} {pos : Pos} (hN : X.N.Nodup) (hi : X.N[i]? = some x) (hx : Loc X.env.scope x) (ht : i ∈ ts) (hf : X.fn x = true ∨ X.env.scope.names.lookup x = some .local := by first | exact .inl rfl | exact .inr rfl | assumption) : PDG X B ts (.Name x pos) (gdName i) :=
  (pg_name hN hi hx hf).imp fun v σ H Q h => by
    obtain ⟨as, ρ, μ, d, N, S, r, q, fin⟩ := h
    exact fin as _ μ _ H (wipe_set ht) (S.setD r) q
def gdNil : DGs := fun ds ρ μ N => ds = [] ∧ N ρ μ
def gdCons (g : DG) (gs : DGs) : DGs := fun ds ρ μ N => match ds with
  | d :: ds => g d ρ μ fun ρ' μ' => gs ds ρ' μ' N
  | [] => False
theorem pdgs_nil : PDGs X B ts [] gdNil := (pgs_nil (X := X)).imp fun vs σ H Q h => by
  obtain ⟨as, ρ, μ, ds, N, S, r, q, fin⟩ := h
  obtain ⟨rfl, q⟩ := q
  cases r
  exact ⟨rfl, fin as ρ μ σ H rfl S q⟩
/-- what is told in sight of a place where it is told stays told: a pinned thing -/
theorem SimB.pinned {ps : List Pin} (S : SimB B as ρ μ σ H) (h : ∀ q ∈ ps, PinOk B.O B.K as (vis B as ρ σ H) q) : SimB (B.pin ps) as ρ μ σ H :=
  ⟨S.len, S.val, S.own, S.one, S.mu, S.base, S.stay, S.ftrk, S.fas, fun q hq => by
    rcases List.mem_append.mp hq with hq | hq
    · exact h q hq
    · exact S.pin q hq⟩
theorem SimB.unpinned {ps : List Pin} (S : SimB (B.pin ps) as ρ μ σ H) : SimB B as ρ μ σ H :=
  ⟨S.len, S.val, S.own, S.one, S.mu, S.base, S.stay, S.ftrk, S.fas, fun q hq => S.pin q (List.mem_append_right _ hq)⟩
theorem SimB.pinAt {ps : List Pin} (S : SimB (B.pin ps) as ρ μ σ H) {q : Pin} (h : q ∈ ps) : PinOk B.O B.K as (vis B as ρ σ H) q := S.pin q (List.mem_append_left _ h)
def repPins : List V → List D → List Pin
  | v :: vs, d :: ds => .rep v d :: repPins vs ds
  | _, _ => []
theorem rep_pins {Hv : Hp} {O : Objs} {K : PySem.W.Frag} : ∀ {vs : List V} {ds : List D}, Reps O K as Hv vs ds → ∀ q ∈ repPins vs ds, PinOk O K as Hv q
  | _, _, .nil, q, h => nomatch h
  | _, _, .cons a r, q, h => by
    rcases List.mem_cons.mp h with rfl | h
    · exact a
    · exact rep_pins r q h
theorem pins_rep {Hv : Hp} {O : Objs} {K : PySem.W.Frag} : ∀ {vs : List V} {ds : List D}, vs.length = ds.length → (∀ q ∈ repPins vs ds, PinOk O K as Hv q) → Reps O K as Hv vs ds
  | [], [], _, _ => .nil
  | v :: vs, d :: ds, e, h => .cons (h _ List.mem_cons_self) (pins_rep (by simpa using e) fun q hq => h q (List.mem_cons_of_mem _ hq))
  | [], d :: ds, e, _ => by cases e
  | v :: vs, [], e, _ => by cases e
theorem pdgs_cons {e : Expr} {es : List Expr} {g : DG} {gs : DGs} (h1 : ∀ fm, PDG X ⟨B.O, B.K, fm, B.W⟩ ts e g) (h2 : PDGs X B ts es gs)
    (hs : (assignEach (e :: es) X.env).map (·.2) = assign e X.env :: (assignEach es X.env).map (·.2) := by rfl) : PDGs X B ts (e :: es) (gdCons g gs) := by
  refine ⟨fun pins s σ H vs us Q I rel h => ?_⟩
  obtain ⟨as, ρ, μ, ds, N, S, r, q, fin⟩ := h
  cases r with
  | nil => exact q.elim
  | cons a r =>
    rename_i v d vs ds
    -- the rest of the row is pinned while the first is stored
    exact (pgs_cons (h1 (B.pin (repPins vs ds)).fm) h2 hs).run pins s σ H _ us Q I rel ⟨v, vs, rfl, as, ρ, μ, d, _, S.pinned (rep_pins r), a, q, fun as' ρ' μ' σ' H' k1 S' q' =>
      ⟨as', ρ', μ', ds, N, S'.unpinned, pins_rep r.length fun z hz => S'.pinAt hz, q', fun as2 ρ2 μ2 σ2 H2 k2 => fin as2 ρ2 μ2 σ2 H2 (k2.trans k1)⟩⟩
def gdTup (gs : DGs) : DG := fun d ρ μ N => match d with
  | .tup xs => gs xs ρ μ N
  | _ => False
theorem pdg_tup {es : List Expr} {k : Nat} {gs : DGs} {n : Nat} {pos : Pos} (hc : X.calm = true) (h : PDGs X B ts es gs) (len : ∀ ds ρ μ N, gs ds ρ μ N → ds.length = n) (hK : X.K = B.K := by rfl)
    (hn : (assignEach es X.env).length = n := by rfl) (hst : (assignEach es X.env).findIdx? (·.1) = none := by rfl) : PDG X B ts (.Tuple es k pos) (gdTup gs) :=
  (pg_tup (pos := pos) (k := k) hc h hn hst).imp fun v σ H Q h => by
    obtain ⟨as, ρ, μ, d, N, S, r, q, fin⟩ := h
    cases d <;> first | exact q.elim | skip
    cases r with
    | tup e r =>
      refine ⟨_, _, rfl, SqT.of (res_sub _ _ e), ?_, as, ρ, μ, _, N, S, r, q, fin⟩
      rw [r.length]
      exact len _ _ _ _ q
theorem gdCons_len {g : DG} {gs : DGs} {n : Nat} (hg : ∀ d ρ μ N, g d ρ μ N → ∃ ρ' μ', N ρ' μ') (h : ∀ ds ρ μ N, gs ds ρ μ N → ds.length = n) : ∀ ds ρ μ N, gdCons g gs ds ρ μ N → ds.length = n + 1 := fun ds ρ μ N q => by
  cases ds with
  | nil => exact q.elim
  | cons d ds =>
    obtain ⟨ρ', μ', q⟩ := hg _ _ _ _ q
    rw [List.length_cons, h _ _ _ _ q]
theorem gdName_ends : ∀ d ρ μ N, gdName i d ρ μ N → ∃ ρ' μ', N ρ' μ' := fun d ρ μ N q => ⟨_, _, q⟩
theorem gdNil_len : ∀ ds ρ μ N, gdNil ds ρ μ N → ds.length = 0 := fun ds ρ μ N q => by rw [q.1]; rfl
/-- a, b = e -/
def rAsg (re : DE) (g : DG) : DS := fun N ρ μ => re ρ μ (fun d ρ1 μ1 => ∃ ρ2 d2, stow ρ1 d = some (ρ2, d2) ∧ g d2 ρ2 μ1 N.nx) N.ex
theorem pds_asg {tg e : Expr} {re : DE} {g : DG} {pos : Pos} (he : PD X B e re) (hg : PDG X B ts tg g) (hs : swapsWithSole [tg] e pos.line X.env = pure false := by rfl) (hw : swappedStores [tg] e X.env = pure none := by rfl)
    (h1 : (assignEach [tg] X.env).map (·.2) = [assign tg X.env] := by rfl) : PDS X B (.Assign [tg] e pos) (rAsg re g) :=
  (ps_asg he hg hs hw h1).imp fun E σ H h => by
    obtain ⟨as, ρ, μ, N, S, q, gg⟩ := h
    refine ⟨as, ρ, μ, _, _, S, q, gg.ex σ, fun d as' ρ' μ' H' v q' _ S' rv => ?_⟩
    obtain ⟨ρ2, d2, e2, q2⟩ := q'
    obtain ⟨S2, r2, _⟩ := S'.stow rv e2
    exact ⟨as', ρ2, μ', d2, _, S2, r2, q2, fun as' ρ' μ' σ' H' _ S' q' => gg.nx as' ρ' μ' σ' H' S' q'⟩
/-! ### sizes that the machine keeps -/
def Sized (H : Hp) : Prop := ∀ a, (∀ xs, H a = some (.lst xs) → xs.length ≤ sizeLine) ∧ (∀ xs, H a = some (.tup xs) → xs.length ≤ sizeLine) ∧ (∀ kvs, Rd H a (.dK kvs) → kvs.length ≤ sizeLine) ∧ (∀ kvs, Rd H a (.dT kvs) → kvs.length ≤ sizeLine)
theorem sized_inv {pins : List (Addr × Obj)} {s : Shared} (I : Inv X pins σ H s) : Sized H := fun a => by
  refine ⟨fun xs h => (I.hok a _ h).1, fun xs h => (I.hok a _ h).1, fun kvs h => ?_, fun kvs h => ?_⟩
  · exact (rd_of I.hok h).1
  · exact (rd_of I.hok h).1
theorem _root_.L2.PI.sized {tg iter : Expr} {t : TI} (h : PI X tg iter t) : PI X tg iter (fun σ H R => t σ H fun J H1 => Sized H1 → R J H1) := ⟨fun pins s σ H R I q => by
  refine thn (h.run pins s σ H _ I q) fun v s1 h1 => thn h1 fun itv s2 h2 => ?_
  obtain ⟨it, fp, tn, J, H2, e, I2, T, st2, f2, q⟩ := h2
  exact ⟨it, fp, tn, J, H2, e, I2, T, st2, f2, q (sized_inv I2)⟩⟩
theorem _root_.L2.PE.sized {e : Expr} {t : TE} (h : PE X e t) : PE X e (fun σ H Q => t σ H fun v H1 => Sized H1 → Q v H1) := ⟨fun pins s σ H Q I q =>
  thn (h.run pins s σ H _ I q) fun v s1 ⟨x, H1, I1, r, q1⟩ => ⟨x, H1, I1, r, q1 (sized_inv I1)⟩⟩
end
section
variable {B : Par} {X : Cx} {as as' : List Addr} {ρ ρ' : Rho} {μ μ' : Mu} {σ σ' : L2.St} {H H' : Hp} {v w : V} {d d' : D} {i : Nat} {m m' : M} {p : Addr} {o : HO} {ts : List Nat}
/-! ### where a loop begins -/
def Par.from' (B : Par) (as : List Addr) (ρ : Rho) (σ : L2.St) (H : Hp) (ps : List Pin) : Par := { B with fm := { B.fm with as := as, X := XX B.fm.F as ρ σ, H := H, P := ps ++ B.fm.P } }
theorem SimB.into {ps : List Pin} (S : SimB B as ρ μ σ H) (h : ∀ q ∈ ps, PinOk B.O B.K as (vis B as ρ σ H) q) : SimB (B.from' as ρ σ H ps) as ρ μ σ H :=
  ⟨S.len, S.val, S.own, S.one, S.mu, Grow.refl, S.stay, S.ftrk, S.fas, fun q hq => by
    rcases List.mem_append.mp hq with hq | hq
    · exact h q hq
    · exact S.pin q hq⟩
theorem SimB.out {as0 : List Addr} {ρ0 : Rho} {μ0 : Mu} {σ0 : L2.St} {H0 : Hp} {ps : List Pin} (S0 : SimB B as0 ρ0 μ0 σ0 H0) (S : SimB (B.from' as0 ρ0 σ0 H0 ps) as ρ μ σ H) : SimB B as ρ μ σ H :=
  ⟨S.len, S.val, S.own, S.one, S.mu, S0.base.trans S.base, S.stay, S.ftrk, S.fas, fun q hq => S.pin q (List.mem_append_right _ hq)⟩
theorem goes_into {N : DN} {E : Ends} {ps : List Pin} (S : SimB B as ρ μ σ H) (g : Goes B N E) : Goes (B.from' as ρ σ H ps) N E :=
  ⟨fun as ρ μ σ H S' q => g.nx as ρ μ σ H (S.out S') q, fun as ρ μ σ H v d S' r q => g.rt as ρ μ σ H v d (S.out S') r q, fun as ρ μ σ H S' q => g.bk as ρ μ σ H (S.out S') q,
    fun as ρ μ σ H S' q => g.ct as ρ μ σ H (S.out S') q, fun σ e as ρ μ H cls dx q S' ok => g.ex σ e as ρ μ H cls dx q (S.out S') ok⟩
/-! ### what is walked -/
/-- J tells the things ds in their order, wherever C -/
structure Walks (B : Par) (J : It) (ds : List D) (C : Rho → Mu → Prop) : Prop where
  go : ∀ i as ρ μ σ H, i < ds.length → SimB B as ρ μ σ H → C ρ μ → J.go i H ∧ ∀ x H', J.yld i H x H' → (∀ a o, H a = some o → H' a = some o) ∧ ∃ d, ds[i]? = some d ∧ RepB B as ρ σ H' x d
  stop : ∀ as ρ μ σ H, SimB B as ρ μ σ H → C ρ μ → J.stop ds.length H
abbrev DI := Rho → Mu → (List D → (Rho → Mu → Prop) → Rho → Mu → Prop) → KX → Prop
def WalksA (O : Objs) (K : PySem.W.Frag) (ps : List Pin) (as : List Addr) (J : It) (ds : List D) (C : Rho → Mu → Prop) : Prop :=
  ∀ fm W, (∀ q ∈ ps, q ∈ fm.P) → (∃ t, fm.as = as ++ t) → Walks ⟨O, K, fm, W⟩ J ds C
def LI (B : Par) (wi : DI) : TI := fun σ H R => ∃ as ρ μ Φ Ψ, SimB B as ρ μ σ H ∧ wi ρ μ Φ Ψ ∧ EndX B σ Ψ ∧
  ∀ ds C as' ρ' μ' H' J ps, Φ ds C ρ' μ' → StepB B as ρ σ H as' ρ' H' → SimB B as' ρ' μ' σ H' → (∀ q ∈ ps, PinOk B.O B.K as' (vis B as' ρ' σ H') q) → WalksA B.O B.K ps as' J ds C → R J H'
def PDI (X : Cx) (B : Par) (tg iter : Expr) (wi : DI) : Prop := PI X tg iter (LI B wi)
theorem _root_.L2.PI.imp {tg iter : Expr} {t t' : TI} (h : PI X tg iter t) (w : ∀ σ H R, t' σ H R → t σ H R) : PI X tg iter t' := ⟨fun pins s σ H R I q => h.run pins s σ H R I (w σ H R q)⟩
def cAll : Rho → Mu → Prop := fun _ _ => True
/-- a list: a tree's, one by number -/
def iSeq (ra : DE) : DI := fun ρ μ Φ Ψ => ra ρ μ (fun d ρ1 μ1 => ∃ ρ2 d2, stow ρ1 d = some (ρ2, d2) ∧ match d2 with
  | .lst xs => xs.length ≤ sizeLine → Φ xs cAll ρ2 μ1
  | .num j => ∃ xs, μ1[j]? = some (.lst xs) ∧ (xs.length ≤ sizeLine → Φ xs (fun _ μ => μ[j]? = some (.lst xs)) ρ2 μ1)
  | _ => False) Ψ
variable {O : Objs} {K : PySem.W.Frag}
theorem walks_list {a : Addr} {ds : List D} {ps : List Pin} (hp : .rep (.ref a) (.lst ds) ∈ ps) : WalksA O K ps as (Itl K a) ds cAll := fun fm W hP _ => by
  have at_ : ∀ {as ρ μ σ H}, SimB ⟨O, K, fm, W⟩ as ρ μ σ H → ∃ vs, H a = some (.lst vs) ∧ RepsB ⟨O, K, fm, W⟩ as ρ σ H vs ds := fun {as ρ μ σ H} S => by
    have q : Rep O K as (vis ⟨O, K, fm, W⟩ as ρ σ H) (.ref a) (.lst ds) := S.pin _ (hP _ hp)
    cases q with
    | lst h r => exact ⟨_, res_sub _ _ h, r⟩
  refine ⟨fun i as ρ μ σ H hi S _ => ?_, fun as ρ μ σ H S _ => ?_⟩
  · obtain ⟨vs, h, r⟩ := at_ S
    have hi' : i < vs.length := by rw [r.length]; exact hi
    refine ⟨⟨vs, vs[i], SqL.of h, by simp [hi']⟩, fun x H' y => ?_⟩
    obtain ⟨rfl, y⟩ := y
    obtain ⟨d, e, q⟩ := r.get i x (y vs (SqL.of h))
    exact ⟨fun _ _ e => e, d, e, q⟩
  · obtain ⟨vs, h, r⟩ := at_ S
    exact ⟨vs, SqL.of h, by rw [r.length]; exact Nat.le_refl _⟩
theorem walks_num {a : Addr} {j : Nat} {ds : List D} (hj : as[j]? = some a) : WalksA O K [] as (Itl K a) ds (fun _ μ => μ[j]? = some (.lst ds)) := fun fm W _ hA => by
  have at_ : ∀ {as' ρ μ σ H}, SimB ⟨O, K, fm, W⟩ as' ρ μ σ H → μ[j]? = some (.lst ds) → ∃ vs, H a = some (.lst vs) ∧ RepsB ⟨O, K, fm, W⟩ as' ρ σ H vs ds := fun {as' ρ μ σ H} S c => by
    obtain ⟨t, ht⟩ := hA
    have e0 : fm.as[j]? = some a := by rw [ht, List.getElem?_append_left (List.getElem?_eq_some_iff.mp hj).1]; exact hj
    obtain ⟨o, ho, vs, rfl, r⟩ := S.mu.mu j _ a c (S.base.at e0)
    exact ⟨vs, ho, r⟩
  refine ⟨fun i as ρ μ σ H hi S c => ?_, fun as ρ μ σ H S c => ?_⟩
  · obtain ⟨vs, h, r⟩ := at_ S c
    have hi' : i < vs.length := by rw [r.length]; exact hi
    refine ⟨⟨vs, vs[i], SqL.of h, by simp [hi']⟩, fun x H' y => ?_⟩
    obtain ⟨rfl, y⟩ := y
    obtain ⟨d, e, q⟩ := r.get i x (y vs (SqL.of h))
    exact ⟨fun _ _ e => e, d, e, q⟩
  · obtain ⟨vs, h, r⟩ := at_ S c
    exact ⟨vs, SqL.of h, by rw [r.length]; exact Nat.le_refl _⟩
theorem walks_tup {a : Addr} {ds : List D} {ps : List Pin} (hp : .rep (.ref a) (.tup ds) ∈ ps) : WalksA O K ps as (Itt K a) ds cAll := fun fm W hP _ => by
  have at_ : ∀ {as ρ μ σ H}, SimB ⟨O, K, fm, W⟩ as ρ μ σ H → ∃ vs, H a = some (.tup vs) ∧ RepsB ⟨O, K, fm, W⟩ as ρ σ H vs ds := fun {as ρ μ σ H} S => by
    have q : Rep O K as (vis ⟨O, K, fm, W⟩ as ρ σ H) (.ref a) (.tup ds) := S.pin _ (hP _ hp)
    cases q with
    | tup h r => exact ⟨_, res_sub _ _ h, r⟩
  refine ⟨fun i as ρ μ σ H hi S _ => ?_, fun as ρ μ σ H S _ => ?_⟩
  · obtain ⟨vs, h, r⟩ := at_ S
    have hi' : i < vs.length := by rw [r.length]; exact hi
    refine ⟨⟨vs, vs[i], SqT.of h, by simp [hi']⟩, fun x H' y => ?_⟩
    obtain ⟨rfl, y⟩ := y
    obtain ⟨d, e, q⟩ := r.get i x (y vs (SqT.of h))
    exact ⟨fun _ _ e => e, d, e, q⟩
  · obtain ⟨vs, h, r⟩ := at_ S
    exact ⟨vs, SqT.of h, by rw [r.length]; exact Nat.le_refl _⟩
theorem pin1 {Hv : Hp} {q0 : Pin} (h : PinOk O K as Hv q0) : ∀ q ∈ [q0], PinOk O K as Hv q := fun z hz => by rw [List.mem_singleton.mp hz]; exact h
theorem pin0 {Hv : Hp} : ∀ q ∈ ([] : List Pin), PinOk O K as Hv q := fun z hz => nomatch hz
theorem pdi_list {tg l : Expr} {ra : DE} (h : PD X B l ra) (hK : X.K = B.K := by rfl) : PDI X B tg l (iSeq ra) := (pi_list (tg := tg) h).sized.imp fun σ H R q => by
  obtain ⟨as, ρ, μ, Φ, Ψ, S, q, x, fin⟩ := q
  refine ⟨as, ρ, μ, _, Ψ, S, q, x, fun d1 as1 ρ1 μ1 H1 v1 q1 k1 S1 t1 => ?_⟩
  obtain ⟨ρ2, d2, e, q2⟩ := q1
  obtain ⟨S2, r2, k2⟩ := S1.stow t1 e
  rw [hK]
  cases d2 <;> first | exact q2.elim | skip
  · obtain ⟨xs, e2, q2⟩ := q2
    cases r2 with
    | @num _ p hp =>
      obtain ⟨o, ho, vs, rfl, r⟩ := S2.mu.mu _ (.lst xs) p e2 hp
      exact ⟨p, rfl, ⟨vs, SqL.of ho⟩, fun sz => fin xs _ as1 ρ2 μ1 H1 _ [] (q2 (by rw [← r.length]; exact (sz p).1 _ ho)) (k1.trans k2) S2 pin0 (walks_num hp)⟩
  · cases r2 with
    | @lst a vs _ h r => exact ⟨a, rfl, ⟨vs, SqL.of (res_sub _ _ h)⟩, fun sz => fin _ _ as1 ρ2 μ1 H1 _ _ (q2 (by rw [← r.length]; exact (sz a).1 _ (res_sub _ _ h))) (k1.trans k2) S2 (pin1 (q0 := .rep _ _) (show Rep _ _ _ _ _ _ from .lst h r)) (walks_list List.mem_cons_self)⟩
def iTupD (ra : DE) : DI := fun ρ μ Φ Ψ => ra ρ μ (fun d ρ1 μ1 => ∃ xs, d = .tup xs ∧ (xs.length ≤ sizeLine → Φ xs cAll ρ1 μ1)) Ψ
theorem pdi_tup {tg l : Expr} {ra : DE} (h : PD X B l ra) (hK : X.K = B.K := by rfl) : PDI X B tg l (iTupD ra) := (pi_tup (tg := tg) h).sized.imp fun σ H R q => by
  obtain ⟨as, ρ, μ, Φ, Ψ, S, q, x, fin⟩ := q
  refine ⟨as, ρ, μ, _, Ψ, S, q, x, fun d1 as1 ρ1 μ1 H1 v1 q1 k1 S1 t1 => ?_⟩
  obtain ⟨xs, rfl, q1⟩ := q1
  rw [hK]
  cases t1.rep rfl with
  | @tup a vs _ h r => exact ⟨a, rfl, ⟨vs, SqT.of (res_sub _ _ h)⟩, fun sz => fin _ _ as1 ρ1 μ1 H1 _ _ (q1 (by rw [← r.length]; exact (sz a).2.1 _ (res_sub _ _ h))) k1 S1 (pin1 (q0 := .rep _ _) (show Rep _ _ _ _ _ _ from .tup h r)) (walks_tup List.mem_cons_self)⟩
/-- range -/
def rangeD (lo : Int) (n : Nat) : List D := (List.range n).map fun i => .int (lo + (i : Nat))
def iRange1 (ra : DA) : DI := fun ρ μ Φ Ψ => ra ρ μ (fun ds ρ1 μ1 => ∃ j : Int, ds = [.int j] ∧ -(2 ^ 62) ≤ j ∧ j < 2 ^ 62 ∧ Φ (rangeD 0 j.toNat) cAll ρ1 μ1) Ψ
def iRange2 (ra : DA) : DI := fun ρ μ Φ Ψ => ra ρ μ (fun ds ρ1 μ1 => ∃ i j : Int, ds = [.int i, .int j] ∧ (-(2 ^ 62) ≤ i ∧ i < 2 ^ 62 ∧ -(2 ^ 62) ≤ j ∧ j < 2 ^ 62) ∧ Φ (rangeD i (j - i).toNat) cAll ρ1 μ1) Ψ
theorem walks_range {lo : Int} {n : Nat} : WalksA O K [] as (Itr lo n) (rangeD lo n) cAll := fun fm W _ _ => by
  have hl : (rangeD lo n).length = n := by simp [rangeD]
  refine ⟨fun i as ρ μ σ H hi S _ => ⟨by rw [hl] at hi; exact hi, fun x H' y => ?_⟩, fun as ρ μ σ H S _ => by rw [hl]; exact Nat.le_refl _⟩
  obtain ⟨rfl, rfl⟩ := y
  rw [hl] at hi
  exact ⟨fun _ _ e => e, _, by simp [rangeD, hi], .int _⟩
theorem pdi_range1 {tg a : Expr} {ra : DA} {pp pos : Pos} (hg : Gl X "range") (hm : X.mg "range" = none) (ha : PDA X B [a] ra) (hs : starEach [a] X.env = [(false, eval a X.env)] := by rfl) : PDI X B tg (.Call (.Name "range" pp) [a] [] pos) (iRange1 ra) := (pi_range1 (tg := tg) hg hm ha hs).imp fun σ H R q => by
  obtain ⟨as, ρ, μ, Φ, Ψ, S, q, x, fin⟩ := q
  refine ⟨as, ρ, μ, _, Ψ, S, q, x, fun ds as1 ρ1 μ1 H1 vs q1 k1 S1 t1 => ?_⟩
  obtain ⟨j, rfl, h1, h2, q1⟩ := q1
  obtain ⟨v, rfl, r⟩ := t1.one
  cases r.int
  exact ⟨_, rfl, h1, h2, fin _ _ as1 ρ1 μ1 H1 _ [] q1 k1 S1 pin0 walks_range⟩
theorem pdi_range2 {tg a b : Expr} {ra : DA} {pp pos : Pos} (hg : Gl X "range") (hm : X.mg "range" = none) (ha : PDA X B [a, b] ra) (hs : starEach [a, b] X.env = [(false, eval a X.env), (false, eval b X.env)] := by rfl) (hs2 : starEach [b] X.env = [(false, eval b X.env)] := by rfl) :
    PDI X B tg (.Call (.Name "range" pp) [a, b] [] pos) (iRange2 ra) := (pi_range2 (tg := tg) hg hm ha hs hs2).imp fun σ H R q => by
  obtain ⟨as, ρ, μ, Φ, Ψ, S, q, x, fin⟩ := q
  refine ⟨as, ρ, μ, _, Ψ, S, q, x, fun ds as1 ρ1 μ1 H1 vs q1 k1 S1 t1 => ?_⟩
  obtain ⟨i, j, rfl, h, q1⟩ := q1
  obtain ⟨v, w, rfl, r, r2⟩ := t1.two
  cases r.int
  cases r2.int
  exact ⟨_, _, rfl, h, fin _ _ as1 ρ1 μ1 H1 _ [] q1 k1 S1 pin0 walks_range⟩
/-- range with a step -/
def rangeCD (lo c : Int) (n : Nat) : List D := (List.range n).map fun i => .int (lo + (i : Nat) * c)
theorem walks_rangeC {lo c : Int} {n : Nat} : WalksA O K [] as (Itc lo c n) (rangeCD lo c n) cAll := fun fm W _ _ => by
  have hl : (rangeCD lo c n).length = n := by simp [rangeCD]
  refine ⟨fun i as ρ μ σ H hi S _ => ⟨by rw [hl] at hi; exact hi, fun x H' y => ?_⟩, fun as ρ μ σ H S _ => by rw [hl]; exact Nat.le_refl _⟩
  obtain ⟨rfl, rfl⟩ := y
  rw [hl] at hi
  exact ⟨fun _ _ e => e, _, by simp [rangeCD, hi], .int _⟩
def iRange3 (ra : DA) : DI := fun ρ μ Φ Ψ => ra ρ μ (fun ds ρ1 μ1 => ∃ (i j c : Int) (n : Nat), ds = [.int i, .int j, .int c] ∧ RgC i j c n ∧ Φ (rangeCD i c n) cAll ρ1 μ1) Ψ
theorem pdi_range3 {tg a b c : Expr} {ra : DA} {pp pos : Pos} (hg : Gl X "range") (hm : X.mg "range" = none) (ha : PDA X B [a, b, c] ra)
    (hs : starEach [a, b, c] X.env = (false, eval a X.env) :: starEach [b, c] X.env := by rfl) (hpl : (backTo pos (starEach [b, c] X.env)).any (·.1) = false := by rfl) :
    PDI X B tg (.Call (.Name "range" pp) [a, b, c] [] pos) (iRange3 ra) := (pi_range3 (tg := tg) hg hm ha hs hpl).imp fun σ H R q => by
  obtain ⟨as, ρ, μ, Φ, Ψ, S, q, x, fin⟩ := q
  refine ⟨as, ρ, μ, _, Ψ, S, q, x, fun ds as1 ρ1 μ1 H1 vs q1 k1 S1 t1 => ?_⟩
  obtain ⟨i, j, c, n, rfl, h, q1⟩ := q1
  cases t1 with
  | cons r t1 =>
    obtain ⟨v, w, rfl, r2, r3⟩ := RepTsB.two t1
    cases r.int
    cases r2.int
    cases r3.int
    exact ⟨_, _, _, _, rfl, h, fin _ _ as1 ρ1 μ1 H1 _ [] q1 k1 S1 pin0 walks_rangeC⟩
/-- a text -/
def strD (z : Str) : List D := z.cps.toList.map fun c => .str ⟨#[c]⟩
theorem walks_str {z : Str} : WalksA O K [] as (Its z) (strD z) cAll := fun fm W _ _ => by
  have hl : (strD z).length = z.cps.size := by simp [strD]
  have w := walk_str (z := z)
  refine ⟨fun i as ρ μ σ H hi S _ => ?_, fun as ρ μ σ H S _ => by rw [hl]; exact w.stops H trivial⟩
  rw [hl] at hi
  refine ⟨w.goes i H hi trivial, fun x H' y => ?_⟩
  obtain ⟨rfl, c, hc, rfl⟩ := w.yields i H x H' hi trivial y
  refine ⟨fun _ _ e => e, .str ⟨#[c]⟩, ?_, .str _⟩
  simp [strD, hc]
def iStrD (ra : DE) : DI := fun ρ μ Φ Ψ => ra ρ μ (fun d ρ1 μ1 => ∃ z, d = .str z ∧ Φ (strD z) cAll ρ1 μ1) Ψ
theorem pdi_str {tg l : Expr} {ra : DE} (h : PD X B l ra) : PDI X B tg l (iStrD ra) := (pi_str (tg := tg) h).imp fun σ H R q => by
  obtain ⟨as, ρ, μ, Φ, Ψ, S, q, x, fin⟩ := q
  refine ⟨as, ρ, μ, _, Ψ, S, q, x, fun d1 as1 ρ1 μ1 H1 v1 q1 k1 S1 t1 => ?_⟩
  obtain ⟨z, rfl, q1⟩ := q1
  cases t1.str
  exact ⟨z, rfl, fin _ _ as1 ρ1 μ1 H1 _ [] q1 k1 S1 pin0 walks_str⟩
end
end Dl
namespace Dl
open PySem PySem.Spec PyProof.Rows L2
/-! ### loops -/
def forD (g : DG) (body : DS) (C : Rho → Mu → Prop) (N : DN) : List D → Rho → Mu → Prop
  | [], ρ, μ => C ρ μ ∧ N.nx ρ μ
  | d :: ds, ρ, μ => C ρ μ ∧ g d ρ μ fun ρ' μ' => body { N with nx := forD g body C N ds, ct := forD g body C N ds, bk := N.nx } ρ' μ'
def rFor (wi : DI) (g : DG) (body : DS) : DS := fun N ρ μ => wi ρ μ (fun ds C ρ1 μ1 => forD g body C N ds ρ1 μ1) N.ex
section
variable {B : Par} {X : Cx} {as as' : List Addr} {ρ ρ' : Rho} {μ μ' : Mu} {σ σ' : L2.St} {H H' : Hp} {v w : V} {d d' : D} {i : Nat} {m m' : M} {p : Addr} {o : HO}
variable {tg iter c : Expr} {body orelse : List Stmt} {wi : DI} {g : DG} {r u : DS} {rt : DT} {pos : Pos} {ts : List Nat}
theorem pg_all {ι : Type} {f : ι → TG} (h : ∀ i, PG X tg (f i)) : PG X tg (fun v σ H Q => ∃ i, f i v σ H Q) := ⟨fun pins s σ H v u Q I rv ⟨i, q⟩ => (h i).run pins s σ H v u Q I rv q⟩
theorem pss_all {ι : Type} {f : ι → TS} (h : ∀ i, PSs X body (f i)) : PSs X body (fun E σ H => ∃ i, f i E σ H) := ⟨fun pins s σ H E I ⟨i, q⟩ => (h i).run pins s σ H E I q⟩
/-- the turns of a loop -/
theorem for_turns {J : It} {ds : List D} {C : Rho → Mu → Prop} {N : DN} {E : Ends} (w : Walks B J ds C) (S : SimB B as ρ μ σ H) (q : forD g r C N ds ρ μ) (ge : Goes B N E) {ι : Type} {gT : ι → TG} {tb : ι → TS} (iB : ι) (hg : gT iB = LG B ts g) (hb : tb iB = LS B r) :
    ∃ W : Nat → Nat → L2.St → Hp → Prop, (∃ m, W 0 m σ H) ∧ ∀ i m σ H, W i m σ H →
      (J.stop i H ∧ E.nx σ H) ∨ (J.go i H ∧ ∃ Nx : L2.St → Hp → Prop, (∀ σ' H', Nx σ' H' → ∃ m', m' < m ∧ W (i + 1) m' σ' H') ∧ ∀ x H', J.yld i H x H' → (∃ i, gT i x σ H' fun σ2 H2 => ∃ i, tb i { E with nx := Nx, ct := Nx, bk := E.nx } σ2 H2)) := by
  let Pv : Nat → L2.St → Hp → Prop := fun i σ H => ∃ as ρ μ, SimB B as ρ μ σ H ∧ forD g r C N (ds.drop i) ρ μ
  refine ⟨fun i m σ H => m = ds.length - i ∧ i ≤ ds.length ∧ Pv i σ H, ⟨ds.length, by simp, Nat.zero_le _, as, ρ, μ, S, q⟩, ?_⟩
  rintro i m σ H ⟨rfl, hi, as, ρ, μ, S, q⟩
  by_cases hlt : i < ds.length
  · rw [List.drop_eq_getElem_cons hlt] at q
    obtain ⟨c, q⟩ := q
    obtain ⟨go, y⟩ := w.go i as ρ μ σ H hlt S c
    refine Or.inr ⟨go, Pv (i + 1), fun σ' H' p => ⟨ds.length - (i + 1), by omega, rfl, hlt, p⟩, fun x H' yl => ?_⟩
    obtain ⟨up, d, e, rx⟩ := y x H' yl
    rw [List.getElem?_eq_getElem hlt] at e
    cases e
    refine ⟨iB, ?_⟩
    rw [hg]
    refine ⟨as, ρ, μ, _, _, S.ext up, rx, q, fun as' ρ' μ' σ' H2 _ S' q' => ⟨iB, ?_⟩⟩
    rw [hb]
    exact ⟨as', ρ', μ', _, S', q', ⟨fun as ρ μ σ H S q => ⟨as, ρ, μ, S, q⟩, ge.rt, ge.nx, fun as ρ μ σ H S q => ⟨as, ρ, μ, S, q⟩, ge.ex⟩⟩
  · have e : i = ds.length := by omega
    subst e
    rw [List.drop_length] at q
    exact Or.inl ⟨w.stop as ρ μ σ H S q.1, ge.nx as ρ μ σ H S q.2⟩
abbrev Par.with (B : Par) (fm : Fm) (W : WX) : Par := ⟨B.O, B.K, fm, W⟩
theorem pds_for (hp : PassesOwn (model X.prog X.w) X.A X.env X.xe) (hc : X.calm = true) (tk : L2N.Takes X B.W) (hi : PDI X B tg iter wi) (hg : ∀ fm W, L2N.Takes X W → PDG X (B.with fm W) ts tg g) (hb : ∀ fm W, L2N.Takes X W → PDSs X (B.with fm W) body r)
    (hs : ∀ x, foldedSetIterable iter X.env x = pure x := by intro _; rfl) : PDS X B (.For tg iter body [] pos) (rFor wi g r) :=
  (ps_for hp hc hi (pg_all fun fm => hg fm B.W tk) (pss_all fun fm => hb fm B.W tk) hs).imp fun E σ H h => by
    obtain ⟨as, ρ, μ, N, S, q, ge⟩ := h
    refine ⟨as, ρ, μ, _, _, S, q, ge.ex σ, fun ds C as1 ρ1 μ1 H1 J ps q1 k1 S1 hp hw => ?_⟩
    have w := hw (B.from' as1 ρ1 σ H1 ps).fm B.W (fun z hz => List.mem_append_left _ hz) ⟨[], by simp [Par.from']⟩
    exact for_turns (B := B.from' as1 ρ1 σ H1 ps) w (S1.into hp) q1 (goes_into S1 ge) (gT := fun fm => LG (B.with fm B.W) ts g) (tb := fun fm => LS (B.with fm B.W) r) (B.from' as1 ρ1 σ H1 ps).fm rfl rfl
/-! while -/
/-- W, with a measure: what holds at each turn -/
def rWhile (t : DT) (body : DS) : DS := fun N ρ μ => ∃ W : Nat → Rho → Mu → Prop, (∃ m, W m ρ μ) ∧ ∀ m ρ μ, W m ρ μ →
  t ρ μ (fun b ρ1 μ1 => if b = true then body { N with nx := fun ρ μ => ∃ k, k < m ∧ W k ρ μ, ct := fun ρ μ => ∃ k, k < m ∧ W k ρ μ, bk := N.nx } ρ1 μ1 else N.nx ρ1 μ1) N.ex
theorem pds_while (hp : PassesOwn (model X.prog X.w) X.A X.env X.xe) (hc : PDT X B c rt) (hb : PDSs X B body r) : PDS X B (.While c body [] pos) (rWhile rt r) :=
  (ps_while hp hc hb).imp fun E σ H h => by
    obtain ⟨as, ρ, μ, N, S, ⟨W, ⟨n, q⟩, turn⟩, ge⟩ := h
    refine ⟨fun m σ H => ∃ as ρ μ, SimB B as ρ μ σ H ∧ W m ρ μ, ⟨n, as, ρ, μ, S, q⟩, ?_⟩
    rintro m σ H ⟨as, ρ, μ, S, q⟩
    refine ⟨as, ρ, μ, _, _, S, turn m ρ μ q, ge.ex σ, fun b as1 ρ1 μ1 H1 q1 k1 S1 => ?_⟩
    cases b with
    | false => exact ge.nx as1 ρ1 μ1 σ H1 S1 q1
    | true =>
      have lk : ∀ as ρ μ σ H, SimB B as ρ μ σ H → (∃ k, k < m ∧ W k ρ μ) → ∃ k, k < m ∧ ∃ as ρ μ, SimB B as ρ μ σ H ∧ W k ρ μ := fun as ρ μ σ H S ⟨k, hk, q⟩ => ⟨k, hk, as, ρ, μ, S, q⟩
      exact ⟨fun σ H => ∃ k, k < m ∧ ∃ as ρ μ, SimB B as ρ μ σ H ∧ W k ρ μ, fun σ' H' ⟨k, hk, z⟩ => ⟨k, hk, z⟩, as1, ρ1, μ1, _, S1, q1, ⟨lk, ge.rt, ge.nx, lk, ge.ex⟩⟩
end
end Dl
namespace Dl
open PySem PySem.Spec PyProof.Rows L2
/-! ### a thing of a block's own, out of sight -/
section
variable {B : Par} {X : Cx} {as as' : List Addr} {ρ ρ' : Rho} {μ μ' : Mu} {σ σ' : L2.St} {H H' : Hp} {v w : V} {d d' : D} {i : Nat} {m m' : M} {p : Addr} {o : HO} {ts vs : List Nat} {L0 : HO}
/-- H without p -/
def del (H : Hp) (p : Addr) : Hp := fun a => if a = p then none else H a
theorem del_ne {a : Addr} (h : a ≠ p) : del H p a = H a := if_neg h
theorem del_self : del H p p = none := if_pos rfl
theorem del_some {a : Addr} {o : HO} (h : del H p a = some o) : a ≠ p ∧ H a = some o := by
  by_cases e : a = p
  · subst e
    rw [del_self] at h
    cases h
  · exact ⟨e, by rw [del_ne e] at h; exact h⟩
theorem upd_del (h : H p = some o) : upd (del H p) p o = H := funext fun a => by
  by_cases e : a = p
  · subst e
    rw [upd_same, h]
  · rw [upd_ne e, del_ne e]
theorem vis_hide {F : Addr → Prop} : Res (fun a => ¬ XX (fun a => F a ∨ a = p) as ρ σ a) H = Res (fun a => ¬ XX F as ρ σ a) (del H p) := funext fun a => by
  cases e : Res (fun a => ¬ XX (fun a => F a ∨ a = p) as ρ σ a) H a with
  | some o =>
    obtain ⟨w, h⟩ := res_some.mp e
    have ne : a ≠ p := fun z => w (Or.inr (Or.inl (Or.inr z)))
    refine (res_some.mpr ⟨fun z => w ?_, by rw [del_ne ne]; exact h⟩).symm
    rcases z with z | z | z
    · exact Or.inl z
    · exact Or.inr (Or.inl (Or.inl z))
    · exact Or.inr (Or.inr z)
  | none =>
    cases e2 : Res (fun a => ¬ XX F as ρ σ a) (del H p) a with
    | none => rfl
    | some o =>
      obtain ⟨w, h⟩ := res_some.mp e2
      obtain ⟨ne, h⟩ := del_some h
      have : Res (fun a => ¬ XX (fun a => F a ∨ a = p) as ρ σ a) H a = some o := res_some.mpr ⟨fun z => by
        rcases z with z | (z | z) | z
        · exact w (Or.inl z)
        · exact w (Or.inr (Or.inl z))
        · exact ne z
        · exact w (Or.inr (Or.inr z)), h⟩
      rw [this] at e
      cases e
/-- where a block begins: p is its own list, which stands as L tells -/
def Par.blk (B : Par) (L0 : HO) (as : List Addr) (ρ : Rho) (σ : L2.St) (H : Hp) (p : Addr) (L : HO) (ps : List Pin) (W : WX) : Par :=
  ⟨B.O, B.K, { F := fun a => B.fm.F a ∨ a = p, as := as, X := XX (fun a => B.fm.F a ∨ a = p) as ρ σ, H := upd H p L0, S := fun a => if a = p then some L else B.fm.S a, P := ps ++ B.fm.P }, W⟩
theorem sim_hide {F : Addr → Prop} {L : HO} {ps : List Pin} {W : WX} (S : SimB B as ρ μ σ H) (n : H p = none) (hp : ∀ q ∈ ps, PinOk B.O B.K as (vis B as ρ σ H) q) :
    SimB (B.blk L0 as ρ σ H p L0 ps W) as ρ μ σ (upd H p L0) := by
  have e1 : del (upd H p L0) p = H := funext fun a => by
    by_cases z : a = p
    · subst z
      rw [del_self, n]
    · rw [del_ne z, upd_ne z]
  have ev : Res (fun a => ¬ XX (fun a => B.fm.F a ∨ a = p) as ρ σ a) (upd H p L0) = Res (fun a => ¬ XX B.fm.F as ρ σ a) H := by rw [vis_hide, e1]
  obtain ⟨n1, n2, n3⟩ := S.fresh n
  have keep : ∀ a u, H a = some u → upd H p L0 a = some u := ext_lay n
  refine ⟨S.len, fun i d e => ?_, fun i m e => ?_, S.one, ⟨S.mu.len, S.mu.nod, fun j m q a b => ?_⟩, Grow.refl, fun a h => ?_, fun a h z => ?_, fun a h => ?_, fun q hq => ?_⟩
  · obtain ⟨v, s, r⟩ := S.val i d e
    refine ⟨v, s, ?_⟩
    show Rep B.O B.K as (Res (fun a => ¬ XX (fun a => B.fm.F a ∨ a = p) as ρ σ a) (upd H p L0)) v d
    rw [ev]
    exact r
  · obtain ⟨q, s, ⟨o, ho, r⟩, x, y⟩ := S.own i m e
    refine ⟨q, s, ⟨o, keep _ _ ho, ?_⟩, x, fun z => ?_⟩
    · show MObj B.O B.K as (Res (fun a => ¬ XX (fun a => B.fm.F a ∨ a = p) as ρ σ a) (upd H p L0)) _ o m
      rw [ev]
      exact r
    · rcases z with z | z
      · exact y z
      · subst z
        rw [n] at ho
        cases ho
  · obtain ⟨o, ho, r⟩ := S.mu.mu j m q a b
    refine ⟨o, keep _ _ ho, ?_⟩
    show MObj B.O B.K as (Res (fun a => ¬ XX (fun a => B.fm.F a ∨ a = p) as ρ σ a) (upd H p L0)) _ o m
    rw [ev]
    exact r
  · show upd H p L0 a = if a = p then some L0 else B.fm.S a
    by_cases z : a = p
    · rw [z, upd_same, if_pos rfl]
    · rw [upd_ne z, if_neg z]
      exact S.stay a (h.resolve_right z)
  · rcases h with h | h
    · exact S.ftrk a h (upd_trk z).1
    · exact (upd_trk z).2 h
  · rcases h with h | h
    · exact S.fas a h
    · rw [h]
      exact n1
  · show PinOk B.O B.K as (Res (fun a => ¬ XX (fun a => B.fm.F a ∨ a = p) as ρ σ a) (upd H p L0)) q
    rw [ev]
    rcases List.mem_append.mp hq with hq | hq
    · exact hp q hq
    · exact S.pin q hq
/-- .. comes into its holder's hands -/
theorem grow_show {O : Objs} {K : PySem.W.Frag} {F : Addr → Prop} {ρ0 : Rho} {σ0 : L2.St} {H0 : Hp} {as0 : List Addr} (n : H0 p = none) (g : Grow O K as0 (XX (fun a => F a ∨ a = p) as0 ρ0 σ0) (upd H0 p L0) as (XX (fun a => F a ∨ a = p) as ρ σ) H) :
    Grow O K as0 (XX F as0 ρ0 σ0) H0 as (XX F as ρ σ) (del H p) := by
  have e1 : del (upd H0 p L0) p = H0 := funext fun a => by
    by_cases z : a = p
    · subst z
      rw [del_self, n]
    · rw [del_ne z, upd_ne z]
  have ev : Res (fun a => ¬ XX (fun a => F a ∨ a = p) as0 ρ0 σ0 a) (upd H0 p L0) = Res (fun a => ¬ XX F as0 ρ0 σ0 a) H0 := by rw [vis_hide, e1]
  have wide : ∀ {as ρ σ a}, XX F as ρ σ a → XX (fun a => F a ∨ a = p) as ρ σ a := fun {as ρ σ a} h => by
    rcases h with h | h | h
    · exact Or.inl h
    · exact Or.inr (Or.inl (Or.inl h))
    · exact Or.inr (Or.inr h)
  have slim : ∀ {as ρ σ a}, XX (fun a => F a ∨ a = p) as ρ σ a → a ≠ p → XX F as ρ σ a := fun {as ρ σ a} h ne => by
    rcases h with h | (h | h) | h
    · exact Or.inl h
    · exact Or.inr (Or.inl h)
    · exact absurd h ne
    · exact Or.inr (Or.inr h)
  refine ⟨g.pre, fun a h1 h2 => ?_, fun a o h e => ?_, fun a e => ?_⟩
  · by_cases z : a = p
    · rw [z]
      exact n
    · have := g.new a (wide h1) fun c => h2 (slim c z)
      rw [upd_ne z] at this
      exact this
  · have z : a ≠ p := fun z => by
      rw [z, n] at e
      cases e
    obtain ⟨o', e', h'⟩ := g.raw a o (fun c => h (slim c z)) (by rw [upd_ne z]; exact e)
    refine ⟨o', by rw [del_ne z]; exact e', ?_⟩
    rcases h' with h' | ⟨k, C, dx, fs, fs', x1, x2, x3, x4, x5, x6⟩
    · exact Or.inl h'
    · refine Or.inr ⟨k, C, dx, fs, fs', x1, x2, x3, x4, x5, fun f gm v m l => ?_⟩
      rcases x6 f gm v m l with y | ⟨y, v', l', q⟩
      · exact Or.inl y
      · refine Or.inr ⟨y, v', l', fun vs ds lv r => ?_⟩
        rw [← ev] at r
        refine (q vs ds lv r).le (res_le fun b u c hb => ?_)
        have bp : b ≠ p := fun z => by
          have := c.1
          rw [z, upd_same] at this
          cases this
        have c1 := c.1
        rw [upd_ne bp] at c1
        exact ⟨⟨c1, fun z => c.2 (wide z)⟩, by rw [del_ne bp]; exact hb⟩
  · by_cases z : a = p
    · rw [z]
      exact n
    · rw [del_ne z] at e
      have := g.trk a e
      rw [upd_ne z] at this
      exact this
theorem sim_show {as0 : List Addr} {ρ0 : Rho} {μ0 : Mu} {σ0 : L2.St} {H0 : Hp} {L : HO} {ps : List Pin} {W : WX} (S0 : SimB B as0 ρ0 μ0 σ0 H0) (n : H0 p = none) (S : SimB (B.blk L0 as0 ρ0 σ0 H0 p L ps W) as ρ μ σ H) :
    SimB B as ρ μ σ (del H p) ∧ Grow B.O B.K as0 (XX B.fm.F as0 ρ0 σ0) H0 as (XX B.fm.F as ρ σ) (del H p) := by
  have g := grow_show (F := B.fm.F) n S.base
  have ev : Res (fun a => ¬ XX (fun a => B.fm.F a ∨ a = p) as ρ σ a) H = Res (fun a => ¬ XX B.fm.F as ρ σ a) (del H p) := vis_hide
  refine ⟨⟨S.len, fun i d e => ?_, fun i m e => ?_, S.one, ⟨S.mu.len, S.mu.nod, fun j m q a b => ?_⟩, S0.base.trans g, fun a h => ?_, fun a h z => ?_, fun a h => S.fas a (Or.inl h), fun q hq => ?_⟩, g⟩
  · obtain ⟨v, s, r⟩ := S.val i d e
    refine ⟨v, s, ?_⟩
    rw [← ev]
    exact r
  · obtain ⟨q, s, ⟨o, ho, r⟩, x, y⟩ := S.own i m e
    have ne : q ≠ p := fun z => y (Or.inr z)
    refine ⟨q, s, ⟨o, by rw [del_ne ne]; exact ho, ?_⟩, x, fun z => y (Or.inl z)⟩
    rw [← ev]
    exact r
  · obtain ⟨o, ho, r⟩ := S.mu.mu j m q a b
    have ne : q ≠ p := fun z => S.fas p (Or.inr rfl) (by rw [← z]; exact List.mem_of_getElem? b)
    refine ⟨o, by rw [del_ne ne]; exact ho, ?_⟩
    rw [← ev]
    exact r
  · have ne : a ≠ p := fun z => by
      rw [z] at h
      have := S0.ftrk p h
      exact this n
    rw [del_ne ne]
    refine (S.stay a (Or.inl h)).trans ?_
    show (if a = p then some L else B.fm.S a) = _
    rw [if_neg ne]
  · have ne : a ≠ p := fun z' => by
      rw [z'] at h
      have := S0.ftrk p h
      exact this n
    rw [del_ne ne] at z
    exact S.ftrk a (Or.inl h) z
  · have := S.pin q (List.mem_append_right _ hq)
    rw [← ev]
    exact this
/-- the block's list is changed -/
theorem sim_turn {as0 : List Addr} {ρ0 : Rho} {σ0 : L2.St} {H0 : Hp} {L L' : HO} {ps ps' : List Pin} {W : WX} (S : SimB (B.blk L0 as0 ρ0 σ0 H0 p L ps W) as ρ μ σ H) (hp : ∀ q ∈ ps', PinOk B.O B.K as (vis (B.blk L0 as0 ρ0 σ0 H0 p L ps W) as ρ σ H) q) :
    SimB (B.blk L0 as0 ρ0 σ0 H0 p L' ps' W) as ρ μ σ (upd H p L') := by
  have px : ∀ {as ρ σ}, XX (fun a => B.fm.F a ∨ a = p) as ρ σ p := Or.inr (Or.inl (Or.inr rfl))
  have ev : Res (fun a => ¬ XX (fun a => B.fm.F a ∨ a = p) as ρ σ a) (upd H p L') = Res (fun a => ¬ XX (fun a => B.fm.F a ∨ a = p) as ρ σ a) H := by
    rw [vis_hide, vis_hide]
    congr 1
    funext a
    by_cases z : a = p
    · rw [z, del_self, del_self]
    · rw [del_ne z, del_ne z, upd_ne z]
  refine ⟨S.len, fun i d e => ?_, fun i m e => ?_, S.one, ⟨S.mu.len, S.mu.nod, fun j m q a b => ?_⟩, S.base.trans (Grow.put px), fun a h => ?_, fun a h z => S.ftrk a h (upd_trk z).1, S.fas, fun q hq => ?_⟩
  · obtain ⟨v, s, r⟩ := S.val i d e
    refine ⟨v, s, ?_⟩
    show Rep _ _ _ (Res (fun a => ¬ XX (fun a => B.fm.F a ∨ a = p) as ρ σ a) (upd H p L')) _ _
    rw [ev]
    exact r
  · obtain ⟨q, s, ⟨o, ho, r⟩, x, y⟩ := S.own i m e
    have ne : q ≠ p := fun z => y (Or.inr z)
    refine ⟨q, s, ⟨o, by rw [upd_ne ne]; exact ho, ?_⟩, x, y⟩
    show MObj _ _ _ (Res (fun a => ¬ XX (fun a => B.fm.F a ∨ a = p) as ρ σ a) (upd H p L')) _ _ _
    rw [ev]
    exact r
  · obtain ⟨o, ho, r⟩ := S.mu.mu j m q a b
    have ne : q ≠ p := fun z => S.fas p (Or.inr rfl) (by rw [← z]; exact List.mem_of_getElem? b)
    refine ⟨o, by rw [upd_ne ne]; exact ho, ?_⟩
    show MObj _ _ _ (Res (fun a => ¬ XX (fun a => B.fm.F a ∨ a = p) as ρ σ a) (upd H p L')) _ _ _
    rw [ev]
    exact r
  · show _ = if a = p then some L' else B.fm.S a
    by_cases z : a = p
    · rw [z, upd_same, if_pos rfl]
    · rw [upd_ne z, if_neg z]
      refine (S.stay a h).trans ?_
      show (if a = p then some L else B.fm.S a) = _
      rw [if_neg z]
  · show PinOk _ _ _ (Res (fun a => ¬ XX (fun a => B.fm.F a ∨ a = p) as ρ σ a) (upd H p L')) _
    rw [ev]
    rcases List.mem_append.mp hq with hq | hq
    · exact hp q hq
    · exact S.pin q (List.mem_append_right _ hq)
/-! the block's own names -/
def wipeD (ρ : Rho) : List Nat → Rho
  | [] => ρ
  | v :: vs => (wipeD ρ vs).set v .unk
theorem SimB.wipe (S : SimB B as ρ μ σ H) : ∀ vs : List Nat, SimB B as (wipeD ρ vs) μ (wipe σ vs) H
  | [] => S
  | v :: vs => (SimB.wipe S vs).forget
/-- what ρ0 tells of vs stands again -/
def backD (ρ0 ρ : Rho) : List Nat → Rho
  | [] => ρ
  | v :: vs => match ρ0[v]? with
    | some (.val d) => (backD ρ0 ρ vs).set v (.val d)
    | _ => backD ρ0 ρ vs
/-- none of vs holds a thing of its own -/
def noOwn (ρ : Rho) (vs : List Nat) : Bool := vs.all fun v => match ρ[v]? with
  | some (.own _) => false
  | _ => true
def backPin (ρ : Rho) (σ : L2.St) (v : Nat) : Option Pin := match ρ[v]? with
  | some (SV.val d) => match σ[v]? with
    | some (some x) => some (.rep x d)
    | _ => none
  | _ => none
def backPins (ρ : Rho) (σ : L2.St) (vs : List Nat) : List Pin := vs.filterMap (backPin ρ σ)
theorem back_pins (S : SimB B as ρ μ σ H) : ∀ q ∈ backPins ρ σ vs, PinOk B.O B.K as (vis B as ρ σ H) q := fun q hq => by
  obtain ⟨v, hv, e⟩ := List.mem_filterMap.mp hq
  unfold backPin at e
  split at e
  · rename_i d hd
    obtain ⟨x, s, r⟩ := S.val v d hd
    rw [s] at e
    cases e
    exact r
  · cases e
theorem wipe_twice {us : List Nat} : ∀ {vs : List Nat}, (∀ v ∈ vs, v ∈ us) → L2.wipe (L2.wipe σ vs) us = L2.wipe σ us
  | [], _ => rfl
  | v :: vs, h => by
    show L2.wipe ((L2.wipe σ vs).set v none) us = _
    rw [wipe_set (h v List.mem_cons_self)]
    exact wipe_twice fun w hw => h w (List.mem_cons_of_mem _ hw)
/-- the slots as they are seen through ρ -/
theorem own_st (h : ∀ i : Nat, (∃ m, ρ[i]? = some (SV.own m)) → σ'[i]? = σ[i]?) {a : Addr} : Own ρ σ' a ↔ Own ρ σ a := by
  constructor
  · rintro ⟨i, m, e1, e2⟩
    exact ⟨i, m, e1, by rw [← h i ⟨m, e1⟩]; exact e2⟩
  · rintro ⟨i, m, e1, e2⟩
    exact ⟨i, m, e1, by rw [h i ⟨m, e1⟩]; exact e2⟩
theorem SimB.st (S : SimB B as ρ μ σ H) (hl : σ'.length = σ.length) (h : ∀ i : Nat, ((∃ m, ρ[i]? = some (SV.own m)) ∨ ∃ d, ρ[i]? = some (SV.val d)) → σ'[i]? = σ[i]?) : SimB B as ρ μ σ' H := by
  have eq : XX B.fm.F as ρ σ' = XX B.fm.F as ρ σ := funext fun a => propext (by unfold XX; rw [own_st fun i z => h i (Or.inl z)])
  refine ⟨by rw [hl]; exact S.len, fun i d e => ?_, fun i m e => ?_, fun i j m n p a b c d => ?_, by rw [eq]; exact S.mu, by rw [eq]; exact S.base, S.stay, S.ftrk, S.fas, by rw [eq]; exact S.pin⟩
  · rw [eq, h i (Or.inr ⟨d, e⟩)]
    exact S.val i d e
  · rw [eq, h i (Or.inl ⟨m, e⟩)]
    exact S.own i m e
  · rw [h i (Or.inl ⟨m, a⟩)] at c
    rw [h j (Or.inl ⟨n, b⟩)] at d
    exact S.one i j m n p a b c d
def Blank (ρ : Rho) (vs : List Nat) : Prop := ∀ v ∈ vs, (∀ m, ρ[v]? ≠ some (.own m)) ∧ ∀ d, ρ[v]? ≠ some (.val d)
theorem wipeD_out : ∀ {vs : List Nat} {i : Nat}, i ∉ vs → (wipeD ρ vs)[i]? = ρ[i]?
  | [], _, _ => rfl
  | v :: vs, i, h => by
    show ((wipeD ρ vs).set v .unk)[i]? = _
    rw [List.getElem?_set_ne (fun z => h (by rw [z]; exact List.mem_cons_self))]
    exact wipeD_out fun z => h (List.mem_cons_of_mem _ z)
theorem wipeD_blank : ∀ {vs : List Nat}, Blank (wipeD ρ vs) vs
  | v :: vs, w, h => by
    show (∀ m, ((wipeD ρ vs).set v .unk)[w]? ≠ some (.own m)) ∧ ∀ d, ((wipeD ρ vs).set v .unk)[w]? ≠ some (.val d)
    by_cases e : w = v
    · rw [e]
      refine ⟨fun m z => ?_, fun d z => ?_⟩
      · rcases getElem?_set_cases z with ⟨_, z, _⟩ | ⟨z, _⟩
        · cases z
        · exact z rfl
      · rcases getElem?_set_cases z with ⟨_, z, _⟩ | ⟨z, _⟩
        · cases z
        · exact z rfl
    · rw [List.getElem?_set_ne (Ne.symm e)]
      exact wipeD_blank w ((List.mem_cons.mp h).resolve_left e)
theorem sim_back (S : SimB B as ρ μ (L2.wipe σ vs) H) (bl : Blank ρ vs) {ρ0 : Rho} (hp : ∀ v ∈ vs, ∀ d, ρ0[v]? = some (SV.val d) → ∃ x, σ[v]? = some (some x) ∧ Rep B.O B.K as (vis B as ρ (L2.wipe σ vs) H) x d) :
    SimB B as (backD ρ0 ρ vs) μ σ H ∧ ∀ a, XX B.fm.F as (backD ρ0 ρ vs) σ a → XX B.fm.F as ρ (L2.wipe σ vs) a := by
  have out : ∀ i : Nat, ((∃ m, ρ[i]? = some (SV.own m)) ∨ ∃ d, ρ[i]? = some (SV.val d)) → i ∉ vs := fun i h z => by
    rcases h with ⟨m, h⟩ | ⟨d, h⟩
    · exact (bl i z).1 m h
    · exact (bl i z).2 d h
  have S1 : SimB B as ρ μ σ H := S.st (wipe_length σ vs).symm fun i h => (wipe_out (out i h)).symm
  have eq : XX B.fm.F as ρ (L2.wipe σ vs) = XX B.fm.F as ρ σ := funext fun a => propext (by unfold XX; rw [own_st fun i z => wipe_out (out i (Or.inl z))])
  have hp' : ∀ v ∈ vs, ∀ d, ρ0[v]? = some (SV.val d) → ∃ x, σ[v]? = some (some x) ∧ Rep B.O B.K as (vis B as ρ σ H) x d := fun v hv d e => by
    obtain ⟨x, s, r⟩ := hp v hv d e
    refine ⟨x, s, ?_⟩
    have r' : Rep B.O B.K as (Res (fun a => ¬ XX B.fm.F as ρ (L2.wipe σ vs) a) H) x d := r
    rw [eq] at r'
    exact r'
  rw [eq]
  have go : ∀ {us : List Nat}, (∀ u ∈ us, u ∈ vs) → SimB B as (backD ρ0 ρ us) μ σ H ∧ ∀ a, XX B.fm.F as (backD ρ0 ρ us) σ a → XX B.fm.F as ρ σ a := fun {us} => by
    induction us with
    | nil => intro _; exact ⟨S1, fun _ h => h⟩
    | cons u us ih =>
      intro hu
      obtain ⟨S2, x2⟩ := ih fun w hw => hu w (List.mem_cons_of_mem _ hw)
      unfold backD
      split
      · rename_i d hd
        obtain ⟨x, s, r⟩ := hp' u (hu u List.mem_cons_self) d hd
        have same : σ.set u (some x) = σ := set_self s
        have S3 := S2.setD (i := u) (v := x) (d := d) (r.le (see_more fun a w z => w (x2 a z)))
        rw [same] at S3
        refine ⟨S3, fun a h => x2 a ?_⟩
        have h' : XX B.fm.F as ((backD ρ0 ρ us).set u (.val d)) (σ.set u (some x)) a := by rw [same]; exact h
        exact XX.set rfl h'
      · exact ⟨S2, x2⟩
  exact go fun _ h => h
/-! ### comprehensions -/
def never : KX := fun _ _ _ => False
abbrev WNo : WX := fun _ _ _ _ => False
theorem takes_no : L2N.Takes X WNo := fun _ _ ⟨_, _, _, _, _, _, _, _, _, _, _, _, _, _, _, _, w⟩ => w.elim
def lcD (g : DG) (t : DT) (e : DE) (vs : List Nat) (C : Rho → Mu → Prop) (fin : List D → Rho → Mu → Prop) : List D → List D → Rho → Mu → Prop
  | [], acc, ρ, μ => C ρ μ ∧ fin acc ρ μ
  | d :: ds, acc, ρ, μ => C ρ μ ∧ g d ρ μ fun ρ1 μ1 => t ρ1 μ1 (fun b ρ2 μ2 => if b = true then e ρ2 μ2 (fun y ρ3 μ3 => ∃ ρ4 y', stow ρ3 y = some (ρ4, y') ∧ lcD g t e vs C fin ds (acc ++ [y']) (wipeD ρ4 vs) μ3) never else lcD g t e vs C fin ds acc (wipeD ρ2 vs) μ2) never
def rLc (wi : DI) (g : DG) (t : DT) (e : DE) (vs : List Nat) : DF := fun ρ μ Φ Ψ => wi ρ μ (fun ds C ρ1 μ1 => noOwn ρ1 vs = true ∧ ds.length ≤ sizeLine ∧ lcD g t e vs C (fun acc ρ2 μ2 => Φ (.lst acc) (backD ρ1 ρ2 vs) μ2) ds [] (wipeD ρ1 vs) μ1) Ψ
def PDTs (X : Cx) (B : Par) (ifs : List Expr) (t : DT) : Prop := PTs X ifs (LT B t)
def rYes : DT := fun ρ μ Φ _ => Φ true ρ μ
theorem pdts_nil : PDTs X B [] rYes := ⟨fun pins s σ H Q I h => by
  obtain ⟨as, ρ, μ, Φ, Ψ, S, q, x, fin⟩ := h
  exact (pts_nil (X := X)).run pins s σ H Q I (fin true as ρ μ H q .refl S)⟩
theorem pdts_one {c : Expr} {t : DT} (h : PDT X B c t) : PDTs X B [c] t := pts_one h
theorem lc_turns {g : DG} {t : DT} {e : DE} {wi : DI} {Q : VK} {g0 : TG} {t0 : TT} {e0 : TE}
    (hg : ∀ v σ H R, (∃ fm, LG (B.with fm WNo) vs g v σ H R) → g0 v σ H R) (ht : ∀ σ H R, (∃ fm, LT (B.with fm WNo) t σ H R) → t0 σ H R) (he : ∀ σ H R, (∃ fm, LE (B.with fm WNo) e σ H R) → e0 σ H R)
    (h : LF B (rLc wi g t e vs) σ H Q) : tLc (LI B wi) g0 t0 e0 vs σ H Q := by
  obtain ⟨as, ρ, μ, Φ, Ψ, S, q, x, fin⟩ := h
  refine ⟨as, ρ, μ, _, Ψ, S, q, x, fun ds C as1 ρ1 μ1 H1 J ps q1 k1 S1 hps hw p hp => ?_⟩
  obtain ⟨no, sz, q1⟩ := q1
  let ps0 := backPins ρ1 σ vs ++ ps
  let Bt : List V → List D → Par := fun av ad => B.blk (.lst []) as1 ρ1 σ H1 p (.lst av) (repPins av ad ++ ps0) WNo
  let Pv : Nat → Hp → Prop := fun i H => ∃ as ρ μ av ad, SimB (Bt av ad) as ρ μ (L2.wipe σ vs) H ∧ av.length = ad.length ∧ av.length ≤ i ∧ Blank ρ vs ∧
    lcD g t e vs C (fun acc ρ2 μ2 => Φ (.lst acc) (backD ρ1 ρ2 vs) μ2) (ds.drop i) ad ρ μ
  refine ⟨fun i m H => m = ds.length - i ∧ i ≤ ds.length ∧ Pv i H, ⟨ds.length, by simp, Nat.zero_le _, as1, wipeD ρ1 vs, μ1, [], [], ?_, rfl, Nat.le_refl _, wipeD_blank, q1⟩, ?_⟩
  · refine SimB.wipe ?_ vs
    refine sim_hide (F := fun _ => False) (L := .lst []) S1 hp fun q hq => ?_
    rcases List.mem_append.mp hq with hq | hq
    · exact nomatch hq
    · rcases List.mem_append.mp hq with hq | hq
      · exact back_pins S1 q hq
      · exact hps q hq
  · rintro i m H2 ⟨rfl, hi, as2, ρ2, μ2, av, ad, S2, al, ai, bl, q2⟩
    have w : Walks (Bt av ad) J ds C := hw (Bt av ad).fm WNo (fun z hz => List.mem_append_left _ (List.mem_append_right _ (List.mem_append_right _ hz))) ⟨[], by simp [Bt, Par.blk]⟩
    by_cases hlt : i < ds.length
    · rw [List.drop_eq_getElem_cons hlt] at q2
      obtain ⟨c, q2⟩ := q2
      obtain ⟨go, y⟩ := w.go i as2 ρ2 μ2 _ H2 hlt S2 c
      refine Or.inr ⟨go, Pv (i + 1), fun H' z => ⟨ds.length - (i + 1), by omega, rfl, hlt, z⟩, fun x H' yl => ?_⟩
      obtain ⟨up, d, e', rx⟩ := y x H' yl
      rw [List.getElem?_eq_getElem hlt] at e'
      cases e'
      refine hg _ _ _ _ ⟨(Bt av ad).fm, as2, ρ2, μ2, _, _, S2.ext up, rx, q2, fun as3 ρ3 μ3 σ3 H3 kw S3 q3 => ?_⟩
      have kw' : L2.wipe σ3 vs = L2.wipe σ vs := kw.trans (wipe_twice fun _ h => h)
      refine ⟨kw', ht _ _ _ ⟨(Bt av ad).fm, as3, ρ3, μ3, _, never, S3, q3, fun _ _ _ _ _ _ _ z => z.elim, fun b as4 ρ4 μ4 H4 q4 k4 S4 => ?_⟩⟩
      cases b with
      | false =>
        simp only [Bool.false_eq_true, if_false] at q4 ⊢
        refine ⟨as4, wipeD ρ4 vs, μ4, av, ad, ?_, al, Nat.le_succ_of_le ai, wipeD_blank, q4⟩
        have S5 := SimB.wipe S4 vs
        rw [kw'] at S5
        exact S5
      | true =>
        simp only [if_true] at q4 ⊢
        refine he _ _ _ ⟨(Bt av ad).fm, as4, ρ4, μ4, _, never, S4, q4, fun _ _ _ _ _ _ _ z => z.elim, fun y as5 ρ5 μ5 H5 vy q5 k5 S5 r5 => ?_⟩
        obtain ⟨ρ6, y', e6, q6⟩ := q5
        obtain ⟨S6, r6, k6⟩ := S5.stow r5 e6
        have hD : H5 p = some (.lst av) := (S6.stay p (Or.inr rfl)).trans (by show (if p = p then some (HO.lst av) else _) = _; rw [if_pos rfl])
        refine ⟨av, hD, by omega, as5, wipeD ρ6 vs, μ5, av ++ [vy], ad ++ [y'], ?_, by simp [al], by simp; omega, wipeD_blank, q6⟩
        have S7 : SimB (Bt (av ++ [vy]) (ad ++ [y'])) as5 ρ6 μ5 σ3 (upd H5 p (.lst (av ++ [vy]))) := sim_turn S6 fun z hz => by
          rcases List.mem_append.mp hz with hz | hz
          · have old : Reps B.O B.K as5 (vis (Bt av ad) as5 ρ6 σ3 H5) av ad := pins_rep al fun z hz => S6.pin z (List.mem_append_left _ (List.mem_append_left _ hz))
            exact rep_pins (old.app (.cons r6 .nil)) z hz
          · exact S6.pin z (List.mem_append_left _ (List.mem_append_right _ hz))
        have S8 := SimB.wipe S7 vs
        rw [kw'] at S8
        exact S8
    · have e1 : i = ds.length := by omega
      subst e1
      rw [List.drop_length] at q2
      have st := w.stop as2 ρ2 μ2 _ H2 S2 q2.1
      refine Or.inl ⟨st, ?_⟩
      have hD : H2 p = some (.lst av) := (S2.stay p (Or.inr rfl)).trans (by show (if p = p then some (HO.lst av) else _) = _; rw [if_pos rfl])
      obtain ⟨S3, g3⟩ := sim_show S1 hp S2
      have vE : vis (Bt av ad) as2 ρ2 (L2.wipe σ vs) H2 = vis B as2 ρ2 (L2.wipe σ vs) (del H2 p) := vis_hide
      have rA : Reps B.O B.K as2 (vis B as2 ρ2 (L2.wipe σ vs) (del H2 p)) av ad := by
        rw [← vE]
        exact pins_rep al fun z hz => S2.pin z (List.mem_append_left _ (List.mem_append_left _ hz))
      obtain ⟨S4, x4⟩ := sim_back (ρ0 := ρ1) S3 bl fun v hv d hd => by
        obtain ⟨x, s, _⟩ := S1.val v d hd
        refine ⟨x, s, ?_⟩
        have hq : Pin.rep x d ∈ backPins ρ1 σ vs := List.mem_filterMap.mpr ⟨v, hv, by unfold backPin; rw [hd]; simp only; rw [s]⟩
        have := S2.pin _ (List.mem_append_left _ (List.mem_append_right _ (List.mem_append_left _ hq)))
        rw [← vE]
        exact this
      have z := fin (.lst ad) as2 (backD ρ1 ρ2 vs) μ2 (del H2 p) p (.lst av) q2.2 (k1.trans ⟨g3.shrink x4⟩) S4 del_self ⟨av, rfl, rA.le (see_more fun a w z => w (x4 a z))⟩ fun _ _ _ z => nomatch z
      rw [upd_del hD] at z
      exact z
end
end Dl
namespace Dl
open PySem PySem.Spec PyProof.Rows L2
section
variable {B : Par} {X : Cx} {elt tg iter : Expr} {ifs : List Expr} {scope : Scope} {own : List (Str × Nat)} {wi : DI} {g : DG} {t : DT} {e : DE} {pos spos : Pos}
/-- the block's context -/
abbrev blkX (X : Cx) (s : Shared) (H : Hp) (scope : Scope) (C : Addr) (cl : List (Str × Addr)) (fp : List Addr) : Cx := X.blk s H scope (compEnvC scope cl C X.env) fp
theorem pdf_lc (hc : X.calm = true) (hN : X.N.Nodup) (hi : PDI X B tg iter wi) (ok : BlkOk X.N X.env.scope scope own)
    (hg : ∀ s H C cl fp fm, PDG (blkX X s H scope C cl fp) (B.with fm WNo) (own.map (·.2)) tg g) (ht : ∀ s H C cl fp fm, PDTs (blkX X s H scope C cl fp) (B.with fm WNo) ifs t)
    (he : ∀ s H C cl fp fm, PD (blkX X s H scope C cl fp) (B.with fm WNo) elt e) (hs : ∀ x, foldedSetIterable iter X.env x = pure x := by intro _; rfl) : PDF X B (.ListComp elt [⟨tg, iter, ifs, 0⟩] scope pos) (rLc wi g t e (own.map (·.2))) :=
  (pe_lc (g := fun v σ H R => ∃ fm, LG (B.with fm WNo) (own.map (·.2)) g v σ H R) (tt := fun σ H R => ∃ fm, LT (B.with fm WNo) t σ H R) (te := fun σ H R => ∃ fm, LE (B.with fm WNo) e σ H R) hc hN hi ok
    (fun s H C cl fp => ⟨fun pins s1 σ H1 v u Q I r ⟨fm, q⟩ => (hg s H C cl fp fm).run pins s1 σ H1 v u Q I r q⟩)
    (fun s H C cl fp => ⟨fun pins s1 σ H1 Q I ⟨fm, q⟩ => (ht s H C cl fp fm).run pins s1 σ H1 Q I q⟩)
    (fun s H C cl fp => ⟨fun pins s1 σ H1 Q I ⟨fm, q⟩ => (he s H C cl fp fm).run pins s1 σ H1 Q I q⟩) hs).imp fun σ H Q h =>
    lc_turns (fun _ _ _ _ z => z) (fun _ _ _ z => z) (fun _ _ _ z => z) h
/-- x = [..] on one line -/
theorem pds_ownLc {i : Nat} {y : Str} {py : Pos} (hc : X.calm = true) (hN : X.N.Nodup) (hy : X.N[i]? = some y) (hyl : X.env.scope.names.lookup y = some .local)
    (hsw : swapsWith (.ListComp elt [⟨tg, iter, ifs, 0⟩] scope pos) (some (.Name y py)) spos.line X.env = pure true) (hi : PDI X B tg iter wi) (ok : BlkOk X.N X.env.scope scope own)
    (hg : ∀ s H C cl fp fm, PDG (blkX X s H scope C cl fp) (B.with fm WNo) (own.map (·.2)) tg g) (ht : ∀ s H C cl fp fm, PDTs (blkX X s H scope C cl fp) (B.with fm WNo) ifs t)
    (he : ∀ s H C cl fp fm, PD (blkX X s H scope C cl fp) (B.with fm WNo) elt e) (hs : ∀ x, foldedSetIterable iter X.env x = pure x := by intro _; rfl) :
    PDS X B (.Assign [.Name y py] (.ListComp elt [⟨tg, iter, ifs, 0⟩] scope pos) spos) (rOwn i (rLc wi g t e (own.map (·.2)))) :=
  (ps_setLc (i := i) (py := py) (spos := spos) (g := fun v σ H R => ∃ fm, LG (B.with fm WNo) (own.map (·.2)) g v σ H R) (tt := fun σ H R => ∃ fm, LT (B.with fm WNo) t σ H R) (te := fun σ H R => ∃ fm, LE (B.with fm WNo) e σ H R) hc hN hy hyl hsw hi ok
    (fun s H C cl fp => ⟨fun pins s1 σ H1 v u Q I r ⟨fm, q⟩ => (hg s H C cl fp fm).run pins s1 σ H1 v u Q I r q⟩)
    (fun s H C cl fp => ⟨fun pins s1 σ H1 Q I ⟨fm, q⟩ => (ht s H C cl fp fm).run pins s1 σ H1 Q I q⟩)
    (fun s H C cl fp => ⟨fun pins s1 σ H1 Q I ⟨fm, q⟩ => (he s H C cl fp fm).run pins s1 σ H1 Q I q⟩) hs).imp fun E σ H h => by
    obtain ⟨as, ρ, μ, N, S, q, ge⟩ := h
    refine lc_turns (B := B) (g := g) (t := t) (e := e) (Q := fun x H1 => gName i x σ H1 E.nx) (fun _ _ _ _ z => z) (fun _ _ _ z => z) (fun _ _ _ z => z) ⟨as, ρ, μ, _, _, S, q, ge.ex σ, fun m as' ρ' μ' H' p o q' _ S' n mo _ => ?_⟩
    exact ge.nx as' _ μ' _ _ (S'.newOwn q'.1 n mo) q'.2
end
end Dl
namespace Dl
open PySem PySem.Spec PyProof.Rows L2
section
variable {B : Par} {X : Cx} {as as' : List Addr} {ρ ρ' : Rho} {μ μ' : Mu} {σ σ' : L2.St} {H H' Hv : Hp} {v w : V} {d d' : D} {i : Nat} {m m' : M} {p : Addr} {o : HO}
/-! ### a new thing by its number -/
theorem MObj.renum {O : Objs} {K : PySem.W.Frag} (h : ∀ (i : Nat) (p : Addr), as[i]? = some p → as'[i]? = some p) (r : MObj O K as Hv p o m) : MObj O K as' Hv p o m := by
  cases m with
  | lst xs => obtain ⟨vs, e, q⟩ := r; exact ⟨vs, e, q.renum h⟩
  | dic ds => obtain ⟨vs, e, f, q⟩ := r; exact ⟨vs, e, f, q.renum h⟩
  | dit ds => obtain ⟨vs, e, f, q⟩ := r; exact ⟨vs, e, f, q.renum h⟩
  | ins k a fs => obtain ⟨ea, C, dx, vs, e, t, f, q⟩ := r; exact ⟨ea, C, dx, vs, e, t, f, q.renum h⟩
  | box n => exact r
  | gone => exact r
theorem PinOk.renum {O : Objs} {K : PySem.W.Frag} {q : Pin} (h : ∀ (i : Nat) (p : Addr), as[i]? = some p → as'[i]? = some p) (r : PinOk O K as Hv q) : PinOk O K as' Hv q := by
  cases q with
  | rep v d => exact Rep.renum h r
  | raw a o => exact r
theorem snoc_at {α : Type} {l : List α} {x : α} : ∀ (i : Nat) (y : α), l[i]? = some y → (l ++ [x])[i]? = some y := fun i y e => by
  rw [List.getElem?_append_left (List.getElem?_eq_some_iff.mp e).1]
  exact e
theorem snoc_cases {α : Type} {l : List α} {x y : α} {i : Nat} (e : (l ++ [x])[i]? = some y) : l[i]? = some y ∨ (i = l.length ∧ y = x) := by
  by_cases h : i < l.length
  · rw [List.getElem?_append_left h] at e
    exact Or.inl e
  · have hl := (List.getElem?_eq_some_iff.mp e).1
    rw [List.length_append] at hl
    have h2 : i = l.length := by simp at hl; omega
    subst h2
    rw [List.getElem?_append_right (Nat.le_refl _)] at e
    simp at e
    exact Or.inr ⟨rfl, e.symm⟩
theorem SimB.newNum (S : SimB B as ρ μ σ H) (n : H p = none) (q : MObj B.O B.K as (vis B as ρ σ H) p o m) :
    SimB B (as ++ [p]) ρ (μ ++ [m]) σ (upd H p o) ∧ StepB B as ρ σ H (as ++ [p]) ρ (upd H p o) := by
  obtain ⟨n1, n2, n3⟩ := S.fresh n
  have sub : ∀ a, XX B.fm.F (as ++ [p]) ρ σ a → XX B.fm.F as ρ σ a ∨ a = p := by
    rintro a (h | h | h)
    · rcases List.mem_append.mp h with h | h
      · exact Or.inl (Or.inl h)
      · exact Or.inr (List.mem_singleton.mp h)
    · exact Or.inl (Or.inr (Or.inl h))
    · exact Or.inl (Or.inr (Or.inr h))
  have keep : ∀ a u, H a = some u → upd H p o a = some u := ext_lay n
  have more : ∀ a u, vis B as ρ σ H a = some u → vis B (as ++ [p]) ρ σ (upd H p o) a = some u := res_le fun a u w e => by
    refine ⟨fun z => ?_, keep a u e⟩
    rcases sub a z with z | z
    · exact w z
    · subst z
      rw [n] at e
      cases e
  have hx : ∀ (i : Nat) (a : Addr), as[i]? = some a → (as ++ [p])[i]? = some a := snoc_at
  have g : Grow B.O B.K as (XX B.fm.F as ρ σ) H (as ++ [p]) (XX B.fm.F (as ++ [p]) ρ σ) (upd H p o) := by
    refine ⟨⟨[p], rfl⟩, fun a h1 h2 => ?_, fun a u w e => ⟨u, keep a u e, Or.inl Lk.refl⟩, fun a e => (upd_trk e).1⟩
    rcases sub a h1 with z | z
    · exact absurd z h2
    · rw [z]
      exact n
  refine ⟨⟨S.len, fun j d e => ?_, fun j m2 e => ?_, S.one, ⟨by simp [S.mu.len], ?_, fun j m2 p' a b => ?_⟩, S.base.trans g, fun a f => ?_, fun a f z => S.ftrk a f (upd_trk z).1, fun a f z => ?_, fun q hq => ((S.pin q hq).renum hx).le more⟩, ⟨g⟩⟩
  · obtain ⟨w, s, r⟩ := S.val j d e
    exact ⟨w, s, (r.renum hx).le more⟩
  · obtain ⟨p', s, ⟨o', ho, r⟩, x, y⟩ := S.own j m2 e
    refine ⟨p', s, ⟨o', keep _ _ ho, (r.renum hx).le more⟩, fun z => ?_, y⟩
    rcases List.mem_append.mp z with z | z
    · exact x z
    · rw [List.mem_singleton.mp z, n] at ho
      cases ho
  · exact List.nodup_append.mpr ⟨S.mu.nod, by simp, fun a ha b hb => by
      rw [List.mem_singleton.mp hb]
      rintro rfl
      exact n1 ha⟩
  · rcases snoc_cases a with a | ⟨ja, rfl⟩
    · rcases snoc_cases b with b | ⟨jb, rfl⟩
      · obtain ⟨o', ho, r⟩ := S.mu.mu j m2 p' a b
        exact ⟨o', keep _ _ ho, (r.renum hx).le more⟩
      · have := (List.getElem?_eq_some_iff.mp a).1
        rw [jb, S.mu.len] at this
        exact absurd this (Nat.lt_irrefl _)
    · rcases snoc_cases b with b | ⟨jb, rfl⟩
      · have := (List.getElem?_eq_some_iff.mp b).1
        rw [ja, S.mu.len] at this
        exact absurd this (Nat.lt_irrefl _)
      · exact ⟨o, upd_same, (q.renum hx).le more⟩
  · rw [upd_ne (fun z => n2 (by rw [← z]; exact f))]
    exact S.stay a f
  · rcases List.mem_append.mp z with z | z
    · exact S.fas a f z
    · exact n2 (by rw [← List.mem_singleton.mp z]; exact f)
def rNum (rf : DF) : DE := fun ρ μ Φ Ψ => rf ρ μ (fun m ρ1 μ1 => Φ (.num μ1.length) ρ1 (μ1 ++ [m])) Ψ
theorem PDF.num {e : Expr} {rf : DF} (h : PDF X B e rf) : PD X B e (rNum rf) := L2.PE.imp h fun σ H Q h => by
  obtain ⟨as, ρ, μ, Φ, Ψ, S, q, x, fin⟩ := h
  refine ⟨as, ρ, μ, _, Ψ, S, q, x, fun m as' ρ' μ' H' p o q' k' S' n mo _ => ?_⟩
  obtain ⟨S2, k2⟩ := S'.newNum n mo
  refine fin _ _ ρ' _ _ _ q' (k'.trans k2) S2 (Rep.num ?_).t
  rw [← S'.mu.len]
  simp
/-! ### chains -/
def rChain (o o' : D → D → Rho → Mu → (D → Prop) → Prop) (ra rb rc : DE) : DE := fun ρ μ Φ Ψ => ra ρ μ (fun x ρ1 μ1 => rb ρ1 μ1 (fun y ρ2 μ2 => o x y ρ2 μ2 fun z => match z with
  | .bl true => rc ρ2 μ2 (fun w ρ3 μ3 => o' y w ρ3 μ3 fun d => Φ d ρ3 μ3) Ψ
  | .bl false => Φ (.bl false) ρ2 μ2
  | _ => False) Ψ) Ψ
theorem lift_chain {r2 r2' : R2} {o o' : D → D → Rho → Mu → (D → Prop) → Prop} {ra rb rc : DE} (s : OpS B r2 o) (s' : OpS B r2' o') {Q : VK} (h : LE B (rChain o o' ra rb rc) σ H Q) : tChain r2 r2' (LE B ra) (LE B rb) (LE B rc) σ H Q := by
  obtain ⟨as, ρ, μ, Φ, Ψ, S, r, x, fin⟩ := h
  refine ⟨as, ρ, μ, _, Ψ, S, r, x, fun d1 as1 ρ1 μ1 H1 v1 q1 k1 S1 t1 => ⟨as1, ρ1, μ1, _, Ψ, S1, q1, x, fun d2 as2 ρ2 μ2 H2 v2 q2 k2 S2 t2 => ?_⟩⟩
  refine s S2 (t1.step k2.g) t2 q2 fun z v H' q up rv => ?_
  split at q
  · cases rv
    refine ⟨true, rfl, ?_⟩
    simp only [if_true]
    refine ⟨as2, ρ2, μ2, _, Ψ, S2.ext up, q, x, fun d4 as4 ρ4 μ4 H4 v4 q4 k4 S4 t4 => ?_⟩
    have k24 := (StepB.ext (B := B) (as := as2) (ρ := ρ2) (σ := σ) up).trans k4
    exact s' S4 (t2.step k24.g) t4 q4 fun d v H'' q up' rv => fin d as4 ρ4 μ4 H'' v q (((k1.trans k2).trans k24).trans (.ext up')) (S4.ext up') rv.t
  · cases rv
    exact ⟨false, rfl, fin (.bl false) as2 ρ2 μ2 H' _ q ((k1.trans k2).trans (.ext up)) (S2.ext up) (Rep.bl false).t⟩
  · exact q.elim
theorem pd_chain {op op' : CmpOp} {a b c : Expr} {r2 r2' : R2} {o o' : D → D → Rho → Mu → (D → Prop) → Prop} {ra rb rc : DE} {pos : Pos} (h : OpR X (compareOp op) r2) (h' : OpR X (compareOp op') r2') (s : OpS B r2 o) (s' : OpS B r2' o') (ha : PD X B a ra) (hb : PD X B b rb) (hc : PD X B c rc)
    (hm : lastMarks [op, op'] [b, c] = false := by with_unfolding_all rfl) : PD X B (.Compare a [op, op'] [b, c] pos) (rChain o o' ra rb rc) :=
  (pe_chain h h' ha hb hc hm).imp fun _ _ _ h => lift_chain s s' h
/-! ### f'..' -/
def rFmt (ra : DE) : DE := fun ρ μ Φ Ψ => ra ρ μ (fun x ρ1 μ1 => match x with
  | .str y => y.length ≤ sizeLine ∧ Φ (.str y) ρ1 μ1
  | .int i => i.natAbs.log2 < 1920 ∧ Φ (.str (toString i)) ρ1 μ1
  | _ => False) Ψ
theorem pd_fmt {e : Expr} {ra : DE} {pos : Pos} (h : PD X B e ra) : PD X B (.FormattedValue e (-1) none pos) (rFmt ra) := (pe_fmt h).imp fun σ H Q h => by
  obtain ⟨as, ρ, μ, Φ, Ψ, S, r, x, fin⟩ := h
  refine ⟨as, ρ, μ, _, Ψ, S, r, x, fun d1 as1 ρ1 μ1 H1 v1 q1 k1 S1 t1 => ?_⟩
  split at q1
  · cases t1.str
    exact Or.inl ⟨_, rfl, q1.1, fin _ as1 ρ1 μ1 H1 _ q1.2 k1 S1 (Rep.str _).t⟩
  · cases t1.int
    exact Or.inr ⟨_, rfl, q1.1, fin _ as1 ρ1 μ1 H1 _ q1.2 k1 S1 (Rep.str _).t⟩
  · exact q1.elim
inductive PJD (X : Cx) (B : Par) : List Expr → List DE → Prop where
  | nil : PJD X B [] []
  | cons {e : Expr} {t : DE} {es : List Expr} {ts : List DE} (h : PD X B e t) (r : PJD X B es ts) : PJD X B (e :: es) (t :: ts)
theorem PJD.pj {es : List Expr} {ts : List DE} (h : PJD X B es ts) : PJ X es (ts.map (LE B)) := by
  induction h with
  | nil => exact .nil
  | cons h r ih => exact .cons h ih
def rJs : List DE → Str → DE
  | [], acc => fun ρ μ Φ Ψ => Φ (.str acc) ρ μ
  | r :: rs, acc => fun ρ μ Φ Ψ => r ρ μ (fun x ρ1 μ1 => match x with
    | .str y => (acc ++ y).length ≤ sizeLine ∧ rJs rs (acc ++ y) ρ1 μ1 Φ Ψ
    | _ => False) Ψ
theorem lift_js : ∀ (ts : List DE) (acc : Str) {σ : L2.St} {H : Hp} {Q : VK}, LE B (rJs ts acc) σ H Q → tJs (ts.map (LE B)) acc σ H fun out H1 => Q (.str out) H1
  | [], acc, σ, H, Q, ⟨as, ρ, μ, Φ, Ψ, S, r, x, fin⟩ => fin _ as ρ μ H _ r .refl S (Rep.str _).t
  | t :: ts, acc, σ, H, Q, ⟨as, ρ, μ, Φ, Ψ, S, r, x, fin⟩ => by
    refine ⟨as, ρ, μ, _, Ψ, S, r, x, fun d1 as1 ρ1 μ1 H1 v1 q1 k1 S1 t1 => ?_⟩
    split at q1
    · cases t1.str
      exact ⟨_, rfl, q1.1, lift_js ts _ ⟨as1, ρ1, μ1, Φ, Ψ, S1, q1.2, x, fun d as' ρ' μ' H' v q k S' t => fin d as' ρ' μ' H' v q (k1.trans k) S' t⟩⟩
    · exact q1.elim
theorem pd_joined {v1 v2 : Expr} {rest : List Expr} {ts : List DE} {pos : Pos} (h : PJD X B (v1 :: v2 :: rest) ts) : PD X B (.JoinedStr (v1 :: v2 :: rest) pos) (rJs ts Str.empty) :=
  (pe_joined h.pj).imp fun σ H Q h => lift_js ts Str.empty h
theorem pd_joined1 {e : Expr} {ra : DE} {pos : Pos} (h : PD X B e ra) : PD X B (.JoinedStr [e] pos) ra := pe_joined1 h
end
end Dl
namespace Dl
open PySem PySem.Spec PyProof.Rows L2
/-- the classes' attributes: none of the class's own names -/
def KitF (O : Objs) (K : PySem.W.Frag) : Prop := ∀ {C : Addr} {k : Nat} {f : Str}, O.tag C = some k → (f ∈ O.flds k ∨ (O.memo k f).isSome = true) → NoAttr K C f
def Sh.has (sh : Sh) (k : Nat) (f : Str) : Prop := f ∈ sh.flds k ∨ (sh.memo k f).isSome = true
/-- o.f -/
def fldD (sh : Sh) (f : Str) : D → Rho → Mu → (D → Prop) → Prop
  | .obj k _ ds, _, _, Φ => (match sh.memo k f with
    | some g => Φ .non ∧ Φ (g ds)
    | none => ∃ d, ((sh.flds k).zip ds).lookup f = some d ∧ Φ d)
  | .var i, ρ, _, Φ => (match ρ[i]? with
    | some (.own (.ins k _ fs)) => sh.has k f ∧ ∃ d, fs.lookup f = some d ∧ Φ d
    | some (.val (.obj k _ ds)) => (match sh.memo k f with
      | some g => Φ .non ∧ Φ (g ds)
      | none => ∃ d, ((sh.flds k).zip ds).lookup f = some d ∧ Φ d)
    | _ => False)
  | .num j, _, μ, Φ => (match μ[j]? with
    | some (.ins k _ fs) => sh.has k f ∧ ∃ d, fs.lookup f = some d ∧ Φ d
    | _ => False)
  | _, _, _, _ => False
def rFld (sh : Sh) (ra : DE) (f : Str) : DE := fun ρ μ Φ Ψ => ra ρ μ (fun x ρ1 μ1 => fldD sh f x ρ1 μ1 fun d => Φ d ρ1 μ1) Ψ
section
variable {B : Par} {X : Cx} {as as' : List Addr} {ρ ρ' : Rho} {μ μ' : Mu} {σ σ' : L2.St} {H H' Hv : Hp} {v w : V} {d d' : D} {i : Nat} {m m' : M} {p : Addr} {o : HO}
theorem zip_field {O : Objs} {K : PySem.W.Frag} {f : Str} {fs : List (Str × V)} : ∀ {ns : List Str} {vs : List V} {ds : List D}, ns.map (fs.lookup ·) = vs.map some → Reps O K as Hv vs ds → (ns.zip ds).lookup f = some d → f ∈ ns ∧ ∃ v, fs.lookup f = some v ∧ Rep O K as Hv v d
  | [], _, _, _, _, h => by simp at h
  | n :: ns, [], _, e, _, _ => by simp at e
  | n :: ns, v :: vs, _, e, .cons (d := d1) a r, h => by
    simp only [List.map_cons, List.cons.injEq] at e
    rw [List.zip_cons_cons, List.lookup_cons] at h
    split at h
    · rename_i z
      have z := beq_iff_eq.mp z
      subst z
      cases h
      exact ⟨List.mem_cons_self, v, e.1, a⟩
    · obtain ⟨h1, h2⟩ := zip_field e.2 r h
      exact ⟨List.mem_cons_of_mem _ h1, h2⟩
theorem pair_field {O : Objs} {K : PySem.W.Frag} {f : Str} : ∀ {vs : List (Str × V)} {ds : List (Str × D)}, vs.map (·.1) = ds.map (·.1) → Reps O K as Hv (vs.map (·.2)) (ds.map (·.2)) → ds.lookup f = some d → ∃ v, vs.lookup f = some v ∧ Rep O K as Hv v d
  | [], [], _, _, h => by simp at h
  | [], _ :: _, e, _, _ => by simp at e
  | _ :: _, [], e, _, _ => by simp at e
  | (n, v) :: vs, (n', d1) :: ds, e, r, h => by
    simp only [List.map_cons, List.cons.injEq] at e r
    cases r with
    | cons a r =>
      rw [List.lookup_cons] at h ⊢
      rw [e.1]
      split at h
      · rename_i z
        cases h
        exact ⟨v, rfl, a⟩
      · exact pair_field e.2 r h
theorem pair_none {f : Str} : ∀ {vs : List (Str × V)} {ds : List (Str × D)}, vs.map (·.1) = ds.map (·.1) → ds.lookup f = none → vs.lookup f = none
  | [], [], _, _ => rfl
  | [], _ :: _, e, _ => by simp at e
  | _ :: _, [], e, _ => by simp at e
  | (n, v) :: vs, (n', d1) :: ds, e, h => by
    simp only [List.map_cons, List.cons.injEq] at e
    rw [List.lookup_cons] at h ⊢
    rw [e.1]
    split at h
    · cases h
    · exact pair_none e.2 h
theorem obj_fld {k : Nat} {a : Addr} {ds : List D} {f : Str} {Φ : D → Prop} {O : Objs} {K : PySem.W.Frag} (kit : KitF O K) (r : Rep O K as Hv v (.obj k a ds)) (q : match O.memo k f with
    | some g => Φ .non ∧ Φ (g ds)
    | none => ∃ d, ((O.flds k).zip ds).lookup f = some d ∧ Φ d) :
    ∃ C dx fs u d, v = .ref a ∧ Hv a = some (.ins C dx fs) ∧ O.tag C = some k ∧ NoAttr K C f ∧ fs.lookup f = some u ∧ Rep O K as Hv u d ∧ Φ d := by
  cases r with
  | obj w h t l r m1 m2 no =>
    split at q
    · rename_i g hm
      by_cases z : w f = .non
      · exact ⟨_, _, _, _, .non, rfl, h, t, kit t (Or.inr (by rw [hm]; rfl)), m1 f g hm, by rw [z]; exact .non, q.1⟩
      · exact ⟨_, _, _, _, g ds, rfl, h, t, kit t (Or.inr (by rw [hm]; rfl)), m1 f g hm, m2 f g hm z, q.2⟩
    · obtain ⟨d, e, q⟩ := q
      obtain ⟨hf, u, e2, ru⟩ := zip_field l r e
      exact ⟨_, _, _, u, d, rfl, h, t, kit t (Or.inl hf), e2, ru, q⟩
theorem ins_fld {k : Nat} {a : Addr} {fs : List (Str × D)} {f : Str} (kit : KitF B.O B.K) (q : MRep B.O B.K as Hv H p (.ins k a fs)) (hf : B.O.sh.has k f) (e : fs.lookup f = some d) :
    ∃ C dx vs u, H p = some (.ins C dx vs) ∧ B.O.tag C = some k ∧ NoAttr B.K C f ∧ vs.lookup f = some u ∧ Rep B.O B.K as Hv u d := by
  obtain ⟨o, ho, _, C, dx, vs, rfl, t, e2, r⟩ := q
  obtain ⟨u, e3, ru⟩ := pair_field e2 r e
  exact ⟨C, dx, vs, u, ho, t, kit t hf, e3, ru⟩
theorem fld_of {f : Str} {Φ : D → Prop} {sh : Sh} (kit : KitF B.O B.K) (ki : KitOk B.O B.K) (hs : B.O.sh = sh) (S : SimB B as ρ μ σ H) (r : RepTB B as ρ σ H v d) (q : fldD sh f d ρ μ Φ) :
    ∃ a C dx fs u d', v = .ref a ∧ H a = some (.ins C dx fs) ∧ Cls B.K C ∧ NoAttr B.K C f ∧ fs.lookup f = some u ∧ RepB B as ρ σ H u d' ∧ Φ d' := by
  subst hs
  have fin : ∀ {w k a ds}, RepB B as ρ σ H w (.obj k a ds) → (match B.O.memo k f with
      | some g => Φ .non ∧ Φ (g ds)
      | none => ∃ d, ((B.O.flds k).zip ds).lookup f = some d ∧ Φ d) → ∃ a C dx fs u d', w = .ref a ∧ H a = some (.ins C dx fs) ∧ Cls B.K C ∧ NoAttr B.K C f ∧ fs.lookup f = some u ∧ RepB B as ρ σ H u d' ∧ Φ d' := fun rr q => by
    obtain ⟨C, dx, fs, u, d', rfl, h, t, n, e, ru, q⟩ := obj_fld kit rr q
    exact ⟨_, C, dx, fs, u, d', rfl, res_sub _ _ h, (ki.ins (res_sub _ _ h) t).cl, n, e, ru, q⟩
  cases d with
  | obj k a ds => exact fin (r.rep rfl) q
  | var i =>
    obtain ⟨p, rfl, s⟩ := r
    simp only [fldD] at q
    split at q
    · rename_i k a fs hi
      obtain ⟨hf, d, e, q⟩ := q
      obtain ⟨p', s', mr, _⟩ := S.own i _ hi
      rw [s] at s'
      cases s'
      obtain ⟨C, dx, vs, u, h, t, n, e2, ru⟩ := ins_fld kit mr hf e
      exact ⟨p, C, dx, vs, u, d, rfl, h, (ki.ins h t).cl, n, e2, ru, q⟩
    · rename_i k a ds hi
      obtain ⟨w, s', rw'⟩ := S.val i _ hi
      rw [s] at s'
      cases s'
      exact fin rw' q
    · exact q.elim
  | num j =>
    have r' := r.rep rfl
    cases r' with
    | num ea =>
      simp only [fldD] at q
      split at q
      · rename_i k a fs hj
        obtain ⟨hf, d, e, q⟩ := q
        obtain ⟨p', ep, mr⟩ := S.numAt hj
        rw [ea] at ep
        cases ep
        obtain ⟨C, dx, vs, u, h, t, n, e2, ru⟩ := ins_fld kit mr hf e
        exact ⟨_, C, dx, vs, u, d, rfl, h, (ki.ins h t).cl, n, e2, ru, q⟩
      · exact q.elim
  | _ => exact q.elim
variable {e : Expr} {ra : DE} {f : Str} {pos : Pos} {sh : Sh}
theorem pd_fld (kit : KitF B.O B.K) (ki : KitOk B.O B.K) (hs : B.O.sh = sh) (h : PD X B e ra) (hb : attributeBase e f X.env (eval e X.env) = eval e X.env := by rfl) (hK : X.K = B.K := by rfl) : PD X B (.Attribute e f pos) (rFld sh ra f) := (pe_fld (f := f) (pos := pos) h hb).imp fun σ H Q h => by
  obtain ⟨as, ρ, μ, Φ, Ψ, S, r, x, fin⟩ := h
  refine ⟨as, ρ, μ, _, Ψ, S, r, x, fun d1 as1 ρ1 μ1 H1 v1 q1 k1 S1 t1 => ?_⟩
  obtain ⟨a, C, dx, fs, u, d', rfl, ha, c, n, l, ru, q⟩ := fld_of kit ki hs S1 t1 q1
  rw [hK]
  exact ⟨a, C, dx, fs, u, rfl, ha, c, n, l, fin d' as1 ρ1 μ1 H1 u q k1 S1 ru.t⟩
/-! o.f = e, where o is being made, or changes by its number -/
def putD (f : Str) (d : D) : List (Str × D) → List (Str × D)
  | [] => [(f, d)]
  | (g, x) :: r => if g = f then (g, d) :: r else (g, x) :: putD f d r
theorem putD_rep {O : Objs} {K : PySem.W.Frag} {f : Str} : ∀ {vs : List (Str × V)} {ds : List (Str × D)}, vs.map (·.1) = ds.map (·.1) → Reps O K as Hv (vs.map (·.2)) (ds.map (·.2)) → Rep O K as Hv v d →
    (putF f v vs).map (·.1) = (putD f d ds).map (·.1) ∧ Reps O K as Hv ((putF f v vs).map (·.2)) ((putD f d ds).map (·.2))
  | [], [], _, _, h => ⟨rfl, .cons h .nil⟩
  | [], _ :: _, e, _, _ => by simp at e
  | _ :: _, [], e, _, _ => by simp at e
  | (n, x) :: vs, (n', y) :: ds, e, r, h => by
    simp only [List.map_cons, List.cons.injEq] at e r
    obtain ⟨e1, e2⟩ := e
    subst e1
    cases r with
    | cons a r =>
      obtain ⟨i1, i2⟩ := putD_rep e2 r h
      unfold putF putD
      split
      · exact ⟨by simp [e2], .cons h r⟩
      · exact ⟨by simp [i1], .cons a i2⟩
def rSetF (sh : Sh) (ro re : DE) (f : Str) : DS := fun N ρ μ => re ρ μ (fun d ρ1 μ1 => ∃ ρ2 d2, stow ρ1 d = some (ρ2, d2) ∧ ro ρ2 μ1 (fun x ρ3 μ3 => ∃ k a fs, getM ρ3 μ3 x = some (.ins k a fs) ∧ sh.has k f ∧ fs.length < 1000 ∧
  N.nx (putM ρ3 μ3 x (.ins k a (putD f d2 fs))).1 (putM ρ3 μ3 x (.ins k a (putD f d2 fs))).2) N.ex) N.ex
theorem pds_setF {o value : Expr} {ro re : DE} {pos' : Pos} (kit : KitF B.O B.K) (ki : KitOk B.O B.K) (hs : B.O.sh = sh) (ho : PD X B o ro) (he : PD X B value re) (hsw : swapsWith value (some (.Attribute o f pos')) pos.line X.env = pure false := by rfl) (hK : X.K = B.K := by rfl) :
    PDS X B (.Assign [.Attribute o f pos'] value pos) (rSetF sh ro re f) := (ps_fld ho he hsw).imp fun E σ H h => by
  obtain ⟨as, ρ, μ, N, S, q, g⟩ := h
  refine ⟨as, ρ, μ, _, _, S, q, g.ex σ, fun d1 as1 ρ1 μ1 H1 v1 q1 k1 S1 t1 => ?_⟩
  obtain ⟨ρ2, d2, e2, q2⟩ := q1
  obtain ⟨S2, r2, k2⟩ := S1.stow t1 e2
  refine ⟨as1, ρ2, μ1, _, _, S2, q2, g.ex σ, fun d3 as3 ρ3 μ3 H3 v3 q3 k3 S3 t3 => ?_⟩
  obtain ⟨k, a, fs, e3, hf, few, q3⟩ := q3
  obtain ⟨p, o, rfl, hp, mo, ch⟩ := S3.got t3 e3
  have r3 := RepT.step k3.g r2.t
  obtain ⟨ea, C, dx, vs, rfl, tg, en, rs⟩ := mo
  subst hs
  rw [hK]
  have r3' : RepB B as3 ρ3 σ H3 v1 d2 := r3.rep r2.kept
  obtain ⟨p1, p2⟩ := putD_rep (f := f) en rs r3'
  have few' : vs.length < 1000 := by
    have := congrArg List.length en
    simp at this
    omega
  obtain ⟨S4, _⟩ := ch (m' := .ins k a (putD f d2 fs)) (o' := .ins C dx (putF f v1 vs)) ⟨ea, C, dx, _, rfl, tg, p1, p2⟩
  exact ⟨p, C, dx, vs, rfl, hp, (ki.ins hp tg).cl, kit tg hf, few', g.nx as3 _ _ σ _ S4 q3⟩
end
end Dl
namespace Dl
open PySem PySem.Spec PyProof.Rows L2
/-! ### o.m(..) -/
def tMethC (C : Addr) (m : Str) (sp : Sp) (E : L2.St → XK) (ta : TE) (t : TA) : TE := fun σ H Q => ta σ H fun x H1 => ∃ a dx fs, x = .ref a ∧ H1 a = some (.ins C dx fs) ∧ fs.lookup m = none ∧ t σ H1 fun vs H2 => sp (x :: vs) H2 Q (E σ)
section
variable {X : Cx} {CX : CXT} {k : Nat} {f C : Addr} {fd : FuncData} {ps : List Str} {sp : Sp} {E : L2.St → XK} {x m : Str} {p pos apos : Pos} {e o : Expr} {es : List Expr} {ta : TE} {t : TA}
theorem pe_methC {pl : Sem Bool} (he : PE X o ta) (c : Cls X.K C) (hm : Meth X.K C m f) (F : FnC X.prog X.w X.K X.mg X.base CX k f fd ps sp) (hr : Room k X.A) (gua : X.A.guards = some []) (hb : Binds X.K fd ps []) (hx : ∀ σ, PassesAt CX X σ (E σ)) (ha : PA X (e :: es) t)
    (hst : starEach (e :: es) X.env = (false, eval e X.env) :: starEach es X.env := by rfl) (hpl : (backTo pos (starEach es X.env)).any (·.1) = false := by rfl)
    (ht : eval (.Call (.Attribute o m apos) (e :: es) [] pos) X.env = (do
      let ov ← eval o X.env
      standAt apos.atName
      let (f, first) ← holding [ov] (getMethod ov m pl)
      callWith pos f first (backTo pos (starEach (e :: es) X.env)) (backToKw pos (keywordEach [] X.env))) := by rfl) :
    PE X (.Call (.Attribute o m apos) (e :: es) [] pos) (tMethC C m sp E ta t) := by
  refine ⟨fun pins s σ H Q I h => ?_⟩
  refine PySem.W.methodCall_KW (pl := pl) (thn (he.run pins s σ H _ I h) fun u s1 ⟨x, H1, I1, rx, a, dx, fs, ex, ea, l, q⟩ => ?_) ht
  subst ex
  obtain rfl : u = Value.ref a := rx
  refine getmeth_ok I1 ea c hm l ?_
  refine PySem.W.callWith_K (first := [.ref a]) (h₀ := X.base) I.ok.mod.kin hm.kp (thn (ha.run pos pins s1 σ H1 _ I1 q) fun us s2 ⟨vs, H2, I2, r, q2⟩ => ⟨I2.kIn, ?_⟩) hst hpl
  exact run_fnC (us := .ref a :: us) (vs := .ref a :: vs) F hr gua hb (hx σ) I2 (.cons rfl r) q2
theorem pe_methC0 {pl : Sem Bool} (he : PE X o ta) (c : Cls X.K C) (hm : Meth X.K C m f) (F : FnC X.prog X.w X.K X.mg X.base CX k f fd ps sp) (hr : Room k X.A) (gua : X.A.guards = some []) (hb : Binds X.K fd ps []) (hx : ∀ σ, PassesAt CX X σ (E σ))
    (ht : eval (.Call (.Attribute o m apos) [] [] pos) X.env = (do
      let ov ← eval o X.env
      standAt apos.atName
      let (f, first) ← holding [ov] (getMethod ov m pl)
      callWith pos f first (backTo pos (starEach [] X.env)) (backToKw pos (keywordEach [] X.env))) := by rfl) :
    PE X (.Call (.Attribute o m apos) [] [] pos) (tMethC C m sp E ta tNil) := by
  refine ⟨fun pins s σ H Q I h => ?_⟩
  refine PySem.W.methodCall_KW (pl := pl) (thn (he.run pins s σ H _ I h) fun u s1 ⟨x, H1, I1, rx, a, dx, fs, ex, ea, l, q⟩ => ?_) ht
  subst ex
  obtain rfl : u = Value.ref a := rx
  refine getmeth_ok I1 ea c hm l ?_
  exact PySem.W.callWith_K0 (first := [.ref a]) I1.kIn hm.kp (run_fnC (us := [.ref a]) (vs := [.ref a]) F hr gua hb (hx σ) I1 (.cons rfl .nil) q)
/-! ### C(..) -/
def tMakeC (C : Addr) (sp : Sp) (E : L2.St → XK) (t : TA) : TE := fun σ H Q => t σ H fun vs H1 => ∀ x dx, H1 x = none → H1 dx = none → dx ≠ x → sp (.ref x :: vs) (upd (upd H1 dx (.own x)) x (.ins C dx [])) (fun v H2 => v = .non ∧ Q (.ref x) H2) (E σ)
theorem run_makeC {pins : List (Addr × Obj)} {σ : L2.St} {H : Hp} {s : Shared} {Q : VK} {us : List Value} {vs : List V} (M : Mk X.K C f) (F : FnC X.prog X.w X.K X.mg X.base CX k f fd ps sp) (hr : Room (k + 1) X.A) (gua : X.A.guards = some []) (hb : Binds X.K fd ps [])
    (hx : PassesAt CX X σ (E σ)) (I : Inv X pins σ H s) (r : Vals vs us)
    (h : ∀ x dx, H x = none → H dx = none → dx ≠ x → sp (.ref x :: vs) (upd (upd H dx (.own x)) x (.ins C dx [])) (fun v H2 => v = .non ∧ Q (.ref x) H2) (E σ)) :
    wpAny (model X.prog X.w) X.A (call (.ref C) us) (EP X pins σ Q) X.xe s := by
  have hq := h (s.heap.objs.size + 1) s.heap.objs.size (I.hok.fresh (Nat.le_succ _)) (I.hok.fresh (Nat.le_refl _)) (Nat.ne_of_lt (Nat.lt_succ_self _))
  have I2 := Inv.made (C := C) I
  have r2 : Vals (V.ref (s.heap.objs.size + 1) :: vs) (Value.ref (s.heap.objs.size + 1) :: us) := .cons rfl r
  have hl : (Value.ref (s.heap.objs.size + 1) :: us ++ []).length = ps.length := by
    rw [List.append_nil, ← r2.length]
    exact F.many _ _ _ _ hq
  have b2 := hb _ (Value.ref (s.heap.objs.size + 1) :: us) I2.kIn hl
  rw [List.append_nil] at b2
  refine wpAny_call (make_map (f := f) I.kIn M.makes M.init (beq_iff_eq.mp M.fn) (codeAny_mono (F.go _ X.stack _ _ ⟨Value.ref (s.heap.objs.size + 1) :: us, []⟩ (Value.ref (s.heap.objs.size + 1) :: us) _ _ (E σ) (hr.make C us []) gua
    (I2.env0.make C us []) b2 r2 hq) fun r s' hq' => ?_))
  cases r with
  | error e => exact hx pins _ _ e s' I2 hq'
  | ok fl =>
    cases fl with
    | ret u =>
      obtain ⟨v, H', I3, rv, ev, q3⟩ := I2.after hq'
      subst ev
      exact ⟨rv, ⟨V.ref (s.heap.objs.size + 1), H', I3, rfl, q3⟩⟩
    | next => exact False.elim hq'
    | brk => exact False.elim hq'
    | cont => exact False.elim hq'
theorem pe_makeC (M : Mk X.K C f) (F : FnC X.prog X.w X.K X.mg X.base CX k f fd ps sp) (hr : Room (k + 1) X.A) (gua : X.A.guards = some []) (hg : Gl X x) (hm : X.mg x = some (.ref C)) (hb : Binds X.K fd ps []) (hx : ∀ σ, PassesAt CX X σ (E σ))
    (ha : PA X (e :: es) t) (hdb : (x == ("__debug__" : Str)) = false := by decide) (he : starEach (e :: es) X.env = (false, eval e X.env) :: starEach es X.env := by rfl) (hpl : (backTo pos (starEach es X.env)).any (·.1) = false := by rfl) :
    PE X (.Call (.Name x p) (e :: es) [] pos) (tMakeC C sp E t) := by
  refine ⟨fun pins s σ H Q I h => ?_⟩
  refine wpAny_Call_Name_kw (ld_glob I hg hm ?_ hdb)
  refine PySem.W.callWith_K (h₀ := X.base) I.ok.mod.kin M.kp (thn (ha.run pos pins s σ H _ I h) fun us s1 ⟨vs, H1, I1, r, q⟩ => ⟨I1.kIn, ?_⟩) he hpl
  exact run_makeC M F hr gua hb (hx σ) I1 r q
end
end Dl
namespace Dl
open PySem PySem.Spec PyProof.Rows L2
/-- what is wanted of a call -/
def callQ (sp : SpD) (ds : List D) (ρ : Rho) (μ : Mu) (Φ : KD) (Ψ : KX) : Prop := ∃ ds2 fl, pass ρ ds = some (ds2, fl) ∧ (fl = true → ρ.all SV.noIns = true) ∧
  sp ds2 μ (fun d μ2 => (fl = true → d.flat = true ∧ μ2.all M.flat = true) ∧ Φ d ρ μ2) fun e μ2 => fl = false ∧ Ψ e ρ μ2
section
variable {B : Par} {X : Cx} {as as' as1 : List Addr} {ρ ρ' ρ1 : Rho} {μ μ' μ1 : Mu} {σ σ' : L2.St} {H H' H1 Hv : Hp} {v w : V} {d d' : D} {i : Nat} {m m' : M} {p : Addr} {o : HO} {vs : List V} {ds : List D} {sp : SpD}
theorem core_call (S1 : SimB B as1 ρ1 μ1 σ H1) (t1 : RepTsB B as1 ρ1 σ H1 vs ds) {Φ : KD} {Ψ : KX} (q : callQ sp ds ρ1 μ1 Φ Ψ) (x : EndX B σ Ψ) {Q : VK}
    (fin : ∀ d as' μ' H' v, Φ d ρ1 μ' → StepB B as1 ρ1 σ H1 as' ρ1 H' → SimB B as' ρ1 μ' σ H' → RepTB B as' ρ1 σ H' v d → Q v H') : spV B.O B.K sp vs H1 Q (WE B.W σ) := by
  obtain ⟨ds2, fl, e, ni, q⟩ := q
  cases fl with
  | false =>
    have trk : ∀ p, (B.fm.F p ∨ Own ρ1 σ p) → H1 p ≠ none := fun p h z => by
      have := S1.sight z
      exact this (Or.inr h)
    have fas : ∀ p, (B.fm.F p ∨ Own ρ1 σ p) → p ∉ as1 := fun p h => by
      rcases h with h | ⟨i, m, e1, e2⟩
      · exact S1.fas p h
      · obtain ⟨p', s, _, n, _⟩ := S1.own i m e1
        rw [e2] at s
        cases s
        exact n
    refine ⟨fun a => B.fm.F a ∨ Own ρ1 σ a, as1, ds2, μ1, _, _, pass_kept S1 t1 e, S1.mu, trk, fas, q, fun d μ' as' H' v q' P r' => ?_, fun e' μ' as' H' cls dx q' P ok => ?_⟩
    · obtain ⟨S2, k2⟩ := S1.after P
      exact fin d as' μ' H' v q'.2 k2 S2 (show RepB B as' ρ1 σ H' v d from r').t
    · obtain ⟨S2, k2⟩ := S1.after P
      exact x e' as' ρ1 μ' H' cls dx q'.2 S2 ok
  | true =>
    refine ⟨B.fm.F, as1, ds2, μ1, _, _, pass_any S1 t1 e, ⟨S1.mu.len, S1.mu.nod, fun j m p a b => ?_⟩, S1.ftrk, S1.fas, q, fun d μ' as' H' v q' P r' => ?_, fun e' μ' as' H' cls dx q' P ok => by cases q'.1⟩
    · obtain ⟨o, ho, r⟩ := S1.mu.mu j m p a b
      exact ⟨o, ho, r.le le0⟩
    · obtain ⟨f1, f2⟩ := q'.1 rfl
      obtain ⟨S2, k2⟩ := S1.afterB (ni rfl) f2 P
      exact fin d as' μ' H' v q'.2 k2 S2 (r'.flat f1).t
/-! ### o.m(..) -/
/-- d is an instance of the class with the tag k, without an attribute called m -/
def insK (sh : Sh) (k : Nat) (m : Str) : D → Rho → Mu → Prop
  | .obj k' _ _, _, _ => k' = k ∧ ¬ sh.has k m
  | .num j, _, μ => (match μ[j]? with
    | some (.ins k' _ fs) => k' = k ∧ fs.lookup m = none
    | _ => False)
  | .var i, ρ, _ => (match ρ[i]? with
    | some (.val (.obj k' _ _)) => k' = k ∧ ¬ sh.has k m
    | _ => False)
  | _, _, _ => False
def rMth (sh : Sh) (k : Nat) (m : Str) (sp : SpD) (ra : DE) (rs : DA) : DE := fun ρ μ Φ Ψ => ra ρ μ (fun x ρ1 μ1 => insK sh k m x ρ1 μ1 ∧ rs ρ1 μ1 (fun ds ρ2 μ2 => callQ sp (x :: ds) ρ2 μ2 Φ Ψ) Ψ) Ψ
theorem ins_of {sh : Sh} {k : Nat} {C : Addr} {m : Str} (hs : B.O.sh = sh) (one : ∀ C', B.O.tag C' = some k → C' = C) (S : SimB B as ρ μ σ H) (r : RepTB B as ρ σ H v d) (q : insK sh k m d ρ μ) :
    ∃ a dx fs, v = .ref a ∧ H a = some (.ins C dx fs) ∧ fs.lookup m = none := by
  subst hs
  have fin : ∀ {w k' a ds}, RepB B as ρ σ H w (.obj k' a ds) → k' = k ∧ ¬ B.O.sh.has k m → ∃ a dx fs, w = .ref a ∧ H a = some (.ins C dx fs) ∧ fs.lookup m = none := fun rr q => by
    obtain ⟨rfl, n⟩ := q
    cases rr with
    | obj w h t l r m1 m2 no =>
      have := one _ t
      subst this
      refine ⟨_, _, _, rfl, res_sub _ _ h, ?_⟩
      rename_i C0 dx0 fs0 vs0
      cases e : fs0.lookup m with
      | none => rfl
      | some u => exact absurd (no m u e) n
  cases d with
  | obj k' a ds => exact fin (r.rep rfl) q
  | num j =>
    have r' := r.rep rfl
    cases r' with
    | num ea =>
      simp only [insK] at q
      split at q
      · rename_i k' a' fs hj
        obtain ⟨rfl, n⟩ := q
        obtain ⟨p', ep, o, ho, _, C0, dx, vs, rfl, t, e2, _⟩ := S.numAt hj
        rw [ea] at ep
        cases ep
        have := one _ t
        subst this
        exact ⟨_, dx, vs, rfl, ho, pair_none e2 n⟩
      · exact q.elim
  | var i =>
    obtain ⟨p, rfl, s⟩ := r
    simp only [insK] at q
    split at q
    · rename_i k' a ds hi
      obtain ⟨w, s', rw'⟩ := S.val i _ hi
      rw [s] at s'
      cases s'
      exact fin rw' q
    · exact q.elim
  | _ => exact q.elim
variable {k lv : Nat} {C f : Addr} {fd : FuncData} {ps : List Str} {x mname : Str} {pp pos apos : Pos} {e ob : Expr} {es : List Expr} {ra : DE} {rs : DA} {sh : Sh}
theorem lift_mth {Q : VK} (hs : B.O.sh = sh) (one : ∀ C', B.O.tag C' = some k → C' = C) (h : LE B (rMth sh k mname sp ra rs) σ H Q) : tMethC C mname (spV B.O B.K sp) (fun σ => WE B.W σ) (LE B ra) (LA B rs) σ H Q := by
  obtain ⟨as, ρ, μ, Φ, Ψ, S, r, x, fin⟩ := h
  refine ⟨as, ρ, μ, _, Ψ, S, r, x, fun d1 as1 ρ1 μ1 H1 v1 q1 k1 S1 t1 => ?_⟩
  obtain ⟨ik, q1⟩ := q1
  obtain ⟨a, dx, fs, rfl, ha, l⟩ := ins_of hs one S1 t1 ik
  refine ⟨a, dx, fs, rfl, ha, l, as1, ρ1, μ1, _, Ψ, S1, q1, x, fun ds as2 ρ2 μ2 H2 vs q2 k2 S2 t2 => ?_⟩
  exact core_call S2 (.cons (t1.step k2.g) t2) q2 x fun d as' μ' H' v q k S' r => fin d as' ρ2 μ' H' v q ((k1.trans k2).trans k) S' r
theorem pd_mth {pl : Sem Bool} (hs : B.O.sh = sh) (one : ∀ C', B.O.tag C' = some k → C' = C) (c : Cls B.K C) (hm : Meth B.K C mname f) (F : FnD B.O X.prog X.w B.K X.mg X.base lv f fd ps sp) (hr : Room lv X.A) (gua : X.A.guards = some []) (tk : L2N.Takes X B.W) (hb : Binds B.K fd ps [])
    (ho : PD X B ob ra) (ha : PDA X B (e :: es) rs) (hK : X.K = B.K := by rfl) (hst : starEach (e :: es) X.env = (false, eval e X.env) :: starEach es X.env := by rfl) (hpl : (backTo pos (starEach es X.env)).any (·.1) = false := by rfl)
    (ht : eval (.Call (.Attribute ob mname apos) (e :: es) [] pos) X.env = (do
      let ov ← eval ob X.env
      standAt apos.atName
      let (f, first) ← holding [ov] (getMethod ov mname pl)
      callWith pos f first (backTo pos (starEach (e :: es) X.env)) (backToKw pos (keywordEach [] X.env))) := by rfl) : PD X B (.Call (.Attribute ob mname apos) (e :: es) [] pos) (rMth sh k mname sp ra rs) := by
  refine (pe_methC (X := X) (E := fun σ => WE B.W σ) (sp := spV B.O B.K sp) (CX := L2N.CX X.prog X.w) (k := lv) (f := f) (fd := fd) (ps := ps) (C := C) (m := mname) ho ?_ ?_ ?_ hr gua ?_ (fun σ => L2N.passAt tk σ) ha hst hpl ht).imp fun σ H Q h => lift_mth hs one h
  · rw [hK]; exact c
  · rw [hK]; exact hm
  · rw [hK]; exact F
  · rw [hK]; exact hb
theorem pd_mth0 {pl : Sem Bool} (hs : B.O.sh = sh) (one : ∀ C', B.O.tag C' = some k → C' = C) (c : Cls B.K C) (hm : Meth B.K C mname f) (F : FnD B.O X.prog X.w B.K X.mg X.base lv f fd ps sp) (hr : Room lv X.A) (gua : X.A.guards = some []) (tk : L2N.Takes X B.W) (hb : Binds B.K fd ps [])
    (ho : PD X B ob ra) (hK : X.K = B.K := by rfl)
    (ht : eval (.Call (.Attribute ob mname apos) [] [] pos) X.env = (do
      let ov ← eval ob X.env
      standAt apos.atName
      let (f, first) ← holding [ov] (getMethod ov mname pl)
      callWith pos f first (backTo pos (starEach [] X.env)) (backToKw pos (keywordEach [] X.env))) := by rfl) : PD X B (.Call (.Attribute ob mname apos) [] [] pos) (rMth sh k mname sp ra rNil) := by
  refine (pe_methC0 (X := X) (E := fun σ => WE B.W σ) (sp := spV B.O B.K sp) (CX := L2N.CX X.prog X.w) (k := lv) (f := f) (fd := fd) (ps := ps) (C := C) (m := mname) ho ?_ ?_ ?_ hr gua ?_ (fun σ => L2N.passAt tk σ) ht).imp fun σ H Q h => ?_
  · rw [hK]; exact c
  · rw [hK]; exact hm
  · rw [hK]; exact F
  · rw [hK]; exact hb
  · obtain ⟨as, ρ, μ, Φ, Ψ, S, q, x, fin⟩ := h
    refine ⟨as, ρ, μ, _, Ψ, S, q, x, fun d1 as1 ρ1 μ1 H1 v1 q1 k1 S1 t1 => ?_⟩
    obtain ⟨ik, q1⟩ := q1
    obtain ⟨a, dx, fs, rfl, ha, l⟩ := ins_of hs one S1 t1 ik
    refine ⟨a, dx, fs, rfl, ha, l, ?_⟩
    exact core_call S1 (.cons t1 .nil) q1 x fun d as' μ' H' v q k S' r => fin d as' ρ1 μ' H' v q (k1.trans k) S' r
end
/-! ### a class that is made -/
abbrev SpI := List D → Mu → (List (Str × D) → Mu → Prop) → (Exn → Mu → Prop) → Prop
structure PostI (O : Objs) (K : PySem.W.Frag) (F : Addr → Prop) (as : List Addr) (p : Addr) (H : Hp) (as' : List Addr) (H' : Hp) (μ' : Mu) : Prop where
  g : Grow O K as (fun a => X0 F as a ∨ a = p) H as' (X0 F as') H'
  mu : MuOk O K as' (vis0 F as' H') H' μ'
  stay : ∀ q, F q → H' q = H q
  fas : ∀ q, F q → q ∉ as'
/-- an exception as its class and fields -/
def ExD (O : Objs) (K : PySem.W.Frag) (as : List Addr) (Hv : Hp) (cls : Value) (dx : Option Addr) (e : Exn) : Prop :=
  ∃ C, cls = .ref C ∧ O.etag C = some e.c ∧ ((dx = none ∧ e.fs = []) ∨ ∃ a fs, dx = some a ∧ Hv a = some (.xd fs) ∧ fs.map (·.1) = e.fs.map (·.1) ∧ Reps O K as Hv (fs.map (·.2)) (e.fs.map (·.2)))
def spI (O : Objs) (K : PySem.W.Frag) (k : Nat) (sp : SpI) : Sp := fun vs H Q E => ∃ (F : Addr → Prop) (as : List Addr) (ds : List D) (μ : Mu) (Φ : List (Str × D) → Mu → Prop) (Ψ : Exn → Mu → Prop) (p C dx : Addr) (ws : List V),
  vs = .ref p :: ws ∧ H p = some (.ins C dx []) ∧ O.tag C = some k ∧ ¬ X0 F as p ∧ Reps O K as (Res (fun a => ¬ (X0 F as a ∨ a = p)) H) ws ds ∧ MuOk O K as (Res (fun a => ¬ (X0 F as a ∨ a = p)) H) H μ ∧ (∀ p, F p → H p ≠ none) ∧ (∀ p, F p → p ∉ as) ∧ sp ds μ Φ Ψ ∧
  (∀ fs μ' as' H', Φ fs μ' → PostI O K F as p H as' H' μ' → ¬ X0 F as' p → MRep O K as' (vis0 F as' H') H' p (.ins k p fs) → Q .non H') ∧
  ∀ e μ' as' H' cls dx, Ψ e μ' → PostI O K F as p H as' H' μ' → ExD O K as' (vis0 F as' H') cls dx e → E cls dx H'
/-- an __init__ that keeps a promise of the fields that it stores -/
abbrev FnI (O : Objs) (P : Program) (w : World) (K : PySem.W.Frag) (mg : Str → Option Value) (base : Heap) (kc : Nat) (k : Nat) (f : Addr) (fd : FuncData) (ps : List Str) (sp : SpI) : Prop := FnC P w K mg base (L2N.CX P w) k f fd ps (spI O K kc sp)
/-- the slots at an __init__'s begin -/
def startI (N : List Str) (k : Nat) (p : Addr) (ds : List D) : Rho := SV.own (.ins k p []) :: (ds.map SV.val ++ List.replicate (N.length - 1 - ds.length) SV.unk)
section
variable {P : Program} {w : World} {K : PySem.W.Frag} {mg : Str → Option Value} {base : Heap} {O : Objs}
theorem startI_own {N : List Str} {ds : List D} {kc : Nat} {p : Addr} {i : Nat} {m : M} (e : (startI N kc p ds)[i]? = some (.own m)) : i = 0 ∧ m = .ins kc p [] := by
  cases i with
  | zero =>
    simp [startI] at e
    exact ⟨rfl, e.symm⟩
  | succ i =>
    exfalso
    simp only [startI, List.getElem?_cons_succ] at e
    by_cases h : i < ds.length
    · rw [List.getElem?_append_left (by simpa using h), List.getElem?_map] at e
      cases q : ds[i]? with
      | none => rw [q] at e; cases e
      | some d' => rw [q] at e; cases e
    · rw [List.getElem?_append_right (by simpa using h), List.getElem?_replicate] at e
      split at e <;> cases e
theorem startI_val {N : List Str} {ds : List D} {vs : List V} {as : List Addr} {Hv : Hp} {kc : Nat} {p : Addr} (r : Reps O K as Hv vs ds) : ∀ (i : Nat) (d : D), (startI N kc p ds)[i]? = some (.val d) → ∃ v, (start N (.ref p :: vs))[i]? = some (some v) ∧ Rep O K as Hv v d := by
  intro i d e
  have hl := r.length
  cases i with
  | zero => simp [startI] at e
  | succ i =>
    simp only [startI, List.getElem?_cons_succ] at e
    by_cases h : i < ds.length
    · rw [List.getElem?_append_left (by simpa using h), List.getElem?_map] at e
      cases q : ds[i]? with
      | none => rw [q] at e; cases e
      | some d' =>
        rw [q] at e
        cases e
        obtain ⟨v, hv, rv⟩ := r.getD i d q
        refine ⟨v, ?_, rv⟩
        unfold L2.start
        rw [List.map_cons, List.cons_append, List.getElem?_cons_succ, List.getElem?_append_left (by rw [List.length_map, hl]; exact h), List.getElem?_map, hv]
        rfl
    · rw [List.getElem?_append_right (by simpa using h), List.getElem?_replicate] at e
      split at e <;> cases e
theorem reps_kept {as : List Addr} : ∀ {vs : List V} {ds : List D} {Hv : Hp}, Reps O K as Hv vs ds → ds.all D.kept = true
  | _, _, _, .nil => rfl
  | _, _, _, .cons a r => by rw [List.all_cons, a.kept, reps_kept r]; rfl
theorem fnI_of {x qual : Str} {st : Stmt} {f : Addr} {fd : FuncData} {N ps : List Str} {k kc : Nat} {sp : SpI} (F : Fun K x qual st f fd) (S : FnScope N ps (defScope st))
    (len : ∀ ds μ Φ Ψ, sp ds μ Φ Ψ → ds.length + 1 = ps.length) (hN : 0 < N.length)
    (body : ∃ r : DS, (∀ (B : Par) (cdv : Value) (A : Around) (outer : List Env) (s : Shared) (H : Hp) (E : XK), B.O = O → B.K = K → B.W = (fun cls d _ H => E cls d H) →
        Room k (A.deeper (envOfC qual (defScope st) s.heap.objs.size f cdv)) → A.guards = some [] → L2N.Takes (cxOf (L2N.CX P w) P w K mg base N qual (defScope st) f cdv A outer s H E) B.W →
        PassesOwn (model P w) (A.deeper (envOfC qual (defScope st) s.heap.objs.size f cdv)) (envOfC qual (defScope st) s.heap.objs.size f cdv) (cxOf (L2N.CX P w) P w K mg base N qual (defScope st) f cdv A outer s H E).xe →
        PDSs (cxOf (L2N.CX P w) P w K mg base N qual (defScope st) f cdv A outer s H E) B (defBody st) r) ∧
      ∀ p ds μ Φ Ψ, ds.all D.kept = true → sp ds μ Φ Ψ → r { nx := fun ρ' μ' => ∃ fs, ρ'[0]? = some (.own (.ins kc p fs)) ∧ Φ fs μ', rt := fun _ _ => False, ex := fun e _ μ' => Ψ e μ' } (startI N kc p ds) μ) :
    FnI O P w K mg base kc (k + 1) f fd ps sp := by
  obtain ⟨oc, od, kV, doc, pm, an, cdv, ct, osl, efd, lk, hcd⟩ := F.ex
  subst efd
  obtain ⟨r, der, want⟩ := body
  refine fnC_of lk hcd S (fun vs H Q E h => ?_) fun A outer s H vs Q E room gua h => ?_
  · obtain ⟨F, as, ds, μ, Φ, Ψ, p, C, dx, ws, rfl, _, _, _, rs, _, _, _, q, _⟩ := h
    rw [List.length_cons, rs.length]
    exact len _ _ _ _ q
  obtain ⟨F, as, ds, μ, Φ, Ψ, p, C, dx, ws, rfl, hp, tg, np, rs, mo, ft, fa, q, fin, exc⟩ := h
  let B : Par := ⟨O, K, ⟨F, as, fun a => X0 F as a ∨ a = p, H, H, []⟩, fun cls d _ H => E cls d H⟩
  refine ⟨_, der B cdv A outer s H E rfl rfl rfl room gua (L2N.takes_of rfl rfl rfl rfl) PassesOwn.leaving, ?_⟩
  have hl : ds.length + 1 = ps.length := len _ _ _ _ q
  have at0 : (start N (.ref p :: ws))[0]? = some (some (.ref p)) := rfl
  have own0 : ∀ a, Own (startI N kc p ds) (start N (.ref p :: ws)) a ↔ a = p := fun a => ⟨fun ⟨i, m, e1, e2⟩ => by
    obtain ⟨rfl, _⟩ := startI_own e1
    rw [at0] at e2
    cases e2
    rfl, fun e => by
    subst e
    exact ⟨0, _, rfl, at0⟩⟩
  have xx : XX F as (startI N kc p ds) (start N (.ref p :: ws)) = fun a => X0 F as a ∨ a = p := funext fun a => propext (by
    unfold XX X0
    rw [own0, or_assoc])
  have S0 : SimB B as (startI N kc p ds) μ (start N (.ref p :: ws)) H := by
    refine ⟨?_, fun i d e => ?_, fun i m e => ?_, fun i j m n p' e1 e2 _ _ => ?_, ?_, ?_, fun _ _ => rfl, ft, fa, fun q hq => nomatch hq⟩
    · have hr := rs.length
      simp only [startI, L2.start, List.length_cons, List.length_append, List.length_map, List.length_replicate, hr]
      omega
    · show ∃ v, _ ∧ Rep O K as (Res (fun a => ¬ XX F as (startI N kc p ds) (start N (.ref p :: ws)) a) H) v d
      rw [xx]
      exact startI_val rs i d e
    · obtain ⟨rfl, rfl⟩ := startI_own e
      refine ⟨p, at0, ⟨_, hp, rfl, C, dx, [], rfl, tg, rfl, .nil⟩, fun z => np (Or.inl z), fun z => np (Or.inr z)⟩
    · exact (startI_own e1).1.trans (startI_own e2).1.symm
    · show MuOk O K as (Res (fun a => ¬ XX F as (startI N kc p ds) (start N (.ref p :: ws)) a) H) H μ
      rw [xx]
      exact mo
    · show Grow O K as (fun a => X0 F as a ∨ a = p) H as (XX F as (startI N kc p ds) (start N (.ref p :: ws))) H
      rw [xx]
      exact Grow.refl
  have le : ∀ {as' : List Addr} {ρ' : Rho} {σ' : L2.St}, ∀ a, X0 F as' a → XX F as' ρ' σ' a := fun {as' ρ' σ'} a h => by
    rcases h with h | h
    · exact Or.inl h
    · exact Or.inr (Or.inl h)
  have post : ∀ {as' : List Addr} {ρ' : Rho} {μ' : Mu} {σ' : L2.St} {H' : Hp}, SimB B as' ρ' μ' σ' H' → PostI O K F as p H as' H' μ' := fun {as' ρ' μ' σ' H'} S' => by
    exact ⟨S'.base.shrink le, ⟨S'.mu.len, S'.mu.nod, fun j m p a b => by
      obtain ⟨o, ho, q⟩ := S'.mu.mu j m p a b
      exact ⟨o, ho, q.le (see_more fun a w z => w (le a z))⟩⟩, S'.stay, S'.fas⟩
  have wide : ∀ {as' : List Addr} {ρ' : Rho} {σ' : L2.St} {H' : Hp} (a : Addr) (o : HO), vis B as' ρ' σ' H' a = some o → vis0 F as' H' a = some o := fun {as' ρ' σ' H'} => see_more fun a w z => w (le a z)
  refine ⟨as, startI N kc p ds, μ, _, S0, want p ds μ Φ Ψ (reps_kept rs) q, ⟨fun as' ρ' μ' σ' H' S' q' => ?_, fun as' ρ' μ' σ' H' v d S' rv q' => q'.elim, fun _ _ _ _ _ _ z => z.elim, fun _ _ _ _ _ _ z => z.elim, fun σ e as' ρ' μ' H' cls dx q' S' ok => ?_⟩⟩
  · obtain ⟨fs, e, q'⟩ := q'
    obtain ⟨p', s', ⟨o, ho, mo⟩, n1, n2⟩ := S'.own 0 _ e
    have ep : p = p' := mo.1
    subst ep
    exact fin fs μ' as' H' q' (post S') (fun z => z.elim n1 n2) ⟨o, ho, mo.le wide⟩
  · refine exc e μ' as' H' cls dx q' (post S') ?_
    obtain ⟨C, e1, e2, h⟩ := ok
    refine ⟨C, e1, e2, ?_⟩
    rcases h with h | ⟨a, fs, h1, h2, h3, h4⟩
    · exact Or.inl h
    · exact Or.inr ⟨a, fs, h1, wide _ _ h2, h3, h4.le wide⟩
end
/-- what was stored, as the fields of what never changes -/
structure Frozen (sh : Sh) (k : Nat) (fs : List (Str × D)) (us : List D) : Prop where
  fl : (sh.flds k).map (fs.lookup ·) = us.map some
  me : ∀ f g, sh.memo k f = some g → fs.lookup f = some .non
  no : ∀ f d, fs.lookup f = some d → sh.has k f
def rMake (sh : Sh) (k : Nat) (sp : SpI) (ra : DA) : DE := fun ρ μ Φ Ψ => ra ρ μ (fun ds ρ1 μ1 => ∃ ds2, pass ρ1 ds = some (ds2, false) ∧ sp ds2 μ1 (fun fs μ2 => ∃ us, Frozen sh k fs us ∧ ∀ a, Φ (.obj k a us) ρ1 μ2) fun e μ2 => Ψ e ρ1 μ2) Ψ
section
variable {B : Par} {X : Cx} {as as' as1 : List Addr} {ρ ρ' ρ1 : Rho} {μ μ' μ1 : Mu} {σ σ' : L2.St} {H H' H1 Hv : Hp} {v w : V} {d d' : D} {i : Nat} {p : Addr} {o : HO} {vs : List V} {ds : List D}
theorem pair_fields {O : Objs} {K : PySem.W.Frag} {vs : List (Str × V)} {fs : List (Str × D)} (e : vs.map (·.1) = fs.map (·.1)) (r : Reps O K as Hv (vs.map (·.2)) (fs.map (·.2))) : ∀ {ns : List Str} {us : List D}, ns.map (fs.lookup ·) = us.map some → ∃ ws, ns.map (vs.lookup ·) = ws.map some ∧ Reps O K as Hv ws us
  | [], [], _ => ⟨[], rfl, .nil⟩
  | [], _ :: _, h => by simp at h
  | _ :: _, [], h => by simp at h
  | n :: ns, u :: us, h => by
    simp only [List.map_cons, List.cons.injEq] at h
    obtain ⟨w, e1, r1⟩ := pair_field e r h.1
    obtain ⟨ws, e2, r2⟩ := pair_fields e r h.2
    exact ⟨w :: ws, by simp [e1, e2], .cons r1 r2⟩
theorem pair_back {vs : List (Str × V)} {fs : List (Str × D)} (e : vs.map (·.1) = fs.map (·.1)) {f : Str} {u : V} (h : vs.lookup f = some u) : ∃ d, fs.lookup f = some d := by
  cases q : fs.lookup f with
  | some d => exact ⟨d, rfl⟩
  | none =>
    rw [pair_none e q] at h
    cases h
theorem frozen_rep {k : Nat} {fs : List (Str × D)} {us : List D} (fz : Frozen B.O.sh k fs us) (hv : Hv p = some o) (mo : MObj B.O B.K as Hv p o (.ins k p fs)) : Rep B.O B.K as Hv (.ref p) (.obj k p us) := by
  obtain ⟨_, C, dx, vs, rfl, tg, en, rs⟩ := mo
  obtain ⟨ws, e1, r1⟩ := pair_fields en rs fz.fl
  refine .obj (fun _ => .non) hv tg e1 r1 (fun f g hm => ?_) (fun f g _ z => absurd rfl z) fun f u h => ?_
  · obtain ⟨u, e2, r2⟩ := pair_field en rs (fz.me f g hm)
    cases r2
    exact e2
  · obtain ⟨d, h2⟩ := pair_back en h
    exact fz.no f d h2
variable {k lv : Nat} {C f : Addr} {fd : FuncData} {ps : List Str} {x : Str} {pp pos : Pos} {e : Expr} {es : List Expr} {ra : DA} {sh : Sh} {sp : SpI}
theorem lift_make {Q : VK} (hs : B.O.sh = sh) (tg : B.O.tag C = some k) (h : LE B (rMake sh k sp ra) σ H Q) : tMakeC C (spI B.O B.K k sp) (fun σ => WE B.W σ) (LA B ra) σ H Q := by
  subst hs
  obtain ⟨as, ρ, μ, Φ, Ψ, S, r, x, fin⟩ := h
  refine ⟨as, ρ, μ, _, Ψ, S, r, x, fun ds as1 ρ1 μ1 H1 vs q1 k1 S1 t1 p dx np nd ne => ?_⟩
  obtain ⟨ds2, e, q⟩ := q1
  have nd2 : upd H1 dx (.own p) p = none := by rw [upd_ne (Ne.symm ne)]; exact np
  have keep1 : ∀ a u, H1 a = some u → upd H1 dx (.own p) a = some u := ext_lay nd
  have keep2 : ∀ a u, upd H1 dx (.own p) a = some u → upd (upd H1 dx (.own p)) p (.ins C dx []) a = some u := ext_lay nd2
  have keep : ∀ a u, H1 a = some u → upd (upd H1 dx (.own p)) p (.ins C dx []) a = some u := fun a u h => keep2 a u (keep1 a u h)
  obtain ⟨f1, f2, f3⟩ := S1.fresh np
  have nX : ¬ X0 (fun a => B.fm.F a ∨ Own ρ1 σ a) as1 p := S1.sight np
  have trk : ∀ p, (B.fm.F p ∨ Own ρ1 σ p) → H1 p ≠ none := fun p h z => S1.sight z (Or.inr h)
  have fas : ∀ p, (B.fm.F p ∨ Own ρ1 σ p) → p ∉ as1 := fun p h => by
    rcases h with h | ⟨i, m, e1, e2⟩
    · exact S1.fas p h
    · obtain ⟨p', s, _, n, _⟩ := S1.own i m e1
      rw [e2] at s
      cases s
      exact n
  have more : ∀ a u, vis B as1 ρ1 σ H1 a = some u → Res (fun a => ¬ (X0 (fun a => B.fm.F a ∨ Own ρ1 σ a) as1 a ∨ a = p)) (upd (upd H1 dx (.own p)) p (.ins C dx [])) a = some u := res_le fun a u w h => by
    refine ⟨fun z => ?_, keep a u h⟩
    rcases z with z | z
    · exact w z
    · subst z
      rw [np] at h
      cases h
  have rs := pass_kept S1 t1 e
  have g0 : Grow B.O B.K as1 (XX B.fm.F as1 ρ1 σ) H1 as1 (fun a => X0 (fun a => B.fm.F a ∨ Own ρ1 σ a) as1 a ∨ a = p) (upd (upd H1 dx (.own p)) p (.ins C dx [])) :=
    (Grow.lay nd).trans (Grow.hide nd2)
  have stay : ∀ q, (B.fm.F q ∨ Own ρ1 σ q) → upd (upd H1 dx (.own p)) p (.ins C dx []) q = H1 q := fun q hq => by
    cases z : H1 q with
    | none => exact absurd z (trk q hq)
    | some u => exact keep q u z
  have post : ∀ {as' : List Addr} {H' : Hp} {μ' : Mu}, PostI B.O B.K (fun a => B.fm.F a ∨ Own ρ1 σ a) as1 p (upd (upd H1 dx (.own p)) p (.ins C dx [])) as' H' μ' → Post B.O B.K (fun a => B.fm.F a ∨ Own ρ1 σ a) as1 H1 as' H' μ' := fun {as' H' μ'} P =>
    ⟨g0.trans P.g, P.mu, fun q hq => (P.stay q hq).trans (stay q hq), P.fas⟩
  refine ⟨fun a => B.fm.F a ∨ Own ρ1 σ a, as1, ds2, μ1, _, _, p, C, dx, vs, rfl, upd_same, tg, nX, rs.le more, ⟨S1.mu.len, S1.mu.nod, fun j m q a b => ?_⟩, fun q h z => ?_, fas, q, fun fs μ' as' H' q' P nx mr => ⟨rfl, ?_⟩, fun e' μ' as' H' cls dx q' P ok => ?_⟩
  · obtain ⟨o, ho, r⟩ := S1.mu.mu j m q a b
    exact ⟨o, keep _ _ ho, r.le more⟩
  · cases z2 : H1 q with
    | none => exact trk q h z2
    | some u =>
      rw [keep q u z2] at z
      cases z
  · obtain ⟨us, fz, q'⟩ := q'
    obtain ⟨S2, k2⟩ := S1.after (post P)
    obtain ⟨o, ho, mo⟩ := mr
    exact fin (.obj k p us) as' ρ1 μ' H' (.ref p) (q' p) (k1.trans k2) S2 (show RepB B as' ρ1 σ H' _ _ from frozen_rep fz (res_some.mpr ⟨nx, ho⟩) mo).t
  · obtain ⟨S2, k2⟩ := S1.after (post P)
    exact x e' as' ρ1 μ' H' cls dx q' S2 ok
theorem pd_make (hs : B.O.sh = sh) (tg : B.O.tag C = some k) (M : Mk B.K C f) (F : FnI B.O X.prog X.w B.K X.mg X.base k lv f fd ps sp) (hr : Room (lv + 1) X.A) (gua : X.A.guards = some []) (tk : L2N.Takes X B.W) (hg : Gl X x) (hm : X.mg x = some (.ref C)) (hb : Binds B.K fd ps [])
    (ha : PDA X B (e :: es) ra) (hK : X.K = B.K := by rfl) (hdb : (x == ("__debug__" : Str)) = false := by decide) (he : starEach (e :: es) X.env = (false, eval e X.env) :: starEach es X.env := by rfl) (hpl : (backTo pos (starEach es X.env)).any (·.1) = false := by rfl) :
    PD X B (.Call (.Name x pp) (e :: es) [] pos) (rMake sh k sp ra) := by
  refine (pe_makeC (X := X) (E := fun σ => WE B.W σ) (sp := spI B.O B.K k sp) (CX := L2N.CX X.prog X.w) (k := lv) (f := f) (fd := fd) (ps := ps) (C := C) ?_ ?_ hr gua hg hm ?_ (fun σ => L2N.passAt tk σ) ha hdb he hpl).imp fun σ H Q h => lift_make hs tg h
  · rw [hK]; exact M
  · rw [hK]; exact F
  · rw [hK]; exact hb
end
end Dl
namespace JgH
open PySem PySem.Spec PyProof.Rows HotX L2 L2H
/-! ### try: body, several clauses, each with a test of any form, with a name or without -/
abbrev Hd : Type := (Value → Option Bool) × Option Nat × (Addr → Value → Option Addr → TS)
/-- a suite's ways out, its name unbound -/
def offName (D : Ends) : Option Nat → Ends
  | none => D
  | some i => { nx := fun σ' H' => D.nx (σ'.set i none) H', rt := D.rt, bk := fun σ' H' => D.bk (σ'.set i none) H', ct := fun σ' H' => D.ct (σ'.set i none) H' }
def onName (σ : L2.St) (a : Addr) : Option Nat → L2.St
  | none => σ
  | some i => σ.set i (some (.ref a))
def wMulti (Wout : WX) (D : Ends) : List Hd → WX
  | [] => Wout
  | (m, i, ts) :: l => fun cls d σ H => ∃ b, m cls = some b ∧ (b = true → ∀ a, H a = none → ts a cls d (offName D i) (onName σ a i) H) ∧ (b = false → wMulti Wout D l cls d σ H)
inductive NameOk (X : Cx) : Option Str → Option Nat → Prop
  | none : NameOk X none none
  | some {n : Str} {i : Nat} : X.N[i]? = some n → X.env.kindOf n = some .local → NameOk X (some n) (some i)
inductive HdsX (X : Cx) : List ExceptHandler → List Hd → Prop
  | nil : HdsX X [] []
  | cons {T : Expr} {m : Value → Option Bool} {n : Option Str} {i : Option Nat} {ts : Addr → Value → Option Addr → TS} {b₀ : Stmt} {suite : List Stmt} {pos' : Pos} {hds : List ExceptHandler} {l : List Hd} (test : TestOk X T m) (nm : NameOk X n i)
      (hsu : ∀ (a : Addr) (oe : Obj) (cls : Value) (d : Option Addr) (pn : List (Addr × Obj)), L2N.Zn cls d oe → (∃ vs, oe.data = .fields vs) → PSs (X.suite a ((a, oe) :: pn)) (b₀ :: suite) (ts a cls d)) (r : HdsX X hds l) :
      HdsX X (.ExceptHandler (some T) n (b₀ :: suite) pos' :: hds) ((m, i, ts) :: l)
theorem test_one {X : Cx} {x : Str} {c : Value} {p : Pos} (g : Gl X x) (m : X.mg x = some c) (d : (x == ("__debug__" : Str)) = false := by decide) : TestOk X (.Name x p) fun cls => PySem.W.exmOne X.K cls c := by
  intro a pn pins σ H s cls b A Q E1 E2 I LT e q
  exact ld_glob (X := X.suite a pn) I g m ((PySem.W.exm_one I.kIn LT e).here (q _ fun _ _ z => z)) d
section
variable {X : Cx} {body : List Stmt} {h₀ : ExceptHandler} {hds : List ExceptHandler} {l : List Hd} {pos : Pos} {tb : WX → TS} {Wout : WX}
theorem ps_try_multi (hs : X.stack = X.env :: X.outer) (hf : X.env.frame = some X.env.locals) (hN : X.N.Nodup) (tk : L2N.Takes X Wout)
    (hb : ∀ (W : WX) (pn : List (Addr × Obj)) (xe : Value → Shared → Prop), L2N.Takes (X.tr pn xe) W → PassesOwn (model X.prog X.w) X.A X.env xe → PSs (X.tr pn xe) body (tb W))
    (hh : HdsX X (h₀ :: hds) l) : PS X (.Try body (h₀ :: hds) [] [] pos) (fun D σ H => tb (wMulti Wout D l) D σ H) := by
  refine ⟨fun pins s σ H D I h => ?_⟩
  have ok := I.ok
  have fr : X.A.frames = some (X.env :: X.outer) := by rw [ok.frames, hs]
  let catch_ : Value → Shared → Prop := fun e t => wpAny (model X.prog X.w) X.A (noteFrame e X.env) (fun _ t2 => wpAny (model X.prog X.w) X.A (setFlight e none) (fun _ t3 => wpAny (model X.prog X.w) X.A (handleBy e X.env (h₀ :: hds)) (SP X pins D) X.xe t3) X.xe t2) X.xe t
  have caught : L2N.Takes (X.tr (X.pn ++ pins) catch_) (wMulti Wout D l) := by
    rintro u t ⟨a, B, sI, pins', σ', H', cls, d, rfl, J', nb, up, sky, na, os, ag, w⟩
    have J : L2.Inv X pins σ' H' sI := J'.ofTry ok
    have sky : Sky B (X.env :: X.outer) a (L2N.Zn cls d) X.env.locals t.heap := by
      rw [← hs]
      exact sky
    refine L2N.Sky.land (A := X.A) L2N.Zn.steady fr hf sky fun h3 fl3 up3 => ?_
    have go : ∀ {hds' : List ExceptHandler} {l' : List Hd}, HdsX X hds' l' → wMulti Wout D l' cls d σ' H' → ∀ h3 : Heap, HandSPX.FlyingZ B (X.env :: X.outer) a (L2N.Zn cls d) h3 → t.heap.UpToSlots h3 →
        wpAny (model X.prog X.w) X.A (handleBy (.ref a) X.env hds') (SP X pins D) X.xe { t with heap := h3 } := by
      intro hds' l' hk
      induction hk with
      | nil =>
        intro w h3 fl3 up3
        refine wpAny_handleBy_nil ?_
        obtain ⟨k1, k2, k3, oe, vs, T, oT, ts', he, hz, hd, h1, hr⟩ := id fl3
        unfold PySem.passOn
        refine wpAny_bind (wpAny_field he hd h1 ?_)
        rw [if_neg (show ¬ ((Value.ref T == Value.none) = true) from by simp)]
        have fin : wpAny (model X.prog X.w) X.A (setFlight (.ref a) X.env.frame) (fun _ s4 => wpAny (model X.prog X.w) X.A (throw (.ref a) : Sem Flow) (SP X pins D) X.xe s4) X.xe { t with heap := h3 } := by
          rw [hf]
          refine HandSPX.setFlight_upZ fl3 fun h4 hh4 up4 => wpAny_throw (tk _ _ ?_)
          exact ⟨a, B, sI, pins, σ', H', cls, d, rfl, J, nb, (up.trans up3).trans up4, .inr (.inr (by rw [hs]; exact hh4)), na, os, ag, w⟩
        first
          | exact wpAny_bind (wpAny_pure (wpAny_bind fin))
          | exact wpAny_bind fin
      | @cons T m n i ts b₀ suite pos' hds2 l2 test nm hsu r ih =>
        intro w h3 fl3 up3
        obtain ⟨b, met, hyes, hno⟩ := w
        have J3 : L2.Inv X pins σ' H' { t with heap := h3 } := J.landed nb fl3.1 (up.trans up3) os ag
        obtain ⟨oe3, vs3, he3, hz3, hd3⟩ := fl3.there
        have off : ∀ {g : Heap}, HandSPX.FlyingZ B (X.env :: X.outer) a (L2N.Zn cls d) g → a ∉ frs (X.env :: X.outer) := fun {g} fl mem => by
          obtain ⟨o1, v1, e1, _, q1⟩ := fl.there
          obtain ⟨_, o2, e2, no⟩ := fl.2.2.1.mem mem
          rw [e1] at e2
          cases e2
          exact no _ q1
        have out := off fl3
        have nL : a ≠ X.env.locals := fun z => out (List.mem_filterMap.mpr ⟨X.env, List.mem_cons_self, by rw [hf, z]⟩)
        have nF : a ∉ X.fs := fun mem => by
          obtain ⟨e, he, q⟩ := List.mem_filterMap.mp mem
          exact out (List.mem_filterMap.mpr ⟨e, List.mem_cons_of_mem _ he, q⟩)
        have S3 := J3.suite he3 hd3 na nL nF
        refine wpAny_handleBy_cons (codeAny_handlers_test ?_) (fun q => by cases q)
        have LT : PySem.W.Looks (model X.prog X.w) h3 (typeOf (.ref a)) cls := fun A Q E s k q => wpAny_typeOf_ref (k _ _ he3) (by rw [hz3.1]; exact q)
        refine test (s := { t with heap := h3 }) S3 LT met fun g kg => ?_
        have flg := flying_kept fl3 kg
        have upg : t.heap.UpToSlots g := up3.trans (Heap.UpToSlots.of_keeps kg)
        cases b with
        | false =>
          show wpAny _ X.A (handleBy (.ref a) X.env hds2) _ _ _
          exact ih (hno rfl) g flg upg
        | true =>
          have hy := hyes rfl a na
          show codeAny _ _ _ _ _
          cases nm with
          | none =>
            refine codeAny_handlers_suite (HandSPX.lands_againZ (s := { t with heap := g }) flg fun h4 fl4 up4 => ?_)
            have J4 : L2.Inv X pins σ' H' { t with heap := h4 } := J.landed nb fl4.1 ((up.trans upg).trans up4) os ag
            obtain ⟨oe4, vs4, he4, hz4, hd4⟩ := fl4.there
            have S4 := J4.suite he4 hd4 na nL nF
            refine wpAny_mono ((hsu a oe4 cls d (X.pn ++ pins) hz4 ⟨_, hd4⟩).run [] _ _ H' _ S4 hy) (fun f s6 hsp => ?_) (fun _ _ z => False.elim z)
            cases f with
            | next =>
              obtain ⟨σ6, H6, S6, q6⟩ := hsp
              exact ⟨_, _, S6.unsuite ok, q6⟩
            | brk =>
              obtain ⟨σ6, H6, S6, q6⟩ := hsp
              exact ⟨_, _, S6.unsuite ok, q6⟩
            | cont =>
              obtain ⟨σ6, H6, S6, q6⟩ := hsp
              exact ⟨_, _, S6.unsuite ok, q6⟩
            | ret u =>
              obtain ⟨v6, σ6, H6, S6, r6, q6⟩ := hsp
              exact ⟨_, _, _, S6.unsuite ok, r6, q6⟩
          | @some nn j hi hln =>
            refine codeAny_handlers_suite_as (HandSPX.lands_againZ (s := { t with heap := g }) flg fun h4 fl4 up4 => ?_)
            have J4 : L2.Inv X pins σ' H' { t with heap := h4 } := J.landed nb fl4.1 ((up.trans upg).trans up4) os ag
            obtain ⟨oe4, vs4, he4, hz4, hd4⟩ := fl4.there
            have S4 := J4.suite he4 hd4 na nL nF
            refine store_ok (X := X.suite a ((a, oe4) :: (X.pn ++ pins))) (v := .ref a) S4 hN hi (.inl hln) rfl (fun s5 S5 => ?_) (.inr hln)
            refine wpAny_mono ((hsu a oe4 cls d (X.pn ++ pins) hz4 ⟨_, hd4⟩).run [] s5 _ H' _ S5 hy) (fun f s6 hsp => ?_) (fun _ _ z => False.elim z)
            have gone : ∀ {σ6 : L2.St} {H6 : Hp} {Q : Shared → Prop}, L2.Inv (X.suite a ((a, oe4) :: (X.pn ++ pins))) [] σ6 H6 s6 → (∀ s7, L2.Inv X pins (σ6.set j none) H6 s7 → Q s7) →
                wpAny (model X.prog X.w) X.A (do bindName X.env nn .none; unbindBehindTheSuite X.env nn pos') (fun _ s7 => Q s7) X.xe s6 := fun {σ6 H6 Q} S6 hq => gone_ok (S6.unsuite ok) hN hi hln hq
            cases f with
            | ret u =>
              obtain ⟨v6, σ6, H6, S6, r6, q6⟩ := hsp
              exact gone S6 fun s7 J7 => ⟨_, _, _, J7, r6, q6⟩
            | next =>
              obtain ⟨σ6, H6, S6, q6⟩ := hsp
              exact gone S6 fun s7 J7 => ⟨_, _, J7, q6⟩
            | brk =>
              obtain ⟨σ6, H6, S6, q6⟩ := hsp
              exact gone S6 fun s7 J7 => ⟨_, _, J7, q6⟩
            | cont =>
              obtain ⟨σ6, H6, S6, q6⟩ := hsp
              exact gone S6 fun s7 J7 => ⟨_, _, J7, q6⟩
    exact go hh w h3 fl3 up3
  refine wpAny_Try_except (wpAny_mono ((hb (wMulti Wout D l) (X.pn ++ pins) catch_ caught PassesOwn.looking).run [] s σ H D (I.toTry _) h) (fun f s1 hsp => ?_) (fun e s1 he => he))
  cases f with
  | ret u =>
    obtain ⟨v, σ', H', J', r, q⟩ := hsp
    exact ⟨v, σ', H', J'.ofTry ok, r, q⟩
  | next =>
    obtain ⟨σ', H', J', q⟩ := hsp
    exact wpAny_execs_nil ⟨σ', H', J'.ofTry ok, q⟩
  | brk =>
    obtain ⟨σ', H', J', q⟩ := hsp
    exact ⟨σ', H', J'.ofTry ok, q⟩
  | cont =>
    obtain ⟨σ', H', J', q⟩ := hsp
    exact ⟨σ', H', J'.ofTry ok, q⟩
end
end JgH
namespace JgX
open PySem PySem.W PySem.Calls PyProof.Rows PySem.Spec L2
/-! ### many classes of exceptions: who is under whom, by one table -/
section
variable {K : Frag} {C D : Addr} {bm : List Value}
/-- the written part has a class at C, and these stand above it -/
structure Cl (K : Frag) (C : Addr) (bm : List Value) : Prop where
  ex : ∃ cd, clsIn K C = some cd ∧ cd.mro = .ref C :: bm
  ty : typeIn K (.ref C) = some (.type "type")
theorem cl_mk {nm q : Str} {N : Addr} {bs sub : List Value} {hd ab : Bool} {sn : List Str} {col : Option Bool} {dd : Option Addr} {k0 k1 k2 k3 k5 : Option Value} {newId : String}
    (l : K.lookup C = some (excClassObj nm q C N bs bm hd sn sub ab col dd k0 k1 k2 k3 k5 newId)) (t : typeIn K (.ref C) = some (.type "type")) : Cl K C bm :=
  ⟨⟨_, by unfold clsIn; rw [l], rfl⟩, t⟩
theorem Cl.sub (h : Cl K C bm) (v : Value) : subIn K (.ref C) v = some ((Value.ref C :: bm).contains v) := by
  obtain ⟨cd, e, m⟩ := h.ex
  show mroIn K C v = _
  unfold mroIn
  rw [e]
  show (if cd.mro.isEmpty then none else some (cd.mro.contains v)) = _
  rw [m]
  rfl
theorem Cl.ref {bm' : List Value} (h : Cl K C bm) (g : Cl K D bm') : kitOne K (.ref C) (.ref D) = some ((Value.ref C :: bm).contains (.ref D)) := by
  unfold kitOne
  by_cases e : (Value.ref C == Value.ref D) = true
  · rw [if_pos e]
    have e' : Value.ref C = .ref D := beq_iff_eq.mp e
    rw [← e', List.contains_cons, beq_self_eq_true, Bool.true_or]
  · rw [if_neg e]
    obtain ⟨cd, x, m⟩ := g.ex
    show (if ((clsIn K D).isSome && typeIn K (.ref D) == some (.type "type")) = true then subIn K (.ref C) (.ref D) else none) = _
    rw [x, g.ty, if_pos (by rfl), h.sub]
theorem Cl.type (h : Cl K C bm) {T : String} (t : kitMeta T = true) : kitOne K (.ref C) (.type T) = some ((Value.ref C :: bm).contains (.type T)) := by
  unfold kitOne
  rw [if_neg (by simp)]
  show (if kitMeta T = true then subIn K (.ref C) (.type T) else none) = _
  rw [if_pos t, h.sub]
end
/-- rows of classes, each with what stands above it; the last ones are the families, and fam tells whose is whose -/
theorem kin_at {fam : Nat → Nat} {rows : List (Addr × List Value)} (h : kinTab fam rows = true) {i j : Nat} {C D : Addr} {bm bm' : List Value} (a : rows[i]? = some (C, bm)) (b : rows[j]? = some (D, bm')) :
    (Value.ref C :: bm).contains (.ref D) = (decide (i = j) || decide (fam i = j)) := by
  unfold kinTab at h
  rw [List.all_eq_true] at h
  have ha : ((C, bm), i) ∈ rows.zipIdx := by
    rw [List.mem_zipIdx_iff_getElem?]
    exact a
  have hb : ((D, bm'), j) ∈ rows.zipIdx := by
    rw [List.mem_zipIdx_iff_getElem?]
    exact b
  have h1 := h _ ha
  rw [List.all_eq_true] at h1
  exact beq_iff_eq.mp (h1 _ hb)
/-- all rows are classes of the written part -/
def Cls (K : Frag) (rows : List (Addr × List Value)) : Prop := ∀ (i : Nat) (C : Addr) (bm : List Value), rows[i]? = some (C, bm) → Cl K C bm
theorem cls_nil {K : Frag} : Cls K [] := fun i C bm h => by cases h
theorem cls_cons {K : Frag} {C : Addr} {bm : List Value} {rows : List (Addr × List Value)} (h : Cl K C bm) (t : Cls K rows) : Cls K ((C, bm) :: rows) := fun i D bm' e => by
  cases i with
  | zero =>
    cases e
    exact h
  | succ i => exact t i D bm' e
theorem cls_kit {K : Frag} {fam : Nat → Nat} {rows : List (Addr × List Value)} (c : Cls K rows) (h : kinTab fam rows = true) {i j : Nat} {C D : Addr} {bm bm' : List Value} (a : rows[i]? = some (C, bm)) (b : rows[j]? = some (D, bm')) :
    kitOne K (.ref C) (.ref D) = some (decide (i = j) || decide (fam i = j)) := by
  rw [(c i C bm a).ref (c j D bm' b), kin_at h a b]
/-- the classes of Python that each one stands under -/
theorem cls_ty {K : Frag} {T : String} {under : Nat → Bool} {rows : List (Addr × List Value)} (c : Cls K rows) (t : kitMeta T = true) (h : tyTab T under rows = true) {i : Nat} {C : Addr} {bm : List Value} (a : rows[i]? = some (C, bm)) :
    kitOne K (.ref C) (.type T) = some (under i) := by
  rw [(c i C bm a).type t]
  unfold tyTab at h
  rw [List.all_eq_true] at h
  have ha : ((C, bm), i) ∈ rows.zipIdx := by
    rw [List.mem_zipIdx_iff_getElem?]
    exact a
  exact congrArg some (beq_iff_eq.mp (h _ ha))
/-! ### what is said of one class -/
structure CT (P : Program) (K : Frag) (mg : Str → Option Value) (C I : Addr) (fd : FuncData) (nm qual field : Str) (B newId i : String) (bmB : List Value) (st : Stmt) : Prop where
  x : XC K C B newId i bmB
  y : XFn P K C I fd qual (defArgs st) (defBody st) (defScope st)
  n : findIn K (.ref C) field = some none
  c : mg nm = some (.ref C)
  xa : XA K C
theorem XFn.bindsK {P : Program} {K : Frag} {C fI : Addr} {fd : FuncData} {qual par : Str} {params : Arguments} {body : List Stmt} {scope : Scope} (S : XFn P K C fI fd qual params body scope)
    (h : ∀ (nm : Str) (cc cda : Addr) (kV doc pm ct : Value) (an : Option Addr) (a v : Value), bindArgs (ksFn nm qual params body scope .none kV doc pm an (.ref cda) ct cc) ⟨[a], [(par, v)]⟩ = pure [(("self" : Str), a), (par, v)]) :
    ∀ (s : Shared) (a v : Value), K.In s.heap → BindsTo s fd ⟨[a], [(par, v)]⟩ [(("self" : Str), a), (par, v)] := by
  obtain ⟨nm, cc, cda, oc, kV, doc, pm, ct, ccl, cl, od, an, cdd, cld, osl, ccs, csl, vs, file, tf, rfl, _⟩ := S.ex
  exact fun s a v _ => BindsTo.of_eq (h nm cc cda kV doc pm ct an a v)
/-- an __init__ without a parameter, as it stands in the text -/
structure XSn (st : Stmt) (text : Str) : Prop where
  ex : ∃ (j : Nat) (p0 p1 p2 p3 p4 : Pos), defBody st = [.Expr (.Call (.Attribute (.Call (.Name "super" p0) [] [] p1) "__init__" p2) [.Constant (.str text) j p3] [] p4) p4] ∧
    (∀ en : Env, ∃ pl : Sem Bool, eval (.Call (.Attribute (.Call (.Name "super" p0) [] [] p1) "__init__" p2) [.Constant (.str text) j p3] [] p4) en = (do
      let ov ← attributeBase (.Call (.Name "super" p0) [] [] p1) "__init__" en (eval (.Call (.Name "super" p0) [] [] p1) en)
      standAt p2.atName
      let (f, first) ← holding [ov] (getMethod ov "__init__" pl)
      callWith p4 f first (backTo p4 (starEach [.Constant (.str text) j p3] en)) [])) ∧
    (∀ en : Env, swapsWith (.Call (.Attribute (.Call (.Name "super" p0) [] [] p1) "__init__" p2) [.Constant (.str text) j p3] [] p4) none p4.line en = pure false)
  ks : (defScope st).names.lookup ("super" : Str) = some .globalImplicit
  kc : (defScope st).names.lookup ("__class__" : Str) = some .free
  kself : (defScope st).names.lookup ("self" : Str) = some .local
  kind : (defScope st).kind = .function
  cell : ∀ x ∈ (defScope st).names, x.2 ≠ .cell
  co : (defScope st).isCoroutine = false
  gen : (defScope st).isGenerator = false
  par0 : ∃ ar, ((defArgs st).posonlyargs ++ (defArgs st).args).head? = some ar ∧ ar.arg = ("self" : Str)
theorem no_st {P : Program} {w : World} {K : Frag} {mg : Str → Option Value} {base : Heap} {CX : CXT} {k : Nat} {B newId i : String} {bmB : List Value} {C fI : Addr} {fd : FuncData} {qual text : Str} {st : Stmt} (X : XBase B newId i bmB) (T : XC K C B newId i bmB)
    (S : XFn P K C fI fd qual (defArgs st) (defBody st) (defScope st)) (Z : XSn st text) (opq : nsIn K cStatics "thirdparty.any" = some none) (msup : mg "super" = none)
    (htop : (P.main.scope.names.lookup ("super" : Str)).isSome = false) : FnOk P w K mg base CX (k + 1) fI fd [("self" : Str)] (xNo C) := by
  obtain ⟨j, p0, p1, p2, p3, p4, eb, hev, hsx⟩ := Z.ex
  rw [eb] at S
  exact init_no X T S opq msup htop Z.ks Z.kc Z.kself Z.kind Z.cell Z.co Z.gen Z.par0 hev hsx
/-- v is an exception of the class at C, made and kept -/
def Ex (H : Hp) (v : V) (C : Addr) : Prop := ∃ a, v = .ref a ∧ ((∃ z fs, KxF H a C z fs) ∨ H a = some (exo a C none))
theorem Ex.all {H H' : Hp} {v : V} {C : Addr} (s : All H H') (h : Ex H v C) : Ex H' v C := by
  obtain ⟨a, rfl, ⟨z, fs, h⟩ | h⟩ := h
  · exact ⟨a, rfl, Or.inl ⟨z, fs, h.all s⟩⟩
  · exact ⟨a, rfl, Or.inr (s _ _ h)⟩
theorem g_isi3 {K : Frag} {H : Hp} {v c : V} {u : Value} {C : Addr} {b : Bool} {Q : VK} (e : Ex H v C) (xa : XA K C) (k : ClsV c u) (h : kitOne K (.ref C) u = some b) (q : Q (.bl b) H) : rEith (rEith (rIsi K) (rIsiX K)) (rIsiO K) [v, c] H Q := by
  obtain ⟨a, rfl, ⟨z, fs, x⟩ | x⟩ := e
  · exact Or.inl (Or.inr ⟨a, C, c, u, b, rfl, k, Or.inr ⟨z, x.kx⟩, xa, h, q⟩)
  · exact Or.inr ⟨a, C, c, u, b, rfl, k, x, xa, h, q⟩
/-! ### one class by what the written part says of it -/
section
variable {P : Program} {K : Frag} {mg : Str → Option Value} {C I N cc cda : Addr} {B newId i : String} {bmB bs bm sub : List Value} {nm nmx qual q field : Str} {sn : List Str} {ab : Bool} {col : Option Bool} {dd : Option Addr} {k0 k1 k2 k3 k5 : Option Value}
theorem cl_ty (l : K.lookup C = some (excClassObj nm q C N bs bm true sn sub ab col dd k0 k1 k2 k3 k5 newId)) : typeIn K (.ref C) = some (.type "type") := by
  show (K.lookup C).map (·.cls) = _
  rw [l]
  rfl
theorem cl_tail (l : K.lookup C = some (excClassObj nm q C N bs bm true sn sub ab col dd k0 k1 k2 k3 k5 newId)) (t : excTail bmB bm = true) {T : String} (h : bmB.contains (.type T) = true) : subIn K (.ref C) (.type T) = some true := by
  rw [(cl_mk l (cl_ty l)).sub, List.contains_cons, tail_contains t, h, Bool.or_true]
theorem cl_xa (l : K.lookup C = some (excClassObj nm q C N bs bm true sn sub ab col dd k0 k1 k2 k3 k5 newId)) (t : excTail bmB bm = true) (hX : bmB.contains (.type "BaseException") = true) (hO : bmB.contains (.type "object") = true)
    (ga : findIn K (.ref C) "__getattribute__" = some (some (.builtin "BaseException.__getattribute__"))) (gg : findIn K (.ref C) "__getattr__" = some none)
    (ha : findIn K (.ref C) "__class__" = some (some (.builtin "object.__class__"))) (hn : specialIn K (.builtin "object.__class__") "__get__" = some (some (.builtin "getset_descriptor.__get__"))) (tk : takesIn K (.builtin "object.__class__") = some true) : XA K C := by
  have hc : (clsIn K C).isSome = true := by
    unfold clsIn
    rw [l]
    rfl
  have hd : hasDictIn K C = true := by
    unfold hasDictIn clsIn
    rw [l]
    rfl
  exact ⟨⟨ga, gg, cl_tail l t hX, hd⟩, hc, ha, hn, tk, cl_tail l t hO⟩
theorem ct_mk {st : Stmt} {oc kV doc pm ct ccl cl : Value} {od an cdd cld : Option Addr} {osl ccs csl : Array (Option Value)} {vs : Array Value} {file : Str} {tf : Tok}
    (l : K.lookup C = some (excClassObj nm q C N bs bm true sn sub ab col dd k0 k1 k2 k3 k5 newId)) (t : excTail bmB bm = true) (hX : bmB.contains (.type "BaseException") = true) (hO : bmB.contains (.type "object") = true) (hB : bmB.contains (.type B) = true)
    (ga : findIn K (.ref C) "__getattribute__" = some (some (.builtin "BaseException.__getattribute__"))) (gg : findIn K (.ref C) "__getattr__" = some none)
    (ha : findIn K (.ref C) "__class__" = some (some (.builtin "object.__class__"))) (hn : specialIn K (.builtin "object.__class__") "__get__" = some (some (.builtin "getset_descriptor.__get__"))) (tk : takesIn K (.builtin "object.__class__") = some true)
    (sa : findIn K (.ref C) "__setattr__" = some (some (.builtin "object.__setattr__"))) (kC : keepIn K (.ref C) = true) (su : ks_superIn K C C "__init__" = some (some (.builtin i)))
    (lI : K.lookup I = some ⟨oc, od, .func (ksFn nmx qual (defArgs st) (defBody st) (defScope st) .none kV doc pm an (.ref cda) ct cc), osl⟩) (hcd : codeIn K (.ref cda) qual = true) (lcd : K.lookup cda = some ⟨ccl, cdd, .fields vs, ccs⟩) (hv2 : vs[2]? = some (.str file tf))
    (hfile : ((P.main.file : Str) == file) = true) (lcc : K.lookup cc = some ⟨cl, cld, .cell (some (.ref C)), csl⟩) (iC : findIn K (.ref C) "__init__" = some (some (.ref I))) (tI : typeIn K (.ref I) = some (.type "function"))
    (nf : findIn K (.ref C) field = some none) {cn : Str} (c : mg cn = some (.ref C)) :
    CT P K mg C I (ksFn nmx qual (defArgs st) (defBody st) (defScope st) .none kV doc pm an (.ref cda) ct cc) cn qual field B newId i bmB st :=
  ⟨xc_mk l t sa (cl_tail l t hX) (cl_ty l) kC su (cl_tail l t hB), xfn_mk lI hcd lcd hv2 hfile lcc iC tI, nf, c, cl_xa l t hX hO ga gg ha hn tk⟩
theorem pl_mk (l : K.lookup C = some (excClassObj nm q C N bs bm true sn sub ab col dd k0 k1 k2 k3 k5 newId)) (t : excTail bmB bm = true) (kC : keepIn K (.ref C) = true) (ini : findIn K (.ref C) "__init__" = some (some (.builtin i))) : Plain K C B newId i bmB :=
  ⟨⟨nm, q, N, bs, bm, sn, sub, ab, col, dd, k0, k1, k2, k3, k5, l, t⟩, kC, ini⟩
end
end JgX
namespace Dl
open PySem PySem.Spec PyProof.Rows L2
section
variable {B : Par} {X : Cx} {as as' as1 : List Addr} {ρ ρ' ρ1 : Rho} {μ μ' μ1 : Mu} {σ σ' : L2.St} {H H' H1 Hv : Hp} {v w : V} {d d' : D} {i : Nat} {p : Addr} {o : HO} {vs : List V} {ds : List D}
/-! ### raise C(e) -/
def rRaise (c : Nat) (f : Str) (ra : DA) : DS := fun N ρ μ => ra ρ μ (fun ds ρ1 μ1 => ∃ d ρ2 d2, ds = [d] ∧ stow ρ1 d = some (ρ2, d2) ∧ N.ex ⟨c, [(f, d2)]⟩ ρ2 μ1) N.ex
theorem pds_raise {c : Nat} {C : Addr} {f : Str} {ra : DA} {call e : Expr} {pos : Pos} (hc : X.calm = true) (tk : L2N.Takes X B.W) (tg : B.O.etag C = some c) (ha : PDA X B [e] ra) (mk : PA X [e] (LA B ra) → L2N.PMk X call (tMkO C (JgX.xInit C f) [] (LA B ra))) :
    PDS X B (.Raise (some call) none pos) (rRaise c f ra) := (L2N.ps_raise hc tk (mk ha)).imp fun E σ H h => by
  obtain ⟨as, ρ, μ, N, S, q, g⟩ := h
  refine JgX.g_mkO ⟨as, ρ, μ, _, _, S, q, g.ex σ, fun ds as1 ρ1 μ1 H1 vs q1 k1 S1 t1 => ?_⟩
  obtain ⟨d, ρ2, d2, rfl, e2, q1⟩ := q1
  obtain ⟨v, rfl, r⟩ := RepTsB.one t1
  obtain ⟨S2, r2, k2⟩ := S1.stow r e2
  refine JgX.g_mkX (Q := fun cls d H' => B.W cls d σ H') fun dx hdx => ?_
  have up := ext_lay (o := HO.xd [(f, v)]) hdx
  have S3 : SimB B as1 ρ2 μ1 σ (upd H1 dx (.xd [(f, v)])) := S2.ext up
  refine g.ex σ _ as1 ρ2 μ1 _ _ _ q1 S3 ⟨C, rfl, tg, Or.inr ⟨dx, [(f, v)], rfl, res_some.mpr ⟨S2.sight hdx, upd_same⟩, rfl, .cons (r2.le (res_ext up)) .nil⟩⟩
/-! ### try -/
structure HdR where
  test : Nat → Option Bool
  slot : Option Nat
  run : Exn → Addr → DS
def offN (N : DN) : Option Nat → DN
  | none => { N with ex := never }
  | some i => { nx := fun ρ μ => N.nx (ρ.set i .unk) μ, rt := N.rt, bk := fun ρ μ => N.bk (ρ.set i .unk) μ, ct := fun ρ μ => N.ct (ρ.set i .unk) μ, ex := never }
def onN (ρ : Rho) (a : Addr) : Option Nat → Rho
  | none => ρ
  | some i => ρ.set i (.val (.adr a))
def hdl : List HdR → DN → KX
  | [], N => N.ex
  | h :: l, N => fun e ρ μ => match h.test e.c with
    | some true => ∀ a, h.run e a (offN N h.slot) (onN ρ a h.slot) μ
    | some false => hdl l N e ρ μ
    | none => False
def rTry (rb : DS) (hs : List HdR) : DS := fun N ρ μ => rb { N with ex := hdl hs N } ρ μ
/-- the handled exception is told by these pins -/
def ExPin (O : Objs) (cls : Value) (dx : Option Addr) (e : Exn) (ps : List Pin) : Prop :=
  ∃ C, cls = .ref C ∧ O.etag C = some e.c ∧ ((dx = none ∧ e.fs = []) ∨ ∃ a fs, dx = some a ∧ .raw a (.xd fs) ∈ ps ∧ fs.map (·.1) = e.fs.map (·.1) ∧ ∀ q ∈ repPins (fs.map (·.2)) (e.fs.map (·.2)), q ∈ ps)
abbrev Par.suite (B : Par) (ps : List Pin) : Par := ⟨B.O, B.K, { B.fm with P := ps ++ B.fm.P }, WNo⟩
inductive HdD (X : Cx) (B : Par) : List ExceptHandler → List HdR → Prop
  | nil : HdD X B [] []
  | cons {T : Expr} {m : Value → Option Bool} {n : Option Str} {h : HdR} {b₀ : Stmt} {suite : List Stmt} {pos' : Pos} {hds : List ExceptHandler} {l : List HdR} (test : JgH.TestOk X T m) (tm : ∀ C c b, B.O.etag C = some c → h.test c = some b → m (.ref C) = some b) (nm : JgH.NameOk X n h.slot)
      (hsu : ∀ (a : Addr) (oe : Obj) (cls : Value) (d : Option Addr) (pn : List (Addr × Obj)) (e : Exn) (ps : List Pin), L2N.Zn cls d oe → (∃ vs, oe.data = .fields vs) → ExPin B.O cls d e ps → h.test e.c = some true → PDSs (X.suite a ((a, oe) :: pn)) (B.suite ps) (b₀ :: suite) (h.run e a)) (r : HdD X B hds l) :
      HdD X B (.ExceptHandler (some T) n (b₀ :: suite) pos' :: hds) (h :: l)
def psOf (H : Hp) (dx : Option Addr) (e : Exn) : List Pin := match dx with
  | none => []
  | some a => (match H a with
    | some (.xd fs) => Pin.raw a (.xd fs) :: repPins (fs.map (·.2)) (e.fs.map (·.2))
    | _ => [])
/-- a suite's reading by values -/
def tSuite (B : Par) (h : HdR) : Addr → Value → Option Addr → TS := fun a cls d E σ H => ∃ (e : Exn) (ps : List Pin), ExPin B.O cls d e ps ∧ h.test e.c = some true ∧ LS (B.suite ps) (h.run e a) E σ H
theorem hd_reads {hds : List ExceptHandler} {l : List HdR} (hk : HdD X B hds l) : ∃ l' : List JgH.Hd, JgH.HdsX X hds l' ∧
    ∀ (N : DN) (E : Ends) (σ : L2.St), Goes B N E → ∀ e as ρ μ H cls dx, hdl l N e ρ μ → SimB B as ρ μ σ H → ExOk B as (vis B as ρ σ H) cls dx e → JgH.wMulti B.W E l' cls dx σ H := by
  induction hk with
  | nil => exact ⟨[], .nil, fun N E σ g => g.ex σ⟩
  | @cons T m n h b₀ suite pos' hds l test tm nm hsu r ih =>
    obtain ⟨l', hx, ih⟩ := ih
    refine ⟨(m, h.slot, tSuite B h) :: l', .cons test nm (fun a oe cls d pn hz hf => ⟨fun pins s σ H E I ⟨e, ps, hp, ht, q⟩ => L2.PSs.run (hsu a oe cls d pn e ps hz hf hp ht) pins s σ H E I q⟩) hx, fun N E σ g e as ρ μ H cls dx q S ok => ?_⟩
    obtain ⟨C, rfl, tg, hd⟩ := id ok
    have q' : (match h.test e.c with
      | some true => ∀ a, h.run e a (offN N h.slot) (onN ρ a h.slot) μ
      | some false => hdl l N e ρ μ
      | none => False) := q
    cases ht : h.test e.c with
    | none => rw [ht] at q'; exact q'.elim
    | some b =>
      rw [ht] at q'
      refine ⟨b, tm C e.c b tg ht, fun hb a na => ?_, fun hb => ?_⟩
      · subst hb
        let ps : List Pin := psOf H dx e
        have hps : ExPin B.O (.ref C) dx e ps ∧ ∀ q ∈ ps, PinOk B.O B.K as (vis B as ρ σ H) q := by
          rcases hd with ⟨rfl, h2⟩ | ⟨a, fs, rfl, h2, h3, h4⟩
          · refine ⟨⟨C, rfl, tg, Or.inl ⟨rfl, h2⟩⟩, fun z hz => ?_⟩
            have e0 : ps = [] := rfl
            rw [e0] at hz
            cases hz
          · have h2' := res_sub _ _ h2
            have eps : ps = .raw a (.xd fs) :: repPins (fs.map (·.2)) (e.fs.map (·.2)) := by
              show psOf H (some a) e = _
              unfold psOf
              dsimp only
              rw [h2']
            rw [eps]
            refine ⟨⟨C, rfl, tg, Or.inr ⟨a, fs, rfl, List.mem_cons_self, h3, fun z hz => List.mem_cons_of_mem _ hz⟩⟩, fun z hz => ?_⟩
            rcases List.mem_cons.mp hz with rfl | hz
            · exact ⟨h2, rfl⟩
            · exact rep_pins h4 z hz
        have S1 : SimB (B.suite ps) as ρ μ σ H := SimB.pinned S hps.2
        have un : ∀ {as' : List Addr} {ρ' : Rho} {μ' : Mu} {σ' : L2.St} {H' : Hp}, SimB (B.suite ps) as' ρ' μ' σ' H' → SimB B as' ρ' μ' σ' H' := fun S => SimB.unpinned (B := B) (ps := ps) S
        refine ⟨e, ps, hps.1, ht, ?_⟩
        cases hsl : h.slot with
        | none =>
          rw [hsl] at q'
          exact ⟨as, ρ, μ, _, S1, q' a, ⟨fun as ρ μ σ H S q => g.nx as ρ μ σ H (un S) q, fun as ρ μ σ H v d S r q => g.rt as ρ μ σ H v d (un S) r q, fun as ρ μ σ H S q => g.bk as ρ μ σ H (un S) q, fun as ρ μ σ H S q => g.ct as ρ μ σ H (un S) q, fun _ _ _ _ _ _ _ _ z => z.elim⟩⟩
        | some i =>
          rw [hsl] at q'
          have S2 : SimB (B.suite ps) as (ρ.set i (.val (.adr a))) μ (σ.set i (some (.ref a))) H := S1.setD (.adr a)
          exact ⟨as, _, μ, _, S2, q' a, ⟨fun as ρ μ σ H S q => g.nx as _ μ _ H (Sim.forget (un S)) q, fun as ρ μ σ H v d S r q => g.rt as ρ μ σ H v d (un S) r q, fun as ρ μ σ H S q => g.bk as _ μ _ H (Sim.forget (un S)) q, fun as ρ μ σ H S q => g.ct as _ μ _ H (Sim.forget (un S)) q, fun _ _ _ _ _ _ _ _ z => z.elim⟩⟩
      · subst hb
        exact ih N E σ g e as ρ μ H (.ref C) dx q' S ok
theorem pds_try {body : List Stmt} {h₀ : ExceptHandler} {hds : List ExceptHandler} {l : List HdR} {pos : Pos} {rb : DS} (hs : X.stack = X.env :: X.outer) (hf : X.env.frame = some X.env.locals) (hN : X.N.Nodup) (tk : L2N.Takes X B.W)
    (hb : ∀ (W : WX) (pn : List (Addr × Obj)) (xe : Value → Shared → Prop), L2N.Takes (X.tr pn xe) W → PassesOwn (model X.prog X.w) X.A X.env xe → PDSs (X.tr pn xe) (B.with B.fm W) body rb) (hh : HdD X B (h₀ :: hds) l) :
    PDS X B (.Try body (h₀ :: hds) [] [] pos) (rTry rb l) := by
  obtain ⟨l', hx, rd⟩ := hd_reads hh
  refine (JgH.ps_try_multi (tb := fun W => LS (B.with B.fm W) rb) hs hf hN tk hb hx).imp fun E σ H h => ?_
  obtain ⟨as, ρ, μ, N, S, q, g⟩ := h
  exact ⟨as, ρ, μ, _, S, q, ⟨g.nx, g.rt, g.bk, g.ct, fun σ e as ρ μ H cls dx q S ok => rd N E σ g e as ρ μ H cls dx q S ok⟩⟩
/-! ### e.f of the handled one -/
def rXf (e : Exn) (a : Addr) (ra : DE) (f : Str) : DE := fun ρ μ Φ Ψ => ra ρ μ (fun x ρ1 μ1 => x = .adr a ∧ ∃ d, e.fs.lookup f = some d ∧ Φ d ρ1 μ1) Ψ
theorem pins_pair {ps : List Pin} (S : SimB (B.suite ps) as ρ μ σ H) : ∀ {fs : List (Str × V)} {es : List (Str × D)} {f : Str} {d : D}, fs.map (·.1) = es.map (·.1) → (∀ q ∈ repPins (fs.map (·.2)) (es.map (·.2)), q ∈ ps) → es.lookup f = some d →
    ∃ v, fs.lookup f = some v ∧ RepB (B.suite ps) as ρ σ H v d := fun {fs es f d} e hp h => by
  have rs : Reps B.O B.K as (vis (B.suite ps) as ρ σ H) (fs.map (·.2)) (es.map (·.2)) := pins_rep (by
    have := congrArg List.length e
    simpa using this) fun z hz => S.pin z (List.mem_append_left _ (hp z hz))
  exact pair_field e rs h
theorem pd_xf {a : Addr} {oe : Obj} {cls : Value} {dd : Option Addr} {pn : List (Addr × Obj)} {e : Exn} {ps : List Pin} {en : Expr} {ra : DE} {f : Str} {pos : Pos} (hz : L2N.Zn cls dd oe) (hf : ∃ vs, oe.data = .fields vs) (hp : ExPin B.O cls dd e ps)
    (kx : ∀ C, B.O.etag C = some e.c → L2.XfC B.K C ∧ PySem.W.findIn B.K (.ref C) f = some none)
    (h : PD (X.suite a ((a, oe) :: pn)) (B.suite ps) en ra) (hb : attributeBase en f (X.suite a ((a, oe) :: pn)).env (eval en (X.suite a ((a, oe) :: pn)).env) = eval en (X.suite a ((a, oe) :: pn)).env := by rfl) (hK : X.K = B.K := by rfl) :
    PD (X.suite a ((a, oe) :: pn)) (B.suite ps) (.Attribute en f pos) (rXf e a ra f) := (JgH.pe_xfA (K := B.K) (pos := pos) (n := f) List.mem_cons_self hz.1 hz.2.1 hf h hb hK).imp fun σ H Q h => by
  obtain ⟨as, ρ, μ, Φ, Ψ, S, r, x, fin⟩ := h
  refine ⟨as, ρ, μ, _, Ψ, S, r, x, fun d1 as1 ρ1 μ1 H1 v1 q1 k1 S1 t1 => ?_⟩
  obtain ⟨rfl, d, e2, q1⟩ := q1
  cases t1.adr
  obtain ⟨C, rfl, tg, hd⟩ := hp
  rcases hd with ⟨rfl, h2⟩ | ⟨dx, fs, rfl, h2, h3, h4⟩
  · rw [h2] at e2
    cases e2
  · obtain ⟨v, l, rv⟩ := pins_pair (B := B) S1 h3 h4 e2
    have hraw : PinOk B.O B.K as1 (vis (B.suite ps) as1 ρ1 σ H1) (.raw dx (.xd fs)) := S1.pin _ (List.mem_append_left _ h2)
    obtain ⟨k1', k2'⟩ := kx C tg
    exact ⟨C, dx, fs, v, rfl, rfl, rfl, res_sub _ _ hraw.1, k1', k2', l, fin d as1 ρ1 μ1 H1 v q1 k1 S1 rv.t⟩
end
end Dl
namespace JgS
open PySem PySem.Spec PyProof.Rows L2 PpSet
/-! ### {key for .. in ..}: a set of whole numbers and texts, and how many there are -/
section
variable {X : Cx} {pins : List (Addr × Obj)} {σ : L2.St} {H : Hp} {s : Shared}
/-- what stands where a new set was laid -/
abbrev newSet0 (w : World) : Obj := { cls := .type "set", dict := none, data := .set #[] 0 (.fresh 0 0 (!w.params.followText "set-order")) }
theorem keys_fresh {P : Program} {w : World} {h : Heap} : (h.push (newSet0 w)).SetOf (mixKind P w) h.objs.size (fun _ => false) 0 :=
  ⟨_, #[], 0, _, Heap.get?_push_size _ rfl, ⟨rfl, rfl, rfl⟩, rfl, (fun e he => by simp at he), (fun k => by simp), (by decide), (by rfl), rfl⟩
theorem addK_ok {E : Value → Shared → Prop} {D : Addr} {S : Key → Bool} {n : Nat} {k : Key} {u : Value} {Q : Value → Shared → Prop} (I : Inv X pins σ H s) (hD : H D = some (SetK X.prog X.w D S n)) (room : n + 1 < scanBound) (r : RelV (kV k) u)
    (h : ∀ t, Inv X pins σ (upd H D (SetK X.prog X.w D (fun j => S j || decide (j = k)) (if S k = true then n else n + 1))) t → Q .none t) : wpAny (model X.prog X.w) X.A (call (.builtin "set.add") [.ref D, u]) Q E s := by
  refine call_set_add (kV_is r) (key_scan r) (setK_get I hD) room fun h' sb new => ?_
  have he : ∃ o, h'.get? D = some o := by
    obtain ⟨o, _, _, _, ho, _⟩ := new
    exact ⟨o, ho⟩
  exact h _ (I.write (e := D) (t' := s.toks + 1) (by rw [hD]; trivial) (.inl rfl) (fun b o hb ho => (sb.2 b hb).trans ho) he (setK_new new))
/-- the reading: D is the new set -/
def tScK (P : Program) (w : World) (wi : TI) (g : TG) (tt : TT) (te : TE) (vs : List Nat) : TE := fun σ H Q => wi σ H fun J H1 => ∀ D, H1 D = none → ∃ W : Nat → Nat → Hp → Prop, (∃ m, W 0 m (upd H1 D (SetK P w D (fun _ => false) 0))) ∧
  ∀ i m H, W i m H → (J.stop i H ∧ Q (.ref D) H) ∨ (J.go i H ∧ ∃ Nx : Hp → Prop, (∀ H', Nx H' → ∃ m', m' < m ∧ W (i + 1) m' H') ∧ ∀ x H', J.yld i H x H' → g x (wipe σ vs) H' fun σ2 H2 => wipe σ2 vs = wipe σ vs ∧
    tt σ2 H2 fun b H3 => if b = true then te σ2 H3 fun y H4 => ∃ (k : Key) (S : Key → Bool) (n : Nat), y = kV k ∧ H4 D = some (SetK P w D S n) ∧ n + 1 < scanBound ∧ Nx (upd H4 D (SetK P w D (fun j => S j || decide (j = k)) (if S k = true then n else n + 1))) else Nx H3)
variable {elt tg iter : Expr} {ifs : List Expr} {scope : Scope} {own : List (Str × Nat)} {pos : Pos} {wi : TI} {g : TG} {tt : TT} {te : TE}
theorem pe_scK (hc : X.calm = true) (hN : X.N.Nodup) (hi : PI X tg iter wi) (ok : BlkOk X.N X.env.scope scope own) (hg : ∀ s H C cl fp, PG (X.blk s H scope (compEnvC scope cl C X.env) fp) tg g) (ht : ∀ s H C cl fp, PTs (X.blk s H scope (compEnvC scope cl C X.env) fp) ifs tt)
    (he : ∀ s H C cl fp, PE (X.blk s H scope (compEnvC scope cl C X.env) fp) elt te) (hs : ∀ x, foldedSetIterable iter X.env x = pure x := by intro _; rfl) : PE X (.SetComp elt [⟨tg, iter, ifs, 0⟩] scope pos) (tScK X.prog X.w wi g tt te (own.map (·.2))) := by
  refine ⟨fun pins s σ H Q I h => ?_⟩
  rw [eval_SetComp]
  have caught : ∀ y ∈ scope.names, y.2 = .free → ∃ c, X.env.cells.lookup y.1 = some c := fun y hy e => (ok.free y hy e).elim (fun k => I.ok.has _ (.inl k)) fun k => I.ok.has _ (.inr k)
  refine wpAny_comprehension_free (use := none) rfl hs (closure_ok caught) ok.kind (fun y hy e => by rw [ok.uniq y hy, e]) (thn (hi.run pins s σ H _ I h) fun _ _ hx => thn hx fun _ s2 ⟨it, fp, tn, J, H2, e, I2, T, st2, f2, q⟩ => ?_)
  subst e
  refine newSet_ok (newEnv_comp ?_)
  have nD : H2 s2.heap.objs.size = none := I2.hok.fresh (Nat.le_refl _)
  obtain ⟨W, ⟨m0, w0⟩, turn⟩ := q s2.heap.objs.size nD
  generalize hD : s2.heap.objs.size = D at nD w0 turn ⊢
  generalize eH3 : upd H2 D (SetK X.prog X.w D (fun _ => false) 0) = H3 at w0
  generalize e3 : ({ s2 with heap := s2.heap.push (newSet0 X.w) } : Shared) = s3
  have hp3 : s3.heap = s2.heap.push (newSet0 X.w) := by rw [← e3]
  have I3 : Inv X pins σ H3 s3 := by
    subst e3 eH3
    exact I2.laid (t' := s2.toks) (fun b o e => Heap.get?_push_of_some _ e) (Nat.le_of_eq hD) (by rw [← hD]; exact setK_new keys_fresh)
  have below : ∀ b ∈ fp, b < s2.heap.objs.size := fun b hb => by
    obtain ⟨o, e, _⟩ := T.obj _ _ st2 b hb
    exact Heap.lt_size e
  have f3 : ∀ b ∈ fp, FpOk X pins H3 b ∧ b < s3.heap.objs.size := fun b hb => by
    refine ⟨⟨?_, (f2 b hb).2⟩, by rw [hp3, Heap.size_push]; exact Nat.lt_succ_of_lt (below b hb)⟩
    rw [← eH3, upd_ne (by rw [← hD]; exact Nat.ne_of_lt (below b hb))]
    exact (f2 b hb).1
  have none3 : ∀ b ∈ fp, H3 b = none := fun b hb => (f3 b hb).1.1
  have st3 : tn 0 s3.heap := T.keep _ _ _ st2 fun b _ o e => by rw [hp3]; exact Heap.get?_push_of_some _ e
  have I4 := block_start I3 ok hN f3
  generalize eS : s3.heap.objs.size = S3 at I4 f3 ⊢
  have pg := hg s3 H3 S3 (cellsFrom (S3 + 1) scope.names (cloFrom X.env.cells scope.names [])) fp
  have pt := ht s3 H3 S3 (cellsFrom (S3 + 1) scope.names (cloFrom X.env.cells scope.names [])) fp
  have pe := he s3 H3 S3 (cellsFrom (S3 + 1) scope.names (cloFrom X.env.cells scope.names [])) fp
  generalize ece : compEnvC scope (cellsFrom (S3 + 1) scope.names (cloFrom X.env.cells scope.names [])) S3 X.env = ce at I4 pg pt pe
  have cL : ce.locals = S3 := by rw [← ece]; rfl
  generalize e4 : ({ s3 with heap := pushCells (s3.heap.push { cls := .type "dict", data := .dict #[] }) scope.names } : Shared) = s4 at I4
  have st4 : tn 0 s4.heap := T.keep _ _ _ st3 fun b _ o e => by rw [← e4]; exact pushCells_keeps _ _ _ _ (Heap.get?_push_of_some _ e)
  have own_fp : ∀ {σ' : L2.St} {H' : Hp} {s' : Shared}, Inv (X.blk s3 H3 scope ce fp) [] σ' H' s' → (∀ b ∈ fp, H' b = none) → ∀ b ∈ fp, FpOk (X.blk s3 H3 scope ce fp) [] H' b := fun {σ' H' s'} I' hn b hb =>
    ⟨hn b hb, (I'.ok.exf b hb).1, I'.ok.exfs b hb, .inl hb, fun x c e => (I'.ok.exf b hb).2 x c e, fun p hp => absurd (show p ∈ ([] : List (Addr × Obj)) ++ [] from hp) (by simp)⟩
  have over : ∀ s' m H', Inv X pins σ H' s' → Q (.ref D) H' → s'.heap.Ns S3 m → FpOk X pins H' S3 → compPost (model X.prog X.w) X.A X.xe none (EP X pins σ Q) (.ref D) S3 (.ok .next) s' := fun s' m H' I' q hn f => by
    obtain ⟨f0, f1, f2, f3, f4, f5⟩ := f
    exact ⟨m, hn, fun h'' sb => ⟨.ref D, H', I'.turned (t' := s'.toks) (fun b o hb e => (sb.2 b hb).trans e) f0 f1 f3 f4 f5, rfl, q⟩⟩
  have goal : codeAny (model X.prog X.w) X.A (.compStart (.SetComp elt [⟨tg, iter, ifs, 0⟩] scope pos) 0 (.ref it) (.ref D) ce) (compPost (model X.prog X.w) X.A X.xe none (EP X pins σ Q) (.ref D) S3) s4 := by
    refine codeAny_compStart_set ?_ (T.self X.A 0 _ _ _ st4 ?_) <;> refine compLoopS_any (fun n s' => ∃ i H', Inv (X.blk s3 H3 scope ce fp) [] (wipe σ (own.map (·.2))) H' s' ∧ tn i s'.heap ∧ (∀ b ∈ fp, H' b = none) ∧ W i n H') ?_ m0 ⟨0, H3, I4, st4, none3, w0⟩ <;>
    · rintro n s5 ⟨i, H5, I5, st5, n5, w5⟩
      rcases turn i n H5 w5 with ⟨stop, qq⟩ | ⟨go, Nx, hNx, step⟩
      · refine thnF (T.done (X.blk s3 H3 scope ce fp) rfl rfl rfl hc i [] s5 _ H5 (fun _ _ => False) I5 (own_fp I5 n5) st5 stop) fun r s6 ⟨hr, I6⟩ => ?_
        subst hr
        have I7 : Inv X pins σ H5 s6 := I3.call' (ch := fp) I6.os I6.base I6.hok I6.bare fun b hb => ⟨(f3 b hb).1.2.2.2.1, (f3 b hb).1.2.1, (f3 b hb).1.2.2.2.2.1, (f3 b hb).1.2.2.2.2.2⟩
        have nC : H5 S3 = none := by
          have z : H5 ce.locals = none := I6.free
          rwa [cL] at z
        obtain ⟨m, hn, _⟩ := I6.loc
        have hn : s6.heap.Ns ce.locals m := hn
        rw [cL] at hn
        exact over s6 m H5 I7 qq hn (I3.fpOk (Nat.le_of_eq eS) nC)
      · refine thnF (T.item (X.blk s3 H3 scope ce fp) rfl rfl rfl hc i [] s5 _ H5 (fun _ _ => False) I5 (own_fp I5 n5) st5 go) fun r s6 ⟨u, hr, h6⟩ => ?_
        subst hr
        refine thnF h6 fun _ s7 ⟨x, H7, I7, r7, y7, st7, n7⟩ => ?_
        have J7 := I7.pinned (own_fp I7 n7) (T.obj _ _ st7)
        refine thnF (pg.run _ s7 _ H7 x u _ J7 r7 (step x H7 y7)) fun _ s8 ⟨σ8, H8, I8, hw8, q8⟩ => ?_
        refine thnF (pt.run _ s8 σ8 H8 _ I8 q8) fun b s9 ⟨H9, I9, q9⟩ => ?_
        have next : ∀ {s' : Shared} {H' : Hp}, Inv (X.blk s3 H3 scope ce fp) ([] ++ pinsAt fp s7.heap) σ8 H' s' → Nx H' → ∃ m, m < n ∧ ∃ i H', Inv (X.blk s3 H3 scope ce fp) [] (wipe σ (own.map (·.2))) H' s' ∧ tn i s'.heap ∧ (∀ b ∈ fp, H' b = none) ∧ W i m H' := fun {s' H'} I' nx => by
          obtain ⟨m', hm, w'⟩ := hNx H' nx
          have still : ∀ b ∈ fp, ∀ o, s7.heap.get? b = some o → s'.heap.get? b = some o ∧ H' b = none := fun b hb o e =>
            have z := I'.pin (b, o) (List.mem_append_right _ (List.mem_append_right _ (mem_pinsAt hb e)))
            ⟨z.1, z.2.1⟩
          refine ⟨m', hm, i + 1, H', (I'.unpinned (pins := [])).weak (by rw [← hw8, wipe_length]) (fun j v e => ?_), T.keep _ _ _ st7 fun b hb o e => (still b hb o e).1, fun b hb => ?_, w'⟩
          · rw [← hw8] at e
            exact (wipe_some e).1
          · obtain ⟨o, e, _⟩ := T.obj _ _ st7 b hb
            exact (still b hb o e).2
        cases b with
        | false =>
          simp only [Bool.false_eq_true, if_false] at q9 ⊢
          exact next I9 q9
        | true =>
          simp only [if_true] at q9 ⊢
          refine thnF (pe.run _ s9 σ8 H9 _ I9 q9) fun z s10 ⟨yv, H10, I10, r10, k0, S0, n0, ey, hD10, hz10, nx⟩ => ?_
          subst ey
          exact addK_ok (X := X.blk s3 H3 scope ce fp) I10 hD10 hz10 r10 fun s11 I11 => next I11 nx
  subst e4
  rw [← ece] at goal
  subst eS
  exact goal
/-- len(a set of keys) -/
def rLenK (P : Program) (w : World) : List V → Hp → VK → Prop := fun xs H Q => ∃ (a : Addr) (S : Key → Bool) (n : Nat), xs = [V.ref a] ∧ H a = some (SetK P w a S n) ∧ Q (.int n) H
theorem call_lenK : CallR X (.builtin "len") (rLenK X.prog X.w) := by
  intro pins s σ H xs us Q I r h
  obtain ⟨a, S, n, rfl, ha, q⟩ := h
  obtain ⟨u, rfl, ru⟩ := vals1 r
  cases (show u = Value.ref a from ru)
  obtain ⟨o, es, ep, t, ho, hex, hd, _, _, hb, hf, hn⟩ := setK_get I ha
  exact call_len_set ho hex hd hf (by
    have z : scanBound < 2 ^ 63 := by decide +kernel
    omega) ⟨.int n, H, I.tok _, ⟨_, by rw [hn]⟩, q⟩
end
end JgS
namespace Dl
open PySem PySem.Spec PyProof.Rows L2
section
variable {B : Par} {X : Cx} {elt kx vx tg iter : Expr} {ifs : List Expr} {scope : Scope} {own : List (Str × Nat)} {wi wi' : DI} {g : DG} {t : DT} {e k : DE} {pos spos : Pos} {vs : List Nat} {σ : L2.St} {H : Hp}
/-! ### either walk -/
theorem PDI.or (h : PDI X B tg iter wi) (h' : PDI X B tg iter wi') : PDI X B tg iter (fun ρ μ Φ Ψ => wi ρ μ Φ Ψ ∨ wi' ρ μ Φ Ψ) := ⟨fun pins s σ H R I q => by
  obtain ⟨as, ρ, μ, Φ, Ψ, S, q, x, fin⟩ := q
  rcases q with q | q
  · exact L2.PI.run h pins s σ H R I ⟨as, ρ, μ, Φ, Ψ, S, q, x, fin⟩
  · exact L2.PI.run h' pins s σ H R I ⟨as, ρ, μ, Φ, Ψ, S, q, x, fin⟩⟩
/-! ### len of a set of keys -/
def memK (ks : List Key) (k : Key) : Bool := ks.any fun x => decide (x = k)
def addKey (ks : List Key) (k : Key) : List Key := if memK ks k = true then ks else ks ++ [k]
def scD (g : DG) (t : DT) (e : DE) (vs : List Nat) (C : Rho → Mu → Prop) (fin : List Key → Rho → Mu → Prop) : List D → List Key → Rho → Mu → Prop
  | [], acc, ρ, μ => C ρ μ ∧ fin acc ρ μ
  | d :: ds, acc, ρ, μ => C ρ μ ∧ g d ρ μ fun ρ1 μ1 => t ρ1 μ1 (fun b ρ2 μ2 => if b = true then e ρ2 μ2 (fun y ρ3 μ3 => ∃ k, keyD y = some k ∧ scD g t e vs C fin ds (addKey acc k) (wipeD ρ3 vs) μ3) never else scD g t e vs C fin ds acc (wipeD ρ2 vs) μ2) never
def rLenSet (wi : DI) (g : DG) (t : DT) (e : DE) (vs : List Nat) : DE := fun ρ μ Φ Ψ => wi ρ μ (fun ds C ρ1 μ1 => noOwn ρ1 vs = true ∧ ds.length + 1 < 4096 ∧ scD g t e vs C (fun ks ρ2 μ2 => Φ (.int ks.length) (backD ρ1 ρ2 vs) μ2) ds [] (wipeD ρ1 vs) μ1) Ψ
theorem addKey_set {ks : List Key} {k : Key} : (fun j => memK ks j || decide (j = k)) = fun j => memK (addKey ks k) j := funext fun j => by
  unfold addKey
  split
  · rename_i h
    by_cases e : j = k
    · subst e
      rw [h]
      simp
    · simp [e]
  · unfold memK
    rw [List.any_append]
    simp only [List.any_cons, List.any_nil, Bool.or_false]
    congr 1
    exact decide_eq_decide.mpr eq_comm
theorem addKey_len {ks : List Key} {k : Key} : (if memK ks k = true then ks.length else ks.length + 1) = (addKey ks k).length := by
  unfold addKey
  split <;> simp
theorem addKey_le {ks : List Key} {k : Key} : (addKey ks k).length ≤ ks.length + 1 := by
  rw [← addKey_len]
  split <;> omega
theorem sc_turns {P : Program} {w : World} {Q : VK} {g0 : TG} {t0 : TT} {e0 : TE}
    (hg : ∀ v σ H R, (∃ fm, LG (B.with fm WNo) vs g v σ H R) → g0 v σ H R) (ht : ∀ σ H R, (∃ fm, LT (B.with fm WNo) t σ H R) → t0 σ H R) (he : ∀ σ H R, (∃ fm, LE (B.with fm WNo) e σ H R) → e0 σ H R)
    (h : LE B (rLenSet wi g t e vs) σ H Q) : JgS.tScK P w (LI B wi) g0 t0 e0 vs σ H (fun v H1 => ∃ (a : Addr) (S : Key → Bool) (n : Nat), [v] = [V.ref a] ∧ H1 a = some (SetK P w a S n) ∧ Q (.int n) H1) := by
  obtain ⟨as, ρ, μ, Φ, Ψ, S, q, x, fin⟩ := h
  refine ⟨as, ρ, μ, _, Ψ, S, q, x, fun ds C as1 ρ1 μ1 H1 J ps q1 k1 S1 hps hw p hp => ?_⟩
  obtain ⟨no, sz, q1⟩ := q1
  let ps0 := backPins ρ1 σ vs ++ ps
  let ob : List Key → HO := fun ks => SetK P w p (fun j => memK ks j) ks.length
  let Bt : List Key → Par := fun ks => B.blk (ob []) as1 ρ1 σ H1 p (ob ks) ps0 WNo
  have ob0 : SetK P w p (fun _ => false) 0 = ob [] := by
    show _ = SetK P w p (fun j => memK [] j) 0
    rfl
  let Pv : Nat → Hp → Prop := fun i H => ∃ as ρ μ ks, SimB (Bt ks) as ρ μ (L2.wipe σ vs) H ∧ ks.length ≤ i ∧ Blank ρ vs ∧
    scD g t e vs C (fun ks ρ2 μ2 => Φ (.int ks.length) (backD ρ1 ρ2 vs) μ2) (ds.drop i) ks ρ μ
  rw [ob0]
  refine ⟨fun i m H => m = ds.length - i ∧ i ≤ ds.length ∧ Pv i H, ⟨ds.length, by simp, Nat.zero_le _, as1, wipeD ρ1 vs, μ1, [], ?_, Nat.le_refl _, wipeD_blank, q1⟩, ?_⟩
  · refine SimB.wipe ?_ vs
    refine sim_hide (F := fun _ => False) (L := ob []) S1 hp fun q hq => ?_
    rcases List.mem_append.mp hq with hq | hq
    · exact back_pins S1 q hq
    · exact hps q hq
  · rintro i m H2 ⟨rfl, hi, as2, ρ2, μ2, ks, S2, ai, bl, q2⟩
    have wk : Walks (Bt ks) J ds C := hw (Bt ks).fm WNo (fun z hz => List.mem_append_left _ (List.mem_append_right _ hz)) ⟨[], by simp [Bt, Par.blk]⟩
    have hD : ∀ {as ρ μ σ' H'}, SimB (Bt ks) as ρ μ σ' H' → H' p = some (ob ks) := fun S => (S.stay p (Or.inr rfl)).trans (by show (if p = p then some (ob ks) else _) = _; rw [if_pos rfl])
    by_cases hlt : i < ds.length
    · rw [List.drop_eq_getElem_cons hlt] at q2
      obtain ⟨c, q2⟩ := q2
      obtain ⟨go, y⟩ := wk.go i as2 ρ2 μ2 _ H2 hlt S2 c
      refine Or.inr ⟨go, Pv (i + 1), fun H' z => ⟨ds.length - (i + 1), by omega, rfl, hlt, z⟩, fun x H' yl => ?_⟩
      obtain ⟨up, d, e', rx⟩ := y x H' yl
      rw [List.getElem?_eq_getElem hlt] at e'
      cases e'
      refine hg _ _ _ _ ⟨(Bt ks).fm, as2, ρ2, μ2, _, _, S2.ext up, rx, q2, fun as3 ρ3 μ3 σ3 H3 kw S3 q3 => ?_⟩
      have kw' : L2.wipe σ3 vs = L2.wipe σ vs := kw.trans (wipe_twice fun _ h => h)
      refine ⟨kw', ht _ _ _ ⟨(Bt ks).fm, as3, ρ3, μ3, _, never, S3, q3, fun _ _ _ _ _ _ _ z => z.elim, fun b as4 ρ4 μ4 H4 q4 k4 S4 => ?_⟩⟩
      cases b with
      | false =>
        simp only [Bool.false_eq_true, if_false] at q4 ⊢
        refine ⟨as4, wipeD ρ4 vs, μ4, ks, ?_, Nat.le_succ_of_le ai, wipeD_blank, q4⟩
        have S5 := SimB.wipe S4 vs
        rw [kw'] at S5
        exact S5
      | true =>
        simp only [if_true] at q4 ⊢
        refine he _ _ _ ⟨(Bt ks).fm, as4, ρ4, μ4, _, never, S4, q4, fun _ _ _ _ _ _ _ z => z.elim, fun y as5 ρ5 μ5 H5 vy q5 k5 S5 r5 => ?_⟩
        obtain ⟨kk, ek, q6⟩ := q5
        have kept : y.kept = true := by cases y <;> first | rfl | cases ek
        refine ⟨kk, fun j => memK ks j, ks.length, key_v ek (r5.rep kept), hD S5, by show _ < 4096; omega, as5, wipeD ρ5 vs, μ5, addKey ks kk, ?_, Nat.le_trans addKey_le (by omega), wipeD_blank, q6⟩
        have eo : SetK P w p (fun j => memK ks j || decide (j = kk)) (if memK ks kk = true then ks.length else ks.length + 1) = ob (addKey ks kk) := by
          show _ = SetK P w p (fun j => memK (addKey ks kk) j) (addKey ks kk).length
          rw [addKey_set, addKey_len]
        rw [eo]
        have S7 : SimB (Bt (addKey ks kk)) as5 ρ5 μ5 σ3 (upd H5 p (ob (addKey ks kk))) := sim_turn S5 fun z hz => S5.pin z (List.mem_append_left _ hz)
        have S8 := SimB.wipe S7 vs
        rw [kw'] at S8
        exact S8
    · have e1 : i = ds.length := by omega
      subst e1
      rw [List.drop_length] at q2
      refine Or.inl ⟨wk.stop as2 ρ2 μ2 _ H2 S2 q2.1, p, _, _, rfl, hD S2, ?_⟩
      obtain ⟨S3, g3⟩ := sim_show S1 hp S2
      have vE : vis (Bt ks) as2 ρ2 (L2.wipe σ vs) H2 = vis B as2 ρ2 (L2.wipe σ vs) (del H2 p) := vis_hide
      obtain ⟨S4, x4⟩ := sim_back (ρ0 := ρ1) S3 bl fun v hv d hd => by
        obtain ⟨x, s, _⟩ := S1.val v d hd
        refine ⟨x, s, ?_⟩
        have hq : Pin.rep x d ∈ backPins ρ1 σ vs := List.mem_filterMap.mpr ⟨v, hv, by unfold backPin; rw [hd]; simp only; rw [s]⟩
        have := S2.pin _ (List.mem_append_left _ (List.mem_append_left _ hq))
        rw [← vE]
        exact this
      have up : ∀ a o, del H2 p a = some o → H2 a = some o := fun a o h => (del_some h).2
      exact fin (.int ks.length) as2 (backD ρ1 ρ2 vs) μ2 H2 (.int ks.length) q2.2 ((k1.trans ⟨g3.shrink x4⟩).trans (.ext up)) (S4.ext up) (Rep.int _).t
theorem pd_lenSet {x : Str} {pp cpos : Pos} (hc : X.calm = true) (hN : X.N.Nodup) (hi : PDI X B tg iter wi) (ok : BlkOk X.N X.env.scope scope own) (hgl : Gl X x) (hm : X.mg x = none) (hv : bootBuiltins x = some (.builtin "len"))
    (hg : ∀ s H C cl fp fm, PDG (blkX X s H scope C cl fp) (B.with fm WNo) (own.map (·.2)) tg g) (ht : ∀ s H C cl fp fm, PDTs (blkX X s H scope C cl fp) (B.with fm WNo) ifs t)
    (he : ∀ s H C cl fp fm, PD (blkX X s H scope C cl fp) (B.with fm WNo) elt e) (hs : ∀ x, foldedSetIterable iter X.env x = pure x := by intro _; rfl) (hn : x ≠ "__name__" := by decide) (hdb : (x == ("__debug__" : Str)) = false := by decide)
    (hst : starEach [.SetComp elt [⟨tg, iter, ifs, 0⟩] scope pos] X.env = (false, eval (.SetComp elt [⟨tg, iter, ifs, 0⟩] scope pos) X.env) :: starEach [] X.env := by rfl) (hpl : (backTo cpos (starEach [] X.env)).any (·.1) = false := by rfl) :
    PD X B (.Call (.Name x pp) [.SetComp elt [⟨tg, iter, ifs, 0⟩] scope pos] [] cpos) (rLenSet wi g t e (own.map (·.2))) :=
  (pe_callB (p := pp) (pos := cpos) JgS.call_lenK hgl hm hv (pa_cons (JgS.pe_scK (pos := pos) (g := fun v σ H R => ∃ fm, LG (B.with fm WNo) (own.map (·.2)) g v σ H R) (tt := fun σ H R => ∃ fm, LT (B.with fm WNo) t σ H R) (te := fun σ H R => ∃ fm, LE (B.with fm WNo) e σ H R) hc hN hi ok
    (fun s H C cl fp => ⟨fun pins s1 σ H1 v u Q I r ⟨fm, q⟩ => (hg s H C cl fp fm).run pins s1 σ H1 v u Q I r q⟩)
    (fun s H C cl fp => ⟨fun pins s1 σ H1 Q I ⟨fm, q⟩ => (ht s H C cl fp fm).run pins s1 σ H1 Q I q⟩)
    (fun s H C cl fp => ⟨fun pins s1 σ H1 Q I ⟨fm, q⟩ => (he s H C cl fp fm).run pins s1 σ H1 Q I q⟩) hs) pa_nil hst) hn hdb hst hpl).imp fun σ H Q h =>
    sc_turns (B := B) (g := g) (t := t) (e := e) (wi := wi) (fun _ _ _ _ z => z) (fun _ _ _ z => z) (fun _ _ _ z => z) h
/-! ### dict comprehensions -/
def dcD (g : DG) (t : DT) (k e : DE) (vs : List Nat) (C : Rho → Mu → Prop) (fin : List (Key × D) → Rho → Mu → Prop) : List D → List (Key × D) → Rho → Mu → Prop
  | [], acc, ρ, μ => C ρ μ ∧ fin acc ρ μ
  | d :: ds, acc, ρ, μ => C ρ μ ∧ g d ρ μ fun ρ1 μ1 => t ρ1 μ1 (fun b ρ2 μ2 => if b = true then k ρ2 μ2 (fun x ρ3 μ3 => ∃ kk, keyD x = some kk ∧ e ρ3 μ3 (fun y ρ4 μ4 => ∃ ρ5 y', stow ρ4 y = some (ρ5, y') ∧ dcD g t k e vs C fin ds (dput acc kk y') (wipeD ρ5 vs) μ4) never) never
    else dcD g t k e vs C fin ds acc (wipeD ρ2 vs) μ2) never
def rDc (wi : DI) (g : DG) (t : DT) (k e : DE) (vs : List Nat) : DF := fun ρ μ Φ Ψ => wi ρ μ (fun ds C ρ1 μ1 => noOwn ρ1 vs = true ∧ ds.length ≤ sizeLine ∧ dcD g t k e vs C (fun acc ρ2 μ2 => Φ (.dic acc) (backD ρ1 ρ2 vs) μ2) ds [] (wipeD ρ1 vs) μ1) Ψ
theorem putK_len {κ : Type} [DecidableEq κ] (kvs : List (κ × V)) (k : κ) (v : V) : (putK kvs k v).length ≤ kvs.length + 1 := by
  unfold putK
  split <;> simp
theorem dc_turns {Q : VK} {g0 : TG} {t0 : TT} {k0 e0 : TE}
    (hg : ∀ v σ H R, (∃ fm, LG (B.with fm WNo) vs g v σ H R) → g0 v σ H R) (ht : ∀ σ H R, (∃ fm, LT (B.with fm WNo) t σ H R) → t0 σ H R) (hk : ∀ σ H R, (∃ fm, LE (B.with fm WNo) k σ H R) → k0 σ H R) (he : ∀ σ H R, (∃ fm, LE (B.with fm WNo) e σ H R) → e0 σ H R)
    (h : LF B (rDc wi g t k e vs) σ H Q) : tDc (LI B wi) g0 t0 k0 e0 vs σ H Q := by
  obtain ⟨as, ρ, μ, Φ, Ψ, S, q, x, fin⟩ := h
  refine ⟨as, ρ, μ, _, Ψ, S, q, x, fun ds C as1 ρ1 μ1 H1 J ps q1 k1 S1 hps hw p hp => ?_⟩
  obtain ⟨no, sz, q1⟩ := q1
  let ps0 := backPins ρ1 σ vs ++ ps
  let Bt : List (Key × V) → List (Key × D) → Par := fun av ad => B.blk (.dK []) as1 ρ1 σ H1 p (.dK av) (repPins (av.map (·.2)) (ad.map (·.2)) ++ ps0) WNo
  let Pv : Nat → Hp → Prop := fun i H => ∃ as ρ μ av ad, SimB (Bt av ad) as ρ μ (L2.wipe σ vs) H ∧ av.map (·.1) = ad.map (·.1) ∧ av.length ≤ i ∧ Blank ρ vs ∧
    dcD g t k e vs C (fun acc ρ2 μ2 => Φ (.dic acc) (backD ρ1 ρ2 vs) μ2) (ds.drop i) ad ρ μ
  refine ⟨fun i m H => m = ds.length - i ∧ i ≤ ds.length ∧ Pv i H, ⟨ds.length, by simp, Nat.zero_le _, as1, wipeD ρ1 vs, μ1, [], [], ?_, rfl, Nat.le_refl _, wipeD_blank, q1⟩, ?_⟩
  · refine SimB.wipe ?_ vs
    refine sim_hide (F := fun _ => False) (L := .dK []) S1 hp fun q hq => ?_
    rcases List.mem_append.mp hq with hq | hq
    · exact nomatch hq
    · rcases List.mem_append.mp hq with hq | hq
      · exact back_pins S1 q hq
      · exact hps q hq
  · rintro i m H2 ⟨rfl, hi, as2, ρ2, μ2, av, ad, S2, al, ai, bl, q2⟩
    have wk : Walks (Bt av ad) J ds C := hw (Bt av ad).fm WNo (fun z hz => List.mem_append_left _ (List.mem_append_right _ (List.mem_append_right _ hz))) ⟨[], by simp [Bt, Par.blk]⟩
    have hD : ∀ {as ρ μ σ' H'}, SimB (Bt av ad) as ρ μ σ' H' → H' p = some (.dK av) := fun S => (S.stay p (Or.inr rfl)).trans (by show (if p = p then some (HO.dK av) else _) = _; rw [if_pos rfl])
    have kr : ∀ {as ρ μ σ' H'}, SimB (Bt av ad) as ρ μ σ' H' → KR B.O B.K as (vis (Bt av ad) as ρ σ' H') av ad := fun S => ⟨al, pins_rep (by have := congrArg List.length al; simpa using this) fun z hz => S.pin z (List.mem_append_left _ (List.mem_append_left _ hz))⟩
    by_cases hlt : i < ds.length
    · rw [List.drop_eq_getElem_cons hlt] at q2
      obtain ⟨c, q2⟩ := q2
      obtain ⟨go, y⟩ := wk.go i as2 ρ2 μ2 _ H2 hlt S2 c
      refine Or.inr ⟨go, Pv (i + 1), fun H' z => ⟨ds.length - (i + 1), by omega, rfl, hlt, z⟩, fun x H' yl => ?_⟩
      obtain ⟨up, d, e', rx⟩ := y x H' yl
      rw [List.getElem?_eq_getElem hlt] at e'
      cases e'
      refine hg _ _ _ _ ⟨(Bt av ad).fm, as2, ρ2, μ2, _, _, S2.ext up, rx, q2, fun as3 ρ3 μ3 σ3 H3 kw S3 q3 => ?_⟩
      have kw' : L2.wipe σ3 vs = L2.wipe σ vs := kw.trans (wipe_twice fun _ h => h)
      refine ⟨kw', ht _ _ _ ⟨(Bt av ad).fm, as3, ρ3, μ3, _, never, S3, q3, fun _ _ _ _ _ _ _ z => z.elim, fun b as4 ρ4 μ4 H4 q4 k4 S4 => ?_⟩⟩
      cases b with
      | false =>
        simp only [Bool.false_eq_true, if_false] at q4 ⊢
        refine ⟨as4, wipeD ρ4 vs, μ4, av, ad, ?_, al, Nat.le_succ_of_le ai, wipeD_blank, q4⟩
        have S5 := SimB.wipe S4 vs
        rw [kw'] at S5
        exact S5
      | true =>
        simp only [if_true] at q4 ⊢
        refine hk _ _ _ ⟨(Bt av ad).fm, as4, ρ4, μ4, _, never, S4, q4, fun _ _ _ _ _ _ _ z => z.elim, fun xk as5 ρ5 μ5 H5 vk q5 k5 S5 r5 => ?_⟩
        obtain ⟨kk, ek, q5⟩ := q5
        have kept : xk.kept = true := by cases xk <;> first | rfl | cases ek
        have evk := key_v ek (r5.rep kept)
        refine he _ _ _ ⟨(Bt av ad).fm, as5, ρ5, μ5, _, never, S5, q5, fun _ _ _ _ _ _ _ z => z.elim, fun y as6 ρ6 μ6 H6 vy q6 k6 S6 r6 => ?_⟩
        obtain ⟨ρ7, y', e7, q7⟩ := q6
        obtain ⟨S7, r7, k7⟩ := S6.stow r6 e7
        have kr7 := (kr S7).put (k := kk) r7
        refine ⟨av, kk, evk, hD S7, by omega, as6, wipeD ρ7 vs, μ6, putK av kk vy, dput ad kk y', ?_, kr7.1, Nat.le_trans (putK_len _ _ _) (by omega), wipeD_blank, q7⟩
        have S8 : SimB (Bt (putK av kk vy) (dput ad kk y')) as6 ρ7 μ6 σ3 (upd H6 p (.dK (putK av kk vy))) := sim_turn S7 fun z hz => by
          rcases List.mem_append.mp hz with hz | hz
          · exact rep_pins kr7.2 z hz
          · exact S7.pin z (List.mem_append_left _ (List.mem_append_right _ hz))
        have S9 := SimB.wipe S8 vs
        rw [kw'] at S9
        exact S9
    · have e1 : i = ds.length := by omega
      subst e1
      rw [List.drop_length] at q2
      refine Or.inl ⟨wk.stop as2 ρ2 μ2 _ H2 S2 q2.1, ?_⟩
      obtain ⟨S3, g3⟩ := sim_show S1 hp S2
      have vE : vis (Bt av ad) as2 ρ2 (L2.wipe σ vs) H2 = vis B as2 ρ2 (L2.wipe σ vs) (del H2 p) := vis_hide
      have rA := (kr S2).2
      rw [vE] at rA
      obtain ⟨S4, x4⟩ := sim_back (ρ0 := ρ1) S3 bl fun v hv d hd => by
        obtain ⟨x, s, _⟩ := S1.val v d hd
        refine ⟨x, s, ?_⟩
        have hq : Pin.rep x d ∈ backPins ρ1 σ vs := List.mem_filterMap.mpr ⟨v, hv, by unfold backPin; rw [hd]; simp only; rw [s]⟩
        have := S2.pin _ (List.mem_append_left _ (List.mem_append_right _ (List.mem_append_left _ hq)))
        rw [← vE]
        exact this
      have z := fin (.dic ad) as2 (backD ρ1 ρ2 vs) μ2 (del H2 p) p (.dK av) q2.2 (k1.trans ⟨g3.shrink x4⟩) S4 del_self ⟨av, rfl, al, rA.le (see_more fun a w z => w (x4 a z))⟩ fun _ _ _ z => nomatch z
      rw [upd_del (hD S2)] at z
      exact z
theorem pdf_dc (hc : X.calm = true) (hN : X.N.Nodup) (hi : PDI X B tg iter wi) (ok : BlkOk X.N X.env.scope scope own)
    (hg : ∀ s H C cl fp fm, PDG (blkX X s H scope C cl fp) (B.with fm WNo) (own.map (·.2)) tg g) (ht : ∀ s H C cl fp fm, PDTs (blkX X s H scope C cl fp) (B.with fm WNo) ifs t)
    (hk : ∀ s H C cl fp fm, PD (blkX X s H scope C cl fp) (B.with fm WNo) kx k) (he : ∀ s H C cl fp fm, PD (blkX X s H scope C cl fp) (B.with fm WNo) vx e) (hs : ∀ x, foldedSetIterable iter X.env x = pure x := by intro _; rfl) :
    PDF X B (.DictComp kx vx [⟨tg, iter, ifs, 0⟩] scope pos) (rDc wi g t k e (own.map (·.2))) :=
  (pe_dc (pos := pos) (g := fun v σ H R => ∃ fm, LG (B.with fm WNo) (own.map (·.2)) g v σ H R) (tt := fun σ H R => ∃ fm, LT (B.with fm WNo) t σ H R) (tk := fun σ H R => ∃ fm, LE (B.with fm WNo) k σ H R) (tv := fun σ H R => ∃ fm, LE (B.with fm WNo) e σ H R) hc hN hi ok
    (fun s H C cl fp => ⟨fun pins s1 σ H1 v u Q I r ⟨fm, q⟩ => (hg s H C cl fp fm).run pins s1 σ H1 v u Q I r q⟩)
    (fun s H C cl fp => ⟨fun pins s1 σ H1 Q I ⟨fm, q⟩ => (ht s H C cl fp fm).run pins s1 σ H1 Q I q⟩)
    (fun s H C cl fp => ⟨fun pins s1 σ H1 Q I ⟨fm, q⟩ => (hk s H C cl fp fm).run pins s1 σ H1 Q I q⟩)
    (fun s H C cl fp => ⟨fun pins s1 σ H1 Q I ⟨fm, q⟩ => (he s H C cl fp fm).run pins s1 σ H1 Q I q⟩) hs).imp fun σ H Q h =>
    dc_turns (fun _ _ _ _ z => z) (fun _ _ _ z => z) (fun _ _ _ z => z) (fun _ _ _ z => z) h
end
end Dl
namespace JgS
open PySem PySem.Spec PyProof.Rows L2
/-! ### enumerate(tuple) -/
/-- enumerate over whatever begins -/
theorem enum_new {v : Value} {ob : Obj} {G : Heap → Prop} (B : Begins v ob G) :
    Meets (Builtin.«enumerate.__new__» ⟨[.type "enumerate", v], []⟩) (fun _ R s => G s.heap ∧
      R (.ok (.ret (.ref (s.heap.push ob).objs.size))) { s with heap := (s.heap.push ob).push { cls := .type "enumerate", data := .fields #[.none, .bool false, .ref s.heap.objs.size, rawInt 0, .none, .none] } }) :=
  .of_wp fun prog w A R s h => by
    obtain ⟨hp, g, d, tk, os⟩ := s
    obtain ⟨hG, h⟩ := h
    have hsub := sub_enumerate
    have it : ∀ {A : Around} {E : Value → Shared → Prop} {Q : Value → Shared → Prop}, Q (.ref hp.objs.size) ⟨hp.push ob, g, d, tk, os⟩ → wpAny (model prog w) A (pyIter v) Q E ⟨hp, g, d, tk, os⟩ := fun {A E Q} q => B.iter prog w A E _ Q hG q
    wp_walk
    refine wpAny_stack_any fun st => wpAny_pure ?_
    split
    · rename_i c _ _ _ _ _
      cases (c == Value.type "enumerate") <;> (wp_walk using it; exact ⟨_, rfl, h⟩)
    · wp_walk using it
      exact ⟨_, rfl, h⟩
theorem call_enumT {prog : Program} {w : World} {A : Around} {E : Value → Shared → Prop} {s : Shared} {l : Addr} {items : Array Value} {Q : Value → Shared → Prop} (hL : s.heap.IsTuple l items)
    (h : ∀ h', IsEnum h' (s.heap.objs.size + 1) s.heap.objs.size 0 .none → h'.IsTupleIter s.heap.objs.size l 0 → (∀ b o, s.heap.get? b = some o → h'.get? b = some o) → Q (.ref (s.heap.objs.size + 1)) { s with heap := h' }) :
    wpAny (model prog w) A (call (.type "enumerate") [.ref l]) Q E s := by
  refine callType_new F.called_enumerate (by decide) (F.typeCall_enumerate_1 _) (F.newCall_enumerate_1 _) (fun obj => F.args_object_init_2 obj _) F.entry_enumerate_new (enum_new (begins_tuple l items)) ⟨hL, ?_⟩
  generalize e1 : s.heap.push { cls := .type "tuple_iterator", data := .fields #[.ref l, .int 0 0] } = h1
  have hz : h1.objs.size = s.heap.objs.size + 1 := by rw [← e1]; exact Heap.size_push ..
  have k1 : ∀ b o, s.heap.get? b = some o → h1.get? b = some o := fun b o x => by rw [← e1]; exact Heap.get?_push_of_some _ x
  have i1 : h1.get? s.heap.objs.size = some { cls := .type "tuple_iterator", data := .fields #[.ref l, .int 0 0] } := by rw [← e1]; exact Heap.get?_push_size _ rfl
  show _ ∧ _
  rw [hz]
  have he : IsEnum (h1.push { cls := .type "enumerate", data := .fields #[.none, .bool false, .ref s.heap.objs.size, rawInt 0, .none, .none] }) (s.heap.objs.size + 1) s.heap.objs.size 0 .none := by
    have z := Heap.get?_push_size h1 (o := { cls := .type "enumerate", data := .fields #[.none, .bool false, .ref s.heap.objs.size, rawInt 0, .none, .none] }) rfl
    rw [hz] at z
    exact z
  exact ⟨⟨_, he, rfl⟩, h _ he ⟨_, Heap.get?_push_of_some _ i1, rfl, rfl⟩ fun b o x => Heap.get?_push_of_some _ (k1 b o x)⟩
/-- the tuple at a, each item in a new pair -/
def IteT (K : PySem.W.Frag) (a : Addr) : It :=
  ⟨fun i H => ∃ (xs : List V) (x : V), SqT K H a xs ∧ xs[i]? = some x, fun i H v H' => ∃ T x, v = .ref T ∧ H T = none ∧ H' = upd H T (.tup [.int (i : Nat), x]) ∧ ∀ xs, SqT K H a xs → xs[i]? = some x, fun i H => ∃ xs : List V, SqT K H a xs ∧ xs.length ≤ i⟩
theorem apart_enum {h : Heap} {e it a : Addr} {c : Int} {old : Value} {items : Array Value} (he : IsEnum h e it c old) (ht : h.IsTuple a items) : e ≠ a := by
  rintro rfl
  obtain ⟨o, ho, hc, _⟩ := ht
  rw [he] at ho
  cases ho
  simp at hc
theorem apart_iter {h : Heap} {it a : Addr} {i : Nat} {items : Array Value} (hi : h.IsTupleIter it a i) (ht : h.IsTuple a items) : a ≠ it := by
  rintro rfl
  obtain ⟨o, ho, hc, _⟩ := ht
  obtain ⟨o', ho', hc', _⟩ := hi
  rw [ho] at ho'
  cases ho'
  rw [hc] at hc'
  simp at hc'
theorem turn_enumT {P : Program} {w : World} {K : PySem.W.Frag} {elts : List Expr} {kk : Nat} {tpos : Pos} (a e it : Addr) :
    Turn P w K (.Tuple elts kk tpos) (IteT K a) [e, it] e (fun i h => (∃ old, IsEnum h e it ((i : Nat) : Int) old) ∧ h.IsTupleIter it a i ∧ e ≠ it) where
  mem := by simp
  obj := fun i h st b hb => by
    obtain ⟨⟨old, he⟩, ⟨o, ho, hc, hd⟩, _⟩ := st
    have z : b = e ∨ b = it := by simpa using hb
    rcases z with rfl | rfl
    · exact ⟨_, he, fun v q => nomatch q⟩
    · exact ⟨o, ho, fun v q => by rw [hd] at q; cases q⟩
  keep := fun i h h' st k => by
    obtain ⟨⟨old, he⟩, hi, hne⟩ := st
    exact ⟨⟨old, k e (by simp) _ he⟩, hi.at fun o q => k it (by simp) o q, hne⟩
  item := by
    intro X hP hw hK hc i pins s σ H E I hf st hg
    subst hP hw hK
    obtain ⟨⟨old, he⟩, hit, hne⟩ := st
    obtain ⟨xs, x, hq, hx⟩ := hg
    obtain ⟨its, rv, p, hz⟩ := I.tuple hq
    obtain ⟨u, hu, ru⟩ := rv.get hx
    have hu' : its.toArray[i]? = some u := by simpa using hu
    have lt : i < its.toArray.size := by simpa using (List.getElem?_eq_some_iff.mp hu).1
    have hel : e < s.heap.objs.size := Heap.lt_size he
    have hil : it < s.heap.objs.size := by
      obtain ⟨_, q, _⟩ := hit
      exact Heap.lt_size q
    have na := apart_enum he p
    refine wpAny_pyNext_enum_itemD (Draws.tuple (A := X.A.in1) (I.ok.hd hc) it a (apart_iter hit p) its.toArray) he ⟨hit, p⟩ lt hne (by simp [hne, na]) fun y h' tk py ho st' hT hsz hk => ?_
    have ey : y = u := by rw [hu'] at py; exact (Option.some.inj py).symm
    subst ey
    refine ⟨_, rfl, wpAny_letOwnedTupleGo_enum (s := { s with heap := h', toks := tk + 1 }) ho fun h'' he' sb => ?_⟩
    have hT2 : h''.get? s.heap.objs.size = some { cls := .type "tuple", data := .seq #[.int i tk, y] } := (sb.2 _ (Nat.ne_of_gt hel)).trans hT
    have new : ObjOk X.prog X.w (upd H s.heap.objs.size (.tup [.int (i : Nat), x])) h'' s.heap.objs.size (.tup [.int (i : Nat), x]) :=
      ⟨by show 2 ≤ sizeLine; decide, [.int i tk, y], .cons ⟨_, rfl⟩ (.cons ru .nil), ⟨_, hT2, rfl, _, rfl⟩⟩
    have I1 : Inv X pins σ (upd H s.heap.objs.size (.tup [.int (i : Nat), x])) { s with heap := h'', toks := tk + 1 } :=
      I.turnedNew (t' := tk + 1) (ch := [e, it]) (fun b ob hb q => (sb.2 b (fun z => hb (by simp [z]))).trans (hk b ob (fun z => hb (by simp [z])) (fun z => hb (by simp [z])) q)) hf (Nat.le_refl _) new
    refine ⟨.ref s.heap.objs.size, _, I1, rfl, ⟨_, x, rfl, I.hok.fresh (Nat.le_refl _), rfl, fun ys hy => by rw [I.tuple_inj hy hq]; exact hx⟩, ⟨⟨y, ?_⟩, st'.1.at fun o q => (sb.2 it (Ne.symm hne)).trans q, hne⟩, fun b hb => ?_⟩
    · have e1 : ((i + 1 : Nat) : Int) = (i : Int) + 1 := by omega
      rw [e1]
      exact he'
    · have z : b = e ∨ b = it := by simpa using hb
      have hb' : b < s.heap.objs.size := z.elim (fun z => by rw [z]; exact hel) fun z => by rw [z]; exact hil
      rw [upd_ne (Nat.ne_of_lt hb')]
      exact (hf b hb).1
  done := by
    intro X hP hw hK hc i pins s σ H E I hf st hg
    subst hP hw hK
    obtain ⟨⟨old, he⟩, hit, hne⟩ := st
    obtain ⟨xs, hq, hx⟩ := hg
    obtain ⟨its, rv, p, hz⟩ := I.tuple hq
    obtain ⟨f0, f1, f2, f3, f4, f5⟩ := hf it (by simp)
    have hl := rv.length
    have hs : its.toArray.size ≤ i := by simp at hl ⊢; omega
    have hT : s.TypeIs (.ref e) "enumerate" := ⟨_, he, rfl⟩
    have dn : ∀ {Q : Option Value → Shared → Prop} {E : Value → Shared → Prop}, (∀ h', Heap.ExtBut it s.heap h' → Q none { s with heap := h' }) → wpAny (model X.prog X.w) X.A (pyNext (.ref e)) Q E s := fun {Q E} q => by
      unfold pyNext
      refine wpAny_bind (wpAny_attempt (wpAny_callSpecial?_slot (name := Str.ofString "__next__") hT F.slot_enumerate_next (wpAny_call_entry F.slot_enumerate_next hT F.entry_enumerate_next ?_ (F.args_enumerate_next_1 _))))
      show wpAny _ _ (field (.ref e) 2 >>= _) _ _ _
      refine wpAny_bind (wpAny_field he rfl (x := .ref it) rfl ?_)
      refine wpAny_bind (wpAny_nextOf_tuple_end (A := X.A.in1) (I.ok.hd hc) hit p (by simp; omega) fun h' x he' hx' => ?_)
      obtain ⟨o, ho, hcl⟩ := hx'
      exact wpAny_bind (wpAny_isInstance (T := "StopIteration") (b := true) ⟨o, ho, hcl⟩ isSubtype_stop (wpAny_pure (q _ he')))
    exact dn fun h' eb => ⟨rfl, I.turned (t' := s.toks) (fun b o hb q => eb b o hb q) f0 f1 f3 f4 f5⟩
  self := fun A i s Q E st h => by
    obtain ⟨⟨_, he⟩, _⟩ := st
    exact wpAny_pyIter_enum he h
def iEnumT (K : PySem.W.Frag) (ta : TA) : TI := fun σ H R => ta σ H fun vs H1 => ∃ a xs, vs = [.ref a] ∧ SqT K H1 a xs ∧ R (IteT K a) H1
theorem pi_enumT {X : Cx} {e : Expr} {ta : TA} {p pos tpos : Pos} {elts : List Expr} {kk : Nat} (hg : Gl X "enumerate") (hm : X.mg "enumerate" = none) (ha : PA X [e] ta) (hs : starEach [e] X.env = [(false, eval e X.env)] := by rfl) :
    PI X (.Tuple elts kk tpos) (.Call (.Name "enumerate" p) [e] [] pos) (iEnumT X.K ta) := by
  refine ⟨fun pins s σ H R I h => ?_⟩
  refine Call_ (ld_blt I hg hm boot_enumerate (PyProof.Rows.callWith_type1 (thn (ha.run pos pins s σ H _ I h) fun us s1 ⟨vs, H1, I1, r1, a, xs, ex, hq, q⟩ => ?_) hs rfl))
  subst ex
  cases r1 with
  | cons r rr =>
    cases rr
    cases r
    obtain ⟨its, rv, p', hz⟩ := I1.tuple hq
    refine call_enumT p' fun h' he hit hk => wpAny_pyIter_enum he ?_
    have I2 : Inv X pins σ H1 { s1 with heap := h' } := I1.kept (t' := s1.toks) hk
    refine ⟨s1.heap.objs.size + 1, [s1.heap.objs.size + 1, s1.heap.objs.size], _, _, H1, rfl, I2, turn_enumT a (s1.heap.objs.size + 1) s1.heap.objs.size, ⟨⟨.none, he⟩, hit, Nat.succ_ne_self _⟩, fun b hb => ?_, q⟩
    have z : b = s1.heap.objs.size + 1 ∨ b = s1.heap.objs.size := by simpa using hb
    have hle : s1.heap.objs.size ≤ b := by rcases z with rfl | rfl <;> omega
    exact I1.fpOk hle (I1.hok.fresh hle)
end JgS
namespace Dl
open PySem PySem.Spec PyProof.Rows L2
section
variable {B : Par} {X : Cx} {as as' : List Addr} {ρ ρ' : Rho} {μ μ' : Mu} {σ σ' : L2.St} {H H' : Hp} {v w : V} {d d' : D} {i : Nat} {m m' : M} {p a : Addr} {o : HO} {ts : List Nat} {e e2 ob ix : Expr} {ra ro ri : DE} {pos pp tpos : Pos} {ds : List D} {ps : List Pin}
/-! ### o[i] = e -/
def oSetI : D → D → D → Rho → Mu → (Rho → Mu → Prop) → Prop := fun x i d ρ μ N => match getM ρ μ x with
  | some (.lst xs) => ∃ k j, i = .int k ∧ ixN xs.length k = some j ∧ N (putM ρ μ x (.lst (xs.set j d))).1 (putM ρ μ x (.lst (xs.set j d))).2
  | some (.dic ds) => ∃ k, keyD i = some k ∧ ds.length < sizeLine ∧ N (putM ρ μ x (.dic (dput ds k d))).1 (putM ρ μ x (.dic (dput ds k d))).2
  | some (.dit ds) => ∃ k, tkeyD i = some k ∧ ds.length < sizeLine ∧ N (putM ρ μ x (.dit (dput ds k d))).1 (putM ρ μ x (.dit (dput ds k d))).2
  | _ => False
def rSetI : TSet := fun o i v H Q => rSetL o i v H Q ∨ rSetD o i v H Q
theorem set_any (hu : X.A.units + 1 < cLine) : PSet X rSetI := by
  intro pins s σ H o i v ov iv u Q I ro ri rv h
  rcases h with h | h
  · exact set_list pins s σ H o i v ov iv u Q I ro ri rv h
  · exact set_dict hu pins s σ H o i v ov iv u Q I ro ri rv h
theorem keyD_kept {x : D} {k : Key} (e : keyD x = some k) : x.kept = true := by cases x <;> first | rfl | cases e
theorem set_ok {x i : D} {vo vi : V} {N : Rho → Mu → Prop} {Q : Hp → Prop} (S : SimB B as ρ μ σ H) (rx : RepTB B as ρ σ H vo x) (ri : RepTB B as ρ σ H vi i) (rv : RepB B as ρ σ H v d) (q : oSetI x i d ρ μ N)
    (fin : ∀ ρ' μ' H', N ρ' μ' → SimB B as ρ' μ' σ H' → Q H') : rSetI vo vi v H Q := by
  unfold oSetI at q
  split at q
  · rename_i xs eg
    obtain ⟨k, j, rfl, e, q⟩ := q
    cases ri.int
    obtain ⟨p, o, rfl, ho, mo, ch⟩ := S.got rx eg
    obtain ⟨ws, rfl, r⟩ := mo
    obtain ⟨S2, k2⟩ := ch (o' := .lst (ws.set j v)) (m' := .lst (xs.set j d)) ⟨_, rfl, r.set j rv⟩
    exact Or.inl ⟨p, ws, k, j, rfl, rfl, ho, by rw [r.length]; exact e, fin _ _ _ q S2⟩
  · rename_i ds eg
    obtain ⟨k, e, hz, q⟩ := q
    obtain ⟨p, o, rfl, ho, mo, ch⟩ := S.got rx eg
    obtain ⟨kvs, rfl, hk, r⟩ := mo
    have kr := (KR.mk hk r).put (k := k) rv
    obtain ⟨S2, k2⟩ := ch (o' := .dK (putK kvs k v)) (m' := .dic (dput ds k d)) ⟨_, rfl, kr.k, kr.r⟩
    refine Or.inr ⟨p, _, rfl, Or.inl ⟨kvs, k, ho, key_v e (ri.rep (keyD_kept e)), ?_, rfl⟩, fin _ _ _ q S2⟩
    rw [(KR.mk hk r).length]
    exact hz
  · rename_i ds eg
    obtain ⟨k, e, hz, q⟩ := q
    obtain ⟨p, o, rfl, ho, mo, ch⟩ := S.got rx eg
    obtain ⟨kvs, rfl, hk, r⟩ := mo
    have kr := (KR.mk hk r).put (k := k) rv
    obtain ⟨S2, k2⟩ := ch (o' := .dT (putK kvs k v)) (m' := .dit (dput ds k d)) ⟨_, rfl, kr.k, kr.r⟩
    cases i with
    | tup ys =>
      obtain ⟨b, ws, rfl, hb, r2⟩ := look_tup S ri rfl
      rw [keys_v (show keysD ys = some k from e) r2] at hb
      refine Or.inr ⟨p, _, rfl, Or.inr ⟨kvs, k, b, ho, rfl, hb, ?_, rfl⟩, fin _ _ _ q S2⟩
      rw [(KR.mk hk r).length]
      exact hz
    | _ => cases e
  · exact q.elim
def gdSub (ro ri : DE) : DG := fun d ρ μ N => ro ρ μ (fun x ρ1 μ1 => ri ρ1 μ1 (fun i ρ2 μ2 => oSetI x i d ρ2 μ2 N) never) never
theorem pdg_sub (hu : X.A.units + 1 < cLine) (ho : PD X B ob ro) (hi : PD X B ix ri)
    (ha : ∀ v, assign (.Subscript ob ix pos) X.env v = (do
      let ov ← holding [v] (eval ob X.env)
      let iv ← holding [v, ov] (eval ix X.env)
      standAt pos
      holding [v, ov, iv] (setItem ov iv v)
      release [v, ov, iv] []) := by intro _; rfl) : PDG X B ts (.Subscript ob ix pos) (gdSub ro ri) := (pg_sub ho hi (set_any hu) ha).imp fun v σ H Q h => by
  obtain ⟨as, ρ, μ, d, N, S, r, q, fin⟩ := h
  refine ⟨as, ρ, μ, _, never, S, q, fun _ _ _ _ _ _ _ z => z.elim, fun x as1 ρ1 μ1 H1 vo q1 k1 S1 t1 => ?_⟩
  refine ⟨as1, ρ1, μ1, _, never, S1, q1, fun _ _ _ _ _ _ _ z => z.elim, fun i as2 ρ2 μ2 H2 vi q2 k2 S2 t2 => ?_⟩
  exact set_ok S2 (RepT.step k2.g t1) t2 ((RepT.step k2.g (RepT.step k1.g r.t)).rep r.kept) q2 fun ρ' μ' H' q3 S3 => fin as2 ρ' μ' σ H' rfl S3 q3
/-! ### where a row stands, all along -/
def HasA (O : Objs) (K : PySem.W.Frag) (ps : List Pin) (as : List Addr) (C : Rho → Mu → Prop) (ds : List D) (sq : Hp → List V → Prop) : Prop := ∀ fm W, (∀ z ∈ ps, z ∈ fm.P) → (∃ t, fm.as = as ++ t) →
  ∀ as' ρ μ σ H, SimB ⟨O, K, fm, W⟩ as' ρ μ σ H → C ρ μ → ∃ vs, sq H vs ∧ RepsB ⟨O, K, fm, W⟩ as' ρ σ H vs ds
variable {O : Objs} {K : PySem.W.Frag} {C : Rho → Mu → Prop}
theorem has_list (hp : .rep (.ref a) (.lst ds) ∈ ps) : HasA O K ps as cAll ds (fun H vs => SqL K H a vs) := fun fm W hP _ as ρ μ σ H S _ => by
  have q : Rep O K as (vis ⟨O, K, fm, W⟩ as ρ σ H) (.ref a) (.lst ds) := S.pin _ (hP _ hp)
  cases q with
  | lst h r => exact ⟨_, SqL.of (res_sub _ _ h), r⟩
theorem has_tup (hp : .rep (.ref a) (.tup ds) ∈ ps) : HasA O K ps as cAll ds (fun H vs => SqT K H a vs) := fun fm W hP _ as ρ μ σ H S _ => by
  have q : Rep O K as (vis ⟨O, K, fm, W⟩ as ρ σ H) (.ref a) (.tup ds) := S.pin _ (hP _ hp)
  cases q with
  | tup h r => exact ⟨_, SqT.of (res_sub _ _ h), r⟩
theorem has_num {j : Nat} (hj : as[j]? = some a) : HasA O K [] as (fun _ μ => μ[j]? = some (.lst ds)) ds (fun H vs => SqL K H a vs) := fun fm W _ hA as' ρ μ σ H S c => by
  obtain ⟨t, ht⟩ := hA
  have e0 : fm.as[j]? = some a := by rw [ht, List.getElem?_append_left (List.getElem?_eq_some_iff.mp hj).1]; exact hj
  obtain ⟨o, ho, vs, rfl, r⟩ := S.mu.mu j _ a c (S.base.at e0)
  exact ⟨vs, SqL.of ho, r⟩
theorem src_list {Φ : List D → (Rho → Mu → Prop) → Rho → Mu → Prop} (S : SimB B as ρ μ σ H) (t : RepTB B as ρ σ H v d) (sz : Sized H)
    (q : ∃ ρ2 d2, stow ρ d = some (ρ2, d2) ∧ match d2 with
      | .lst xs => xs.length ≤ sizeLine → Φ xs cAll ρ2 μ
      | .num j => ∃ xs, μ[j]? = some (.lst xs) ∧ (xs.length ≤ sizeLine → Φ xs (fun _ μ => μ[j]? = some (.lst xs)) ρ2 μ)
      | _ => False) :
    ∃ a vs ds C ρ2 ps, v = .ref a ∧ SqL B.K H a vs ∧ Φ ds C ρ2 μ ∧ SimB B as ρ2 μ σ H ∧ StepB B as ρ σ H as ρ2 H ∧ (∀ q ∈ ps, PinOk B.O B.K as (vis B as ρ2 σ H) q) ∧ HasA B.O B.K ps as C ds (fun H vs => SqL B.K H a vs) := by
  obtain ⟨ρ2, d2, e, q2⟩ := q
  obtain ⟨S2, r2, k2⟩ := S.stow t e
  cases d2 <;> first | exact q2.elim | skip
  · obtain ⟨xs, e2, q2⟩ := q2
    cases r2 with
    | @num _ p hp =>
      obtain ⟨o, ho, vs, rfl, r⟩ := S2.mu.mu _ (.lst xs) p e2 hp
      exact ⟨p, vs, xs, _, ρ2, [], rfl, SqL.of ho, q2 (by rw [← r.length]; exact (sz p).1 _ ho), S2, k2, pin0, has_num hp⟩
  · cases r2 with
    | @lst a vs _ h r => exact ⟨a, vs, _, _, ρ2, _, rfl, SqL.of (res_sub _ _ h), q2 (by rw [← r.length]; exact (sz a).1 _ (res_sub _ _ h)), S2, k2, pin1 (q0 := .rep _ _) (show Rep _ _ _ _ _ _ from .lst h r), has_list List.mem_cons_self⟩
/-! ### enumerate -/
def enumD (xs : List D) : List D := xs.mapIdx fun i d => .tup [.int (i : Nat), d]
theorem walks_enum {sq : Hp → List V → Prop} {J : It} (h : HasA O K ps as C ds sq)
    (go : ∀ i H vs x, sq H vs → vs[i]? = some x → J.go i H) (yld : ∀ i H v H', J.yld i H v H' → ∃ T x, v = .ref T ∧ H T = none ∧ H' = upd H T (.tup [.int (i : Nat), x]) ∧ ∀ xs, sq H xs → xs[i]? = some x)
    (stop : ∀ i H vs, sq H vs → vs.length ≤ i → J.stop i H) : WalksA O K ps as J (enumD ds) C := fun fm W hP hA => by
  have hl : (enumD ds).length = ds.length := by simp [enumD]
  refine ⟨fun i as ρ μ σ H hi S c => ?_, fun as ρ μ σ H S c => ?_⟩
  · obtain ⟨vs, hq, r⟩ := h fm W hP hA as ρ μ σ H S c
    rw [hl] at hi
    have hi' : i < vs.length := by rw [r.length]; exact hi
    refine ⟨go i H vs vs[i] hq (by simp [hi']), fun x H' y => ?_⟩
    obtain ⟨T, x, rfl, n, rfl, ex⟩ := yld i H x H' y
    obtain ⟨d, e, q⟩ := r.get i x (ex vs hq)
    have up := ext_lay (o := HO.tup [.int (i : Nat), x]) n
    have hv : vis ⟨O, K, fm, W⟩ as ρ σ (upd H T (.tup [.int (i : Nat), x])) T = some (.tup [.int (i : Nat), x]) := res_some.mpr ⟨S.sight n, upd_same⟩
    refine ⟨up, .tup [.int (i : Nat), d], ?_, .tup hv (.cons (.int _) (.cons (q.le (res_le fun a u w e => ⟨w, up a u e⟩)) .nil))⟩
    simp [enumD, e]
  · obtain ⟨vs, hq, r⟩ := h fm W hP hA as ρ μ σ H S c
    rw [hl, ← r.length]
    exact stop _ H vs hq (Nat.le_refl _)
def iEnumL (ra : DE) : DI := fun ρ μ Φ Ψ => iSeq ra ρ μ (fun ds C ρ1 μ1 => Φ (enumD ds) C ρ1 μ1) Ψ
theorem pdi_enumL {elts : List Expr} {kk : Nat} (hg : Gl X "enumerate") (hm : X.mg "enumerate" = none) (he : PD X B e ra) (hs : starEach [e] X.env = [(false, eval e X.env)] := by rfl) (hK : X.K = B.K := by rfl) :
    PDI X B (.Tuple elts kk tpos) (.Call (.Name "enumerate" pp) [e] [] pos) (iEnumL ra) := (pi_enum hg hm (pa_cons he.sized pa_nil hs) hs).imp fun σ H R q => by
  obtain ⟨as, ρ, μ, Φ, Ψ, S, q, x, fin⟩ := q
  refine ⟨as, ρ, μ, _, Ψ, S, q, x, fun d1 as1 ρ1 μ1 H1 v1 q1 k1 S1 t1 sz => ?_⟩
  obtain ⟨a, vs, ds, C, ρ2, ps, rfl, hq, q2, S2, k2, hp, hh⟩ := src_list S1 t1 sz q1
  rw [hK]
  exact ⟨a, vs, rfl, hq, fin _ _ as1 ρ2 μ1 H1 _ ps q2 (k1.trans k2) S2 hp (walks_enum hh (fun i H vs x h e => ⟨vs, x, h, e⟩) (fun i H v H' y => y) fun i H vs h e => ⟨vs, h, e⟩)⟩
def iEnumT (ra : DE) : DI := fun ρ μ Φ Ψ => iTupD ra ρ μ (fun ds C ρ1 μ1 => Φ (enumD ds) C ρ1 μ1) Ψ
theorem pdi_enumT {elts : List Expr} {kk : Nat} (hg : Gl X "enumerate") (hm : X.mg "enumerate" = none) (he : PD X B e ra) (hs : starEach [e] X.env = [(false, eval e X.env)] := by rfl) (hK : X.K = B.K := by rfl) :
    PDI X B (.Tuple elts kk tpos) (.Call (.Name "enumerate" pp) [e] [] pos) (iEnumT ra) := (JgS.pi_enumT hg hm (pa_cons he.sized pa_nil hs) hs).imp fun σ H R q => by
  obtain ⟨as, ρ, μ, Φ, Ψ, S, q, x, fin⟩ := q
  refine ⟨as, ρ, μ, _, Ψ, S, q, x, fun d1 as1 ρ1 μ1 H1 v1 q1 k1 S1 t1 sz => ?_⟩
  obtain ⟨xs, rfl, q1⟩ := q1
  rw [hK]
  cases t1.rep rfl with
  | @tup a vs _ h r =>
    exact ⟨a, vs, rfl, SqT.of (res_sub _ _ h), fin _ _ as1 ρ1 μ1 H1 _ _ (q1 (by rw [← r.length]; exact (sz a).2.1 _ (res_sub _ _ h))) k1 S1 (pin1 (q0 := .rep _ _) (show Rep _ _ _ _ _ _ from .tup h r))
      (walks_enum (has_tup List.mem_cons_self) (fun i H vs x h e => ⟨vs, x, h, e⟩) (fun i H v H' y => y) fun i H vs h e => ⟨vs, h, e⟩)⟩
end
end Dl
namespace Dl
open PySem PySem.Spec PyProof.Rows L2
section
variable {O : Objs} {K : PySem.W.Frag} {as as' : List Addr} {Hv H H' : Hp} {μ μ' : Mu} {j n : Nat} {F : Addr → Prop}
/-! ### a box: a list of three numbers, of which only bounds are told -/
theorem MuOk.to {m' : M} (S : MuOk O K as Hv H μ) {m : M} (e : μ[j]? = some m) (h : ∀ p o, H p = some o → MObj O K as Hv p o m → MObj O K as Hv p o m') : MuOk O K as Hv H (μ.set j m') :=
  ⟨by rw [List.length_set]; exact S.len, S.nod, fun k m2 p a b => by
    rcases getElem?_set_cases a with ⟨rfl, q, _⟩ | ⟨_, a⟩
    · subst q
      obtain ⟨o, ho, mo⟩ := S.mu k m p e b
      exact ⟨o, ho, h p o ho mo⟩
    · exact S.mu k m2 p a b⟩
theorem MuOk.unbox (S : MuOk O K as Hv H μ) (e : μ[j]? = some (.box n)) : ∃ a b c : Int, (0 ≤ b ∧ b < 2147483648 ∧ 0 ≤ c ∧ c ≤ (n : Int)) ∧ MuOk O K as Hv H (μ.set j (.lst [.int a, .int b, .int c])) := by
  have hl : j < as.length := by
    rw [S.len]
    exact (List.getElem?_eq_some_iff.mp e).1
  obtain ⟨o, ho, a, b, c, rfl, h⟩ := S.mu j _ as[j] e (List.getElem?_eq_getElem hl)
  refine ⟨a, b, c, h, ?_⟩
  refine ⟨by rw [List.length_set]; exact S.len, S.nod, fun k m2 p x y => ?_⟩
  rcases getElem?_set_cases x with ⟨rfl, q, _⟩ | ⟨_, x⟩
  · subst q
    rw [List.getElem?_eq_getElem hl] at y
    cases y
    exact ⟨_, ho, _, rfl, .cons (.int _) (.cons (.int _) (.cons (.int _) .nil))⟩
  · exact S.mu k m2 p x y
theorem MuOk.rebox {a b c : Int} (S : MuOk O K as Hv H μ) (e : μ[j]? = some (.lst [.int a, .int b, .int c])) (h : 0 ≤ b ∧ b < 2147483648 ∧ 0 ≤ c ∧ c ≤ (n : Int)) : MuOk O K as Hv H (μ.set j (.box n)) :=
  S.to e fun p o _ mo => by
    obtain ⟨vs, rfl, r⟩ := mo
    cases r with
    | cons x r =>
      cases x
      cases r with
      | cons x r =>
        cases x
        cases r with
        | cons x r =>
          cases x
          cases r
          exact ⟨a, b, c, rfl, h⟩
/-- a promise about boxes, by one about their numbers -/
def Unbox (sp : SpD) (sp' : SpD) : Prop := ∀ ds μ Φ Ψ, sp' ds μ Φ Ψ →
  ∃ (j n : Nat), μ[j]? = some (.box n) ∧ ∀ a b c : Int, 0 ≤ b → b < 2147483648 → 0 ≤ c → c ≤ (n : Int) →
    sp ds (μ.set j (.lst [.int a, .int b, .int c])) (fun d μ1 => ∃ (a1 b1 c1 : Int) (n1 : Nat), μ1[j]? = some (.lst [.int a1, .int b1, .int c1]) ∧ (0 ≤ b1 ∧ b1 < 2147483648 ∧ 0 ≤ c1 ∧ c1 ≤ (n1 : Int)) ∧ Φ d (μ1.set j (.box n1))) Ψ
def NewBox (sp : SpD) (sp' : SpD) : Prop := ∀ ds μ Φ Ψ, sp' ds μ Φ Ψ →
  sp ds μ (fun d μ1 => ∃ (j : Nat) (a1 b1 c1 : Int) (n1 : Nat), μ1[j]? = some (.lst [.int a1, .int b1, .int c1]) ∧ (0 ≤ b1 ∧ b1 < 2147483648 ∧ 0 ≤ c1 ∧ c1 ≤ (n1 : Int)) ∧ Φ d (μ1.set j (.box n1))) Ψ
variable {P : Program} {w : World} {mg : Str → Option Value} {base : Heap} {k : Nat} {f : Addr} {fd : FuncData} {ps : List Str} {sp sp' : SpD}
theorem spV_unbox (h : Unbox sp sp') : ∀ vs H Q E, spV O K sp' vs H Q E → spV O K sp vs H Q E := fun vs H Q E q => by
  obtain ⟨F, as, ds, μ, Φ, Ψ, rs, mo, ft, fa, q, fin, exc⟩ := q
  obtain ⟨j, n, e, q⟩ := h _ _ _ _ q
  obtain ⟨a, b, c, ⟨h1, h2, h3, h4⟩, mo'⟩ := mo.unbox e
  refine ⟨F, as, ds, _, _, Ψ, rs, mo', ft, fa, q a b c h1 h2 h3 h4, fun d μ' as' H' v q' p r => ?_, exc⟩
  obtain ⟨a1, b1, c1, n1, e1, hb, q'⟩ := q'
  exact fin d _ as' H' v q' ⟨p.g, p.mu.rebox e1 hb, p.stay, p.fas⟩ r
theorem spV_newbox (h : NewBox sp sp') : ∀ vs H Q E, spV O K sp' vs H Q E → spV O K sp vs H Q E := fun vs H Q E q => by
  obtain ⟨F, as, ds, μ, Φ, Ψ, rs, mo, ft, fa, q, fin, exc⟩ := q
  refine ⟨F, as, ds, _, _, Ψ, rs, mo, ft, fa, h _ _ _ _ q, fun d μ' as' H' v q' p r => ?_, exc⟩
  obtain ⟨j, a1, b1, c1, n1, e1, hb, q'⟩ := q'
  exact fin d _ as' H' v q' ⟨p.g, p.mu.rebox e1 hb, p.stay, p.fas⟩ r
theorem FnD.unbox (F : FnD O P w K mg base k f fd ps sp) (h : Unbox sp sp') : FnD O P w K mg base k f fd ps sp' := FnC.imp F (spV_unbox h)
theorem FnD.newbox (F : FnD O P w K mg base k f fd ps sp) (h : NewBox sp sp') : FnD O P w K mg base k f fd ps sp' := FnC.imp F (spV_newbox h)
end
end Dl
namespace Dl
open PySem PySem.Spec PyProof.Rows L2
/-! ### readings, step by step -/
section
variable {P : Program} {w : World} {K : PySem.W.Frag} {mg : Str → Option Value} {base : Heap} {O : Objs}
theorem fnD_by {x qual : Str} {st : Stmt} {f : Addr} {fd : FuncData} {N ps : List Str} {k : Nat} {sp : SpD} (F : Fun K x qual st f fd) (S : FnScope N ps (defScope st))
    (len : ∀ ds μ Φ Ψ, sp ds μ Φ Ψ → ds.length = ps.length)
    (body : ∃ r : DS, (∀ (fm : Fm) (W : WX) (cdv : Value) (A : Around) (outer : List Env) (s : Shared) (H : Hp) (E : XK),
        Room k (A.deeper (envOfC qual (defScope st) s.heap.objs.size f cdv)) → A.guards = some [] → L2N.Takes (cxOf (L2N.CX P w) P w K mg base N qual (defScope st) f cdv A outer s H E) W →
        PassesOwn (model P w) (A.deeper (envOfC qual (defScope st) s.heap.objs.size f cdv)) (envOfC qual (defScope st) s.heap.objs.size f cdv) (cxOf (L2N.CX P w) P w K mg base N qual (defScope st) f cdv A outer s H E).xe →
        PDSs (cxOf (L2N.CX P w) P w K mg base N qual (defScope st) f cdv A outer s H E) ⟨O, K, fm, W⟩ (defBody st) r) ∧
      ∀ ds μ Φ Ψ, ds.all D.kept = true → sp ds μ Φ Ψ → r { nx := fun _ μ' => Φ .non μ', rt := Φ, ex := fun e _ μ' => Ψ e μ' } (startD N ds) μ) :
    FnD O P w K mg base (k + 1) f fd ps sp := by
  obtain ⟨r, h1, h2⟩ := body
  refine fnD_of F S len ⟨r, fun B cdv A outer s H E e1 e2 e3 room gua tk po => ?_, h2⟩
  obtain ⟨O', K', fm, W⟩ := B
  have e1' : O = O' := e1.symm
  have e2' : K = K' := e2.symm
  subst e1' e2'
  exact h1 fm W cdv A outer s H E room gua tk po
end
section
variable {ρ ρ1 ρ2 : Rho} {μ μ1 : Mu} {Φ : KD} {Ψ : KX} {N : DN} {r r' : DS} {re ra rb ro ri : DE} {rt ta tb : DT} {rf : DF} {i j k n : Nat} {d d1 d2 x y : D} {Φt : Bool → Rho → Mu → Prop} {Φa : List D → Rho → Mu → Prop} {rs : DA} {a b : Int} {z z' : Str} {Φd : D → Prop} {P : Prop}
theorem start_at {N : List Str} {ds : List D} {r : DS} {D0 : DN} (e : startD N ds = ρ) (h : r D0 ρ μ) : r D0 (startD N ds) μ := e ▸ h
theorem q_seq (h : r { N with nx := fun ρ μ => r' N ρ μ } ρ μ) : rSeq r r' N ρ μ := h
theorem q_next (h : N.nx ρ μ) : rNext N ρ μ := h
theorem q_brk (h : N.bk ρ μ) : rBreak N ρ μ := h
theorem q_cont (h : N.ct ρ μ) : rCont N ρ μ := h
theorem q_drop (h : re ρ μ (fun _ ρ' μ' => N.nx ρ' μ') N.ex) : rDrop re N ρ μ := h
theorem q_ret (h : re ρ μ (fun d ρ' μ' => ∃ ρ2 d2, stow ρ' d = some (ρ2, d2) ∧ N.rt d2 μ') N.ex) : rRet re N ρ μ := h
theorem q_retN (h : N.rt .non μ) : rRetN N ρ μ := h
theorem q_set (h : re ρ μ (fun d ρ' μ' => ∃ ρ2 d2, stow ρ' d = some (ρ2, d2) ∧ N.nx (ρ2.set i (.val d2)) μ') N.ex) : rSet i re N ρ μ := h
theorem q_own (h : rf ρ μ (fun m ρ' μ' => i < ρ'.length ∧ N.nx (ρ'.set i (.own m)) μ') N.ex) : rOwn i rf N ρ μ := h
theorem q_if (h : rt ρ μ (fun b ρ' μ' => if b = true then r N ρ' μ' else r' N ρ' μ') N.ex) : rIf rt r r' N ρ μ := h
theorem q_for {wi : DI} {g : DG} (h : wi ρ μ (fun ds C ρ1 μ1 => forD g r C N ds ρ1 μ1) N.ex) : rFor wi g r N ρ μ := h
theorem q_asg {g : DG} (h : re ρ μ (fun d ρ1 μ1 => ∃ ρ2 d2, stow ρ1 d = some (ρ2, d2) ∧ g d2 ρ2 μ1 N.nx) N.ex) : rAsg re g N ρ μ := h
theorem q_var (e : ρ[i]? = some (.val d)) (h : Φ d ρ μ) : rName i ρ μ Φ Ψ := by
  unfold rName
  rw [e]
  exact h
theorem q_varO {m : M} (e : ρ[i]? = some (.own m)) (h : Φ (.var i) ρ μ) : rName i ρ μ Φ Ψ := by
  unfold rName
  rw [e]
  exact h
theorem q_c (h : Φ d ρ μ) : rC d ρ μ Φ Ψ := h
theorem q_bin {o : D → D → Rho → Mu → (D → Prop) → Prop} (h : ra ρ μ (fun x ρ1 μ1 => rb ρ1 μ1 (fun y ρ2 μ2 => o x y ρ2 μ2 fun d => Φ d ρ2 μ2) Ψ) Ψ) : rBin o ra rb ρ μ Φ Ψ := h
theorem q_un {o : D → Rho → Mu → (D → Prop) → Prop} (h : ra ρ μ (fun x ρ1 μ1 => o x ρ1 μ1 fun d => Φ d ρ1 μ1) Ψ) : rUn o ra ρ μ Φ Ψ := h
theorem q_nil (h : Φa [] ρ μ) : rNil ρ μ Φa Ψ := h
theorem q_cons (h : ra ρ μ (fun x ρ1 μ1 => rs ρ1 μ1 (fun xs ρ2 μ2 => Φa (x :: xs) ρ2 μ2) Ψ) Ψ) : rCons ra rs ρ μ Φa Ψ := h
theorem q_val (h : ra ρ μ (fun x ρ1 μ1 => ∃ b, x = .bl b ∧ Φt b ρ1 μ1) Ψ) : rVal ra ρ μ Φt Ψ := h
theorem q_and (h : ta ρ μ (fun b ρ1 μ1 => if b = true then tb ρ1 μ1 Φt Ψ else Φt false ρ1 μ1) Ψ) : rAnd ta tb ρ μ Φt Ψ := h
theorem q_or (h : ta ρ μ (fun b ρ1 μ1 => if b = true then Φt true ρ1 μ1 else tb ρ1 μ1 Φt Ψ) Ψ) : rOr ta tb ρ μ Φt Ψ := h
theorem q_not (h : ta ρ μ (fun b ρ1 μ1 => Φt (!b) ρ1 μ1) Ψ) : rNot ta ρ μ Φt Ψ := h
theorem q_andV (h : ra ρ μ (fun x ρ1 μ1 => ∃ b, x = .bl b ∧ if b = true then rb ρ1 μ1 Φ Ψ else Φ (.bl false) ρ1 μ1) Ψ) : rAndV ra rb ρ μ Φ Ψ := h
theorem q_orV (h : ra ρ μ (fun x ρ1 μ1 => ∃ b, x = .bl b ∧ if b = true then Φ (.bl true) ρ1 μ1 else rb ρ1 μ1 Φ Ψ) Ψ) : rOrV ra rb ρ μ Φ Ψ := h
theorem q_notV (h : ra ρ μ (fun x ρ1 μ1 => ∃ b, x = .bl b ∧ Φ (.bl (!b)) ρ1 μ1) Ψ) : rNotV ra ρ μ Φ Ψ := h
theorem q_ifE (h : rt ρ μ (fun b ρ1 μ1 => if b = true then ra ρ1 μ1 Φ Ψ else rb ρ1 μ1 Φ Ψ) Ψ) : rIfE rt ra rb ρ μ Φ Ψ := h
theorem q_tup (h : rs ρ μ (fun ds ρ1 μ1 => ds.all D.kept = true ∧ ds.length ≤ sizeLine ∧ Φ (.tup ds) ρ1 μ1) Ψ) : rTup rs ρ μ Φ Ψ := h
theorem q_lst {Φm : M → Rho → Mu → Prop} (h : rs ρ μ (fun ds ρ1 μ1 => ds.all D.kept = true ∧ ds.length ≤ sizeLine ∧ Φm (.lst ds) ρ1 μ1) Ψ) : rLst rs ρ μ Φm Ψ := h
theorem q_tree (h : rf ρ μ (fun m ρ1 μ1 => ∃ d, m.tree = some d ∧ Φ d ρ1 μ1) Ψ) : rTree rf ρ μ Φ Ψ := h
theorem q_num (h : rf ρ μ (fun m ρ1 μ1 => Φ (.num μ1.length) ρ1 (μ1 ++ [m])) Ψ) : rNum rf ρ μ Φ Ψ := h
theorem q_fn {o : List D → Rho → Mu → (D → Prop) → Prop} (h : rs ρ μ (fun ds ρ1 μ1 => o ds ρ1 μ1 fun d => Φ d ρ1 μ1) Ψ) : rFn o rs ρ μ Φ Ψ := h
theorem q_mk {o : List D → Rho → Mu → (M → Prop) → Prop} {Φm : M → Rho → Mu → Prop} (h : rs ρ μ (fun ds ρ1 μ1 => o ds ρ1 μ1 fun m => Φm m ρ1 μ1) Ψ) : rMk o rs ρ μ Φm Ψ := h
theorem q_meth {T : String} {o : D → List D → Rho → Mu → KD → Prop} (h : ra ρ μ (fun x ρ1 μ1 => tyD T x ρ1 μ1 ∧ rs ρ1 μ1 (fun ds ρ2 μ2 => o x ds ρ2 μ2 Φ) Ψ) Ψ) : rMeth T o ra rs ρ μ Φ Ψ := h
theorem q_call {sp : SpD} (h : rs ρ μ (fun ds ρ1 μ1 => ∃ ds2 fl, pass ρ1 ds = some (ds2, fl) ∧ (fl = true → ρ1.all SV.noIns = true) ∧
    sp ds2 μ1 (fun d μ2 => (fl = true → d.flat = true ∧ μ2.all M.flat = true) ∧ Φ d ρ1 μ2) fun e μ2 => fl = false ∧ Ψ e ρ1 μ2) Ψ) : rCall sp rs ρ μ Φ Ψ := h
theorem q_ex2 {P : Rho → D → Prop} (e : stow ρ d = some (ρ1, d1)) (h : P ρ1 d1) : ∃ ρ2 d2, stow ρ d = some (ρ2, d2) ∧ P ρ2 d2 := ⟨ρ1, d1, e, h⟩
theorem q_keep {P : Rho → D → Prop} (e : d.kept = true) (h : P ρ d) : ∃ ρ2 d2, stow ρ d = some (ρ2, d2) ∧ P ρ2 d2 := ⟨ρ, d, stow_kept e, h⟩
theorem q_pass {P : List D → Bool → Prop} {ds ds2 : List D} (e : pass ρ ds = some (ds2, false)) (h : P ds2 false) : ∃ ds2 fl, pass ρ ds = some (ds2, fl) ∧ (fl = true → ρ.all SV.noIns = true) ∧ P ds2 fl := ⟨ds2, false, e, (fun z => nomatch z), h⟩
theorem q_back (h : P) {Q : Prop} : (false = true → Q) ∧ P := ⟨(fun z => nomatch z), h⟩
theorem q_backX (h : P) : false = false ∧ P := ⟨rfl, h⟩
theorem q_b {b : Bool} {Q : Bool → Prop} (h : Q b) : ∃ b', D.bl b = .bl b' ∧ Q b' := ⟨b, rfl, h⟩
theorem q_t {P Q : Prop} (h : P) : if true = true then P else Q := h
theorem q_f {P Q : Prop} (h : Q) : if false = true then P else Q := h
theorem q_two {c : Prop} [Decidable c] {P Q : Prop} (h : c → P) (h' : ¬ c → Q) : if decide c = true then P else Q := by
  by_cases q : c
  · rw [if_pos (decide_eq_true q)]
    exact h q
  · rw [if_neg (by simp [q])]
    exact h' q
theorem q_br {b : Bool} {P Q : Prop} (h : b = true → P) (h' : b = false → Q) : if b = true then P else Q := by
  cases b
  · exact h' rfl
  · exact h rfl
/-! operators -/
theorem q_int0 {g : Int → Int → D} (h : Φd (g a b)) : oInt0 g (.int a) (.int b) ρ μ Φd := h
theorem q_int {C : Int → Int → Prop} {g : Int → Int → D} (c : C a b) (h : Φd (g a b)) : oInt C g (.int a) (.int b) ρ μ Φd := ⟨c, h⟩
theorem q_addI (h : Φd (.int (a + b))) : oAdd (.int a) (.int b) ρ μ Φd := h
theorem q_addS (l : z.length + z'.length ≤ sizeLine) (h : Φd (.str (z ++ z'))) : oAdd (.str z) (.str z') ρ μ Φd := ⟨l, h⟩
theorem q_addT {xs ys : List D} (l : xs.length + ys.length ≤ sizeLine) (h : Φd (.tup (xs ++ ys))) : oAdd (.tup xs) (.tup ys) ρ μ Φd := ⟨l, h⟩
theorem q_neg (h : Φd (.int (-a))) : oNeg (.int a) ρ μ Φd := h
theorem q_max (h : Φd (.int (max a b))) : oMax [.int a, .int b] ρ μ Φd := h
theorem q_min (h : Φd (.int (min a b))) : oMin [.int a, .int b] ρ μ Φd := h
theorem q_lenS (l : z.length ≤ sizeLine) (h : Φd (.int z.length)) : oLen [.str z] ρ μ Φd := ⟨l, h⟩
theorem q_lenL {xs : List D} (ns : ∀ z, d ≠ .str z) (e : seqD ρ μ d = some xs) (h : Φd (.int xs.length)) : oLen [d] ρ μ Φd := by
  cases d <;> first | exact absurd rfl (ns _) | exact Or.inr ⟨xs, e, h⟩
theorem q_str (l : a.natAbs.log2 < 1920) (h : Φd (.str (toString a))) : oStr [.int a] ρ μ Φd := ⟨l, h⟩
theorem q_ixL {xs : List D} (ns : ∀ z, d ≠ .str z) (e : seqD ρ μ d = some xs) (e2 : atI xs a = some x) (h : Φd x) : oIx d (.int a) ρ μ Φd := by
  cases d <;> first | exact absurd rfl (ns _) | exact Or.inl ⟨xs, x, e, e2, h⟩
theorem q_ixS {c : Nat} (l : z.length ≤ sizeLine) (e : atI z.cps.toList a = some c) (h : Φd (.str ⟨#[c]⟩)) : oIx (.str z) (.int a) ρ μ Φd := ⟨c, l, e, h⟩
theorem q_setL {xs : List D} {N : Rho → Mu → Prop} {p : Rho × Mu} (e : getM ρ μ x = some (.lst xs)) (e2 : ixN xs.length a = some j) (e3 : putM ρ μ x (.lst (xs.set j d)) = p) (h : N p.1 p.2) : oSetI x (.int a) d ρ μ N := by
  subst e3
  unfold oSetI
  rw [e]
  exact ⟨a, j, rfl, e2, h⟩
theorem seq_num {xs : List D} (e : μ[j]? = some (.lst xs)) : seqD ρ μ (.num j) = some xs := by
  unfold seqD lookD
  dsimp only
  rw [e]
  rfl
theorem mu_set {m m0 : M} (e : μ[j]? = some m0) : (μ.set j m)[j]? = some m := List.getElem?_set_self (List.getElem?_eq_some_iff.mp e).1
theorem mu_new {m : M} : (μ ++ [m])[μ.length]? = some m := by simp
theorem mu_old {m m0 : M} (e : μ[j]? = some m0) : (μ ++ [m])[j]? = some m0 := by
  rw [List.getElem?_append_left (List.getElem?_eq_some_iff.mp e).1]
  exact e
theorem q_setN {xs : List D} {N : Rho → Mu → Prop} (e : μ[k]? = some (.lst xs)) (e2 : ixN xs.length a = some j) (h : N ρ (μ.set k (.lst (xs.set j d)))) : oSetI (.num k) (.int a) d ρ μ N :=
  q_setL (p := (ρ, μ.set k (.lst (xs.set j d)))) e e2 rfl h
theorem q_setO {xs : List D} {N : Rho → Mu → Prop} (e : ρ[k]? = some (.own (.lst xs))) (e2 : ixN xs.length a = some j) (h : N (ρ.set k (.own (.lst (xs.set j d)))) μ) : oSetI (.var k) (.int a) d ρ μ N :=
  q_setL (p := (ρ.set k (.own (.lst (xs.set j d))), μ)) (by show (match ρ[k]? with | some (.own m) => some m | _ => none) = _; rw [e]) e2 rfl h
theorem q_mtL {xs : List D} {P : D → Prop} (h : P (.lst xs)) : ∃ d, (M.lst xs).tree = some d ∧ P d := ⟨_, rfl, h⟩
theorem q_isN (h : Φd (.bl x.isNon)) : oIs x .non ρ μ Φd := by
  cases x <;> exact h
theorem q_isNotN (h : Φd (.bl (!x.isNon))) : oIsNot x .non ρ μ Φd := by
  cases x <;> exact h
theorem q_noPart {Φo : Option Int → Rho → Mu → Prop} (h : Φo none ρ μ) : rNoPart ρ μ Φo Ψ := h
theorem q_part {Φo : Option Int → Rho → Mu → Prop} (h : ra ρ μ (fun x ρ1 μ1 => ∃ i, x = .int i ∧ Φo (some i) ρ1 μ1) Ψ) : rPart ra ρ μ Φo Ψ := h
theorem q_i {Q : Int → Prop} (h : Q a) : ∃ i, D.int a = .int i ∧ Q i := ⟨a, rfl, h⟩
theorem q_sl {o : D → Option Int → Option Int → Rho → Mu → (D → Prop) → Prop} {rl rh : DO} (h : ra ρ μ (fun x ρ1 μ1 => rl ρ1 μ1 (fun l ρ2 μ2 => rh ρ2 μ2 (fun h ρ3 μ3 => o x l h ρ3 μ3 fun d => Φ d ρ3 μ3) Ψ) Ψ) Ψ) : rSl o ra rl rh ρ μ Φ Ψ := h
theorem q_slS {l h : Option Int} (sz : z.length ≤ sizeLine) (q : Φd (.str (cutS z l h))) : oSl (.str z) l h ρ μ Φd := ⟨sz, q⟩
theorem q_slT {l h : Option Int} {xs : List D} (q : Φd (.tup (cutD xs l h))) : oSl (.tup xs) l h ρ μ Φd := q
theorem q_gName {N : Rho → Mu → Prop} (h : N (ρ.set i (.val d)) μ) : gdName i d ρ μ N := h
theorem q_gSub {N : Rho → Mu → Prop} (h : ro ρ μ (fun x ρ1 μ1 => ri ρ1 μ1 (fun i ρ2 μ2 => oSetI x i d ρ2 μ2 N) never) never) : gdSub ro ri d ρ μ N := h
theorem q_gTup {gs : DGs} {xs : List D} {N : Rho → Mu → Prop} (h : gs xs ρ μ N) : gdTup gs (.tup xs) ρ μ N := h
theorem q_gCons {g : DG} {gs : DGs} {xs : List D} {N : Rho → Mu → Prop} (h : g d ρ μ fun ρ' μ' => gs xs ρ' μ' N) : gdCons g gs (d :: xs) ρ μ N := h
theorem q_gNil {N : Rho → Mu → Prop} (h : N ρ μ) : gdNil [] ρ μ N := ⟨rfl, h⟩
end
end Dl
local macro_rules | `(tactic| walk_at "dside") => `(tactic| first | omega | decide | assumption | exact Or.inl ⟨by omega, by omega⟩ | exact ⟨by omega, by omega, by omega⟩ | exact L2.wide_mul (a := 128) (b := 128) (by omega) (by omega) (by omega) (by omega) (by omega) | exact L2.wide_div (b := 128) (by omega) (by omega) (by omega) (by omega))
local macro_rules | `(tactic| walk_at "dnorm") => `(tactic| try simp only [List.set_cons_zero, List.set_cons_succ, List.set_nil, List.set_set, Int.toNat_zero, Int.reduceToNat])
local macro_rules | `(tactic| walk_at "dmu") => `(tactic| first | assumption | exact Dl.mu_new | exact Dl.mu_set (by assumption) | exact Dl.mu_old (by assumption) | exact Dl.mu_set (Dl.mu_set (by assumption)) | exact Dl.mu_set (Dl.mu_old (by assumption)) | exact Dl.mu_old (Dl.mu_set (by assumption)) | exact Dl.mu_old (Dl.mu_old (by assumption)) | exact Dl.mu_set (Dl.mu_set (Dl.mu_set (by assumption))) | exact Dl.mu_set (Dl.mu_set (Dl.mu_old (by assumption))) | exact Dl.mu_set (Dl.mu_old (Dl.mu_set (by assumption))) | exact Dl.mu_set (Dl.mu_old (Dl.mu_old (by assumption))) | exact Dl.mu_old (Dl.mu_set (Dl.mu_set (by assumption))) | exact Dl.mu_old (Dl.mu_set (Dl.mu_old (by assumption))) | exact Dl.mu_old (Dl.mu_old (Dl.mu_set (by assumption))) | exact Dl.mu_old (Dl.mu_old (Dl.mu_old (by assumption))) | exact Dl.mu_set (Dl.mu_set (Dl.mu_set (Dl.mu_set (by assumption)))) | exact Dl.mu_set Dl.mu_new | exact Dl.mu_old Dl.mu_new)
local macro_rules | `(tactic| walk_at "dstep") => `(tactic| first
  | with_reducible refine Dl.q_seq ?_
  | with_reducible refine Dl.q_next ?_
  | with_reducible refine Dl.q_brk ?_
  | with_reducible refine Dl.q_cont ?_
  | with_reducible refine Dl.q_drop ?_
  | with_reducible refine Dl.q_ret ?_
  | with_reducible refine Dl.q_retN ?_
  | with_reducible refine Dl.q_set ?_
  | with_reducible refine Dl.q_own ?_
  | with_reducible refine Dl.q_if ?_
  | with_reducible refine Dl.q_for ?_
  | with_reducible refine Dl.q_asg ?_
  | ((with_reducible apply Dl.q_var); (exact rfl))
  | ((with_reducible apply Dl.q_varO); (exact rfl))
  | with_reducible refine Dl.q_c ?_
  | with_reducible refine Dl.q_bin ?_
  | with_reducible refine Dl.q_un ?_
  | with_reducible refine Dl.q_nil ?_
  | with_reducible refine Dl.q_cons ?_
  | with_reducible refine Dl.q_val ?_
  | with_reducible refine Dl.q_and ?_
  | with_reducible refine Dl.q_or ?_
  | with_reducible refine Dl.q_not ?_
  | with_reducible refine Dl.q_andV ?_
  | with_reducible refine Dl.q_orV ?_
  | with_reducible refine Dl.q_notV ?_
  | with_reducible refine Dl.q_ifE ?_
  | with_reducible refine Dl.q_tup ?_
  | with_reducible refine Dl.q_lst ?_
  | with_reducible refine Dl.q_tree ?_
  | with_reducible refine Dl.q_num ?_
  | with_reducible refine Dl.q_fn ?_
  | with_reducible refine Dl.q_mk ?_
  | with_reducible refine Dl.q_meth ?_
  | with_reducible refine Dl.q_call ?_
  | with_reducible refine Dl.q_back ?_
  | with_reducible refine Dl.q_backX ?_
  | with_reducible refine Dl.q_b ?_
  | with_reducible refine Dl.q_i ?_
  | with_reducible refine Dl.q_t ?_
  | with_reducible refine Dl.q_f ?_
  | with_reducible refine Dl.q_addI ?_
  | with_reducible refine Dl.q_int0 ?_
  | ((with_reducible apply Dl.q_int); (walk_at "dside"))
  | ((with_reducible apply Dl.q_addS); (walk_at "dside"))
  | ((with_reducible apply Dl.q_addT); (walk_at "dside"))
  | with_reducible refine Dl.q_neg ?_
  | with_reducible refine Dl.q_max ?_
  | with_reducible refine Dl.q_min ?_
  | ((with_reducible apply Dl.q_lenS); (walk_at "dside"))
  | ((with_reducible apply Dl.q_slS); (walk_at "dside"))
  | with_reducible refine Dl.q_slT ?_
  | with_reducible refine Dl.q_sl ?_
  | with_reducible refine Dl.q_noPart ?_
  | with_reducible refine Dl.q_part ?_
  | ((with_reducible apply Dl.q_ixL); (intro _ h; cases h); (exact Dl.seq_num (by walk_at "dmu")); (exact rfl))
  | ((with_reducible apply Dl.q_setN); (walk_at "dmu"); (exact rfl); walk_at "dnorm")
  | ((with_reducible apply Dl.q_setO); (exact rfl); (exact rfl); walk_at "dnorm")
  | with_reducible refine Dl.q_isN ?_
  | with_reducible refine Dl.q_isNotN ?_
  | ((with_reducible refine Dl.q_gName ?_); walk_at "dnorm")
  | with_reducible refine Dl.q_mtL ?_
  | with_reducible refine Dl.q_gSub ?_
  | with_reducible refine Dl.q_gTup ?_
  | with_reducible refine Dl.q_gCons ?_
  | with_reducible refine Dl.q_gNil ?_
  | ((with_reducible apply Dl.q_ex2); (exact rfl); walk_at "dnorm")
  | ((with_reducible apply Dl.q_keep); (assumption); walk_at "dnorm")
  | with_reducible refine ⟨rfl, by (dsimp only [List.length_cons, List.length_nil, Nat.zero_add]; decide), ?_⟩
  | ((with_reducible refine ⟨by (dsimp only [List.length_cons, List.length_nil, Nat.zero_add, List.length_set]; decide), ?_⟩); walk_at "dnorm"))
local macro_rules | `(tactic| walk_at "dgo") => `(tactic| repeat walk_at "dstep")
namespace Dl
open PySem PySem.Spec PyProof.Rows L2
/-! ### loops and comprehensions, by what holds at each turn -/
section
variable {ρ ρ1 ρ2 : Rho} {μ μ1 : Mu} {Φ : KD} {Ψ : KX} {N : DN} {r r' : DS} {re ra rb e : DE} {t : DT} {g : DG} {C : Rho → Mu → Prop} {vs : List Nat} {ds : List D} {fin : List D → Rho → Mu → Prop} {rs : DA} {a b : Int}
theorem lc_ind {I : Nat → List D → Mu → Prop} (h0 : I 0 [] μ)
    (step : ∀ (i : Nat) d acc μ (Z : List D → Rho → Mu → Prop), ds[i]? = some d → I i acc μ → (∀ acc' μ', I (i + 1) acc' μ' → Z acc' ρ μ') →
      C ρ μ ∧ g d ρ μ fun ρ1 μ1 => t ρ1 μ1 (fun b ρ2 μ2 => if b = true then e ρ2 μ2 (fun y ρ3 μ3 => ∃ ρ4 y', stow ρ3 y = some (ρ4, y') ∧ Z (acc ++ [y']) (wipeD ρ4 vs) μ3) never else Z acc (wipeD ρ2 vs) μ2) never)
    (done : ∀ acc μ, I ds.length acc μ → C ρ μ ∧ fin acc ρ μ) : lcD g t e vs C fin ds [] ρ μ := by
  have main : ∀ (k i : Nat) acc μ, ds.length = i + k → I i acc μ → lcD g t e vs C fin (ds.drop i) acc ρ μ := fun k => by
    induction k with
    | zero =>
      intro i acc μ hl h
      have e : ds.drop i = [] := List.drop_eq_nil_of_le (by omega)
      rw [e]
      have : i = ds.length := by omega
      subst this
      exact done acc μ h
    | succ k ih =>
      intro i acc μ hl h
      have hi : i < ds.length := by omega
      rw [List.drop_eq_getElem_cons hi]
      exact step i ds[i] acc μ (fun acc' ρ' μ' => lcD g t e vs C fin (ds.drop (i + 1)) acc' ρ' μ') (List.getElem?_eq_getElem hi) h fun acc' μ' h' => ih (i + 1) acc' μ' (by omega) h'
  have := main ds.length 0 [] μ (by omega) h0
  rwa [List.drop_zero] at this
theorem for_ind {I : Nat → Rho → Mu → Prop} (h0 : I 0 ρ μ)
    (step : ∀ (i : Nat) d ρ μ (Z : Rho → Mu → Prop), ds[i]? = some d → I i ρ μ → (∀ ρ' μ', I (i + 1) ρ' μ' → Z ρ' μ') → C ρ μ ∧ g d ρ μ fun ρ' μ' => r { N with nx := Z, ct := Z, bk := N.nx } ρ' μ')
    (done : ∀ ρ μ, I ds.length ρ μ → C ρ μ ∧ N.nx ρ μ) : forD g r C N ds ρ μ := by
  have main : ∀ (k i : Nat) ρ μ, ds.length = i + k → I i ρ μ → forD g r C N (ds.drop i) ρ μ := fun k => by
    induction k with
    | zero =>
      intro i ρ μ hl h
      have e : ds.drop i = [] := List.drop_eq_nil_of_le (by omega)
      rw [e]
      have : i = ds.length := by omega
      subst this
      exact done ρ μ h
    | succ k ih =>
      intro i ρ μ hl h
      have hi : i < ds.length := by omega
      rw [List.drop_eq_getElem_cons hi]
      exact step i ds[i] ρ μ (fun ρ' μ' => forD g r C N (ds.drop (i + 1)) ρ' μ') (List.getElem?_eq_getElem hi) h fun ρ' μ' h' => ih (i + 1) ρ' μ' (by omega) h'
  have := main ds.length 0 ρ μ (by omega) h0
  rwa [List.drop_zero] at this
theorem range_len {lo : Int} {n : Nat} : (rangeD lo n).length = n := by simp [rangeD]
theorem range_get {lo : Int} {n i : Nat} {d : D} (h : (rangeD lo n)[i]? = some d) : i < n ∧ d = .int (lo + (i : Nat)) := by
  unfold rangeD at h
  rw [List.getElem?_map] at h
  by_cases hi : i < n
  · rw [List.getElem?_range hi] at h
    exact ⟨hi, (Option.some.inj h).symm⟩
  · rw [List.getElem?_eq_none (by simpa using hi)] at h
    cases h
theorem enum_len {xs : List D} : (enumD xs).length = xs.length := by simp [enumD]
theorem enum_get {xs : List D} {i : Nat} {d : D} (h : (enumD xs)[i]? = some d) : ∃ x, xs[i]? = some x ∧ d = .tup [.int (i : Nat), x] := by
  unfold enumD at h
  rw [List.getElem?_mapIdx] at h
  cases e : xs[i]? with
  | none => rw [e] at h; cases h
  | some x =>
    rw [e] at h
    exact ⟨x, rfl, (Option.some.inj h).symm⟩
theorem at_any {α : Type} {xs : List α} {a : Int} (h0 : 0 ≤ a) (h1 : a < xs.length) : ∃ d, d ∈ xs ∧ atI xs a = some d := by
  have h : a.toNat < xs.length := by omega
  refine ⟨xs[a.toNat], List.getElem_mem h, ?_⟩
  unfold atI ixN
  rw [if_pos h0, if_pos h1]
  simp [h]
theorem at_map {α : Type} {f : α → D} {xs : List α} {a : Int} (h0 : 0 ≤ a) (h1 : a < xs.length) : ∃ x, x ∈ xs ∧ atI (xs.map f) a = some (f x) := by
  obtain ⟨d, hd, e⟩ := at_any (xs := xs.map f) h0 (by rw [List.length_map]; exact h1)
  obtain ⟨x, hx, rfl⟩ := List.mem_map.mp hd
  exact ⟨x, hx, e⟩
theorem snoc_map {α β : Type} {f : α → β} {xs : List α} {x : α} : xs.map f ++ [f x] = (xs ++ [x]).map f := by simp
variable {Φi : List D → (Rho → Mu → Prop) → Rho → Mu → Prop} {Φm : M → Rho → Mu → Prop}
theorem q_range1 (h : rs ρ μ (fun ds ρ1 μ1 => ∃ j : Int, ds = [.int j] ∧ -(2 ^ 62) ≤ j ∧ j < 2 ^ 62 ∧ Φi (rangeD 0 j.toNat) cAll ρ1 μ1) Ψ) : iRange1 rs ρ μ Φi Ψ := h
theorem q_range2 (h : rs ρ μ (fun ds ρ1 μ1 => ∃ i j : Int, ds = [.int i, .int j] ∧ (-(2 ^ 62) ≤ i ∧ i < 2 ^ 62 ∧ -(2 ^ 62) ≤ j ∧ j < 2 ^ 62) ∧ Φi (rangeD i (j - i).toNat) cAll ρ1 μ1) Ψ) : iRange2 rs ρ μ Φi Ψ := h
theorem q_rg1 {Q : Int → Prop} (h1 : -(2 ^ 62) ≤ a) (h2 : a < 2 ^ 62) (h : Q a) : ∃ j : Int, [D.int a] = [D.int j] ∧ -(2 ^ 62) ≤ j ∧ j < 2 ^ 62 ∧ Q j := ⟨a, rfl, h1, h2, h⟩
theorem q_rg2 {Q : Int → Int → Prop} (h1 : -(2 ^ 62) ≤ a ∧ a < 2 ^ 62 ∧ -(2 ^ 62) ≤ b ∧ b < 2 ^ 62) (h : Q a b) : ∃ i j : Int, [D.int a, D.int b] = [D.int i, D.int j] ∧ (-(2 ^ 62) ≤ i ∧ i < 2 ^ 62 ∧ -(2 ^ 62) ≤ j ∧ j < 2 ^ 62) ∧ Q i j := ⟨a, b, rfl, h1, h⟩
theorem q_lc {wi : DI} (h : wi ρ μ (fun ds C ρ1 μ1 => noOwn ρ1 vs = true ∧ ds.length ≤ sizeLine ∧ lcD g t e vs C (fun acc ρ2 μ2 => Φm (.lst acc) (backD ρ1 ρ2 vs) μ2) ds [] (wipeD ρ1 vs) μ1) Ψ) : rLc wi g t e vs ρ μ Φm Ψ := h
theorem q_yes {Φt : Bool → Rho → Mu → Prop} (h : Φt true ρ μ) : rYes ρ μ Φt Ψ := h
theorem q_enumL (h : iSeq re ρ μ (fun ds C ρ1 μ1 => Φi (enumD ds) C ρ1 μ1) Ψ) : iEnumL re ρ μ Φi Ψ := h
theorem q_iseqT {xs : List D} (e : ∀ Φ : KD, Φ (.lst xs) ρ1 μ1 → re ρ μ Φ Ψ) (h : xs.length ≤ sizeLine → Φi xs cAll ρ1 μ1) : iSeq re ρ μ Φi Ψ := e _ ⟨ρ1, .lst xs, rfl, h⟩
theorem q_iseq (h : re ρ μ (fun d ρ1 μ1 => ∃ ρ2 d2, stow ρ1 d = some (ρ2, d2) ∧ match d2 with
  | .lst xs => xs.length ≤ sizeLine → Φi xs cAll ρ2 μ1
  | .num j => ∃ xs, μ1[j]? = some (.lst xs) ∧ (xs.length ≤ sizeLine → Φi xs (fun _ μ => μ[j]? = some (.lst xs)) ρ2 μ1)
  | _ => False) Ψ) : iSeq re ρ μ Φi Ψ := h
theorem q_eqI {Φd : D → Prop} (h : Φd (.bl (decide (a = b)))) : oEq (.int a) (.int b) ρ μ Φd := ⟨.int a, .int b, ⟨rfl, rfl⟩, ⟨rfl, rfl⟩, Or.inl (by show PyData.depth (.int a) ≤ 60; simp [PyData.depth]), h⟩
theorem q_neI {Φd : D → Prop} (h : Φd (.bl (decide (a ≠ b)))) : oNe (.int a) (.int b) ρ μ Φd := ⟨.int a, .int b, ⟨rfl, rfl⟩, ⟨rfl, rfl⟩, Or.inl (by show PyData.depth (.int a) ≤ 60; simp [PyData.depth]), by
  have e : (D.int a).deq (.int b) = decide (a = b) := rfl
  rw [e]
  by_cases q : a = b <;> simpa [q] using h⟩
theorem q_eqS {Φd : D → Prop} {x y : Str} (h : Φd (.bl (x == y))) : oEq (.str x) (.str y) ρ μ Φd := ⟨.str x, .str y, ⟨rfl, rfl⟩, ⟨rfl, rfl⟩, Or.inl (by show PyData.depth (.str x) ≤ 60; simp [PyData.depth]), h⟩
theorem q_neS {Φd : D → Prop} {x y : Str} (h : Φd (.bl (!(x == y)))) : oNe (.str x) (.str y) ρ μ Φd := ⟨.str x, .str y, ⟨rfl, rfl⟩, ⟨rfl, rfl⟩, Or.inl (by show PyData.depth (.str x) ≤ 60; simp [PyData.depth]), h⟩
theorem q_eqG {Φd : D → Prop} {x y x' y' : D} (h1 : dataD ρ μ x x') (h2 : dataD ρ μ y y') (l : x'.low ∨ y'.low) (h : Φd (.bl (x'.deq y'))) : oEq x y ρ μ Φd := ⟨x', y', h1, h2, l, h⟩
theorem q_neG {Φd : D → Prop} {x y x' y' : D} (h1 : dataD ρ μ x x') (h2 : dataD ρ μ y y') (l : x'.low ∨ y'.low) (h : Φd (.bl (!x'.deq y'))) : oNe x y ρ μ Φd := ⟨x', y', h1, h2, l, h⟩
theorem q_join {xs : List D} {ys : List Str} {z : Str} {d : D} (e : seqD ρ μ d = some xs) (e2 : xs = ys.map .str) (h1 : (ys.map (·.length)).sum + ys.length * z.length ≤ 16777216) (h : Φ (.str (Txt.join z ys)) ρ μ) : oJoin (.str z) [d] ρ μ Φ := ⟨ys, by rw [e, e2], h1, h⟩
theorem q_split {x y : Str} (h1 : (y.length == 0) = false) (h2 : x.length + 2 ≤ sizeLine) (h : Φ (.lst ((Txt.split x y).map .str)) ρ μ) : oSplit (.str x) [.str y] ρ μ Φ := ⟨h1, h2, h⟩
theorem q_tyS {T : String} {z : Str} {Q : Prop} (e : T = "str") (h : Q) : tyD T (.str z) ρ μ ∧ Q := ⟨Or.inl ⟨e, z, rfl⟩, h⟩
theorem q_tyL {T : String} {d : D} {xs : List D} {Q : Prop} (e : T = "list") (e2 : lookD ρ μ d = some (.lst xs)) (h : Q) : tyD T d ρ μ ∧ Q := ⟨Or.inr ⟨e, xs, e2⟩, h⟩
theorem q_appO {i : Nat} {d d1 : D} {xs : List D} (e1 : stow ρ d = some (ρ1, d1)) (e2 : ρ1[i]? = some (.own (.lst xs))) (hz : xs.length < sizeLine) (h : Φ .non (ρ1.set i (.own (.lst (xs ++ [d1])))) μ) : oAppend (.var i) [d] ρ μ Φ :=
  ⟨ρ1, d1, xs, e1, by show (match ρ1[i]? with | some (.own m) => some m | _ => none) = _; rw [e2], hz, h⟩
end
section
variable {B : Par} {X : Cx} {elt tg iter : Expr} {ifs : List Expr} {scope : Scope} {own : List (Str × Nat)} {wi : DI} {g : DG} {t : DT} {e : DE} {pos spos : Pos}
theorem pdf_lcV (vs : List Nat) (hv : own.map (·.2) = vs) (hc : X.calm = true) (hN : X.N.Nodup) (hi : PDI X B tg iter wi) (ok : BlkOk X.N X.env.scope scope own)
    (hg : ∀ s H C cl fp fm, PDG (blkX X s H scope C cl fp) (B.with fm WNo) vs tg g) (ht : ∀ s H C cl fp fm, PDTs (blkX X s H scope C cl fp) (B.with fm WNo) ifs t)
    (he : ∀ s H C cl fp fm, PD (blkX X s H scope C cl fp) (B.with fm WNo) elt e) (hs : ∀ x, foldedSetIterable iter X.env x = pure x := by intro _; rfl) : PDF X B (.ListComp elt [⟨tg, iter, ifs, 0⟩] scope pos) (rLc wi g t e vs) := by
  subst hv
  exact pdf_lc hc hN hi ok hg ht he hs
theorem pds_ownLcV (vs : List Nat) (hv : own.map (·.2) = vs) {i : Nat} {y : Str} {py : Pos} (hc : X.calm = true) (hN : X.N.Nodup) (hy : X.N[i]? = some y) (hyl : X.env.scope.names.lookup y = some .local)
    (hsw : swapsWith (.ListComp elt [⟨tg, iter, ifs, 0⟩] scope pos) (some (.Name y py)) spos.line X.env = pure true) (hi : PDI X B tg iter wi) (ok : BlkOk X.N X.env.scope scope own)
    (hg : ∀ s H C cl fp fm, PDG (blkX X s H scope C cl fp) (B.with fm WNo) vs tg g) (ht : ∀ s H C cl fp fm, PDTs (blkX X s H scope C cl fp) (B.with fm WNo) ifs t)
    (he : ∀ s H C cl fp fm, PD (blkX X s H scope C cl fp) (B.with fm WNo) elt e) (hs : ∀ x, foldedSetIterable iter X.env x = pure x := by intro _; rfl) :
    PDS X B (.Assign [.Name y py] (.ListComp elt [⟨tg, iter, ifs, 0⟩] scope pos) spos) (rOwn i (rLc wi g t e vs)) := by
  subst hv
  exact pds_ownLc hc hN hy hyl hsw hi ok hg ht he hs
end
end Dl
local macro_rules | `(tactic| walk_at "dblk") => `(tactic| ((try dsimp only [Dl.wipeD, Dl.backD]); (try simp only [List.getElem?_cons_succ, List.getElem?_cons_zero]); walk_at "dnorm"))
local macro_rules | `(tactic| walk_at "dstep2") => `(tactic| first
  | walk_at "dstep"
  | with_reducible refine Dl.q_range1 ?_
  | with_reducible refine Dl.q_range2 ?_
  | ((with_reducible apply Dl.q_rg1); (omega); (omega))
  | ((with_reducible apply Dl.q_rg2); (exact ⟨by omega, by omega, by omega, by omega⟩))
  | with_reducible refine Dl.q_lc ?_
  | with_reducible refine Dl.q_yes ?_
  | with_reducible refine Dl.q_enumL ?_
  | with_reducible refine Dl.q_iseq ?_
  | with_reducible refine Dl.q_eqI ?_
  | with_reducible refine Dl.q_neI ?_
  | with_reducible refine Dl.q_eqS ?_
  | with_reducible refine Dl.q_neS ?_
  | ((with_reducible apply Dl.q_split); (decide +kernel); (decide +kernel))
  | ((with_reducible apply Dl.q_tyS); (exact rfl))
  | ((with_reducible apply Dl.q_tyL); (exact rfl); (exact rfl)))
local macro_rules | `(tactic| walk_at "dgo2") => `(tactic| repeat walk_at "dstep2")
namespace Dl
open PySem PySem.Spec PyProof.Rows L2
section
variable {B : Par} {X : Cx} {x : Str} {pos : Pos} {T : String}
/-- a class of Python's, by its name -/
theorem pd_bt (hg : Gl X x) (hm : X.mg x = none) (hv : bootBuiltins x = some (.type T)) (hn : x ≠ "__name__" := by decide) (hd : (x == ("__debug__" : Str)) = false := by decide) : PD X B (.Name x pos) (rC (.ty T)) :=
  pd_c (pe_bltn (v := .ty T) hg hm hv rfl hn hd) fun _ _ => .ty _
theorem pd_globS {z : Str} (hg : Gl X x) (h : ∃ t, X.mg x = some (.str z t)) (hd : (x == ("__debug__" : Str)) = false := by decide) : PD X B (.Name x pos) (rC (.str z)) := by
  obtain ⟨t, h⟩ := h
  exact pd_c (v := .str z) (pe_glob hg h ⟨_, rfl⟩ hd) fun _ _ => .str _
theorem pd_globI {z : Int} (hg : Gl X x) (h : ∃ t, X.mg x = some (.int z t)) (hd : (x == ("__debug__" : Str)) = false := by decide) : PD X B (.Name x pos) (rC (.int z)) := by
  obtain ⟨t, h⟩ := h
  exact pd_c (v := .int z) (pe_glob hg h ⟨_, rfl⟩ hd) fun _ _ => .int _
theorem pdt_chain {op op' : CmpOp} {a b c : Expr} {r2 r2' : R2} {o o' : D → D → Rho → Mu → (D → Prop) → Prop} {ra rb rc : DE} (h : OpR X (compareOp op) r2) (h' : OpR X (compareOp op') r2') (s : OpS B r2 o) (s' : OpS B r2' o') (ha : PD X B a ra) (hb : PD X B b rb) (hc : PD X B c rc)
    (hm : lastMarks [op, op'] [b, c] = false := by with_unfolding_all rfl) : PDT X B (.Compare a [op, op'] [b, c] pos) (rVal (rChain o o' ra rb rc)) :=
  (pt_chain h h' ha hb hc hm).imp fun σ H Q q => by
    obtain ⟨as, ρ, μ, Φ, Ψ, S, r, x, fin⟩ := q
    refine lift_chain s s' ⟨as, ρ, μ, _, Ψ, S, r, x, fun d as' ρ' μ' H' v q' k S' rv => ?_⟩
    obtain ⟨b, rfl, q'⟩ := q'
    exact ⟨b, rv.bl, fin b as' ρ' μ' H' q' k S'⟩
def oStr2 (g : Str → Str → Bool) : D → D → Rho → Mu → (D → Prop) → Prop
  | .str a, .str b, _, _, Φ => Φ (.bl (g a b))
  | _, _, _, _, _ => False
theorem ops_str2 {g : Str → Str → Bool} : OpS B (fun x y H Q => ∃ i j, x = .str i ∧ y = .str j ∧ Q (.bl (g i j)) H) (oStr2 g) := by
  intro as ρ μ σ H x y va vb Φ Q S rx ry o fin
  cases x <;> cases y <;> first | exact o.elim | skip
  cases rx.str
  cases ry.str
  exact ⟨_, _, rfl, rfl, fin _ _ H o (fun _ _ e => e) (.bl _)⟩
end
section
variable {ρ ρ1 ρ2 : Rho} {μ μ1 : Mu} {Φ : KD} {Ψ : KX} {N : DN} {r r' : DS} {re ra rb rc e : DE} {t : DT} {g : DG} {C : Rho → Mu → Prop} {vs : List Nat} {ds : List D} {fin : List D → Rho → Mu → Prop} {rs : DA} {a b : Int} {d x : D} {z z' : Str} {Φd : D → Prop}
theorem q_str2 {g : Str → Str → Bool} (h : Φd (.bl (g z z'))) : oStr2 g (.str z) (.str z') ρ μ Φd := h
theorem q_chain {o o' : D → D → Rho → Mu → (D → Prop) → Prop} (h : ra ρ μ (fun x ρ1 μ1 => rb ρ1 μ1 (fun y ρ2 μ2 => o x y ρ2 μ2 fun z => match z with
  | .bl true => rc ρ2 μ2 (fun w ρ3 μ3 => o' y w ρ3 μ3 fun d => Φ d ρ3 μ3) Ψ
  | .bl false => Φ (.bl false) ρ2 μ2
  | _ => False) Ψ) Ψ) : rChain o o' ra rb rc ρ μ Φ Ψ := h
theorem q_cm {b : Bool} {P Q : Prop} (h1 : b = true → P) (h2 : b = false → Q) : (match D.bl b with
  | .bl true => P
  | .bl false => Q
  | _ => False) := by
  cases b
  · exact h2 rfl
  · exact h1 rfl
theorem q_ntwo {c : Prop} [Decidable c] {P Q : Prop} (h : ¬ c → P) (h' : c → Q) : if (!decide c) = true then P else Q := by
  by_cases q : c
  · rw [if_neg (by simp [q])]
    exact h' q
  · rw [if_pos (by simp [q])]
    exact h q
theorem q_inC {c : Nat} (h : Φd (.bl (decide (c ∈ z.cps.toList)))) : oIn (.str ⟨#[c]⟩) (.str z) ρ μ Φd := Or.inl ⟨c, z, rfl, rfl, h⟩
theorem q_all {bs : List Bool} (e : lookD ρ μ d = some (.lst (bs.map .bl))) (h : Φd (.bl (bs.all _root_.id))) : oAll [d] ρ μ Φd := ⟨bs, e, h⟩
theorem q_isi {sh : Sh} {n : String} {k : Sum String Nat} {b : Bool} (e : kindD ρ μ x = some k) (e2 : isKind sh k (.ty n) = some b) (h : Φd (.bl b)) : oIsi sh [x, .ty n] ρ μ Φd := ⟨k, b, e, e2, h⟩
theorem q_isiT {sh : Sh} {cs : List D} {k : Sum String Nat} {b : Bool} (e : kindD ρ μ x = some k) (e2 : isAny sh k cs = some b) (h : Φd (.bl b)) : oIsi sh [x, .tup cs] ρ μ Φd := ⟨k, b, e, e2, h⟩
theorem q_strI {Φi : List D → (Rho → Mu → Prop) → Rho → Mu → Prop} (h : ra ρ μ (fun d ρ1 μ1 => ∃ z, d = .str z ∧ Φi (strD z) cAll ρ1 μ1) Ψ) : iStrD ra ρ μ Φi Ψ := h
theorem q_s {Q : Str → Prop} (h : Q z) : ∃ z', D.str z = .str z' ∧ Q z' := ⟨z, rfl, h⟩
theorem strD_mem (h : d ∈ strD z) : ∃ c ∈ z.cps.toList, d = .str ⟨#[c]⟩ := by
  obtain ⟨c, hc, rfl⟩ := List.mem_map.mp h
  exact ⟨c, hc, rfl⟩
theorem strD_len : (strD z).length = z.length := by simp [strD, Str.length]
/-- a comprehension without other effects -/
theorem lc_fm (f : D → Option D) (hC : C ρ μ)
    (step : ∀ d acc (Z : List D → Rho → Mu → Prop), d ∈ ds → Z (acc ++ (f d).toList) ρ μ →
      g d ρ μ fun ρ1 μ1 => t ρ1 μ1 (fun b ρ2 μ2 => if b = true then e ρ2 μ2 (fun y ρ3 μ3 => ∃ ρ4 y', stow ρ3 y = some (ρ4, y') ∧ Z (acc ++ [y']) (wipeD ρ4 vs) μ3) never else Z acc (wipeD ρ2 vs) μ2) never)
    (done : fin (ds.filterMap f) ρ μ) : lcD g t e vs C fin ds [] ρ μ := by
  refine lc_ind (I := fun i acc μ1 => acc = (ds.take i).filterMap f ∧ μ1 = μ) ⟨rfl, rfl⟩ ?_ ?_
  · rintro i d acc μ1 Z hd ⟨rfl, rfl⟩ go
    refine ⟨hC, step d _ Z (List.mem_of_getElem? hd) (go _ _ ⟨?_, rfl⟩)⟩
    rw [List.take_add_one, hd, List.filterMap_append]
    cases h : f d <;> simp [h]
  · rintro acc μ1 ⟨rfl, rfl⟩
    rw [List.take_length]
    exact ⟨hC, done⟩
/-! ### things of any kind -/
/-- what d is just now: a datum of Python's own kinds -/
structure Th (μ : Mu) (d x : D) : Prop where
  kp : d.kept = true
  lk : lookD [] μ d = some x
  kd : ∃ a, x.kind = some (.inl a) ∧ a ∈ kinds
theorem look_kept (k : d.kept = true) : lookD ρ μ d = lookD [] μ d := by cases d <;> first | rfl | cases k
theorem Th.look (h : Th μ d x) : lookD ρ μ d = some x := by rw [look_kept h.kp]; exact h.lk
theorem Th.seq (h : Th μ d x) : seqD ρ μ d = x.items := by
  unfold seqD
  rw [h.look]
  rfl
theorem Th.kind (h : Th μ d x) : kindD ρ μ d = x.kind := by
  have l := h.lk
  have k := h.kp
  cases d with
  | num j =>
    simp only [lookD] at l
    simp only [kindD]
    cases e : μ[j]? with
    | none => rw [e] at l; cases l
    | some m =>
      rw [e] at l
      dsimp only at l ⊢
      cases m <;> simp only [M.tree, Option.some.injEq, reduceCtorEq] at l <;> subst l <;> first | rfl | skip
      obtain ⟨a, ha, _⟩ := h.kd
      cases ha
  | var i => cases k
  | _ =>
    simp only [lookD, Option.some.injEq] at l
    subst l
    rfl
theorem Th.int (h : Th μ d (.int a)) : d = .int a := by
  have l := h.lk
  have k := h.kp
  cases d with
  | num j =>
    simp only [lookD] at l
    cases e : μ[j]? with
    | none => rw [e] at l; cases l
    | some m => rw [e] at l; cases m <;> cases l
  | var i => cases k
  | _ => simpa [lookD] using l
theorem Th.str (h : Th μ d (.str z)) : d = .str z := by
  have l := h.lk
  have k := h.kp
  cases d with
  | num j =>
    simp only [lookD] at l
    cases e : μ[j]? with
    | none => rw [e] at l; cases l
    | some m => rw [e] at l; cases m <;> cases l
  | var i => cases k
  | _ => simpa [lookD] using l
theorem Th.tup {xs : List D} (h : Th μ d (.tup xs)) : d = .tup xs := by
  have l := h.lk
  have k := h.kp
  cases d with
  | num j =>
    simp only [lookD] at l
    cases e : μ[j]? with
    | none => rw [e] at l; cases l
    | some m => rw [e] at l; cases m <;> cases l
  | var i => cases k
  | _ => simpa [lookD] using l
theorem Th.of {n : String} (h : x.kind = some (.inl n)) (hn : n ∈ kinds) : Th μ x x := by
  cases x <;> first | exact ⟨rfl, rfl, n, h, hn⟩ | cases h
theorem q_isD {sh : Sh} {n : String} (th : Th μ d x) (hn : n ∈ ["str", "int", "bool", "list", "tuple", "dict"]) (h : ∀ a, x.kind = some (.inl a) → Φd (.bl (tyIs a n))) : oIsi sh [d, .ty n] ρ μ Φd := by
  obtain ⟨a, ha, _⟩ := th.kd
  refine q_isi (th.kind.trans ha) (b := tyIs a n) ?_ (h a ha)
  unfold isKind
  dsimp only
  rw [if_pos hn]
theorem q_isD2 {sh : Sh} {n m : String} (th : Th μ d x) (hn : n ∈ ["str", "int", "bool", "list", "tuple", "dict"]) (hm : m ∈ ["str", "int", "bool", "list", "tuple", "dict"]) (h : ∀ a, x.kind = some (.inl a) → Φd (.bl (tyIs a n || tyIs a m))) : oIsi sh [d, .tup [.ty n, .ty m]] ρ μ Φd := by
  obtain ⟨a, ha, _⟩ := th.kd
  refine q_isiT (th.kind.trans ha) (b := tyIs a n || tyIs a m) ?_ (h a ha)
  unfold isAny isAny isAny isKind
  simp only [if_pos hn, if_pos hm, Bool.or_false]
/-! ### names -/
def nameQ (z : Str) : Bool := decide (1 ≤ z.length) && decide (z.length ≤ 8) && (TL.tl z).all fun c => decide (97 ≤ c) && decide (c ≤ 122)
theorem smalls (c : Nat) : decide (c ∈ (Str.ofString "abcdefghijklmnopqrstuvwxyz").cps.toList) = (decide (97 ≤ c) && decide (c ≤ 122)) := by
  have : (Str.ofString "abcdefghijklmnopqrstuvwxyz").cps.toList = [97, 98, 99, 100, 101, 102, 103, 104, 105, 106, 107, 108, 109, 110, 111, 112, 113, 114, 115, 116, 117, 118, 119, 120, 121, 122] := by decide +kernel
  rw [this, Bool.eq_iff_iff]
  simp only [List.mem_cons, List.not_mem_nil, or_false, decide_eq_true_eq, Bool.and_eq_true]
  omega
theorem pass_cons {es : List D} {ds : List D} (k : d.kept = true) (h : pass ρ ds = some (es, false)) : pass ρ (d :: ds) = some (d :: es, false) := by
  cases d <;> first | (simp only [pass, h]; done) | cases k
theorem pass_one (k : d.kept = true) : pass ρ [d] = some ([d], false) := pass_cons k rfl
theorem pass_three {a b : Int} (k : d.kept = true) : pass ρ [d, .int a, .int b] = some ([d, .int a, .int b], false) := pass_cons k rfl
theorem datas_mem : ∀ {xs : List D}, (∀ d ∈ xs, d.data = true) → D.datas xs = true
  | [], _ => rfl
  | x :: xs, h => by
    simp only [D.datas, Bool.and_eq_true]
    exact ⟨h x List.mem_cons_self, datas_mem fun d hd => h d (List.mem_cons_of_mem _ hd)⟩
theorem deq_nil {xs : List D} : (D.lst xs).deq (.lst []) = xs.isEmpty := by
  unfold D.deq
  cases xs with
  | nil => rfl
  | cons x xs => rfl
theorem q_eqNil {xs : List D} (h : ∀ d ∈ xs, d.data = true) (q : Φd (.bl xs.isEmpty)) : oEq (.lst xs) (.lst []) ρ μ Φd := by
  refine q_eqG ⟨rfl, by simp only [D.data]; exact datas_mem h⟩ ⟨rfl, rfl⟩ (Or.inr (by show PyData.depth _ ≤ 60; simp [D.pyd, D.pyds, PyData.depth, PyData.depthAll])) ?_
  rw [deq_nil]
  exact q
theorem sign_le1 (c : Nat) : (!decide ((⟨#[c]⟩ : Str).cps.toList < (Str.ofString "a").cps.toList)) = decide (97 ≤ c) := by
  have e : (Str.ofString "a").cps.toList = [97] := by decide +kernel
  rw [e]
  show (!decide ([c] < [97])) = _
  rw [Bool.eq_iff_iff]
  simp [List.cons_lt_cons_iff]
theorem sign_le2 (c : Nat) : (!decide ((Str.ofString "z").cps.toList < (⟨#[c]⟩ : Str).cps.toList)) = decide (c ≤ 122) := by
  have e : (Str.ofString "z").cps.toList = [122] := by decide +kernel
  rw [e]
  show (!decide ([122] < [c])) = _
  rw [Bool.eq_iff_iff]
  simp [List.cons_lt_cons_iff]
/-- elements of a row -/
def ElOk (p : D → Prop) (x : D) : Prop := ∀ xs, x.items = some xs → ∀ y ∈ xs, (∃ n, y.kind = some (.inl n) ∧ n ∈ kinds) ∧ p y
theorem ElOk.th {p : D → Prop} (h : ElOk p x) {xs : List D} (e : x.items = some xs) {y : D} (hy : y ∈ xs) : Th μ y y ∧ p y := by
  obtain ⟨⟨n, h1, h2⟩, h3⟩ := h xs e y hy
  exact ⟨Th.of h1 h2, h3⟩
end
end Dl
local macro_rules | `(tactic| walk_at "dstep3") => `(tactic| first
  | walk_at "dstep2"
  | with_reducible refine Dl.q_str2 ?_
  | with_reducible refine Dl.q_chain ?_
  | with_reducible refine Dl.q_inC ?_
  | with_reducible refine Dl.q_strI ?_
  | with_reducible refine Dl.q_s ?_)
local macro_rules | `(tactic| walk_at "dgo3") => `(tactic| repeat walk_at "dstep3")
namespace Dl
open PySem PySem.Spec PyProof.Rows L2
section
variable {B : Par} {X : Cx} {elt kx vx tg iter : Expr} {ifs : List Expr} {scope : Scope} {own : List (Str × Nat)} {wi : DI} {g : DG} {t : DT} {e k : DE} {pos spos : Pos}
theorem pd_lenSetV (vs : List Nat) (hvs : own.map (·.2) = vs) {x : Str} {pp cpos : Pos} (hc : X.calm = true) (hN : X.N.Nodup) (hi : PDI X B tg iter wi) (ok : BlkOk X.N X.env.scope scope own) (hgl : Gl X x) (hm : X.mg x = none) (hv : bootBuiltins x = some (.builtin "len"))
    (hg : ∀ s H C cl fp fm, PDG (blkX X s H scope C cl fp) (B.with fm WNo) vs tg g) (ht : ∀ s H C cl fp fm, PDTs (blkX X s H scope C cl fp) (B.with fm WNo) ifs t)
    (he : ∀ s H C cl fp fm, PD (blkX X s H scope C cl fp) (B.with fm WNo) elt e) (hs : ∀ x, foldedSetIterable iter X.env x = pure x := by intro _; rfl) (hn : x ≠ "__name__" := by decide) (hdb : (x == ("__debug__" : Str)) = false := by decide)
    (hst : starEach [.SetComp elt [⟨tg, iter, ifs, 0⟩] scope pos] X.env = (false, eval (.SetComp elt [⟨tg, iter, ifs, 0⟩] scope pos) X.env) :: starEach [] X.env := by rfl) (hpl : (backTo cpos (starEach [] X.env)).any (·.1) = false := by rfl) :
    PD X B (.Call (.Name x pp) [.SetComp elt [⟨tg, iter, ifs, 0⟩] scope pos] [] cpos) (rLenSet wi g t e vs) := by
  subst hvs
  exact pd_lenSet hc hN hi ok hgl hm hv hg ht he hs hn hdb hst hpl
theorem pdf_dcV (vs : List Nat) (hvs : own.map (·.2) = vs) (hc : X.calm = true) (hN : X.N.Nodup) (hi : PDI X B tg iter wi) (ok : BlkOk X.N X.env.scope scope own)
    (hg : ∀ s H C cl fp fm, PDG (blkX X s H scope C cl fp) (B.with fm WNo) vs tg g) (ht : ∀ s H C cl fp fm, PDTs (blkX X s H scope C cl fp) (B.with fm WNo) ifs t)
    (hk : ∀ s H C cl fp fm, PD (blkX X s H scope C cl fp) (B.with fm WNo) kx k) (he : ∀ s H C cl fp fm, PD (blkX X s H scope C cl fp) (B.with fm WNo) vx e) (hs : ∀ x, foldedSetIterable iter X.env x = pure x := by intro _; rfl) :
    PDF X B (.DictComp kx vx [⟨tg, iter, ifs, 0⟩] scope pos) (rDc wi g t k e vs) := by
  subst hvs
  exact pdf_dc hc hN hi ok hg ht hk he hs
/-! {} -/
def rDnew : DF := fun ρ μ Φ _ => Φ (.dic []) ρ μ
theorem pdf_dnew : PDF X B (.Dict [] [] pos) rDnew := (pe_dnewK (X := X)).imp fun σ H Q h => by
  obtain ⟨as, ρ, μ, Φ, Ψ, S, r, x, fin⟩ := h
  exact fun p n => fin (.dic []) as ρ μ H p (.dK []) r .refl S n ⟨[], rfl, rfl, .nil⟩ fun _ _ _ z => nomatch z
/-! dict(rows): of pairs, each a tuple of a key and a thing -/
def pairD : D → Option (Key × D)
  | .tup [k, d] => (keyD k).map fun k => (k, d)
  | _ => none
def pairsD : List D → Option (List (Key × D))
  | [] => some []
  | d :: ds => match pairD d, pairsD ds with
    | some p, some ps => some (p :: ps)
    | _, _ => none
def mergeD (acc : List (Key × D)) : List (Key × D) → List (Key × D)
  | [] => acc
  | (k, d) :: r => mergeD (dput acc k d) r
def oDictP : List D → Rho → Mu → (M → Prop) → Prop
  | [d], ρ, μ, Φ => ∃ xs kvs, lookD ρ μ d = some (.lst xs) ∧ pairsD xs = some kvs ∧ Φ (.dic (mergeD [] kvs))
  | _, _, _, _ => False
end
section
variable {O : Objs} {K : PySem.W.Frag} {as : List Addr} {Hv : Hp} {B : Par} {X : Cx}
theorem merge_rep : ∀ {kvs : List (Key × V)} {ds acc' : List (Key × D)} {acc : List (Key × V)}, KR O K as Hv kvs ds → KR O K as Hv acc acc' → KR O K as Hv (mergeK acc kvs) (mergeD acc' ds)
  | [], [], _, _, _, h => h
  | [], q :: ds, _, _, h, _ => by have := h.k; simp at this
  | p :: kvs, [], _, _, h, _ => by have := h.k; simp at this
  | (k, v) :: kvs, (k', d) :: ds, _, _, h, ha => by
    obtain ⟨e, a, r⟩ := h.un
    have e' : k = k' := e
    subst e'
    exact (merge_rep r (ha.put a) : KR O K as Hv (mergeK (putK _ k v) kvs) (mergeD (dput _ k d) ds))
theorem pairs_rep : ∀ {vs : List V} {xs : List D} {ds : List (Key × D)}, Reps O K as Hv vs xs → pairsD xs = some ds →
    ∃ (ps : List Addr) (kvs : List (Key × V)), vs = ps.map V.ref ∧ Paired (fun p kv => SqT K Hv p [kV kv.1, kv.2]) ps kvs ∧ KR O K as Hv kvs ds
  | _, _, _, .nil, e => by
    cases e
    exact ⟨[], [], rfl, .nil, .nil⟩
  | _, _, _, .cons (v := v) (d := d) a r, e => by
    simp only [pairsD] at e
    split at e
    · rename_i p ps e1 e2
      cases e
      obtain ⟨qs, kvs, rfl, hp, hr⟩ := pairs_rep r e2
      unfold pairD at e1
      split at e1
      · rename_i kd dd
        cases hk : keyD kd with
        | none => rw [hk] at e1; cases e1
        | some k =>
          rw [hk] at e1
          cases e1
          cases a with
          | tup h rs =>
            rename_i a vs
            cases rs with
            | cons ra rs =>
              cases rs with
              | cons rb rs =>
                cases rs
                have := key_v hk ra
                subst this
                exact ⟨a :: qs, (k, _) :: kvs, rfl, .cons (SqT.of h) hp, .cons rb hr⟩
      · cases e1
    · cases e
end
section
variable {B : Par} {X : Cx}
def vDictP (K : PySem.W.Frag) : List V → Hp → VK → Prop := fun xs H Q => ∃ (a : Addr) (ps : List Addr) (kvs : List (Key × V)), xs = [.ref a] ∧ SqL K H a (ps.map V.ref) ∧ Paired (fun p kv => SqT K H p [kV kv.1, kv.2]) ps kvs ∧
    ∀ p, H p = none → Q (.ref p) (upd H p (.dK (mergeK [] kvs)))
theorem callr_dictP (hc : X.calm = true) (hK : X.K = B.K := by rfl) : CallR X (.type "dict") (vDictP B.K) := by
  rw [← hK]
  exact call_dictP hc
theorem callf_dictP : CallF B (vDictP B.K) oDictP := by
  intro as ρ μ σ H ds vs Φ Q S rs o fin
  unfold oDictP at o
  split at o
  · obtain ⟨w, rfl, rd⟩ := rs.one
    obtain ⟨xs, kvs, e1, e2, q⟩ := o
    obtain ⟨p, ws, rfl, hp, r⟩ := look_lst S rd e1
    obtain ⟨ps, kv, rfl, hpr, kr⟩ := pairs_rep r e2
    have up : ∀ {p : Addr} {xs : List V}, SqT B.K (vis B as ρ σ H) p xs → SqT B.K H p xs := fun h => sqT_le res_sub h
    have hpr' : Paired (fun p kv => SqT B.K H p [kV kv.1, kv.2]) ps kv := by
      clear kr r hp rd
      induction hpr with
      | nil => exact .nil
      | cons a _ ih => exact .cons (up a) ih
    have m := merge_rep kr (KR.nil (O := B.O) (K := B.K) (as := as) (Hv := vis B as ρ σ H))
    exact ⟨p, ps, kv, rfl, SqL.of hp, hpr', fun l n => fin _ l (.dK (mergeK [] kv)) q n ⟨_, rfl, m.k, m.r⟩ fun _ _ _ z => nomatch z⟩
  · exact o.elim
end
/-! ### counts of sets, dicts by comprehensions -/
section
variable {ρ ρ1 ρ2 : Rho} {μ μ1 : Mu} {Φ : KD} {Ψ : KX} {g : DG} {t : DT} {e k : DE} {C : Rho → Mu → Prop} {vs : List Nat} {ds : List D} {wi wi' : DI}
theorem sc_ind (f : D → Key) {fin : List Key → Rho → Mu → Prop} (hC : C ρ μ)
    (step : ∀ d acc (Z : List Key → Rho → Mu → Prop), d ∈ ds → Z (addKey acc (f d)) ρ μ →
      g d ρ μ fun ρ1 μ1 => t ρ1 μ1 (fun b ρ2 μ2 => if b = true then e ρ2 μ2 (fun y ρ3 μ3 => ∃ k, keyD y = some k ∧ Z (addKey acc k) (wipeD ρ3 vs) μ3) never else Z acc (wipeD ρ2 vs) μ2) never)
    (done : fin ((ds.map f).foldl addKey []) ρ μ) : scD g t e vs C fin ds [] ρ μ := by
  have main : ∀ (r : List D) acc, (∀ d ∈ r, d ∈ ds) → fin ((r.map f).foldl addKey acc) ρ μ → scD g t e vs C fin r acc ρ μ := fun r => by
    induction r with
    | nil => exact fun acc _ h => ⟨hC, h⟩
    | cons d r ih => exact fun acc hd h => ⟨hC, step d acc (fun acc' ρ' μ' => scD g t e vs C fin r acc' ρ' μ') (hd d List.mem_cons_self) (ih _ (fun d h => hd d (List.mem_cons_of_mem _ h)) h)⟩
  exact main ds [] (fun _ h => h) done
theorem dc_ind (f : D → Key × D) {fin : List (Key × D) → Rho → Mu → Prop} (hC : C ρ μ)
    (step : ∀ d acc (Z : List (Key × D) → Rho → Mu → Prop), d ∈ ds → Z (dput acc (f d).1 (f d).2) ρ μ →
      g d ρ μ fun ρ1 μ1 => t ρ1 μ1 (fun b ρ2 μ2 => if b = true then k ρ2 μ2 (fun x ρ3 μ3 => ∃ kk, keyD x = some kk ∧ e ρ3 μ3 (fun y ρ4 μ4 => ∃ ρ5 y', stow ρ4 y = some (ρ5, y') ∧ Z (dput acc kk y') (wipeD ρ5 vs) μ4) never) never
        else Z acc (wipeD ρ2 vs) μ2) never)
    (done : fin (mergeD [] (ds.map f)) ρ μ) : dcD g t k e vs C fin ds [] ρ μ := by
  have main : ∀ (r : List D) acc, (∀ d ∈ r, d ∈ ds) → fin (mergeD acc (r.map f)) ρ μ → dcD g t k e vs C fin r acc ρ μ := fun r => by
    induction r with
    | nil => exact fun acc _ h => ⟨hC, h⟩
    | cons d r ih => exact fun acc hd h => ⟨hC, step d acc (fun acc' ρ' μ' => dcD g t k e vs C fin r acc' ρ' μ') (hd d List.mem_cons_self) (ih _ (fun d h => hd d (List.mem_cons_of_mem _ h)) h)⟩
  exact main ds [] (fun _ h => h) done
theorem memK_iff {ks : List Key} {k : Key} : memK ks k = true ↔ k ∈ ks := by
  unfold memK
  rw [List.any_eq_true]
  constructor
  · rintro ⟨x, hx, e⟩
    rw [decide_eq_true_eq] at e
    exact e ▸ hx
  · exact fun h => ⟨k, h, by simp⟩
theorem addKeys_len : ∀ (ks acc : List Key), (ks.foldl addKey acc).length ≤ acc.length + ks.length ∧ ((ks.foldl addKey acc).length = acc.length + ks.length ↔ ks.Nodup ∧ ∀ k ∈ ks, k ∉ acc)
  | [], acc => ⟨Nat.le_refl _, by simp⟩
  | k :: ks, acc => by
    obtain ⟨h1, h2⟩ := addKeys_len ks (addKey acc k)
    rw [List.foldl_cons, List.length_cons]
    by_cases m : memK acc k = true
    · have ea : addKey acc k = acc := by unfold addKey; rw [if_pos m]
      rw [ea] at h1 h2 ⊢
      refine ⟨by omega, ⟨fun h => by omega, fun h => absurd (memK_iff.mp m) (h.2 k List.mem_cons_self)⟩⟩
    · have ea : addKey acc k = acc ++ [k] := by unfold addKey; rw [if_neg m]
      have m' : k ∉ acc := fun h => m (memK_iff.mpr h)
      rw [ea] at h1 h2 ⊢
      rw [List.length_append, List.length_singleton] at h1 h2
      refine ⟨by omega, ⟨fun h => ?_, fun h => ?_⟩⟩
      · obtain ⟨n1, n2⟩ := h2.mp (by omega)
        refine ⟨List.nodup_cons.mpr ⟨fun hk => n2 k hk (by simp), n1⟩, fun x hx => ?_⟩
        rcases List.mem_cons.mp hx with rfl | hx
        · exact m'
        · exact fun z => n2 x hx (List.mem_append_left _ z)
      · have := h2.mpr ⟨(List.nodup_cons.mp h.1).2, fun x hx z => by
          rcases List.mem_append.mp z with z | z
          · exact h.2 x (List.mem_cons_of_mem _ hx) z
          · rw [List.mem_singleton.mp z] at hx
            exact (List.nodup_cons.mp h.1).1 hx⟩
        omega
theorem q_nbr {b : Bool} {P Q : Prop} (h : b = false → P) (h' : b = true → Q) : if (!b) = true then P else Q := by
  cases b
  · exact h rfl
  · exact h' rfl
theorem Th.num {xs : List D} {j : Nat} (h : Th μ (.num j) (.lst xs)) : μ[j]? = some (.lst xs) := by
  have l := h.lk
  simp only [lookD] at l
  cases e : μ[j]? with
  | none => rw [e] at l; cases l
  | some m => rw [e] at l; cases m <;> cases l; rfl
theorem q_walk {Φi : List D → (Rho → Mu → Prop) → Rho → Mu → Prop} {i : Nat} {d x : D} {xs : List D} (e : ρ[i]? = some (.val d)) (th : Th μ d x) (hx : x.items = some xs) (h : ∀ C : Rho → Mu → Prop, (∀ ρ', C ρ' μ) → xs.length ≤ sizeLine → Φi xs C ρ μ) :
    iSeq (rName i) ρ μ Φi Ψ ∨ iTupD (rName i) ρ μ Φi Ψ := by
  obtain ⟨a, ha, _⟩ := th.kd
  cases x <;> simp only [D.items, Option.some.injEq, reduceCtorEq] at hx
  · subst hx
    refine Or.inl (q_iseq (q_var e ?_))
    have l := th.lk
    have k := th.kp
    cases d with
    | num j =>
      exact ⟨ρ, .num j, rfl, _, th.num, h _ fun _ => th.num⟩
    | var i => cases k
    | lst ys =>
      cases l
      exact ⟨ρ, .lst _, rfl, h _ fun _ => trivial⟩
    | _ => cases l
  · subst hx
    obtain rfl := th.tup
    exact Or.inr (q_var e ⟨_, rfl, h _ fun _ => trivial⟩)
  · cases ha
theorem kind_seq {x : D} {a : String} (h : x.kind = some (.inl a)) : (tyIs a "list" || tyIs a "tuple") = x.items.isSome := by
  cases x <;> cases h <;> rfl
theorem q_inL {Φd : D → Prop} {x y : D} {xs : List D} (e : seqD ρ μ y = some xs) (h1 : x.data = true) (h2 : D.datas xs = true) (h3 : x.low) (h : Φd (.bl (xs.any fun z => z.deq x))) : oIn x y ρ μ Φd := Or.inr (Or.inr (Or.inr ⟨xs, e, h1, h2, h3, h⟩))
theorem q_notInL {Φd : D → Prop} {x y : D} {xs : List D} (e : seqD ρ μ y = some xs) (h1 : x.data = true) (h2 : D.datas xs = true) (h3 : x.low) (h : Φd (.bl (!xs.any fun z => z.deq x))) : oNotIn x y ρ μ Φd := Or.inr (Or.inr (Or.inr ⟨xs, e, h1, h2, h3, h⟩))
theorem low_str {z : Str} : (D.str z).low := by
  show PyData.depth _ ≤ 60
  simp [D.pyd, PyData.depth]
theorem datas_str {zs : List Str} : D.datas (zs.map .str) = true := datas_mem fun d h => by
  obtain ⟨z, _, rfl⟩ := List.mem_map.mp h
  rfl
theorem any_str {zs : List Str} {z : Str} : ((zs.map D.str).any fun y => y.deq (.str z)) = decide (z ∈ zs) := by
  rw [Bool.eq_iff_iff, List.any_eq_true, decide_eq_true_eq]
  constructor
  · rintro ⟨d, hd, e⟩
    obtain ⟨y, hy, rfl⟩ := List.mem_map.mp hd
    have e' : (y == z) = true := e
    exact (beq_iff_eq.mp e') ▸ hy
  · exact fun h => ⟨_, List.mem_map.mpr ⟨z, h, rfl⟩, (beq_self_eq_true z : (z == z) = true)⟩
theorem q_lenSet (h : wi ρ μ (fun ds C ρ1 μ1 => noOwn ρ1 vs = true ∧ ds.length + 1 < 4096 ∧ scD g t e vs C (fun ks ρ2 μ2 => Φ (.int ks.length) (backD ρ1 ρ2 vs) μ2) ds [] (wipeD ρ1 vs) μ1) Ψ) : rLenSet wi g t e vs ρ μ Φ Ψ := h
theorem q_dc {Φm : M → Rho → Mu → Prop} (h : wi ρ μ (fun ds C ρ1 μ1 => noOwn ρ1 vs = true ∧ ds.length ≤ sizeLine ∧ dcD g t k e vs C (fun acc ρ2 μ2 => Φm (.dic acc) (backD ρ1 ρ2 vs) μ2) ds [] (wipeD ρ1 vs) μ1) Ψ) : rDc wi g t k e vs ρ μ Φm Ψ := h
theorem q_dnew {Φm : M → Rho → Mu → Prop} (h : Φm (.dic []) ρ μ) : rDnew ρ μ Φm Ψ := h
end
end Dl
local macro_rules | `(tactic| walk_at "dstep4") => `(tactic| first
  | walk_at "dstep3"
  | with_reducible refine Dl.q_lenSet ?_
  | with_reducible refine Dl.q_dc ?_
  | with_reducible refine Dl.q_dnew ?_)
local macro_rules | `(tactic| walk_at "dgo4") => `(tactic| repeat walk_at "dstep4")
namespace Dl
open PySem PySem.Spec PyProof.Rows L2
/-! ### repr of data, dicts among them -/
def keyP : Key → PyData
  | .inl i => .int i
  | .inr z => .str z
mutual
def D.pyr : D → PyData
  | .bl b => .bool b
  | .int i => .int i
  | .str z => .str z
  | .lst xs => .list (D.pyrs xs)
  | .tup xs => .tuple (D.pyrs xs)
  | .dic kvs => .dict (D.pyrk kvs)
  | _ => .none
def D.pyrs : List D → List PyData
  | [] => []
  | x :: xs => D.pyr x :: D.pyrs xs
def D.pyrk : List (Key × D) → List (PyData × PyData)
  | [] => []
  | (k, x) :: xs => (keyP k, D.pyr x) :: D.pyrk xs
end
mutual
def D.dat2 : D → Bool
  | .non => true
  | .bl _ => true
  | .int _ => true
  | .str _ => true
  | .lst xs => D.dat2s xs
  | .tup xs => D.dat2s xs
  | .dic kvs => D.dat2k kvs
  | _ => false
def D.dat2s : List D → Bool
  | [] => true
  | x :: xs => D.dat2 x && D.dat2s xs
def D.dat2k : List (Key × D) → Bool
  | [] => true
  | (_, x) :: xs => D.dat2 x && D.dat2k xs
end
theorem pyrk_fst : ∀ ds : List (Key × D), (D.pyrk ds).map (·.1) = ds.map fun p => keyP p.1
  | [] => rfl
  | (k, x) :: xs => by simp only [D.pyrk, List.map_cons, pyrk_fst xs]
theorem pyrk_snd : ∀ ds : List (Key × D), (D.pyrk ds).map (·.2) = D.pyrs (ds.map (·.2))
  | [] => rfl
  | (k, x) :: xs => by simp only [D.pyrk, D.pyrs, List.map_cons, pyrk_snd xs]
theorem dat2k_snd : ∀ ds : List (Key × D), D.dat2k ds = D.dat2s (ds.map (·.2))
  | [] => rfl
  | (k, x) :: xs => by simp only [D.dat2k, D.dat2s, List.map_cons, dat2k_snd xs]
theorem key_reads {h : Heap} {P : Program} {w : World} : ∀ {es : List DictEntry} {vs : List (Key × Value)} {ks : List Key}, Pairs (mixKind P w) es vs → vs.map (·.1) = ks → ReadsAll h (es.map (·.key)) (ks.map keyP) []
  | _, _, _, .nil, e => by
    subst e
    exact .nil
  | _, _, _, .cons (e := e) (kv := kv) hk _ r, e' => by
    subst e'
    have ih := key_reads (h := h) r rfl
    have one : Reads h e.key (keyP kv.1) [] := by
      rcases keyIs_shape (show keyIs kv.1 e.key = true from hk) with ⟨i, t, e1, e2⟩ | ⟨x, t, e1, e2⟩
      · rw [e1, e2]
        exact .int i t
      · rw [e1, e2]
        exact .str x t
    exact .cons one ih
theorem val_vals : ∀ {kvs : List (Key × V)} {vs : List (Key × Value)} {es : List DictEntry} {P : Program} {w : World}, KV kvs vs → Pairs (mixKind P w) es vs → Vals (kvs.map (·.2)) (es.map (·.val)) ∧ vs.map (·.1) = kvs.map (·.1)
  | _, _, _, _, _, .nil, .nil => ⟨.nil, rfl⟩
  | _, _, _, _, _, .cons a r, .cons _ hv r' => by
    obtain ⟨h1, h2⟩ := val_vals (show KV _ _ from r) r'
    refine ⟨.cons ?_ h1, ?_⟩
    · dsimp only
      rw [hv]
      exact a.2
    · rw [List.map_cons, List.map_cons, h2, a.1]
section
variable {O : Objs} {X : Cx} {pins : List (Addr × Obj)} {σ : L2.St} {H : Hp} {s : Shared} {as : List Addr}
mutual
theorem Rep.reads2 (I : Inv X pins σ H s) : ∀ {v : V} {d : D}, d.dat2 = true → Rep O X.K as H v d → ∀ {u : Value}, RelV v u → ∃ bs, Reads s.heap u d.pyr bs ∧ ∀ b ∈ bs, H b ≠ none
  | _, _, _, .non, _, r => by cases r; exact ⟨[], .none, fun _ h => nomatch h⟩
  | _, _, _, .bl b, _, r => by cases r; exact ⟨[], .bool b, fun _ h => nomatch h⟩
  | _, _, _, .int i, _, r => by obtain ⟨t, rfl⟩ := r; exact ⟨[], .int i t, fun _ h => nomatch h⟩
  | _, _, _, .str z, _, r => by obtain ⟨t, rfl⟩ := r; exact ⟨[], .str z t, fun _ h => nomatch h⟩
  | _, _, h, .lst (a := a) e rs, _, r => by
    cases r
    obtain ⟨its, rv, ⟨o, n, ho, hc, _, hd⟩, _⟩ := I.list (SqL.of e)
    obtain ⟨bs, q, hb⟩ := Reps.reads2 I (by simpa only [D.dat2] using h) rs rv
    refine ⟨a :: bs, Reads.list ho hc hd q, fun b hm => ?_⟩
    rcases List.mem_cons.mp hm with rfl | hm
    · rw [e]
      exact fun z => nomatch z
    · exact hb b hm
  | _, _, h, .tup e rs, _, r => by
    cases r
    obtain ⟨its, rv, ⟨o, ho, hc, n, hd⟩, _⟩ := I.tuple (SqT.of e)
    obtain ⟨bs, q, hb⟩ := Reps.reads2 I (by simpa only [D.dat2] using h) rs rv
    exact ⟨bs, Reads.tuple ho hc hd q, hb⟩
  | _, .dic ds, h, .dic (a := a) e hk rs, _, r => by
    cases r
    obtain ⟨_, _, vs, kv, o, es, ep, ho, hx, hd, _, hp, _⟩ := dk_rd I.hok e
    obtain ⟨rv, ek⟩ := val_vals kv hp
    obtain ⟨bs, q, hb⟩ := Reps.reads2 I (by rw [← dat2k_snd]; simpa only [D.dat2] using h) rs rv
    have kr : ReadsAll s.heap (es.toList.map (·.key)) ((D.pyrk ds).map (·.1)) [] := by
      rw [pyrk_fst]
      have := key_reads (h := s.heap) hp (ek.trans hk)
      rw [List.map_map] at this
      exact this
    refine ⟨a :: [] ++ bs, Reads.dict ho hx.1 hd kr (by rw [pyrk_snd]; exact q), fun b hm => ?_⟩
    rcases List.mem_cons.mp hm with rfl | hm
    · rcases e with e | ⟨o, e⟩ <;> rw [e] <;> exact fun z => nomatch z
    · exact hb b hm
  | _, _, h, .ty _, _, _ => by simp [D.dat2] at h
  | _, _, h, .adr _, _, _ => by simp [D.dat2] at h
  | _, _, h, .num _, _, _ => by simp [D.dat2] at h
  | _, _, h, .cls _, _, _ => by simp [D.dat2] at h
  | _, _, h, .scr _ _, _, _ => by simp [D.dat2] at h
  | _, _, h, .dit _ _ _, _, _ => by simp [D.dat2] at h
  | _, _, h, .obj _ _ _ _ _ _ _ _, _, _ => by simp [D.dat2] at h
theorem Reps.reads2 (I : Inv X pins σ H s) : ∀ {vs : List V} {ds : List D}, D.dat2s ds = true → Reps O X.K as H vs ds → ∀ {us : List Value}, Vals vs us → ∃ bs, ReadsAll s.heap us (D.pyrs ds) bs ∧ ∀ b ∈ bs, H b ≠ none
  | _, _, _, .nil, _, r => by cases r; exact ⟨[], .nil, fun _ h => nomatch h⟩
  | _, _ :: _, h, .cons a rs, _, r => by
    simp only [D.dat2s, Bool.and_eq_true] at h
    cases r with
    | cons r1 r2 =>
      obtain ⟨bs, q, hb⟩ := Rep.reads2 I h.1 a r1
      obtain ⟨cs, q2, hc⟩ := Reps.reads2 I h.2 rs r2
      refine ⟨bs ++ cs, .cons q q2, fun b hm => ?_⟩
      rcases List.mem_append.mp hm with hm | hm
      · exact hb b hm
      · exact hc b hm
end
end
end Dl
namespace Dl
open PySem PySem.Spec PyProof.Rows L2
/-! ### things that change, within a thing that is read -/
mutual
def D.rsv (μ : Mu) : D → Option D
  | .num j => match μ[j]? with
    | some m => m.tree
    | none => none
  | .lst xs => (D.rsvs μ xs).map .lst
  | .tup xs => (D.rsvs μ xs).map .tup
  | d => some d
def D.rsvs (μ : Mu) : List D → Option (List D)
  | [] => some []
  | x :: xs => match D.rsv μ x, D.rsvs μ xs with
    | some y, some ys => some (y :: ys)
    | _, _ => none
end
section
variable {O : Objs} {K : PySem.W.Frag} {as : List Addr} {H Hv : Hp} {μ : Mu}
theorem MObj.full {p : Addr} {o : HO} {m : M} {d : D} (ho : H p = some o) (hs : ∀ a o, Hv a = some o → H a = some o) (r : MObj O K as Hv p o m) (e : m.tree = some d) : Rep O K as H (.ref p) d := by
  cases m <;> simp only [M.tree, Option.some.injEq, reduceCtorEq] at e <;> subst e
  · obtain ⟨vs, rfl, r⟩ := r
    exact .lst ho (r.le hs)
  · obtain ⟨vs, rfl, hk, r⟩ := r
    exact .dic (Or.inl ho) hk (r.le hs)
  · obtain ⟨vs, rfl, hk, r⟩ := r
    exact .dit (Or.inl ho) hk (r.le hs)
mutual
theorem Rep.rsv (S : MuOk O K as Hv H μ) (hs : ∀ a o, Hv a = some o → H a = some o) : ∀ {v : V} {d d' : D}, Rep O K as H v d → d.rsv μ = some d' → Rep O K as H v d'
  | _, _, _, .num (i := i) (p := p) hp, e => by
    simp only [D.rsv] at e
    cases em : μ[i]? with
    | none => rw [em] at e; cases e
    | some m =>
      rw [em] at e
      obtain ⟨o, ho, mo⟩ := S.mu i m p em hp
      exact mo.full ho hs e
  | _, .lst xs, _, .lst h rs, e => by
    simp only [D.rsv, Option.map_eq_some_iff] at e
    obtain ⟨ys, e, rfl⟩ := e
    exact .lst h (Reps.rsv S hs rs e)
  | _, .tup xs, _, .tup h rs, e => by
    simp only [D.rsv, Option.map_eq_some_iff] at e
    obtain ⟨ys, e, rfl⟩ := e
    exact .tup h (Reps.rsv S hs rs e)
  | _, _, _, .non, e => by cases e; exact .non
  | _, _, _, .bl b, e => by cases e; exact .bl b
  | _, _, _, .int i, e => by cases e; exact .int i
  | _, _, _, .str z, e => by cases e; exact .str z
  | _, _, _, .ty n, e => by cases e; exact .ty n
  | _, _, _, .adr a, e => by cases e; exact .adr a
  | _, _, _, .cls h, e => by cases e; exact .cls h
  | _, _, _, .scr h r, e => by cases e; exact .scr h r
  | _, _, _, .dic h k r, e => by cases e; exact .dic h k r
  | _, _, _, .dit h k r, e => by cases e; exact .dit h k r
  | _, _, _, .obj w h t l r m1 m2 no, e => by cases e; exact .obj w h t l r m1 m2 no
theorem Reps.rsv (S : MuOk O K as Hv H μ) (hs : ∀ a o, Hv a = some o → H a = some o) : ∀ {vs : List V} {ds ds' : List D}, Reps O K as H vs ds → D.rsvs μ ds = some ds' → Reps O K as H vs ds'
  | _, _, _, .nil, e => by cases e; exact .nil
  | _, x :: xs, _, .cons a r, e => by
    simp only [D.rsvs] at e
    split at e
    · rename_i y ys e1 e2
      cases e
      exact .cons (Rep.rsv S hs a e1) (Reps.rsv S hs r e2)
    · cases e
end
end
/-! ### repr -/
def vRepr (O : Objs) (K : PySem.W.Frag) : List V → Hp → VK → Prop := fun xs H Q => ∃ x d as, xs = [x] ∧ Rep O K as H x d ∧ d.dat2 = true ∧ d.pyr.showable = true ∧ d.pyr.depth ≤ 60 ∧ d.pyr.shown.length ≤ sizeLine ∧ Q (.str d.pyr.shown) H
theorem callr_repr {B : Par} {X : Cx} (gua : X.A.guards = some []) (hu : X.A.units + 64 < cLine) (sm : (B.K.lookup sysModules).isSome = true) (hK : X.K = B.K := by rfl) : CallR X (.builtin "repr") (vRepr B.O B.K) := by
  intro pins s σ H xs us Q I rel h
  obtain ⟨x, d, as, rfl, hr, hd, sh, dp, sz, q⟩ := h
  obtain ⟨u, rfl, ru⟩ := vals1 rel
  rw [← hK] at hr sm
  obtain ⟨bs, rd, hb⟩ := Rep.reads2 I hd hr ru
  have nsm : sysModules ∉ bs := fun hm => by
    cases e : X.K.lookup sysModules with
    | none => rw [e] at sm; cases sm
    | some o => exact hb _ hm (I.bs _ _ (I.mod.kin _ _ e)).2
  have leaf : ∀ tk, EP X pins σ Q (.str d.pyr.shown tk) { s with toks := s.toks + 1 } := fun tk => ⟨.str d.pyr.shown, H, I.tok _, ⟨tk, rfl⟩, q⟩
  generalize d.pyr = y at *
  cases u with
  | ref a =>
    refine repr_of_reads' rd sh (fun _ => nsm) gua (by omega) (fun b o e => e) ?_ sz
    intro h' u tk keep
    exact ⟨.str y.shown, H, I.kept keep, ⟨u, rfl⟩, q⟩
  | none =>
    cases rd
    simp only [PyData.shown] at leaf sz
    exact PySem.P.repr_of_none (leaf _)
  | bool b =>
    cases rd
    simp only [PyData.shown] at leaf sz
    exact PySem.P.repr_of_bool (leaf _)
  | int i t =>
    cases rd
    simp only [PyData.shown] at leaf sz
    exact PySem.P.repr_of_int (by simpa [PyData.showable] using sh) (leaf _)
  | str z t =>
    cases rd
    simp only [PyData.shown] at leaf sz
    exact PySem.P.repr_of_str (leaf _) sz
  | _ => cases rd
def oRepr : List D → Rho → Mu → (D → Prop) → Prop
  | [d], ρ, μ, Φ => ∃ x y, lookD ρ μ d = some x ∧ x.rsv μ = some y ∧ y.dat2 = true ∧ y.pyr.showable = true ∧ y.pyr.depth ≤ 60 ∧ y.pyr.shown.length ≤ sizeLine ∧ Φ (.str y.pyr.shown)
  | _, _, _, _ => False
theorem calls_repr {B : Par} : CallS B (vRepr B.O B.K) oRepr := by
  intro as ρ μ σ H ds vs Φ Q S rs o fin
  unfold oRepr at o
  split at o
  · obtain ⟨w, rfl, rd⟩ := rs.one
    obtain ⟨x, y, e1, e2, h1, h2, h3, h4, q⟩ := o
    have full : Rep B.O B.K as H w x := by
      rcases look_cases S rd e1 with ⟨p, m, rfl, ⟨o, ho, mo⟩, t⟩ | r
      · exact mo.full ho res_sub t
      · exact r.le res_sub
    exact ⟨w, y, as, rfl, full.rsv S.mu res_sub e2, h1, h2, h3, h4, fin _ _ H q (fun _ _ e => e) (.str _)⟩
  · exact o.elim
theorem q_repr {ρ : Rho} {μ : Mu} {Φd : D → Prop} {d x y : D} (e1 : lookD ρ μ d = some x) (e2 : x.rsv μ = some y) (h1 : y.dat2 = true) (h2 : y.pyr.showable = true) (h3 : y.pyr.depth ≤ 60) (h4 : y.pyr.shown.length ≤ sizeLine) (h : Φd (.str y.pyr.shown)) : oRepr [d] ρ μ Φd := ⟨x, y, e1, e2, h1, h2, h3, h4, h⟩
end Dl
namespace Dl
open PySem PySem.Spec PyProof.Rows L2
/-! ### len(o), of a class with its own __len__ that raises nothing -/
section
variable {X : Cx} {CX : CXT} {k : Nat} {f C : Addr} {fd : FuncData} {ps : List Str} {sp : Sp}
def vLenO (C : Addr) (sp : Sp) : List V → Hp → VK → Prop := fun xs H Q => ∃ a dx fs, xs = [.ref a] ∧ H a = some (.ins C dx fs) ∧ sp [.ref a] H (fun v H' => ∃ n : Nat, v = .int n ∧ (n : Int) < 2 ^ 62 ∧ Q (.int n) H') (fun _ _ _ => False)
theorem callr_lenO (F : FnC X.prog X.w X.K X.mg X.base CX k f fd ps sp) (hr : Room (k + 1) X.A) (gua : X.A.guards = some []) (hb : Binds X.K fd ps []) (hx : ∀ σ, PassesAt CX X σ (fun _ _ _ => False)) (hm : Meth X.K C "__len__" f) : CallR X (.builtin "len") (vLenO C sp) := by
  intro pins s σ H xs us Q I r h
  obtain ⟨a, dx, fs, rfl, ha, q⟩ := h
  obtain ⟨u, rfl, ru⟩ := vals1 r
  obtain rfl : u = Value.ref a := ru
  obtain ⟨mA, O, _, _, _, _⟩ := ins_get I.hok ha
  obtain ⟨od, J, _⟩ := O.look
  refine PySem.Calls.call_function_entry PySem.kind_len PySem.plain_len PySem.entry_len (PySem.args_len1 _) ?_
  unfold Builtin.«len»
  refine wpAny_bind (m := oneArg "len" _) (wpAny_pure ?_)
  have hl : ([Value.ref a] ++ []).length = ps.length := by
    rw [List.append_nil]
    exact F.many _ _ _ _ q
  have b := hb s [.ref a] I.kIn hl
  rw [List.append_nil] at b
  refine wpAny_bind (m := callSpecial? (.ref a) (Str.ofString "__len__")) (PySem.W.special_fn I.kIn J hm.at_ (beq_iff_eq.mp hm.fn) ?_)
  refine wpAny_call (codeAny_mono (F.go X.A.in1 X.stack s H ⟨[.ref a], []⟩ [.ref a] [.ref a] _ _ hr.in1 gua I.env0.in1 b (.cons rfl .nil) q) fun r s' hq => ?_)
  cases r with
  | error e => exact hx σ pins H s e s' I hq
  | ok fl =>
    cases fl with
    | ret u =>
      obtain ⟨v, H', I', rv, n, rfl, hn, q'⟩ := I.after hq
      obtain ⟨t, rfl⟩ := rv
      have h0 : ¬ ((n : Int) < 0) := by omega
      have h1 : ¬ ((n : Int) ≥ 2 ^ 63) := by omega
      refine wpAny_bind (wpAny_holding (wpAny_pure ?_))
      refine wpAny_bind (wpAny_letGo ?_)
      show wpAny _ _ (if (n : Int) < 0 then _ else _) _ _ _
      rw [if_neg h0]
      show wpAny _ _ (if (n : Int) ≥ 2 ^ 63 then _ else _) _ _ _
      rw [if_neg h1]
      exact wpAny_bind (wpAny_mkInt (wpAny_pure ⟨_, rfl, .int n, H', I'.tok _, ⟨_, rfl⟩, q'⟩))
    | next => exact False.elim hq
    | brk => exact False.elim hq
    | cont => exact False.elim hq
end
end Dl
namespace Dl
open PySem PySem.Spec PyProof.Rows L2
section
variable {B : Par} {X : Cx} {k lv : Nat} {f C : Addr} {fd : FuncData} {ps : List Str} {sp : SpD} {sh : Sh} {x : Str} {pp pos : Pos} {e : Expr} {ra : DE}
/-- len(o), of a class with its own __len__ -/
def rLenO (sh : Sh) (k : Nat) (sp : SpD) (ra : DE) : DE := fun ρ μ Φ Ψ => ra ρ μ (fun x ρ1 μ1 => insK sh k "__len__" x ρ1 μ1 ∧ callQ sp [x] ρ1 μ1 (fun d ρ2 μ2 => ∃ n : Nat, d = .int n ∧ (n : Int) < 2 ^ 62 ∧ Φ (.int n) ρ2 μ2) never) Ψ
theorem passes_no {CX : CXT} (tk : L2N.Takes X WNo) (σ : L2.St) : PassesAt (L2N.CX X.prog X.w) X σ (fun _ _ _ => False) := L2N.passAt tk σ
theorem pd_lenO (hs : B.O.sh = sh) (one : ∀ C', B.O.tag C' = some k → C' = C) (hm : Meth B.K C "__len__" f) (F : FnD B.O X.prog X.w B.K X.mg X.base lv f fd ps sp) (hr : Room (lv + 1) X.A) (gua : X.A.guards = some []) (hb : Binds B.K fd ps [])
    (hg : Gl X x) (hx : X.mg x = none) (hv : bootBuiltins x = some (.builtin "len")) (ho : PD X B e ra) (hK : X.K = B.K := by rfl) (hn : x ≠ "__name__" := by decide) (hdb : (x == ("__debug__" : Str)) = false := by decide)
    (he : starEach [e] X.env = (false, eval e X.env) :: starEach [] X.env := by rfl) (hpl : (backTo pos (starEach [] X.env)).any (·.1) = false := by rfl) :
    PD X B (.Call (.Name x pp) [e] [] pos) (rLenO sh k sp ra) := by
  have cr : CallR X (.builtin "len") (vLenO C (spV B.O B.K sp)) := by
    refine callr_lenO (X := X) (CX := L2N.CX X.prog X.w) (k := lv) (f := f) (fd := fd) (ps := ps) ?_ hr gua ?_ (fun σ => passes_no (CX := L2N.CX X.prog X.w) takes_no σ) ?_
    · rw [hK]; exact F
    · rw [hK]; exact hb
    · rw [hK]; exact hm
  refine (pe_callB (p := pp) (pos := pos) cr hg hx hv (pa_cons ho pa_nil he) hn hdb he hpl).imp fun σ H Q h => ?_
  obtain ⟨as, ρ, μ, Φ, Ψ, S, r, xx, fin⟩ := h
  refine ⟨as, ρ, μ, _, Ψ, S, r, xx, fun d1 as1 ρ1 μ1 H1 v1 q1 k1 S1 t1 => ?_⟩
  obtain ⟨ik, q1⟩ := q1
  obtain ⟨a, dx, fs, rfl, ha, l⟩ := ins_of hs one S1 t1 ik
  refine ⟨a, dx, fs, rfl, ha, ?_⟩
  have := core_call (B := ⟨B.O, B.K, B.fm, WNo⟩) (σ := σ) (Ψ := never) (Q := fun v H' => ∃ n : Nat, v = V.int n ∧ (n : Int) < 2 ^ 62 ∧ Q (.int n) H') S1 (RepTs.cons t1 .nil) q1 (fun _ _ _ _ _ _ _ z => z.elim) fun d as' μ' H' v q k S' r => by
    obtain ⟨n, rfl, hn, q⟩ := q
    exact ⟨n, r.int, hn, fin _ as' ρ1 μ' H' _ q (k1.trans ⟨k.g⟩) S' (Rep.int _).t⟩
  exact this
end
section
variable {ρ : Rho} {μ : Mu} {Φ : KD} {Ψ : KX} {ra : DE} {sh : Sh} {f : Str} {Φd : D → Prop} {k : Nat} {a : Addr} {ds : List D} {x : D}
theorem q_fld (h : ra ρ μ (fun x ρ1 μ1 => fldD sh f x ρ1 μ1 fun d => Φ d ρ1 μ1) Ψ) : rFld sh ra f ρ μ Φ Ψ := h
theorem q_fld1 (m : ∀ f, sh.memo k f = none) (e : ((sh.flds k).zip ds).lookup f = some x) (h : Φd x) : fldD sh f (.obj k a ds) ρ μ Φd := by
  unfold fldD
  dsimp only
  rw [m f]
  exact ⟨x, e, h⟩
theorem q_lenO {sp : SpD} (h : ra ρ μ (fun x ρ1 μ1 => insK sh k "__len__" x ρ1 μ1 ∧ callQ sp [x] ρ1 μ1 (fun d ρ2 μ2 => ∃ n : Nat, d = .int n ∧ (n : Int) < 2 ^ 62 ∧ Φ (.int n) ρ2 μ2) never) Ψ) : rLenO sh k sp ra ρ μ Φ Ψ := h
end
section
variable {P : Program} {w : World} {K : PySem.W.Frag} {mg : Str → Option Value} {base : Heap} {O : Objs}
/-- as fnD_by, for an __init__ -/
theorem fnI_by {x qual : Str} {st : Stmt} {f : Addr} {fd : FuncData} {N ps : List Str} {k kc : Nat} {sp : SpI} (F : Fun K x qual st f fd) (S : FnScope N ps (defScope st))
    (len : ∀ ds μ Φ Ψ, sp ds μ Φ Ψ → ds.length + 1 = ps.length) (hN : 0 < N.length)
    (body : ∃ r : DS, (∀ (fm : Fm) (W : WX) (cdv : Value) (A : Around) (outer : List Env) (s : Shared) (H : Hp) (E : XK),
        Room k (A.deeper (envOfC qual (defScope st) s.heap.objs.size f cdv)) → A.guards = some [] → L2N.Takes (cxOf (L2N.CX P w) P w K mg base N qual (defScope st) f cdv A outer s H E) W →
        PassesOwn (model P w) (A.deeper (envOfC qual (defScope st) s.heap.objs.size f cdv)) (envOfC qual (defScope st) s.heap.objs.size f cdv) (cxOf (L2N.CX P w) P w K mg base N qual (defScope st) f cdv A outer s H E).xe →
        PDSs (cxOf (L2N.CX P w) P w K mg base N qual (defScope st) f cdv A outer s H E) ⟨O, K, fm, W⟩ (defBody st) r) ∧
      ∀ p ds μ Φ Ψ, ds.all D.kept = true → sp ds μ Φ Ψ → r { nx := fun ρ' μ' => ∃ fs, ρ'[0]? = some (.own (.ins kc p fs)) ∧ Φ fs μ', rt := fun _ _ => False, ex := fun e _ μ' => Ψ e μ' } (startI N kc p ds) μ) :
    FnI O P w K mg base kc (k + 1) f fd ps sp := by
  obtain ⟨r, h1, h2⟩ := body
  refine fnI_of F S len hN ⟨r, fun B cdv A outer s H E e1 e2 e3 room gua tk po => ?_, h2⟩
  obtain ⟨O', K', fm, W⟩ := B
  have e1' : O = O' := e1.symm
  have e2' : K = K' := e2.symm
  subst e1' e2'
  exact h1 fm W cdv A outer s H E room gua tk po
end
end Dl
local macro_rules | `(tactic| walk_at "dstep5") => `(tactic| first
  | walk_at "dstep4"
  | with_reducible refine Dl.q_fld ?_
  | with_reducible refine Dl.q_lenO ?_)
local macro_rules | `(tactic| walk_at "dgo5") => `(tactic| repeat walk_at "dstep5")
namespace Dl
open PySem PySem.Spec PyProof.Rows L2
/-! ### walks over dicts: one that is seen is locked, and stays so -/
section
variable {O : Objs} {K : PySem.W.Frag} {as : List Addr} {H : Hp} {X : Addr → Prop}
def isDict (u : HO) : Prop := (∃ kvs, u = .dK kvs) ∨ ∃ kvs, u = .dT kvs
theorem Grow.lock {p : Addr} {od : Obj} {u : HO} (e : H p = some u) (dk : isDict u) : Grow O K as X H as X (upd H p (.frz od u)) where
  pre := ⟨[], by simp⟩
  new := fun q a b => absurd a b
  raw := fun q o n h => by
    by_cases z : q = p
    · subst z
      rw [e] at h
      cases h
      exact ⟨_, upd_same, Or.inl (Or.inr ⟨od, rfl, dk⟩)⟩
    · exact ⟨o, by rw [upd_ne z]; exact h, Or.inl Lk.refl⟩
  trk := fun q h => (upd_trk h).1
end
section
variable {B : Par} {X : Cx} {as as' : List Addr} {ρ ρ' : Rho} {μ μ' : Mu} {σ σ' : L2.St} {H H' : Hp} {v w : V} {d d' : D} {i : Nat} {m m' : M} {p : Addr} {o : HO}
theorem SimB.lock {u : HO} {od : Obj} (S : SimB B as ρ μ σ H) (n : ¬ XX B.fm.F as ρ σ p) (e : H p = some u) (dk : isDict u) : SimB B as ρ μ σ (upd H p (.frz od u)) ∧ StepB B as ρ σ H as ρ (upd H p (.frz od u)) := by
  have g : Grow B.O B.K as (XX B.fm.F as ρ σ) H as (XX B.fm.F as ρ σ) (upd H p (.frz od u)) := Grow.lock e dk
  have keep : ∀ q, XX B.fm.F as ρ σ q → upd H p (.frz od u) q = H q := fun q h => upd_ne (fun z => n (z ▸ h))
  refine ⟨⟨S.len, fun i d h => ?_, fun i m h => ?_, S.one, ⟨S.mu.len, S.mu.nod, fun j m q a b => ?_⟩, S.base.trans g, fun q h => (keep q (Or.inr (Or.inl h))).trans (S.stay q h), fun q h => by rw [keep q (Or.inr (Or.inl h))]; exact S.ftrk q h, S.fas, fun z hz => (S.pin z hz).grow g g.see⟩, ⟨g⟩⟩
  · obtain ⟨v, s, r⟩ := S.val i d h
    exact ⟨v, s, g.rep g.see r⟩
  · obtain ⟨q, s, ⟨o, ho, r⟩, nn, f⟩ := S.own i m h
    exact ⟨q, s, ⟨o, by rw [keep q (Or.inr (Or.inr ⟨i, m, h, s⟩))]; exact ho, MObj.grow g g.see r⟩, nn, f⟩
  · obtain ⟨o, ho, r⟩ := S.mu.mu j m q a b
    exact ⟨o, by rw [keep q (Or.inl (List.mem_of_getElem? b))]; exact ho, MObj.grow g g.see r⟩
/-- the dict is locked where its walk begins -/
def iKeysL (J : Addr → Obj → List (Key × V) → It) (td : TE) : TI := fun σ H R => td σ H fun x H1 => ∃ d kvs, x = .ref d ∧
  ((H1 d = some (.dK kvs) ∧ ∀ od, R (J d od kvs) (upd H1 d (.frz od (.dK kvs)))) ∨ ∃ od, H1 d = some (.frz od (.dK kvs)) ∧ R (J d od kvs) H1)
variable {tg e : Expr} {td : TE} {apos cpos tpos : Pos} {elts : List Expr} {kk : Nat}
/-- a walk's start with the thing locked in between -/
theorem to_locked {J : Addr → Obj → List (Key × V) → It} (h : PE X e td) :
    PE X e (fun σ H Q => td σ H fun x H1 => ∃ d kvs, x = .ref d ∧ ((H1 d = some (.dK kvs) ∧ ∀ od, Q x (upd H1 d (.frz od (.dK kvs)))) ∨ ∃ od, H1 d = some (.frz od (.dK kvs)) ∧ Q x H1)) := ⟨fun pins s σ H Q I q => by
  refine thn (h.run pins s σ H _ I q) fun u s1 ⟨x, H1, I1, rx, d, kvs, ex, q⟩ => ?_
  rcases q with ⟨hd, q⟩ | ⟨od, hd, q⟩
  · obtain ⟨od, I2⟩ := I1.lock hd trivial
    exact ⟨x, _, I2, rx, q od⟩
  · exact ⟨x, H1, I1, rx, q⟩⟩
theorem pi_keysL (h : PE X e td) : PI X tg e (iKeysL Itk td) := (pi_keys (tg := tg) (to_locked (J := Itk) h)).imp fun σ H R q => by
  show td σ H _
  refine (?_ : (fun x H1 => _) = (fun x H1 => _)) ▸ q
  funext x H1
  refine propext ⟨?_, ?_⟩
  · rintro ⟨d, kvs, rfl, ⟨hd, q⟩ | ⟨od, hd, q⟩⟩
    · exact ⟨d, kvs, rfl, Or.inl ⟨hd, fun od => ⟨d, od, rfl, Or.inl ⟨kvs, upd_same, q od⟩⟩⟩⟩
    · exact ⟨d, kvs, rfl, Or.inr ⟨od, hd, d, od, rfl, Or.inl ⟨kvs, hd, q⟩⟩⟩
  · rintro ⟨d, kvs, rfl, ⟨hd, q⟩ | ⟨od, hd, q⟩⟩
    · refine ⟨d, kvs, rfl, Or.inl ⟨hd, fun od => ?_⟩⟩
      obtain ⟨d', od', z, ⟨kvs', h1, q⟩ | ⟨kvs', h1, q⟩⟩ := q od
      · cases z
        rw [upd_same] at h1
        cases h1
        exact q
      · cases z
        rw [upd_same] at h1
        cases h1
    · refine ⟨d, kvs, rfl, Or.inr ⟨od, hd, ?_⟩⟩
      obtain ⟨d', od', z, ⟨kvs', h1, q⟩ | ⟨kvs', h1, q⟩⟩ := q
      · cases z
        rw [hd] at h1
        cases h1
        exact q
      · cases z
        rw [hd] at h1
        cases h1
theorem pi_valuesL (h : PE X e td) (hbase : attributeBase e "values" X.env (eval e X.env) = eval e X.env := by rfl) (hline : (apos.endLine == cpos.line) = true := by rfl) : PI X tg (.Call (.Attribute e "values" apos) [] [] cpos) (iKeysL Itd td) := (pi_values (tg := tg) (to_locked (J := Itd) h) hbase hline).imp fun σ H R q => by
  show td σ H _
  refine (?_ : (fun x H1 => _) = (fun x H1 => _)) ▸ q
  funext x H1
  refine propext ⟨?_, ?_⟩
  · rintro ⟨d, kvs, rfl, ⟨hd, q⟩ | ⟨od, hd, q⟩⟩
    · exact ⟨d, kvs, rfl, Or.inl ⟨hd, fun od => ⟨d, od, kvs, rfl, upd_same, q od⟩⟩⟩
    · exact ⟨d, kvs, rfl, Or.inr ⟨od, hd, d, od, kvs, rfl, hd, q⟩⟩
  · rintro ⟨d, kvs, rfl, ⟨hd, q⟩ | ⟨od, hd, q⟩⟩
    · refine ⟨d, kvs, rfl, Or.inl ⟨hd, fun od => ?_⟩⟩
      obtain ⟨d', od', kvs', z, h1, q⟩ := q od
      cases z
      rw [upd_same] at h1
      cases h1
      exact q
    · refine ⟨d, kvs, rfl, Or.inr ⟨od, hd, ?_⟩⟩
      obtain ⟨d', od', kvs', z, h1, q⟩ := q
      cases z
      rw [hd] at h1
      cases h1
      exact q
theorem pi_itemsL (h : PE X e td) (hbase : attributeBase e "items" X.env (eval e X.env) = eval e X.env := by rfl) (hline : (apos.endLine == cpos.line) = true := by rfl) : PI X (.Tuple elts kk tpos) (.Call (.Attribute e "items" apos) [] [] cpos) (iKeysL Iti td) := (pi_items (elts := elts) (kk := kk) (tpos := tpos) (to_locked (J := Iti) h) hbase hline).imp fun σ H R q => by
  show td σ H _
  refine (?_ : (fun x H1 => _) = (fun x H1 => _)) ▸ q
  funext x H1
  refine propext ⟨?_, ?_⟩
  · rintro ⟨d, kvs, rfl, ⟨hd, q⟩ | ⟨od, hd, q⟩⟩
    · exact ⟨d, kvs, rfl, Or.inl ⟨hd, fun od => ⟨d, od, kvs, rfl, upd_same, q od⟩⟩⟩
    · exact ⟨d, kvs, rfl, Or.inr ⟨od, hd, d, od, kvs, rfl, hd, q⟩⟩
  · rintro ⟨d, kvs, rfl, ⟨hd, q⟩ | ⟨od, hd, q⟩⟩
    · refine ⟨d, kvs, rfl, Or.inl ⟨hd, fun od => ?_⟩⟩
      obtain ⟨d', od', kvs', z, h1, q⟩ := q od
      cases z
      rw [upd_same] at h1
      cases h1
      exact q
    · refine ⟨d, kvs, rfl, Or.inr ⟨od, hd, ?_⟩⟩
      obtain ⟨d', od', kvs', z, h1, q⟩ := q
      cases z
      rw [hd] at h1
      cases h1
      exact q
end
/-! what is walked -/
def keyT : Key → D
  | .inl i => .int i
  | .inr z => .str z
theorem keyT_rep {O : Objs} {K : PySem.W.Frag} {as : List Addr} {Hv : Hp} (k : Key) : Rep O K as Hv (kV k) (keyT k) := by
  cases k with
  | inl i => exact .int i
  | inr z => exact .str z
section
variable {O : Objs} {K : PySem.W.Frag} {as : List Addr} {a : Addr} {od : Obj} {kvs : List (Key × V)} {ds : List (Key × D)} {ps : List Pin}
theorem locked_at {fm : Fm} {W : WX} {as' : List Addr} {ρ : Rho} {μ : Mu} {σ : L2.St} {H : Hp} (hp : .raw a (.frz od (.dK kvs)) ∈ fm.P) (S : SimB ⟨O, K, fm, W⟩ as' ρ μ σ H) : H a = some (.frz od (.dK kvs)) := res_sub _ _ (S.pin _ hp).1
theorem walks_keys (hp : .raw a (.frz od (.dK kvs)) ∈ ps) (e : kvs.map (·.1) = ds.map (·.1)) : WalksA O K ps as (Itk a od kvs) (ds.map fun p => keyT p.1) cAll := fun fm W hP _ => by
  have hl : kvs.length = ds.length := by
    have := congrArg List.length e
    simpa using this
  refine ⟨fun i as ρ μ σ H hi S _ => ⟨⟨locked_at (hP _ hp) S, by rw [List.length_map] at hi; omega⟩, fun x H' y => ?_⟩, fun as ρ μ σ H S _ => ⟨locked_at (hP _ hp) S, by rw [List.length_map]; omega⟩⟩
  obtain ⟨rfl, k, v, h, rfl⟩ := y
  refine ⟨fun _ _ e => e, keyT k, ?_, keyT_rep k⟩
  have h1 : (kvs.map (·.1))[i]? = some k := by rw [List.getElem?_map, h]; rfl
  rw [e, List.getElem?_map, Option.map_eq_some_iff] at h1
  obtain ⟨q, h2, rfl⟩ := h1
  rw [List.getElem?_map, h2]
  rfl
theorem walks_vals (hp : .raw a (.frz od (.dK kvs)) ∈ ps) (hq : ∀ q ∈ repPins (kvs.map (·.2)) (ds.map (·.2)), q ∈ ps) (e : kvs.map (·.1) = ds.map (·.1)) : WalksA O K ps as (Itd a od kvs) (ds.map (·.2)) cAll := fun fm W hP _ => by
  have hl : kvs.length = ds.length := by
    have := congrArg List.length e
    simpa using this
  refine ⟨fun i as ρ μ σ H hi S _ => ⟨⟨locked_at (hP _ hp) S, by rw [List.length_map] at hi; omega⟩, fun x H' y => ?_⟩, fun as ρ μ σ H S _ => ⟨locked_at (hP _ hp) S, by rw [List.length_map]; omega⟩⟩
  obtain ⟨rfl, k, h⟩ := y
  have rs : Reps O K as (vis ⟨O, K, fm, W⟩ as ρ σ H') (kvs.map (·.2)) (ds.map (·.2)) := pins_rep (by simpa using hl) fun z hz => S.pin z (hP _ (hq z hz))
  obtain ⟨d, h1, h2⟩ := rs.get i x (by rw [List.getElem?_map, h]; rfl)
  exact ⟨fun _ _ e => e, d, h1, h2⟩
theorem walks_items (hp : .raw a (.frz od (.dK kvs)) ∈ ps) (hq : ∀ q ∈ repPins (kvs.map (·.2)) (ds.map (·.2)), q ∈ ps) (e : kvs.map (·.1) = ds.map (·.1)) : WalksA O K ps as (Iti a od kvs) (ds.map fun p => .tup [keyT p.1, p.2]) cAll := fun fm W hP _ => by
  have hl : kvs.length = ds.length := by
    have := congrArg List.length e
    simpa using this
  refine ⟨fun i as ρ μ σ H hi S _ => ⟨⟨locked_at (hP _ hp) S, by rw [List.length_map] at hi; omega⟩, fun x H' y => ?_⟩, fun as ρ μ σ H S _ => ⟨locked_at (hP _ hp) S, by rw [List.length_map]; omega⟩⟩
  obtain ⟨T, k, v, h, rfl, n, rfl⟩ := y
  have rs : Reps O K as (vis ⟨O, K, fm, W⟩ as ρ σ H) (kvs.map (·.2)) (ds.map (·.2)) := pins_rep (by simpa using hl) fun z hz => S.pin z (hP _ (hq z hz))
  obtain ⟨d, h1, h2⟩ := rs.get i v (by rw [List.getElem?_map, h]; rfl)
  have h3 : (kvs.map (·.1))[i]? = some k := by rw [List.getElem?_map, h]; rfl
  rw [e, List.getElem?_map, Option.map_eq_some_iff] at h3
  obtain ⟨q, h4, rfl⟩ := h3
  rw [List.getElem?_map, h4] at h1
  cases h1
  refine ⟨ext_lay n, _, by rw [List.getElem?_map, h4]; rfl, ?_⟩
  exact .tup (res_some.mpr ⟨S.sight n, upd_same⟩) (.cons (keyT_rep _) (.cons (h2.le (res_ext (ext_lay n))) .nil))
end
section
variable {B : Par} {X : Cx} {tg l : Expr} {ra : DE} {apos cpos tpos : Pos} {elts : List Expr} {kk : Nat}
/-- a dict that is seen: f tells what comes of an entry -/
def iDict (f : Key × D → D) (ra : DE) : DI := fun ρ μ Φ Ψ => ra ρ μ (fun d ρ1 μ1 => ∃ ρ2 kvs, stow ρ1 d = some (ρ2, .dic kvs) ∧ (kvs.length ≤ sizeLine → Φ (kvs.map f) cAll ρ2 μ1)) Ψ
theorem lift_dict {J : Addr → Obj → List (Key × V) → It} {f : Key × D → D} (w : ∀ {as : List Addr} {a : Addr} {od : Obj} {kvs : List (Key × V)} {ds : List (Key × D)} {ps : List Pin}, .raw a (.frz od (.dK kvs)) ∈ ps → (∀ q ∈ repPins (kvs.map (·.2)) (ds.map (·.2)), q ∈ ps) → kvs.map (·.1) = ds.map (·.1) → WalksA B.O B.K ps as (J a od kvs) (ds.map f) cAll)
    (h : PI X tg l (iKeysL J (LE B ra))) : PDI X B tg l (iDict f ra) := h.sized.imp fun σ H R q => by
  obtain ⟨as, ρ, μ, Φ, Ψ, S, q, x, fin⟩ := q
  refine ⟨as, ρ, μ, _, Ψ, S, q, x, fun d1 as1 ρ1 μ1 H1 v1 q1 k1 S1 t1 => ?_⟩
  obtain ⟨ρ2, ds, e, q2⟩ := q1
  obtain ⟨S2, r2, k2⟩ := S1.stow t1 e
  cases r2 with
  | @dic a kvs _ hd he hr =>
  have hl : kvs.length = ds.length := by
    have := congrArg List.length he
    simpa using this
  rcases hd with hd | ⟨od, hd⟩
  · refine ⟨a, kvs, rfl, Or.inl ⟨res_sub _ _ hd, fun od sz => ?_⟩⟩
    have dk : isDict (.dK kvs) := Or.inl ⟨kvs, rfl⟩
    obtain ⟨n, e0⟩ := res_some.mp hd
    obtain ⟨S3, k3⟩ := S2.lock (od := od) n e0 dk
    have hr3 := hr
    refine fin _ _ as1 ρ2 μ1 _ _ (.raw a (.frz od (.dK kvs)) :: repPins (kvs.map (·.2)) (ds.map (·.2))) (q2 (by rw [← hl]; exact (sz a).2.2.1 _ (Or.inr ⟨od, upd_same⟩))) ((k1.trans k2).trans k3) S3 (fun z hz => ?_) (w List.mem_cons_self (fun z hz => List.mem_cons_of_mem _ hz) he)
    rcases List.mem_cons.mp hz with rfl | hz
    · exact ⟨res_some.mpr ⟨n, upd_same⟩, rfl⟩
    · exact rep_pins ((k3.g.reps k3.g.see) hr) z hz
  · refine ⟨a, kvs, rfl, Or.inr ⟨od, res_sub _ _ hd, fun sz => ?_⟩⟩
    refine fin _ _ as1 ρ2 μ1 _ _ (.raw a (.frz od (.dK kvs)) :: repPins (kvs.map (·.2)) (ds.map (·.2))) (q2 (by rw [← hl]; exact (sz a).2.2.1 _ (Or.inr ⟨od, res_sub _ _ hd⟩))) (k1.trans k2) S2 (fun z hz => ?_) (w List.mem_cons_self (fun z hz => List.mem_cons_of_mem _ hz) he)
    rcases List.mem_cons.mp hz with rfl | hz
    · exact ⟨hd, rfl⟩
    · exact rep_pins hr z hz
/-- for k in d -/
theorem pdi_keys (h : PD X B l ra) : PDI X B tg l (iDict (fun p => keyT p.1) ra) := lift_dict (J := Itk) (fun a _ c => walks_keys a c) (pi_keysL h)
/-- for v in d.values() -/
theorem pdi_values (h : PD X B l ra) (hbase : attributeBase l "values" X.env (eval l X.env) = eval l X.env := by rfl) (hline : (apos.endLine == cpos.line) = true := by rfl) : PDI X B tg (.Call (.Attribute l "values" apos) [] [] cpos) (iDict (·.2) ra) := lift_dict (J := Itd) (fun a b c => walks_vals a b c) (pi_valuesL h hbase hline)
/-- for k, v in d.items() -/
theorem pdi_items (h : PD X B l ra) (hbase : attributeBase l "items" X.env (eval l X.env) = eval l X.env := by rfl) (hline : (apos.endLine == cpos.line) = true := by rfl) : PDI X B (.Tuple elts kk tpos) (.Call (.Attribute l "items" apos) [] [] cpos) (iDict (fun p => .tup [keyT p.1, p.2]) ra) := lift_dict (J := Iti) (fun a b c => walks_items a b c) (pi_itemsL h hbase hline)
end
section
variable {ρ : Rho} {μ : Mu} {Ψ : KX} {ra : DE} {Φi : List D → (Rho → Mu → Prop) → Rho → Mu → Prop} {f : Key × D → D}
theorem q_idict (h : ra ρ μ (fun d ρ1 μ1 => ∃ ρ2 kvs, stow ρ1 d = some (ρ2, .dic kvs) ∧ (kvs.length ≤ sizeLine → Φi (kvs.map f) cAll ρ2 μ1)) Ψ) : iDict f ra ρ μ Φi Ψ := h
theorem q_ofdic {kvs : List (Key × D)} {P : Rho → List (Key × D) → Prop} (h : P ρ kvs) : ∃ ρ2 kvs', stow ρ (.dic kvs) = some (ρ2, .dic kvs') ∧ P ρ2 kvs' := ⟨ρ, kvs, rfl, h⟩
end
end Dl
local macro_rules | `(tactic| walk_at "dstep6") => `(tactic| first
  | walk_at "dstep5"
  | with_reducible refine Dl.q_idict ?_)
local macro_rules | `(tactic| walk_at "dgo6") => `(tactic| repeat walk_at "dstep6")
namespace Jg
open PySem PySem.Spec L2
/-! ### strip(marks): nothing is left just of a text of these alone -/
theorem strip_rest (g : Nat → Bool) (l : List Nat) : l.length - ((l.drop (l.takeWhile g).length).reverse.takeWhile g).length ≤ (l.takeWhile g).length ↔ l.all g = true := by
  have hd : l.drop (l.takeWhile g).length = l.dropWhile g := by
    conv => lhs; arg 2; rw [← List.takeWhile_append_dropWhile (p := g) (l := l)]
    rw [List.drop_left]
  have hl : (l.takeWhile g).length + (l.dropWhile g).length = l.length := by
    rw [← List.length_append, List.takeWhile_append_dropWhile]
  rw [hd]
  cases e : l.dropWhile g with
  | nil =>
    rw [e] at hl
    have ha : l.all g = true := by
      have := List.takeWhile_append_dropWhile (p := g) (l := l)
      rw [e, List.append_nil] at this
      rw [← this]
      exact List.all_takeWhile
    rw [ha]
    simp at hl ⊢
    omega
  | cons c r =>
    have hc : g c = false := by
      have := List.head?_dropWhile_not g l
      rw [e] at this
      simpa using this
    have hall : l.all g = false := by
      rw [List.all_eq_false]
      exact ⟨c, by
        have : c ∈ l.dropWhile g := by rw [e]; exact List.mem_cons_self
        exact (List.dropWhile_sublist g).subset this, by rw [hc]; decide⟩
    rw [hall]
    rw [e] at hl
    have hk : (((c :: r).reverse).takeWhile g).length ≤ r.length := by
      rw [List.reverse_cons, List.takeWhile_append]
      split
      · rw [List.length_append, List.length_reverse]
        simp [List.takeWhile, hc]
      · have := (List.takeWhile_sublist g (l := r.reverse)).length_le
        rw [List.length_reverse] at this
        exact this
    rw [List.length_cons] at hl
    constructor
    · intro h
      omega
    · intro h
      cases h
theorem strip_none (z m : Str) : (Txt.stripChars z m).cps.size = 0 ↔ ((TL.tl z).all fun c => decide (c ∈ m.cps.toList)) = true := by
  have eg : (fun c => m.cps.contains c) = fun c => decide (c ∈ m.cps.toList) := by
    funext c
    rw [Bool.eq_iff_iff]
    simp
  have h := strip_rest (fun c => m.cps.contains c) z.cps.toList
  rw [show (TL.tl z).all (fun c => decide (c ∈ m.cps.toList)) = z.cps.toList.all (fun c => m.cps.contains c) by rw [eg], ← h]
  show (Txt.stripBy m.cps.contains true true z).cps.size = 0 ↔ _
  rw [PySem.W.stripBy_eq]
  show (z.cps.extract _ _).size = 0 ↔ _
  rw [Array.size_extract]
  show min (z.length - _) z.cps.size - (z.cps.toList.takeWhile _).length = 0 ↔ _
  have e1 : z.length = z.cps.toList.length := by rw [Array.length_toList]; rfl
  rw [e1]
  have : (z.cps.toList.takeWhile m.cps.contains).length ≤ z.cps.toList.length := (List.takeWhile_sublist _).length_le
  have e2 : z.cps.size = z.cps.toList.length := by rw [Array.length_toList]
  rw [e2]
  show min (z.cps.toList.length - ((z.cps.toList.drop (z.cps.toList.takeWhile m.cps.contains).length).reverse.takeWhile m.cps.contains).length) z.cps.toList.length - (z.cps.toList.takeWhile m.cps.contains).length = 0 ↔ z.cps.toList.length - ((z.cps.toList.drop (z.cps.toList.takeWhile m.cps.contains).length).reverse.takeWhile m.cps.contains).length ≤ (z.cps.toList.takeWhile m.cps.contains).length
  omega
theorem strip_eq {z m e : Str} (he : e.cps.size = 0) : (Txt.stripChars z m == e) = (TL.tl z).all fun c => decide (c ∈ m.cps.toList) := by
  have e0 : e = ⟨#[]⟩ := by
    cases e with
    | mk a =>
      have : a = #[] := Array.eq_empty_of_size_eq_zero he
      rw [this]
  rw [Bool.eq_iff_iff, ← strip_none z m, beq_iff_eq, e0]
  constructor
  · intro h
    rw [h]
    rfl
  · intro h
    cases q : Txt.stripChars z m with
    | mk a =>
      rw [q] at h
      have : a = #[] := Array.eq_empty_of_size_eq_zero h
      rw [this]
theorem strip_dec {z m e : Str} (he : e.cps.size = 0) : decide (V.str (Txt.stripChars z m) = V.str e) = (TL.tl z).all fun c => decide (c ∈ m.cps.toList) := by
  rw [L2.dec_str]
  exact strip_eq he
end Jg
namespace Dl
open PySem PySem.Spec PyProof.Rows L2
section
variable {B : Par} {X : Cx}
/-- text.strip(marks) -/
def oStrip : D → List D → Rho → Mu → KD → Prop
  | .str a, [.str b], ρ, μ, Φ => a.length ≤ sizeLine ∧ Φ (.str (Txt.stripChars a b)) ρ μ
  | _, _, _, _, _ => False
theorem mts_strip : MtS B (fun x xs H Q => ∃ a b, x = .str a ∧ xs = [.str b] ∧ a.length ≤ sizeLine ∧ Q (.str (Txt.stripChars a b)) H) oStrip := by
  intro as ρ μ σ H x ds va vs Φ Q S rx rs o fin
  unfold oStrip at o
  split at o
  · cases rx.str
    obtain ⟨w, rfl, rd⟩ := rs.one
    cases rd.str
    exact ⟨_, _, rfl, rfl, o.1, fin _ _ _ H _ o.2 S .refl (Rep.str _).t⟩
  · exact o.elim
/-- which classes a clause meets -/
structure Tm (tag : Addr → Option Nat) (m : Value → Option Bool) (t : List (Nat × Bool)) : Prop where
  go : ∀ C c b, tag C = some c → t.lookup c = some b → m (.ref C) = some b
theorem tm_nil {tag : Addr → Option Nat} {m : Value → Option Bool} : Tm tag m [] := ⟨fun _ _ _ _ h => nomatch h⟩
theorem tm_cons {tag : Addr → Option Nat} {m : Value → Option Bool} {k : Nat} {C : Addr} {b : Bool} {t : List (Nat × Bool)} (one : ∀ C', tag C' = some k → C' = C) (h : m (.ref C) = some b) (r : Tm tag m t) : Tm tag m ((k, b) :: t) := ⟨fun C' c b' tg l => by
  rw [List.lookup_cons] at l
  split at l
  · rename_i e
    have e := beq_iff_eq.mp e
    subst e
    cases l
    rw [one C' tg]
    exact h
  · exact r.go C' c b' tg l⟩
/-- what a clause may ask of what it handles -/
structure Kx (tag : Addr → Option Nat) (K : PySem.W.Frag) (f : Str) (t : List (Nat × Bool)) : Prop where
  go : ∀ c, t.lookup c = some true → ∀ C, tag C = some c → L2.XfC K C ∧ PySem.W.findIn K (.ref C) f = some none
theorem kx_nil {tag : Addr → Option Nat} {K : PySem.W.Frag} {f : Str} : Kx tag K f [] := ⟨fun _ h => nomatch h⟩
theorem kx_cons {tag : Addr → Option Nat} {K : PySem.W.Frag} {f : Str} {k : Nat} {C : Addr} {b : Bool} {t : List (Nat × Bool)} (one : ∀ C', tag C' = some k → C' = C) (h : L2.XfC K C) (n : PySem.W.findIn K (.ref C) f = some none) (r : Kx tag K f t) : Kx tag K f ((k, b) :: t) := ⟨fun c l C' tg => by
  rw [List.lookup_cons] at l
  split at l
  · rename_i e
    have e := beq_iff_eq.mp e
    subst e
    rw [one C' tg]
    exact ⟨h, n⟩
  · exact r.go c l C' tg⟩
/-- a clause by its table -/
abbrev hd (t : List (Nat × Bool)) (slot : Option Nat) (run : Exn → Addr → DS) : HdR := ⟨fun c => t.lookup c, slot, run⟩
theorem hdd_cons {T : Expr} {m : Value → Option Bool} {n : Option Str} {t : List (Nat × Bool)} {slot : Option Nat} {run : Exn → Addr → DS} {b₀ : Stmt} {suite : List Stmt} {pos' : Pos} {hds : List ExceptHandler} {l : List HdR} (test : JgH.TestOk X T m) (tm : Tm B.O.etag m t) (nm : JgH.NameOk X n slot)
    (hsu : ∀ (a : Addr) (oe : Obj) (cls : Value) (d : Option Addr) (pn : List (Addr × Obj)) (e : Exn) (ps : List Pin), L2N.Zn cls d oe → (∃ vs, oe.data = .fields vs) → ExPin B.O cls d e ps → t.lookup e.c = some true → PDSs (X.suite a ((a, oe) :: pn)) (B.suite ps) (b₀ :: suite) (run e a)) (r : HdD X B hds l) :
    HdD X B (.ExceptHandler (some T) n (b₀ :: suite) pos' :: hds) (hd t slot run :: l) := .cons test (fun C c b tg h => tm.go C c b tg h) nm hsu r
end
section
variable {ρ ρ1 : Rho} {μ μ1 : Mu} {Φ : KD} {Ψ : KX} {N : DN} {ra ro re : DE} {rs : DA} {sh : Sh} {f : Str} {k c : Nat} {a b : Str} {d x : D} {ds ds2 : List D} {sp : SpI}
theorem q_strip {x y : Str} (h1 : x.length ≤ sizeLine) (h : Φ (.str (Txt.stripChars x y)) ρ μ) : oStrip (.str x) [.str y] ρ μ Φ := ⟨h1, h⟩
theorem q_setF (h : re ρ μ (fun d ρ1 μ1 => ∃ ρ2 d2, stow ρ1 d = some (ρ2, d2) ∧ ro ρ2 μ1 (fun x ρ3 μ3 => ∃ k a fs, getM ρ3 μ3 x = some (.ins k a fs) ∧ sh.has k f ∧ fs.length < 1000 ∧
  N.nx (putM ρ3 μ3 x (.ins k a (putD f d2 fs))).1 (putM ρ3 μ3 x (.ins k a (putD f d2 fs))).2) N.ex) N.ex) : rSetF sh ro re f N ρ μ := h
theorem q_put {i : Nat} {a : Addr} {fs fs' : List (Str × D)} {ρ' : Rho} {R : Rho → Mu → Prop} (e : ρ[i]? = some (.own (.ins k a fs))) (hf : sh.has k f) (e2 : putD f d fs = fs') (e3 : ρ.set i (.own (.ins k a fs')) = ρ') (hl : fs.length < 1000) (h : R ρ' μ) :
    ∃ k a fs, getM ρ μ (.var i) = some (.ins k a fs) ∧ sh.has k f ∧ fs.length < 1000 ∧ R (putM ρ μ (.var i) (.ins k a (putD f d fs))).1 (putM ρ μ (.var i) (.ins k a (putD f d fs))).2 :=
  ⟨k, a, fs, by simp only [getM, e], hf, hl, by subst e2 e3; exact h⟩
theorem q_raise (h : rs ρ μ (fun ds ρ1 μ1 => ∃ d ρ2 d2, ds = [d] ∧ stow ρ1 d = some (ρ2, d2) ∧ N.ex ⟨c, [(f, d2)]⟩ ρ2 μ1) N.ex) : rRaise c f rs N ρ μ := h
theorem q_rais1 {P : Rho → D → Prop} (h : d.kept = true) (q : P ρ d) : ∃ d' ρ2 d2, [d] = [d'] ∧ stow ρ d' = some (ρ2, d2) ∧ P ρ2 d2 := ⟨d, ρ, d, rfl, stow_kept h, q⟩
theorem q_try {rb : DS} {hs : List HdR} (h : rb { N with ex := hdl hs N } ρ μ) : rTry rb hs N ρ μ := h
theorem q_make (h : rs ρ μ (fun ds ρ1 μ1 => ∃ ds2, pass ρ1 ds = some (ds2, false) ∧ sp ds2 μ1 (fun fs μ2 => ∃ us, Frozen sh k fs us ∧ ∀ a, Φ (.obj k a us) ρ1 μ2) fun e μ2 => Ψ e ρ1 μ2) Ψ) : rMake sh k sp rs ρ μ Φ Ψ := h
theorem q_xf {e : Exn} {a : Addr} (h : ra ρ μ (fun x ρ1 μ1 => x = .adr a ∧ ∃ d, e.fs.lookup f = some d ∧ Φ d ρ1 μ1) Ψ) : rXf e a ra f ρ μ Φ Ψ := h
theorem startI_at {N : List Str} {kc : Nat} {p : Addr} {ds : List D} {r : DS} {D0 : DN} (e : startI N kc p ds = ρ) (h : r D0 ρ μ) : r D0 (startI N kc p ds) μ := e ▸ h
/-- a field of the slot's own -/
theorem q_fldO {i : Nat} {a : Addr} {fs : List (Str × D)} {Φd : D → Prop} (e : ρ[i]? = some (.own (.ins k a fs))) (hf : sh.has k f) (e2 : fs.lookup f = some x) (h : Φd x) : fldD sh f (.var i) ρ μ Φd := by
  unfold fldD
  dsimp only
  rw [e]
  exact ⟨hf, x, e2, h⟩
theorem q_listO {xs : List D} {Φm : M → Prop} (e : seqD ρ μ d = some xs) (h : Φm (.lst xs)) : oList [d] ρ μ Φm := ⟨xs, e, h⟩
theorem q_catF {rb : DE} {Φm : M → Rho → Mu → Prop} (h : ra ρ μ (fun x ρ1 μ1 => rb ρ1 μ1 (fun y ρ2 μ2 => ∃ xs ys, lookD ρ2 μ2 x = some (.lst xs) ∧ lookD ρ2 μ2 y = some (.lst ys) ∧ xs.length + ys.length ≤ sizeLine ∧ Φm (.lst (xs ++ ys)) ρ2 μ2) Ψ) Ψ) : rCatF ra rb ρ μ Φm Ψ := h
theorem q_slF {rl rh : DO} {Φm : M → Rho → Mu → Prop} (h : ra ρ μ (fun x ρ1 μ1 => rl ρ1 μ1 (fun l ρ2 μ2 => rh ρ2 μ2 (fun h ρ3 μ3 => ∃ xs, lookD ρ3 μ3 x = some (.lst xs) ∧ Φm (.lst (cutD xs l h)) ρ3 μ3) Ψ) Ψ) Ψ) : rSlF ra rl rh ρ μ Φm Ψ := h
theorem q_keepAll {P : Prop} (h : ds.all D.kept = true) (l : ds.length ≤ sizeLine) (p : P) : ds.all D.kept = true ∧ ds.length ≤ sizeLine ∧ P := ⟨h, l, p⟩
theorem q_hit {t : List (Nat × Bool)} {slot : Option Nat} {run : Exn → Addr → DS} {l : List HdR} {e : Exn} (h : t.lookup e.c = some true) (q : ∀ a, run e a (offN N slot) (onN ρ a slot) μ) : hdl (hd t slot run :: l) N e ρ μ := by
  unfold hdl
  dsimp only
  rw [h]
  exact q
theorem q_miss {t : List (Nat × Bool)} {slot : Option Nat} {run : Exn → Addr → DS} {l : List HdR} {e : Exn} (h : t.lookup e.c = some false) (q : hdl l N e ρ μ) : hdl (hd t slot run :: l) N e ρ μ := by
  unfold hdl
  dsimp only
  rw [h]
  exact q
theorem q_xfA {e : Exn} {a : Addr} {d : D} (h1 : x = .adr a) (e2 : e.fs.lookup f = some d) (h : Φ d ρ μ) : x = .adr a ∧ ∃ d, e.fs.lookup f = some d ∧ Φ d ρ μ := ⟨h1, d, e2, h⟩
theorem q_mtD {kvs : List (Key × D)} {P : D → Prop} (h : P (.dic kvs)) : ∃ d, (M.dic kvs).tree = some d ∧ P d := ⟨_, rfl, h⟩
theorem kept_nil : ([] : List D).all D.kept = true := rfl
theorem kept_cons (h : d.kept = true) (r : ds.all D.kept = true) : (d :: ds).all D.kept = true := by
  rw [List.all_cons, h, r]
  rfl
theorem q_cat2 {xs ys : List D} {P : List D → List D → Prop} (l : xs.length + ys.length ≤ sizeLine) (h : P xs ys) : ∃ xs' ys', lookD ρ μ (.lst xs) = some (.lst xs') ∧ lookD ρ μ (.lst ys) = some (.lst ys') ∧ xs'.length + ys'.length ≤ sizeLine ∧ P xs' ys' := ⟨xs, ys, rfl, rfl, l, h⟩
end
end Dl
local macro_rules | `(tactic| walk_at "dstep7") => `(tactic| first
  | walk_at "dstep6"
  | with_reducible refine Dl.q_setF ?_
  | with_reducible refine Dl.q_raise ?_
  | with_reducible refine Dl.q_try ?_
  | with_reducible refine Dl.q_make ?_
  | with_reducible refine Dl.q_catF ?_
  | with_reducible refine Dl.q_slF ?_
  | ((with_reducible apply Dl.q_listO rfl))
  | with_reducible refine Dl.q_mtD ?_
  | with_reducible refine Dl.q_xf ?_
  | ((with_reducible apply Dl.q_keepAll); (repeat (first | exact Dl.kept_nil | refine Dl.kept_cons (by first | rfl | assumption) ?_)); (exact Nat.le_of_ble_eq_true rfl))
  | ((with_reducible apply Dl.q_cat2); (exact Nat.le_of_ble_eq_true rfl)))
local macro_rules | `(tactic| walk_at "dgo7") => `(tactic| repeat walk_at "dstep7")
namespace Dl
open PySem PySem.Spec PyProof.Rows L2 Jg
/-! ### what the laws of the package share: marks, rows of words, draws -/
def listB : D → Int → Int → Bool
  | .lst xs, lo, hi => decide (lo ≤ xs.length) && decide (xs.length ≤ hi)
  | .tup xs, lo, hi => decide (lo ≤ xs.length) && decide (xs.length ≤ hi)
  | _, _, _ => false
def wholeT : D → Int → Int → Bool
  | .int i, lo, hi => decide (lo ≤ i) && decide (i ≤ hi)
  | _, _, _ => false
def nameB : D → Bool
  | .str z => nameQ z
  | _ => false
def rowB : D → Bool
  | .tup [a, b] => nameB a && wholeT b 0 4
  | _ => false
def firstS : D → Str
  | .tup (.str z :: _) => z
  | _ => Str.empty
def rowsL (xs : List D) : Bool := decide (1 ≤ xs.length) && decide (xs.length ≤ 12) && xs.all rowB && decide ((xs.map firstS).Nodup)
def rowsB : D → Bool
  | .lst xs => rowsL xs
  | .tup xs => rowsL xs
  | _ => false
def shortD : D → Prop
  | .str z => z.length ≤ 2000
  | _ => True
theorem rows_no {x : D} (h : listB x 1 12 = false) : rowsB x = false := by
  cases x <;> first | rfl | skip
  all_goals
    simp only [listB] at h
    unfold rowsB rowsL
    dsimp only
    simp only [Bool.and_eq_false_iff, decide_eq_false_iff_not] at h ⊢
    omega
theorem rows_yes {x : D} (h : listB x 1 12 = true) : ∃ xs, x.items = some xs ∧ 1 ≤ xs.length ∧ xs.length ≤ 12 ∧ rowsB x = rowsL xs := by
  cases x <;> first | cases h | skip
  all_goals
    simp only [listB, Bool.and_eq_true, decide_eq_true_eq] at h
    exact ⟨_, rfl, by omega, by omega, rfl⟩
theorem row_pair {d : D} (h : rowB d = true) : ∃ z n, d = .tup [.str z, .int n] := by
  unfold rowB at h
  split at h
  · rename_i a b
    obtain ⟨h1, h2⟩ := Bool.and_eq_true_iff.mp h
    cases a with
    | str z =>
      cases b with
      | int n => exact ⟨z, n, rfl⟩
      | _ => cases h2
    | _ => cases h1
  · cases h
theorem rows_bad {xs : List D} {d : D} (hd : d ∈ xs) (h : rowB d = false) : rowsL xs = false := by
  have : xs.all rowB = false := by
    rw [List.all_eq_false]
    exact ⟨d, hd, by rw [h]; decide⟩
  unfold rowsL
  rw [this, Bool.and_false, Bool.false_and]
theorem row_two {ys : List D} (h : ∀ a b, ys ≠ [a, b]) : rowB (.tup ys) = false := by
  match ys, h with
  | [a, b], h => exact absurd rfl (h a b)
  | [], _ => rfl
  | [a], _ => rfl
  | a :: b :: c :: r, _ => rfl
theorem rows_dup {xs : List D} {d : D} {i : Nat} (hd : xs[i]? = some d) (h : firstS d ∈ (xs.take i).map firstS) : rowsL xs = false := by
  have : ¬ (xs.map firstS).Nodup := fun n => by
    have e : xs = xs.take i ++ d :: xs.drop (i + 1) := by
      have hi := (List.getElem?_eq_some_iff.mp hd).1
      have e1 := (List.getElem?_eq_some_iff.mp hd).2
      rw [← e1, ← List.drop_eq_getElem_cons hi, List.take_append_drop]
    rw [e, List.map_append, List.nodup_append] at n
    exact n.2.2 _ h _ (by simp) rfl
  unfold rowsL
  rw [decide_eq_false this, Bool.and_false]
theorem rows_len {xs : List D} (h : ¬ (1 ≤ xs.length ∧ xs.length ≤ 12)) : rowsL xs = false := by
  have : (decide (1 ≤ xs.length) && decide (xs.length ≤ 12)) = false := by
    rw [Bool.and_eq_false_iff, decide_eq_false_iff_not, decide_eq_false_iff_not]
    omega
  unfold rowsL
  rw [this, Bool.false_and, Bool.false_and]
theorem rows_ok {xs : List D} (h1 : 1 ≤ xs.length) (h2 : xs.length ≤ 12) (h3 : ∀ d ∈ xs, rowB d = true) (h4 : (xs.map firstS).Nodup) : rowsL xs = true := by
  unfold rowsL
  rw [decide_eq_true h1, decide_eq_true h2, List.all_eq_true.mpr h3, decide_eq_true h4]
  rfl
def takeSp0 : SpD := fun ds μ Φ Ψ => ∃ (j : Nat) (m a b c : Int), ds = [.num j, .int m] ∧ 0 < m ∧ m < 2 ^ 120 ∧ μ[j]? = some (.lst [.int a, .int b, .int c]) ∧ 0 ≤ b ∧ b < 2147483648 ∧ 0 ≤ c ∧ c < 1000000 ∧
  ∀ (z a' c' : Int), 0 ≤ z → z < m → 0 ≤ c' → c' ≤ c + 1 → Φ (.int z) (μ.set j (.lst [.int a', .int b, .int c']))
def boxSp0 : SpD := fun ds μ Φ Ψ => ∃ (z : Int), ds = [.int z] ∧ ∀ (a b c : Int), 0 ≤ b → b < 2147483648 → c = 0 → Φ (.num μ.length) (μ ++ [.lst [.int a, .int b, .int c]])
/-- a row of a word, and what Words keeps of such rows -/
def rowT (r : Str × Int) : D := .tup [.str r.1, .int r.2]
structure OkRows (rows : List (Str × Int)) : Prop where
  low : 1 ≤ rows.length
  high : rows.length ≤ 12
  nm : ∀ r ∈ rows, nameQ r.1 = true
  pl : ∀ r ∈ rows, 0 ≤ r.2 ∧ r.2 ≤ 4
  nd : (rows.map (·.1)).Nodup
def placesE (rows : List (Str × Int)) : List (Key × D) := rows.map fun r => (.inr r.1, .int r.2)
def orderE (rows : List (Str × Int)) : List (Key × D) := rows.mapIdx fun i r => (.inr r.1, .int (i : Nat))
def ranksE (rows : List (Str × Int)) : List (Key × D) := rows.mapIdx fun i r => (.inr r.1, .tup [.int 1, .int (i : Nat)])
def wordsF (rows : List (Str × Int)) : List D := [.tup (rows.map rowT), .dic (placesE rows), .dic (orderE rows), .dic (ranksE rows)]
def wordsN (rows : List (Str × Int)) : List (Str × D) := [(Str.ofString "_rows", .tup (rows.map rowT)), (Str.ofString "_places", .dic (placesE rows)), (Str.ofString "_order", .dic (orderE rows)), (Str.ofString "_ranks", .dic (ranksE rows))]
theorem rowB_row {d : D} (h : rowB d = true) : ∃ r : Str × Int, d = rowT r ∧ nameQ r.1 = true ∧ 0 ≤ r.2 ∧ r.2 ≤ 4 := by
  obtain ⟨z, n, rfl⟩ := row_pair h
  refine ⟨(z, n), rfl, ?_⟩
  have h' : (nameB (.str z) && wholeT (.int n) 0 4) = true := h
  rw [Bool.and_eq_true] at h'
  obtain ⟨h1, h2⟩ := h'
  have h2' : (decide (0 ≤ n) && decide (n ≤ 4)) = true := h2
  rw [Bool.and_eq_true, decide_eq_true_eq, decide_eq_true_eq] at h2'
  exact ⟨h1, h2'⟩
theorem rows_map : ∀ {xs : List D}, (∀ d ∈ xs, rowB d = true) → ∃ rows : List (Str × Int), xs = rows.map rowT ∧ ∀ r ∈ rows, nameQ r.1 = true ∧ 0 ≤ r.2 ∧ r.2 ≤ 4
  | [], _ => ⟨[], rfl, fun _ h => nomatch h⟩
  | d :: xs, h => by
    obtain ⟨r, rfl, h1⟩ := rowB_row (h d List.mem_cons_self)
    obtain ⟨rows, rfl, h2⟩ := rows_map fun d hd => h d (List.mem_cons_of_mem _ hd)
    refine ⟨r :: rows, rfl, fun q hq => ?_⟩
    rcases List.mem_cons.mp hq with rfl | hq
    · exact h1
    · exact h2 q hq
theorem rows_list {xs : List D} (h : rowsL xs = true) : ∃ rows, xs = rows.map rowT ∧ OkRows rows := by
  unfold rowsL at h
  rw [Bool.and_eq_true, Bool.and_eq_true, Bool.and_eq_true, decide_eq_true_eq, decide_eq_true_eq, decide_eq_true_eq, List.all_eq_true] at h
  obtain ⟨⟨⟨h1, h2⟩, h3⟩, h4⟩ := h
  obtain ⟨rows, rfl, hr⟩ := rows_map h3
  rw [List.length_map] at h1 h2
  refine ⟨rows, rfl, h1, h2, fun r m => (hr r m).1, fun r m => (hr r m).2, ?_⟩
  rw [List.map_map] at h4
  exact h4
theorem list_rows {rows : List (Str × Int)} (h : OkRows rows) : rowsL (rows.map rowT) = true := by
  refine rows_ok (by rw [List.length_map]; exact h.low) (by rw [List.length_map]; exact h.high) (fun d hd => ?_) ?_
  · obtain ⟨r, m, rfl⟩ := List.mem_map.mp hd
    show (nameB (.str r.1) && wholeT (.int r.2) 0 4) = true
    rw [show nameB (.str r.1) = true from h.nm r m, show wholeT (.int r.2) 0 4 = (decide (0 ≤ r.2) && decide (r.2 ≤ 4)) from rfl, decide_eq_true (h.pl r m).1, decide_eq_true (h.pl r m).2]
    rfl
  · rw [List.map_map]
    exact h.nd
/-- keys that are unlike are kept in their order -/
theorem dput_new {acc : List (Key × D)} {k : Key} {d : D} (h : k ∉ acc.map (·.1)) : dput acc k d = acc ++ [(k, d)] := by
  unfold dput
  rw [if_neg]
  intro z
  rw [List.any_eq_true] at z
  obtain ⟨x, hx, e⟩ := z
  rw [decide_eq_true_eq] at e
  exact h (List.mem_map.mpr ⟨x, hx, e⟩)
theorem mergeD_new : ∀ {kvs acc : List (Key × D)}, (kvs.map (·.1)).Nodup → (∀ k ∈ kvs.map (·.1), k ∉ acc.map (·.1)) → mergeD acc kvs = acc ++ kvs
  | [], acc, _, _ => by simp [mergeD]
  | (k, d) :: kvs, acc, h1, h2 => by
    unfold mergeD
    rw [List.map_cons, List.nodup_cons] at h1
    rw [dput_new (h2 k (by simp)), mergeD_new h1.2 (fun j hj hm => ?_), List.append_assoc]
    · rfl
    · rw [List.map_append, List.mem_append] at hm
      rcases hm with hm | hm
      · exact h2 j (by simp only [List.map_cons, List.mem_cons]; exact Or.inr hj) hm
      · have e : j = k := by simpa using hm
        exact h1.1 (e ▸ hj)
theorem mergeD_nil {kvs : List (Key × D)} (h : (kvs.map (·.1)).Nodup) : mergeD [] kvs = kvs := by
  rw [mergeD_new h (fun _ _ z => by cases z), List.nil_append]
theorem inr_nodup {zs : List Str} (h : zs.Nodup) : (zs.map fun z => (.inr z : Key)).Nodup := by
  unfold List.Nodup at h ⊢
  rw [List.pairwise_map]
  exact h.imp fun h z => h (Sum.inr.inj z)
theorem places_keys (rows : List (Str × Int)) : (placesE rows).map (·.1) = (rows.map (·.1)).map fun z => (.inr z : Key) := by
  unfold placesE
  rw [List.map_map, List.map_map]
  rfl
theorem order_keys (rows : List (Str × Int)) : (orderE rows).map (·.1) = (rows.map (·.1)).map fun z => (.inr z : Key) := by
  unfold orderE
  apply List.ext_getElem?
  intro i
  simp only [List.getElem?_map, List.getElem?_mapIdx, Option.map_map]
  rfl
theorem ranks_keys (rows : List (Str × Int)) : (ranksE rows).map (·.1) = (rows.map (·.1)).map fun z => (.inr z : Key) := by
  unfold ranksE
  apply List.ext_getElem?
  intro i
  simp only [List.getElem?_map, List.getElem?_mapIdx, Option.map_map]
  rfl
theorem rows_of {x : D} (h : rowsB x = true) : ∃ rows, x.items = some (rows.map rowT) ∧ OkRows rows := by
  cases x <;> first | cases h | skip
  all_goals
    obtain ⟨rows, rfl, ok⟩ := rows_list h
    exact ⟨rows, rfl, ok⟩
section
variable {ρ ρ1 : Rho} {μ μ1 : Mu} {Φ : KD} {Ψ : KX} {Φd : D → Prop} {d x : D} {xs : List D} {kvs : List (Key × D)} {z : Str}
theorem q_tupTh (th : Th μ d x) (hx : x.items = some xs) (h : Φd (.tup xs)) : oTuple [d] ρ μ Φd := by
  cases x <;> simp only [D.items, Option.some.injEq, reduceCtorEq] at hx
  · subst hx
    have l := th.lk
    have k := th.kp
    cases d with
    | num j => exact ⟨_, by simp only [lookD, th.num]; rfl, h⟩
    | var i => cases k
    | lst ys =>
      cases l
      exact ⟨_, rfl, h⟩
    | _ => cases l
  · subst hx
    obtain rfl := th.tup
    exact h
  · obtain ⟨a, ha, _⟩ := th.kd
    cases ha
theorem q_ixD (e : dval kvs (.inr z) = some d) (h : Φd d) : oIx (.dic kvs) (.str z) ρ μ Φd := ⟨kvs, d, rfl, e, h⟩
theorem q_walkE {Φi : List D → (Rho → Mu → Prop) → Rho → Mu → Prop} {i : Nat} (e : ρ[i]? = some (.val d)) (th : Th μ d x) (hx : x.items = some xs) (h : ∀ C : Rho → Mu → Prop, (∀ ρ', C ρ' μ) → xs.length ≤ sizeLine → Φi (enumD xs) C ρ μ) :
    iEnumL (rName i) ρ μ Φi Ψ ∨ iEnumT (rName i) ρ μ Φi Ψ := q_walk (Φi := fun ds C ρ1 μ1 => Φi (enumD ds) C ρ1 μ1) e th hx h
end
/-- the entry of a row, of a row with its number -/
def rowE : D → Key × D
  | .tup [.str z, n] => (.inr z, n)
  | _ => (.inl 0, .non)
def rowN : D → Key × D
  | .tup [n, .tup [.str z, _]] => (.inr z, n)
  | _ => (.inl 0, .non)
theorem places_map (rows : List (Str × Int)) : (rows.map rowT).map rowE = placesE rows := by
  rw [List.map_map]
  rfl
theorem order_map (rows : List (Str × Int)) : (enumD (rows.map rowT)).map rowN = orderE rows := by
  unfold enumD orderE
  apply List.ext_getElem?
  intro i
  simp only [List.getElem?_map, List.getElem?_mapIdx, Option.map_map]
  rfl
theorem enum_mem {xs : List D} {d : D} (h : d ∈ enumD xs) : ∃ (i : Nat) (x : D), x ∈ xs ∧ d = .tup [.int (i : Nat), x] := by
  obtain ⟨i, hi, e⟩ := List.mem_mapIdx.mp h
  exact ⟨i, xs[i], List.getElem_mem _, e.symm⟩
theorem dval_mem : ∀ {kvs : List (Key × D)} {k : Key} {d : D}, (kvs.map (·.1)).Nodup → (k, d) ∈ kvs → dval kvs k = some d
  | (k', d') :: kvs, k, d, h, m => by
    unfold dval
    rw [List.map_cons, List.nodup_cons] at h
    rcases List.mem_cons.mp m with e | m
    · cases e
      simp
    · have ne : k' ≠ k := fun z => h.1 (z ▸ List.mem_map.mpr ⟨_, m, rfl⟩)
      rw [List.find?_cons_of_neg (by simpa using ne)]
      exact dval_mem h.2 m
theorem dval_none : ∀ {kvs : List (Key × D)} {k : Key}, k ∉ kvs.map (·.1) → dval kvs k = none
  | [], _, _ => rfl
  | (k', d') :: kvs, k, h => by
    unfold dval
    rw [List.map_cons, List.mem_cons, not_or] at h
    rw [List.find?_cons_of_neg (by simpa using fun z : k' = k => h.1 z.symm)]
    exact dval_none h.2
theorem order_mem {rows : List (Str × Int)} {kv : Key × D} (h : kv ∈ orderE rows) : ∃ (i : Nat) (r : Str × Int), rows[i]? = some r ∧ kv = (.inr r.1, .int (i : Nat)) := by
  obtain ⟨i, hi, e⟩ := List.mem_mapIdx.mp h
  exact ⟨i, rows[i], List.getElem?_eq_getElem hi, e.symm⟩
theorem mem_order {rows : List (Str × Int)} {i : Nat} {r : Str × Int} (h : rows[i]? = some r) : ((.inr r.1, .int (i : Nat)) : Key × D) ∈ orderE rows := by
  obtain ⟨hi, e⟩ := List.getElem?_eq_some_iff.mp h
  exact List.mem_mapIdx.mpr ⟨i, hi, by rw [e]⟩
theorem dval_order {rows : List (Str × Int)} (ok : OkRows rows) {i : Nat} {r : Str × Int} (h : rows[i]? = some r) : dval (orderE rows) (.inr r.1) = some (.int (i : Nat)) :=
  dval_mem (by rw [order_keys]; exact inr_nodup ok.nd) (mem_order h)
def rankF (rows : List (Str × Int)) : D → Key × D
  | .str z => (.inr z, .tup [.int 1, (dval (orderE rows) (.inr z)).getD .non])
  | _ => (.inl 0, .non)
theorem ranks_map {rows : List (Str × Int)} (ok : OkRows rows) : ((orderE rows).map fun p => keyT p.1).map (rankF rows) = ranksE rows := by
  apply List.ext_getElem?
  intro i
  rw [List.getElem?_map, List.getElem?_map]
  unfold orderE ranksE
  rw [List.getElem?_mapIdx, List.getElem?_mapIdx]
  cases e : rows[i]? with
  | none => rfl
  | some r =>
    simp only [Option.map_some, keyT, rankF]
    rw [dval_order ok e]
    rfl
/-! ### what is shown, by its size -/
structure Fit (n k : Nat) (y : D) : Prop where
  d2 : y.dat2 = true
  sh : y.pyr.showable = true
  dp : y.pyr.depth ≤ k
  sz : y.pyr.shown.length ≤ n
theorem Fit.mono {n k n' k' : Nat} {y : D} (h : Fit n k y) (a : n ≤ n') (b : k ≤ k') : Fit n' k' y := ⟨h.d2, h.sh, Nat.le_trans h.dp b, Nat.le_trans h.sz a⟩
theorem Fit.int {i : Int} {k : Nat} (hk : 0 < k) (h : i.natAbs < 10 ^ k) (hl : i.natAbs.log2 < 1920) : Fit (k + 1) 0 (.int i) :=
  ⟨rfl, by show decide _ = true; exact decide_eq_true hl, Nat.le_refl _, by
    show (Str.ofString (toString i)).length ≤ _
    rw [PySem.ofString_length]
    exact int_text_length_le10 hk h⟩
theorem Fit.str {z : Str} {m : Nat} (h : Sg z m) : Fit (10 * m + 2) 0 (.str z) := ⟨rfl, rfl, Nat.le_refl _, by
  show (reprText z).length ≤ _
  have := PySem.StrLaws.reprText_len z fun c hc => Nat.lt_trans (h.2 c hc) (by decide)
  have := h.1
  omega⟩
theorem Fit.bl {b : Bool} : Fit 5 0 (.bl b) := ⟨rfl, rfl, Nat.le_refl _, by cases b <;> decide +kernel⟩
theorem Fit.non : Fit 4 0 .non := ⟨rfl, rfl, Nat.le_refl _, by decide +kernel⟩
theorem fit_all {n k : Nat} : ∀ {xs : List D}, (∀ x ∈ xs, Fit n k x) → D.dat2s xs = true ∧ PyData.showableAll (D.pyrs xs) = true ∧ PyData.depthAll (D.pyrs xs) ≤ k ∧ ((PyData.shownAll (D.pyrs xs)).map (·.length)).sum ≤ xs.length * n ∧ (PyData.shownAll (D.pyrs xs)).length = xs.length
  | [], _ => ⟨rfl, rfl, by simp [D.pyrs, PyData.depthAll], by simp [D.pyrs, PyData.shownAll], rfl⟩
  | x :: xs, h => by
    obtain ⟨h0, h1, h2, h3, h4⟩ := fit_all fun v hv => h v (List.mem_cons_of_mem _ hv)
    have h5 := h x List.mem_cons_self
    refine ⟨by simp only [D.dat2s, h5.d2, h0, Bool.and_self], by simp only [D.pyrs, PyData.showableAll, h5.sh, h1, Bool.and_self], ?_, ?_, by simp only [D.pyrs, PyData.shownAll, List.length_cons, h4]⟩
    · simp only [D.pyrs, PyData.depthAll]
      exact Nat.max_le.mpr ⟨h5.dp, h2⟩
    · have := h5.sz
      simp only [D.pyrs, PyData.shownAll, List.map_cons, List.sum_cons, List.length_cons]
      rw [Nat.succ_mul]
      omega
theorem sum_bound {a b n m : Nat} (h : a ≤ b * n) (l : b ≤ m) : a + 2 * b + 3 ≤ m * (n + 2) + 3 := by
  have h1 : b * (n + 2) ≤ m * (n + 2) := Nat.mul_le_mul_right _ l
  rw [Nat.mul_add] at h1
  omega
theorem Fit.lst {n k m : Nat} {xs : List D} (h : ∀ x ∈ xs, Fit n k x) (l : xs.length ≤ m) : Fit (m * (n + 2) + 3) (k + 1) (.lst xs) := by
  obtain ⟨h0, h1, h2, h3, h4⟩ := fit_all h
  refine ⟨by simpa only [D.dat2] using h0, by simpa only [D.pyr, PyData.showable] using h1, by simp only [D.pyr, PyData.depth]; omega, ?_⟩
  show (listText (PyData.shownAll (D.pyrs xs))).length ≤ _
  have h8 := listText_len_le (PyData.shownAll (D.pyrs xs))
  rw [h4] at h8
  exact Nat.le_trans h8 (sum_bound h3 l)
theorem Fit.tup {n k m : Nat} {xs : List D} (h : ∀ x ∈ xs, Fit n k x) (l : xs.length ≤ m) : Fit (m * (n + 2) + 3) (k + 1) (.tup xs) := by
  obtain ⟨h0, h1, h2, h3, h4⟩ := fit_all h
  refine ⟨by simpa only [D.dat2] using h0, by simpa only [D.pyr, PyData.showable] using h1, by simp only [D.pyr, PyData.depth]; omega, ?_⟩
  show (tupleText (PyData.shownAll (D.pyrs xs))).length ≤ _
  have h8 := tupleText_len_le (PyData.shownAll (D.pyrs xs))
  rw [h4] at h8
  exact Nat.le_trans h8 (sum_bound h3 l)
theorem fit_kv {a n k : Nat} : ∀ {xs : List (Key × D)}, (∀ p ∈ xs, Fit a 0 (keyT p.1) ∧ Fit n k p.2) → D.dat2k xs = true ∧ PyData.showableKv (D.pyrk xs) = true ∧ PyData.depthKv (D.pyrk xs) ≤ k ∧ ((PyData.shownKv (D.pyrk xs)).map (·.length)).sum ≤ xs.length * (a + 2 + n) ∧ (PyData.shownKv (D.pyrk xs)).length = xs.length
  | [], _ => ⟨rfl, rfl, by simp [D.pyrk, PyData.depthKv], by simp [D.pyrk, PyData.shownKv], rfl⟩
  | (key, x) :: xs, h => by
    obtain ⟨h0, h1, h2, h3, h4⟩ := fit_kv fun v hv => h v (List.mem_cons_of_mem _ hv)
    obtain ⟨hk, h5⟩ := h (key, x) List.mem_cons_self
    have ek : (keyT key).pyr = keyP key := by cases key <;> rfl
    have k1 := hk.sh
    have k2 := hk.dp
    have k3 := hk.sz
    dsimp only at k1 k2 k3 h5
    rw [ek] at k1 k2 k3
    refine ⟨by simp only [D.dat2k, h5.d2, h0, Bool.and_self], by simp only [D.pyrk, PyData.showableKv, k1, h5.sh, h1, Bool.and_self], ?_, ?_, by simp only [D.pyrk, PyData.shownKv, List.length_cons, h4]⟩
    · simp only [D.pyrk, PyData.depthKv]
      have := h5.dp
      omega
    · have := h5.sz
      simp only [D.pyrk, PyData.shownKv, List.map_cons, List.sum_cons, List.length_cons]
      rw [Nat.succ_mul]
      have e2 : (Str.ofString ": ").length = 2 := by decide +kernel
      rw [TL.len_tl, TL.tl_append, TL.tl_append, List.length_append, List.length_append, ← TL.len_tl, ← TL.len_tl, ← TL.len_tl, e2]
      omega
theorem Fit.dic {a n k m : Nat} {xs : List (Key × D)} (h : ∀ p ∈ xs, Fit a 0 (keyT p.1) ∧ Fit n k p.2) (l : xs.length ≤ m) : Fit (m * (a + 2 + n + 2) + 3) (k + 1) (.dic xs) := by
  obtain ⟨h0, h1, h2, h3, h4⟩ := fit_kv h
  refine ⟨by simpa only [D.dat2] using h0, by simpa only [D.pyr, PyData.showable] using h1, by simp only [D.pyr, PyData.depth]; omega, ?_⟩
  show (dictText (PyData.shownKv (D.pyrk xs))).length ≤ _
  have h8 := dictText_len_le (PyData.shownKv (D.pyrk xs))
  rw [h4] at h8
  exact Nat.le_trans h8 (sum_bound h3 l)
mutual
theorem rsv_dat2 (μ : Mu) : ∀ {y : D}, y.dat2 = true → y.rsv μ = some y
  | .non, _ => rfl
  | .bl _, _ => rfl
  | .int _, _ => rfl
  | .str _, _ => rfl
  | .lst xs, h => by
    simp only [D.rsv, rsvs_dat2 μ (show D.dat2s xs = true by simpa only [D.dat2] using h), Option.map_some]
  | .tup xs, h => by
    simp only [D.rsv, rsvs_dat2 μ (show D.dat2s xs = true by simpa only [D.dat2] using h), Option.map_some]
  | .dic _, _ => rfl
  | .ty _, h => by cases h
  | .adr _, h => by cases h
  | .num _, h => by cases h
  | .cls _, h => by cases h
  | .scr _, h => by cases h
  | .dit _, h => by cases h
  | .obj _ _ _, h => by cases h
  | .var _, h => by cases h
theorem rsvs_dat2 (μ : Mu) : ∀ {ys : List D}, D.dat2s ys = true → D.rsvs μ ys = some ys
  | [], _ => rfl
  | y :: ys, h => by
    simp only [D.dat2s, Bool.and_eq_true] at h
    simp only [D.rsvs, rsv_dat2 μ h.1, rsvs_dat2 μ h.2]
end
/-! ### things at the places of a row: atoms, items -/
def Kd (y : D) : Prop := ∃ n, y.kind = some (.inl n) ∧ n ∈ kinds
structure Atom (y : D) : Prop where
  kd : Kd y
  sh : shortD y
  ft : Fit 500 1 y
  el : ElOk shortD y
  np : ∀ a b, y ≠ .tup [a, b]
structure Itm (y : D) : Prop where
  kd : Kd y
  sh : shortD y
  ft : Fit 3000 3 y
  el : ElOk shortD y
  at2 : ∀ a b, y = .tup [a, b] → Atom a ∧ Atom b
theorem Kd.kp {y : D} (h : Kd y) : y.kept = true := by
  obtain ⟨n, h, _⟩ := h
  cases y <;> first | rfl | cases h
theorem Atom.itm {y : D} (h : Atom y) : Itm y := ⟨h.kd, h.sh, h.ft.mono (by decide) (by decide), h.el, fun a b e => absurd e (h.np a b)⟩
theorem elOk_leaf {p : D → Prop} {y : D} (h : y.items = none) : ElOk p y := fun xs e => by rw [h] at e; cases e
theorem elOk_lst {p : D → Prop} {xs : List D} (h : ∀ x ∈ xs, Kd x ∧ p x) : ElOk p (.lst xs) := fun ys e => by cases e; exact h
theorem elOk_tup {p : D → Prop} {xs : List D} (h : ∀ x ∈ xs, Kd x ∧ p x) : ElOk p (.tup xs) := fun ys e => by cases e; exact h
theorem log2_small {n : Nat} (h : n < 2 ^ 200) : n.log2 < 1920 := by
  by_cases z : n = 0
  · rw [z]
    decide
  · have := (Nat.log2_lt z).mpr h
    omega
theorem Atom.str {z : Str} (h : Sg z 40) : Atom (.str z) := ⟨⟨_, rfl, by decide⟩, Nat.le_trans h.1 (by decide), (Fit.str h).mono (by decide) (by decide), elOk_leaf rfl, fun _ _ e => by cases e⟩
theorem Atom.int {i : Int} (h : i.natAbs < 10 ^ 40) : Atom (.int i) := ⟨⟨_, rfl, by decide⟩, trivial, (Fit.int (by decide) h (by
    exact log2_small (Nat.lt_trans h (by decide)))).mono (by decide) (by decide), elOk_leaf rfl, fun _ _ e => by cases e⟩
theorem Atom.bl {b : Bool} : Atom (.bl b) := ⟨⟨_, rfl, by decide⟩, trivial, Fit.bl.mono (by decide) (by decide), elOk_leaf rfl, fun _ _ e => by cases e⟩
theorem Atom.non : Atom .non := ⟨⟨_, rfl, by decide⟩, trivial, Fit.non.mono (by decide) (by decide), elOk_leaf rfl, fun _ _ e => by cases e⟩
/-- a row of atoms -/
theorem Itm.lst {xs : List D} (h : ∀ x ∈ xs, Atom x) (l : xs.length ≤ 4) : Itm (.lst xs) := ⟨⟨_, rfl, by decide⟩, trivial, (Fit.lst (fun x hx => (h x hx).ft) l).mono (by decide) (by decide), elOk_lst fun x hx => ⟨(h x hx).kd, (h x hx).sh⟩, fun _ _ e => by cases e⟩
theorem Itm.tup {xs : List D} (h : ∀ x ∈ xs, Atom x) (l : xs.length ≤ 4) : Itm (.tup xs) := ⟨⟨_, rfl, by decide⟩, trivial, (Fit.tup (fun x hx => (h x hx).ft) l).mono (by decide) (by decide), elOk_tup fun x hx => ⟨(h x hx).kd, (h x hx).sh⟩, fun a b e => by
  cases e
  exact ⟨h a (by simp), h b (by simp)⟩⟩
theorem Itm.dic0 : Itm (.dic []) := ⟨⟨_, rfl, by decide⟩, trivial, ⟨rfl, rfl, by decide, by decide +kernel⟩, elOk_leaf rfl, fun _ _ e => by cases e⟩
theorem Itm.one {x : D} (h : Itm x) (f : Fit 2100 2 x) : Itm (.tup [x]) := ⟨⟨_, rfl, by decide⟩, trivial, (Fit.tup (n := 2100) (k := 2) (m := 1) (fun y hy => by rw [List.mem_singleton.mp hy]; exact f) (by simp)).mono (by decide) (by decide), elOk_tup (fun y hy => by rw [List.mem_singleton.mp hy]; exact ⟨h.kd, h.sh⟩), fun _ _ e => by cases e⟩
theorem two_mem {P : D → Prop} {a b : D} (ha : P a) (hb : P b) : ∀ x ∈ [a, b], P x := fun x hx => by
  rcases List.mem_cons.mp hx with rfl | hx
  · exact ha
  · rw [List.mem_singleton.mp hx]
    exact hb
theorem Atom.one {x : D} (h : ∃ z, x = .str z ∧ Sg z 20) : Atom (.lst [x]) ∧ Atom (.tup [x]) := by
  obtain ⟨z, rfl, hz⟩ := h
  have a := Atom.str (hz.mono (by decide))
  have f : ∀ y ∈ [D.str z], Fit 202 0 y := fun y hy => by rw [List.mem_singleton.mp hy]; exact Fit.str hz
  have e : ∀ y ∈ [D.str z], Kd y ∧ shortD y := fun y hy => by rw [List.mem_singleton.mp hy]; exact ⟨a.kd, a.sh⟩
  exact ⟨⟨⟨_, rfl, by decide⟩, trivial, (Fit.lst (m := 1) f (by simp)).mono (by decide) (by decide), elOk_lst e, fun _ _ z => by cases z⟩, ⟨⟨_, rfl, by decide⟩, trivial, (Fit.tup (m := 1) f (by simp)).mono (by decide) (by decide), elOk_tup e, fun _ _ z => by cases z⟩⟩
theorem Atom.oneI {i : Int} (h : i.natAbs < 10 ^ 30) : Atom (.lst [.int i]) := by
  have f : ∀ y ∈ [D.int i], Fit 31 0 y := fun y hy => by
    rw [List.mem_singleton.mp hy]
    refine Fit.int (by decide) h ?_
    exact log2_small (Nat.lt_trans h (by decide))
  have e : ∀ y ∈ [D.int i], Kd y ∧ shortD y := fun y hy => by rw [List.mem_singleton.mp hy]; exact ⟨⟨_, rfl, by decide⟩, trivial⟩
  exact ⟨⟨_, rfl, by decide⟩, trivial, (Fit.lst (m := 1) f (by simp)).mono (by decide) (by decide), elOk_lst e, fun _ _ z => by cases z⟩
theorem atI_zero {α : Type} {x : α} {xs : List α} : atI (x :: xs) 0 = some x := by
  unfold atI ixN
  rw [if_pos (by decide), if_pos (by simp)]
  rfl
/-- a thing that may change later is one by number -/
def fixed : D → Bool
  | .lst _ => false
  | .dic _ => false
  | _ => true
structure Thg (μ : Mu) (t x : D) : Prop where
  th : Th μ t x
  num : fixed x = true ∨ ∃ i, t = .num i
structure Thing (x : D) : Prop where
  kd : Kd x
  sh : shortD x
  ft : Fit 40000 5 x
  el : ElOk (ElOk shortD) x
  ls : ∀ xs, x = .lst xs → (∀ y ∈ xs, Fit 3000 3 y) ∧ xs.length ≤ 13
  dc : ∀ kvs, x = .dic kvs → (∀ p ∈ kvs, Fit 402 0 (keyT p.1) ∧ Fit 41 0 p.2) ∧ kvs.length ≤ 13
theorem Itm.thing {x : D} (h : Itm x) (e : ElOk (ElOk shortD) x) (n : (∀ xs, x ≠ .lst xs) ∧ ∀ kvs, x = .dic kvs → kvs = []) : Thing x := ⟨h.kd, h.sh, h.ft.mono (by decide) (by decide), e, fun xs z => absurd z (n.1 xs), fun kvs z => by
  rw [n.2 kvs z]
  exact ⟨fun _ h => (nomatch h), by simp⟩⟩
theorem Thing.lst {xs : List D} (h : ∀ x ∈ xs, Itm x) (l : xs.length ≤ 13) : Thing (.lst xs) := ⟨⟨_, rfl, by decide⟩, trivial, (Fit.lst (fun x hx => (h x hx).ft) l).mono (by decide) (by decide), elOk_lst fun x hx => ⟨(h x hx).kd, (h x hx).el⟩, fun ys e => by cases e; exact ⟨fun x hx => (h x hx).ft, l⟩, fun _ e => by cases e⟩
theorem Thing.tup {xs : List D} (h : ∀ x ∈ xs, Itm x) (l : xs.length ≤ 13) : Thing (.tup xs) := ⟨⟨_, rfl, by decide⟩, trivial, (Fit.tup (fun x hx => (h x hx).ft) l).mono (by decide) (by decide), elOk_tup fun x hx => ⟨(h x hx).kd, (h x hx).el⟩, fun _ e => (by cases e), fun _ e => by cases e⟩
theorem dput_in {acc : List (Key × D)} {k : Key} {d : D} {p : Key × D} (h : p ∈ dput acc k d) : (p ∈ acc ∨ p = (k, d)) ∧ (dput acc k d).length ≤ acc.length + 1 := by
  unfold dput at h ⊢
  split at h
  · rename_i c
    rw [if_pos c, List.length_map]
    refine ⟨?_, Nat.le_succ _⟩
    obtain ⟨q, hq, e⟩ := List.mem_map.mp h
    split at e
    · rename_i ek
      subst ek
      exact Or.inr e.symm
    · subst e
      exact Or.inl hq
  · rename_i c
    rw [if_neg c, List.length_append]
    refine ⟨?_, Nat.le_refl _⟩
    rcases List.mem_append.mp h with h | h
    · exact Or.inl h
    · exact Or.inr (List.mem_singleton.mp h)
theorem dput_len (acc : List (Key × D)) (k : Key) (d : D) : (dput acc k d).length ≤ acc.length + 1 := by
  unfold dput
  split
  · rw [List.length_map]; omega
  · rw [List.length_append]; exact Nat.le_refl _
theorem mergeD_len : ∀ (kvs acc : List (Key × D)), (mergeD acc kvs).length ≤ acc.length + kvs.length
  | [], acc => Nat.le_refl _
  | (k, d) :: kvs, acc => by
    have := mergeD_len kvs (dput acc k d)
    have := dput_len acc k d
    unfold mergeD
    simp only [List.length_cons]
    omega
theorem mergeD_mem : ∀ {kvs acc : List (Key × D)} {p : Key × D}, p ∈ mergeD acc kvs → p ∈ acc ∨ p ∈ kvs
  | [], _, _, h => Or.inl h
  | (k, d) :: kvs, acc, p, h => by
    unfold mergeD at h
    rcases mergeD_mem h with h | h
    · rcases (dput_in h).1 with h | h
      · exact Or.inl h
      · exact Or.inr (by rw [h]; exact List.mem_cons_self)
    · exact Or.inr (List.mem_cons_of_mem _ h)
theorem pairs_rows (rows : List (Str × Int)) : pairsD (rows.map rowT) = some (placesE rows) := by
  induction rows with
  | nil => rfl
  | cons r rows ih =>
    rw [List.map_cons]
    show (match pairD (rowT r), pairsD (rows.map rowT) with | some p, some ps => some (p :: ps) | _, _ => none) = _
    rw [ih]
    rfl
theorem Thing.dic {kvs : List (Key × D)} (h : ∀ p ∈ kvs, Fit 402 0 (keyT p.1) ∧ Fit 41 0 p.2) (l : kvs.length ≤ 13) : Thing (.dic kvs) := ⟨⟨_, rfl, by decide⟩, trivial, (Fit.dic h l).mono (by decide) (by decide), elOk_leaf rfl, fun _ e => (by cases e), fun _ e => by cases e; exact ⟨h, l⟩⟩
theorem rowsB_of {x : D} {rows : List (Str × Int)} (hk : Kd x) (ok : OkRows rows) (h : x.items = some (rows.map rowT)) : rowsB x = true := by
  obtain ⟨n, hn, _⟩ := hk
  cases x <;> simp only [D.items, Option.some.injEq, reduceCtorEq] at h
  · subst h
    exact list_rows ok
  · subst h
    exact list_rows ok
  · cases hn
/-- .. once more grown -/
theorem Thing.late {xs : List D} (h : Thing (.lst xs)) {y : D} (hy : Fit 3000 3 y) : Fit 50000 5 (.lst (xs ++ [y])) := by
  obtain ⟨h1, h2⟩ := h.ls xs rfl
  refine (Fit.lst (n := 3000) (k := 3) (m := 14) (fun x hx => ?_) (by simp; omega)).mono (by decide) (by decide)
  rcases List.mem_append.mp hx with hx | hx
  · exact h1 x hx
  · rw [List.mem_singleton.mp hx]
    exact hy
theorem Thing.late2 {kvs : List (Key × D)} (h : Thing (.dic kvs)) {k : Key} {y : D} (hk : Fit 402 0 (keyT k)) (hy : Fit 41 0 y) : Fit 50000 5 (.dic (dput kvs k y)) := by
  obtain ⟨h1, h2⟩ := h.dc kvs rfl
  refine (Fit.dic (a := 402) (n := 41) (k := 0) (m := 14) (fun p hp => ?_) (Nat.le_trans (dput_len _ _ _) (by omega))).mono (by decide) (by decide)
  rcases (dput_in hp).1 with hp | hp
  · exact h1 p hp
  · rw [hp]
    exact ⟨hk, hy⟩
theorem small_int {i : Int} (h0 : 0 ≤ i) (h : i ≤ 100) : i.natAbs < 10 ^ 40 := Nat.lt_of_le_of_lt (show i.natAbs ≤ 100 by omega) (by decide)
theorem Itm.row {r : Str × Int} (h : Sg r.1 40) (h0 : 0 ≤ r.2) (h1 : r.2 ≤ 100) : Itm (rowT r) := Itm.tup (two_mem (Atom.str h) (Atom.int (small_int h0 h1))) (by simp)
theorem Thing.places {rows : List (Str × Int)} (l : rows.length ≤ 13) (h : ∀ r ∈ rows, Sg r.1 40 ∧ 0 ≤ r.2 ∧ r.2 ≤ 4) : Thing (.dic (mergeD [] (placesE rows))) := by
  refine Thing.dic (fun p hp => ?_) (Nat.le_trans (mergeD_len _ _) (by unfold placesE; rw [List.length_map]; simpa using l))
  rcases mergeD_mem hp with hp | hp
  · cases hp
  · obtain ⟨r, hr, rfl⟩ := List.mem_map.mp hp
    obtain ⟨h1, h2, h3⟩ := h r hr
    exact ⟨Fit.str h1, Fit.int (by decide) (small_int h2 (by omega)) (log2_small (Nat.lt_trans (small_int h2 (by omega)) (by decide)))⟩
section
variable {ρ : Rho} {μ : Mu} {Φd : D → Prop} {x y : D} {xs : List D} {j k : Nat} {m m' : M}
theorem mu_ne (h : k ≠ j) : (μ.set j m)[k]? = μ[k]? := List.getElem?_set_ne (Ne.symm h)
theorem thg_num (e : μ[k]? = some m) (t : m.tree = some x) (hk : Kd x) : Thg μ (.num k) x := ⟨⟨rfl, by simp only [lookD, e]; exact t, hk⟩, Or.inr ⟨k, rfl⟩⟩
theorem thg_val (hk : Kd x) (n : fixed x = true) : Thg μ x x := by
  obtain ⟨a, h1, h2⟩ := hk
  exact ⟨Th.of h1 h2, Or.inl n⟩
theorem q_dictP {kvs : List (Key × D)} {Φm : M → Prop} (e : pairsD xs = some kvs) (h : Φm (.dic (mergeD [] kvs))) : oDictP [.lst xs] ρ μ Φm := ⟨xs, kvs, rfl, e, h⟩
theorem q_neNil (e : lookD ρ μ x = some (.lst xs)) (h : ∀ d ∈ xs, d.data = true) (q : Φd (.bl (!xs.isEmpty))) : oNe x (.lst []) ρ μ Φd := by
  refine q_neG ⟨e, by simp only [D.data]; exact datas_mem h⟩ ⟨rfl, rfl⟩ (Or.inr (by show PyData.depth _ ≤ 60; simp [D.pyd, D.pyds, PyData.depth, PyData.depthAll])) ?_
  rw [deq_nil]
  exact q

end
theorem cutD_sub {xs : List D} {l h : Option Int} : (∀ y ∈ cutD xs l h, y ∈ xs) ∧ (cutD xs l h).length ≤ xs.length := by
  unfold cutD
  refine ⟨fun y hy => ?_, ?_⟩
  · exact List.mem_of_mem_drop (List.mem_of_mem_take hy)
  · rw [List.length_take, List.length_drop]
    omega
theorem get_enum {xs : List D} {i : Nat} {d : D} (h : (enumD xs)[i]? = some d) : ∃ x, xs[i]? = some x ∧ d = .tup [.int (i : Nat), x] := by
  unfold enumD at h
  rw [List.getElem?_mapIdx, Option.map_eq_some_iff] at h
  obtain ⟨x, h, e⟩ := h
  exact ⟨x, h, e.symm⟩
theorem at_nat {xs : List D} {k : Nat} {x : D} (h : xs[k]? = some x) : atI xs (k : Int) = some x ∧ ixN xs.length (k : Int) = some k := by
  have hk := (List.getElem?_eq_some_iff.mp h).1
  have e : ixN xs.length (k : Int) = some k := by
    unfold ixN
    rw [if_pos (by omega), if_pos (by omega)]
    simp
  refine ⟨?_, e⟩
  unfold atI
  rw [e]
  exact h
theorem lookup_mem {fs : List (Str × D)} {f : Str} {d : D} (h : fs.lookup f = some d) : f ∈ fs.map (·.1) := by
  induction fs with
  | nil => cases h
  | cons p fs ih =>
    obtain ⟨g, x⟩ := p
    rw [List.lookup_cons] at h
    split at h
    · rename_i e
      have e := beq_iff_eq.mp e
      subst e
      exact List.mem_cons_self
    · exact List.mem_cons_of_mem _ (ih h)
theorem words_frozen {sh : Sh} {rows : List (Str × Int)} (fl : sh.flds 1 = [Str.ofString "_rows", Str.ofString "_places", Str.ofString "_order", Str.ofString "_ranks"]) (me : ∀ f, sh.memo 1 f = none) : Frozen sh 1 (wordsN rows) (wordsF rows) :=
  ⟨by rw [fl]; rfl, fun f g h => (by rw [me f] at h; cases h), fun f d h => Or.inl (by rw [fl]; exact lookup_mem h)⟩
section
variable {ρ : Rho} {μ : Mu} {Φ : KD} {Φd : D → Prop} {N : Rho → Mu → Prop} {x y t d : D} {xs : List D} {kvs : List (Key × D)} {i : Nat} {z : Str}
theorem q_appN (k : d.kept = true) (e : μ[i]? = some (.lst xs)) (hz : xs.length < sizeLine) (h : Φ .non ρ (μ.set i (.lst (xs ++ [d])))) : oAppend (.num i) [d] ρ μ Φ :=
  ⟨ρ, d, xs, stow_kept k, e, hz, h⟩
theorem th_numD (h : Th μ (.num i) (.dic kvs)) : μ[i]? = some (.dic kvs) := by
  have l := h.lk
  simp only [lookD] at l
  cases e : μ[i]? with
  | none => rw [e] at l; cases l
  | some m => rw [e] at l; cases m <;> cases l; rfl
theorem q_setDN {k : Key} (e : μ[i]? = some (.dic kvs)) (ek : keyD y = some k) (hz : kvs.length < sizeLine) (h : N ρ (μ.set i (.dic (dput kvs k d)))) : oSetI (.num i) y d ρ μ N := by
  unfold oSetI
  rw [show getM ρ μ (.num i) = some (.dic kvs) from e]
  exact ⟨k, ek, hz, h⟩
/-- repr of a thing of data -/
theorem q_reprT {n k : Nat} (e : lookD ρ μ t = some x) (f : Fit n k x) (hk : k ≤ 60) (hn : n ≤ sizeLine) (h : Φd (.str x.pyr.shown)) : oRepr [t] ρ μ Φd :=
  q_repr e (rsv_dat2 μ f.d2) f.d2 f.sh (Nat.le_trans f.dp hk) (Nat.le_trans f.sz hn) h
/-- .. with things by number in it -/
theorem q_reprN {n k : Nat} (e : lookD ρ μ t = some y) (e2 : y.rsv μ = some x) (f : Fit n k x) (hk : k ≤ 60) (hn : n ≤ sizeLine) (h : Φd (.str x.pyr.shown)) : oRepr [t] ρ μ Φd :=
  q_repr e e2 f.d2 f.sh (Nat.le_trans f.dp hk) (Nat.le_trans f.sz hn) h
theorem rsv_pair {a : Str} (h : Th μ t x) (f : x.dat2 = true) : (D.tup [.str a, t]).rsv μ = some (.tup [.str a, x]) := by
  have e : t.rsv μ = some x := by
    have l := h.lk
    have k := h.kp
    cases t with
    | num j =>
      simp only [lookD] at l
      cases em : μ[j]? with
      | none => rw [em] at l; cases l
      | some m =>
        rw [em] at l
        simp only [D.rsv, em]
        exact l
    | var i => cases k
    | _ => cases l <;> exact rsv_dat2 μ f
  simp only [D.rsv, D.rsvs, e, Option.map_some]
theorem Fit.pair {a : Str} {n k : Nat} (ha : Sg a 20) (f : Fit n k x) (hn : 202 ≤ n) : Fit (2 * (n + 2) + 3) (k + 1) (.tup [.str a, x]) :=
  Fit.tup (m := 2) (two_mem ((Fit.str ha).mono hn (Nat.zero_le _)) f) (by simp)
theorem q_nsame {P Q : Prop} (h : Q) : if (!(z == z)) = true then P else Q := by
  rw [show (z == z) = true from beq_self_eq_true z]
  exact h
end
theorem told_fit {n : Nat} (h : n ≤ 13) : Fit 411 1 (.tup [.str (Str.ofString "told"), .int (n : Nat)]) :=
  Fit.pair (n := 202) (k := 0) (Sg.of (by decide +kernel)) ((Fit.int (k := 40) (by decide) (small_int (by omega) (by omega)) (Dl.log2_small (Nat.lt_trans (small_int (i := (n : Int)) (by omega) (by omega)) (by decide)))).mono (by decide) (Nat.le_refl _)) (by decide)
theorem kind_split {x : D} (h : x.dat2 = true) : (∃ xs, x = .lst xs) ∨ (∃ kvs, x = .dic kvs) ∨ (fixed x = true ∧ ∀ a, x.kind = some (.inl a) → tyIs a "list" = false ∧ tyIs a "dict" = false) := by
  cases x <;> first | exact Or.inl ⟨_, rfl⟩ | exact Or.inr (Or.inl ⟨_, rfl⟩) | (cases h; done) | (refine Or.inr (Or.inr ⟨rfl, fun a ha => ?_⟩); cases ha; exact ⟨by decide, by decide⟩)
end Dl
namespace JgHd
open PySem PySem.W PySem.Calls PyProof.Rows PySem.Spec L2 JgX
/-! ### a head by one run: what the written part says, as truths that the kernel looks up -/
theorem frA_eq {α : Type} (n : Addr) (k : Addr → α) : frA n k = k n := by
  cases n <;> rfl
theorem obsT_eq (lo hi : Nat) (fx : Frag → Bool) (ad : List (Frag → Addr)) (vs : List FnV) (s : SharedT) : obsT lo hi fx ad s = (hookJ lo hi fx ad vs).obs s.abs := by
  have e : HandSHeadRun.getT s = s.abs.heap.get? := funext (HandSHeadRun.getT_eq s)
  unfold obsT
  rw [e]
  rfl
section
variable {K : Frag} {fx : Frag → Bool} {ad : List (Frag → Addr)} {vs : List FnV}
theorem says_fx (c : obsJ fx ad K = (true, vs)) : fx K = true := congrArg (fun z : AlJ => z.1) c
theorem says_fn (c : obsJ fx ad K = (true, vs)) (i : Nat) {a : Frag → Addr} {v : FnV} (ha : ad[i]? = some a := by rfl) (hv : vs[i]? = some v := by rfl) : fnV K (a K) = v := by
  have e : ad.map (fun a => fnV K (a K)) = vs := congrArg (fun z : AlJ => z.2) c
  have e2 : (ad.map fun a => fnV K (a K))[i]? = vs[i]? := by rw [e]
  rw [List.getElem?_map, ha, hv] at e2
  exact Option.some.inj e2
/-! ### truths -/
theorem ba {a b : Bool} (h : (a && b) = true) : a = true ∧ b = true := Bool.and_eq_true_iff.mp h
/-- one of a row of truths -/
theorem all_at {α : Type} {l : List α} {p : α → Bool} (h : l.all p = true) (i : Nat) {x : α} (e : l[i]? = some x := by rfl) : p x = true := List.all_eq_true.mp h x (List.mem_of_getElem? e)
theorem is_ok {α : Type} [DecidableEq α] {a b : α} (h : isB a b = true) : a = b := of_decide_eq_true h
theorem glo_in {x : Str} (c : gloB K x = true) : nsIn K mainGlobals x = some (some (.ref (He.ga K x))) := is_ok c
theorem free_in {x : Str} (c : freeB K x = true) : nsIn K mainGlobals x = some none := is_ok c
theorem const_in {x : Str} {v : V} (c : constB K x v = true) : ∃ u, nsIn K mainGlobals x = some (some u) ∧ RelV v u := by
  unfold constB at c
  split at c
  · rename_i u e
    exact ⟨u, e, He.relB_ok c⟩
  · cases c
/-! ### a def -/
theorem fun_of {x qual : Str} {st : Stmt} {a : Addr} (e : fnV K a = textV x qual (defArgs st) (defBody st) (defScope st) []) (c : funB K a qual [] [] = true) : ∃ fd, Fun K x qual st a fd := by
  obtain ⟨kp, c2⟩ := ba c
  unfold fnV at e
  unfold textV at e
  cases q : K.lookup a with
  | none =>
    rw [q] at c2
    cases c2
  | some o =>
    obtain ⟨oc, od, dt, osl⟩ := o
    rw [q] at c2 e
    cases dt with
    | func fd =>
      obtain ⟨n1, n2, n3, n4, n5, n6, n7, n8, n9, n10, n11, n12, n13, n14, n15⟩ := fd
      simp only [Option.some.injEq, Prod.mk.injEq, List.map_eq_nil_iff] at e
      obtain ⟨h1, h2, h3, h4, h5, h6, h7, h8⟩ := e
      subst h1 h2 h3 h4 h5 h6 h7 h8
      obtain ⟨k1, k2⟩ := ba (show (codeIn K n13 n2 && (He.dflB K n8 [] && He.kwdB K n9 [])) = true from c2)
      obtain ⟨k3, k4⟩ := ba k2
      rcases He.dflB_ok k3 with ⟨_, k⟩ | ⟨k, _⟩
      · subst k
        exact ⟨_, ⟨oc, od, n9, n10, n11, n12, n13, n14, osl, rfl, q, k1⟩, kp⟩
      · exact absurd rfl k
    | _ => cases c2
theorem funD_of {x qual : Str} {params : Arguments} {body : List Stmt} {scope : Scope} {a : Addr} {dvs : List V} {kws : List (Str × V)} (e : fnV K a = textV x qual params body scope []) (c : funB K a qual dvs kws = true) : ∃ fd, FunD K x qual params body scope dvs kws a fd := by
  obtain ⟨kp, c2⟩ := ba c
  unfold fnV at e
  unfold textV at e
  cases q : K.lookup a with
  | none =>
    rw [q] at c2
    cases c2
  | some o =>
    obtain ⟨oc, od, dt, osl⟩ := o
    rw [q] at c2 e
    cases dt with
    | func fd =>
      obtain ⟨n1, n2, n3, n4, n5, n6, n7, n8, n9, n10, n11, n12, n13, n14, n15⟩ := fd
      simp only [Option.some.injEq, Prod.mk.injEq, List.map_eq_nil_iff] at e
      obtain ⟨h1, h2, h3, h4, h5, h6, h7, h8⟩ := e
      subst h1 h2 h3 h4 h5 h6 h7 h8
      obtain ⟨k1, k2⟩ := ba (show (codeIn K n13 n2 && (He.dflB K n8 dvs && He.kwdB K n9 kws)) = true from c2)
      obtain ⟨k3, k4⟩ := ba k2
      exact ⟨_, ⟨oc, od, n8, n9, n10, n11, n12, n13, n14, osl, rfl, q, k1, He.dflB_ok k3, He.kwdB_ok k4⟩, kp⟩
    | _ => cases c2
/-! ### a class of exceptions -/
theorem exc_in {C : Addr} {newId : String} {bmB : List Value} (c : excB K C newId bmB = true) :
    ∃ nm q N bs bm sn sub ab col dd k0 k1 k2 k3 k5, K.lookup C = some (excClassObj nm q C N bs bm true sn sub ab col dd k0 k1 k2 k3 k5 newId) ∧ excTail bmB bm = true := by
  unfold excB at c
  split at c
  · rename_i dd cd sl ho
    split at c
    · rename_i C' bm k0 k1 k2 k3 n k5 hm hs
      simp only [Bool.and_eq_true, beq_iff_eq, Bool.not_eq_true'] at c
      obtain ⟨rfl, rfl, hdel, hdct, ht⟩ := c
      obtain ⟨nm, bs, mro, ns, qn, hd, sn, sub, ab, col, del⟩ := cd
      dsimp only at hm hdel hdct
      subst hm hdel hdct
      have hsl : sl = #[k0, k1, k2, k3, some (.builtin n), k5] := by
        obtain ⟨l⟩ := sl
        simp only at hs
        rw [hs]
      subst hsl
      exact ⟨nm, qn, ns, bs, bm, sn, sub, ab, col, dd, k0, k1, k2, k3, k5, ho, ht⟩
    · cases c
  · cases c
theorem xfn_in {P : Program} {C I : Addr} {x qual : Str} {st : Stmt} (e : fnV K I = textV x qual (defArgs st) (defBody st) (defScope st) ["__class__"]) (c : xfnB K C I qual P.main.file = true)
    (iC : findIn K (.ref C) "__init__" = some (some (.ref I))) (tI : typeIn K (.ref I) = some (.type "function")) : ∃ fd, XFn P K C I fd qual (defArgs st) (defBody st) (defScope st) := by
  unfold fnV at e
  unfold textV at e
  unfold xfnB at c
  cases q : K.lookup I with
  | none =>
    rw [q] at c
    cases c
  | some o =>
    obtain ⟨oc, od, dt, osl⟩ := o
    rw [q] at c e
    cases dt with
    | func fd =>
      obtain ⟨n1, n2, n3, n4, n5, n6, n7, n8, n9, n10, n11, n12, n13, n14, n15⟩ := fd
      simp only [Option.some.injEq, Prod.mk.injEq] at e
      obtain ⟨h1, h2, h3, h4, h5, h6, h7, h8⟩ := e
      subst h1 h2 h3 h4 h5 h6 h8
      dsimp only at c h7
      split at c
      · rename_i cda y cc
        obtain ⟨k1, c⟩ := ba c
        obtain ⟨k2, c⟩ := ba c
        obtain ⟨k3, k4⟩ := ba c
        simp only [List.map_cons, List.map_nil, List.cons.injEq, and_true] at h7
        subst h7
        rcases He.dflB_ok k2 with ⟨_, k⟩ | ⟨k, _⟩
        · subst k
          split at k3
          · rename_i ccl cdd vs ccs hc
            split at k3
            · rename_i fl tf hv
              split at k4
              · rename_i cl cld C' csl hz
                have z : C' = C := beq_iff_eq.mp k4
                subst z
                exact ⟨_, ⟨⟨_, cc, cda, oc, n9, n10, n11, n14, ccl, cl, od, n12, cdd, cld, osl, ccs, csl, vs, fl, tf, rfl, q, k1, hc, hv, k3, hz⟩, iC, tI⟩⟩
              · cases k4
            · cases k3
          · cases k3
        · exact absurd rfl k
      · cases c
    | _ => cases c
theorem ct_of {P : Program} {h : Heap} {mg : Str → Option Value} (X : K.In h) (G : h.Ns mainGlobals mg) {x : Str} {newId i B : String} {bmB : List Value} {field qual nm : Str} {st : Stmt} (tk : takB K = true) (c : ctB K x newId i B bmB field qual P.main.file = true)
    (e : fnV K (He.ma K (He.ga K x) "__init__") = textV nm qual (defArgs st) (defBody st) (defScope st) ["__class__"])
    (hX : bmB.contains (.type "BaseException") = true := by decide +kernel) (hO : bmB.contains (.type "object") = true := by decide +kernel) (hB : bmB.contains (.type B) = true := by decide +kernel) :
    ∃ fd, CT P K mg (He.ga K x) (He.ma K (He.ga K x) "__init__") fd x qual field B newId i bmB st := by
  obtain ⟨c1, c⟩ := ba c
  obtain ⟨c2, c⟩ := ba c
  obtain ⟨c3, c⟩ := ba c
  obtain ⟨c4, c⟩ := ba c
  obtain ⟨c5, c⟩ := ba c
  obtain ⟨c6, c⟩ := ba c
  obtain ⟨c7, c⟩ := ba c
  obtain ⟨c8, c⟩ := ba c
  obtain ⟨c9, c10⟩ := ba c
  obtain ⟨nm, q, N, bs, bm, sn, sub, ab, col, dd, k0, k1, k2, k3, k5, l, t⟩ := exc_in c2
  obtain ⟨a1, a⟩ := ba c3
  obtain ⟨a2, a3⟩ := ba a
  obtain ⟨t1, t2⟩ := ba tk
  obtain ⟨fd, F⟩ := xfn_in e c10 (is_ok c7) (is_ok c8)
  exact ⟨fd, xc_mk l t (is_ok c4) (cl_tail l t hX) (cl_ty l) c5 (is_ok c6) (cl_tail l t hB), F, is_ok c9, mg_of X G (glo_in c1), cl_xa l t hX hO (is_ok a1) (is_ok a2) (is_ok a3) (is_ok t1) (is_ok t2)⟩
theorem pl_of {B : String} {x : Str} {newId i : String} {bmB : List Value} (tk : takB K = true) (c : plB K x newId i bmB = true) (hX : bmB.contains (.type "BaseException") = true := by decide +kernel) (hO : bmB.contains (.type "object") = true := by decide +kernel) :
    nsIn K mainGlobals x = some (some (.ref (He.ga K x))) ∧ Plain K (He.ga K x) B newId i bmB ∧ XA K (He.ga K x) ∧ typeIn K (.ref (He.ga K x)) = some (.type "type") := by
  obtain ⟨c1, c⟩ := ba c
  obtain ⟨c2, c⟩ := ba c
  obtain ⟨c3, c⟩ := ba c
  obtain ⟨c4, c5⟩ := ba c
  obtain ⟨nm, q, N, bs, bm, sn, sub, ab, col, dd, k0, k1, k2, k3, k5, l, t⟩ := exc_in c2
  obtain ⟨a1, a⟩ := ba c3
  obtain ⟨a2, a3⟩ := ba a
  obtain ⟨t1, t2⟩ := ba tk
  exact ⟨glo_in c1, pl_mk l t c4 (is_ok c5), cl_xa l t hX hO (is_ok a1) (is_ok a2) (is_ok a3) (is_ok t1) (is_ok t2), cl_ty l⟩
theorem rows_in {xs : List Str} (h : (xs.all fun x => isB (typeIn K (.ref (He.ga K x))) (some (.type "type")) && (match clsIn K (He.ga K x) with
  | some cd => cd.mro.head? == some (.ref (He.ga K x))
  | none => false)) = true) : Cls K (rowK K xs) := by
  intro i C bm e
  unfold rowK at e
  rw [List.getElem?_map] at e
  cases hx : xs[i]? with
  | none => rw [hx] at e; cases e
  | some x =>
    rw [hx] at e
    obtain ⟨rfl, rfl⟩ := Prod.mk.inj (Option.some.inj e)
    obtain ⟨h1, h2⟩ := ba (List.all_eq_true.mp h x (List.mem_of_getElem? hx))
    split at h2
    · rename_i cd hc
      refine ⟨⟨cd, hc, ?_⟩, is_ok h1⟩
      unfold above
      rw [hc]
      have z : cd.mro.head? = some (.ref (He.ga K x)) := beq_iff_eq.mp h2
      cases hm : cd.mro with
      | nil => rw [hm] at z; cases z
      | cons v r =>
        rw [hm] at z
        cases z
        show _ :: r = _ :: cd.mro.tail
        rw [hm]
        rfl
    · cases h2
theorem frVs_eq : ∀ (vs : List Value) (k : List Value → Bool), frVs vs k = k vs
  | [], k => rfl
  | v :: vs, k => by
    unfold frVs
    cases v <;> simp only [frA_eq, frVs_eq vs]
theorem frRows_eq : ∀ (xs : List Str) (k : List (Addr × List Value) → Bool), frRows K xs k = k (rowK K xs)
  | [], k => rfl
  | x :: xs, k => by
    unfold frRows
    rw [frA_eq, frVs_eq, frRows_eq xs]
    rfl
theorem row_at {xs : List Str} (i : Nat) {x : Str} (e : xs[i]? = some x := by rfl) : (rowK K xs)[i]? = some (He.ga K x, above K (He.ga K x)) := by
  unfold rowK
  rw [List.getElem?_map, e]
  rfl
end
end JgHd
namespace Jg
open PySem PySem.Spec PyProof.Rows L2
/-- the goal behind a head by facts, from the law's promise -/
theorem walkH {l : PySem.W.OpenLaw} {n k : Nat} {q : Program} {loose : List Str} {XP : (Str → Option Value) → Heap → Prop} {YP : World → Heap → Prop} {d : DefRec} {sp : PySem.W.Frag → Sp} {x : Str}
    (hn : l.most = some n) (hn2 : n ≤ sizeLine) (hdf : d.params.defaults = []) (room : Room k callerA)
    (F : ∀ (w : World) (mg : Str → Option Value) (fa : Addr) (h : Heap), YP w h → h.Ns mainGlobals mg → mg d.name = some (.ref fa) →
      ∃ (K : PySem.W.Frag) (fd : FuncData), K.In h ∧ (∀ (s : Shared) (u : Value), BindsTo s fd ⟨[u], []⟩ [(x, u)]) ∧ ∀ base : Heap, K.In base → base.Ns mainGlobals mg → FnG l.prog w K mg base k fa fd [x] (sp K))
    (want : ∀ (K : PySem.W.Frag) (H : Hp) (a : Addr) (ns : List Int), ns.length ≤ n → Only H → SqL K H a (ns.map V.int) → sp K [.ref a] H (fun v _ => v = .bl true) fun _ _ _ => False) :
    PySem.W.WalkO q loose XP YP l.row.toRowW d [] (fun f vs => PySem.call f vs) := by
  refine Att.attach_call hn hdf ?_
  intro w s₀ s₁ mg mb fa o pm cd doc a vs ns G Y ho hd hcd hmg hobj hints hlen hg
  obtain ⟨K, fd, kin, hb, hF⟩ := F w mg fa _ Y G.T.g hmg
  exact call_law kin G.T.g G.T.b G.T.builtins G.T.nolimit hg hobj hints (Nat.le_trans hlen hn2) room hF hb fun H on sq => want K H a ns hlen on sq
end Jg
namespace Dl
open PySem PySem.Spec PyProof.Rows L2
/-! ### the classes of a program, by a table; a law's end -/
def tagL (l : List (Addr × Nat)) (a : Addr) : Option Nat := l.lookup a
theorem tagL_mem {l : List (Addr × Nat)} {a : Addr} {k : Nat} (h : tagL l a = some k) : (a, k) ∈ l := by
  unfold tagL at h
  induction l with
  | nil => cases h
  | cons p l ih =>
    obtain ⟨b, j⟩ := p
    rw [List.lookup_cons] at h
    split at h
    · rename_i e
      have e := beq_iff_eq.mp e
      subst e
      cases h
      exact List.mem_cons_self
    · exact List.mem_cons_of_mem _ (ih h)
theorem tagL_at {l : List (Addr × Nat)} {a : Addr} {k : Nat} (h : (l.map (·.1)).Nodup) (m : (a, k) ∈ l) : tagL l a = some k := by
  unfold tagL
  induction l with
  | nil => cases m
  | cons p l ih =>
    obtain ⟨b, j⟩ := p
    rw [List.map_cons, List.nodup_cons] at h
    rw [List.lookup_cons]
    rcases List.mem_cons.mp m with e | m
    · cases e
      rw [beq_self_eq_true]
    · have ne : a ≠ b := fun z => h.1 (z ▸ List.mem_map.mpr ⟨_, m, rfl⟩)
      rw [show (a == b) = false from beq_eq_false_iff_ne.mpr ne]
      exact ih h.2 m
theorem tagL_one {l : List (Addr × Nat)} {a : Addr} {k : Nat} (h : (l.map (·.2)).Nodup) (m : (a, k) ∈ l) : ∀ C', tagL l C' = some k → C' = a := fun C' e => by
  have main : ∀ {l : List (Addr × Nat)} {x y : Addr × Nat}, (l.map (·.2)).Nodup → x ∈ l → y ∈ l → x.2 = y.2 → x = y := fun {l x y} => by
    induction l with
    | nil => intro _ hx; cases hx
    | cons p l ih =>
      intro h hx hy e
      rw [List.map_cons, List.nodup_cons] at h
      rcases List.mem_cons.mp hx with hx1 | hx1
      · rcases List.mem_cons.mp hy with hy1 | hy1
        · rw [hx1, hy1]
        · exact absurd (List.mem_map.mpr ⟨y, hy1, by rw [← e, hx1]⟩) h.1
      · rcases List.mem_cons.mp hy with hy1 | hy1
        · exact absurd (List.mem_map.mpr ⟨x, hx1, by rw [e, hy1]⟩) h.1
        · exact ih h.2 hx1 hy1 e
  have := main h (tagL_mem e) m rfl
  exact congrArg Prod.fst this
abbrev objsL (l e : List (Addr × Nat)) (fl : Nat → List Str) (mo : Nat → Str → Option (List D → D)) : Objs := ⟨tagL l, tagL e, ⟨fl, mo, fun a b => decide (a = b), fun _ _ => false⟩⟩
section
variable {K : PySem.W.Frag} {l e : List (Addr × Nat)} {fl : Nat → List Str} {mo : Nat → Str → Option (List D → D)}
theorem ins_ok {x : Str} (t : JgHd.takB K = true) (h : JgHd.insB K x = true) : InsK K (He.ga K x) := by
  obtain ⟨h1, h⟩ := JgHd.ba h
  obtain ⟨h2, h3⟩ := JgHd.ba h
  obtain ⟨t1, t2⟩ := JgHd.ba t
  exact ⟨He.cls_ok h1, JgHd.is_ok h2, JgHd.is_ok t1, JgHd.is_ok t2, JgHd.is_ok h3⟩
theorem kitOk_of (h : JgHd.kitsB K l = true) (ins : ∀ p ∈ l, InsK K p.1) : KitOk (objsL l e fl mo) K := by
  have at_ := fun p hp => List.all_eq_true.mp h p hp
  refine ⟨fun {H a C dx fs k} _ tg => ins _ (tagL_mem tg), fun {C C' k k'} t t' => ?_, fun {C k n} t hn => ?_, fun {C k n} t hn => ?_⟩
  · have := (JgHd.ba (at_ _ (tagL_mem t))).1
    exact of_decide_eq_true (List.all_eq_true.mp this _ (tagL_mem t'))
  · have := (JgHd.ba (JgHd.ba (at_ _ (tagL_mem t))).2).1
    exact of_decide_eq_true (List.all_eq_true.mp this n hn)
  · have := (JgHd.ba (JgHd.ba (at_ _ (tagL_mem t))).2).2
    exact of_decide_eq_true (List.all_eq_true.mp this n hn)
theorem kitF_of (h : ∀ p ∈ l, ∀ f, (f ∈ fl p.2 ∨ (mo p.2 f).isSome = true) → PySem.W.findIn K (.ref p.1) f = some none) : KitF (objsL l e fl mo) K := fun {C k f} t hf => h _ (tagL_mem t) f hf
theorem noat_ok {C : Addr} {fs : List Str} (h : JgHd.noatB K C fs = true) {f : Str} (hf : f ∈ fs) : PySem.W.findIn K (.ref C) f = some none := of_decide_eq_true (List.all_eq_true.mp h f hf)
end
section
variable {P : Program} {w : World} {K : PySem.W.Frag} {mg : Str → Option Value} {base : Heap} {k : Nat} {f a : Addr} {fd : FuncData} {ps : List Str} {sp : SpD} {O : Objs}
/-- a def that raises nothing -/
theorem FnC.calm {sq : Sp} (F : FnC P w K mg base (L2N.CX P w) k f fd ps sq) : Jg.FnG P w K mg base k f fd ps (fun vs H Q _ => sq vs H Q fun _ _ _ => False) :=
  ⟨fun vs H Q E h => F.many vs H Q _ h, fun A outer s H args us vs Q E hr g he hb hv hs => codeAny_mono (F.go A outer s H args us vs Q _ hr g he hb hv hs) fun r s' h => by
    cases r with
    | error e =>
      obtain ⟨_, _, _, _, _, _, _, _, _, _, _, _, z⟩ := h
      exact z.elim
    | ok fl => cases fl <;> exact h⟩
/-- what the law's call wants -/
theorem law_want {H : Hp} {ns : List Int} (sq : SqL K H a (ns.map V.int)) (h : sp [.scr (ns.map D.int)] [] (fun d _ => d = .bl true) fun _ _ => False) : spV O K sp [.ref a] H (fun v _ => v = .bl true) fun _ _ _ => False := by
  have up : ∀ b o, H b = some o → vis0 (fun _ => False) [] H b = some o := fun b o e => res_some.mpr ⟨fun z => by rcases z with z | z; exact nomatch z; exact z, e⟩
  refine ⟨fun _ => False, [], _, [], _, _, .cons (.scr (Or.inl (sqL_le up sq)) (reps_ints ns)) .nil, ⟨rfl, List.nodup_nil, fun j m p e => by simp at e⟩, fun _ z => z.elim, fun _ z => z.elim, h, fun d μ' as' H' v e _ r => ?_, fun e μ' as' H' cls dx z => z.elim⟩
  subst e
  cases r
  rfl
end
end Dl
namespace D06
open PySem PySem.Spec PyProof.Rows L2 Jg Dl
abbrev n_is_list : List Str := ["thing", "low", "high"]
theorem sc_is_list : FnScope n_is_list ["thing", "low", "high"] (defScope s_is_list) := ⟨rfl, rfl, rfl, by decide +kernel, rfl, by decide +kernel, by decide +kernel⟩
abbrev n_is_whole : List Str := ["thing", "low", "high"]
theorem sc_is_whole : FnScope n_is_whole ["thing", "low", "high"] (defScope s_is_whole) := ⟨rfl, rfl, rfl, by decide +kernel, rfl, by decide +kernel, by decide +kernel⟩
abbrev n_consists_of : List Str := ["text", "marks"]
theorem sc_consists_of : FnScope n_consists_of ["text", "marks"] (defScope s_consists_of) := ⟨rfl, rfl, rfl, by decide +kernel, rfl, by decide +kernel, by decide +kernel⟩
abbrev n_is_name : List Str := ["thing"]
theorem sc_is_name : FnScope n_is_name ["thing"] (defScope s_is_name) := ⟨rfl, rfl, rfl, by decide +kernel, rfl, by decide +kernel, by decide +kernel⟩
abbrev n_is_row : List Str := ["thing"]
theorem sc_is_row : FnScope n_is_row ["thing"] (defScope s_is_row) := ⟨rfl, rfl, rfl, by decide +kernel, rfl, by decide +kernel, by decide +kernel⟩
abbrev n_are_rows : List Str := ["thing", "row"]
theorem sc_are_rows : FnScope n_are_rows ["thing"] (defScope s_are_rows) := ⟨rfl, rfl, rfl, by decide +kernel, rfl, by decide +kernel, by decide +kernel⟩
abbrev n_Words___len__ : List Str := ["self"]
theorem sc_Words___len__ : FnScope n_Words___len__ ["self"] (defScope s_Words___len__) := ⟨rfl, rfl, rfl, by decide +kernel, rfl, by decide +kernel, by decide +kernel⟩
abbrev n_Words___init__ : List Str := ["self", "rows", "row", "number", "name"]
theorem sc_Words___init__ : FnScope n_Words___init__ ["self", "rows"] (defScope s_Words___init__) := ⟨rfl, rfl, rfl, by decide +kernel, rfl, by decide +kernel, by decide +kernel⟩
abbrev n_law_cell : List Str := ["_law_script", "_law_k"]
theorem sc_law_cell : FnScope n_law_cell ["_law_script", "_law_k"] (defScope s_law_cell) := ⟨rfl, rfl, rfl, by decide +kernel, rfl, by decide +kernel, by decide +kernel⟩
abbrev n_law_box : List Str := ["_law_cell_here"]
theorem sc_law_box : FnScope n_law_box ["_law_cell_here"] (defScope s_law_box) := ⟨rfl, rfl, rfl, by decide +kernel, rfl, by decide +kernel, by decide +kernel⟩
abbrev n_law_take : List Str := ["_law_box_here", "_law_many", "_law_digit", "_law_number"]
theorem sc_law_take : FnScope n_law_take ["_law_box_here", "_law_many"] (defScope s_law_take) := ⟨rfl, rfl, rfl, by decide +kernel, rfl, by decide +kernel, by decide +kernel⟩
abbrev n_law_names : List Str := ["_law_box_here", "_law_many", "_law_letters_here", "_law_words", "_law_way", "_law_first", "_law_k", "_law_stem", "_law_at", "_law_found", "_law_sign"]
theorem sc_law_names : FnScope n_law_names ["_law_box_here", "_law_many"] (defScope s_law_names) := ⟨rfl, rfl, rfl, by decide +kernel, rfl, by decide +kernel, by decide +kernel⟩
abbrev n_law_rows : List Str := ["_law_box_here", "_law_many", "_law_name"]
theorem sc_law_rows : FnScope n_law_rows ["_law_box_here"] (defScope s_law_rows) := ⟨rfl, rfl, rfl, by decide +kernel, rfl, by decide +kernel, by decide +kernel⟩
abbrev n_law_is_name : List Str := ["_law_thing", "_law_sign"]
theorem sc_law_is_name : FnScope n_law_is_name ["_law_thing"] (defScope s_law_is_name) := ⟨rfl, rfl, rfl, by decide +kernel, rfl, by decide +kernel, by decide +kernel⟩
abbrev n_law_are_words : List Str := ["_law_thing", "_law_seen", "_law_row"]
theorem sc_law_are_words : FnScope n_law_are_words ["_law_thing"] (defScope s_law_are_words) := ⟨rfl, rfl, rfl, by decide +kernel, rfl, by decide +kernel, by decide +kernel⟩
abbrev n_law_row_otherwise : List Str := ["_law_box_here", "_law_rows_here", "_law_row", "_law_way", "_law_name", "_law_places", "_law_odd"]
theorem sc_law_row_otherwise : FnScope n_law_row_otherwise ["_law_box_here", "_law_rows_here", "_law_row"] (defScope s_law_row_otherwise) := ⟨rfl, rfl, rfl, by decide +kernel, rfl, by decide +kernel, by decide +kernel⟩
abbrev n_law_otherwise : List Str := ["_law_box_here", "_law_rows_here", "_law_way", "_law_found", "_law_more", "_law_k", "_law_turn", "_law_good", "_law_row", "_law_at"]
theorem sc_law_otherwise : FnScope n_law_otherwise ["_law_box_here", "_law_rows_here"] (defScope s_law_otherwise) := ⟨rfl, rfl, rfl, by decide +kernel, rfl, by decide +kernel, by decide +kernel⟩
abbrev n_law_caught : List Str := ["_law_thing", "e"]
theorem sc_law_caught : FnScope n_law_caught ["_law_thing"] (defScope s_law_caught) := ⟨rfl, rfl, rfl, by decide +kernel, rfl, by decide +kernel, by decide +kernel⟩
abbrev n_law : List Str := ["_law_script", "_law_k", "_law_box_here", "_law_rows_here", "_law_turn", "_law_thing", "_law_kept", "_law_good", "_law_found"]
theorem sc_law : FnScope n_law ["_law_script"] (defScope s_law) := ⟨rfl, rfl, rfl, by decide +kernel, rfl, by decide +kernel, by decide +kernel⟩
theorem zx_NoWords : JgX.XSt xs_NoWords "found" "found" := ⟨⟨_, _, _, _, _, _, _, _, _, _, _, rfl, fun _ => ⟨_, rfl⟩, fun _ => rfl, fun _ => rfl⟩, rfl, rfl, rfl, rfl, rfl, by decide +kernel, rfl, rfl, ⟨_, rfl, rfl⟩, by decide, by decide⟩
def sp_is_list : SpD := fun ds μ Φ Ψ =>
  ∃ (t x : D) (lo hi : Int), ds = [t, .int lo, .int hi] ∧ Th μ t x ∧ Φ (.bl (listB x lo hi)) μ
def sp_is_whole : SpD := fun ds μ Φ Ψ =>
  ∃ (t x : D) (lo hi : Int), ds = [t, .int lo, .int hi] ∧ Th μ t x ∧ Φ (.bl (wholeT x lo hi)) μ
def sp_consists_of : SpD := fun ds μ Φ Ψ =>
  ∃ (z m : Str), ds = [.str z, .str m] ∧ z.length ≤ 2000 ∧ Φ (.bl ((TL.tl z).all fun c => decide (c ∈ m.cps.toList))) μ
def sp_is_name : SpD := fun ds μ Φ Ψ =>
  ∃ (t x : D), ds = [t] ∧ Th μ t x ∧ shortD x ∧ Φ (.bl (nameB x)) μ
def sp_is_row : SpD := fun ds μ Φ Ψ =>
  ∃ (t x : D), ds = [t] ∧ Th μ t x ∧ ElOk shortD x ∧ Φ (.bl (rowB x)) μ
def sp_are_rows : SpD := fun ds μ Φ Ψ =>
  ∃ (t x : D), ds = [t] ∧ Th μ t x ∧ ElOk (ElOk shortD) x ∧ Φ (.bl (rowsB x)) μ
def sp_Words___len__ : SpD := fun ds μ Φ Ψ =>
  ∃ (a : Addr) (xs : List D) (fs : List D), ds = [.obj 1 a (.tup xs :: fs)] ∧ Φ (.int xs.length) μ
def sp_Words___init__ : SpI := fun ds μ Φ Ψ =>
  ∃ (t x : D), ds = [t] ∧ Th μ t x ∧ ElOk (ElOk shortD) x ∧ (∀ rows, OkRows rows → x.items = some (rows.map rowT) → Φ (wordsN rows) μ) ∧ (rowsB x = false → Ψ ⟨2, [(Str.ofString "found", t)]⟩ μ)
def sp_law_cell : SpD := fun ds μ Φ Ψ =>
  ∃ (ns : List Int) (k : Nat), ds = [.scr (ns.map D.int), .int (k : Int)] ∧ k ≤ 63 ∧ ∀ z : Int, Φ (.int z) μ
def sp_law_box : SpD := fun ds μ Φ Ψ =>
  ∃ (z : Int), ds = [.int z] ∧ Φ (.num μ.length) (μ ++ [.box 0])
def sp_law_take : SpD := fun ds μ Φ Ψ =>
  ∃ (j : Nat) (m : Int) (n : Nat), ds = [.num j, .int m] ∧ 0 < m ∧ m < 2 ^ 120 ∧ n < 1000000 ∧ μ[j]? = some (.box n) ∧ ∀ z : Int, 0 ≤ z → z < m → Φ (.int z) (μ.set j (.box (n + 1)))
def sp_law_names : SpD := fun ds μ Φ Ψ =>
  ∃ (j n k : Nat), ds = [.num j, .int (k : Int)] ∧ 1 ≤ k ∧ k ≤ 12 ∧ n < 900000 ∧ μ[j]? = some (.box n) ∧ ∀ (zs : List Str) (n' : Nat), zs.length = k → (∀ z ∈ zs, Sg z 40) → n' ≤ n + 20 → Φ (.lst (zs.map .str)) (μ.set j (.box n'))
def sp_law_rows : SpD := fun ds μ Φ Ψ =>
  ∃ (j n : Nat), ds = [.num j] ∧ n < 800000 ∧ μ[j]? = some (.box n) ∧ ∀ (rows : List (Str × Int)) (n' : Nat), 1 ≤ rows.length → rows.length ≤ 12 → (∀ r ∈ rows, Sg r.1 40 ∧ 0 ≤ r.2 ∧ r.2 ≤ 4) → n' ≤ n + 40 → Φ (.lst (rows.map fun r => .tup [.str r.1, .int r.2])) (μ.set j (.box n'))
def sp_law_is_name : SpD := fun ds μ Φ Ψ =>
  ∃ (t x : D), ds = [t] ∧ Th μ t x ∧ shortD x ∧ Φ (.bl (nameB x)) μ
def sp_law_are_words : SpD := fun ds μ Φ Ψ =>
  ∃ (t x : D), ds = [t] ∧ Th μ t x ∧ ElOk (ElOk shortD) x ∧ Φ (.bl (rowsB x)) μ
def sp_law_row_otherwise : SpD := fun ds μ Φ Ψ =>
  ∃ (j n : Nat) (rows : List (Str × Int)) (a b : D), ds = [.num j, .lst (rows.map rowT), .tup [a, b]] ∧ n < 900000 ∧ μ[j]? = some (.box n) ∧ 1 ≤ rows.length ∧ (∀ r ∈ rows, Sg r.1 40) ∧ Atom a ∧ Atom b ∧ ∀ (y : D) (n' : Nat), Itm y → n' ≤ n + 2 → Φ y (μ.set j (.box n'))
def sp_law_otherwise : SpD := fun ds μ Φ Ψ =>
  ∃ (j n : Nat) (rows : List (Str × Int)), ds = [.num j, .lst (rows.map rowT)] ∧ n < 800000 ∧ μ[j]? = some (.box n) ∧ 1 ≤ rows.length ∧ rows.length ≤ 12 ∧ (∀ r ∈ rows, Sg r.1 40 ∧ 0 ≤ r.2 ∧ r.2 ≤ 4) ∧ ∀ (t x : D) (μ' : Mu) (n' : Nat), Thg μ' t x → Thing x → μ'[j]? = some (.box n') → n' ≤ n + 20 → Φ t μ'
def sp_law_caught : SpD := fun ds μ Φ Ψ =>
  ∃ (t x : D), ds = [t] ∧ Th μ t x ∧ ElOk (ElOk shortD) x ∧ (∀ rows, OkRows rows → x.items = some (rows.map rowT) → Φ (.tup [.str (Str.ofString "told"), .int rows.length]) μ) ∧ (rowsB x = false → Φ (.tup [.str (Str.ofString "none"), t]) μ)
def sp_law : SpD := fun ds μ Φ Ψ =>
  ∃ (ns : List Int), ds = [.scr (ns.map D.int)] ∧ ns.length ≤ 63 ∧ ∀ μ', Φ (.bl true) μ'
structure Txt (O : Objs) (P : Program) (K : PySem.W.Frag) (mg : Str → Option Value) (f : Nat → Addr) (d : Nat → FuncData) : Prop where
  kit : KitOk O K
  kitF : KitF O K
  sm : (K.lookup sysModules).isSome = true
  F_is_list : Fun K "is_list" "is_list" s_is_list (f 0) (d 0)
  m_is_list : mg "is_list" = some (.ref (f 0))
  k_is_list : PySem.W.keepIn K (.ref (f 0)) = true
  b_is_list : Binds K (d 0) ["thing", "low", "high"] []
  F_is_whole : Fun K "is_whole" "is_whole" s_is_whole (f 1) (d 1)
  m_is_whole : mg "is_whole" = some (.ref (f 1))
  k_is_whole : PySem.W.keepIn K (.ref (f 1)) = true
  b_is_whole : Binds K (d 1) ["thing", "low", "high"] []
  F_consists_of : Fun K "_consists_of" "_consists_of" s_consists_of (f 2) (d 2)
  m_consists_of : mg "_consists_of" = some (.ref (f 2))
  k_consists_of : PySem.W.keepIn K (.ref (f 2)) = true
  b_consists_of : Binds K (d 2) ["text", "marks"] []
  F_is_name : Fun K "is_name" "is_name" s_is_name (f 3) (d 3)
  m_is_name : mg "is_name" = some (.ref (f 3))
  k_is_name : PySem.W.keepIn K (.ref (f 3)) = true
  b_is_name : Binds K (d 3) ["thing"] []
  F_is_row : Fun K "_is_row" "_is_row" s_is_row (f 4) (d 4)
  m_is_row : mg "_is_row" = some (.ref (f 4))
  k_is_row : PySem.W.keepIn K (.ref (f 4)) = true
  b_is_row : Binds K (d 4) ["thing"] []
  F_are_rows : Fun K "_are_rows" "_are_rows" s_are_rows (f 5) (d 5)
  m_are_rows : mg "_are_rows" = some (.ref (f 5))
  k_are_rows : PySem.W.keepIn K (.ref (f 5)) = true
  b_are_rows : Binds K (d 5) ["thing"] []
  F_Words___len__ : Fun K "__len__" "Words.__len__" s_Words___len__ (f 6) (d 6)
  b_Words___len__ : Binds K (d 6) ["self"] []
  meth_Words___len__ : Meth K (f 200) "__len__" (f 6)
  F_Words___init__ : Fun K "__init__" "Words.__init__" s_Words___init__ (f 7) (d 7)
  b_Words___init__ : Binds K (d 7) ["self", "rows"] []
  mk_Words : Mk K (f 200) (f 7)
  F_law_cell : Fun K "_law_cell" "_law_cell" s_law_cell (f 8) (d 8)
  m_law_cell : mg "_law_cell" = some (.ref (f 8))
  k_law_cell : PySem.W.keepIn K (.ref (f 8)) = true
  b_law_cell : Binds K (d 8) ["_law_script", "_law_k"] []
  F_law_box : Fun K "_law_box" "_law_box" s_law_box (f 9) (d 9)
  m_law_box : mg "_law_box" = some (.ref (f 9))
  k_law_box : PySem.W.keepIn K (.ref (f 9)) = true
  b_law_box : Binds K (d 9) ["_law_cell_here"] []
  F_law_take : Fun K "_law_take" "_law_take" s_law_take (f 10) (d 10)
  m_law_take : mg "_law_take" = some (.ref (f 10))
  k_law_take : PySem.W.keepIn K (.ref (f 10)) = true
  b_law_take : Binds K (d 10) ["_law_box_here", "_law_many"] []
  F_law_names : Fun K "_law_names" "_law_names" s_law_names (f 11) (d 11)
  m_law_names : mg "_law_names" = some (.ref (f 11))
  k_law_names : PySem.W.keepIn K (.ref (f 11)) = true
  b_law_names : Binds K (d 11) ["_law_box_here", "_law_many"] []
  F_law_rows : Fun K "_law_rows" "_law_rows" s_law_rows (f 12) (d 12)
  m_law_rows : mg "_law_rows" = some (.ref (f 12))
  k_law_rows : PySem.W.keepIn K (.ref (f 12)) = true
  b_law_rows : Binds K (d 12) ["_law_box_here"] []
  F_law_is_name : Fun K "_law_is_name" "_law_is_name" s_law_is_name (f 13) (d 13)
  m_law_is_name : mg "_law_is_name" = some (.ref (f 13))
  k_law_is_name : PySem.W.keepIn K (.ref (f 13)) = true
  b_law_is_name : Binds K (d 13) ["_law_thing"] []
  F_law_are_words : Fun K "_law_are_words" "_law_are_words" s_law_are_words (f 14) (d 14)
  m_law_are_words : mg "_law_are_words" = some (.ref (f 14))
  k_law_are_words : PySem.W.keepIn K (.ref (f 14)) = true
  b_law_are_words : Binds K (d 14) ["_law_thing"] []
  F_law_row_otherwise : Fun K "_law_row_otherwise" "_law_row_otherwise" s_law_row_otherwise (f 15) (d 15)
  m_law_row_otherwise : mg "_law_row_otherwise" = some (.ref (f 15))
  k_law_row_otherwise : PySem.W.keepIn K (.ref (f 15)) = true
  b_law_row_otherwise : Binds K (d 15) ["_law_box_here", "_law_rows_here", "_law_row"] []
  F_law_otherwise : Fun K "_law_otherwise" "_law_otherwise" s_law_otherwise (f 16) (d 16)
  m_law_otherwise : mg "_law_otherwise" = some (.ref (f 16))
  k_law_otherwise : PySem.W.keepIn K (.ref (f 16)) = true
  b_law_otherwise : Binds K (d 16) ["_law_box_here", "_law_rows_here"] []
  F_law_caught : Fun K "_law_caught" "_law_caught" s_law_caught (f 17) (d 17)
  m_law_caught : mg "_law_caught" = some (.ref (f 17))
  k_law_caught : PySem.W.keepIn K (.ref (f 17)) = true
  b_law_caught : Binds K (d 17) ["_law_thing"] []
  F_law : Fun K "law" "law" s_law (f 18) (d 18)
  m_law : mg "law" = some (.ref (f 18))
  k_law : PySem.W.keepIn K (.ref (f 18)) = true
  b_law : Binds K (d 18) ["_law_script"] []
  cls_Words : Cls K (f 200)
  tag_Words : O.tag (f 200) = some 1
  one_Words : ∀ C', O.tag C' = some 1 → C' = f 200
  m_Words : mg "Words" = some (.ref (f 200))
  x_NoWords : JgX.XC K (f 300) "ValueError" "ValueError.__new__" "ValueError.__init__" [.type "ValueError", .type "Exception", .type "BaseException", .type "object"]
  y_NoWords : JgX.XFn P K (f 300) (f 301) (d 300) "NoWords.__init__" (defArgs xs_NoWords) (defBody xs_NoWords) (defScope xs_NoWords)
  n_NoWords : PySem.W.findIn K (.ref (f 300)) "found" = some none
  xa_NoWords : JgX.XA K (f 300)
  tag_NoWords : O.etag (f 300) = some 2
  one_NoWords : ∀ C', O.etag C' = some 2 → C' = f 300
  c_NoWords : mg "NoWords" = some (.ref (f 300))
  c_TermError : mg "TermError" = some (.ref (f 310))
  c_Absent : mg "Absent" = some (.ref (f 311))
  exm_NoWords_NoWords : PySem.W.exmOne K (.ref (f 300)) (.ref (f 300)) = some true
  opq : PySem.W.nsIn K cStatics "thirdparty.any" = some none
  z_super : mg "super" = none
  tp : (P.main.scope.names.lookup ("super" : Str)).isSome = false
  z_all : mg "all" = none
  z_bool : mg "bool" = none
  z_dict : mg "dict" = none
  z_enumerate : mg "enumerate" = none
  z_int : mg "int" = none
  z_isinstance : mg "isinstance" = none
  z_len : mg "len" = none
  z_list : mg "list" = none
  z_max : mg "max" = none
  z_min : mg "min" = none
  z_range : mg "range" = none
  z_repr : mg "repr" = none
  z_str : mg "str" = none
  z_tuple : mg "tuple" = none
  flds_Words : O.sh.flds 1 = [Str.ofString "_rows", Str.ofString "_places", Str.ofString "_order", Str.ofString "_ranks"]
  memo_Words : ∀ f, O.sh.memo 1 f = none
  c__SMALL : ∃ t, mg "_SMALL" = some (.str (Str.ofString "abcdefghijklmnopqrstuvwxyz") t)
  c__MOST_NAME : ∃ t, mg "_MOST_NAME" = some (.int 8 t)
  c_MOST_PLACES : ∃ t, mg "MOST_PLACES" = some (.int 4 t)
  c__MOST_WORDS : ∃ t, mg "_MOST_WORDS" = some (.int 12 t)

theorem take_ok {ρ : Rho} {μ : Mu} {Q : D → Mu → Prop} {E : Exn → Mu → Prop} {j n : Nat} {m : Int} (e : μ[j]? = some (.box n)) (h1 : 0 < m) (h2 : m < 2 ^ 120) (h3 : n < 1000000) (h : ∀ z, 0 ≤ z → z < m → Q (.int z) (μ.set j (.box (n + 1)))) :
    ∃ ds2 fl, pass ρ [.num j, .int m] = some (ds2, fl) ∧ (fl = true → ρ.all SV.noIns = true) ∧ sp_law_take ds2 μ (fun d μ2 => (fl = true → d.flat = true ∧ μ2.all M.flat = true) ∧ Q d μ2) (fun e μ2 => fl = false ∧ E e μ2) :=
  q_pass rfl ⟨j, m, n, rfl, h1, h2, h3, e, fun z z0 z1 => ⟨(fun h => nomatch h), h z z0 z1⟩⟩
theorem ob_eq (s : PySem.W.SharedT) : ob s = hk.obs s.abs := JgHd.obsT_eq LO HI fx ad vsx s
theorem fx_at {K : PySem.W.Frag} (c : JgHd.obsJ fx ad K = (true, vsx)) : fx K = true := JgHd.says_fx c
theorem fxc_0 {K : PySem.W.Frag} (c : JgHd.obsJ fx ad K = (true, vsx)) : fx0 K = true := JgHd.all_at (fx_at c) 0
theorem fxc_1 {K : PySem.W.Frag} (c : JgHd.obsJ fx ad K = (true, vsx)) : fx1 K = true := JgHd.all_at (fx_at c) 1
theorem fxc_2 {K : PySem.W.Frag} (c : JgHd.obsJ fx ad K = (true, vsx)) : fx2 K = true := JgHd.all_at (fx_at c) 2
theorem fxc_3 {K : PySem.W.Frag} (c : JgHd.obsJ fx ad K = (true, vsx)) : fx3 K = true := JgHd.all_at (fx_at c) 3
theorem fxc_4 {K : PySem.W.Frag} (c : JgHd.obsJ fx ad K = (true, vsx)) : fx4 K = true := JgHd.all_at (fx_at c) 4
theorem fa_0 {K : PySem.W.Frag} (c : JgHd.obsJ fx ad K = (true, vsx)) : (JgHd.funB K (He.ga K "is_list") "is_list" [] []) = true := JgHd.all_at (fxc_0 c) 0
theorem fa_1 {K : PySem.W.Frag} (c : JgHd.obsJ fx ad K = (true, vsx)) : (JgHd.gloB K "is_list") = true := JgHd.all_at (fxc_0 c) 1
theorem fa_2 {K : PySem.W.Frag} (c : JgHd.obsJ fx ad K = (true, vsx)) : (JgHd.funB K (He.ga K "is_whole") "is_whole" [] []) = true := JgHd.all_at (fxc_0 c) 2
theorem fa_3 {K : PySem.W.Frag} (c : JgHd.obsJ fx ad K = (true, vsx)) : (JgHd.gloB K "is_whole") = true := JgHd.all_at (fxc_0 c) 3
theorem fa_4 {K : PySem.W.Frag} (c : JgHd.obsJ fx ad K = (true, vsx)) : (JgHd.funB K (He.ga K "_consists_of") "_consists_of" [] []) = true := JgHd.all_at (fxc_0 c) 4
theorem fa_5 {K : PySem.W.Frag} (c : JgHd.obsJ fx ad K = (true, vsx)) : (JgHd.gloB K "_consists_of") = true := JgHd.all_at (fxc_0 c) 5
theorem fa_6 {K : PySem.W.Frag} (c : JgHd.obsJ fx ad K = (true, vsx)) : (JgHd.funB K (He.ga K "is_name") "is_name" [] []) = true := JgHd.all_at (fxc_0 c) 6
theorem fa_7 {K : PySem.W.Frag} (c : JgHd.obsJ fx ad K = (true, vsx)) : (JgHd.gloB K "is_name") = true := JgHd.all_at (fxc_0 c) 7
theorem fa_8 {K : PySem.W.Frag} (c : JgHd.obsJ fx ad K = (true, vsx)) : (JgHd.funB K (He.ga K "_is_row") "_is_row" [] []) = true := JgHd.all_at (fxc_0 c) 8
theorem fa_9 {K : PySem.W.Frag} (c : JgHd.obsJ fx ad K = (true, vsx)) : (JgHd.gloB K "_is_row") = true := JgHd.all_at (fxc_0 c) 9
theorem fa_10 {K : PySem.W.Frag} (c : JgHd.obsJ fx ad K = (true, vsx)) : (JgHd.funB K (He.ga K "_are_rows") "_are_rows" [] []) = true := JgHd.all_at (fxc_0 c) 10
theorem fa_11 {K : PySem.W.Frag} (c : JgHd.obsJ fx ad K = (true, vsx)) : (JgHd.gloB K "_are_rows") = true := JgHd.all_at (fxc_0 c) 11
theorem fa_12 {K : PySem.W.Frag} (c : JgHd.obsJ fx ad K = (true, vsx)) : (JgHd.funB K (He.ma K (He.ga K "Words") "__len__") "Words.__len__" [] []) = true := JgHd.all_at (fxc_0 c) 12
theorem fa_13 {K : PySem.W.Frag} (c : JgHd.obsJ fx ad K = (true, vsx)) : ((He.Fa.meth "Words" "__len__").ok K) = true := JgHd.all_at (fxc_0 c) 13
theorem fa_14 {K : PySem.W.Frag} (c : JgHd.obsJ fx ad K = (true, vsx)) : (JgHd.funB K (He.ma K (He.ga K "Words") "__init__") "Words.__init__" [] []) = true := JgHd.all_at (fxc_0 c) 14
theorem fa_15 {K : PySem.W.Frag} (c : JgHd.obsJ fx ad K = (true, vsx)) : ((He.Fa.mkr "Words").ok K) = true := JgHd.all_at (fxc_0 c) 15
theorem fa_16 {K : PySem.W.Frag} (c : JgHd.obsJ fx ad K = (true, vsx)) : (JgHd.funB K (He.ga K "_law_cell") "_law_cell" [] []) = true := JgHd.all_at (fxc_1 c) 0
theorem fa_17 {K : PySem.W.Frag} (c : JgHd.obsJ fx ad K = (true, vsx)) : (JgHd.gloB K "_law_cell") = true := JgHd.all_at (fxc_1 c) 1
theorem fa_18 {K : PySem.W.Frag} (c : JgHd.obsJ fx ad K = (true, vsx)) : (JgHd.funB K (He.ga K "_law_box") "_law_box" [] []) = true := JgHd.all_at (fxc_1 c) 2
theorem fa_19 {K : PySem.W.Frag} (c : JgHd.obsJ fx ad K = (true, vsx)) : (JgHd.gloB K "_law_box") = true := JgHd.all_at (fxc_1 c) 3
theorem fa_20 {K : PySem.W.Frag} (c : JgHd.obsJ fx ad K = (true, vsx)) : (JgHd.funB K (He.ga K "_law_take") "_law_take" [] []) = true := JgHd.all_at (fxc_1 c) 4
theorem fa_21 {K : PySem.W.Frag} (c : JgHd.obsJ fx ad K = (true, vsx)) : (JgHd.gloB K "_law_take") = true := JgHd.all_at (fxc_1 c) 5
theorem fa_22 {K : PySem.W.Frag} (c : JgHd.obsJ fx ad K = (true, vsx)) : (JgHd.funB K (He.ga K "_law_names") "_law_names" [] []) = true := JgHd.all_at (fxc_1 c) 6
theorem fa_23 {K : PySem.W.Frag} (c : JgHd.obsJ fx ad K = (true, vsx)) : (JgHd.gloB K "_law_names") = true := JgHd.all_at (fxc_1 c) 7
theorem fa_24 {K : PySem.W.Frag} (c : JgHd.obsJ fx ad K = (true, vsx)) : (JgHd.funB K (He.ga K "_law_rows") "_law_rows" [] []) = true := JgHd.all_at (fxc_1 c) 8
theorem fa_25 {K : PySem.W.Frag} (c : JgHd.obsJ fx ad K = (true, vsx)) : (JgHd.gloB K "_law_rows") = true := JgHd.all_at (fxc_1 c) 9
theorem fa_26 {K : PySem.W.Frag} (c : JgHd.obsJ fx ad K = (true, vsx)) : (JgHd.funB K (He.ga K "_law_is_name") "_law_is_name" [] []) = true := JgHd.all_at (fxc_1 c) 10
theorem fa_27 {K : PySem.W.Frag} (c : JgHd.obsJ fx ad K = (true, vsx)) : (JgHd.gloB K "_law_is_name") = true := JgHd.all_at (fxc_1 c) 11
theorem fa_28 {K : PySem.W.Frag} (c : JgHd.obsJ fx ad K = (true, vsx)) : (JgHd.funB K (He.ga K "_law_are_words") "_law_are_words" [] []) = true := JgHd.all_at (fxc_1 c) 12
theorem fa_29 {K : PySem.W.Frag} (c : JgHd.obsJ fx ad K = (true, vsx)) : (JgHd.gloB K "_law_are_words") = true := JgHd.all_at (fxc_1 c) 13
theorem fa_30 {K : PySem.W.Frag} (c : JgHd.obsJ fx ad K = (true, vsx)) : (JgHd.funB K (He.ga K "_law_row_otherwise") "_law_row_otherwise" [] []) = true := JgHd.all_at (fxc_1 c) 14
theorem fa_31 {K : PySem.W.Frag} (c : JgHd.obsJ fx ad K = (true, vsx)) : (JgHd.gloB K "_law_row_otherwise") = true := JgHd.all_at (fxc_1 c) 15
theorem fa_32 {K : PySem.W.Frag} (c : JgHd.obsJ fx ad K = (true, vsx)) : (JgHd.funB K (He.ga K "_law_otherwise") "_law_otherwise" [] []) = true := JgHd.all_at (fxc_2 c) 0
theorem fa_33 {K : PySem.W.Frag} (c : JgHd.obsJ fx ad K = (true, vsx)) : (JgHd.gloB K "_law_otherwise") = true := JgHd.all_at (fxc_2 c) 1
theorem fa_34 {K : PySem.W.Frag} (c : JgHd.obsJ fx ad K = (true, vsx)) : (JgHd.funB K (He.ga K "_law_caught") "_law_caught" [] []) = true := JgHd.all_at (fxc_2 c) 2
theorem fa_35 {K : PySem.W.Frag} (c : JgHd.obsJ fx ad K = (true, vsx)) : (JgHd.gloB K "_law_caught") = true := JgHd.all_at (fxc_2 c) 3
theorem fa_36 {K : PySem.W.Frag} (c : JgHd.obsJ fx ad K = (true, vsx)) : (JgHd.funB K (He.ga K "law") "law" [] []) = true := JgHd.all_at (fxc_2 c) 4
theorem fa_37 {K : PySem.W.Frag} (c : JgHd.obsJ fx ad K = (true, vsx)) : (JgHd.gloB K "law") = true := JgHd.all_at (fxc_2 c) 5
theorem fa_38 {K : PySem.W.Frag} (c : JgHd.obsJ fx ad K = (true, vsx)) : (JgHd.takB K) = true := JgHd.all_at (fxc_2 c) 6
theorem fa_39 {K : PySem.W.Frag} (c : JgHd.obsJ fx ad K = (true, vsx)) : (JgHd.gloB K "Words") = true := JgHd.all_at (fxc_2 c) 7
theorem fa_40 {K : PySem.W.Frag} (c : JgHd.obsJ fx ad K = (true, vsx)) : (JgHd.ctB K "NoWords" "ValueError.__new__" "ValueError.__init__" "ValueError" [.type "ValueError", .type "Exception", .type "BaseException", .type "object"] "found" "NoWords.__init__" FILE) = true := JgHd.all_at (fxc_2 c) 8
theorem fa_41 {K : PySem.W.Frag} (c : JgHd.obsJ fx ad K = (true, vsx)) : (JgHd.gloB K "TermError") = true := JgHd.all_at (fxc_2 c) 9
theorem fa_42 {K : PySem.W.Frag} (c : JgHd.obsJ fx ad K = (true, vsx)) : (JgHd.gloB K "Absent") = true := JgHd.all_at (fxc_2 c) 10
theorem fa_43 {K : PySem.W.Frag} (c : JgHd.obsJ fx ad K = (true, vsx)) : ((He.Fa.exm "NoWords" "NoWords" true).ok K) = true := JgHd.all_at (fxc_2 c) 11
theorem fa_44 {K : PySem.W.Frag} (c : JgHd.obsJ fx ad K = (true, vsx)) : (JgHd.isB (PySem.W.nsIn K cStatics "thirdparty.any") (some none)) = true := JgHd.all_at (fxc_2 c) 12
theorem fa_45 {K : PySem.W.Frag} (c : JgHd.obsJ fx ad K = (true, vsx)) : (JgHd.freeB K "super") = true := JgHd.all_at (fxc_2 c) 13
theorem fa_46 {K : PySem.W.Frag} (c : JgHd.obsJ fx ad K = (true, vsx)) : (JgHd.freeB K "all") = true := JgHd.all_at (fxc_2 c) 14
theorem fa_47 {K : PySem.W.Frag} (c : JgHd.obsJ fx ad K = (true, vsx)) : (JgHd.freeB K "bool") = true := JgHd.all_at (fxc_2 c) 15
theorem fa_48 {K : PySem.W.Frag} (c : JgHd.obsJ fx ad K = (true, vsx)) : (JgHd.freeB K "dict") = true := JgHd.all_at (fxc_3 c) 0
theorem fa_49 {K : PySem.W.Frag} (c : JgHd.obsJ fx ad K = (true, vsx)) : (JgHd.freeB K "enumerate") = true := JgHd.all_at (fxc_3 c) 1
theorem fa_50 {K : PySem.W.Frag} (c : JgHd.obsJ fx ad K = (true, vsx)) : (JgHd.freeB K "int") = true := JgHd.all_at (fxc_3 c) 2
theorem fa_51 {K : PySem.W.Frag} (c : JgHd.obsJ fx ad K = (true, vsx)) : (JgHd.freeB K "isinstance") = true := JgHd.all_at (fxc_3 c) 3
theorem fa_52 {K : PySem.W.Frag} (c : JgHd.obsJ fx ad K = (true, vsx)) : (JgHd.freeB K "len") = true := JgHd.all_at (fxc_3 c) 4
theorem fa_53 {K : PySem.W.Frag} (c : JgHd.obsJ fx ad K = (true, vsx)) : (JgHd.freeB K "list") = true := JgHd.all_at (fxc_3 c) 5
theorem fa_54 {K : PySem.W.Frag} (c : JgHd.obsJ fx ad K = (true, vsx)) : (JgHd.freeB K "max") = true := JgHd.all_at (fxc_3 c) 6
theorem fa_55 {K : PySem.W.Frag} (c : JgHd.obsJ fx ad K = (true, vsx)) : (JgHd.freeB K "min") = true := JgHd.all_at (fxc_3 c) 7
theorem fa_56 {K : PySem.W.Frag} (c : JgHd.obsJ fx ad K = (true, vsx)) : (JgHd.freeB K "range") = true := JgHd.all_at (fxc_3 c) 8
theorem fa_57 {K : PySem.W.Frag} (c : JgHd.obsJ fx ad K = (true, vsx)) : (JgHd.freeB K "repr") = true := JgHd.all_at (fxc_3 c) 9
theorem fa_58 {K : PySem.W.Frag} (c : JgHd.obsJ fx ad K = (true, vsx)) : (JgHd.freeB K "str") = true := JgHd.all_at (fxc_3 c) 10
theorem fa_59 {K : PySem.W.Frag} (c : JgHd.obsJ fx ad K = (true, vsx)) : (JgHd.freeB K "tuple") = true := JgHd.all_at (fxc_3 c) 11
theorem fa_60 {K : PySem.W.Frag} (c : JgHd.obsJ fx ad K = (true, vsx)) : ((He.Fa.str "_SMALL" "abcdefghijklmnopqrstuvwxyz").ok K) = true := JgHd.all_at (fxc_3 c) 12
theorem fa_61 {K : PySem.W.Frag} (c : JgHd.obsJ fx ad K = (true, vsx)) : ((He.Fa.int "_MOST_NAME" (8)).ok K) = true := JgHd.all_at (fxc_3 c) 13
theorem fa_62 {K : PySem.W.Frag} (c : JgHd.obsJ fx ad K = (true, vsx)) : ((He.Fa.int "MOST_PLACES" (4)).ok K) = true := JgHd.all_at (fxc_3 c) 14
theorem fa_63 {K : PySem.W.Frag} (c : JgHd.obsJ fx ad K = (true, vsx)) : ((He.Fa.int "_MOST_WORDS" (12)).ok K) = true := JgHd.all_at (fxc_3 c) 15
theorem fa_64 {K : PySem.W.Frag} (c : JgHd.obsJ fx ad K = (true, vsx)) : (decide ((([(He.ga K "Words", 1)] : List (Addr × Nat)).map (·.1)).Nodup)) = true := JgHd.all_at (fxc_4 c) 0
theorem fa_65 {K : PySem.W.Frag} (c : JgHd.obsJ fx ad K = (true, vsx)) : (decide ((([(He.ga K "NoWords", 2)] : List (Addr × Nat)).map (·.1)).Nodup)) = true := JgHd.all_at (fxc_4 c) 1
theorem fa_66 {K : PySem.W.Frag} (c : JgHd.obsJ fx ad K = (true, vsx)) : (JgHd.kitsB K [(He.ga K "Words", 1)]) = true := JgHd.all_at (fxc_4 c) 2
theorem fa_67 {K : PySem.W.Frag} (c : JgHd.obsJ fx ad K = (true, vsx)) : (JgHd.insB K "Words") = true := JgHd.all_at (fxc_4 c) 3
theorem fa_68 {K : PySem.W.Frag} (c : JgHd.obsJ fx ad K = (true, vsx)) : (JgHd.noatB K (He.ga K "Words") ["_rows", "_places", "_order", "_ranks"]) = true := JgHd.all_at (fxc_4 c) 4
theorem fa_69 {K : PySem.W.Frag} (c : JgHd.obsJ fx ad K = (true, vsx)) : ((K.lookup sysModules).isSome) = true := JgHd.all_at (fxc_4 c) 5
theorem says_0 {K : PySem.W.Frag} (c : JgHd.obsJ fx ad K = (true, vsx)) : JgHd.fnV K (He.ga K "is_list") = JgHd.textV "is_list" "is_list" (defArgs s_is_list) (defBody s_is_list) (defScope s_is_list) [] := JgHd.says_fn c 0
theorem says_1 {K : PySem.W.Frag} (c : JgHd.obsJ fx ad K = (true, vsx)) : JgHd.fnV K (He.ga K "is_whole") = JgHd.textV "is_whole" "is_whole" (defArgs s_is_whole) (defBody s_is_whole) (defScope s_is_whole) [] := JgHd.says_fn c 1
theorem says_2 {K : PySem.W.Frag} (c : JgHd.obsJ fx ad K = (true, vsx)) : JgHd.fnV K (He.ga K "_consists_of") = JgHd.textV "_consists_of" "_consists_of" (defArgs s_consists_of) (defBody s_consists_of) (defScope s_consists_of) [] := JgHd.says_fn c 2
theorem says_3 {K : PySem.W.Frag} (c : JgHd.obsJ fx ad K = (true, vsx)) : JgHd.fnV K (He.ga K "is_name") = JgHd.textV "is_name" "is_name" (defArgs s_is_name) (defBody s_is_name) (defScope s_is_name) [] := JgHd.says_fn c 3
theorem says_4 {K : PySem.W.Frag} (c : JgHd.obsJ fx ad K = (true, vsx)) : JgHd.fnV K (He.ga K "_is_row") = JgHd.textV "_is_row" "_is_row" (defArgs s_is_row) (defBody s_is_row) (defScope s_is_row) [] := JgHd.says_fn c 4
theorem says_5 {K : PySem.W.Frag} (c : JgHd.obsJ fx ad K = (true, vsx)) : JgHd.fnV K (He.ga K "_are_rows") = JgHd.textV "_are_rows" "_are_rows" (defArgs s_are_rows) (defBody s_are_rows) (defScope s_are_rows) [] := JgHd.says_fn c 5
theorem says_6 {K : PySem.W.Frag} (c : JgHd.obsJ fx ad K = (true, vsx)) : JgHd.fnV K (He.ma K (He.ga K "Words") "__len__") = JgHd.textV "__len__" "Words.__len__" (defArgs s_Words___len__) (defBody s_Words___len__) (defScope s_Words___len__) [] := JgHd.says_fn c 6
theorem says_7 {K : PySem.W.Frag} (c : JgHd.obsJ fx ad K = (true, vsx)) : JgHd.fnV K (He.ma K (He.ga K "Words") "__init__") = JgHd.textV "__init__" "Words.__init__" (defArgs s_Words___init__) (defBody s_Words___init__) (defScope s_Words___init__) [] := JgHd.says_fn c 7
theorem says_8 {K : PySem.W.Frag} (c : JgHd.obsJ fx ad K = (true, vsx)) : JgHd.fnV K (He.ga K "_law_cell") = JgHd.textV "_law_cell" "_law_cell" (defArgs s_law_cell) (defBody s_law_cell) (defScope s_law_cell) [] := JgHd.says_fn c 8
theorem says_9 {K : PySem.W.Frag} (c : JgHd.obsJ fx ad K = (true, vsx)) : JgHd.fnV K (He.ga K "_law_box") = JgHd.textV "_law_box" "_law_box" (defArgs s_law_box) (defBody s_law_box) (defScope s_law_box) [] := JgHd.says_fn c 9
theorem says_10 {K : PySem.W.Frag} (c : JgHd.obsJ fx ad K = (true, vsx)) : JgHd.fnV K (He.ga K "_law_take") = JgHd.textV "_law_take" "_law_take" (defArgs s_law_take) (defBody s_law_take) (defScope s_law_take) [] := JgHd.says_fn c 10
theorem says_11 {K : PySem.W.Frag} (c : JgHd.obsJ fx ad K = (true, vsx)) : JgHd.fnV K (He.ga K "_law_names") = JgHd.textV "_law_names" "_law_names" (defArgs s_law_names) (defBody s_law_names) (defScope s_law_names) [] := JgHd.says_fn c 11
theorem says_12 {K : PySem.W.Frag} (c : JgHd.obsJ fx ad K = (true, vsx)) : JgHd.fnV K (He.ga K "_law_rows") = JgHd.textV "_law_rows" "_law_rows" (defArgs s_law_rows) (defBody s_law_rows) (defScope s_law_rows) [] := JgHd.says_fn c 12
theorem says_13 {K : PySem.W.Frag} (c : JgHd.obsJ fx ad K = (true, vsx)) : JgHd.fnV K (He.ga K "_law_is_name") = JgHd.textV "_law_is_name" "_law_is_name" (defArgs s_law_is_name) (defBody s_law_is_name) (defScope s_law_is_name) [] := JgHd.says_fn c 13
theorem says_14 {K : PySem.W.Frag} (c : JgHd.obsJ fx ad K = (true, vsx)) : JgHd.fnV K (He.ga K "_law_are_words") = JgHd.textV "_law_are_words" "_law_are_words" (defArgs s_law_are_words) (defBody s_law_are_words) (defScope s_law_are_words) [] := JgHd.says_fn c 14
theorem says_15 {K : PySem.W.Frag} (c : JgHd.obsJ fx ad K = (true, vsx)) : JgHd.fnV K (He.ga K "_law_row_otherwise") = JgHd.textV "_law_row_otherwise" "_law_row_otherwise" (defArgs s_law_row_otherwise) (defBody s_law_row_otherwise) (defScope s_law_row_otherwise) [] := JgHd.says_fn c 15
theorem says_16 {K : PySem.W.Frag} (c : JgHd.obsJ fx ad K = (true, vsx)) : JgHd.fnV K (He.ga K "_law_otherwise") = JgHd.textV "_law_otherwise" "_law_otherwise" (defArgs s_law_otherwise) (defBody s_law_otherwise) (defScope s_law_otherwise) [] := JgHd.says_fn c 16
theorem says_17 {K : PySem.W.Frag} (c : JgHd.obsJ fx ad K = (true, vsx)) : JgHd.fnV K (He.ga K "_law_caught") = JgHd.textV "_law_caught" "_law_caught" (defArgs s_law_caught) (defBody s_law_caught) (defScope s_law_caught) [] := JgHd.says_fn c 17
theorem says_18 {K : PySem.W.Frag} (c : JgHd.obsJ fx ad K = (true, vsx)) : JgHd.fnV K (He.ga K "law") = JgHd.textV "law" "law" (defArgs s_law) (defBody s_law) (defScope s_law) [] := JgHd.says_fn c 18
theorem says_19 {K : PySem.W.Frag} (c : JgHd.obsJ fx ad K = (true, vsx)) : JgHd.fnV K (He.ma K (He.ga K "NoWords") "__init__") = JgHd.textV "__init__" "NoWords.__init__" (defArgs xs_NoWords) (defBody xs_NoWords) (defScope xs_NoWords) ["__class__"] := JgHd.says_fn c 19
section
variable {O : Objs} {P : Program} {w : World} {K : PySem.W.Frag} {mg : Str → Option Value} {base : Heap} {f : Nat → Addr} {d : Nat → FuncData}
theorem ok_is_list (T : Txt O P K mg f d) : FnD O P w K mg base 1 (f 0) (d 0) ["thing", "low", "high"] sp_is_list := by
  refine fnD_by T.F_is_list sc_is_list (fun ds μ Φ Ψ h => ?_) ⟨_, fun fm W cdv A outer s H E hr gua tk po => (pds_one (pds_ret (pd_and (pd_fn (callr_isi (B := ⟨O, K, fm, W⟩)) (calls_isi (B := ⟨O, K, fm, W⟩) (sh := O.sh) T.kit rfl) (by rfl) T.z_isinstance (by decide +kernel) (pda_cons (pd_name (i := 0) rfl (by first | exact Or.inl rfl | exact Or.inr (Or.inl rfl) | exact Or.inr (Or.inr rfl))) (pda_cons (pd_tup (pda_cons (pd_bt (T := "list") (by rfl) T.z_list (by decide +kernel)) (pda_cons (pd_bt (T := "tuple") (by rfl) T.z_tuple (by decide +kernel)) pda_nil))) pda_nil))) (pd_one (pd_chain op_le op_le ops_le ops_le (pd_name (i := 1) rfl (by first | exact Or.inl rfl | exact Or.inr (Or.inl rfl) | exact Or.inr (Or.inr rfl))) (pd_fn callr_len calls_len (by rfl) T.z_len (by decide +kernel) (pda_cons (pd_name (i := 0) rfl (by first | exact Or.inl rfl | exact Or.inr (Or.inl rfl) | exact Or.inr (Or.inr rfl))) pda_nil)) (pd_name (i := 2) rfl (by first | exact Or.inl rfl | exact Or.inr (Or.inl rfl) | exact Or.inr (Or.inr rfl)))))))), fun ds μ Φ Ψ kp h => ?_⟩
  · obtain ⟨t, x, lo, hi, rfl, th, q⟩ := h
    rfl
  · obtain ⟨t, x, lo, hi, rfl, th, q⟩ := h
    refine start_at (ρ := [.val _, .val _, .val _]) rfl ?_
    walk_at "dgo3"
    refine q_isD2 th (by decide) (by decide) fun a ha => ?_
    walk_at "dgo3"
    cases x with
    | lst xs =>
      cases ha
      refine q_t ?_
      walk_at "dgo3"
      refine q_lenL (fun z e => by subst e; cases th.lk) th.seq ?_
      walk_at "dgo3"
      refine q_cm (fun h => ?_) (fun h => ?_)
      · walk_at "dgo3"
        unfold listB at q
        dsimp only at q
        rw [h, Bool.true_and] at q
        exact q
      · walk_at "dgo3"
        unfold listB at q
        dsimp only at q
        rw [h, Bool.false_and] at q
        exact q
    | tup xs =>
      cases ha
      refine q_t ?_
      walk_at "dgo3"
      refine q_lenL (fun z e => by subst e; cases th.lk) th.seq ?_
      walk_at "dgo3"
      refine q_cm (fun h => ?_) (fun h => ?_)
      · walk_at "dgo3"
        unfold listB at q
        dsimp only at q
        rw [h, Bool.true_and] at q
        exact q
      · walk_at "dgo3"
        unfold listB at q
        dsimp only at q
        rw [h, Bool.false_and] at q
        exact q
    | _ => cases ha <;> (refine q_f ?_; walk_at "dgo3"; exact q)
end
section
variable {O : Objs} {P : Program} {w : World} {K : PySem.W.Frag} {mg : Str → Option Value} {base : Heap} {f : Nat → Addr} {d : Nat → FuncData}
theorem ok_is_whole (T : Txt O P K mg f d) : FnD O P w K mg base 1 (f 1) (d 1) ["thing", "low", "high"] sp_is_whole := by
  refine fnD_by T.F_is_whole sc_is_whole (fun ds μ Φ Ψ h => ?_) ⟨_, fun fm W cdv A outer s H E hr gua tk po => (pds_one (pds_ret (pd_and (pd_fn (callr_isi (B := ⟨O, K, fm, W⟩)) (calls_isi (B := ⟨O, K, fm, W⟩) (sh := O.sh) T.kit rfl) (by rfl) T.z_isinstance (by decide +kernel) (pda_cons (pd_name (i := 0) rfl (by first | exact Or.inl rfl | exact Or.inr (Or.inl rfl) | exact Or.inr (Or.inr rfl))) (pda_cons (pd_bt (T := "int") (by rfl) T.z_int (by decide +kernel)) pda_nil))) (pd_and (pd_not (pd_fn (callr_isi (B := ⟨O, K, fm, W⟩)) (calls_isi (B := ⟨O, K, fm, W⟩) (sh := O.sh) T.kit rfl) (by rfl) T.z_isinstance (by decide +kernel) (pda_cons (pd_name (i := 0) rfl (by first | exact Or.inl rfl | exact Or.inr (Or.inl rfl) | exact Or.inr (Or.inr rfl))) (pda_cons (pd_bt (T := "bool") (by rfl) T.z_bool (by decide +kernel)) pda_nil)))) (pd_one (pd_chain op_le op_le ops_le ops_le (pd_name (i := 1) rfl (by first | exact Or.inl rfl | exact Or.inr (Or.inl rfl) | exact Or.inr (Or.inr rfl))) (pd_name (i := 0) rfl (by first | exact Or.inl rfl | exact Or.inr (Or.inl rfl) | exact Or.inr (Or.inr rfl))) (pd_name (i := 2) rfl (by first | exact Or.inl rfl | exact Or.inr (Or.inl rfl) | exact Or.inr (Or.inr rfl))))))))), fun ds μ Φ Ψ kp h => ?_⟩
  · obtain ⟨t, x, lo, hi, rfl, th, q⟩ := h
    rfl
  · obtain ⟨t, x, lo, hi, rfl, th, q⟩ := h
    refine start_at (ρ := [.val _, .val _, .val _]) rfl ?_
    walk_at "dgo3"
    refine q_isD th (by decide) fun a ha => ?_
    walk_at "dgo3"
    cases x with
    | int i =>
      cases ha
      obtain rfl := th.int
      refine q_t ?_
      walk_at "dgo3"
      refine q_isD th (by decide) fun a ha => ?_
      walk_at "dgo3"
      cases ha
      refine q_t ?_
      walk_at "dgo3"
      refine q_cm (fun h => ?_) (fun h => ?_)
      · walk_at "dgo3"
        unfold wholeT at q
        dsimp only at q
        rw [h, Bool.true_and] at q
        exact q
      · walk_at "dgo3"
        unfold wholeT at q
        dsimp only at q
        rw [h, Bool.false_and] at q
        exact q
    | bl b =>
      cases ha
      refine q_t ?_
      walk_at "dgo3"
      refine q_isD th (by decide) fun a ha => ?_
      walk_at "dgo3"
      cases ha
      refine q_f ?_
      walk_at "dgo3"
      exact q
    | _ => cases ha <;> (refine q_f ?_; walk_at "dgo3"; exact q)
end
section
variable {O : Objs} {P : Program} {w : World} {K : PySem.W.Frag} {mg : Str → Option Value} {base : Heap} {f : Nat → Addr} {d : Nat → FuncData}
theorem ok_consists_of (T : Txt O P K mg f d) : FnD O P w K mg base 1 (f 2) (d 2) ["text", "marks"] sp_consists_of := by
  refine fnD_by T.F_consists_of sc_consists_of (fun ds μ Φ Ψ h => ?_) ⟨_, fun fm W cdv A outer s H E hr gua tk po => (pds_one (pds_ret (pd_cmp (opr_eq hr.units) ops_eq (pd_bm PySem.F.plainAttrs_str PySem.F.slot_str_strip PySem.F.type_str_strip mt_stripChars mts_strip (pd_name (i := 0) rfl (by first | exact Or.inl rfl | exact Or.inr (Or.inl rfl) | exact Or.inr (Or.inr rfl))) (pda_cons (pd_name (i := 1) rfl (by first | exact Or.inl rfl | exact Or.inr (Or.inl rfl) | exact Or.inr (Or.inr rfl))) pda_nil)) pd_str (nomark _)))), fun ds μ Φ Ψ kp h => ?_⟩
  · obtain ⟨z, m, rfl, hz, q⟩ := h
    rfl
  · obtain ⟨z, m, rfl, hz, q⟩ := h
    refine start_at (ρ := [.val _, .val _]) rfl ?_
    walk_at "dgo7"
    refine q_strip (Nat.le_trans hz (by decide)) ?_
    walk_at "dgo7"
    rw [Jg.strip_eq (by rfl)]
    exact q
end
section
variable {O : Objs} {P : Program} {w : World} {K : PySem.W.Frag} {mg : Str → Option Value} {base : Heap} {f : Nat → Addr} {d : Nat → FuncData}
theorem ok_is_name (T : Txt O P K mg f d) : FnD O P w K mg base 2 (f 3) (d 3) ["thing"] sp_is_name := by
  refine fnD_by T.F_is_name sc_is_name (fun ds μ Φ Ψ h => ?_) ⟨_, fun fm W cdv A outer s H E hr gua tk po => (pds_one (pds_ret (pd_and (pd_fn (callr_isi (B := ⟨O, K, fm, W⟩)) (calls_isi (B := ⟨O, K, fm, W⟩) (sh := O.sh) T.kit rfl) (by rfl) T.z_isinstance (by decide +kernel) (pda_cons (pd_name (i := 0) rfl (by first | exact Or.inl rfl | exact Or.inr (Or.inl rfl) | exact Or.inr (Or.inr rfl))) (pda_cons (pd_bt (T := "str") (by rfl) T.z_str (by decide +kernel)) pda_nil))) (pd_and (pd_chain op_le op_le ops_le ops_le pd_int (pd_fn callr_len calls_len (by rfl) T.z_len (by decide +kernel) (pda_cons (pd_name (i := 0) rfl (by first | exact Or.inl rfl | exact Or.inr (Or.inl rfl) | exact Or.inr (Or.inr rfl))) pda_nil)) (pd_globI (by rfl) T.c__MOST_NAME)) (pd_one (pd_call (ok_consists_of T) (hr.mono (by decide)) gua tk rfl T.m_consists_of T.k_consists_of T.b_consists_of (pda_cons (pd_name (i := 0) rfl (by first | exact Or.inl rfl | exact Or.inr (Or.inl rfl) | exact Or.inr (Or.inr rfl))) (pda_cons (pd_globS (by rfl) T.c__SMALL) pda_nil)))))))), fun ds μ Φ Ψ kp h => ?_⟩
  · obtain ⟨t, x, rfl, th, sh, q⟩ := h
    rfl
  · obtain ⟨t, x, rfl, th, sh, q⟩ := h
    refine start_at (ρ := [.val _]) rfl ?_
    walk_at "dgo3"
    refine q_isD th (by decide) fun a ha => ?_
    walk_at "dgo3"
    cases x with
    | str z =>
      cases ha
      obtain rfl := th.str
      have hz : z.length ≤ 2000 := sh
      have q1 : Φ (.bl (nameQ z)) μ := q
      unfold nameQ at q1
      refine q_t ?_
      walk_at "dgo3"
      refine q_lenS (Nat.le_trans hz (by decide)) ?_
      walk_at "dgo3"
      refine q_cm (fun h => ?_) (fun h => ?_)
      · walk_at "dgo3"
        refine q_two (fun h2 => ?_) (fun h2 => ?_)
        · walk_at "dgo3"
          refine q_pass rfl ⟨z, _, rfl, hz, ?_⟩
          walk_at "dgo3"
          have e1 : decide (1 ≤ z.length) = true := by
            rw [decide_eq_true_iff] at h ⊢
            omega
          have e2 : decide (z.length ≤ 8) = true := by
            rw [decide_eq_true_iff]
            omega
          rw [e1, e2, Bool.and_self, Bool.true_and] at q1
          have ea : ((TL.tl z).all fun c => decide (c ∈ (Str.ofString "abcdefghijklmnopqrstuvwxyz").cps.toList)) = (TL.tl z).all fun c => decide (97 ≤ c) && decide (c ≤ 122) := by
            congr 1
            funext c
            exact smalls c
          rw [ea]
          exact q1
        · walk_at "dgo3"
          have e2 : decide (z.length ≤ 8) = false := by
            rw [decide_eq_false_iff_not]
            omega
          rw [e2, Bool.and_false, Bool.false_and] at q1
          exact q1
      · walk_at "dgo3"
        have e1 : decide (1 ≤ z.length) = false := by
          rw [decide_eq_false_iff_not] at h ⊢
          omega
        rw [e1, Bool.false_and, Bool.false_and] at q1
        exact q1
    | _ => cases ha <;> (refine q_f ?_; walk_at "dgo3"; exact q)
end
section
variable {O : Objs} {P : Program} {w : World} {K : PySem.W.Frag} {mg : Str → Option Value} {base : Heap} {f : Nat → Addr} {d : Nat → FuncData}
theorem ok_is_row (T : Txt O P K mg f d) : FnD O P w K mg base 3 (f 4) (d 4) ["thing"] sp_is_row := by
  refine fnD_by T.F_is_row sc_is_row (fun ds μ Φ Ψ h => ?_) ⟨_, fun fm W cdv A outer s H E hr gua tk po => (pds_one (pds_ret (pd_and (pd_fn (callr_isi (B := ⟨O, K, fm, W⟩)) (calls_isi (B := ⟨O, K, fm, W⟩) (sh := O.sh) T.kit rfl) (by rfl) T.z_isinstance (by decide +kernel) (pda_cons (pd_name (i := 0) rfl (by first | exact Or.inl rfl | exact Or.inr (Or.inl rfl) | exact Or.inr (Or.inr rfl))) (pda_cons (pd_bt (T := "tuple") (by rfl) T.z_tuple (by decide +kernel)) pda_nil))) (pd_and (pd_cmp (opr_eq hr.units) ops_eq (pd_fn callr_len calls_len (by rfl) T.z_len (by decide +kernel) (pda_cons (pd_name (i := 0) rfl (by first | exact Or.inl rfl | exact Or.inr (Or.inl rfl) | exact Or.inr (Or.inr rfl))) pda_nil)) pd_int (nomark _)) (pd_and (pd_call (ok_is_name T) (hr.mono (by decide)) gua tk rfl T.m_is_name T.k_is_name T.b_is_name (pda_cons (pd_ix (hu_of hr) (pd_name (i := 0) rfl (by first | exact Or.inl rfl | exact Or.inr (Or.inl rfl) | exact Or.inr (Or.inr rfl))) pd_int (fun _ _ => rfl)) pda_nil)) (pd_one (pd_call (ok_is_whole T) (hr.mono (by decide)) gua tk rfl T.m_is_whole T.k_is_whole T.b_is_whole (pda_cons (pd_ix (hu_of hr) (pd_name (i := 0) rfl (by first | exact Or.inl rfl | exact Or.inr (Or.inl rfl) | exact Or.inr (Or.inr rfl))) pd_int (fun _ _ => rfl)) (pda_cons pd_int (pda_cons (pd_globI (by rfl) T.c_MOST_PLACES) pda_nil)))))))))), fun ds μ Φ Ψ kp h => ?_⟩
  · obtain ⟨t, x, rfl, th, el, q⟩ := h
    rfl
  · obtain ⟨t, x, rfl, th, el, q⟩ := h
    refine start_at (ρ := [.val _]) rfl ?_
    walk_at "dgo3"
    refine q_isD th (by decide) fun a ha => ?_
    walk_at "dgo3"
    cases x with
    | tup xs =>
      cases ha
      obtain rfl := th.tup
      refine q_t ?_
      walk_at "dgo3"
      refine q_lenL (fun z e => nomatch e) rfl ?_
      walk_at "dgo3"
      refine q_two (fun h => ?_) (fun h => ?_)
      · obtain ⟨a, b, rfl⟩ : ∃ a b, xs = [a, b] := by
          match xs, h with
          | [a, b], _ => exact ⟨a, b, rfl⟩
          | [], h => simp at h
          | [a], h => simp at h
          | a :: b :: c :: r, h => simp at h; omega
        obtain ⟨tha, sa⟩ := el.th (μ := μ) rfl (y := a) (by simp)
        obtain ⟨thb, sb⟩ := el.th (μ := μ) rfl (y := b) (by simp)
        walk_at "dgo3"
        refine q_ixL (fun z e => nomatch e) rfl (x := a) rfl ?_
        walk_at "dgo3"
        refine q_pass (pass_one tha.kp) ⟨a, a, rfl, tha, sa, ?_⟩
        walk_at "dgo3"
        refine q_br (fun ea => ?_) (fun ea => ?_)
        · walk_at "dgo3"
          refine q_ixL (fun z e => nomatch e) rfl (x := b) rfl ?_
          walk_at "dgo3"
          refine q_pass (pass_three thb.kp) ⟨b, b, 0, 4, rfl, thb, ?_⟩
          walk_at "dgo3"
          have e : rowB (.tup [a, b]) = wholeT b 0 4 := by
            show (nameB a && wholeT b 0 4) = _
            rw [ea, Bool.true_and]
          rw [e] at q
          exact q
        · walk_at "dgo3"
          have e : rowB (.tup [a, b]) = false := by
            show (nameB a && wholeT b 0 4) = _
            rw [ea, Bool.false_and]
          rw [e] at q
          exact q
      · walk_at "dgo3"
        have e : rowB (.tup xs) = false := by
          match xs, h with
          | [a, b], h => simp at h
          | [], _ => rfl
          | [a], _ => rfl
          | a :: b :: c :: r, _ => rfl
        rw [e] at q
        exact q
    | _ => cases ha <;> (refine q_f ?_; walk_at "dgo3"; exact q)
end
section
variable {O : Objs} {P : Program} {w : World} {K : PySem.W.Frag} {mg : Str → Option Value} {base : Heap} {f : Nat → Addr} {d : Nat → FuncData}
theorem ok_are_rows (T : Txt O P K mg f d) : FnD O P w K mg base 4 (f 5) (d 5) ["thing"] sp_are_rows := by
  refine fnD_by T.F_are_rows sc_are_rows (fun ds μ Φ Ψ h => ?_) ⟨_, fun fm W cdv A outer s H E hr gua tk po => (pds_cons (pds_if (PDW.pt (pdw_or (pdt_not (pdt_val (pd_call (ok_is_list T) (hr.mono (by decide)) gua tk rfl T.m_is_list T.k_is_list T.b_is_list (pda_cons (pd_name (i := 0) rfl (by first | exact Or.inl rfl | exact Or.inr (Or.inl rfl) | exact Or.inr (Or.inr rfl))) (pda_cons pd_int (pda_cons (pd_globI (by rfl) T.c__MOST_WORDS) pda_nil)))))) (pdw_or1 (pdt_not (pdt_val (pd_fn (callr_all rfl) calls_all (by rfl) T.z_all (by decide +kernel) (pda_cons (PDF.pd (pdf_lcV (own := [("row", 1)]) [1] rfl rfl sc_are_rows.nd (Dl.PDI.or (pdi_list (pd_name (i := 0) rfl (by first | exact Or.inl rfl | exact Or.inr (Or.inl rfl) | exact Or.inr (Or.inr rfl)))) (pdi_tup (pd_name (i := 0) rfl (by first | exact Or.inl rfl | exact Or.inr (Or.inl rfl) | exact Or.inr (Or.inr rfl))))) (blkOk_by (own := [("row", 1)]) (N := n_are_rows) (sc := defScope s_are_rows) (by decide +kernel)) (fun _ _ _ _ _ fm => (pdg_name (i := 1) sc_are_rows.nd rfl (.inl rfl) (by decide))) (fun _ _ _ _ _ fm => pdts_nil) (fun _ _ _ _ _ fm => (pd_call (ok_is_row T) (hr.mono (by decide)) gua takes_no rfl T.m_is_row T.k_is_row T.b_is_row (pda_cons (pd_name (i := 1) rfl (by first | exact Or.inl rfl | exact Or.inr (Or.inl rfl) | exact Or.inr (Or.inr rfl))) pda_nil))))) pda_nil))))))) (pds_one (pds_ret pd_bl)) pds_nil)
      (pds_one (pds_ret (pd_cmp (opr_eq hr.units) ops_eq (pd_lenSetV (own := [("row", 1)]) [1] rfl rfl sc_are_rows.nd (Dl.PDI.or (pdi_list (pd_name (i := 0) rfl (by first | exact Or.inl rfl | exact Or.inr (Or.inl rfl) | exact Or.inr (Or.inr rfl)))) (pdi_tup (pd_name (i := 0) rfl (by first | exact Or.inl rfl | exact Or.inr (Or.inl rfl) | exact Or.inr (Or.inr rfl))))) (blkOk_by (own := [("row", 1)]) (N := n_are_rows) (sc := defScope s_are_rows) (by decide +kernel)) (by rfl) T.z_len (by decide +kernel) (fun _ _ _ _ _ fm => (pdg_name (i := 1) sc_are_rows.nd rfl (.inl rfl) (by decide))) (fun _ _ _ _ _ fm => pdts_nil) (fun _ _ _ _ _ fm => (pd_ix (hu_of hr) (pd_name (i := 1) rfl (by first | exact Or.inl rfl | exact Or.inr (Or.inl rfl) | exact Or.inr (Or.inr rfl))) pd_int (fun _ _ => rfl)))) (pd_fn callr_len calls_len (by rfl) T.z_len (by decide +kernel) (pda_cons (pd_name (i := 0) rfl (by first | exact Or.inl rfl | exact Or.inr (Or.inl rfl) | exact Or.inr (Or.inr rfl))) pda_nil)) (nomark _))))), fun ds μ Φ Ψ kp h => ?_⟩
  · obtain ⟨t, x, rfl, th, el, q⟩ := h
    rfl
  · obtain ⟨t, x, rfl, th, el, q⟩ := h
    refine start_at (ρ := [.val _, .unk]) rfl ?_
    walk_at "dgo4"
    refine q_pass (pass_three th.kp) ⟨t, x, 1, 12, rfl, th, ?_⟩
    walk_at "dgo4"
    refine q_nbr (fun hb => ?_) (fun hb => ?_)
    · walk_at "dgo4"
      rw [rows_no hb] at q
      exact q
    · obtain ⟨xs, hx, h1, h12, er⟩ := rows_yes hb
      rw [er] at q
      walk_at "dgo4"
      refine q_walk rfl th hx fun C hC sz => ⟨rfl, sz, ?_⟩
      walk_at "dblk"
      refine lc_fm (fun d => some (.bl (rowB d))) (hC _) ?_ ?_
      · intro d acc Z hd go
        obtain ⟨thd, eld⟩ := el.th (μ := μ) hx hd
        walk_at "dgo4"
        refine q_pass (pass_one thd.kp) ⟨d, d, rfl, thd, eld, ?_⟩
        walk_at "dgo4"
        walk_at "dblk"
        exact go
      · walk_at "dgo4"
        refine q_all (bs := xs.map rowB) (by show some (D.lst _) = _; congr 2; rw [List.map_map]; exact congrFun (List.filterMap_eq_map (f := fun d => D.bl (rowB d))) _) ?_
        walk_at "dgo4"
        rw [List.all_map]
        refine q_nbr (fun ha => ?_) (fun ha => ?_)
        · walk_at "dgo4"
          have : rowsL xs = false := by
            unfold rowsL
            rw [show xs.all rowB = false from ha, Bool.and_false, Bool.false_and]
          rw [this] at q
          exact q
        · have har : ∀ d ∈ xs, rowB d = true := fun d hd => List.all_eq_true.mp ha d hd
          walk_at "dgo4"
          refine q_walk rfl th hx fun C hC sz => ⟨rfl, by omega, ?_⟩
          walk_at "dblk"
          refine sc_ind (fun d => .inr (firstS d)) (hC _) ?_ ?_
          · intro d acc Z hd go
            obtain ⟨z, n, rfl⟩ := row_pair (har d hd)
            walk_at "dgo4"
            refine q_ixL (fun z e => nomatch e) rfl (x := .str z) rfl ?_
            walk_at "dgo4"
            walk_at "dblk"
            exact ⟨_, rfl, go⟩
          · walk_at "dgo4"
            refine q_lenL (fun z e => by subst e; cases th.lk; cases hx) (th.seq.trans hx) ?_
            walk_at "dgo4"
            have e := (addKeys_len (xs.map fun d => (.inr (firstS d) : Key)) []).2
            have en : (xs.map fun d => (.inr (firstS d) : Key)).Nodup ↔ (xs.map firstS).Nodup := by
              unfold List.Nodup
              rw [List.pairwise_map, List.pairwise_map]
              simp only [ne_eq, Sum.inr.injEq]
            have er : decide (((List.foldl addKey [] (xs.map fun d => (.inr (firstS d) : Key))).length : Int) = (xs.length : Int)) = rowsL xs := by
              unfold rowsL
              rw [decide_eq_true h1, decide_eq_true h12, List.all_eq_true.mpr har, Bool.and_self, Bool.and_self, Bool.true_and]
              refine decide_eq_decide.mpr ⟨fun h => en.mp (e.mp ?_).1, fun h => ?_⟩
              · rw [List.length_map]
                simp only [List.length_nil]
                omega
              · have := e.mpr ⟨en.mpr h, fun _ _ z => nomatch z⟩
                rw [List.length_map] at this
                simp only [List.length_nil] at this
                omega
            rw [er]
            exact q
end
section
variable {O : Objs} {P : Program} {w : World} {K : PySem.W.Frag} {mg : Str → Option Value} {base : Heap} {f : Nat → Addr} {d : Nat → FuncData}
theorem ok_Words___len__ (T : Txt O P K mg f d) : FnD O P w K mg base 1 (f 6) (d 6) ["self"] sp_Words___len__ := by
  refine fnD_by T.F_Words___len__ sc_Words___len__ (fun ds μ Φ Ψ h => ?_) ⟨_, fun fm W cdv A outer s H E hr gua tk po => (pds_one (pds_ret (pd_fn callr_len calls_len (by rfl) T.z_len (by decide +kernel) (pda_cons (pd_fld (sh := O.sh) T.kitF T.kit rfl (pd_name (i := 0) rfl (by first | exact Or.inl rfl | exact Or.inr (Or.inl rfl) | exact Or.inr (Or.inr rfl)))) pda_nil)))), fun ds μ Φ Ψ kp h => ?_⟩
  · obtain ⟨a, xs, fs, rfl, q⟩ := h
    rfl
  · obtain ⟨a, xs, fs, rfl, q⟩ := h
    refine start_at (ρ := [.val _]) rfl ?_
    walk_at "dgo5"
    refine q_fld1 (x := .tup xs) T.memo_Words ?_ ?_
    · rw [T.flds_Words]
      rfl
    · walk_at "dgo5"
      refine q_lenL (fun z e => nomatch e) rfl ?_
      walk_at "dgo5"
      exact q
end
section
variable {O : Objs} {P : Program} {w : World} {K : PySem.W.Frag} {mg : Str → Option Value} {base : Heap} {f : Nat → Addr} {d : Nat → FuncData}
theorem ok_Words___init__ (T : Txt O P K mg f d) : FnI O P w K mg base 1 5 (f 7) (d 7) ["self", "rows"] sp_Words___init__ := by
  refine fnI_by T.F_Words___init__ sc_Words___init__ (fun ds μ Φ Ψ h => ?_) (by decide) ⟨_, fun fm W cdv A outer s H E hr gua tk po => (pds_cons (pds_if (pdt_not (pdt_val (pd_call (ok_are_rows T) (hr.mono (by decide)) gua tk rfl T.m_are_rows T.k_are_rows T.b_are_rows (pda_cons (pd_name (i := 1) rfl (by first | exact Or.inl rfl | exact Or.inr (Or.inl rfl) | exact Or.inr (Or.inr rfl))) pda_nil)))) (pds_one (pds_raise rfl tk T.tag_NoWords (pda_cons (pd_name (i := 1) rfl (by first | exact Or.inl rfl | exact Or.inr (Or.inl rfl) | exact Or.inr (Or.inr rfl))) pda_nil) (fun ha => JgH.mk_xN JgX.mkValue T.x_NoWords T.y_NoWords.iC T.y_NoWords.tI (JgX.init_st (k := 0) (CX := CX0) JgX.xValue T.x_NoWords T.y_NoWords zx_NoWords T.n_NoWords T.opq T.z_super T.tp) (hr.mono (by decide)) (T.y_NoWords.binds fun _ _ _ _ _ _ _ _ us hl => match us, hl with | [_, _], _ => rfl) rfl T.c_NoWords ha))) pds_nil)
      (pds_cons (pds_setF (sh := O.sh) T.kitF T.kit rfl (pd_name (i := 0) rfl (by first | exact Or.inl rfl | exact Or.inr (Or.inl rfl) | exact Or.inr (Or.inr rfl))) (pd_ty callr_tuple calls_tuple (by rfl) T.z_tuple (by decide +kernel) (pda_cons (pd_name (i := 1) rfl (by first | exact Or.inl rfl | exact Or.inr (Or.inl rfl) | exact Or.inr (Or.inr rfl))) pda_nil)))
      (pds_cons (pds_setF (sh := O.sh) T.kitF T.kit rfl (pd_name (i := 0) rfl (by first | exact Or.inl rfl | exact Or.inr (Or.inl rfl) | exact Or.inr (Or.inr rfl))) (PDF.pd (pdf_dcV (own := [("row", 2)]) [2] rfl rfl sc_Words___init__.nd (Dl.PDI.or (pdi_list (pd_name (i := 1) rfl (by first | exact Or.inl rfl | exact Or.inr (Or.inl rfl) | exact Or.inr (Or.inr rfl)))) (pdi_tup (pd_name (i := 1) rfl (by first | exact Or.inl rfl | exact Or.inr (Or.inl rfl) | exact Or.inr (Or.inr rfl))))) (blkOk_by (own := [("row", 2)]) (N := n_Words___init__) (sc := defScope s_Words___init__) (by decide +kernel)) (fun _ _ _ _ _ fm => (pdg_name (i := 2) sc_Words___init__.nd rfl (.inl rfl) (by decide))) (fun _ _ _ _ _ fm => pdts_nil) (fun _ _ _ _ _ fm => (pd_ix (hu_of hr) (pd_name (i := 2) rfl (by first | exact Or.inl rfl | exact Or.inr (Or.inl rfl) | exact Or.inr (Or.inr rfl))) pd_int (fun _ _ => rfl))) (fun _ _ _ _ _ fm => (pd_ix (hu_of hr) (pd_name (i := 2) rfl (by first | exact Or.inl rfl | exact Or.inr (Or.inl rfl) | exact Or.inr (Or.inr rfl))) pd_int (fun _ _ => rfl))))))
      (pds_cons (pds_setF (sh := O.sh) T.kitF T.kit rfl (pd_name (i := 0) rfl (by first | exact Or.inl rfl | exact Or.inr (Or.inl rfl) | exact Or.inr (Or.inr rfl))) (PDF.pd (pdf_dcV (own := [("number", 3), ("row", 2)]) [3, 2] rfl rfl sc_Words___init__.nd (Dl.PDI.or (pdi_enumL (by rfl) T.z_enumerate (pd_name (i := 1) rfl (by first | exact Or.inl rfl | exact Or.inr (Or.inl rfl) | exact Or.inr (Or.inr rfl)))) (pdi_enumT (by rfl) T.z_enumerate (pd_name (i := 1) rfl (by first | exact Or.inl rfl | exact Or.inr (Or.inl rfl) | exact Or.inr (Or.inr rfl))))) (blkOk_by (own := [("number", 3), ("row", 2)]) (N := n_Words___init__) (sc := defScope s_Words___init__) (by decide +kernel)) (fun _ _ _ _ _ fm => (pdg_tup rfl (pdgs_cons (fun fm => (pdg_name (i := 3) sc_Words___init__.nd rfl (.inl rfl) (by decide))) (pdgs_cons (fun fm => (pdg_name (i := 2) sc_Words___init__.nd rfl (.inl rfl) (by decide))) pdgs_nil)) (gdCons_len gdName_ends (gdCons_len gdName_ends gdNil_len)))) (fun _ _ _ _ _ fm => pdts_nil) (fun _ _ _ _ _ fm => (pd_ix (hu_of hr) (pd_name (i := 2) rfl (by first | exact Or.inl rfl | exact Or.inr (Or.inl rfl) | exact Or.inr (Or.inr rfl))) pd_int (fun _ _ => rfl))) (fun _ _ _ _ _ fm => (pd_name (i := 3) rfl (by first | exact Or.inl rfl | exact Or.inr (Or.inl rfl) | exact Or.inr (Or.inr rfl)))))))
      (pds_one (pds_setF (sh := O.sh) T.kitF T.kit rfl (pd_name (i := 0) rfl (by first | exact Or.inl rfl | exact Or.inr (Or.inl rfl) | exact Or.inr (Or.inr rfl))) (PDF.pd (pdf_dcV (own := [("name", 4)]) [4] rfl rfl sc_Words___init__.nd (pdi_keys (pd_fld (sh := O.sh) T.kitF T.kit rfl (pd_name (i := 0) rfl (by first | exact Or.inl rfl | exact Or.inr (Or.inl rfl) | exact Or.inr (Or.inr rfl))))) (blkOk_by (own := [("name", 4)]) (N := n_Words___init__) (sc := defScope s_Words___init__) (by decide +kernel)) (fun _ _ _ _ _ fm => (pdg_name (i := 4) sc_Words___init__.nd rfl (.inl rfl) (by decide))) (fun _ _ _ _ _ fm => pdts_nil) (fun _ _ _ _ _ fm => (pd_name (i := 4) rfl (by first | exact Or.inl rfl | exact Or.inr (Or.inl rfl) | exact Or.inr (Or.inr rfl)))) (fun _ _ _ _ _ fm => (pd_tup (pda_cons pd_int (pda_cons (pd_ix (hu_of hr) (pd_fld (sh := O.sh) T.kitF T.kit rfl (pd_name (i := 0) rfl (by first | exact Or.inl rfl | exact Or.inr (Or.inl rfl) | exact Or.inr (Or.inr rfl)))) (pd_name (i := 4) rfl (by first | exact Or.inl rfl | exact Or.inr (Or.inl rfl) | exact Or.inr (Or.inr rfl))) (fun _ _ => rfl)) pda_nil)))))))))))), fun p ds μ Φ Ψ kp h => ?_⟩
  · obtain ⟨t, x, rfl, th, el, q, bad⟩ := h
    rfl
  · obtain ⟨t, x, rfl, th, el, q, bad⟩ := h
    refine startI_at (ρ := [.own (.ins 1 p []), .val _, .unk, .unk, .unk]) rfl ?_
    walk_at "dgo7"
    refine q_pass (pass_one th.kp) ⟨t, x, rfl, th, el, ?_⟩
    walk_at "dgo7"
    refine q_nbr (fun hb => ?_) (fun hb => ?_)
    · walk_at "dgo7"
      exact q_rais1 th.kp (bad hb)
    · obtain ⟨rows, hx, ok⟩ := rows_of hb
      have has : ∀ f, f ∈ [Str.ofString "_rows", Str.ofString "_places", Str.ofString "_order", Str.ofString "_ranks"] → O.sh.has 1 f := fun f h => Or.inl (by rw [T.flds_Words]; exact h)
      walk_at "dgo7"
      refine q_tupTh th hx ?_
      walk_at "dgo7"
      refine q_put (fs' := [(Str.ofString "_rows", .tup (rows.map rowT))]) (ρ' := [.own (.ins 1 p [(Str.ofString "_rows", .tup (rows.map rowT))]), .val t, .unk, .unk, .unk]) rfl (has _ (by decide)) rfl rfl (by simp) ?_
      walk_at "dgo7"
      refine q_walk rfl th hx fun C hC sz => ⟨rfl, sz, ?_⟩
      walk_at "dblk"
      refine dc_ind rowE (hC _) ?_ ?_
      · intro d acc Z hd go
        obtain ⟨r, hr, rfl⟩ := List.mem_map.mp hd
        walk_at "dgo7"
        refine q_ixL (fun z e => nomatch e) rfl (x := .str r.1) rfl ?_
        walk_at "dgo7"
        refine ⟨_, rfl, ?_⟩
        walk_at "dgo7"
        refine q_ixL (fun z e => nomatch e) rfl (x := .int r.2) rfl ?_
        walk_at "dgo7"
        walk_at "dblk"
        exact go
      · rw [places_map, mergeD_nil (by rw [places_keys]; exact inr_nodup ok.nd)]
        walk_at "dgo7"
        refine q_put (fs' := [(Str.ofString "_rows", .tup (rows.map rowT)), (Str.ofString "_places", .dic (placesE rows))]) (ρ' := [.own (.ins 1 p [(Str.ofString "_rows", .tup (rows.map rowT)), (Str.ofString "_places", .dic (placesE rows))]), .val t, .unk, .unk, .unk]) rfl (has _ (by decide)) rfl rfl (by simp) ?_
        walk_at "dgo7"
        refine q_walkE rfl th hx fun C hC sz => ⟨rfl, by rw [enum_len]; exact sz, ?_⟩
        walk_at "dblk"
        refine dc_ind rowN (hC _) ?_ ?_
        · intro d acc Z hd go
          obtain ⟨i, r, hr, rfl⟩ := enum_mem hd
          obtain ⟨r, hr, rfl⟩ := List.mem_map.mp hr
          walk_at "dgo7"
          refine q_ixL (fun z e => nomatch e) rfl (x := .str r.1) rfl ?_
          walk_at "dgo7"
          refine ⟨_, rfl, ?_⟩
          walk_at "dgo7"
          walk_at "dblk"
          exact go
        · rw [order_map, mergeD_nil (by rw [order_keys]; exact inr_nodup ok.nd)]
          walk_at "dgo7"
          refine q_put (fs' := [(Str.ofString "_rows", .tup (rows.map rowT)), (Str.ofString "_places", .dic (placesE rows)), (Str.ofString "_order", .dic (orderE rows))]) (ρ' := [.own (.ins 1 p [(Str.ofString "_rows", .tup (rows.map rowT)), (Str.ofString "_places", .dic (placesE rows)), (Str.ofString "_order", .dic (orderE rows))]), .val t, .unk, .unk, .unk]) rfl (has _ (by decide)) rfl rfl (by simp) ?_
          walk_at "dgo7"
          refine q_fldO rfl (has _ (by decide)) rfl ?_
          walk_at "dgo7"
          refine q_ofdic fun sz2 => ⟨rfl, by rw [List.length_map]; exact sz2, ?_⟩
          walk_at "dblk"
          refine dc_ind (rankF rows) trivial ?_ ?_
          · intro d acc Z hd go
            obtain ⟨kv, hkv, rfl⟩ := List.mem_map.mp hd
            obtain ⟨i, r, hr, rfl⟩ := order_mem hkv
            walk_at "dgo7"
            refine ⟨_, rfl, ?_⟩
            walk_at "dgo7"
            refine q_fldO rfl (has _ (by decide)) rfl ?_
            walk_at "dgo7"
            refine q_ixD (dval_order ok hr) ?_
            walk_at "dgo7"
            walk_at "dblk"
            have e : rankF rows (keyT (.inr r.1)) = (.inr r.1, .tup [.int 1, .int (i : Nat)]) := by
              show ((.inr r.1, .tup [.int 1, (dval (orderE rows) (.inr r.1)).getD .non]) : Key × D) = _
              rw [dval_order ok hr]
              rfl
            rw [e] at go
            exact go
          · rw [ranks_map ok, mergeD_nil (by rw [ranks_keys]; exact inr_nodup ok.nd)]
            walk_at "dgo7"
            exact ⟨1, p, [(Str.ofString "_rows", .tup (rows.map rowT)), (Str.ofString "_places", .dic (placesE rows)), (Str.ofString "_order", .dic (orderE rows))], rfl, has _ (by decide), by simp, wordsN rows, rfl, q rows ok hx⟩
end
section
variable {O : Objs} {P : Program} {w : World} {K : PySem.W.Frag} {mg : Str → Option Value} {base : Heap} {f : Nat → Addr} {d : Nat → FuncData}
theorem ok_law_cell (T : Txt O P K mg f d) : FnD O P w K mg base 1 (f 8) (d 8) ["_law_script", "_law_k"] sp_law_cell := by
  refine fnD_by T.F_law_cell sc_law_cell (fun ds μ Φ Ψ h => ?_) ⟨_, fun fm W cdv A outer s H E hr gua tk po => (pds_cons (pds_if (pdt_cmp op_lt ops_lt (pd_name (i := 1) rfl (by first | exact Or.inl rfl | exact Or.inr (Or.inl rfl) | exact Or.inr (Or.inr rfl))) (pd_fn callr_len calls_len (by rfl) T.z_len (by decide +kernel) (pda_cons (pd_name (i := 0) rfl (by first | exact Or.inl rfl | exact Or.inr (Or.inl rfl) | exact Or.inr (Or.inr rfl))) pda_nil)) (nomark _)) (pds_one (pds_ret (pd_ix (hu_of hr) (pd_name (i := 0) rfl (by first | exact Or.inl rfl | exact Or.inr (Or.inl rfl) | exact Or.inr (Or.inr rfl))) (pd_name (i := 1) rfl (by first | exact Or.inl rfl | exact Or.inr (Or.inl rfl) | exact Or.inr (Or.inr rfl))) (fun _ _ => rfl)))) pds_nil)
      (pds_one (pds_ret (pd_bin opr_add ops_add (pd_bin op_mulW ops_mul pd_int (pd_name (i := 1) rfl (by first | exact Or.inl rfl | exact Or.inr (Or.inl rfl) | exact Or.inr (Or.inr rfl)))) pd_int)))), fun ds μ Φ Ψ kp h => ?_⟩
  · obtain ⟨ns, k, rfl, hk, q⟩ := h
    rfl
  · obtain ⟨ns, k, rfl, hk, q⟩ := h
    refine start_at (ρ := [.val _, .val _]) rfl ?_
    walk_at "dgo"
    refine q_lenL (fun z h => nomatch h) rfl ?_
    walk_at "dgo"
    refine q_two (fun h => ?_) (fun h => ?_)
    · walk_at "dgo"
      rw [List.length_map] at h
      have hkl : k < ns.length := by omega
      refine q_ixL (fun z h => nomatch h) rfl (x := .int (ns[k]'hkl)) ?_ ?_
      · unfold atI ixN
        rw [List.length_map, if_pos (by omega), if_pos (by omega)]
        simp [hkl]
      · walk_at "dgo"
        exact q _
    · walk_at "dgo"
      exact q _
end
section
variable {O : Objs} {P : Program} {w : World} {K : PySem.W.Frag} {mg : Str → Option Value} {base : Heap} {f : Nat → Addr} {d : Nat → FuncData}
theorem ok_law_box (T : Txt O P K mg f d) : FnD O P w K mg base 1 (f 9) (d 9) ["_law_cell_here"] sp_law_box := by
  refine Dl.FnD.newbox (sp := boxSp0) ?_ ?_
  rotate_left
  ·
    rintro ds μ Φ Ψ ⟨z, rfl, q⟩
    refine ⟨z, rfl, fun a b c h1 h2 h3 => ⟨μ.length, a, b, c, 0, ?_, ⟨h1, h2, by omega, by omega⟩, ?_⟩⟩
    · simp
    · simpa using q
  refine fnD_by T.F_law_box sc_law_box (fun ds μ Φ Ψ h => ?_) ⟨_, fun fm W cdv A outer s H E hr gua tk po => (pds_one (pds_ret (PDF.num (pdf_lst (pda_cons (pd_fn (Jg.call_maxV rfl) calls_max (by rfl) T.z_max (by decide +kernel) (pda_cons pd_int (pda_cons (pd_bin op_sub ops_sub (pd_name (i := 0) rfl (by first | exact Or.inl rfl | exact Or.inr (Or.inl rfl) | exact Or.inr (Or.inr rfl))) (pd_bin op_pow ops_pow pd_int pd_int)) pda_nil))) (pda_cons (pd_bin op_mod ops_mod (pd_name (i := 0) rfl (by first | exact Or.inl rfl | exact Or.inr (Or.inl rfl) | exact Or.inr (Or.inr rfl))) pd_int) (pda_cons pd_int pda_nil))))))), fun ds μ Φ Ψ kp h => ?_⟩
  · obtain ⟨z, rfl, q⟩ := h
    rfl
  · obtain ⟨z, rfl, q⟩ := h
    refine start_at (ρ := [.val _]) rfl ?_
    walk_at "dgo"
    refine q _ _ _ ?_ ?_ rfl
    all_goals omega
end
section
variable {O : Objs} {P : Program} {w : World} {K : PySem.W.Frag} {mg : Str → Option Value} {base : Heap} {f : Nat → Addr} {d : Nat → FuncData}
theorem ok_law_take (T : Txt O P K mg f d) : FnD O P w K mg base 1 (f 10) (d 10) ["_law_box_here", "_law_many"] sp_law_take := by
  refine Dl.FnD.unbox (sp := takeSp0) ?_ ?_
  rotate_left
  ·
    rintro ds μ Φ Ψ ⟨j, m, n, rfl, h1, h2, h3, e, q⟩
    have hj : j < μ.length := (List.getElem?_eq_some_iff.mp e).1
    refine ⟨j, n, e, fun a b c b1 b2 c1 c2 => ⟨j, m, a, b, c, rfl, h1, h2, by simp [hj], b1, b2, c1, by omega, fun z a' c' z0 z1 d0 d1 => ⟨a', b, c', n + 1, by simp [hj], ⟨b1, b2, d0, by push_cast; omega⟩, ?_⟩⟩⟩
    simpa using q z z0 z1
  refine fnD_by T.F_law_take sc_law_take (fun ds μ Φ Ψ h => ?_) ⟨_, fun fm W cdv A outer s H E hr gua tk po => (pds_cons (pds_if (pdt_cmp op_gt ops_gt (pd_ix (hu_of hr) (pd_name (i := 0) rfl (by first | exact Or.inl rfl | exact Or.inr (Or.inl rfl) | exact Or.inr (Or.inr rfl))) pd_int (fun _ _ => rfl)) pd_int (nomark _)) (pds_cons (pds_set (i := 2) sc_law_take.nd rfl (.inl rfl) (pd_bin op_mod ops_mod (pd_ix (hu_of hr) (pd_name (i := 0) rfl (by first | exact Or.inl rfl | exact Or.inr (Or.inl rfl) | exact Or.inr (Or.inr rfl))) pd_int (fun _ _ => rfl)) (pd_name (i := 1) rfl (by first | exact Or.inl rfl | exact Or.inr (Or.inl rfl) | exact Or.inr (Or.inr rfl)))))
      (pds_cons (pds_asg (ts := []) (pd_bin op_fdivW ops_div (pd_ix (hu_of hr) (pd_name (i := 0) rfl (by first | exact Or.inl rfl | exact Or.inr (Or.inl rfl) | exact Or.inr (Or.inr rfl))) pd_int (fun _ _ => rfl)) (pd_name (i := 1) rfl (by first | exact Or.inl rfl | exact Or.inr (Or.inl rfl) | exact Or.inr (Or.inr rfl)))) (pdg_sub (hu_of hr) (pd_name (i := 0) rfl (by first | exact Or.inl rfl | exact Or.inr (Or.inl rfl) | exact Or.inr (Or.inr rfl))) pd_int))
      (pds_one (pds_ret (pd_name (i := 2) rfl (by first | exact Or.inl rfl | exact Or.inr (Or.inl rfl) | exact Or.inr (Or.inr rfl))))))) pds_nil)
      (pds_cons (pds_asg (ts := []) (pd_bin opr_add ops_add (pd_ix (hu_of hr) (pd_name (i := 0) rfl (by first | exact Or.inl rfl | exact Or.inr (Or.inl rfl) | exact Or.inr (Or.inr rfl))) pd_int (fun _ _ => rfl)) pd_int) (pdg_sub (hu_of hr) (pd_name (i := 0) rfl (by first | exact Or.inl rfl | exact Or.inr (Or.inl rfl) | exact Or.inr (Or.inr rfl))) pd_int))
      (pds_cons (pds_set (i := 3) sc_law_take.nd rfl (.inl rfl) (pd_bin op_mod ops_mod (pd_bin op_pow ops_pow (pd_bin opr_add ops_add (pd_bin opr_add ops_add (pd_ix (hu_of hr) (pd_name (i := 0) rfl (by first | exact Or.inl rfl | exact Or.inr (Or.inl rfl) | exact Or.inr (Or.inr rfl))) pd_int (fun _ _ => rfl)) (pd_bin op_mulW ops_mul pd_int (pd_ix (hu_of hr) (pd_name (i := 0) rfl (by first | exact Or.inl rfl | exact Or.inr (Or.inl rfl) | exact Or.inr (Or.inr rfl))) pd_int (fun _ _ => rfl)))) pd_int) pd_int) pd_int))
      (pds_cons (pds_set (i := 3) sc_law_take.nd rfl (.inl rfl) (pd_bin op_mod ops_mod (pd_bin op_pow ops_pow (pd_bin opr_add ops_add (pd_name (i := 3) rfl (by first | exact Or.inl rfl | exact Or.inr (Or.inl rfl) | exact Or.inr (Or.inr rfl))) (pd_bin op_mulW ops_mul pd_int (pd_ix (hu_of hr) (pd_name (i := 0) rfl (by first | exact Or.inl rfl | exact Or.inr (Or.inl rfl) | exact Or.inr (Or.inr rfl))) pd_int (fun _ _ => rfl)))) pd_int) pd_int))
      (pds_one (pds_ret (pd_bin op_mod ops_mod (pd_bin op_fdivW ops_div (pd_name (i := 3) rfl (by first | exact Or.inl rfl | exact Or.inr (Or.inl rfl) | exact Or.inr (Or.inr rfl))) pd_int) (pd_name (i := 1) rfl (by first | exact Or.inl rfl | exact Or.inr (Or.inl rfl) | exact Or.inr (Or.inr rfl)))))))))), fun ds μ Φ Ψ kp h => ?_⟩
  · obtain ⟨j, m, a, b, c, rfl, hm, hM, e, hb0, hb1, hc0, hc1, q⟩ := h
    rfl
  · obtain ⟨j, m, a, b, c, rfl, hm, hM, e, hb0, hb1, hc0, hc1, q⟩ := h
    refine start_at (ρ := [.val _, .val _, .unk, .unk]) rfl ?_
    walk_at "dgo"
    refine q_two (fun h => ?_) (fun h => ?_)
    · walk_at "dgo"
      exact q _ _ _ (Int.emod_nonneg _ (by omega)) (Int.emod_lt_of_pos _ hm) hc0 (by omega)
    · walk_at "dgo"
      exact q _ _ _ (Int.emod_nonneg _ (by omega)) (Int.emod_lt_of_pos _ hm) (by omega) (by omega)
end
section
variable {O : Objs} {P : Program} {w : World} {K : PySem.W.Frag} {mg : Str → Option Value} {base : Heap} {f : Nat → Addr} {d : Nat → FuncData}
theorem ok_law_names (T : Txt O P K mg f d) : FnD O P w K mg base 2 (f 11) (d 11) ["_law_box_here", "_law_many"] sp_law_names := by
  refine fnD_by T.F_law_names sc_law_names (fun ds μ Φ Ψ h => ?_) ⟨_, fun fm W cdv A outer s H E hr gua tk po => (pds_cons (pds_set (i := 2) sc_law_names.nd rfl (.inr rfl) pd_str)
      (pds_cons (pds_set (i := 3) sc_law_names.nd rfl (.inr rfl) (pd_bm PySem.F.plainAttrs_str PySem.F.slot_str_split PySem.F.type_str_split mt_splitV mts_split pd_str (pda_cons pd_str pda_nil)))
      (pds_cons (pds_set (i := 4) sc_law_names.nd rfl (.inl rfl) (pd_call (ok_law_take T) (hr.mono (by decide)) gua tk rfl T.m_law_take T.k_law_take T.b_law_take (pda_cons (pd_name (i := 0) rfl (by first | exact Or.inl rfl | exact Or.inr (Or.inl rfl) | exact Or.inr (Or.inr rfl))) (pda_cons pd_int pda_nil))))
      (pds_cons (pds_set (i := 5) sc_law_names.nd rfl (.inr rfl) (pd_call (ok_law_take T) (hr.mono (by decide)) gua tk rfl T.m_law_take T.k_law_take T.b_law_take (pda_cons (pd_name (i := 0) rfl (by first | exact Or.inl rfl | exact Or.inr (Or.inl rfl) | exact Or.inr (Or.inr rfl))) (pda_cons pd_int pda_nil))))
      (pds_cons (pds_if (pdt_cmp (opr_eq hr.units) ops_eq (pd_name (i := 4) rfl (by first | exact Or.inl rfl | exact Or.inr (Or.inl rfl) | exact Or.inr (Or.inr rfl))) pd_int (nomark _)) (pds_one (pds_ret (PDF.pd (pdf_lcV (own := [("_law_k", 6)]) [6] rfl rfl sc_law_names.nd (pdi_range1 (by rfl) T.z_range (pda_cons (pd_name (i := 1) rfl (by first | exact Or.inl rfl | exact Or.inr (Or.inl rfl) | exact Or.inr (Or.inr rfl))) pda_nil)) (blkOk_by (own := [("_law_k", 6)]) (N := n_law_names) (sc := defScope s_law_names) (by decide +kernel)) (fun _ _ _ _ _ fm => (pdg_name (i := 6) sc_law_names.nd rfl (.inl rfl) (by decide))) (fun _ _ _ _ _ fm => pdts_nil) (fun _ _ _ _ _ fm => (pd_ix (hu_of hr) (pd_name (i := 3) rfl (by first | exact Or.inl rfl | exact Or.inr (Or.inl rfl) | exact Or.inr (Or.inr rfl))) (pd_bin op_mod ops_mod (pd_bin opr_add ops_add (pd_name (i := 5) rfl (by first | exact Or.inl rfl | exact Or.inr (Or.inl rfl) | exact Or.inr (Or.inr rfl))) (pd_bin op_mulW ops_mul pd_int (pd_name (i := 6) rfl (by first | exact Or.inl rfl | exact Or.inr (Or.inl rfl) | exact Or.inr (Or.inr rfl))))) pd_int) (fun _ _ => rfl))))))) pds_nil)
      (pds_cons (pds_set (i := 7) sc_law_names.nd rfl (.inr rfl) (pd_bm PySem.F.plainAttrs_str PySem.F.slot_str_join PySem.F.type_str_join mtr_join mts_join pd_str (pda_cons (PDF.pd (pdf_lcV (own := [("_law_k", 6)]) [6] rfl rfl sc_law_names.nd (pdi_range1 (by rfl) T.z_range (pda_cons pd_int pda_nil)) (blkOk_by (own := [("_law_k", 6)]) (N := n_law_names) (sc := defScope s_law_names) (by decide +kernel)) (fun _ _ _ _ _ fm => (pdg_name (i := 6) sc_law_names.nd rfl (.inl rfl) (by decide))) (fun _ _ _ _ _ fm => pdts_nil) (fun _ _ _ _ _ fm => (pd_ix (hu_of hr) (pd_name (i := 2) rfl (by first | exact Or.inl rfl | exact Or.inr (Or.inl rfl) | exact Or.inr (Or.inr rfl))) (pd_call (ok_law_take T) (hr.mono (by decide)) gua takes_no rfl T.m_law_take T.k_law_take T.b_law_take (pda_cons (pd_name (i := 0) rfl (by first | exact Or.inl rfl | exact Or.inr (Or.inl rfl) | exact Or.inr (Or.inr rfl))) (pda_cons pd_int pda_nil))) (fun _ _ => rfl))))) pda_nil)))
      (pds_cons (pds_if (PDW.pt (pdw_and (pdt_cmp (opr_eq hr.units) ops_eq (pd_name (i := 4) rfl (by first | exact Or.inl rfl | exact Or.inr (Or.inl rfl) | exact Or.inr (Or.inr rfl))) pd_int (nomark _)) (pdw_and1 (pdt_cmp op_lt ops_lt (pd_name (i := 1) rfl (by first | exact Or.inl rfl | exact Or.inr (Or.inl rfl) | exact Or.inr (Or.inr rfl))) pd_int (nomark _))))) (pds_one (pds_ret (PDF.pd (pdf_lcV (own := [("_law_k", 6)]) [6] rfl rfl sc_law_names.nd (pdi_range1 (by rfl) T.z_range (pda_cons (pd_name (i := 1) rfl (by first | exact Or.inl rfl | exact Or.inr (Or.inl rfl) | exact Or.inr (Or.inr rfl))) pda_nil)) (blkOk_by (own := [("_law_k", 6)]) (N := n_law_names) (sc := defScope s_law_names) (by decide +kernel)) (fun _ _ _ _ _ fm => (pdg_name (i := 6) sc_law_names.nd rfl (.inl rfl) (by decide))) (fun _ _ _ _ _ fm => pdts_nil) (fun _ _ _ _ _ fm => (pd_slice (pd_name (i := 7) rfl (by first | exact Or.inl rfl | exact Or.inr (Or.inl rfl) | exact Or.inr (Or.inr rfl))) pdo_none (pdo_some (pd_bin opr_add ops_add pd_int (pd_bin op_mod ops_mod (pd_bin opr_add ops_add (pd_name (i := 5) rfl (by first | exact Or.inl rfl | exact Or.inr (Or.inl rfl) | exact Or.inr (Or.inr rfl))) (pd_bin op_mulW ops_mul pd_int (pd_name (i := 6) rfl (by first | exact Or.inl rfl | exact Or.inr (Or.inl rfl) | exact Or.inr (Or.inr rfl))))) pd_int))))))))) pds_nil)
      (pds_cons (pds_set (i := 8) sc_law_names.nd rfl (.inl rfl) (pd_call (ok_law_take T) (hr.mono (by decide)) gua tk rfl T.m_law_take T.k_law_take T.b_law_take (pda_cons (pd_name (i := 0) rfl (by first | exact Or.inl rfl | exact Or.inr (Or.inl rfl) | exact Or.inr (Or.inr rfl))) (pda_cons pd_int pda_nil))))
      (pds_cons (pds_own (i := 9) sc_law_names.nd rfl (.inl rfl) (pdf_lst pda_nil))
      (pds_cons (pds_for (ts := [6]) po rfl tk (pdi_range1 (by rfl) T.z_range (pda_cons (pd_name (i := 1) rfl (by first | exact Or.inl rfl | exact Or.inr (Or.inl rfl) | exact Or.inr (Or.inr rfl))) pda_nil)) (fun fm W tk => (pdg_name (i := 6) sc_law_names.nd rfl (.inl rfl) (by decide))) (fun fm W tk => (pds_cons (pds_set (i := 10) sc_law_names.nd rfl (.inl rfl) (pd_ix (hu_of hr) (pd_name (i := 2) rfl (by first | exact Or.inl rfl | exact Or.inr (Or.inl rfl) | exact Or.inr (Or.inr rfl))) (pd_bin op_mod ops_mod (pd_bin opr_add ops_add (pd_name (i := 5) rfl (by first | exact Or.inl rfl | exact Or.inr (Or.inl rfl) | exact Or.inr (Or.inr rfl))) (pd_bin op_mulW ops_mul pd_int (pd_name (i := 6) rfl (by first | exact Or.inl rfl | exact Or.inr (Or.inl rfl) | exact Or.inr (Or.inr rfl))))) pd_int) (fun _ _ => rfl)))
      (pds_one (pds_expr (pd_bm PySem.F.plainAttrs_list PySem.F.slot_list_append PySem.F.type_list_append mtr_append mts_append (pd_name (i := 9) rfl (by first | exact Or.inl rfl | exact Or.inr (Or.inl rfl) | exact Or.inr (Or.inr rfl))) (pda_cons (pd_bin opr_add ops_add (pd_bin opr_add ops_add (pd_slice (pd_name (i := 7) rfl (by first | exact Or.inl rfl | exact Or.inr (Or.inl rfl) | exact Or.inr (Or.inr rfl))) pdo_none (pdo_some (pd_name (i := 8) rfl (by first | exact Or.inl rfl | exact Or.inr (Or.inl rfl) | exact Or.inr (Or.inr rfl))))) (pd_name (i := 10) rfl (by first | exact Or.inl rfl | exact Or.inr (Or.inl rfl) | exact Or.inr (Or.inr rfl)))) (pd_slice (pd_name (i := 7) rfl (by first | exact Or.inl rfl | exact Or.inr (Or.inl rfl) | exact Or.inr (Or.inr rfl))) (pdo_some (pd_name (i := 8) rfl (by first | exact Or.inl rfl | exact Or.inr (Or.inl rfl) | exact Or.inr (Or.inr rfl)))) (pdo_some (pd_bin op_sub ops_sub pd_int (pd_bin op_mod ops_mod (pd_bin opr_add ops_add (pd_name (i := 5) rfl (by first | exact Or.inl rfl | exact Or.inr (Or.inl rfl) | exact Or.inr (Or.inr rfl))) (pd_name (i := 6) rfl (by first | exact Or.inl rfl | exact Or.inr (Or.inl rfl) | exact Or.inr (Or.inr rfl)))) pd_int))))) pda_nil)))))))
      (pds_one (pds_ret (pd_name (i := 9) rfl (by first | exact Or.inl rfl | exact Or.inr (Or.inl rfl) | exact Or.inr (Or.inr rfl))))))))))))))), fun ds μ Φ Ψ kp h => ?_⟩
  · obtain ⟨j, n, k, rfl, hk, hk2, hn, e, q⟩ := h
    rfl
  · obtain ⟨j, n, k, rfl, hk, hk2, hn, e, q⟩ := h
    refine start_at (ρ := [.val _, .val _, .unk, .unk, .unk, .unk, .unk, .unk, .unk, .unk, .unk]) rfl ?_
    have hal : (Str.ofString "abcdefghijklmnopqrstuvwxyz").cps.toList.length = 26 := by decide +kernel
    have hab : Sg (Str.ofString "abcdefghijklmnopqrstuvwxyz") 26 := Sg.of (by decide +kernel)
    walk_at "dgo2"
    have hwl : ((Txt.split (Str.ofString "put take ask meets above rule shelf tree f g c n") (Str.ofString " ")).length == 12 && (Txt.split (Str.ofString "put take ask meets above rule shelf tree f g c n") (Str.ofString " ")).all (fun z => decide (z.length ≤ 40) && (TL.tl z).all (fun c => decide (c < 1114112)))) = true := by decide +kernel
    revert hwl
    generalize Txt.split (Str.ofString "put take ask meets above rule shelf tree f g c n") (Str.ofString " ") = ws
    intro hwl
    obtain ⟨hwl, hws⟩ := Bool.and_eq_true_iff.mp hwl
    rw [beq_iff_eq] at hwl
    replace hws : ∀ z ∈ ws, Sg z 40 := fun z hz => Sg.of (List.all_eq_true.mp hws z hz)
    refine take_ok (by walk_at "dmu") (by decide) (by decide) (by omega) fun w w0 w1 => ?_
    walk_at "dgo2"
    refine take_ok (by walk_at "dmu") (by decide) (by decide) (by omega) fun x x0 x1 => ?_
    walk_at "dgo2"
    refine q_two (fun hw => ?_) (fun hw => ?_)
    · walk_at "dgo2"
      refine ⟨rfl, Nat.le_trans (m := 12) (by rw [range_len]; omega) (by decide), ?_⟩
      walk_at "dblk"
      refine lc_ind (I := fun i acc μ1 => ∃ zs : List Str, acc = zs.map .str ∧ zs.length = i ∧ (∀ z ∈ zs, Sg z 40) ∧ μ1 = μ.set j (.box (n + 1 + 1))) ⟨[], rfl, rfl, (fun _ h => nomatch h), rfl⟩ ?_ ?_
      · rintro i dd acc μ1 Z hd ⟨zs, rfl, hl, hz, rfl⟩ go
        obtain ⟨hi, rfl⟩ := range_get hd
        refine ⟨trivial, ?_⟩
        walk_at "dgo2"
        obtain ⟨z, hz1, e1⟩ := at_map (f := D.str) (xs := ws) (a := (x + 5 * (0 + (i : Int))) % 12) (Int.emod_nonneg _ (by omega)) (by rw [hwl]; exact Int.emod_lt_of_pos _ (by omega))
        refine q_ixL (fun z h => nomatch h) rfl e1 ?_
        walk_at "dgo2"
        walk_at "dblk"
        refine go _ _ ⟨zs ++ [z], snoc_map, by simp [hl], fun y hy => ?_, rfl⟩
        rcases List.mem_append.mp hy with hy | hy
        · exact hz y hy
        · rw [List.mem_singleton.mp hy]
          exact hws z hz1
      · rintro acc μ1 ⟨zs, rfl, hl, hz, rfl⟩
        rw [range_len] at hl
        refine ⟨trivial, ?_⟩
        walk_at "dgo2"
        exact q zs (n + 1 + 1) (by omega) hz (by omega)
    · walk_at "dgo2"
      refine ⟨rfl, by rw [range_len]; decide, ?_⟩
      walk_at "dblk"
      refine lc_ind (I := fun i acc μ1 => ∃ zs : List Str, acc = zs.map .str ∧ zs.length = i ∧ (∀ z ∈ zs, Sg z 1) ∧ μ1 = μ.set j (.box (n + 2 + i))) ⟨[], rfl, rfl, (fun _ h => nomatch h), rfl⟩ ?_ ?_
      · rintro i dd acc μ1 Z hd ⟨zs, rfl, hl, hz, rfl⟩ go
        obtain ⟨hi, rfl⟩ := range_get hd
        refine ⟨trivial, ?_⟩
        walk_at "dgo2"
        refine take_ok (by walk_at "dmu") (by decide) (by decide) (by omega) fun y y0 y1 => ?_
        walk_at "dgo2"
        obtain ⟨c, hc, ec⟩ := at_any (xs := (Str.ofString "abcdefghijklmnopqrstuvwxyz").cps.toList) y0 (by rw [hal]; exact y1)
        refine q_ixS (by decide +kernel) ec ?_
        walk_at "dgo2"
        walk_at "dblk"
        refine go _ _ ⟨zs ++ [⟨#[c]⟩], snoc_map, by simp [hl], fun z hz' => ?_, rfl⟩
        rcases List.mem_append.mp hz' with hz' | hz'
        · exact hz z hz'
        · rw [List.mem_singleton.mp hz']
          exact hab.sign ec
      · rintro acc μ1 ⟨zs, rfl, hl, hz, rfl⟩
        rw [range_len] at hl
        refine ⟨trivial, ?_⟩
        walk_at "dgo2"
        have hsum : (zs.map (·.length)).sum ≤ zs.length * 1 := sum_le fun z h => (hz z h).1
        have hl8 : zs.length = 8 := hl
        have e0 : (Str.ofString "").length = 0 := by decide +kernel
        refine q_join rfl rfl (by rw [hl8, e0]; rw [hl8] at hsum; omega) ?_
        have hst := Sg.join (y := Str.ofString "") (k := 8) (Sg.of (by decide +kernel)) (by omega) hz
        rw [range_len]
        generalize Txt.join (Str.ofString "") zs = stem at hst ⊢
        walk_at "dgo2"
        refine q_two (fun h1 => ?_) (fun h1 => ?_)
        · walk_at "dgo2"
          refine q_two (fun h2 => ?_) (fun h2 => ?_)
          · walk_at "dgo2"
            refine ⟨rfl, Nat.le_trans (m := 12) (by rw [range_len]; omega) (by decide), ?_⟩
            walk_at "dblk"
            refine lc_ind (I := fun i acc μ1 => ∃ zs : List Str, acc = zs.map .str ∧ zs.length = i ∧ (∀ z ∈ zs, Sg z 40) ∧ μ1 = μ.set j (.box (n + 2 + 8))) ⟨[], rfl, rfl, (fun _ h => nomatch h), rfl⟩ ?_ ?_
            · rintro i dd acc μ1 Z hd ⟨zs, rfl, hl, hz, rfl⟩ go
              obtain ⟨hi, rfl⟩ := range_get hd
              refine ⟨trivial, ?_⟩
              walk_at "dgo2"
              refine q_slS (Nat.le_trans hst.1 (by decide)) ?_
              walk_at "dgo2"
              walk_at "dblk"
              refine go _ _ ⟨zs ++ [_], snoc_map, by simp [hl], fun y hy => ?_, rfl⟩
              rcases List.mem_append.mp hy with hy | hy
              · exact hz y hy
              · rw [List.mem_singleton.mp hy]
                exact (hst.cut _ _).mono (by decide)
            · rintro acc μ1 ⟨zs, rfl, hl, hz, rfl⟩
              rw [range_len] at hl
              refine ⟨trivial, ?_⟩
              walk_at "dgo2"
              exact q zs _ (by omega) hz (by omega)
          · walk_at "dgo2"
            refine take_ok (by walk_at "dmu") (by decide) (by decide) (by omega) fun y y0 y1 => ?_
            walk_at "dgo2"
            refine for_ind (I := fun i ρ μ1 => ∃ (zs : List Str) (s6 s10 : SV), ρ = [.val (.num j), .val (.int k), .val (.str (Str.ofString "abcdefghijklmnopqrstuvwxyz")), .val (.lst (ws.map .str)), .val (.int w), .val (.int x), s6, .val (.str stem), .val (.int y), .own (.lst (zs.map .str)), s10] ∧ zs.length = i ∧ (∀ z ∈ zs, Sg z 40) ∧ μ1 = μ.set j (.box (n + 2 + 8 + 1))) ⟨[], _, _, rfl, rfl, (fun _ h => nomatch h), rfl⟩ ?_ ?_
            · rintro i dd ρ μ1 Z hd ⟨zs, s6, s10, rfl, hl, hz, rfl⟩ go
              obtain ⟨hi, rfl⟩ := range_get hd
              refine ⟨trivial, ?_⟩
              walk_at "dgo2"
              obtain ⟨c, hc, ec⟩ := at_any (xs := (Str.ofString "abcdefghijklmnopqrstuvwxyz").cps.toList) (a := (x + 7 * (0 + (i : Int))) % 26) (Int.emod_nonneg _ (by omega)) (by rw [hal]; exact Int.emod_lt_of_pos _ (by omega))
              refine q_ixS (by decide +kernel) ec ?_
              walk_at "dgo2"
              refine q_slS (Nat.le_trans hst.1 (by decide)) ?_
              walk_at "dgo2"
              have g1 := hst.cut none (some y)
              have g2 := hab.sign ec
              have g3 := g1.app g2
              refine q_addS (Nat.le_trans (Nat.add_le_add g1.1 g2.1) (by decide)) ?_
              walk_at "dgo2"
              refine q_slS (Nat.le_trans hst.1 (by decide)) ?_
              walk_at "dgo2"
              have g4 := hst.cut (some y) (some (7 - (x + (0 + (i : Int))) % 2))
              have g5 := g3.app g4
              refine q_addS (Nat.le_trans (Nat.add_le_add g3.1 g4.1) (by decide)) ?_
              walk_at "dgo2"
              refine q_appO rfl rfl (Nat.lt_of_le_of_lt (m := 12) (by rw [List.length_map]; omega) (by decide)) ?_
              walk_at "dgo2"
              refine go _ _ ⟨zs ++ [_], _, _, by rw [← snoc_map]; rfl, by simp [hl], fun z hz' => ?_, rfl⟩
              rcases List.mem_append.mp hz' with hz' | hz'
              · exact hz z hz'
              · rw [List.mem_singleton.mp hz']
                exact g5.mono (by decide)
            · rintro ρ μ1 ⟨zs, s6, s10, rfl, hl, hz, rfl⟩
              rw [range_len] at hl
              refine ⟨trivial, ?_⟩
              walk_at "dgo2"
              exact q zs _ (by omega) hz (by omega)
        · walk_at "dgo2"
          refine take_ok (by walk_at "dmu") (by decide) (by decide) (by omega) fun y y0 y1 => ?_
          walk_at "dgo2"
          refine for_ind (I := fun i ρ μ1 => ∃ (zs : List Str) (s6 s10 : SV), ρ = [.val (.num j), .val (.int k), .val (.str (Str.ofString "abcdefghijklmnopqrstuvwxyz")), .val (.lst (ws.map .str)), .val (.int w), .val (.int x), s6, .val (.str stem), .val (.int y), .own (.lst (zs.map .str)), s10] ∧ zs.length = i ∧ (∀ z ∈ zs, Sg z 40) ∧ μ1 = μ.set j (.box (n + 2 + 8 + 1))) ⟨[], _, _, rfl, rfl, (fun _ h => nomatch h), rfl⟩ ?_ ?_
          · rintro i dd ρ μ1 Z hd ⟨zs, s6, s10, rfl, hl, hz, rfl⟩ go
            obtain ⟨hi, rfl⟩ := range_get hd
            refine ⟨trivial, ?_⟩
            walk_at "dgo2"
            obtain ⟨c, hc, ec⟩ := at_any (xs := (Str.ofString "abcdefghijklmnopqrstuvwxyz").cps.toList) (a := (x + 7 * (0 + (i : Int))) % 26) (Int.emod_nonneg _ (by omega)) (by rw [hal]; exact Int.emod_lt_of_pos _ (by omega))
            refine q_ixS (by decide +kernel) ec ?_
            walk_at "dgo2"
            refine q_slS (Nat.le_trans hst.1 (by decide)) ?_
            walk_at "dgo2"
            have g1 := hst.cut none (some y)
            have g2 := hab.sign ec
            have g3 := g1.app g2
            refine q_addS (Nat.le_trans (Nat.add_le_add g1.1 g2.1) (by decide)) ?_
            walk_at "dgo2"
            refine q_slS (Nat.le_trans hst.1 (by decide)) ?_
            walk_at "dgo2"
            have g4 := hst.cut (some y) (some (7 - (x + (0 + (i : Int))) % 2))
            have g5 := g3.app g4
            refine q_addS (Nat.le_trans (Nat.add_le_add g3.1 g4.1) (by decide)) ?_
            walk_at "dgo2"
            refine q_appO rfl rfl (Nat.lt_of_le_of_lt (m := 12) (by rw [List.length_map]; omega) (by decide)) ?_
            walk_at "dgo2"
            refine go _ _ ⟨zs ++ [_], _, _, by rw [← snoc_map]; rfl, by simp [hl], fun z hz' => ?_, rfl⟩
            rcases List.mem_append.mp hz' with hz' | hz'
            · exact hz z hz'
            · rw [List.mem_singleton.mp hz']
              exact g5.mono (by decide)
          · rintro ρ μ1 ⟨zs, s6, s10, rfl, hl, hz, rfl⟩
            rw [range_len] at hl
            refine ⟨trivial, ?_⟩
            walk_at "dgo2"
            exact q zs _ (by omega) hz (by omega)
end
section
variable {O : Objs} {P : Program} {w : World} {K : PySem.W.Frag} {mg : Str → Option Value} {base : Heap} {f : Nat → Addr} {d : Nat → FuncData}
theorem ok_law_rows (T : Txt O P K mg f d) : FnD O P w K mg base 3 (f 12) (d 12) ["_law_box_here"] sp_law_rows := by
  refine fnD_by T.F_law_rows sc_law_rows (fun ds μ Φ Ψ h => ?_) ⟨_, fun fm W cdv A outer s H E hr gua tk po => (pds_cons (pds_set (i := 1) sc_law_rows.nd rfl (.inl rfl) (pd_ix (hu_of hr) (PDF.pd (pdf_lst (pda_cons (pd_bin opr_add ops_add pd_int (pd_call (ok_law_take T) (hr.mono (by decide)) gua tk rfl T.m_law_take T.k_law_take T.b_law_take (pda_cons (pd_name (i := 0) rfl (by first | exact Or.inl rfl | exact Or.inr (Or.inl rfl) | exact Or.inr (Or.inr rfl))) (pda_cons pd_int pda_nil)))) (pda_cons (pd_bin opr_add ops_add pd_int (pd_call (ok_law_take T) (hr.mono (by decide)) gua tk rfl T.m_law_take T.k_law_take T.b_law_take (pda_cons (pd_name (i := 0) rfl (by first | exact Or.inl rfl | exact Or.inr (Or.inl rfl) | exact Or.inr (Or.inr rfl))) (pda_cons pd_int pda_nil)))) pda_nil)))) (pd_call (ok_law_take T) (hr.mono (by decide)) gua tk rfl T.m_law_take T.k_law_take T.b_law_take (pda_cons (pd_name (i := 0) rfl (by first | exact Or.inl rfl | exact Or.inr (Or.inl rfl) | exact Or.inr (Or.inr rfl))) (pda_cons pd_int pda_nil))) (fun _ _ => rfl)))
      (pds_one (pds_ret (PDF.pd (pdf_lcV (own := [("_law_name", 2)]) [2] rfl rfl sc_law_rows.nd (pdi_list (pd_call (ok_law_names T) (hr.mono (by decide)) gua tk rfl T.m_law_names T.k_law_names T.b_law_names (pda_cons (pd_name (i := 0) rfl (by first | exact Or.inl rfl | exact Or.inr (Or.inl rfl) | exact Or.inr (Or.inr rfl))) (pda_cons (pd_name (i := 1) rfl (by first | exact Or.inl rfl | exact Or.inr (Or.inl rfl) | exact Or.inr (Or.inr rfl))) pda_nil)))) (blkOk_by (own := [("_law_name", 2)]) (N := n_law_rows) (sc := defScope s_law_rows) (by decide +kernel)) (fun _ _ _ _ _ fm => (pdg_name (i := 2) sc_law_rows.nd rfl (.inl rfl) (by decide))) (fun _ _ _ _ _ fm => pdts_nil) (fun _ _ _ _ _ fm => (pd_tup (pda_cons (pd_name (i := 2) rfl (by first | exact Or.inl rfl | exact Or.inr (Or.inl rfl) | exact Or.inr (Or.inr rfl))) (pda_cons (pd_ix (hu_of hr) (PDF.pd (pdf_lst (pda_cons pd_int (pda_cons pd_int (pda_cons pd_int (pda_cons pd_int (pda_cons pd_int (pda_cons pd_int pda_nil)))))))) (pd_call (ok_law_take T) (hr.mono (by decide)) gua takes_no rfl T.m_law_take T.k_law_take T.b_law_take (pda_cons (pd_name (i := 0) rfl (by first | exact Or.inl rfl | exact Or.inr (Or.inl rfl) | exact Or.inr (Or.inr rfl))) (pda_cons pd_int pda_nil))) (fun _ _ => rfl)) pda_nil))))))))), fun ds μ Φ Ψ kp h => ?_⟩
  · obtain ⟨j, n, rfl, hn, e, q⟩ := h
    rfl
  · obtain ⟨j, n, rfl, hn, e, q⟩ := h
    refine start_at (ρ := [.val _, .unk, .unk]) rfl ?_
    walk_at "dgo3"
    refine take_ok (by walk_at "dmu") (by decide) (by decide) (by omega) fun a a0 a1 => ?_
    walk_at "dgo3"
    refine take_ok (by walk_at "dmu") (by decide) (by decide) (by omega) fun b b0 b1 => ?_
    walk_at "dgo3"
    refine take_ok (by walk_at "dmu") (by decide) (by decide) (by omega) fun c c0 c1 => ?_
    walk_at "dgo3"
    obtain ⟨dm, hdm, edm⟩ := at_any (xs := [D.int (1 + a), D.int (1 + b)]) c0 (by simpa using c1)
    obtain ⟨k, rfl, k0, k1⟩ : ∃ k : Nat, dm = .int (k : Int) ∧ 1 ≤ k ∧ k ≤ 12 := by
      simp only [List.mem_cons, List.not_mem_nil, or_false] at hdm
      rcases hdm with rfl | rfl
      · exact ⟨(1 + a).toNat, by rw [Int.toNat_of_nonneg (by omega)], by omega, by omega⟩
      · exact ⟨(1 + b).toNat, by rw [Int.toNat_of_nonneg (by omega)], by omega, by omega⟩
    refine q_ixL (fun z e => nomatch e) rfl edm ?_
    walk_at "dgo3"
    refine q_pass rfl ⟨j, n + 1 + 1 + 1, k, rfl, k0, k1, by omega, by walk_at "dmu", fun zs n' hl hz hn' => ?_⟩
    walk_at "dgo3"
    intro _
    refine ⟨rfl, Nat.le_trans (m := 12) (by rw [List.length_map]; omega) (by decide), ?_⟩
    walk_at "dblk"
    refine lc_ind (I := fun i acc μ1 => ∃ rows : List (Str × Int), acc = rows.map (fun r => .tup [.str r.1, .int r.2]) ∧ rows.length = i ∧ (∀ r ∈ rows, Sg r.1 40 ∧ 0 ≤ r.2 ∧ r.2 ≤ 4) ∧ μ1 = μ.set j (.box (n' + i))) ⟨[], rfl, rfl, (fun _ h => nomatch h), rfl⟩ ?_ ?_
    · rintro i dd acc μ1 Z hd ⟨rows, rfl, hr, hrs, rfl⟩ go
      rw [List.getElem?_map, Option.map_eq_some_iff] at hd
      obtain ⟨z, hz1, rfl⟩ := hd
      have hi : i < zs.length := (List.getElem?_eq_some_iff.mp hz1).1
      refine ⟨trivial, ?_⟩
      walk_at "dgo3"
      refine take_ok (by walk_at "dmu") (by decide) (by decide) (by omega) fun y y0 y1 => ?_
      walk_at "dgo3"
      obtain ⟨dv, hdv, edv⟩ := at_any (xs := [D.int 0, D.int 1, D.int 2, D.int 2, D.int 3, D.int 4]) y0 (by simpa using y1)
      obtain ⟨v, rfl, v0, v1⟩ : ∃ v : Int, dv = .int v ∧ 0 ≤ v ∧ v ≤ 4 := by
        simp only [List.mem_cons, List.not_mem_nil, or_false] at hdv
        rcases hdv with rfl | rfl | rfl | rfl | rfl | rfl <;> exact ⟨_, rfl, by omega, by omega⟩
      refine q_ixL (fun z e => nomatch e) rfl edv ?_
      walk_at "dgo3"
      walk_at "dblk"
      refine go _ _ ⟨rows ++ [(z, v)], by simp, by simp [hr], fun r h => ?_, by simp [Nat.add_assoc]⟩
      rcases List.mem_append.mp h with h | h
      · exact hrs r h
      · rw [List.mem_singleton.mp h]
        exact ⟨hz z (List.mem_of_getElem? hz1), v0, v1⟩
    · rintro acc μ1 ⟨rows, rfl, hr, hrs, rfl⟩
      rw [List.length_map] at hr
      refine ⟨trivial, ?_⟩
      walk_at "dgo3"
      exact q rows _ (by omega) (by omega) hrs (by rw [List.length_map]; omega)
end
section
variable {O : Objs} {P : Program} {w : World} {K : PySem.W.Frag} {mg : Str → Option Value} {base : Heap} {f : Nat → Addr} {d : Nat → FuncData}
theorem ok_law_is_name (T : Txt O P K mg f d) : FnD O P w K mg base 1 (f 13) (d 13) ["_law_thing"] sp_law_is_name := by
  refine fnD_by T.F_law_is_name sc_law_is_name (fun ds μ Φ Ψ h => ?_) ⟨_, fun fm W cdv A outer s H E hr gua tk po => (pds_cons (pds_if (PDW.pt (pdw_or (pdt_not (pdt_val (pd_fn (callr_isi (B := ⟨O, K, fm, W⟩)) (calls_isi (B := ⟨O, K, fm, W⟩) (sh := O.sh) T.kit rfl) (by rfl) T.z_isinstance (by decide +kernel) (pda_cons (pd_name (i := 0) rfl (by first | exact Or.inl rfl | exact Or.inr (Or.inl rfl) | exact Or.inr (Or.inr rfl))) (pda_cons (pd_bt (T := "str") (by rfl) T.z_str (by decide +kernel)) pda_nil))))) (pdw_or1 (pdt_not (pdt_chain op_lt op_lt ops_lt ops_lt pd_int (pd_fn callr_len calls_len (by rfl) T.z_len (by decide +kernel) (pda_cons (pd_name (i := 0) rfl (by first | exact Or.inl rfl | exact Or.inr (Or.inl rfl) | exact Or.inr (Or.inr rfl))) pda_nil)) pd_int))))) (pds_one (pds_ret pd_bl)) pds_nil)
      (pds_one (pds_ret (pd_cmp (opr_eq hr.units) ops_eq (PDF.pd (pdf_lcV (own := [("_law_sign", 1)]) [1] rfl rfl sc_law_is_name.nd (pdi_str (pd_name (i := 0) rfl (by first | exact Or.inl rfl | exact Or.inr (Or.inl rfl) | exact Or.inr (Or.inr rfl)))) (blkOk_by (own := [("_law_sign", 1)]) (N := n_law_is_name) (sc := defScope s_law_is_name) (by decide +kernel)) (fun _ _ _ _ _ fm => (pdg_name (i := 1) sc_law_is_name.nd rfl (.inl rfl) (by decide))) (fun _ _ _ _ _ fm => pdts_one (pdt_not (pdt_chain op_le_str op_le_str ops_str2 ops_str2 pd_str (pd_name (i := 1) rfl (by first | exact Or.inl rfl | exact Or.inr (Or.inl rfl) | exact Or.inr (Or.inr rfl))) pd_str))) (fun _ _ _ _ _ fm => (pd_name (i := 1) rfl (by first | exact Or.inl rfl | exact Or.inr (Or.inl rfl) | exact Or.inr (Or.inr rfl)))))) (PDF.pd (pdf_lst pda_nil)) (nomark _))))), fun ds μ Φ Ψ kp h => ?_⟩
  · obtain ⟨t, x, rfl, th, sh, q⟩ := h
    rfl
  · obtain ⟨t, x, rfl, th, sh, q⟩ := h
    refine start_at (ρ := [.val _, .unk]) rfl ?_
    walk_at "dgo3"
    refine q_isD th (by decide) fun a ha => ?_
    walk_at "dgo3"
    cases x with
    | str z =>
      cases ha
      obtain rfl := th.str
      have hz : z.length ≤ 2000 := sh
      have q1 : Φ (.bl (nameQ z)) μ := q
      unfold nameQ at q1
      refine q_f ?_
      walk_at "dgo3"
      refine q_lenS (Nat.le_trans hz (by decide)) ?_
      walk_at "dgo3"
      refine q_cm (fun h => ?_) (fun h => ?_)
      · walk_at "dgo3"
        refine q_ntwo (fun h2 => ?_) (fun h2 => ?_)
        · walk_at "dgo3"
          have e2 : decide (z.length ≤ 8) = false := by
            rw [decide_eq_false_iff_not]
            omega
          rw [e2, Bool.and_false, Bool.false_and] at q1
          exact q1
        · have e1 : decide (1 ≤ z.length) = true := by
            rw [decide_eq_true_iff] at h ⊢
            omega
          have e2 : decide (z.length ≤ 8) = true := by
            rw [decide_eq_true_iff]
            omega
          rw [e1, e2, Bool.and_self, Bool.true_and] at q1
          walk_at "dgo3"
          refine ⟨rfl, by rw [strD_len]; exact Nat.le_trans hz (by decide), ?_⟩
          walk_at "dblk"
          refine lc_fm (fun d => match d with | .str y => if (decide (97 ≤ y.cps.toList.head?.getD 0) && decide (y.cps.toList.head?.getD 0 ≤ 122)) = true then none else some d | _ => none) trivial ?_ ?_
          · intro d acc Z hd go
            obtain ⟨c, hc, rfl⟩ := strD_mem hd
            walk_at "dgo3"
            rw [sign_le1]
            have go' : Z (acc ++ (if (decide (97 ≤ c) && decide (c ≤ 122)) = true then none else some (D.str ⟨#[c]⟩)).toList) [SV.val (D.str z), SV.unk] μ := go
            refine q_cm (fun h1 => ?_) (fun h1 => ?_)
            · walk_at "dgo3"
              rw [sign_le2]
              rw [h1, Bool.true_and] at go'
              refine q_ntwo (fun h3 => ?_) (fun h3 => ?_)
              · walk_at "dgo3"
                walk_at "dblk"
                rw [if_neg (by simpa using h3)] at go'
                exact go'
              · walk_at "dblk"
                rw [if_pos (by simpa using h3)] at go'
                simpa using go'
            · rw [h1, Bool.false_and, if_neg (by decide)] at go'
              walk_at "dgo3"
              refine q_t ?_
              walk_at "dgo3"
              walk_at "dblk"
              exact go'
          · walk_at "dgo3"
            refine q_eqNil (fun d hd => ?_) ?_
            · obtain ⟨y, hy, e⟩ := List.mem_filterMap.mp hd
              obtain ⟨c, hc, rfl⟩ := strD_mem hy
              dsimp only at e
              split at e
              · cases e
              · cases e
                rfl
            · walk_at "dgo3"
              have e3 : ((strD z).filterMap fun d => match d with | .str y => if (decide (97 ≤ y.cps.toList.head?.getD 0) && decide (y.cps.toList.head?.getD 0 ≤ 122)) = true then none else some d | _ => none).isEmpty = (TL.tl z).all fun c => decide (97 ≤ c) && decide (c ≤ 122) := by
                rw [Bool.eq_iff_iff, List.isEmpty_iff, List.filterMap_eq_nil_iff, List.all_eq_true]
                constructor
                · intro h c hc
                  have h5 := h (.str ⟨#[c]⟩) (List.mem_map.mpr ⟨c, hc, rfl⟩)
                  dsimp only at h5
                  split at h5
                  · assumption
                  · cases h5
                · intro h d hd
                  obtain ⟨c, hc, rfl⟩ := strD_mem hd
                  have h5 := h c hc
                  dsimp only
                  exact if_pos h5
              rw [e3]
              exact q1
      · walk_at "dgo3"
        refine q_t ?_
        walk_at "dgo3"
        have e1 : decide (1 ≤ z.length) = false := by
          rw [decide_eq_false_iff_not] at h ⊢
          omega
        rw [e1, Bool.false_and, Bool.false_and] at q1
        exact q1
    | _ => cases ha <;> (refine q_t ?_; walk_at "dgo3"; exact q)
end
section
variable {O : Objs} {P : Program} {w : World} {K : PySem.W.Frag} {mg : Str → Option Value} {base : Heap} {f : Nat → Addr} {d : Nat → FuncData}
theorem ok_law_are_words (T : Txt O P K mg f d) : FnD O P w K mg base 2 (f 14) (d 14) ["_law_thing"] sp_law_are_words := by
  refine fnD_by T.F_law_are_words sc_law_are_words (fun ds μ Φ Ψ h => ?_) ⟨_, fun fm W cdv A outer s H E hr gua tk po => (pds_cons (pds_if (PDW.pt (pdw_or (pdt_not (pdt_val (pd_fn (callr_isi (B := ⟨O, K, fm, W⟩)) (calls_isi (B := ⟨O, K, fm, W⟩) (sh := O.sh) T.kit rfl) (by rfl) T.z_isinstance (by decide +kernel) (pda_cons (pd_name (i := 0) rfl (by first | exact Or.inl rfl | exact Or.inr (Or.inl rfl) | exact Or.inr (Or.inr rfl))) (pda_cons (pd_tup (pda_cons (pd_bt (T := "list") (by rfl) T.z_list (by decide +kernel)) (pda_cons (pd_bt (T := "tuple") (by rfl) T.z_tuple (by decide +kernel)) pda_nil))) pda_nil))))) (pdw_or1 (pdt_not (pdt_chain op_lt op_lt ops_lt ops_lt pd_int (pd_fn callr_len calls_len (by rfl) T.z_len (by decide +kernel) (pda_cons (pd_name (i := 0) rfl (by first | exact Or.inl rfl | exact Or.inr (Or.inl rfl) | exact Or.inr (Or.inr rfl))) pda_nil)) pd_int))))) (pds_one (pds_ret pd_bl)) pds_nil)
      (pds_cons (pds_own (i := 1) sc_law_are_words.nd rfl (.inl rfl) (pdf_lst pda_nil))
      (pds_cons (pds_for (ts := [2]) po rfl tk (Dl.PDI.or (pdi_list (pd_name (i := 0) rfl (by first | exact Or.inl rfl | exact Or.inr (Or.inl rfl) | exact Or.inr (Or.inr rfl)))) (pdi_tup (pd_name (i := 0) rfl (by first | exact Or.inl rfl | exact Or.inr (Or.inl rfl) | exact Or.inr (Or.inr rfl))))) (fun fm W tk => (pdg_name (i := 2) sc_law_are_words.nd rfl (.inl rfl) (by decide))) (fun fm W tk => (pds_cons (pds_if (PDW.pt (pdw_or (pdt_not (pdt_val (pd_fn (callr_isi (B := ⟨O, K, fm, W⟩)) (calls_isi (B := ⟨O, K, fm, W⟩) (sh := O.sh) T.kit rfl) (by rfl) T.z_isinstance (by decide +kernel) (pda_cons (pd_name (i := 2) rfl (by first | exact Or.inl rfl | exact Or.inr (Or.inl rfl) | exact Or.inr (Or.inr rfl))) (pda_cons (pd_bt (T := "tuple") (by rfl) T.z_tuple (by decide +kernel)) pda_nil))))) (pdw_or (pdt_cmp (opr_ne hr.units) ops_ne (pd_fn callr_len calls_len (by rfl) T.z_len (by decide +kernel) (pda_cons (pd_name (i := 2) rfl (by first | exact Or.inl rfl | exact Or.inr (Or.inl rfl) | exact Or.inr (Or.inr rfl))) pda_nil)) pd_int (nomark _)) (pdw_or (pdt_not (pdt_val (pd_call (ok_law_is_name T) (hr.mono (by decide)) gua tk rfl T.m_law_is_name T.k_law_is_name T.b_law_is_name (pda_cons (pd_ix (hu_of hr) (pd_name (i := 2) rfl (by first | exact Or.inl rfl | exact Or.inr (Or.inl rfl) | exact Or.inr (Or.inr rfl))) pd_int (fun _ _ => rfl)) pda_nil)))) (pdw_or1 (pdt_cmp (opr_in hr.units) ops_in (pd_ix (hu_of hr) (pd_name (i := 2) rfl (by first | exact Or.inl rfl | exact Or.inr (Or.inl rfl) | exact Or.inr (Or.inr rfl))) pd_int (fun _ _ => rfl)) (pd_name (i := 1) rfl (by first | exact Or.inl rfl | exact Or.inr (Or.inl rfl) | exact Or.inr (Or.inr rfl))) rfl)))))) (pds_one (pds_ret pd_bl)) pds_nil)
      (pds_cons (pds_if (PDW.pt (pdw_or (pdt_not (pdt_val (pd_fn (callr_isi (B := ⟨O, K, fm, W⟩)) (calls_isi (B := ⟨O, K, fm, W⟩) (sh := O.sh) T.kit rfl) (by rfl) T.z_isinstance (by decide +kernel) (pda_cons (pd_ix (hu_of hr) (pd_name (i := 2) rfl (by first | exact Or.inl rfl | exact Or.inr (Or.inl rfl) | exact Or.inr (Or.inr rfl))) pd_int (fun _ _ => rfl)) (pda_cons (pd_bt (T := "int") (by rfl) T.z_int (by decide +kernel)) pda_nil))))) (pdw_or (pdt_val (pd_fn (callr_isi (B := ⟨O, K, fm, W⟩)) (calls_isi (B := ⟨O, K, fm, W⟩) (sh := O.sh) T.kit rfl) (by rfl) T.z_isinstance (by decide +kernel) (pda_cons (pd_ix (hu_of hr) (pd_name (i := 2) rfl (by first | exact Or.inl rfl | exact Or.inr (Or.inl rfl) | exact Or.inr (Or.inr rfl))) pd_int (fun _ _ => rfl)) (pda_cons (pd_bt (T := "bool") (by rfl) T.z_bool (by decide +kernel)) pda_nil)))) (pdw_or1 (pdt_not (pdt_chain op_le op_le ops_le ops_le pd_int (pd_ix (hu_of hr) (pd_name (i := 2) rfl (by first | exact Or.inl rfl | exact Or.inr (Or.inl rfl) | exact Or.inr (Or.inr rfl))) pd_int (fun _ _ => rfl)) pd_int)))))) (pds_one (pds_ret pd_bl)) pds_nil)
      (pds_one (pds_expr (pd_bm PySem.F.plainAttrs_list PySem.F.slot_list_append PySem.F.type_list_append mtr_append mts_append (pd_name (i := 1) rfl (by first | exact Or.inl rfl | exact Or.inr (Or.inl rfl) | exact Or.inr (Or.inr rfl))) (pda_cons (pd_ix (hu_of hr) (pd_name (i := 2) rfl (by first | exact Or.inl rfl | exact Or.inr (Or.inl rfl) | exact Or.inr (Or.inr rfl))) pd_int (fun _ _ => rfl)) pda_nil))))))))
      (pds_one (pds_ret pd_bl))))), fun ds μ Φ Ψ kp h => ?_⟩
  · obtain ⟨t, x, rfl, th, el, q⟩ := h
    rfl
  · obtain ⟨t, x, rfl, th, el, q⟩ := h
    refine start_at (ρ := [.val _, .unk, .unk]) rfl ?_
    walk_at "dgo4"
    refine q_isD2 th (by decide) (by decide) fun a ha => ?_
    walk_at "dgo4"
    rw [kind_seq ha]
    cases hx : x.items with
    | none =>
      refine q_t ?_
      walk_at "dgo4"
      have : rowsB x = false := by cases x <;> first | rfl | cases hx
      rw [this] at q
      exact q
    | some xs =>
      refine q_f ?_
      walk_at "dgo4"
      refine q_lenL (fun z e => by subst e; cases th.lk; cases hx) (th.seq.trans hx) ?_
      walk_at "dgo4"
      have er : rowsB x = rowsL xs := by cases x <;> cases hx <;> first | rfl | (cases ha)
      rw [er] at q
      refine q_cm (fun h => ?_) (fun h => ?_)
      · walk_at "dgo4"
        refine q_ntwo (fun h2 => ?_) (fun h2 => ?_)
        · walk_at "dgo4"
          rw [rows_len (by omega)] at q
          exact q
        · have h0 : 0 < xs.length := by
            rw [decide_eq_true_iff] at h
            omega
          walk_at "dgo4"
          refine q_walk rfl th hx fun C hC sz => ?_
          refine for_ind (I := fun i ρ μ1 => ∃ s2, ρ = [.val t, .own (.lst (((xs.take i).map firstS).map .str)), s2] ∧ (∀ d ∈ xs.take i, rowB d = true) ∧ ((xs.take i).map firstS).Nodup ∧ μ1 = μ) ⟨_, rfl, (fun d h => by simp at h), by simp, rfl⟩ ?_ ?_
          · rintro i d ρ μ1 Z hd ⟨s2, rfl, hall, hnd, rfl⟩ go
            have hm := List.mem_of_getElem? hd
            obtain ⟨thd, eld⟩ := el.th (μ := μ1) hx hm
            refine ⟨hC _, ?_⟩
            walk_at "dgo4"
            refine q_isD thd (by decide) fun a ha => ?_
            walk_at "dgo4"
            cases d with
            | tup ys =>
              cases ha
              refine q_f ?_
              walk_at "dgo4"
              refine q_lenL (fun z e => nomatch e) rfl ?_
              walk_at "dgo4"
              refine q_two (fun h3 => ?_) (fun h3 => ?_)
              · walk_at "dgo4"
                rw [rows_bad hm (row_two fun a b e => h3 (by rw [e]; rfl))] at q
                exact q
              · obtain ⟨a, b, rfl⟩ : ∃ a b, ys = [a, b] := by
                  match ys, h3 with
                  | [a, b], _ => exact ⟨a, b, rfl⟩
                  | [], h => simp at h
                  | [a], h => simp at h
                  | a :: b :: c :: r, h => simp at h; omega
                obtain ⟨tha, sa⟩ := eld.th (μ := μ1) rfl (y := a) (by simp)
                obtain ⟨thb, sb⟩ := eld.th (μ := μ1) rfl (y := b) (by simp)
                walk_at "dgo4"
                refine q_ixL (fun z e => nomatch e) rfl (x := a) rfl ?_
                walk_at "dgo4"
                refine q_pass (pass_one tha.kp) ⟨a, a, rfl, tha, sa, ?_⟩
                walk_at "dgo4"
                refine q_nbr (fun ea => ?_) (fun ea => ?_)
                · walk_at "dgo4"
                  rw [rows_bad hm (show (nameB a && wholeT b 0 4) = false by rw [ea, Bool.false_and])] at q
                  exact q
                · obtain ⟨z, rfl⟩ : ∃ z, a = .str z := by
                    cases a with
                    | str z => exact ⟨z, rfl⟩
                    | _ => cases ea
                  walk_at "dgo4"
                  refine q_ixL (fun z e => nomatch e) rfl (x := .str z) rfl ?_
                  walk_at "dgo4"
                  refine q_inL rfl rfl datas_str low_str ?_
                  rw [any_str]
                  walk_at "dgo4"
                  refine q_two (fun h4 => ?_) (fun h4 => ?_)
                  · walk_at "dgo4"
                    rw [rows_dup hd h4] at q
                    exact q
                  · walk_at "dgo4"
                    refine q_ixL (fun z e => nomatch e) rfl (x := b) rfl ?_
                    walk_at "dgo4"
                    refine q_isD thb (by decide) fun a ha => ?_
                    walk_at "dgo4"
                    cases b with
                    | int n =>
                      cases ha
                      refine q_f ?_
                      walk_at "dgo4"
                      refine q_ixL (fun z e => nomatch e) rfl (x := .int n) rfl ?_
                      walk_at "dgo4"
                      refine q_isD thb (by decide) fun a ha => ?_
                      walk_at "dgo4"
                      cases ha
                      refine q_f ?_
                      walk_at "dgo4"
                      refine q_ixL (fun z e => nomatch e) rfl (x := .int n) rfl ?_
                      walk_at "dgo4"
                      refine q_cm (fun h5 => ?_) (fun h5 => ?_)
                      · walk_at "dgo4"
                        refine q_ntwo (fun h6 => ?_) (fun h6 => ?_)
                        · walk_at "dgo4"
                          rw [rows_bad hm (show (nameB (.str z) && (decide (0 ≤ n) && decide (n ≤ 4))) = false by rw [decide_eq_false h6, Bool.and_false, Bool.and_false])] at q
                          exact q
                        · have hrow : rowB (.tup [.str z, .int n]) = true := by
                            show (nameB (.str z) && (decide (0 ≤ n) && decide (n ≤ 4))) = true
                            rw [ea, h5, decide_eq_true h6]
                            rfl
                          walk_at "dgo4"
                          refine q_ixL (fun z e => nomatch e) rfl (x := .str z) rfl ?_
                          walk_at "dgo4"
                          refine q_appO rfl rfl (Nat.lt_of_le_of_lt (m := 12) (by rw [List.length_map, List.length_map, List.length_take]; omega) (by decide)) ?_
                          walk_at "dgo4"
                          have et : xs.take (i + 1) = xs.take i ++ [.tup [.str z, .int n]] := by
                            rw [List.take_add_one, hd]
                            rfl
                          refine go _ _ ⟨_, by rw [et, List.map_append, List.map_append]; rfl, fun d hd' => ?_, ?_, rfl⟩
                          · rw [et] at hd'
                            rcases List.mem_append.mp hd' with hd' | hd'
                            · exact hall d hd'
                            · rw [List.mem_singleton.mp hd']
                              exact hrow
                          · rw [et, List.map_append, List.nodup_append]
                            refine ⟨hnd, by simp, fun a ha b hb => ?_⟩
                            rintro rfl
                            rw [List.map_cons, List.map_nil, List.mem_singleton] at hb
                            rw [hb] at ha
                            exact h4 ha
                      · walk_at "dgo4"
                        refine q_t ?_
                        walk_at "dgo4"
                        rw [rows_bad hm (show (nameB (.str z) && (decide (0 ≤ n) && decide (n ≤ 4))) = false by rw [h5, Bool.false_and, Bool.and_false])] at q
                        exact q
                    | bl v =>
                      cases ha
                      refine q_f ?_
                      walk_at "dgo4"
                      refine q_ixL (fun z e => nomatch e) rfl (x := .bl v) rfl ?_
                      walk_at "dgo4"
                      refine q_isD thb (by decide) fun a ha => ?_
                      walk_at "dgo4"
                      cases ha
                      refine q_t ?_
                      walk_at "dgo4"
                      rw [rows_bad hm (show (nameB (.str z) && wholeT (.bl v) 0 4) = false by rw [show wholeT (.bl v) 0 4 = false from rfl, Bool.and_false])] at q
                      exact q
                    | _ => cases ha <;> (refine q_t ?_; walk_at "dgo4"; rw [rows_bad hm (Bool.and_false _)] at q; exact q)
            | _ => cases ha <;> (refine q_t ?_; walk_at "dgo4"; rw [rows_bad hm rfl] at q; exact q)
          · rintro ρ μ1 ⟨s2, rfl, hall, hnd, rfl⟩
            rw [List.take_length] at hall hnd
            refine ⟨hC _, ?_⟩
            walk_at "dgo4"
            rw [rows_ok (by omega) (by omega) hall hnd] at q
            exact q
      · walk_at "dgo4"
        refine q_t ?_
        walk_at "dgo4"
        rw [decide_eq_false_iff_not] at h
        rw [rows_len (by omega)] at q
        exact q
end
section
variable {O : Objs} {P : Program} {w : World} {K : PySem.W.Frag} {mg : Str → Option Value} {base : Heap} {f : Nat → Addr} {d : Nat → FuncData}
theorem ok_law_row_otherwise (T : Txt O P K mg f d) : FnD O P w K mg base 2 (f 15) (d 15) ["_law_box_here", "_law_rows_here", "_law_row"] sp_law_row_otherwise := by
  refine fnD_by T.F_law_row_otherwise sc_law_row_otherwise (fun ds μ Φ Ψ h => ?_) ⟨_, fun fm W cdv A outer s H E hr gua tk po => (pds_cons (pds_set (i := 3) sc_law_row_otherwise.nd rfl (.inl rfl) (pd_call (ok_law_take T) (hr.mono (by decide)) gua tk rfl T.m_law_take T.k_law_take T.b_law_take (pda_cons (pd_name (i := 0) rfl (by first | exact Or.inl rfl | exact Or.inr (Or.inl rfl) | exact Or.inr (Or.inr rfl))) (pda_cons pd_int pda_nil))))
      (pds_cons (pds_asg (ts := [4, 5]) (pd_name (i := 2) rfl (by first | exact Or.inl rfl | exact Or.inr (Or.inl rfl) | exact Or.inr (Or.inr rfl))) (pdg_tup rfl (pdgs_cons (fun fm => (pdg_name (i := 4) sc_law_row_otherwise.nd rfl (.inl rfl) (by decide))) (pdgs_cons (fun fm => (pdg_name (i := 5) sc_law_row_otherwise.nd rfl (.inl rfl) (by decide))) pdgs_nil)) (gdCons_len gdName_ends (gdCons_len gdName_ends gdNil_len))))
      (pds_cons (pds_if (pdt_cmp (opr_eq hr.units) ops_eq (pd_name (i := 3) rfl (by first | exact Or.inl rfl | exact Or.inr (Or.inl rfl) | exact Or.inr (Or.inr rfl))) pd_int (nomark _)) (pds_cons (pds_set (i := 6) sc_law_row_otherwise.nd rfl (.inl rfl) (PDF.pd (pdf_lst (pda_cons (PDF.pd (pdf_ty callr_list callf_list (by rfl) T.z_list (by decide +kernel) (pda_cons (pd_name (i := 2) rfl (by first | exact Or.inl rfl | exact Or.inr (Or.inl rfl) | exact Or.inr (Or.inr rfl))) pda_nil))) (pda_cons (pd_tup (pda_cons (pd_name (i := 4) rfl (by first | exact Or.inl rfl | exact Or.inr (Or.inl rfl) | exact Or.inr (Or.inr rfl))) pda_nil)) (pda_cons (pd_tup (pda_cons (pd_name (i := 4) rfl (by first | exact Or.inl rfl | exact Or.inr (Or.inl rfl) | exact Or.inr (Or.inr rfl))) (pda_cons (pd_name (i := 5) rfl (by first | exact Or.inl rfl | exact Or.inr (Or.inl rfl) | exact Or.inr (Or.inr rfl))) (pda_cons pd_int pda_nil)))) (pda_cons (pd_tup (pda_cons (pd_name (i := 5) rfl (by first | exact Or.inl rfl | exact Or.inr (Or.inl rfl) | exact Or.inr (Or.inr rfl))) (pda_cons (pd_name (i := 4) rfl (by first | exact Or.inl rfl | exact Or.inr (Or.inl rfl) | exact Or.inr (Or.inr rfl))) pda_nil))) (pda_cons pd_non pda_nil))))))))
      (pds_one (pds_ret (pd_ix (hu_of hr) (PDF.pd (pdf_cat (pd_name (i := 6) rfl (by first | exact Or.inl rfl | exact Or.inr (Or.inl rfl) | exact Or.inr (Or.inr rfl))) (PDF.pd (pdf_lst (pda_cons (pd_name (i := 4) rfl (by first | exact Or.inl rfl | exact Or.inr (Or.inl rfl) | exact Or.inr (Or.inr rfl))) (pda_cons (PDF.pd pdf_dnew) (pda_cons (pd_tup (pda_cons (pd_name (i := 2) rfl (by first | exact Or.inl rfl | exact Or.inr (Or.inl rfl) | exact Or.inr (Or.inr rfl))) pda_nil)) (pda_cons (pd_tup pda_nil) pda_nil)))))))) (pd_call (ok_law_take T) (hr.mono (by decide)) gua tk rfl T.m_law_take T.k_law_take T.b_law_take (pda_cons (pd_name (i := 0) rfl (by first | exact Or.inl rfl | exact Or.inr (Or.inl rfl) | exact Or.inr (Or.inr rfl))) (pda_cons pd_int pda_nil))) (fun _ _ => rfl))))) pds_nil)
      (pds_cons (pds_if (pdt_cmp (opr_eq hr.units) ops_eq (pd_name (i := 3) rfl (by first | exact Or.inl rfl | exact Or.inr (Or.inl rfl) | exact Or.inr (Or.inr rfl))) pd_int (nomark _)) (pds_cons (pds_set (i := 6) sc_law_row_otherwise.nd rfl (.inl rfl) (PDF.pd (pdf_lst (pda_cons pd_non (pda_cons pd_str (pda_cons pd_str (pda_cons pd_str (pda_cons pd_str (pda_cons pd_str (pda_cons pd_int (pda_cons pd_bl (pda_cons (PDF.pd (pdf_lst (pda_cons pd_str pda_nil))) (pda_cons (pd_tup (pda_cons pd_str pda_nil)) (pda_cons (pd_ix (hu_of hr) (pd_ix (hu_of hr) (pd_name (i := 1) rfl (by first | exact Or.inl rfl | exact Or.inr (Or.inl rfl) | exact Or.inr (Or.inr rfl))) pd_int (fun _ _ => rfl)) pd_int (fun _ _ => rfl)) (pda_cons pd_str (pda_cons pd_str pda_nil))))))))))))))))
      (pds_one (pds_ret (pd_tup (pda_cons (pd_ix (hu_of hr) (pd_name (i := 6) rfl (by first | exact Or.inl rfl | exact Or.inr (Or.inl rfl) | exact Or.inr (Or.inr rfl))) (pd_call (ok_law_take T) (hr.mono (by decide)) gua tk rfl T.m_law_take T.k_law_take T.b_law_take (pda_cons (pd_name (i := 0) rfl (by first | exact Or.inl rfl | exact Or.inr (Or.inl rfl) | exact Or.inr (Or.inr rfl))) (pda_cons pd_int pda_nil))) (fun _ _ => rfl)) (pda_cons (pd_name (i := 5) rfl (by first | exact Or.inl rfl | exact Or.inr (Or.inl rfl) | exact Or.inr (Or.inr rfl))) pda_nil)))))) pds_nil)
      (pds_one (pds_ret (pd_tup (pda_cons (pd_name (i := 4) rfl (by first | exact Or.inl rfl | exact Or.inr (Or.inl rfl) | exact Or.inr (Or.inr rfl))) (pda_cons (pd_ix (hu_of hr) (PDF.pd (pdf_lst (pda_cons (pd_un un_neg uns_neg pd_int) (pda_cons pd_int (pda_cons pd_bl (pda_cons pd_bl (pda_cons pd_non (pda_cons pd_str (pda_cons (PDF.pd (pdf_lst (pda_cons pd_int pda_nil))) (pda_cons (pd_bin op_pow ops_pow pd_int pd_int) (pda_cons pd_int (pda_cons pd_int pda_nil)))))))))))) (pd_call (ok_law_take T) (hr.mono (by decide)) gua tk rfl T.m_law_take T.k_law_take T.b_law_take (pda_cons (pd_name (i := 0) rfl (by first | exact Or.inl rfl | exact Or.inr (Or.inl rfl) | exact Or.inr (Or.inr rfl))) (pda_cons pd_int pda_nil))) (fun _ _ => rfl)) pda_nil))))))))), fun ds μ Φ Ψ kp h => ?_⟩
  · obtain ⟨j, n, rows, a, b, rfl, hn, e, hr, hs, ha, hb, q⟩ := h
    rfl
  · obtain ⟨j, n, rows, a, b, rfl, hn, e, hr, hs, ha, hb, q⟩ := h
    refine start_at (ρ := [.val _, .val _, .val _, .unk, .unk, .unk, .unk]) rfl ?_
    walk_at "dgo7"
    refine take_ok (by walk_at "dmu") (by decide) (by decide) (by omega) fun w w0 w1 => ?_
    walk_at "dgo7"
    have hA : ∀ x ∈ [a, b], Atom x := two_mem ha hb
    have hka := ha.kd.kp
    have hkb := hb.kd.kp
    refine q_two (fun h => ?_) (fun h => ?_)
    · walk_at "dgo7"
      refine take_ok (by walk_at "dmu") (by decide) (by decide) (by omega) fun v v0 v1 => ?_
      walk_at "dgo7"
      obtain ⟨y, hy, ey⟩ := at_any (xs := [D.lst [a, b], .tup [a], .tup [a, b, .int 0], .tup [b, a], .non] ++ [a, .dic [], .tup [.tup [a, b]], .tup []]) v0 (by simpa using v1)
      refine q_ixL (fun z e => nomatch e) rfl ey ?_
      have hI : Itm y := by
        simp only [List.cons_append, List.nil_append, List.mem_cons, List.not_mem_nil, or_false] at hy
        rcases hy with rfl | rfl | rfl | rfl | rfl | rfl | rfl | rfl | rfl
        · exact Itm.lst hA (by simp)
        · exact Itm.tup (fun x hx => by rw [List.mem_singleton.mp hx]; exact ha) (by simp)
        · refine Itm.tup (fun x hx => ?_) (by simp)
          rcases List.mem_cons.mp hx with rfl | hx
          · exact ha
          · exact two_mem hb (Atom.int (by decide)) x hx
        · exact Itm.tup (two_mem hb ha) (by simp)
        · exact Atom.non.itm
        · exact ha.itm
        · exact Itm.dic0
        · exact Itm.one (Itm.tup hA (by simp)) ((Fit.tup (fun x hx => (hA x hx).ft) (m := 2) (by simp)).mono (by decide) (by decide))
        · exact Itm.tup (fun x hx => nomatch hx) (by simp)
      have hky := hI.kd.kp
      walk_at "dgo7"
      exact q y (n + 1 + 1) hI (by omega)
    · walk_at "dgo7"
      refine q_two (fun h => ?_) (fun h => ?_)
      · walk_at "dgo7"
        obtain ⟨r0, rest, rfl⟩ : ∃ r0 rest, rows = r0 :: rest := by
          cases rows with
          | nil => simp at hr
          | cons r0 rest => exact ⟨r0, rest, rfl⟩
        refine q_ixL (fun z e => nomatch e) rfl (x := rowT r0) atI_zero ?_
        walk_at "dgo7"
        refine q_ixL (fun z e => nomatch e) rfl (x := .str r0.1) rfl ?_
        walk_at "dgo7"
        refine take_ok (by walk_at "dmu") (by decide) (by decide) (by omega) fun v v0 v1 => ?_
        walk_at "dgo7"
        have hr0 := hs r0 List.mem_cons_self
        obtain ⟨y, hy, ey⟩ := at_any (xs := [D.non, .str (Str.ofString ""), .str (Str.ofString "A"), .str (Str.ofString "ninechars"), .str (Str.ofString "a1"), .str (Str.ofString "a b"), .int 5, .bl true, .lst [.str (Str.ofString "a")], .tup [.str (Str.ofString "a")], .str r0.1, .str (Str.ofString "aaaaaaaa"), .str (Str.ofString "a\n")]) v0 (by simpa using v1)
        refine q_ixL (fun z e => nomatch e) rfl ey ?_
        have sg : ∀ {z : Str}, (decide (z.length ≤ 20) && (TL.tl z).all (fun c => decide (c < 1114112))) = true → Sg z 20 := fun h => Sg.of h
        have hAt : Atom y := by
          simp only [List.mem_cons, List.not_mem_nil, or_false] at hy
          rcases hy with rfl | rfl | rfl | rfl | rfl | rfl | rfl | rfl | rfl | rfl | rfl | rfl | rfl
          · exact Atom.non
          · exact Atom.str ((sg (by decide +kernel)).mono (by decide))
          · exact Atom.str ((sg (by decide +kernel)).mono (by decide))
          · exact Atom.str ((sg (by decide +kernel)).mono (by decide))
          · exact Atom.str ((sg (by decide +kernel)).mono (by decide))
          · exact Atom.str ((sg (by decide +kernel)).mono (by decide))
          · exact Atom.int (by decide)
          · exact Atom.bl
          · exact (Atom.one ⟨_, rfl, sg (by decide +kernel)⟩).1
          · exact (Atom.one ⟨_, rfl, sg (by decide +kernel)⟩).2
          · exact Atom.str hr0
          · exact Atom.str ((sg (by decide +kernel)).mono (by decide))
          · exact Atom.str ((sg (by decide +kernel)).mono (by decide))
        have hky := hAt.kd.kp
        walk_at "dgo7"
        exact q _ (n + 1 + 1) (Itm.tup (two_mem hAt hb) (by simp)) (by omega)
      · walk_at "dgo7"
        refine take_ok (by walk_at "dmu") (by decide) (by decide) (by omega) fun v v0 v1 => ?_
        walk_at "dgo7"
        obtain ⟨y, hy, ey⟩ := at_any (xs := [D.int (-1), .int 5, .bl true, .bl false, .non, .str (Str.ofString "2"), .lst [.int 2], .int (10 ^ Int.toNat 29), .int 0, .int 4]) v0 (by simpa using v1)
        refine q_ixL (fun z e => nomatch e) rfl ey ?_
        have hAt : Atom y := by
          simp only [List.mem_cons, List.not_mem_nil, or_false] at hy
          rcases hy with rfl | rfl | rfl | rfl | rfl | rfl | rfl | rfl | rfl | rfl
          · exact Atom.int (by decide)
          · exact Atom.int (by decide)
          · exact Atom.bl
          · exact Atom.bl
          · exact Atom.non
          · exact Atom.str (Sg.of (by decide +kernel))
          · exact Atom.oneI (by decide)
          · exact Atom.int (by decide)
          · exact Atom.int (by decide)
          · exact Atom.int (by decide)
        have hky := hAt.kd.kp
        walk_at "dgo7"
        exact q _ (n + 1 + 1) (Itm.tup (two_mem ha hAt) (by simp)) (by omega)
end
section
variable {O : Objs} {P : Program} {w : World} {K : PySem.W.Frag} {mg : Str → Option Value} {base : Heap} {f : Nat → Addr} {d : Nat → FuncData}
theorem ok_law_otherwise (T : Txt O P K mg f d) : FnD O P w K mg base 3 (f 16) (d 16) ["_law_box_here", "_law_rows_here"] sp_law_otherwise := by
  refine fnD_by T.F_law_otherwise sc_law_otherwise (fun ds μ Φ Ψ h => ?_) ⟨_, fun fm W cdv A outer s H E hr gua tk po => (pds_cons (pds_set (i := 2) sc_law_otherwise.nd rfl (.inl rfl) (pd_call (ok_law_take T) (hr.mono (by decide)) gua tk rfl T.m_law_take T.k_law_take T.b_law_take (pda_cons (pd_name (i := 0) rfl (by first | exact Or.inl rfl | exact Or.inr (Or.inl rfl) | exact Or.inr (Or.inr rfl))) (pda_cons pd_int pda_nil))))
      (pds_cons (pds_set (i := 3) sc_law_otherwise.nd rfl (.inl rfl) (PDF.num (pdf_ty callr_list callf_list (by rfl) T.z_list (by decide +kernel) (pda_cons (pd_name (i := 1) rfl (by first | exact Or.inl rfl | exact Or.inr (Or.inl rfl) | exact Or.inr (Or.inr rfl))) pda_nil))))
      (pds_cons (pds_if (pdt_cmp (opr_eq hr.units) ops_eq (pd_name (i := 2) rfl (by first | exact Or.inl rfl | exact Or.inr (Or.inl rfl) | exact Or.inr (Or.inr rfl))) pd_int (nomark _)) (pds_one (pds_ret (pd_ix (hu_of hr) (PDF.pd (pdf_lst (pda_cons pd_non (pda_cons (PDF.num pdf_dnew) (pda_cons (PDF.num (pdf_ty (callr_dictP rfl) callf_dictP (by rfl) T.z_dict (by decide +kernel) (pda_cons (pd_name (i := 1) rfl (by first | exact Or.inl rfl | exact Or.inr (Or.inl rfl) | exact Or.inr (Or.inr rfl))) pda_nil))) (pda_cons pd_str (pda_cons pd_int (pda_cons pd_bl (pda_cons (PDF.num (pdf_lst pda_nil)) (pda_cons (pd_tup pda_nil) (pda_cons (pd_ix (hu_of hr) (pd_name (i := 1) rfl (by first | exact Or.inl rfl | exact Or.inr (Or.inl rfl) | exact Or.inr (Or.inr rfl))) pd_int (fun _ _ => rfl)) pda_nil))))))))))) (pd_call (ok_law_take T) (hr.mono (by decide)) gua tk rfl T.m_law_take T.k_law_take T.b_law_take (pda_cons (pd_name (i := 0) rfl (by first | exact Or.inl rfl | exact Or.inr (Or.inl rfl) | exact Or.inr (Or.inr rfl))) (pda_cons pd_int pda_nil))) (fun _ _ => rfl)))) pds_nil)
      (pds_cons (pds_if (pdt_cmp (opr_eq hr.units) ops_eq (pd_name (i := 2) rfl (by first | exact Or.inl rfl | exact Or.inr (Or.inl rfl) | exact Or.inr (Or.inr rfl))) pd_int (nomark _)) (pds_cons (pds_ownLcV (i := 4) (own := [("_law_k", 5)]) [5] rfl rfl sc_law_otherwise.nd rfl rfl (sw_true rfl rfl rfl (by decide +kernel)) (pdi_range1 (by rfl) T.z_range (pda_cons pd_int pda_nil)) (blkOk_by (own := [("_law_k", 5)]) (N := n_law_otherwise) (sc := defScope s_law_otherwise) (by decide +kernel)) (fun _ _ _ _ _ fm => (pdg_name (i := 5) sc_law_otherwise.nd rfl (.inl rfl) (by decide))) (fun _ _ _ _ _ fm => pdts_nil) (fun _ _ _ _ _ fm => (pd_tup (pda_cons (pd_bin opr_add ops_add pd_str (pd_ix (hu_of hr) pd_str (pd_name (i := 5) rfl (by first | exact Or.inl rfl | exact Or.inr (Or.inl rfl) | exact Or.inr (Or.inr rfl))) (fun _ _ => rfl))) (pda_cons (pd_bin op_mod ops_mod (pd_name (i := 5) rfl (by first | exact Or.inl rfl | exact Or.inr (Or.inl rfl) | exact Or.inr (Or.inr rfl))) pd_int) pda_nil)))))
      (pds_one (pds_ret (PDF.num (pdf_slice (pd_name (i := 4) rfl (by first | exact Or.inl rfl | exact Or.inr (Or.inl rfl) | exact Or.inr (Or.inr rfl))) pdo_none (pdo_some (pd_bin opr_add ops_add pd_int (pd_call (ok_law_take T) (hr.mono (by decide)) gua tk rfl T.m_law_take T.k_law_take T.b_law_take (pda_cons (pd_name (i := 0) rfl (by first | exact Or.inl rfl | exact Or.inr (Or.inl rfl) | exact Or.inr (Or.inr rfl))) (pda_cons pd_int pda_nil)))))))))) pds_nil)
      (pds_cons (pds_for (ts := [6]) po rfl tk (pdi_range1 (by rfl) T.z_range (pda_cons (pd_call (ok_law_take T) (hr.mono (by decide)) gua tk rfl T.m_law_take T.k_law_take T.b_law_take (pda_cons (pd_name (i := 0) rfl (by first | exact Or.inl rfl | exact Or.inr (Or.inl rfl) | exact Or.inr (Or.inr rfl))) (pda_cons pd_int pda_nil))) pda_nil)) (fun fm W tk => (pdg_name (i := 6) sc_law_otherwise.nd rfl (.inl rfl) (by decide))) (fun fm W tk => (pds_cons (pds_ownLcV (i := 7) (own := [("_law_k", 5), ("_law_row", 8)]) [5, 8] rfl rfl sc_law_otherwise.nd rfl rfl (sw_true rfl rfl rfl (by decide +kernel)) (pdi_enumL (by rfl) T.z_enumerate (pd_name (i := 3) rfl (by first | exact Or.inl rfl | exact Or.inr (Or.inl rfl) | exact Or.inr (Or.inr rfl)))) (blkOk_by (own := [("_law_k", 5), ("_law_row", 8)]) (N := n_law_otherwise) (sc := defScope s_law_otherwise) (by decide +kernel)) (fun _ _ _ _ _ fm => (pdg_tup rfl (pdgs_cons (fun fm => (pdg_name (i := 5) sc_law_otherwise.nd rfl (.inl rfl) (by decide))) (pdgs_cons (fun fm => (pdg_name (i := 8) sc_law_otherwise.nd rfl (.inl rfl) (by decide))) pdgs_nil)) (gdCons_len gdName_ends (gdCons_len gdName_ends gdNil_len)))) (fun _ _ _ _ _ fm => pdts_one (PDW.pt (pdw_and (pdt_val (pd_fn (callr_isi (B := ⟨O, K, fm, WNo⟩)) (calls_isi (B := ⟨O, K, fm, WNo⟩) (sh := O.sh) T.kit rfl) (by rfl) T.z_isinstance (by decide +kernel) (pda_cons (pd_name (i := 8) rfl (by first | exact Or.inl rfl | exact Or.inr (Or.inl rfl) | exact Or.inr (Or.inr rfl))) (pda_cons (pd_bt (T := "tuple") (by rfl) T.z_tuple (by decide +kernel)) pda_nil)))) (pdw_and1 (pdt_cmp (opr_eq hr.units) ops_eq (pd_fn callr_len calls_len (by rfl) T.z_len (by decide +kernel) (pda_cons (pd_name (i := 8) rfl (by first | exact Or.inl rfl | exact Or.inr (Or.inl rfl) | exact Or.inr (Or.inr rfl))) pda_nil)) pd_int (nomark _)))))) (fun _ _ _ _ _ fm => (pd_name (i := 5) rfl (by first | exact Or.inl rfl | exact Or.inr (Or.inl rfl) | exact Or.inr (Or.inr rfl)))))
      (pds_one (pds_if (pdt_cmp (opr_ne hr.units) ops_ne (pd_name (i := 7) rfl (by first | exact Or.inl rfl | exact Or.inr (Or.inl rfl) | exact Or.inr (Or.inr rfl))) (PDF.pd (pdf_lst pda_nil)) (nomark _)) (pds_cons (pds_set (i := 9) sc_law_otherwise.nd rfl (.inl rfl) (pd_ix (hu_of hr) (pd_name (i := 7) rfl (by first | exact Or.inl rfl | exact Or.inr (Or.inl rfl) | exact Or.inr (Or.inr rfl))) (pd_call (ok_law_take T) (hr.mono (by decide)) gua tk rfl T.m_law_take T.k_law_take T.b_law_take (pda_cons (pd_name (i := 0) rfl (by first | exact Or.inl rfl | exact Or.inr (Or.inl rfl) | exact Or.inr (Or.inr rfl))) (pda_cons (pd_fn callr_len calls_len (by rfl) T.z_len (by decide +kernel) (pda_cons (pd_name (i := 7) rfl (by first | exact Or.inl rfl | exact Or.inr (Or.inl rfl) | exact Or.inr (Or.inr rfl))) pda_nil)) pda_nil))) (fun _ _ => rfl)))
      (pds_one (pds_asg (ts := []) (pd_call (ok_law_row_otherwise T) (hr.mono (by decide)) gua tk rfl T.m_law_row_otherwise T.k_law_row_otherwise T.b_law_row_otherwise (pda_cons (pd_name (i := 0) rfl (by first | exact Or.inl rfl | exact Or.inr (Or.inl rfl) | exact Or.inr (Or.inr rfl))) (pda_cons (pd_name (i := 1) rfl (by first | exact Or.inl rfl | exact Or.inr (Or.inl rfl) | exact Or.inr (Or.inr rfl))) (pda_cons (pd_ix (hu_of hr) (pd_name (i := 3) rfl (by first | exact Or.inl rfl | exact Or.inr (Or.inl rfl) | exact Or.inr (Or.inr rfl))) (pd_name (i := 9) rfl (by first | exact Or.inl rfl | exact Or.inr (Or.inl rfl) | exact Or.inr (Or.inr rfl))) (fun _ _ => rfl)) pda_nil)))) (pdg_sub (hu_of hr) (pd_name (i := 3) rfl (by first | exact Or.inl rfl | exact Or.inr (Or.inl rfl) | exact Or.inr (Or.inr rfl))) (pd_name (i := 9) rfl (by first | exact Or.inl rfl | exact Or.inr (Or.inl rfl) | exact Or.inr (Or.inr rfl))))))) pds_nil)))))
      (pds_one (pds_ret (pd_ix (hu_of hr) (PDF.pd (pdf_lst (pda_cons (pd_name (i := 3) rfl (by first | exact Or.inl rfl | exact Or.inr (Or.inl rfl) | exact Or.inr (Or.inr rfl))) (pda_cons (pd_ty callr_tuple calls_tuple (by rfl) T.z_tuple (by decide +kernel) (pda_cons (pd_name (i := 3) rfl (by first | exact Or.inl rfl | exact Or.inr (Or.inl rfl) | exact Or.inr (Or.inr rfl))) pda_nil)) pda_nil)))) (pd_call (ok_law_take T) (hr.mono (by decide)) gua tk rfl T.m_law_take T.k_law_take T.b_law_take (pda_cons (pd_name (i := 0) rfl (by first | exact Or.inl rfl | exact Or.inr (Or.inl rfl) | exact Or.inr (Or.inr rfl))) (pda_cons pd_int pda_nil))) (fun _ _ => rfl))))))))), fun ds μ Φ Ψ kp h => ?_⟩
  · obtain ⟨j, n, rows, rfl, hn, e, h1, h12, hs, q⟩ := h
    rfl
  · obtain ⟨j, n, rows, rfl, hn, e, h1, h12, hs, q⟩ := h
    refine start_at (ρ := [.val _, .val _, .unk, .unk, .unk, .unk, .unk, .unk, .unk, .unk]) rfl ?_
    walk_at "dgo7"
    refine take_ok (by walk_at "dmu") (by decide) (by decide) (by omega) fun w w0 w1 => ?_
    walk_at "dgo7"
    obtain ⟨r0, rest, er⟩ : ∃ r0 rest, rows = r0 :: rest := by
      cases rows with
      | nil => simp at h1
      | cons r0 rest => exact ⟨r0, rest, rfl⟩
    have e1 : (μ.set j (.box (n + 1)))[j]? = some (.box (n + 1)) := mu_set e
    have lj : j < (μ.set j (.box (n + 1))).length := (List.getElem?_eq_some_iff.mp e1).1
    generalize μ.set j (.box (n + 1)) = μ1 at e1 lj ⊢
    have itm : ∀ y ∈ rows.map rowT, Itm y := fun y hy => by
      obtain ⟨r, hr, rfl⟩ := List.mem_map.mp hy
      obtain ⟨a1, a2, a3⟩ := hs r hr
      exact Itm.row a1 a2 (by omega)
    refine q_two (fun h => ?_) (fun h => ?_)
    · walk_at "dgo7"
      refine q_dictP (pairs_rows rows) ?_
      walk_at "dgo7"
      refine q_ixL (fun z e => nomatch e) rfl (x := rowT r0) (by rw [er]; exact atI_zero) ?_
      walk_at "dgo7"
      refine take_ok (mu_old (mu_old (mu_old (mu_old e1)))) (by decide) (by decide) (by omega) fun v v0 v1 => ?_
      walk_at "dgo7"
      obtain ⟨y, hy, ey⟩ := at_any (xs := [D.non, .num (μ1 ++ [M.lst (rows.map rowT)]).length, .num (μ1 ++ [M.lst (rows.map rowT)] ++ [M.dic []]).length, .str (Str.ofString "a"), .int 5, .bl true, .num (μ1 ++ [M.lst (rows.map rowT)] ++ [M.dic []] ++ [M.dic (mergeD [] (placesE rows))]).length, .tup [], rowT r0]) v0 (by simpa using v1)
      refine q_ixL (fun z e => nomatch e) rfl ey ?_
      have eb : ((μ1 ++ [M.lst (rows.map rowT)] ++ [M.dic []] ++ [M.dic (mergeD [] (placesE rows))] ++ [M.lst []]).set j (.box (n + 1 + 1)))[j]? = some (.box (n + 1 + 1)) := mu_set (mu_old (mu_old (mu_old (mu_old e1))))
      have fin : ∀ x, Thg ((μ1 ++ [M.lst (rows.map rowT)] ++ [M.dic []] ++ [M.dic (mergeD [] (placesE rows))] ++ [M.lst []]).set j (.box (n + 1 + 1))) y x → Thing x → Φ y ((μ1 ++ [M.lst (rows.map rowT)] ++ [M.dic []] ++ [M.dic (mergeD [] (placesE rows))] ++ [M.lst []]).set j (.box (n + 1 + 1))) := fun x h1 h2 => q y x _ _ h1 h2 eb (by omega)
      simp only [List.mem_cons, List.not_mem_nil, or_false] at hy
      rcases hy with rfl | rfl | rfl | rfl | rfl | rfl | rfl | rfl | rfl <;> walk_at "dgo7"
      · exact fin _ (thg_val Atom.non.kd rfl) (Atom.non.itm.thing (elOk_leaf rfl) ⟨fun _ e => (by cases e), fun _ e => by cases e⟩)
      · exact fin _ (thg_num ((mu_ne (by simp; omega)).trans (mu_old (mu_old mu_new))) rfl Itm.dic0.kd) (Itm.dic0.thing (elOk_leaf rfl) ⟨fun _ e => (by cases e), fun _ e => by cases e; rfl⟩)
      · exact fin _ (thg_num ((mu_ne (by simp; omega)).trans (mu_old mu_new)) rfl Itm.dic0.kd) (Thing.places (by omega) hs)
      · have A := Atom.str (z := Str.ofString "a") (Sg.of (by decide +kernel))
        exact fin _ (thg_val A.kd rfl) (A.itm.thing (elOk_leaf rfl) ⟨fun _ e => (by cases e), fun _ e => by cases e⟩)
      · have A := Atom.int (i := 5) (by decide)
        exact fin _ (thg_val A.kd rfl) (A.itm.thing (elOk_leaf rfl) ⟨fun _ e => (by cases e), fun _ e => by cases e⟩)
      · exact fin _ (thg_val Atom.bl.kd rfl) (Atom.bl.itm.thing (elOk_leaf rfl) ⟨fun _ e => (by cases e), fun _ e => by cases e⟩)
      · exact fin _ (thg_num ((mu_ne (by simp; omega)).trans mu_new) rfl (Thing.lst (xs := []) (fun _ h => nomatch h) (by simp)).kd) (Thing.lst (fun _ h => nomatch h) (by simp))
      · exact fin _ (thg_val (Thing.tup (xs := []) (fun _ h => nomatch h) (by simp)).kd rfl) (Thing.tup (fun _ h => nomatch h) (by simp))
      · have A := itm (rowT r0) (by rw [er]; simp)
        have hr0 := hs r0 (by rw [er]; simp)
        exact fin _ (thg_val A.kd rfl) (A.thing (elOk_tup (two_mem ⟨(Atom.str hr0.1).kd, elOk_leaf rfl⟩ ⟨(Atom.int (i := r0.2) (small_int hr0.2.1 (by omega))).kd, elOk_leaf rfl⟩)) ⟨fun _ e => (by cases e), fun _ e => by cases e⟩)
    · walk_at "dgo7"
      refine q_two (fun h => ?_) (fun h => ?_)
      · walk_at "dgo7"
        refine ⟨rfl, by decide, ?_⟩
        walk_at "dblk"
        refine lc_ind (I := fun i acc μ2 => acc.length = i ∧ (∀ y ∈ acc, Itm y) ∧ μ2 = μ1 ++ [M.lst (rows.map rowT)]) ⟨rfl, (fun _ h => nomatch h), rfl⟩ ?_ ?_
        · rintro i dd acc μ2 Z hd ⟨hl, ha, rfl⟩ go
          obtain ⟨hi, rfl⟩ := range_get hd
          refine ⟨trivial, ?_⟩
          walk_at "dgo7"
          have hal : (Str.ofString "bcdefghijklmn").cps.toList.length = 13 := by decide +kernel
          have hi' : i < 13 := hi
          obtain ⟨c, hc, ec⟩ := at_any (xs := (Str.ofString "bcdefghijklmn").cps.toList) (a := 0 + (i : Int)) (by omega) (by rw [hal]; omega)
          have g1 : Sg (Str.ofString "a") 1 := Sg.of (by decide +kernel)
          have g2 := (show Sg (Str.ofString "bcdefghijklmn") 13 from Sg.of (by decide +kernel)).sign ec
          refine q_ixS (by decide +kernel) ec ?_
          walk_at "dgo7"
          refine q_addS (Nat.le_trans (Nat.add_le_add g1.1 g2.1) (by decide)) ?_
          walk_at "dgo7"
          walk_at "dblk"
          refine go _ _ ⟨by rw [List.length_append, hl]; rfl, fun y hy => ?_, rfl⟩
          rcases List.mem_append.mp hy with hy | hy
          · exact ha y hy
          · rw [List.mem_singleton.mp hy]
            exact Itm.tup (two_mem (Atom.str ((g1.app g2).mono (by decide))) (Atom.int (small_int (Int.emod_nonneg _ (by decide)) (Int.le_trans (Int.le_of_lt (Int.emod_lt_of_pos _ (by decide))) (by decide))))) (by simp)
        · rintro acc μ2 ⟨hl, ha, rfl⟩
          have hl : acc.length = 13 := hl
          refine ⟨trivial, ?_⟩
          walk_at "dgo7"
          refine take_ok (mu_old e1) (by decide) (by decide) (by omega) fun v v0 v1 => ?_
          walk_at "dgo7"
          refine ⟨acc, rfl, ?_⟩
          walk_at "dgo7"
          obtain ⟨s1, s2⟩ := cutD_sub (xs := acc) (l := none) (h := some (12 + v))
          have T1 : Thing (.lst (cutD acc none (some (12 + v)))) := Thing.lst (fun y hy => ha y (s1 y hy)) (by omega)
          exact q _ _ _ _ (thg_num mu_new rfl T1.kd) T1 (mu_old (mu_set (mu_old e1))) (by omega)
      · walk_at "dgo7"
        refine take_ok (mu_old e1) (by decide) (by decide) (by omega) fun v v0 v1 => ?_
        walk_at "dgo7"
        have lm : μ1.length ≠ j := by omega
        generalize hm : μ1.length = m at lm ⊢
        refine for_ind (I := fun i ρ μ2 => ∃ xs n' s6 s7 s9, ρ = [.val (.num j), .val (.lst (rows.map rowT)), .val (.int w), .val (.num m), .unk, .unk, s6, s7, .unk, s9] ∧ xs.length = rows.length ∧ (∀ y ∈ xs, Itm y) ∧ μ2[j]? = some (.box n') ∧ μ2[m]? = some (.lst xs) ∧ n' ≤ n + 2 + 3 * i) ⟨rows.map rowT, n + 1 + 1, _, _, _, rfl, by simp, itm, mu_set (mu_old e1), (mu_ne lm).trans (by subst hm; exact mu_new), by omega⟩ ?_ ?_
        · rintro i d ρ μ2 Z hd ⟨xs, n', s6, s7, s9, rfl, hl, hx, eb, em, hn'⟩ go
          obtain ⟨hi, rfl⟩ := range_get hd
          have hi' : i < 2 := by omega
          refine ⟨trivial, ?_⟩
          walk_at "dgo7"
          refine ⟨xs, em, fun sz => ⟨rfl, by rw [enum_len]; exact sz, ?_⟩⟩
          walk_at "dblk"
          refine lc_ind (I := fun i acc μ3 => acc.length ≤ i ∧ (∀ d ∈ acc, ∃ (k : Nat) (a b : D), d = .int (k : Nat) ∧ xs[k]? = some (.tup [a, b])) ∧ μ3 = μ2) ⟨Nat.le_refl _, (fun _ h => nomatch h), rfl⟩ ?_ ?_
          · rintro k dd acc μ3 Z2 hd2 ⟨hal, ha, rfl⟩ go2
            obtain ⟨y, hy, rfl⟩ := get_enum hd2
            have hI := hx y (List.mem_of_getElem? hy)
            obtain ⟨kn, kh1, kh2⟩ := hI.kd
            refine ⟨em, ?_⟩
            walk_at "dgo7"
            refine q_isD (Th.of kh1 kh2) (by decide) fun a ha2 => ?_
            walk_at "dgo7"
            cases y with
            | tup ys =>
              cases ha2
              refine q_t ?_
              walk_at "dgo7"
              refine q_lenL (fun z e => nomatch e) rfl ?_
              walk_at "dgo7"
              refine q_two (fun h2 => ?_) (fun h2 => ?_)
              · walk_at "dgo7"
                walk_at "dblk"
                refine go2 _ _ ⟨by rw [List.length_append]; exact Nat.add_le_add_right hal 1, fun d hd => ?_, rfl⟩
                rcases List.mem_append.mp hd with hd | hd
                · exact ha d hd
                · rw [List.mem_singleton.mp hd]
                  obtain ⟨a, b, rfl⟩ : ∃ a b, ys = [a, b] := by
                    match ys, h2 with
                    | [a, b], _ => exact ⟨a, b, rfl⟩
                    | [], h => simp at h
                    | [a], h => simp at h
                    | a :: b :: c :: r, h => simp at h; omega
                  exact ⟨k, a, b, rfl, hy⟩
              · walk_at "dblk"
                exact go2 _ _ ⟨Nat.le_succ_of_le hal, ha, rfl⟩
            | _ => cases ha2 <;> (refine q_f ?_; walk_at "dblk"; exact go2 _ _ ⟨Nat.le_succ_of_le hal, ha, rfl⟩)
          · rintro acc μ3 ⟨hal, ha, rfl⟩
            rw [enum_len, hl] at hal
            refine ⟨em, ?_⟩
            walk_at "dgo7"
            refine q_neNil rfl (fun d hd => by obtain ⟨k, a, b, rfl, _⟩ := ha d hd; rfl) ?_
            walk_at "dgo7"
            refine q_nbr (fun hb => ?_) (fun hb => ?_)
            · walk_at "dgo7"
              have hpos : 0 < acc.length := List.length_pos_iff.mpr (fun z => by rw [z] at hb; cases hb)
              refine q_lenL (fun z e => nomatch e) rfl ?_
              walk_at "dgo7"
              refine take_ok eb (by omega) (by omega) (by omega) fun v2 v20 v21 => ?_
              walk_at "dgo7"
              obtain ⟨d, hd, ed⟩ := at_any (xs := acc) v20 v21
              refine q_ixL (fun z e => nomatch e) rfl ed ?_
              obtain ⟨k, a, b, rfl, hk⟩ := ha d hd
              walk_at "dgo7"
              have em1 : (μ3.set j (.box (n' + 1)))[m]? = some (.lst xs) := (mu_ne lm).trans em
              refine q_ixL (fun z e => nomatch e) (seq_num em1) (at_nat hk).1 ?_
              walk_at "dgo7"
              have hI := hx _ (List.mem_of_getElem? hk)
              refine q_pass rfl ⟨j, n' + 1, rows, a, b, rfl, by omega, mu_set eb, h1, fun r hr => (hs r hr).1, (hI.at2 a b rfl).1, (hI.at2 a b rfl).2, fun y n2 hy hn2 => ?_⟩
              have hky := hy.kd.kp
              walk_at "dgo7"
              refine q_setN ((mu_ne lm).trans em) (at_nat hk).2 ?_
              walk_at "dgo7"
              refine go _ _ ⟨xs.set k y, n2, _, _, _, rfl, by rw [List.length_set]; exact hl, fun z hz => ?_, (mu_ne (Ne.symm lm)).trans (mu_set eb), mu_set ((mu_ne lm).trans em), by omega⟩
              rcases List.mem_or_eq_of_mem_set hz with hz | rfl
              · exact hx z hz
              · exact hy
            · walk_at "dgo7"
              exact go _ _ ⟨xs, n', _, _, _, rfl, hl, hx, eb, em, by omega⟩
        · rintro ρ μ2 ⟨xs, n', s6, s7, s9, rfl, hl, hx, eb, em, hn'⟩
          rw [range_len] at hn'
          have hv : v.toNat ≤ 2 := by omega
          refine ⟨trivial, ?_⟩
          walk_at "dgo7"
          refine ⟨xs, by simp only [lookD, em]; rfl, ?_⟩
          walk_at "dgo7"
          refine take_ok eb (by decide) (by decide) (by omega) fun v2 v20 v21 => ?_
          walk_at "dgo7"
          obtain ⟨y, hy, ey⟩ := at_any (xs := [D.num m, .tup xs]) v20 (by simpa using v21)
          refine q_ixL (fun z e => nomatch e) rfl ey ?_
          simp only [List.mem_cons, List.not_mem_nil, or_false] at hy
          rcases hy with rfl | rfl <;> walk_at "dgo7"
          · have T1 : Thing (.lst xs) := Thing.lst hx (by omega)
            exact q _ _ _ _ (thg_num ((mu_ne lm).trans em) rfl T1.kd) T1 (mu_set eb) (by omega)
          · have T1 : Thing (.tup xs) := Thing.tup hx (by omega)
            exact q _ _ _ _ (thg_val T1.kd rfl) T1 (mu_set eb) (by omega)
end
section
variable {O : Objs} {P : Program} {w : World} {K : PySem.W.Frag} {mg : Str → Option Value} {base : Heap} {f : Nat → Addr} {d : Nat → FuncData}
theorem ok_law_caught (T : Txt O P K mg f d) : FnD O P w K mg base 7 (f 17) (d 17) ["_law_thing"] sp_law_caught := by
  refine fnD_by T.F_law_caught sc_law_caught (fun ds μ Φ Ψ h => ?_) ⟨_, fun fm W cdv A outer s H E hr gua tk po => (pds_one (pds_try rfl rfl sc_law_caught.nd tk (fun W pn xe tk po => (pds_one (pds_ret (pd_tup (pda_cons pd_str (pda_cons (pd_lenO (sh := O.sh) (k := 1) rfl T.one_Words T.meth_Words___len__ (ok_Words___len__ T) (hr.mono (by decide)) gua T.b_Words___len__ (by rfl) T.z_len (by decide +kernel) (pd_make (sh := O.sh) (k := 1) rfl T.tag_Words T.mk_Words (ok_Words___init__ T) (hr.mono (by decide)) gua tk rfl T.m_Words T.b_Words___init__ (pda_cons (pd_name (i := 0) rfl (by first | exact Or.inl rfl | exact Or.inr (Or.inl rfl) | exact Or.inr (Or.inr rfl))) pda_nil))) pda_nil)))))) (hdd_cons (JgH.test_one (by rfl) T.c_NoWords) (by exact (tm_cons (b := true) T.one_NoWords T.exm_NoWords_NoWords tm_nil)) (.some (i := 1) rfl rfl) (fun a oe cls dd pn e ps hz hf hp ht => (pds_one (pds_ret (pd_tup (pda_cons pd_str (pda_cons (pd_xf hz hf hp ((kx_cons T.one_NoWords T.xa_NoWords.f T.n_NoWords kx_nil).go _ ht) (pd_name (i := 1) rfl (by first | exact Or.inl rfl | exact Or.inr (Or.inl rfl) | exact Or.inr (Or.inr rfl)))) pda_nil)))))) (hdd_cons (JgH.test_two (by rfl) (by rfl) T.c_TermError T.c_Absent) (by exact tm_nil) .none (fun a oe cls dd pn e ps hz hf hp ht => (pds_one (pds_ret (pd_tup (pda_cons pd_str (pda_cons pd_non pda_nil)))))) .nil)))), fun ds μ Φ Ψ kp h => ?_⟩
  · obtain ⟨t, x, rfl, th, el, q, bad⟩ := h
    rfl
  · obtain ⟨t, x, rfl, th, el, q, bad⟩ := h
    refine start_at (ρ := [.val _, .unk]) rfl ?_
    walk_at "dgo7"
    refine ⟨[t], pass_one th.kp, t, x, rfl, th, el, fun rows ok hx => ⟨wordsF rows, words_frozen T.flds_Words T.memo_Words, fun a => ⟨⟨rfl, ?_⟩, ?_⟩⟩, fun hb => ?_⟩
    · rintro (h | h)
      · rw [T.flds_Words] at h
        exact absurd h (by decide)
      · rw [T.memo_Words] at h
        cases h
    · refine q_pass rfl ⟨a, rows.map rowT, _, rfl, ?_⟩
      walk_at "dgo7"
      refine ⟨(rows.map rowT).length, rfl, by rw [List.length_map]; have := ok.high; omega, ?_⟩
      walk_at "dgo7"
      rw [List.length_map]
      exact q rows ok hx
    · show hdl _ _ ⟨2, _⟩ _ _
      refine q_hit (t := [(2, true)]) rfl fun a => ?_
      have hkt := th.kp
      walk_at "dgo7"
      refine ⟨rfl, t, rfl, ?_⟩
      walk_at "dgo7"
      exact bad hb
end
section
variable {O : Objs} {P : Program} {w : World} {K : PySem.W.Frag} {mg : Str → Option Value} {base : Heap} {f : Nat → Addr} {d : Nat → FuncData}
theorem ok_law (T : Txt O P K mg f d) : FnD O P w K mg base 8 (f 18) (d 18) ["_law_script"] sp_law := by
  refine fnD_by T.F_law sc_law (fun ds μ Φ Ψ h => ?_) ⟨_, fun fm W cdv A outer s H E hr gua tk po => (pds_cons (pds_for (ts := [1]) po rfl tk (pdi_range1 (by rfl) T.z_range (pda_cons (pd_fn (Jg.call_maxV rfl) calls_max (by rfl) T.z_max (by decide +kernel) (pda_cons pd_int (pda_cons (pd_fn (Jg.call_minV rfl) calls_min (by rfl) T.z_min (by decide +kernel) (pda_cons pd_int (pda_cons (pd_fn callr_len calls_len (by rfl) T.z_len (by decide +kernel) (pda_cons (pd_name (i := 0) rfl (by first | exact Or.inl rfl | exact Or.inr (Or.inl rfl) | exact Or.inr (Or.inr rfl))) pda_nil)) pda_nil))) pda_nil))) pda_nil)) (fun fm W tk => (pdg_name (i := 1) sc_law.nd rfl (.inl rfl) (by decide))) (fun fm W tk => (pds_cons (pds_set (i := 2) sc_law.nd rfl (.inl rfl) (pd_call (ok_law_box T) (hr.mono (by decide)) gua tk rfl T.m_law_box T.k_law_box T.b_law_box (pda_cons (pd_call (ok_law_cell T) (hr.mono (by decide)) gua tk rfl T.m_law_cell T.k_law_cell T.b_law_cell (pda_cons (pd_name (i := 0) rfl (by first | exact Or.inl rfl | exact Or.inr (Or.inl rfl) | exact Or.inr (Or.inr rfl))) (pda_cons (pd_name (i := 1) rfl (by first | exact Or.inl rfl | exact Or.inr (Or.inl rfl) | exact Or.inr (Or.inr rfl))) pda_nil))) pda_nil)))
      (pds_cons (pds_set (i := 3) sc_law.nd rfl (.inl rfl) (pd_call (ok_law_rows T) (hr.mono (by decide)) gua tk rfl T.m_law_rows T.k_law_rows T.b_law_rows (pda_cons (pd_name (i := 2) rfl (by first | exact Or.inl rfl | exact Or.inr (Or.inl rfl) | exact Or.inr (Or.inr rfl))) pda_nil)))
      (pds_one (pds_for (ts := [4]) po rfl tk (pdi_range1 (by rfl) T.z_range (pda_cons pd_int pda_nil)) (fun fm W tk => (pdg_name (i := 4) sc_law.nd rfl (.inl rfl) (by decide))) (fun fm W tk => (pds_cons (pds_set (i := 5) sc_law.nd rfl (.inl rfl) (pd_call (ok_law_otherwise T) (hr.mono (by decide)) gua tk rfl T.m_law_otherwise T.k_law_otherwise T.b_law_otherwise (pda_cons (pd_name (i := 2) rfl (by first | exact Or.inl rfl | exact Or.inr (Or.inl rfl) | exact Or.inr (Or.inr rfl))) (pda_cons (pd_name (i := 3) rfl (by first | exact Or.inl rfl | exact Or.inr (Or.inl rfl) | exact Or.inr (Or.inr rfl))) pda_nil))))
      (pds_cons (pds_set (i := 6) sc_law.nd rfl (.inl rfl) (pd_fn (callr_repr (B := ⟨O, K, fm, W⟩) gua hr.units T.sm) (calls_repr (B := ⟨O, K, fm, W⟩)) (by rfl) T.z_repr (by decide +kernel) (pda_cons (pd_name (i := 5) rfl (by first | exact Or.inl rfl | exact Or.inr (Or.inl rfl) | exact Or.inr (Or.inr rfl))) pda_nil)))
      (pds_cons (pds_set (i := 7) sc_law.nd rfl (.inl rfl) (pd_call (ok_law_are_words T) (hr.mono (by decide)) gua tk rfl T.m_law_are_words T.k_law_are_words T.b_law_are_words (pda_cons (pd_name (i := 5) rfl (by first | exact Or.inl rfl | exact Or.inr (Or.inl rfl) | exact Or.inr (Or.inr rfl))) pda_nil)))
      (pds_cons (pds_set (i := 8) sc_law.nd rfl (.inl rfl) (pd_call (ok_law_caught T) (hr.mono (by decide)) gua tk rfl T.m_law_caught T.k_law_caught T.b_law_caught (pda_cons (pd_name (i := 5) rfl (by first | exact Or.inl rfl | exact Or.inr (Or.inl rfl) | exact Or.inr (Or.inr rfl))) pda_nil)))
      (pds_cons (pds_if (PDW.pt (pdw_or (pdt_cmp (opr_ne hr.units) ops_ne (pd_fn (callr_repr (B := ⟨O, K, fm, W⟩) gua hr.units T.sm) (calls_repr (B := ⟨O, K, fm, W⟩)) (by rfl) T.z_repr (by decide +kernel) (pda_cons (pd_name (i := 5) rfl (by first | exact Or.inl rfl | exact Or.inr (Or.inl rfl) | exact Or.inr (Or.inr rfl))) pda_nil)) (pd_name (i := 6) rfl (by first | exact Or.inl rfl | exact Or.inr (Or.inl rfl) | exact Or.inr (Or.inr rfl))) (nomark _)) (pdw_or1 (PDW.pt (pdw_and (pdt_val (pd_name (i := 7) rfl (by first | exact Or.inl rfl | exact Or.inr (Or.inl rfl) | exact Or.inr (Or.inr rfl)))) (pdw_and1 (pdt_cmp (opr_ne hr.units) ops_ne (pd_fn (callr_repr (B := ⟨O, K, fm, W⟩) gua hr.units T.sm) (calls_repr (B := ⟨O, K, fm, W⟩)) (by rfl) T.z_repr (by decide +kernel) (pda_cons (pd_name (i := 8) rfl (by first | exact Or.inl rfl | exact Or.inr (Or.inl rfl) | exact Or.inr (Or.inr rfl))) pda_nil)) (pd_fn (callr_repr (B := ⟨O, K, fm, W⟩) gua hr.units T.sm) (calls_repr (B := ⟨O, K, fm, W⟩)) (by rfl) T.z_repr (by decide +kernel) (pda_cons (pd_tup (pda_cons pd_str (pda_cons (pd_fn callr_len calls_len (by rfl) T.z_len (by decide +kernel) (pda_cons (pd_name (i := 5) rfl (by first | exact Or.inl rfl | exact Or.inr (Or.inl rfl) | exact Or.inr (Or.inr rfl))) pda_nil)) pda_nil))) pda_nil)) (nomark _)))))))) (pds_one (pds_ret pd_bl)) pds_nil)
      (pds_cons (pds_if (PDW.pt (pdw_and (pdt_not (pdt_val (pd_name (i := 7) rfl (by first | exact Or.inl rfl | exact Or.inr (Or.inl rfl) | exact Or.inr (Or.inr rfl))))) (pdw_and1 (pdt_val (pd_fn (callr_isi (B := ⟨O, K, fm, W⟩)) (calls_isi (B := ⟨O, K, fm, W⟩) (sh := O.sh) T.kit rfl) (by rfl) T.z_isinstance (by decide +kernel) (pda_cons (pd_name (i := 5) rfl (by first | exact Or.inl rfl | exact Or.inr (Or.inl rfl) | exact Or.inr (Or.inr rfl))) (pda_cons (pd_bt (T := "list") (by rfl) T.z_list (by decide +kernel)) pda_nil))))))) (pds_one (pds_expr (pd_bm PySem.F.plainAttrs_list PySem.F.slot_list_append PySem.F.type_list_append mtr_append mts_append (pd_name (i := 5) rfl (by first | exact Or.inl rfl | exact Or.inr (Or.inl rfl) | exact Or.inr (Or.inr rfl))) (pda_cons pd_str pda_nil)))) pds_nil)
      (pds_cons (pds_if (PDW.pt (pdw_and (pdt_not (pdt_val (pd_name (i := 7) rfl (by first | exact Or.inl rfl | exact Or.inr (Or.inl rfl) | exact Or.inr (Or.inr rfl))))) (pdw_and1 (pdt_val (pd_fn (callr_isi (B := ⟨O, K, fm, W⟩)) (calls_isi (B := ⟨O, K, fm, W⟩) (sh := O.sh) T.kit rfl) (by rfl) T.z_isinstance (by decide +kernel) (pda_cons (pd_name (i := 5) rfl (by first | exact Or.inl rfl | exact Or.inr (Or.inl rfl) | exact Or.inr (Or.inr rfl))) (pda_cons (pd_bt (T := "dict") (by rfl) T.z_dict (by decide +kernel)) pda_nil))))))) (pds_one (pds_asg (ts := []) pd_int (pdg_sub (hu_of hr) (pd_name (i := 5) rfl (by first | exact Or.inl rfl | exact Or.inr (Or.inl rfl) | exact Or.inr (Or.inr rfl))) pd_str))) pds_nil)
      (pds_one (pds_if (PDW.pt (pdw_and (pdt_not (pdt_val (pd_name (i := 7) rfl (by first | exact Or.inl rfl | exact Or.inr (Or.inl rfl) | exact Or.inr (Or.inr rfl))))) (pdw_and1 (pdt_cmp (opr_ne hr.units) ops_ne (pd_fn (callr_repr (B := ⟨O, K, fm, W⟩) gua hr.units T.sm) (calls_repr (B := ⟨O, K, fm, W⟩)) (by rfl) T.z_repr (by decide +kernel) (pda_cons (pd_name (i := 8) rfl (by first | exact Or.inl rfl | exact Or.inr (Or.inl rfl) | exact Or.inr (Or.inr rfl))) pda_nil)) (pd_fn (callr_repr (B := ⟨O, K, fm, W⟩) gua hr.units T.sm) (calls_repr (B := ⟨O, K, fm, W⟩)) (by rfl) T.z_repr (by decide +kernel) (pda_cons (pd_tup (pda_cons pd_str (pda_cons (pd_name (i := 5) rfl (by first | exact Or.inl rfl | exact Or.inr (Or.inl rfl) | exact Or.inr (Or.inr rfl))) pda_nil))) pda_nil)) (nomark _))))) (pds_one (pds_ret pd_bl)) pds_nil))))))))))))))))
      (pds_one (pds_ret pd_bl))), fun ds μ Φ Ψ kp h => ?_⟩
  · obtain ⟨ns, rfl, hl, q⟩ := h
    rfl
  · obtain ⟨ns, rfl, hl, q⟩ := h
    refine start_at (ρ := [.val _, .unk, .unk, .unk, .unk, .unk, .unk, .unk, .unk]) rfl ?_
    walk_at "dgo7"
    refine q_lenL (fun z e => nomatch e) rfl ?_
    walk_at "dgo7"
    refine for_ind (I := fun _ ρ _ => ∃ s1 s2 s3 s4 s5 s6 s7 s8, ρ = [.val (.scr (ns.map D.int)), s1, s2, s3, s4, s5, s6, s7, s8]) ⟨_, _, _, _, _, _, _, _, rfl⟩ ?_ ?_
    · rintro i d ρ μ1 Z hd ⟨s1, s2, s3, s4, s5, s6, s7, s8, rfl⟩ go
      obtain ⟨hi, rfl⟩ := range_get hd
      rw [Int.zero_add]
      have hi10 : i < 10 := by omega
      refine ⟨trivial, ?_⟩
      walk_at "dgo7"
      refine q_pass rfl ⟨ns, i, rfl, by omega, fun z => ?_⟩
      walk_at "dgo7"
      refine q_pass rfl ⟨z, rfl, ?_⟩
      walk_at "dgo7"
      refine q_pass rfl ⟨μ1.length, 0, rfl, by decide, mu_new, fun rows n1 l1 l12 hrs hn1 => ?_⟩
      walk_at "dgo7"
      have e1 : ((μ1 ++ [M.box 0]).set μ1.length (.box n1))[μ1.length]? = some (.box n1) := mu_set mu_new
      generalize (μ1 ++ [M.box 0]).set μ1.length (.box n1) = μ2 at e1 ⊢
      generalize μ1.length = j at e1 ⊢
      change n1 ≤ 0 + 40 at hn1
      refine for_ind (I := fun i2 ρ μ3 => ∃ n3 s4 s5 s6 s7 s8, ρ = [.val (.scr (ns.map D.int)), .val (.int (i : Int)), .val (.num j), .val (.lst (rows.map rowT)), s4, s5, s6, s7, s8] ∧ μ3[j]? = some (.box n3) ∧ n3 ≤ 40 + 20 * i2) ⟨n1, _, _, _, _, _, rfl, e1, by omega⟩ ?_ ?_
      · rintro i2 d ρ μ3 Z2 hd2 ⟨n3, s4, s5, s6, s7, s8, rfl, e3, hn3⟩ go2
        obtain ⟨hi2, rfl⟩ := range_get hd2
        refine ⟨trivial, ?_⟩
        walk_at "dgo7"
        refine q_pass rfl ⟨j, n3, rows, rfl, by omega, e3, l1, l12, hrs, fun t x μ4 n4 hT hx e4 hn4 => ?_⟩
        have hkt := hT.th.kp
        walk_at "dgo7"
        refine q_reprT (hT.th.look) hx.ft (by decide) (by decide) ?_
        walk_at "dgo7"
        refine q_pass (pass_one hkt) ⟨t, x, rfl, hT.th, hx.el, ?_⟩
        walk_at "dgo7"
        refine q_pass (pass_one hkt) ⟨t, x, rfl, hT.th, hx.el, fun rowz ok hxr => ?_, fun hb => ?_⟩
        · have hb := rowsB_of hx.kd ok hxr
          rw [hb]
          have hlen := ok.high
          have ft := told_fit (n := rowz.length) (by omega)
          walk_at "dgo7"
          refine q_reprT (hT.th.look) hx.ft (by decide) (by decide) ?_
          walk_at "dgo7"
          refine q_nsame ?_
          walk_at "dgo7"
          refine q_reprT rfl ft (by decide) (by decide) ?_
          walk_at "dgo7"
          refine q_lenL (fun z e => by subst e; cases hT.th.lk; cases hxr) (hT.th.seq.trans hxr) ?_
          walk_at "dgo7"
          rw [List.length_map]
          refine q_reprT rfl ft (by decide) (by decide) ?_
          walk_at "dgo7"
          refine q_nsame ?_
          walk_at "dgo7"
          refine q_f ?_
          walk_at "dgo7"
          refine q_f ?_
          walk_at "dgo7"
          refine q_f ?_
          walk_at "dgo7"
          exact go2 _ _ ⟨n4, _, _, _, _, _, rfl, e4, by omega⟩
        · rw [hb]
          walk_at "dgo7"
          refine q_reprT (hT.th.look) hx.ft (by decide) (by decide) ?_
          walk_at "dgo7"
          refine q_nsame ?_
          walk_at "dgo7"
          refine q_t ?_
          walk_at "dgo7"
          refine q_isD hT.th (by decide) fun a ha => ?_
          walk_at "dgo7"
          rcases kind_split hx.ft.d2 with ⟨xs, rfl⟩ | ⟨kvs, rfl⟩ | ⟨_, hno⟩
          · cases ha
            obtain ⟨k, rfl⟩ : ∃ k, t = .num k := hT.num.resolve_left (fun z => by cases z)
            have ek := hT.th.num
            have nk : j ≠ k := fun z => by
              subst z
              rw [ek] at e4
              cases e4
            refine q_t ?_
            walk_at "dgo7"
            refine q_tyL rfl hT.th.look ?_
            walk_at "dgo7"
            refine q_appN (xs := xs) (d := .str (Str.ofString "late")) rfl ek (Nat.lt_of_le_of_lt (hx.ls xs rfl).2 (by decide)) ?_
            have f5 := hx.late ((Fit.str (z := Str.ofString "late") (m := 4) (Sg.of (by decide +kernel))).mono (n' := 3000) (k' := 3) (by decide) (by decide))
            have th5 := (thg_num (x := .lst (xs ++ [.str (Str.ofString "late")])) (mu_set (m := M.lst (xs ++ [.str (Str.ofString "late")])) ek) rfl ⟨_, rfl, by decide⟩).th
            have e5 : (μ4.set k (M.lst (xs ++ [.str (Str.ofString "late")])))[j]? = some (.box n4) := (mu_ne nk).trans e4
            generalize μ4.set k (M.lst (xs ++ [.str (Str.ofString "late")])) = μ5 at th5 e5 ⊢
            walk_at "dgo7"
            refine q_t ?_
            walk_at "dgo7"
            refine q_isD th5 (by decide) fun a ha => ?_
            walk_at "dgo7"
            cases ha
            refine q_f ?_
            walk_at "dgo7"
            refine q_t ?_
            walk_at "dgo7"
            refine q_reprN rfl (rsv_pair th5 f5.d2) (Fit.pair (Sg.of (by decide +kernel)) f5 (by decide)) (by decide) (by decide) ?_
            walk_at "dgo7"
            refine q_reprN rfl (rsv_pair th5 f5.d2) (Fit.pair (Sg.of (by decide +kernel)) f5 (by decide)) (by decide) (by decide) ?_
            walk_at "dgo7"
            refine q_nsame ?_
            walk_at "dgo7"
            exact go2 _ _ ⟨n4, _, _, _, _, _, rfl, e5, by omega⟩
          · cases ha
            obtain ⟨k, rfl⟩ : ∃ k, t = .num k := hT.num.resolve_left (fun z => by cases z)
            have ek : μ4[k]? = some (.dic kvs) := th_numD hT.th
            have nk : j ≠ k := fun z => by
              subst z
              rw [ek] at e4
              cases e4
            refine q_f ?_
            walk_at "dgo7"
            refine q_t ?_
            walk_at "dgo7"
            refine q_isD hT.th (by decide) fun a ha => ?_
            walk_at "dgo7"
            cases ha
            refine q_t ?_
            walk_at "dgo7"
            refine q_setDN (kvs := kvs) (k := .inr (Str.ofString "late")) ek rfl (Nat.lt_of_le_of_lt (hx.dc kvs rfl).2 (by decide)) ?_
            have f5 := hx.late2 (k := .inr (Str.ofString "late")) (y := .int 1) ((Fit.str (z := Str.ofString "late") (m := 4) (Sg.of (by decide +kernel))).mono (n' := 402) (by decide) (Nat.le_refl _)) (Fit.int (k := 40) (by decide) (by decide) (by decide))
            have th5 := (thg_num (x := .dic (dput kvs (.inr (Str.ofString "late")) (.int 1))) (mu_set (m := M.dic (dput kvs (.inr (Str.ofString "late")) (.int 1))) ek) rfl ⟨_, rfl, by decide⟩).th
            have e5 : (μ4.set k (M.dic (dput kvs (.inr (Str.ofString "late")) (.int 1))))[j]? = some (.box n4) := (mu_ne nk).trans e4
            generalize μ4.set k (M.dic (dput kvs (.inr (Str.ofString "late")) (.int 1))) = μ5 at th5 e5 ⊢
            walk_at "dgo7"
            refine q_t ?_
            walk_at "dgo7"
            refine q_reprN rfl (rsv_pair th5 f5.d2) (Fit.pair (Sg.of (by decide +kernel)) f5 (by decide)) (by decide) (by decide) ?_
            walk_at "dgo7"
            refine q_reprN rfl (rsv_pair th5 f5.d2) (Fit.pair (Sg.of (by decide +kernel)) f5 (by decide)) (by decide) (by decide) ?_
            walk_at "dgo7"
            refine q_nsame ?_
            walk_at "dgo7"
            exact go2 _ _ ⟨n4, _, _, _, _, _, rfl, e5, by omega⟩
          · rw [(hno a ha).1]
            refine q_f ?_
            walk_at "dgo7"
            refine q_t ?_
            walk_at "dgo7"
            refine q_isD hT.th (by decide) fun a2 ha2 => ?_
            walk_at "dgo7"
            rw [(hno a2 ha2).2]
            refine q_f ?_
            walk_at "dgo7"
            refine q_t ?_
            walk_at "dgo7"
            refine q_reprN rfl (rsv_pair hT.th hx.ft.d2) (Fit.pair (Sg.of (by decide +kernel)) hx.ft (by decide)) (by decide) (by decide) ?_
            walk_at "dgo7"
            refine q_reprN rfl (rsv_pair hT.th hx.ft.d2) (Fit.pair (Sg.of (by decide +kernel)) hx.ft (by decide)) (by decide) (by decide) ?_
            walk_at "dgo7"
            refine q_nsame ?_
            walk_at "dgo7"
            exact go2 _ _ ⟨n4, _, _, _, _, _, rfl, e4, by omega⟩
      · rintro ρ μ3 ⟨n3, s4, s5, s6, s7, s8, rfl, e3, hn3⟩
        refine ⟨trivial, ?_⟩
        walk_at "dgo7"
        exact go _ _ ⟨_, _, _, _, _, _, _, _, rfl⟩
    · rintro ρ μ1 ⟨s1, s2, s3, s4, s5, s6, s7, s8, rfl⟩
      refine ⟨trivial, ?_⟩
      walk_at "dgo7"
      exact q _
end
abbrev OO (K : PySem.W.Frag) : Objs := objsL [(He.ga K "Words", 1)] [(He.ga K "NoWords", 2)] (fun k => if k = 1 then ["_rows", "_places", "_order", "_ranks"] else []) (fun _ _ => none)
theorem txt_of {K : PySem.W.Frag} {h : Heap} {mg : Str → Option Value} (X : K.In h) (G : h.Ns mainGlobals mg) (c : JgHd.obsJ fx ad K = (true, vsx)) :
    ∃ (f : Nat → Addr) (d : Nat → FuncData), Txt (OO K) PR K mg f d ∧ mg "law" = some (.ref (f 18)) ∧ ∀ (s : Shared) (v : Value), BindsTo s (d 18) ⟨[v], []⟩ [("_law_script", v)] := by
  obtain ⟨d0, F0⟩ := JgHd.fun_of (says_0 c) (fa_0 c)
  have b0 := F0.binds (ps := ["thing", "low", "high"]) fun _ _ _ _ _ _ us hl => match us, hl with | [_, _, _], _ => rfl
  obtain ⟨d1, F1⟩ := JgHd.fun_of (says_1 c) (fa_2 c)
  have b1 := F1.binds (ps := ["thing", "low", "high"]) fun _ _ _ _ _ _ us hl => match us, hl with | [_, _, _], _ => rfl
  obtain ⟨d2, F2⟩ := JgHd.fun_of (says_2 c) (fa_4 c)
  have b2 := F2.binds (ps := ["text", "marks"]) fun _ _ _ _ _ _ us hl => match us, hl with | [_, _], _ => rfl
  obtain ⟨d3, F3⟩ := JgHd.fun_of (says_3 c) (fa_6 c)
  have b3 := F3.binds (ps := ["thing"]) fun _ _ _ _ _ _ us hl => match us, hl with | [_], _ => rfl
  obtain ⟨d4, F4⟩ := JgHd.fun_of (says_4 c) (fa_8 c)
  have b4 := F4.binds (ps := ["thing"]) fun _ _ _ _ _ _ us hl => match us, hl with | [_], _ => rfl
  obtain ⟨d5, F5⟩ := JgHd.fun_of (says_5 c) (fa_10 c)
  have b5 := F5.binds (ps := ["thing"]) fun _ _ _ _ _ _ us hl => match us, hl with | [_], _ => rfl
  obtain ⟨d6, F6⟩ := JgHd.fun_of (says_6 c) (fa_12 c)
  have b6 := F6.binds (ps := ["self"]) fun _ _ _ _ _ _ us hl => match us, hl with | [_], _ => rfl
  obtain ⟨d7, F7⟩ := JgHd.fun_of (says_7 c) (fa_14 c)
  have b7 := F7.binds (ps := ["self", "rows"]) fun _ _ _ _ _ _ us hl => match us, hl with | [_, _], _ => rfl
  obtain ⟨d8, F8⟩ := JgHd.fun_of (says_8 c) (fa_16 c)
  have b8 := F8.binds (ps := ["_law_script", "_law_k"]) fun _ _ _ _ _ _ us hl => match us, hl with | [_, _], _ => rfl
  obtain ⟨d9, F9⟩ := JgHd.fun_of (says_9 c) (fa_18 c)
  have b9 := F9.binds (ps := ["_law_cell_here"]) fun _ _ _ _ _ _ us hl => match us, hl with | [_], _ => rfl
  obtain ⟨d10, F10⟩ := JgHd.fun_of (says_10 c) (fa_20 c)
  have b10 := F10.binds (ps := ["_law_box_here", "_law_many"]) fun _ _ _ _ _ _ us hl => match us, hl with | [_, _], _ => rfl
  obtain ⟨d11, F11⟩ := JgHd.fun_of (says_11 c) (fa_22 c)
  have b11 := F11.binds (ps := ["_law_box_here", "_law_many"]) fun _ _ _ _ _ _ us hl => match us, hl with | [_, _], _ => rfl
  obtain ⟨d12, F12⟩ := JgHd.fun_of (says_12 c) (fa_24 c)
  have b12 := F12.binds (ps := ["_law_box_here"]) fun _ _ _ _ _ _ us hl => match us, hl with | [_], _ => rfl
  obtain ⟨d13, F13⟩ := JgHd.fun_of (says_13 c) (fa_26 c)
  have b13 := F13.binds (ps := ["_law_thing"]) fun _ _ _ _ _ _ us hl => match us, hl with | [_], _ => rfl
  obtain ⟨d14, F14⟩ := JgHd.fun_of (says_14 c) (fa_28 c)
  have b14 := F14.binds (ps := ["_law_thing"]) fun _ _ _ _ _ _ us hl => match us, hl with | [_], _ => rfl
  obtain ⟨d15, F15⟩ := JgHd.fun_of (says_15 c) (fa_30 c)
  have b15 := F15.binds (ps := ["_law_box_here", "_law_rows_here", "_law_row"]) fun _ _ _ _ _ _ us hl => match us, hl with | [_, _, _], _ => rfl
  obtain ⟨d16, F16⟩ := JgHd.fun_of (says_16 c) (fa_32 c)
  have b16 := F16.binds (ps := ["_law_box_here", "_law_rows_here"]) fun _ _ _ _ _ _ us hl => match us, hl with | [_, _], _ => rfl
  obtain ⟨d17, F17⟩ := JgHd.fun_of (says_17 c) (fa_34 c)
  have b17 := F17.binds (ps := ["_law_thing"]) fun _ _ _ _ _ _ us hl => match us, hl with | [_], _ => rfl
  obtain ⟨d18, F18⟩ := JgHd.fun_of (says_18 c) (fa_36 c)
  have b18 := F18.binds (ps := ["_law_script"]) fun _ _ _ _ _ _ us hl => match us, hl with | [_], _ => rfl
  obtain ⟨dx300, Xq300⟩ := JgHd.ct_of (P := PR) (st := xs_NoWords) (B := "ValueError") X G (fa_38 c) (fa_40 c) (says_19 c)
  let f : Nat → Addr := fun i => match i with | 0 => He.ga K "is_list" | 1 => He.ga K "is_whole" | 2 => He.ga K "_consists_of" | 3 => He.ga K "is_name" | 4 => He.ga K "_is_row" | 5 => He.ga K "_are_rows" | 6 => He.ma K (He.ga K "Words") "__len__" | 7 => He.ma K (He.ga K "Words") "__init__" | 8 => He.ga K "_law_cell" | 9 => He.ga K "_law_box" | 10 => He.ga K "_law_take" | 11 => He.ga K "_law_names" | 12 => He.ga K "_law_rows" | 13 => He.ga K "_law_is_name" | 14 => He.ga K "_law_are_words" | 15 => He.ga K "_law_row_otherwise" | 16 => He.ga K "_law_otherwise" | 17 => He.ga K "_law_caught" | 18 => He.ga K "law" | 200 => He.ga K "Words" | 300 => He.ga K "NoWords" | 301 => He.ma K (He.ga K "NoWords") "__init__" | 310 => He.ga K "TermError" | 311 => He.ga K "Absent" | _ => 0
  let d : Nat → FuncData := fun i => match i with | 0 => d0 | 1 => d1 | 2 => d2 | 3 => d3 | 4 => d4 | 5 => d5 | 6 => d6 | 7 => d7 | 8 => d8 | 9 => d9 | 10 => d10 | 11 => d11 | 12 => d12 | 13 => d13 | 14 => d14 | 15 => d15 | 16 => d16 | 17 => d17 | 18 => d18 | 300 => dx300 | _ => d18
  have T : Txt (OO K) PR K mg f d := {
    F_is_list := F0, b_is_list := b0,
    m_is_list := PySem.W.mg_of X G (JgHd.glo_in (fa_1 c)), k_is_list := F0.kp,
    F_is_whole := F1, b_is_whole := b1,
    m_is_whole := PySem.W.mg_of X G (JgHd.glo_in (fa_3 c)), k_is_whole := F1.kp,
    F_consists_of := F2, b_consists_of := b2,
    m_consists_of := PySem.W.mg_of X G (JgHd.glo_in (fa_5 c)), k_consists_of := F2.kp,
    F_is_name := F3, b_is_name := b3,
    m_is_name := PySem.W.mg_of X G (JgHd.glo_in (fa_7 c)), k_is_name := F3.kp,
    F_is_row := F4, b_is_row := b4,
    m_is_row := PySem.W.mg_of X G (JgHd.glo_in (fa_9 c)), k_is_row := F4.kp,
    F_are_rows := F5, b_are_rows := b5,
    m_are_rows := PySem.W.mg_of X G (JgHd.glo_in (fa_11 c)), k_are_rows := F5.kp,
    F_Words___len__ := F6, b_Words___len__ := b6,
    meth_Words___len__ := He.meth_ok (fa_13 c),
    F_Words___init__ := F7, b_Words___init__ := b7,
    mk_Words := He.mkr_ok (fa_15 c),
    F_law_cell := F8, b_law_cell := b8,
    m_law_cell := PySem.W.mg_of X G (JgHd.glo_in (fa_17 c)), k_law_cell := F8.kp,
    F_law_box := F9, b_law_box := b9,
    m_law_box := PySem.W.mg_of X G (JgHd.glo_in (fa_19 c)), k_law_box := F9.kp,
    F_law_take := F10, b_law_take := b10,
    m_law_take := PySem.W.mg_of X G (JgHd.glo_in (fa_21 c)), k_law_take := F10.kp,
    F_law_names := F11, b_law_names := b11,
    m_law_names := PySem.W.mg_of X G (JgHd.glo_in (fa_23 c)), k_law_names := F11.kp,
    F_law_rows := F12, b_law_rows := b12,
    m_law_rows := PySem.W.mg_of X G (JgHd.glo_in (fa_25 c)), k_law_rows := F12.kp,
    F_law_is_name := F13, b_law_is_name := b13,
    m_law_is_name := PySem.W.mg_of X G (JgHd.glo_in (fa_27 c)), k_law_is_name := F13.kp,
    F_law_are_words := F14, b_law_are_words := b14,
    m_law_are_words := PySem.W.mg_of X G (JgHd.glo_in (fa_29 c)), k_law_are_words := F14.kp,
    F_law_row_otherwise := F15, b_law_row_otherwise := b15,
    m_law_row_otherwise := PySem.W.mg_of X G (JgHd.glo_in (fa_31 c)), k_law_row_otherwise := F15.kp,
    F_law_otherwise := F16, b_law_otherwise := b16,
    m_law_otherwise := PySem.W.mg_of X G (JgHd.glo_in (fa_33 c)), k_law_otherwise := F16.kp,
    F_law_caught := F17, b_law_caught := b17,
    m_law_caught := PySem.W.mg_of X G (JgHd.glo_in (fa_35 c)), k_law_caught := F17.kp,
    F_law := F18, b_law := b18,
    m_law := PySem.W.mg_of X G (JgHd.glo_in (fa_37 c)), k_law := F18.kp,
    tag_Words := tagL_at (of_decide_eq_true (fa_64 c)) (.head _), one_Words := tagL_one (show List.Nodup [1] from by decide) (.head _), m_Words := PySem.W.mg_of X G (JgHd.glo_in (fa_39 c)),
    x_NoWords := Xq300.x, y_NoWords := Xq300.y, n_NoWords := Xq300.n, xa_NoWords := Xq300.xa, c_NoWords := Xq300.c, tag_NoWords := tagL_at (of_decide_eq_true (fa_65 c)) (.head _), one_NoWords := tagL_one (show List.Nodup [2] from by decide) (.head _),
    c_TermError := PySem.W.mg_of X G (JgHd.glo_in (fa_41 c)),
    c_Absent := PySem.W.mg_of X G (JgHd.glo_in (fa_42 c)),
    exm_NoWords_NoWords := He.exm_ok (fa_43 c),
    z_super := PySem.W.mg_none_of X G (JgHd.free_in (fa_45 c)), opq := JgHd.is_ok (fa_44 c), tp := by decide +kernel,
    z_all := PySem.W.mg_none_of X G (JgHd.free_in (fa_46 c)),
    z_bool := PySem.W.mg_none_of X G (JgHd.free_in (fa_47 c)),
    z_dict := PySem.W.mg_none_of X G (JgHd.free_in (fa_48 c)),
    z_enumerate := PySem.W.mg_none_of X G (JgHd.free_in (fa_49 c)),
    z_int := PySem.W.mg_none_of X G (JgHd.free_in (fa_50 c)),
    z_isinstance := PySem.W.mg_none_of X G (JgHd.free_in (fa_51 c)),
    z_len := PySem.W.mg_none_of X G (JgHd.free_in (fa_52 c)),
    z_list := PySem.W.mg_none_of X G (JgHd.free_in (fa_53 c)),
    z_max := PySem.W.mg_none_of X G (JgHd.free_in (fa_54 c)),
    z_min := PySem.W.mg_none_of X G (JgHd.free_in (fa_55 c)),
    z_range := PySem.W.mg_none_of X G (JgHd.free_in (fa_56 c)),
    z_repr := PySem.W.mg_none_of X G (JgHd.free_in (fa_57 c)),
    z_str := PySem.W.mg_none_of X G (JgHd.free_in (fa_58 c)),
    z_tuple := PySem.W.mg_none_of X G (JgHd.free_in (fa_59 c)),
    c__SMALL := He.str_ok X G (fa_60 c),
    c__MOST_NAME := He.int_ok X G (fa_61 c),
    c_MOST_PLACES := He.int_ok X G (fa_62 c),
    c__MOST_WORDS := He.int_ok X G (fa_63 c),
    kit := kitOk_of (fa_66 c) (fun p hp => by
      rcases List.mem_cons.mp hp with rfl | hp
      · exact ins_ok (fa_38 c) (fa_67 c)
      cases hp),
    kitF := kitF_of (fun p hp => by
      rcases List.mem_cons.mp hp with rfl | hp
      · intro f hf
        exact noat_ok (fa_68 c) (by rcases hf with hf | hf; exact hf; cases hf)
      cases hp),
    sm := (fa_69 c),
    cls_Words := (ins_ok (fa_38 c) (fa_67 c)).cl,
    flds_Words := rfl, memo_Words := fun _ => rfl }
  refine ⟨f, d, T, T.m_law, ?_⟩
  obtain ⟨oc, od, kV, doc, pm, an, cdv, ct, osl, z, _⟩ := F18.ex
  show ∀ (s : Shared) (v : Value), BindsTo s d18 ⟨[v], []⟩ [("_law_script", v)]
  rw [z]
  exact fun s v => .of_eq rfl
end D06
open PySem PySem.W PyProof.Rows
set_option maxRecDepth 100000 in
set_option maxHeartbeats 0 in
theorem PySem.Challenge.cw_termshelf_k06_words_refused_holds : PySem.Challenge.rw_termshelf_k06_words_refused.Holds := by
  w_on; o_law
  refine HandSHeadRun.head_any (r := OpenLaw.row PySem.Challenge.rw_termshelf_k06_words_refused) (q := view (OpenLaw.row PySem.Challenge.rw_termshelf_k06_words_refused).prog [31]) (H := D06.hk) (ob := D06.ob) (M := 40000) (loose := D06.names) (d := HandSHeadRun.topDef (OpenLaw.row PySem.Challenge.rw_termshelf_k06_words_refused).prog 31) (kwd := []) D06.ob_eq
    (by kernel_rfl) (fun s => by kernel_rfl) D06.run (by kernel_rfl) (by kernel_rfl) (by kernel_rfl) (by rfl) (by first | assumption | decide +kernel) (by decide +kernel) ⟨rfl, rfl, rfl, rfl, rfl, by decide +kernel⟩ ?hw ?hc
  case hw => w_witness2
  case hc =>
    refine Jg.walkH (l := PySem.Challenge.rw_termshelf_k06_words_refused) (n := 63) (k := 8) (x := "_law_script") (sp := fun K vs H Q _ => Dl.spV (D06.OO K) K D06.sp_law vs H Q fun _ _ _ => False) rfl (by decide) (by kernel_rfl) ⟨rfl, by decide, by decide⟩ ?F (fun K H a ns hl _ hS => Dl.law_want hS ⟨ns, rfl, hl, fun _ => rfl⟩)
    intro w mg fa h Y G hmg0
    obtain ⟨K, KX, c⟩ := Y
    have hmg : mg ("law" : PySem.Str) = some (.ref fa) := by
      have e : (HandSHeadRun.topDef (OpenLaw.row PySem.Challenge.rw_termshelf_k06_words_refused).prog 31).name = ("law" : PySem.Str) := by kernel_rfl
      rw [← e]
      exact hmg0
    obtain ⟨f, d, T, e, hb⟩ := D06.txt_of KX G c
    rw [hmg] at e
    cases e
    exact ⟨K, d 18, KX, hb, fun base _ _ => Dl.FnC.calm (D06.ok_law T)⟩
