import PyProof.Rows.All
import Wide.All
import OpenK.AllK
import Wide.FinOn
import Lean
import PyProof.EqAt
import PyProof.EqKinds
import PyProof.TupleCall
import PyProof.Rows.SeqMore
import PyProof.MeetsStr2
import PyProof.CompUse
import PyProof.ListTruth
import PyProof.ZipIter
import PyProof.EnumIter
import KE.KRevSl
import PyProof.AutoSeq1
import PyProof.Rows.SetFrom
import PyProof.CollectIter
import KE.KSortTup
import PyProof.Rows.SortStr
import PyProof.Rows.StrInSeq
import PyProof.Rows.SortShell
import PyProof.Rows.SortWalk
import PyProof.NeKinds
import PyProof.ListRange
import PyProof.TupleOfSeq
import PyProof.EnumFor
import PyProof.EnumMake
import PySem.Challenge.RW_turnsame_k23_apart
noncomputable section
abbrev Fg := PySem.W.Frag
abbrev VSP := PySem.Value → PySem.Shared → Prop
abbrev AOs := List (PySem.Addr × PySem.Obj)
abbrev SOV := PySem.Str → Option PySem.Value
abbrev PDs := List PySem.PyData
abbrev wB := @PySem.wpAny_bind
abbrev wP := @PySem.wpAny_pure
abbrev hpS := @PySem.Heap.get?_push_of_some
theorem lMp {α β:Type} {f:α→β} {l:List α}:(l.map f).length=l.length:=List.length_map ..
theorem gES {α:Type} {l:List α} {i:Nat} {a:α}:l[i]?=some a↔∃ h:i<l.length,l[i]=a:=List.getElem?_eq_some_iff
theorem gEE {α:Type} {l:List α} {i:Nat} (h:i<l.length):l[i]?=some l[i]:=List.getElem?_eq_getElem h
theorem gEM {α β:Type} {f:α→β} {l:List α} {i:Nat}:(l.map f)[i]?=Option.map f l[i]?:=List.getElem?_map ..
theorem mGE {α:Type} {l:List α} {i:Nat} {a:α} (h:l[i]?=some a):a∈l:=List.mem_of_getElem? h
theorem mCS {α:Type} {a:α} {l:List α}:a∈a::l:=List.mem_cons_self
theorem mCM {α:Type} (y:α) {a:α} {l:List α} (h:a∈l):a∈y::l:=List.mem_cons_of_mem y h
theorem mAp {α:Type} {a:α} {s t:List α}:a∈s++t↔a∈s∨a∈t:=List.mem_append
theorem mSg {α:Type} {a b:α}:a∈[b]↔a=b:=List.mem_singleton
theorem oMS {α β:Type} {f:α→β} {x:Option α} {b:β}:x.map f=some b↔∃ a,x=some a∧f a=b:=Option.map_eq_some_iff
theorem nMN {α:Type} {a:α}:a∉([]:List α):=List.not_mem_nil
theorem tAO {α:Type} {l:List α} {i:Nat}:l.take (i+1)=l.take i++l[i]?.toList:=List.take_add_one
theorem lAp {α:Type} {l m:List α}:(l++m).length=l.length+m.length:=List.length_append ..
theorem lTk {α:Type} {i:Nat} {l:List α}:(l.take i).length=min i l.length:=List.length_take ..
set_option compiler.extract_closed false
set_option Elab.async false
set_option linter.all false
set_option maxRecDepth 100000
namespace L2
open PySem PySem.Spec PyProof.Rows
theorem _root_.lm:0≤PySem.sizeLine:=by decide
theorem _root_.ke:1≤PySem.sizeLine:=by decide
theorem _root_.cE:2≤PySem.sizeLine:=by decide
theorem _root_.fX:3≤PySem.sizeLine:=by decide
theorem _root_.rR:4≤PySem.sizeLine:=by decide
theorem _root_.B0:5≤PySem.sizeLine:=by decide
theorem _root_.Cg:6≤PySem.sizeLine:=by decide
theorem _root_.B1:10≤PySem.sizeLine:=by decide
def u5 (s:Stmt) (j:Nat):Stmt:=match s with
  | .ClassDef _ _ _ body _ _ _ _ _ _ _=>body.getD j (.Pass ⟨0,0,0,0⟩)
  | _=>.Pass ⟨0,0,0,0⟩
def bL (s:Stmt):Arguments:=match s with
  | .FunctionDef _ a _ _ _ _ _ _ _ _=>a
  | _=>{posonlyargs:=[],args:=[],vararg:=none,kwonlyargs:=[],kw_defaults:=[],kwarg:=none,defaults:=[]}
def ak (s:Stmt):List Stmt:=match s with
  | .FunctionDef _ _ b _ _ _ _ _ _ _=>b
  | _=>[]
def a0 (s:Stmt):Scope:=match s with
  | .FunctionDef _ _ _ _ _ _ sc _ _ _=>sc
  | _=>{kind:=.function,names:=[],isGenerator:=false,isCoroutine:=false}
end L2
namespace K23
open PySem L2
def top (i:Nat):Stmt:=PySem.Challenge.pw_turnsame_k23_apart.main.body.getD i (.Pass ⟨0,0,0,0⟩)
abbrev sG (j:Nat):Stmt:=u5 (top 16) j
def FT (l:List Value):Obj:={cls:=.type "tuple",data:=.seq l.toArray}
def FC (l:List Value):Obj:={cls:=.type "code",data:=.fields l.toArray}
def Fe (x:Str) (t:Nat) (v:Value):Str×Nat×Value:=(x,t,v)
def FD (P:Params) (l:List (Str×Nat×Value)) (ep:Nat):Obj:={cls:=.type "dict",data:=.dict (l.map fun x=>(⟨PyData.keyHash P x.1,.str x.1 x.2.1,x.2.2⟩:DictEntry)).toArray ep}
abbrev Row:=Str×Nat×Addr×List (Str×Nat)
def wF (e:Row):Str×Nat×Value:=Fe e.1 e.2.1 (.ref e.2.2.1)
def M0:Value:=.str "turnsame.cores" 263
def M1:Value:=.str "turnsame.calm" 302
def M2:Value:=.str "law_turnsame_k23_apart" 460
def FF (x q:Str) (st:Stmt) (m:Value) (c:Nat):Obj:={cls:=.type "function",data:=.func {name:=x,qualname:=q,params:=bL st,body:=.stmts (ak st),scope:=a0 st,globals:=3,closure:=[],defaults:=.none,kwdefaults:=.none,pyModule:=m,code:=.ref c}}
def FR (x q:Str) (st:Stmt) (m:Value) (t l g a e:Nat) (b:Bool):Fg :=
  [(a+(if b=true then 5 else 3),FC ([.str x t,.str q (t+1),.str "/claim/cut.py" (t+2),.int l 0,.int g 0,.int 0 0,.int 0 0,.int 3 0,.ref a,.bool true,.int 181 0,.ref (a+1),.none]++(if b=true then [.ref (a+2),.ref (a+3),.ref (a+4)] else [.none,.none,.ref (a+2)])++[.int e 0,.int l 0,.str "/claim/cut.py" (e+1)])),
   (a+(if b=true then 6 else 4),FF x q st m (a+(if b=true then 5 else 3)))]
def LW:List (Str×Nat):=[("say",304),("fault",305),("while",306),("apply",307),("get",308)]
def LO:List (Str×Nat):=[("div",310),("at",311)]
def SL:List Row:=[("number",194,23,[("number",195)]),("name",197,24,[("meant",198)]),("let",200,25,[("bound",201),("one",202),("one",203)]),("var",205,26,[("bound",206),("one",207),("one",208)]),("set",210,27,[("meant",211),("one",212)]),("do",214,28,[("many",215)]),("if",217,29,[("one",218),("one",219),("one",220)]),("while",222,30,[("one",223),("one",224)]),("each",226,31,[("bound",227),("one",228),("one",229)]),("say",231,32,[("one",232)]),("fault",234,33,[("word",235)]),("op",237,34,[("op",238),("many",239)]),("new",241,35,[("place",242),("many",243)]),("get",245,36,[("place",246),("place",247),("one",248)]),("fun",250,37,[("bounds",251),("one",252)]),("apply",254,38,[("one",255),("many",256)]),("call",258,39,[("place",259),("many",260)])]
def FG:Obj:={cls:=.type "type",data:=.cls {name:="Ground",bases:=[.type "object"],mro:=[.ref 167,.type "object"],ns:=166,qualname:="Ground"},slots:=#[none,none,some (.str "Ground" 355),some (.str "Ground" 363),some (.builtin "object.__new__"),some (.bool true)]}
def KF:Params→Fg:=fun P=>[(3,FD P [Fe "__name__" 165 (.str "law_turnsame_k23_apart" 460),Fe "__doc__" 166 (.none),Fe "__package__" 167 (.none),Fe "__loader__" 168 (.builtin "__main__.__loader__#opaque"),Fe "__spec__" 169 (.none),Fe "__annotations__" 170 (.ref 6),Fe "__builtins__" 171 (.ref 4),Fe "__file__" 173 (.str "/claim/cut.py" 172),Fe "__cached__" 174 (.none),Fe "_wall" 193 (.ref 21),Fe "SLOTS" 262 (.ref 22),Fe "children_of" 274 (.ref 46),Fe "at_path" 284 (.ref 53),Fe "bound_by" 291 (.ref 60),Fe "walked" 301 (.ref 67),Fe "STIRRING" 309 (.ref 68),Fe "STIRRING_OPS" 312 (.ref 69),Fe "vars_of" 318 (.ref 74),Fe "outer_vars" 324 (.ref 79),Fe "outside_funs" 334 (.ref 86),Fe "stirs" 342 (.ref 93),Fe "is_still" 348 (.ref 98),Fe "restless_functions" 354 (.ref 103),Fe "Ground" 440 (.ref 167),Fe "ground_of" 448 (.ref 178),Fe "are_apart" 459 (.ref 185),Fe "_law_box" 470 (.ref 192),Fe "_law_take" 480 (.ref 199),Fe "_law_leaf" 489 (.ref 206),Fe "_law_fresh" 496 (.ref 213),Fe "_law_many" 502 (.ref 218),Fe "_law_binder" 508 (.ref 223),Fe "_law_op" 520 (.ref 230),Fe "_law_record" 532 (.ref 237),Fe "_law_call" 538 (.ref 242),Fe "_law_flow" 550 (.ref 249),Fe "_law_e" 561 (.ref 256),Fe "_law_core" 567 (.ref 261),Fe "_law_children" 574 (.ref 268),Fe "_law_all" 584 (.ref 275),Fe "_law_at" 594 (.ref 282),Fe "_law_paths" 605 (.ref 289),Fe "_law_outer" 611 (.ref 294),Fe "_law_vars" 617 (.ref 299),Fe "_law_still" 626 (.ref 306),Fe "_law_apart" 632 (.ref 311),Fe "_law_thing" 641 (.ref 318),Fe "_law_with_vars" 647 (.ref 323),Fe "law" 665 (.ref 330)] 49),(22,FD P (SL.map wF) 17),(68,FT (LW.map fun s=>.str s.1 s.2)),(69,FT (LO.map fun s=>.str s.1 s.2)),(167,FG),(166,FD P [Fe "__module__" 362 (.str "turnsame.calm" 302),Fe "__firstlineno__" 366 (.int 78 365),Fe "__init__" 375 (.ref 117),Fe "read_in" 383 (.ref 124),Fe "set_in" 391 (.ref 131),Fe "quiet" 399 (.ref 138),Fe "idle" 407 (.ref 145),Fe "calm" 415 (.ref 152),Fe "leaves" 421 (.ref 157),Fe "apart" 430 (.ref 164),Fe "__static_attributes__" 433 (.ref 165),Fe "__dict__" 435 (.ref 168),Fe "__weakref__" 437 (.ref 169),Fe "__doc__" 438 (.none)] 4)]++SL.map (fun e=>(e.2.2.1,FT (e.2.2.2.map fun s=>.str s.1 s.2)))++(
  FR "children_of" "children_of" (top 3) M0 265 6 1 40 272 true ++
  FR "at_path" "at_path" (top 4) M0 275 14 2 47 282 true ++
  FR "bound_by" "bound_by" (top 5) M0 285 21 1 54 289 true ++
  FR "walked" "walked" (top 6) M0 292 25 1 61 299 true ++
  FR "vars_of" "vars_of" (top 10) M1 313 36 1 70 316 false ++
  FR "outer_vars" "outer_vars" (top 11) M1 319 38 3 75 322 false ++
  FR "outside_funs" "outside_funs" (top 12) M1 325 43 1 80 332 true ++
  FR "stirs" "stirs" (top 13) M1 335 52 2 87 340 true ++
  FR "is_still" "is_still" (top 14) M1 343 58 2 94 346 false ++
  FR "restless_functions" "restless_functions" (top 15) M1 349 60 1 99 352 false ++
  FR "ground_of" "ground_of" (top 17) M1 441 107 2 172 446 true ++
  FR "are_apart" "are_apart" (top 18) M1 449 109 4 179 457 true ++
  FR "_law_box" "_law_box" (top 20) M2 462 113 2 186 468 true ++
  FR "_law_take" "_law_take" (top 21) M2 471 118 2 193 478 true ++
  FR "_law_leaf" "_law_leaf" (top 22) M2 481 127 2 200 487 true ++
  FR "_law_fresh" "_law_fresh" (top 23) M2 490 132 1 207 494 true ++
  FR "_law_many" "_law_many" (top 24) M2 497 135 5 214 500 false ++
  FR "_law_binder" "_law_binder" (top 25) M2 503 137 4 219 506 false ++
  FR "_law_op" "_law_op" (top 26) M2 509 153 4 224 518 true ++
  FR "_law_record" "_law_record" (top 27) M2 521 161 4 231 530 true ++
  FR "_law_call" "_law_call" (top 28) M2 533 169 4 238 536 false ++
  FR "_law_flow" "_law_flow" (top 29) M2 539 182 4 243 548 true ++
  FR "_law_e" "_law_e" (top 30) M2 551 196 4 250 559 true ++
  FR "_law_core" "_law_core" (top 31) M2 562 213 1 257 565 false ++
  FR "_law_children" "_law_children" (top 32) M2 568 228 1 262 572 true ++
  FR "_law_all" "_law_all" (top 33) M2 575 240 2 269 582 true ++
  FR "_law_at" "_law_at" (top 34) M2 585 246 2 276 592 true ++
  FR "_law_paths" "_law_paths" (top 35) M2 595 253 2 283 603 true ++
  FR "_law_outer" "_law_outer" (top 36) M2 606 259 3 290 609 false ++
  FR "_law_vars" "_law_vars" (top 37) M2 612 263 2 295 615 false ++
  FR "_law_still" "_law_still" (top 38) M2 618 265 2 300 624 true ++
  FR "_law_apart" "_law_apart" (top 39) M2 627 275 4 307 630 false ++
  FR "_law_thing" "_law_thing" (top 40) M2 633 283 1 312 639 true ++
  FR "_law_with_vars" "_law_with_vars" (top 41) M2 642 297 2 319 645 false ++
  FR "law" "law" (top 42) M2 648 301 1 324 663 true ++
  FR "__init__" "Ground.__init__" (sG 0) M1 367 80 3 111 373 true ++
  FR "read_in" "Ground.read_in" (sG 1) M1 376 84 2 118 381 true ++
  FR "set_in" "Ground.set_in" (sG 2) M1 384 87 2 125 389 true ++
  FR "quiet" "Ground.quiet" (sG 3) M1 392 90 2 132 397 true ++
  FR "leaves" "Ground.leaves" (sG 6) M1 416 99 3 153 419 false ++
  FR "apart" "Ground.apart" (sG 7) M1 422 103 3 158 428 true)
def KA:List Addr:=[3,22,68,69,167,166,23,24,25,26,27,28,29,30,31,32,33,34,35,36,37,38,39,45,46,52,53,59,60,66,67,73,74,78,79,85,86,92,93,97,98,102,103,177,178,184,185,191,192,198,199,205,206,212,213,217,218,222,223,229,230,236,237,241,242,248,249,255,256,260,261,267,268,274,275,281,282,288,289,293,294,298,299,305,306,310,311,317,318,322,323,329,330,116,117,123,124,130,131,137,138,156,157,163,164]
def QV:Program:=PySem.W.view PySem.Challenge.pw_turnsame_k23_apart [42]
def LZ:List Str:=List.map Str.ofString ["_wall","SLOTS","children_of","at_path","bound_by","walked","STIRRING","STIRRING_OPS","vars_of","outer_vars","outside_funs","stirs","is_still","restless_functions","Ground","ground_of","are_apart","_law_box","_law_take","_law_leaf","_law_fresh","_law_many","_law_binder","_law_op","_law_record","_law_call","_law_flow","_law_e","_law_core","_law_children","_law_all","_law_at","_law_paths","_law_outer","_law_vars","_law_still","_law_apart","_law_thing","_law_with_vars"]
def HK:PySem.W.Hook:=PySem.W.kHook KF KA (fun _=>by kernel_rfl)
theorem n0 {α β γ:Type} {o:Option α} {f:α→β} {g:α→γ} {b:β} {c:γ} (h1:o.map f=some b) (h2:o.map g=some c):o.map (fun s=>(f s,g s))=some (b,c):=by
 cases o with
 | none=>cases h1
 | some x=>rw[Option.map_some] at h1 h2 ⊢;cases h1;cases h2;rfl
def lG (N:Nat) (w:World) (b:Bool):Option Shared:=(PySem.W.fencedOpening treeTable PySem.Challenge.pw_turnsame_k23_apart w N).bind fun s₀=>PySem.W.topFrom treeTable PySem.Challenge.pw_turnsame_k23_apart (w.withFollow "special-get-raises" b) N s₀
theorem tX {q:Program} {loose:List Str} {Xt:Shared→Bool} {α:Type} {Yf:Shared→α} {Ya:World→α} {N:Nat} {g0:Bool}
 (h1:∀ (w:World) (b:Bool),(lG N w b).map (PySem.W.openSeen q loose (importedModules PySem.Challenge.pw_turnsame_k23_apart.main.body) Xt g0)=some (PySem.W.openGood q loose))
 (h2:∀ (w:World) (b:Bool),(lG N w b).map Yf=some (Ya (w.withFollow "special-get-raises" b))):PySem.W.LeftO PySem.Challenge.pw_turnsame_k23_apart q loose Xt Yf Ya N g0 :=
 PySem.W.LeftO.of_split "special-get-raises" fun w=>by
  have a:=n0 (h1 w false) (h2 w false);have b:=n0 (h1 w true) (h2 w true);unfold lG at a b;cases e:PySem.W.fencedOpening treeTable PySem.Challenge.pw_turnsame_k23_apart w N with
  | none=>rw[e] at a;cases a
  | some s₀ =>
   rw[e,Option.bind_some] at a b;rw[Option.map_some,a,b]
def XT (s:Shared):Bool:=PySem.W.xlAt QV [] s&&PySem.W.recOk (PySem.W.RowW.records (PySem.W.OpenRow.toRowW (PySem.W.OpenLaw.row PySem.Challenge.rw_turnsame_k23_apart))) s
set_option maxRecDepth 100000 in
theorem BW:∀ w:World,(lG 3912 w false).map (PySem.W.openSeen QV LZ (importedModules PySem.Challenge.pw_turnsame_k23_apart.main.body) XT true)=some (PySem.W.openGood QV LZ):=fun w=>by kernel_rfl
set_option maxRecDepth 100000 in
theorem BU:∀ w:World,(lG 3912 w false).map (PySem.W.Hook.obs HK)=some (PySem.W.Hook.val HK (w.withFollow "special-get-raises" false)):=fun w=>by kernel_rfl
set_option maxRecDepth 100000 in
theorem BV:∀ w:World,(lG 3912 w true).map (PySem.W.openSeen QV LZ (importedModules PySem.Challenge.pw_turnsame_k23_apart.main.body) XT true)=some (PySem.W.openGood QV LZ):=fun w=>by kernel_rfl
set_option maxRecDepth 100000 in
theorem BT:∀ w:World,(lG 3912 w true).map (PySem.W.Hook.obs HK)=some (PySem.W.Hook.val HK (w.withFollow "special-get-raises" true)):=fun w=>by kernel_rfl
end K23
section
open PySem PySem.W PyProof.Rows
set_option maxRecDepth 100000 in
set_option maxHeartbeats 0 in
theorem K23.preH (hc:∀ d:DefRec,d.name=Str.ofString "law"→d.params.defaults=[]→WalkO K23.QV K23.LZ (XL K23.QV []) (Hook.says K23.HK) (OpenRow.toRowW (OpenLaw.row PySem.Challenge.rw_turnsame_k23_apart)) d [] (fun f vs=>PySem.call f vs)):PySem.Challenge.rw_turnsame_k23_apart.Holds:=by
 w_on;o_law
 refine holds_open (q:=K23.QV) (loose:=K23.LZ) (Xt:=K23.XT) (XP:=XL K23.QV []) (Yf:=Hook.obs K23.HK) (Ya:=Hook.val K23.HK) (YP:=Hook.says K23.HK) (N:=3912) ?hl (Hook.of K23.HK) (Hook.keeps K23.HK) (fun s e=>xl_of s (Bool.and_eq_true_iff.mp e).1) XL.keeps (by rfl) (by rfl) (by rfl) (fun s e=>recFacts_of (Bool.and_eq_true_iff.mp e).2) (by rfl) (by first | assumption | decide +kernel) (by decide +kernel) ⟨rfl,rfl,rfl,rfl,rfl,by decide +kernel⟩ ?hw ?hc
 case hl=>exact K23.tX (fun w b=>by cases b;exact K23.BW w;exact K23.BV w) (fun w b=>by cases b;exact K23.BU w;exact K23.BT w)
 case hw=>w_witness2
 exact hc _ rfl rfl
end
namespace L2
open PySem PySem.Spec PyProof.Rows
abbrev Key:=Sum Int Str
def jg:Key→Value→Bool
  | .inl k,v=>Value.isInt k v
  | .inr x,v=>Value.isStrOf x v
def BR (w:World):Key→Int
  | .inl k=>hashInt k
  | .inr x=>hashStr w x
theorem aZ:∀ {k:Key} {v:Value},jg k v=true→(∃ i t,k=Sum.inl i∧v=Value.int i t)∨(∃ x t,k=Sum.inr x∧v=Value.str x t)
 | .inl i,v,h=>by
  obtain⟨t,e⟩:=Value.isInt_shape (k:=i) (v:=v) h;exact .inl ⟨i,t,rfl,e⟩
 | .inr x,v,h=>by
  obtain⟨t,e⟩:=Value.isStrOf_shape (x:=x) (v:=v) h;exact .inr ⟨x,t,rfl,e⟩
theorem oA (i:Int) (t:Tok):jg (.inl i) (.int i t)=true:=by simp[jg,Value.isInt]
theorem oz (x:Str) (t:Tok):jg (.inr x) (.str x t)=true:=by simp[jg,Value.isStrOf]
theorem xo (a b:Int):decide ((Sum.inl a:Key)=Sum.inl b)=(a==b):=by
 by_cases e:a=b
 · subst e;simp
 · have h:¬ (Sum.inl a:Key)=Sum.inl b:=fun q=>e (Sum.inl.inj q);rw[decide_eq_false h];exact (beq_eq_false_iff_ne.mpr e).symm
theorem xj (a b:Str):decide ((Sum.inr a:Key)=Sum.inr b)=decide (a=b):=by
 by_cases e:a=b
 · subst e;simp
 · have h:¬ (Sum.inr a:Key)=Sum.inr b:=fun q=>e (Sum.inr.inj q);rw[decide_eq_false h,decide_eq_false e]
theorem xn (a:Int) (b:Str):decide ((Sum.inl a:Key)=Sum.inr b)=false:=decide_eq_false (fun q=>nomatch q)
theorem xk (a:Str) (b:Int):decide ((Sum.inr a:Key)=Sum.inl b)=false:=decide_eq_false (fun q=>nomatch q)
def ar (prog:Program) (w:World):PySem.KeyKind prog w Key where
  is:=jg
  hash:=BR w
  inj:=fun v a b ha hb=>by
    rcases aZ ha with ⟨i,t,rfl,rfl⟩ | ⟨x,t,rfl,rfl⟩
    · rcases aZ hb with ⟨j,u,rfl,e⟩ | ⟨y,u,rfl,e⟩
      · injection e with e1 _;rw[e1]
      · exact nomatch e
    · rcases aZ hb with ⟨j,u,rfl,e⟩ | ⟨y,u,rfl,e⟩
      · exact nomatch e
      · injection e with e1 _;rw[e1]
  byValue:=fun k v h=>by
    rcases aZ h with ⟨i,t,rfl,rfl⟩ | ⟨x,t,rfl,rfl⟩ <;> rfl
  pyHash:=fun hv h=>by
    rcases aZ hv with ⟨i,t,rfl,rfl⟩ | ⟨x,t,rfl,rfl⟩
    · exact wpAny_pyHash_int h
    · exact wpAny_pyHash_str h
  eqBool:=fun hu hv h=>by
    rcases aZ hu with ⟨i,t,rfl,rfl⟩ | ⟨x,t,rfl,rfl⟩
    · rcases aZ hv with ⟨j,u,rfl,rfl⟩ | ⟨y,u,rfl,rfl⟩
      · rw[xo] at h;exact wpAny_eqBool_int h
      · rw[xn] at h;exact SeqAt.EqAt.int_str i t y u _ _ _ _ h
    · rcases aZ hv with ⟨j,u,rfl,rfl⟩ | ⟨y,u,rfl,rfl⟩
      · rw[xk] at h;exact SeqAt.EqAt.str_int x t j u _ _ _ _ h
      · rw[xj] at h;exact wpAny_eqBool_str h
  «strs»:=fun k x t v h=>by
    rcases aZ h with ⟨i,u,rfl,e⟩ | ⟨y,u,rfl,e⟩
    · exact nomatch e
    · injection e with e1 _
      subst e1;cases v <;> rfl
theorem kM (prog:Program) (w:World) (i:Int) (t:Tok):(ar prog w).is (.inl i) (.int i t)=true:=oA i t
theorem dZ (prog:Program) (w:World) (x:Str) (t:Tok):(ar prog w).is (.inr x) (.str x t)=true:=oz x t
inductive V where
  | non | bl (b:Bool) | int (i:Int) | str (x:Str) | byt (b:Array UInt8) | flt (b:UInt64) | ref (a:Addr) | ty (n:String)
  deriving DecidableEq
def aG:V→Value→Prop
  | .non,u=>u=Value.none
  | .bl b,u=>u=Value.bool b
  | .int i,u=>∃ t,u=Value.int i t
  | .str x,u=>∃ t,u=Value.str x t
  | .byt b,u=>∃ t,u=Value.bytes b t
  | .flt b,u=>∃ t,u=Value.float b t
  | .ref a,u=>u=Value.ref a
  | .ty n,u=>u=Value.type n
abbrev aD:List V→List Value→Prop:=Paired aG
theorem aD.length {xs:List V} {us:List Value} (r:aD xs us):xs.length=us.length:=Paired.length r
theorem aD.get:∀ {xs:List V} {us:List Value} {i:Nat} {x:V},aD xs us→xs[i]?=some x→∃ u,us[i]?=some u∧aG x u:=by
 intro xs us i x h
 induction h generalizing i with
 | nil=>intro e;simp at e
 | cons r t ih =>
  intro e;cases i with
  | zero=>cases e;exact⟨_,rfl,r⟩
  | succ i=>exact ih e
theorem aD.set {x:V} {u:Value} (r:aG x u):∀ {xs:List V} {us:List Value} (i:Nat),aD xs us→aD (xs.set i x) (us.set i u)
 | _,_,_,.nil=>.nil
 | _,_,0,.cons _ t=>.cons r t
 | _,_,i+1,.cons q t=>.cons q (aD.set r i t)
theorem aD.append:∀ {xs ys:List V} {us ws:List Value},aD xs us→aD ys ws→aD (xs++ys) (us++ws):=by
 intro xs ys us ws h z
 induction h with
 | nil=>exact z
 | cons r t ih=>exact .cons r ih
theorem aD.take:∀ {xs:List V} {us:List Value} (n:Nat),aD xs us→aD (xs.take n) (us.take n)
 | _,_,0,_=>.nil
 | _,_,_+1,.nil=>.nil
 | _,_,n+1,.cons r t=>.cons r (aD.take n t)
theorem aD.drop:∀ {xs:List V} {us:List Value} (n:Nat),aD xs us→aD (xs.drop n) (us.drop n)
 | _,_,0,r=>r
 | _,_,_+1,.nil=>.nil
 | _,_,n+1,.cons _ t=>aD.drop n t
def dz:Option V→Option Value→Prop
  | some v,some u=>aG v u
  | none,none=>True
  | _,_=>False
def KV {κ:Type}:List (κ×V)→List (κ×Value)→Prop:=Paired fun (p:κ×V) (q:κ×Value)=>p.1=q.1∧aG p.2 q.2
def kV:Key→V
  | .inl i=>.int i
  | .inr x=>.str x
inductive HO where
    | lst (xs:List V)
    | tup (xs:List V)
    | dK (kvs:List (Key×V)) | dT (kvs:List (List Key×V))
    | set (S:Int→Bool) (n:Nat)
    | ins (C dx:Addr) (fs:List (Str×V))
    | own (x:Addr)
    | xd (fs:List (Str×V))
    | met (f x:Addr)
    | rng (lo hi:Int)
    | frz (o:Obj) (u:HO)
    | tbl (ps:Array Value)
    | ext (φ:Heap→Prop)
abbrev Hp:=Addr→Option HO
def upd (H:Hp) (a:Addr) (o:HO):Hp:=fun b=>if b=a then some o else H b
theorem pE {H:Hp} {a:Addr} {o:HO}:upd H a o a=some o:=by unfold upd;rw[if_pos rfl]
theorem ad {H:Hp} {a b:Addr} {o:HO} (h:b≠a):upd H a o b=H b:=by unfold upd;rw[if_neg h]
theorem Am {H:Hp} {a b:Addr} {o u:HO} (h:H a=some o) (h':H b=some u) (d:o≠u):a≠b:=by
 intro e;subst e;rw[h] at h';exact d (Option.some.inj h')
theorem af {H:Hp} {a b:Addr} {o:HO} (h:H a=some o) (h':H b=none):a≠b:=by
 intro e;subst e;rw[h] at h';cases h'
section
variable (P:Program) (w:World)
def bm (H:Hp) (h:Heap) (a:Addr):HO→Prop
  | .lst xs=>xs.length≤sizeLine∧∃ (its:List Value) (n:Nat),aD xs its∧h.get? a=some {cls:=.type "list",data:=.seq its.toArray n}
  | .tup xs=>xs.length≤sizeLine∧∃ its:List Value,aD xs its∧IsTup h a its.toArray
  | .dK kvs=>kvs.length≤sizeLine∧(a==sysModules)=false∧∃ vs,KV kvs vs∧h.DictOf (ar P w) a vs
  | .dT kvs=>kvs.length≤sizeLine∧(a==sysModules)=false∧∃ xs:List (List Key×Addr×Value),
      Paired (fun (p:List Key×V) (q:List Key×Addr×Value)=>p.1=q.1∧H q.2.1=some (.tup (p.1.map kV))∧aG p.2 q.2.2) kvs xs ∧
      ∃ o es ep,h.get? a=some o∧o.ExactDict∧o.data=.dict es ep∧es.toList=xs.map (entryOfKey (tupleKind (ar P w)))∧(xs.map (·.1)).Nodup
  | .set S n=>h.SetOf (intKind P w) a S n
  | .ins C dx fs=>H dx=some (.own a)∧fs.length≤1000∧dx≠a∧h.get? a=some (PySem.W.instObj C dx) ∧
      ∃ mA,h.Ns1 dx mA∧(∀ f,dz (fs.lookup f) (mA f))∧PySem.Within mA (fs.map (·.1))
  | .own _=>∃ o,h.get? a=some o
  | .xd fs=>∃ mA,h.Ns1 a mA∧∀ f,dz (fs.lookup f) (mA f)
  | .rng lo hi=>∃ t u v,h.get? a=some {cls:=.type "range",data:=.fields #[.int lo t,.int hi u,.int 1 v]}
  | .frz o u=>h.get? a=some o∧bm H h a u
  | .tbl ps=>h.get? a=some {cls:=.none,data:=.fields ps}
  | .met f x=>h.get? a=some (PySem.W.methodObj (.ref f) (.ref x))
  | .ext φ=>φ h∧(∃ o,h.get? a=some o)∧∀ h1 h2:Heap,φ h1→(∀ o,h1.get? a=some o→h2.get? a=some o)→φ h2
def HOk (H:Hp) (h:Heap):Prop:=∀ a o,H a=some o→bm P w H h a o
end
section
variable {P:Program} {w:World} {H H':Hp} {h h':Heap} {a:Addr} {o:HO}
theorem bm.lt (x:bm P w H h a o):a<h.objs.size:=by
 cases o with
 | lst xs=>obtain⟨_,_,_,_,e⟩:=x;exact Heap.lt_size e
 | tup xs=>obtain⟨_,_,_,p⟩:=x;exact p.lt
 | dK kvs=>obtain⟨_,_,_,_,o,_,_,e,_⟩:=x;exact Heap.lt_size e
 | dT kvs=>obtain⟨_,_,_,_,o,_,_,e,_⟩:=x;exact Heap.lt_size e
 | set S n=>obtain⟨o,_,_,_,e,_⟩:=x;exact Heap.lt_size e
 | ins C dx fs=>obtain⟨_,_,_,e,_⟩:=x;exact Heap.lt_size e
 | own y=>obtain⟨_,e⟩:=x;exact Heap.lt_size e
 | xd fs=>obtain⟨_,⟨_,_,_,e,_⟩,_⟩:=x;exact Heap.lt_size e
 | rng lo hi=>obtain⟨_,_,_,e⟩:=x;exact Heap.lt_size e
 | frz ob u=>obtain⟨e,_⟩:=x;exact Heap.lt_size e
 | tbl ps=>exact Heap.lt_size (show h.get? a=some _ from x)
 | met f y=>exact Heap.lt_size (show h.get? a=some _ from x)
 | ext φ=>obtain⟨_,⟨_,e⟩,_⟩:=x;exact Heap.lt_size e
theorem Paired.mapP {α β:Type} {F G:α→β→Prop}:∀ {l₁:List α} {l₂:List β},Paired F l₁ l₂→(∀ a b,F a b→G a b)→Paired G l₁ l₂:=by
 intro l₁ l₂ h f
 induction h with
 | nil=>exact .nil
 | cons r t ih=>exact .cons (f _ _ r) ih
theorem bm.stay (x:bm P w H h a o) (k:∀ b u,(b=a∨H b=some (.own a))→h.get? b=some u→h'.get? b=some u)
 (ho:∀ b,H b=some (.own a)→H' b=some (.own a)) (ht:∀ b xs,H b=some (.tup xs)→H' b=some (.tup xs)):bm P w H' h' a o:=by
 induction o with
 | lst xs=>obtain⟨z,its,n,r,e⟩:=x;exact⟨z,its,n,r,k _ _ (.inl rfl) e⟩
 | tup xs=>obtain⟨z,its,r,ob,e,c⟩:=x;exact⟨z,its,r,ob,k _ _ (.inl rfl) e,c⟩
 | dK kvs=>obtain⟨z,y,vs,r,ob,es,ep,e,c⟩:=x;exact⟨z,y,vs,r,ob,es,ep,k _ _ (.inl rfl) e,c⟩
 | dT kvs =>
  obtain⟨z,y,xs,r,ob,es,ep,e,c⟩:=x;exact⟨z,y,xs,Paired.mapP r fun p q z=>⟨z.1,ht _ _ z.2.1,z.2.2⟩,ob,es,ep,k _ _ (.inl rfl) e,c⟩
 | set S n=>obtain⟨ob,es,ep,t,e,c⟩:=x;exact⟨ob,es,ep,t,k _ _ (.inl rfl) e,c⟩
 | ins C dx fs =>
  obtain⟨d,z,ne,e,mA,⟨od,es,ep,e2,c⟩,r⟩:=x;exact⟨ho _ d,z,ne,k _ _ (.inl rfl) e,mA,⟨od,es,ep,k _ _ (.inr d) e2,c⟩,r⟩
 | own y=>obtain⟨ob,e⟩:=x;exact⟨ob,k _ _ (.inl rfl) e⟩
 | xd fs=>obtain⟨mA,⟨od,es,ep,e,c⟩,r⟩:=x;exact⟨mA,⟨od,es,ep,k _ _ (.inl rfl) e,c⟩,r⟩
 | rng lo hi=>obtain⟨t,u,v,e⟩:=x;exact⟨t,u,v,k _ _ (.inl rfl) e⟩
 | frz ob u ih=>obtain⟨e,q⟩:=x;exact⟨k _ _ (.inl rfl) e,ih q⟩
 | tbl ps =>
  have e:h.get? a=some {cls:=.none,data:=.fields ps}:=x;show h'.get? a=some {cls:=.none,data:=.fields ps};exact k a _ (.inl rfl) e
 | met f y =>
  have e:h.get? a=some (PySem.W.methodObj (.ref f) (.ref y)):=x;show h'.get? a=some (PySem.W.methodObj (.ref f) (.ref y));exact k a _ (.inl rfl) e
 | ext φ=>obtain⟨p,⟨o,e⟩,st⟩:=x;exact⟨st _ _ p fun o q=>k _ _ (.inl rfl) q,⟨o,k _ _ (.inl rfl) e⟩,st⟩
theorem HOk.lt (x:HOk P w H h) (e:H a=some o):a<h.objs.size:=(x a o e).lt
theorem HOk.fresh (x:HOk P w H h) (e:h.objs.size≤a):H a=none:=by
 cases q:H a with
 | none=>rfl
 | some u=>exact absurd (Nat.lt_of_lt_of_le (x.lt q) e) (Nat.lt_irrefl _)
theorem HOk.kept (x:HOk P w H h) (k:∀ b u,h.get? b=some u→h'.get? b=some u):HOk P w H h':=fun a o e =>
 (x a o e).stay (fun b u _ q=>k b u q) (fun _ q=>q) fun _ _ q=>q
theorem HOk.laid (x:HOk P w H h) (k:∀ b u,h.get? b=some u→h'.get? b=some u) (hp:h.objs.size≤a) (new:bm P w (upd H a o) h' a o):HOk P w (upd H a o) h':=fun b u e=>by
 have hn:=x.fresh hp;by_cases hb:b=a
 · subst hb;rw[pE] at e;cases e;exact new
 · rw[ad hb] at e;exact (x b u e).stay (fun c v _ q=>k c v q) (fun c q=>by rw[ad (af q hn)];exact q) fun c xs q=>by rw[ad (af q hn)];exact q
end
def Rd (H:Hp) (a:Addr) (u:HO):Prop:=H a=some u∨∃ o,H a=some (.frz o u)
theorem Rd.ok {P:Program} {w:World} {H:Hp} {h:Heap} {a:Addr} {u:HO} (r:Rd H a u) (x:HOk P w H h):bm P w H h a u:=by
 rcases r with r | ⟨o,r⟩
 · exact x a u r
 · obtain⟨_,q⟩:=x a _ r;exact q
def Mut:Option HO→Prop
  | some (.lst _)=>True
  | some (.dK _)=>True
  | some (.dT _)=>True
  | some (.set _ _)=>True
  | some (.ins _ _ _)=>True
  | some (.ext _)=>True
  | _=>False
section
variable {P:Program} {w:World} {H:Hp} {h h':Heap} {x e:Addr} {o':HO}
theorem HOk.write (ok:HOk P w H h) (mu:Mut (H x)) (he:e=x∨H e=some (.own x)) (k:∀ b u,b≠e→h.get? b=some u→h'.get? b=some u) (heo:∃ u,h'.get? e=some u)
 (new:bm P w (upd H x o') h' x o'):HOk P w (upd H x o') h':=fun b u q=>by
 have nown:∀ c y,H c=some (.own y)→c≠x:=fun c y r z=>by subst z;rw[r] at mu;exact mu
 have ntup:∀ c xs,H c=some (.tup xs)→c≠x:=fun c xs r z=>by subst z;rw[r] at mu;exact mu
 by_cases hb:b=x
 · subst hb;rw[pE] at q;cases q;exact new
 · rw[ad hb] at q;by_cases hbe:b=e
   · have q':H b=some (.own x):=by
      rcases he with z | z
      · exact absurd (hbe.trans z) hb
      · rw[hbe];exact z
     rw[q] at q';cases q';obtain⟨v,hv⟩:=heo;exact⟨v,by rw[hbe];exact hv⟩
   · refine (ok b u q).stay (fun c v hc r=>k c v ?_ r) (fun c r=>by rw[ad (nown c b r)];exact r) fun c xs r=>by rw[ad (ntup c xs r)];exact r
     rcases hc with rfl | hc
     · exact hbe
     · rintro rfl
       rcases he with z | z
       · exact nown c b hc z
       · rw[hc] at z;cases z;exact hb rfl
end
structure Un (fs ex:List Addr) (H H':Hp) (h h':Heap):Prop where
  keep:∀ b o,h.get? b=some o→H b=none→b∉fs→b∉ex→h'.get? b=some o
  slot:∀ b o,h.get? b=some o→H b=none→b∈fs→b∉ex→∃ sl,h'.get? b=some {o with slots:=sl}
  free:∀ b o,h.get? b=some o→H b=none→b∉ex→H' b=none
  there:∀ b o,h.get? b=some o→b∉ex→∃ o',h'.get? b=some o'
  tups:∀ b xs,H b=some (.tup xs)→H' b=some (.tup xs)
  frzs:∀ b o u,H b=some (.frz o u)→H' b=some (.frz o u)
  tbls:∀ b ps,H b=some (.tbl ps)→∃ more,H' b=some (.tbl (ps++more))
section
variable {fs fs' ex ex':List Addr} {H H1 H2:Hp} {h h1 h2 h':Heap} {a x e:Addr} {o:HO}
theorem Un.any (u:Un fs ex H H1 h h1) {b:Addr} {ob:Obj} (q:h.get? b=some ob) (n:H b=none) (hx:b∉ex):∃ sl,h1.get? b=some {ob with slots:=sl}:=by
 by_cases hb:b∈fs
 · exact u.slot b ob q n hb hx
 · exact⟨ob.slots,u.keep b ob q n hb hx⟩
theorem Un.kept (k:∀ b u,h.get? b=some u→h'.get? b=some u):Un fs ex H H h h' :=
 ⟨fun b ob q _ _ _=>k b ob q,fun b ob q _ _ _=>⟨ob.slots,k b ob q⟩,fun _ _ _ n _=>n,fun b ob q _=>⟨ob,k b ob q⟩,fun _ _ q=>q,fun _ _ _ q=>q,fun _ ps q=>⟨#[],by rw[q];simp⟩⟩
theorem Un.refl:Un fs ex H H h h:=Un.kept fun _ _ q=>q
theorem Un.laid (k:∀ b u,h.get? b=some u→h'.get? b=some u) (hp:h.objs.size≤a) (hn:H a=none):Un fs ex H (upd H a o) h h' where
 keep:=fun b u q _ _ _=>k b u q
 slot:=fun b u q _ _ _=>⟨u.slots,k b u q⟩
 free:=fun b u q n _=>by rw[ad (Nat.ne_of_lt (Nat.lt_of_lt_of_le (Heap.lt_size q) hp))];exact n
 there:=fun b u q _=>⟨u,k b u q⟩
 tups:=fun b xs q=>by rw[ad (af q hn)];exact q
 frzs:=fun b u xs q=>by rw[ad (af q hn)];exact q
 tbls:=fun b ps q=>⟨#[],by rw[ad (af q hn),q];simp⟩
theorem Un.write (mu:Mut (H x)) (he:e=x∨H e=some (.own x)) (k:∀ b u,b≠e→h.get? b=some u→h'.get? b=some u) (heo:∃ u,h'.get? e=some u):Un fs ex H (upd H x o) h h':=by
 have hx:∀ b,H b=none→b≠x:=fun b n z=>by subst z;rw[n] at mu;exact mu
 have hb:∀ b,H b=none→b≠e:=fun b n z=>by
  subst z
  rcases he with r | r
  · exact hx b n r
  · rw[n] at r;cases r
 have hm:∀ b u,H b=some u→¬ Mut (some u)→b≠x:=fun b u q nm z=>by subst z;rw[q] at mu;exact nm mu
 refine⟨fun b u q n _ _=>k b u (hb b n) q,fun b u q n _ _=>⟨u.slots,k b u (hb b n) q⟩,fun b u q n _=>by rw[ad (hx b n)];exact n,fun b u q _=>?_,
   fun b xs q=>by rw[ad (hm b _ q fun z=>z)];exact q,fun b u xs q=>by rw[ad (hm b _ q fun z=>z)];exact q,fun b ps q=>⟨#[],by rw[ad (hm b _ q fun z=>z),q];simp⟩⟩
 by_cases hbe:b=e
 · subst hbe;exact heo
 · exact⟨u,k b u hbe q⟩
end
def trk (h:Heap) (H:Hp):List Addr:=(List.range h.objs.size).filter fun a=>(H a).isSome
def jQ (h:Heap) (H:Hp):Heap:=PySem.W.hideAll h (trk h H)
theorem oC (h:Heap) (H:Hp):(jQ h H).objs.size=h.objs.size:=PySem.W.hideAll_size _ _
theorem r8 {h:Heap} {H:Hp} {b:Addr} {o:Obj} (e:h.get? b=some o) (n:H b=none):(jQ h H).get? b=some o :=
 PySem.W.hideAll_get _ e fun hm=>by
  have q:(H b).isSome=true:=(List.mem_filter.mp hm).2;rw[n] at q;simp at q
theorem tP {h:Heap} {H:Hp} {b:Addr} {o:Obj} (e:(jQ h H).get? b=some o):h.get? b=some o∧H b=none:=by
 have e':h.get? b=some o:=PySem.W.of_hideAll (trk h H) e;refine⟨e',?_⟩;cases q:H b with
 | none=>rfl
 | some x =>
  have hm:b∈trk h H:=List.mem_filter.mpr ⟨List.mem_range.mpr (Heap.lt_size e'),by simp[q]⟩;have z:(jQ h H).get? b=none:=PySem.W.hideAll_none (trk h H) hm;rw[z] at e;cases e
def ur (g h:Heap) (L:Addr):AOs:=(List.range h.objs.size).filterMap fun a=>if a=L∨(g.get? a).isSome=true then none else (h.get? a).map fun o=>(a,o)
def dk (g h:Heap) (L d:Addr):AOs:=(ur g h L).filter fun p=>decide (p.1≠d)
structure Mod (K:Fg) (mg:SOV) (base:Heap):Prop where
  kin:K.In base
  glob:base.Ns mainGlobals mg
  blt:∃ mb,base.Ns builtinsNs mb∧∀ x:Str,x≠"__name__"→mb x=bootBuiltins x
  nolimit:base.NoLimit
structure Cx where
  prog:Program
  w:World
  K:Fg
  mg:Str→Option Value
  base:Heap
  A:Around
  N:List Str
  s₀:Shared
  H₀:Hp
  env:Env
  outer:List Env
  stack:List Env
  ex:List Addr
  fn:Str→Bool
  calm:Bool
  pn:AOs
  xe:Value→Shared→Prop
def frs (l:List Env):List Addr:=l.filterMap (·.frame)
abbrev Cx.fs (X:Cx):List Addr:=frs X.outer
def Vis (sc:Scope) (x:Str):Prop:=sc.names.lookup x=some .local∨sc.names.lookup x=some .cell∨sc.names.lookup x=some .free
def Loc (sc:Scope) (x:Str):Prop:=sc.names.lookup x=some .local∨sc.names.lookup x=some .cell
def Cd (env:Env) (h:Heap) (m:SOV) (x:Str) (u:Value):Prop :=
  (env.kindOf x=some .local∧m x=some u)∨((env.kindOf x=some .cell∨env.kindOf x=some .free)∧∃ c,env.cells.lookup x=some c∧h.IsCell c (some u))
structure Cx.Ok (X:Cx):Prop where
  mod:Mod X.K X.mg X.base
  kind:X.env.scope.kind=.function
  glob:X.env.globals=mainGlobals
  blt:X.env.builtins=builtinsNs
  above:X.s₀.heap.objs.size≤X.env.locals
  inj:∀ x y c,X.env.cells.lookup x=some c→X.env.cells.lookup y=some c→x=y
  has:∀ x,(X.env.kindOf x=some .cell∨X.env.kindOf x=some .free)→∃ c,X.env.cells.lookup x=some c
  cab:∀ x c,X.fn x=true→X.env.cells.lookup x=some c→X.s₀.heap.objs.size≤c
  hd:X.calm=true→X.A.handled=none
  frames:X.A.frames=some X.stack
  stk:X.stack=X.outer∨(X.stack=X.env::X.outer∧X.env.frame=some X.env.locals)
  exf:∀ b∈X.ex,b≠X.env.locals∧∀ x c,X.env.cells.lookup x=some c→c≠b
  bs:∀ b o,X.base.get? b=some o→X.s₀.heap.get? b=some o∧X.H₀ b=none
  bsz:X.base.objs.size≤X.s₀.heap.objs.size
  noex:∀ b o,X.base.get? b=some o→b∉X.ex
  exfs:∀ b∈X.ex,b∉X.fs
  funs:X.s₀.heap.FunFrames X.base X.outer
  frf:∀ b∈X.fs,X.H₀ b=none
structure Inv (X:Cx) (pins:AOs) (σ:List (Option V)) (H:Hp) (s:Shared):Prop where
  ok:X.Ok
  os:s.os=X.s₀.os
  bare:AllBare s.gens
  base:Un X.fs X.ex X.H₀ H X.s₀.heap s.heap
  loc:∃ m,s.heap.Ns X.env.locals m∧∀ (i:Nat) (x:Str) (v:V),X.N[i]?=some x→σ[i]?=some (some v)→Vis X.env.scope x→∃ u,aG v u∧Cd X.env s.heap m x u
  cell:∀ x c,X.env.cells.lookup x=some c→∃ v,s.heap.IsCell c v
  free:H X.env.locals=none
  freeC:∀ x c,X.env.cells.lookup x=some c→H c=none
  pin:∀ p∈X.pn++pins,s.heap.get? p.1=some p.2∧H p.1=none∧p.1≠X.env.locals∧p.1∉X.fs∧∀ v,p.2.data≠.cell v
  hok:HOk X.prog X.w H s.heap
  len:σ.length=X.N.length
section
variable {X:Cx} {pins:AOs} {σ:List (Option V)} {H H':Hp} {s:Shared} {h':Heap}
theorem Cx.Ok.nofr (ok:X.Ok) {b:Addr} {o:Obj} (e:X.base.get? b=some o):b∉X.fs:=fun hb=>by
 have:=(ok.funs.mem hb).1;rw[e] at this;cases this
theorem Inv.bs (I:Inv X pins σ H s):∀ b o,X.base.get? b=some o→s.heap.get? b=some o∧H b=none:=fun b o e =>
 ⟨I.base.keep b o (I.ok.bs b o e).1 (I.ok.bs b o e).2 (I.ok.nofr e) (I.ok.noex b o e),I.base.free b o (I.ok.bs b o e).1 (I.ok.bs b o e).2 (I.ok.noex b o e)⟩
theorem Inv.bk (I:Inv X pins σ H s):∀ b o,X.base.get? b=some o→s.heap.get? b=some o:=fun b o e=>(I.bs b o e).1
theorem Inv.mod (I:Inv X pins σ H s):Mod X.K X.mg X.base:=I.ok.mod
theorem Inv.kIn (I:Inv X pins σ H s):X.K.In s.heap:=I.ok.mod.kin.keeps I.bk
theorem Inv.lt (I:Inv X pins σ H s):X.env.locals<s.heap.objs.size:=by
 obtain⟨_,hn,_⟩:=I.loc;exact hn.lt
theorem Inv.sz (I:Inv X pins σ H s):X.s₀.heap.objs.size≤s.heap.objs.size:=Nat.le_trans I.ok.above (Nat.le_of_lt I.lt)
theorem Inv.nofs (I:Inv X pins σ H s) {a:Addr} (h:s.heap.objs.size≤a):a∉X.fs:=fun hb=>by
 obtain⟨_,o,ho,_⟩:=I.ok.funs.mem hb;exact absurd (Nat.lt_of_lt_of_le (Heap.lt_size ho) (Nat.le_trans I.sz h)) (Nat.lt_irrefl _)
theorem Inv.cne (I:Inv X pins σ H s):∀ x c,X.env.cells.lookup x=some c→c≠X.env.locals:=fun x c e z=>by
 obtain⟨v,o,ho,hd⟩:=I.cell x c e;obtain⟨m,⟨o',es,ep,ho',hd',_⟩,_⟩:=I.loc;rw[z,ho'] at ho;cases ho;rw[hd'] at hd;cases hd
theorem Inv.funs (I:Inv X pins σ H s):s.heap.FunFrames X.base X.outer:=by
 have all:∀ (l:List Env),(∀ b∈frs l,b∈X.fs)→X.s₀.heap.FunFrames X.base l→s.heap.FunFrames X.base l:=by
  intro l
  induction l with
  | nil=>intro _ _;trivial
  | cons env r ih =>
   intro hs hl;obtain⟨hk,⟨L,o,hf,hn,ho,hd⟩,hr⟩:=hl;have hL:L∈X.fs:=hs L (by unfold frs;rw[List.filterMap_cons,hf];exact mCS);obtain⟨sl,e⟩:=I.base.slot L o ho (I.ok.frf L hL) hL fun z=>I.ok.exfs L z hL;exact⟨hk,⟨L,_,hf,hn,e,hd⟩,ih (fun b hb=>hs b (by unfold frs;rw[List.filterMap_cons,hf];exact mCM _ hb)) hr⟩
 exact all X.outer (fun _ hb=>hb) I.ok.funs
theorem Inv.stack (I:Inv X pins σ H s):s.heap.FunFrames X.base X.stack:=by
 rcases I.ok.stk with e | ⟨e,hf⟩
 · rw[e];exact I.funs
 · rw[e];obtain⟨m,hn,_⟩:=I.loc;refine .cons (by rw[I.ok.kind];decide) hf hn ?_ I.funs;exact Heap.get?_none_of_le (Nat.le_trans I.ok.bsz I.ok.above)
theorem Inv.stkSub (I:Inv X pins σ H s):∀ b∈frs X.stack,b∈X.env.locals::X.fs:=fun b hb=>by
 rcases I.ok.stk with e | ⟨e,hf⟩
 · rw[e] at hb;exact mCM _ hb
 · rw[e] at hb;unfold frs at hb;rw[List.filterMap_cons,hf] at hb;exact hb
theorem Inv.stkFree (I:Inv X pins σ H s):∀ b∈frs X.stack,H b=none:=fun b hb=>by
 rcases List.mem_cons.mp (I.stkSub b hb) with e | hb
 · rw[e];exact I.free
 · obtain⟨_,o,ho,_⟩:=I.ok.funs.mem hb;exact I.base.free b o ho (I.ok.frf b hb) fun z=>I.ok.exfs b z hb
theorem Inv.step {g':Array GenState} {t':Nat} {d':Drawn} {ch:List Addr} (I:Inv X pins σ H s)
 (hch:∀ b∈ch,(b∈X.ex∨X.s₀.heap.objs.size≤b)∧b≠X.env.locals∧(∀ x c,X.env.cells.lookup x=some c→c≠b)∧∀ p∈X.pn++pins,p.1≠b)
 (keep:∀ b o,b≠X.env.locals→b∉X.fs→b∉ch→s.heap.get? b=some o→H b=none→h'.get? b=some o)
 (slot:∀ b o,b≠X.env.locals→b∈X.fs→b∉ch→s.heap.get? b=some o→H b=none→∃ sl,h'.get? b=some {o with slots:=sl}) (free:∀ b o,b∉ch→s.heap.get? b=some o→H b=none→H' b=none)
 (there:∀ b o,b∉ch→s.heap.get? b=some o→∃ o',h'.get? b=some o')
 (tups:∀ b xs,H b=some (.tup xs)→H' b=some (.tup xs)) (frzs:∀ b o u,H b=some (.frz o u)→H' b=some (.frz o u)) (tbls:∀ b ps,H b=some (.tbl ps)→∃ more,H' b=some (.tbl (ps++more)))
 (ns:∀ m,s.heap.Ns X.env.locals m→h'.Ns X.env.locals m) (hok:HOk X.prog X.w H' h') (hg:AllBare g') :
 Inv X pins σ H' {s with heap:=h',gens:=g',drawn:=d',toks:=t'}:=by
 have neL:∀ b o,X.s₀.heap.get? b=some o→b≠X.env.locals:=fun b o e=>Nat.ne_of_lt (Nat.lt_of_lt_of_le (Heap.lt_size e) I.ok.above);have neC:∀ b o,X.s₀.heap.get? b=some o→b∉X.ex→b∉ch:=fun b o e hx hb=>by
  rcases (hch b hb).1 with z | z
  · exact hx z
  · exact absurd (Nat.lt_of_lt_of_le (Heap.lt_size e) z) (Nat.lt_irrefl _)
 have cellK:∀ x c,X.env.cells.lookup x=some c→∀ v,s.heap.IsCell c v→h'.IsCell c v:=fun x c e v ⟨o,ho,hd⟩=>by
  have nch:c∉ch:=fun z=>(hch c z).2.2.1 x c e rfl;by_cases hc:c∈X.fs
  · obtain⟨sl,q⟩:=slot c o (I.cne x c e) hc nch ho (I.freeC x c e);exact⟨_,q,hd⟩
  · exact⟨o,keep c o (I.cne x c e) hc nch ho (I.freeC x c e),hd⟩
 refine⟨I.ok,I.os,hg,⟨fun b o e n hb hx=>?_,fun b o e n hb hx=>?_,fun b o e n hx=>?_,fun b o e hx=>?_,fun b xs e=>tups b xs (I.base.tups b xs e),fun b o xs e=>frzs b o xs (I.base.frzs b o xs e),fun b ps e=>?_⟩,?_,fun x c e=>?_,?_,fun x c e=>?_,fun p hp=>?_,hok,I.len⟩
 · exact keep b o (neL b o e) hb (neC b o e hx) (I.base.keep b o e n hb hx) (I.base.free b o e n hx)
 · obtain⟨sl,e1⟩:=I.base.slot b o e n hb hx;obtain⟨sl',e2⟩:=slot b _ (neL b o e) hb (neC b o e hx) e1 (I.base.free b o e n hx);exact⟨sl',e2⟩
 · obtain⟨o',e1⟩:=I.base.there b o e hx;exact free b o' (neC b o e hx) e1 (I.base.free b o e n hx)
 · obtain⟨o',e1⟩:=I.base.there b o e hx;exact there b o' (neC b o e hx) e1
 · obtain⟨m1,e1⟩:=I.base.tbls b ps e;obtain⟨m2,e2⟩:=tbls b _ e1;exact⟨m1++m2,by rw[e2,Array.append_assoc]⟩
 · obtain⟨m,hn,hl⟩:=I.loc;refine⟨m,ns m hn,fun i x v e1 e2 e3=>?_⟩;obtain⟨u,r,l⟩:=hl i x v e1 e2 e3;refine⟨u,r,?_⟩
   rcases l with l | ⟨k,c,e,z⟩
   · exact .inl l
   · exact .inr ⟨k,c,e,cellK x c e _ z⟩
 · obtain⟨v,z⟩:=I.cell x c e;exact⟨v,cellK x c e v z⟩
 · obtain⟨m,⟨o,_,_,ho,_⟩,_⟩:=I.loc;exact free _ o (fun z=>(hch _ z).2.1 rfl) ho I.free
 · obtain⟨v,o,ho,hd⟩:=I.cell x c e;exact free c o (fun z=>(hch c z).2.2.1 x c e rfl) ho (I.freeC x c e)
 · obtain⟨e,n,ne,nf,d⟩:=I.pin p hp;have nch:p.1∉ch:=fun z=>(hch p.1 z).2.2.2 p hp rfl;exact⟨keep p.1 p.2 ne nf nch e n,free p.1 p.2 nch e n,ne,nf,d⟩
theorem Inv.un {t':Nat} (I:Inv X pins σ H s) (u:Un X.fs [] H H' s.heap h') (hok:HOk X.prog X.w H' h'):Inv X pins σ H' {s with heap:=h',toks:=t'}:=by
 obtain⟨m,⟨o,es,ep,ho,r⟩,_⟩:=id I.loc;obtain⟨sl,hL⟩:=u.any ho I.free (by simp);exact I.step (g':=s.gens) (d':=s.drawn) (ch:=[]) (fun _ z=>nomatch z) (fun b o _ hb _ e n=>u.keep b o e n hb (by simp)) (fun b o _ hb _ e n=>u.slot b o e n hb (by simp)) (fun b o _ e n=>u.free b o e n (by simp)) (fun b o _ e=>u.there b o e (by simp)) u.tups u.frzs u.tbls (fun m' hm=>by
   obtain⟨o',es',ep',ho',r'⟩:=hm;rw[ho] at ho';cases ho';exact⟨_,es',ep',hL,r'⟩) hok I.bare
theorem Inv.call {g':Array GenState} {t':Nat} {d':Drawn} {ch:List Addr} (I:Inv X pins σ H s) (u:Un (frs X.stack) ch H H' s.heap h') (hok:HOk X.prog X.w H' h') (hg:AllBare g')
 (hch:∀ b∈ch,(b∈X.ex∨X.s₀.heap.objs.size≤b)∧b≠X.env.locals∧(∀ x c,X.env.cells.lookup x=some c→c≠b)∧∀ p∈X.pn++pins,p.1≠b) :
 Inv X pins σ H' {s with heap:=h',gens:=g',drawn:=d',toks:=t'}:=by
 obtain⟨m,⟨o,es,ep,ho,r⟩,_⟩:=id I.loc;obtain⟨sl,hL⟩:=u.any ho I.free fun z=>(hch _ z).2.1 rfl;exact I.step (ch:=ch) hch (fun b o hL hb hc e n=>u.keep b o e n (fun z=>(List.mem_cons.mp (I.stkSub b z)).elim hL hb) hc) (fun b o _ _ hc e n=>u.any e n hc) (fun b o hc e n=>u.free b o e n hc) (fun b o hc e=>u.there b o e hc) u.tups u.frzs u.tbls (fun m' hm=>by
   obtain⟨o',es',ep',ho',r'⟩:=hm;rw[ho] at ho';cases ho';exact⟨_,es',ep',hL,r'⟩) hok hg
theorem Inv.turned {t':Nat} {it:Addr} (I:Inv X pins σ H s) (k:∀ b o,b≠it→s.heap.get? b=some o→h'.get? b=some o) (hn:H it=none) (hL:it≠X.env.locals)
 (h1:it∈X.ex∨X.s₀.heap.objs.size≤it) (h2:∀ x c,X.env.cells.lookup x=some c→c≠it) (h3:∀ p∈X.pn++pins,p.1≠it):Inv X pins σ H {s with heap:=h',toks:=t'}:=by
 have nit:∀ b u,H b=some u→b≠it:=fun b u e z=>by rw[z,hn] at e;cases e
 refine I.step (g':=s.gens) (d':=s.drawn) (ch:=[it]) (fun b hb=>?_) (fun b o _ _ hc e _=>k b o (fun z=>hc (by simp[z])) e) (fun b o _ _ hc e _=>⟨o.slots,k b o (fun z=>hc (by simp[z])) e⟩) (fun _ _ _ _ n=>n)
  (fun b o hc e=>⟨o,k b o (fun z=>hc (by simp[z])) e⟩) (fun _ _ e=>e) (fun _ _ _ e=>e) (fun b ps e=>⟨#[],by rw[e];simp⟩) (fun m hm=>?_) (fun b u e=>?_) I.bare
 · have e:b=it:=by simpa using hb
   subst e;exact⟨h1,hL,h2,h3⟩
 · obtain⟨o,es,ep,ho,r⟩:=hm;exact⟨o,es,ep,k _ o (Ne.symm hL) ho,r⟩
 · refine (I.hok b u e).stay (fun c v hc q=>k c v ?_ q) (fun _ q=>q) fun _ _ q=>q
   rcases hc with z | z
   · rw[z];exact nit b u e
   · exact nit c _ z
theorem Inv.tok (I:Inv X pins σ H s) (t:Nat):Inv X pins σ H {s with toks:=t}:=I.un (h':=s.heap) (t':=t) Un.refl I.hok
theorem Inv.kept {t':Nat} (I:Inv X pins σ H s) (k:∀ b u,s.heap.get? b=some u→h'.get? b=some u):Inv X pins σ H {s with heap:=h',toks:=t'}:=I.un (Un.kept k) (I.hok.kept k)
theorem Inv.laid {a:Addr} {o:HO} {t':Nat} (I:Inv X pins σ H s) (k:∀ b u,s.heap.get? b=some u→h'.get? b=some u) (hp:s.heap.objs.size≤a) (new:bm X.prog X.w (upd H a o) h' a o) :
 Inv X pins σ (upd H a o) {s with heap:=h',toks:=t'}:=I.un (Un.laid k hp (I.hok.fresh hp)) (I.hok.laid k hp new)
theorem Inv.write {x e:Addr} {o:HO} {t':Nat} (I:Inv X pins σ H s) (mu:Mut (H x)) (he:e=x∨H e=some (.own x)) (k:∀ b u,b≠e→s.heap.get? b=some u→h'.get? b=some u) (heo:∃ u,h'.get? e=some u)
 (new:bm X.prog X.w (upd H x o) h' x o):Inv X pins σ (upd H x o) {s with heap:=h',toks:=t'}:=I.un (Un.write mu he k heo) (I.hok.write mu he k heo new)
theorem Inv.pins_of {pins':AOs} (I:Inv X pins σ H s) (h:∀ p∈pins',s.heap.get? p.1=some p.2∧H p.1=none∧p.1≠X.env.locals∧p.1∉X.fs∧∀ v,p.2.data≠.cell v):Inv X pins' σ H s :=
 ⟨I.ok,I.os,I.bare,I.base,I.loc,I.cell,I.free,I.freeC,fun p hp=>(mAp.mp hp).elim (fun z=>I.pin p (List.mem_append_left _ z)) (h p),I.hok,I.len⟩
theorem kJ {N:List Str} (hN:N.Nodup) {i j:Nat} {x:Str} (a:N[i]?=some x) (b:N[j]?=some x):i=j:=by
 obtain⟨h1,e1⟩:=gES.mp a;obtain⟨h2,e2⟩:=gES.mp b;exact (List.getElem_inj hN).mp (e1.trans e2.symm)
theorem ja {M:Model} {A:Around} {E:VSP} {i:Nat} {x:Str} {v:V} {u:Value} {Q:Unit→Shared→Prop} (I:Inv X pins σ H s) (hN:X.N.Nodup) (hi:X.N[i]?=some x) (hx:Loc X.env.scope x) (r:aG v u)
 (h:∀ s',Inv X pins (σ.set i (some v)) H s'→(∃ a,Heap.SameBut a s.heap s'.heap∧(a=X.env.locals∨X.env.cells.lookup x=some a))→Q () s') (hf:X.fn x=true∨X.env.scope.names.lookup x=some .local:=by first | exact .inl rfl | exact .inr rfl | assumption):wpAny M A (storeName X.env x u) Q E s:=by
 obtain⟨m,hn,hl⟩:=id I.loc;have hcls:(X.env.scope.kind==.class||(X.env.scope.kind==.module&&X.env.locals != X.env.globals))=false:=by rw[I.ok.kind];rfl
 have hiσ:i<σ.length:=by rw[I.len];exact (gES.mp hi).1
 have cne:=I.cne;have tracked:∀ {a:Addr} {h':Heap},(∃ o,s.heap.get? a=some o∧H a=none)→Heap.SameBut a s.heap h'→HOk X.prog X.w H h':=fun {a h'} ha hs b ob e=>by
  obtain⟨_,_,hfree⟩:=ha;refine (I.hok b ob e).stay (fun c w' hc q=>(hs.2 c ?_).trans q) (fun _ q=>q) fun _ _ q=>q;rintro rfl
  rcases hc with rfl | hc
  · rw[hfree] at e;cases e
  · rw[hfree] at hc;cases hc
 rcases hx with hk | hk
 · refine wpAny_storeName_local hk hn (fun h' hn' hs=>?_) hcls;obtain⟨oL,_,_,hoL,_⟩:=id hn;refine h _ ⟨I.ok,I.os,I.bare,⟨fun b o e n hb hx=>?_,fun b o e n hb hx=>?_,I.base.free,fun b o e hx=>?_,I.base.tups,I.base.frzs,I.base.tbls⟩,⟨_,hn',fun j y v' e1 e2 e3=>?_⟩,fun y c e=>?_,I.free,I.freeC,fun p hp=>?_,tracked ⟨oL,hoL,I.free⟩ hs,by simpa using I.len⟩ ⟨_,hs,.inl rfl⟩
   · exact (hs.2 b (Nat.ne_of_lt (Nat.lt_of_lt_of_le (Heap.lt_size e) I.ok.above))).trans (I.base.keep b o e n hb hx)
   · obtain⟨sl,e1⟩:=I.base.slot b o e n hb hx;exact⟨sl,(hs.2 b (Nat.ne_of_lt (Nat.lt_of_lt_of_le (Heap.lt_size e) I.ok.above))).trans e1⟩
   · obtain⟨o',e1⟩:=I.base.there b o e hx;exact⟨o',(hs.2 b (Nat.ne_of_lt (Nat.lt_of_lt_of_le (Heap.lt_size e) I.ok.above))).trans e1⟩
   · by_cases hj:j=i
     · subst hj;rw[hi] at e1;cases e1;rw[List.getElem?_set_self hiσ] at e2;cases e2;exact⟨u,r,.inl ⟨hk,by simp⟩⟩
     · rw[List.getElem?_set_ne (Ne.symm hj)] at e2;obtain⟨u',r',q⟩:=hl j y v' e1 e2 e3;refine⟨u',r',?_⟩
       rcases q with ⟨k,e⟩ | ⟨k,c,e,z⟩
       · refine .inl ⟨k,?_⟩;have:y≠x:=fun e=>hj (kJ hN e1 (e▸hi));simp[this,e]
       · exact .inr ⟨k,c,e,z.sameBut hs (cne y c e)⟩
   · obtain⟨w',z⟩:=I.cell y c e;exact⟨w',z.sameBut hs (cne y c e)⟩
   · obtain⟨e,n,ne,nf,d⟩:=I.pin p hp;exact⟨(hs.2 p.1 ne).trans e,n,ne,nf,d⟩
 · have hfn:X.fn x=true:=by
    rcases hf with z | z
    · exact z
    · rw[z] at hk;cases hk
   obtain⟨c,hc⟩:=I.ok.has x (.inl hk);obtain⟨w',z⟩:=I.cell x c hc;refine wpAny_storeName_cell I.ok.kind hk hc z (fun h' hc' hs=>?_);obtain⟨oc,hoc,hocd⟩:=id z;refine h {s with heap:=h'} ⟨I.ok,I.os,I.bare,⟨fun b o e n hb hx=>?_,fun b o e n hb hx=>?_,I.base.free,fun b o e hx=>?_,I.base.tups,I.base.frzs,I.base.tbls⟩,⟨m,hn.sameBut hs (Ne.symm (cne x c hc)),fun j y v' e1 e2 e3=>?_⟩,fun y c' e=>?_,I.free,I.freeC,fun p hp=>?_,tracked ⟨oc,hoc,I.freeC x c hc⟩ hs,by simpa using I.len⟩ ⟨c,hs,.inr hc⟩
   · exact (hs.2 b (Nat.ne_of_lt (Nat.lt_of_lt_of_le (Heap.lt_size e) (I.ok.cab x c hfn hc)))).trans (I.base.keep b o e n hb hx)
   · obtain⟨sl,e1⟩:=I.base.slot b o e n hb hx;exact⟨sl,(hs.2 b (Nat.ne_of_lt (Nat.lt_of_lt_of_le (Heap.lt_size e) (I.ok.cab x c hfn hc)))).trans e1⟩
   · obtain⟨o',e1⟩:=I.base.there b o e hx;exact⟨o',(hs.2 b (Nat.ne_of_lt (Nat.lt_of_lt_of_le (Heap.lt_size e) (I.ok.cab x c hfn hc)))).trans e1⟩
   · by_cases hj:j=i
     · subst hj;rw[hi] at e1;cases e1;rw[List.getElem?_set_self hiσ] at e2;cases e2;exact⟨u,r,.inr ⟨.inl hk,c,hc,hc'⟩⟩
     · rw[List.getElem?_set_ne (Ne.symm hj)] at e2;obtain⟨u',r',q⟩:=hl j y v' e1 e2 e3;refine⟨u',r',?_⟩
       rcases q with q | ⟨k,c',e,z'⟩
       · exact .inl q
       · refine .inr ⟨k,c',e,z'.sameBut hs ?_⟩;rintro rfl;exact hj (kJ hN e1 (I.ok.inj _ _ _ e hc▸hi))
   · by_cases hcc:c'=c
     · subst hcc;exact⟨_,hc'⟩
     · obtain⟨w2,z2⟩:=I.cell y c' e;exact⟨w2,z2.sameBut hs hcc⟩
   · obtain⟨e,n,ne,nf,d⟩:=I.pin p hp;refine⟨(hs.2 p.1 ?_).trans e,n,ne,nf,d⟩;intro q;rw[q,hoc] at e;have q':oc=p.2:=Option.some.inj e;exact d w' (by rw[← q'];exact hocd)
theorem ik {M:Model} {A:Around} {E:VSP} {i:Nat} {x:Str} {v:V} {u:Value} {Q:Unit→Shared→Prop} (I:Inv X pins σ H s) (hN:X.N.Nodup) (hi:X.N[i]?=some x) (hx:Loc X.env.scope x) (r:aG v u)
 (h:∀ s',Inv X pins (σ.set i (some v)) H s'→Q () s') (hf:X.fn x=true∨X.env.scope.names.lookup x=some .local:=by first | exact .inl rfl | exact .inr rfl | assumption):wpAny M A (storeName X.env x u) Q E s :=
 ja I hN hi hx r (fun s' I' _=>h s' I') hf
theorem Inv.call' {s':Shared} {ch:List Addr} (I:Inv X pins σ H s) (ho:s'.os=s.os) (u:Un (frs X.stack) ch H H' s.heap s'.heap) (hok:HOk X.prog X.w H' s'.heap) (hg:AllBare s'.gens)
 (hch:∀ b∈ch,(b∈X.ex∨X.s₀.heap.objs.size≤b)∧b≠X.env.locals∧(∀ x c,X.env.cells.lookup x=some c→c≠b)∧∀ p∈X.pn++pins,p.1≠b):Inv X pins σ H' s':=by
 obtain⟨h',g',d',t',o'⟩:=s';have e:o'=s.os:=ho;subst e;exact I.call (g':=g') (t':=t') (d':=d') u hok hg hch
end
abbrev XK:=Value→Option Addr→Hp→Prop
abbrev St:=List (Option V)
abbrev VK:=V→Hp→Prop
abbrev TE:=St→Hp→VK→Prop
abbrev TT:=St→Hp→(Bool→Hp→Prop)→Prop
abbrev TA:=St→Hp→(List V→Hp→Prop)→Prop
structure gD where
  nx:St→Hp→Prop
  rt:VK
  bk:St→Hp→Prop:=fun _ _=>False
  ct:St→Hp→Prop:=fun _ _=>False
abbrev TS:=gD→St→Hp→Prop
def EP (X:Cx) (pins:AOs) (σ:St) (Q:VK) (u:Value) (s':Shared):Prop:=∃ v H',Inv X pins σ H' s'∧aG v u∧Q v H'
def TP (X:Cx) (pins:AOs) (σ:St) (Q:Bool→Hp→Prop) (b:Bool) (s':Shared):Prop:=∃ H',Inv X pins σ H' s'∧Q b H'
def AP (X:Cx) (pins:AOs) (σ:St) (Q:List V→Hp→Prop) (us:List Value) (s':Shared):Prop:=∃ vs H',Inv X pins σ H' s'∧aD vs us∧Q vs H'
def SP (X:Cx) (pins:AOs) (D:gD) (f:Flow) (s':Shared):Prop :=
  match f with
  | .next=>∃ σ' H',Inv X pins σ' H' s'∧D.nx σ' H'
  | .brk=>∃ σ' H',Inv X pins σ' H' s'∧D.bk σ' H'
  | .cont=>∃ σ' H',Inv X pins σ' H' s'∧D.ct σ' H'
  | .ret u=>∃ v σ' H',Inv X pins σ' H' s'∧aG v u∧D.rt v H'
def PE (X:Cx) (e:Expr) (t:TE):Prop :=
  ∀ (pins:AOs) (s:Shared) (σ:St) (H:Hp) (Q:VK),Inv X pins σ H s→t σ H Q→wpAny (model X.prog X.w) X.A (eval e X.env) (EP X pins σ Q) X.xe s
def PT (X:Cx) (e:Expr) (t:TT):Prop :=
  ∀ (pins:AOs) (s:Shared) (σ:St) (H:Hp) (Q:Bool→Hp→Prop),Inv X pins σ H s→t σ H Q→wpAny (model X.prog X.w) X.A (isTrue e X.env (eval e X.env)) (TP X pins σ Q) X.xe s
def PW (X:Cx) (e:Expr) (t:TT):Prop :=
  ∀ (whole:Sem Value) (pins:AOs) (s:Shared) (σ:St) (H:Hp) (Q:Bool→Hp→Prop),Inv X pins σ H s→t σ H Q→wpAny (model X.prog X.w) X.A (isTrue e X.env whole) (TP X pins σ Q) X.xe s
theorem PW.pt {X:Cx} {e:Expr} {t:TT} (h:PW X e t):PT X e t:=h _
def PA (X:Cx) (es:List Expr) (t:TA):Prop :=
  ∀ (pos:Pos) (pins:AOs) (s:Shared) (σ:St) (H:Hp) (Q:List V→Hp→Prop),Inv X pins σ H s→t σ H Q→wpAny (model X.prog X.w) X.A (spliced (backTo pos (starEach es X.env))) (AP X pins σ Q) X.xe s
def PS (X:Cx) (st:Stmt) (t:TS):Prop :=
  ∀ (pins:AOs) (s:Shared) (σ:St) (H:Hp) (D:gD),Inv X pins σ H s→t D σ H→wpAny (model X.prog X.w) X.A (exec st X.env) (SP X pins D) X.xe s
def PSs (X:Cx) (st:List Stmt) (t:TS):Prop :=
  ∀ (pins:AOs) (s:Shared) (σ:St) (H:Hp) (D:gD),Inv X pins σ H s→t D σ H→wpAny (model X.prog X.w) X.A (execs st X.env) (SP X pins D) X.xe s
theorem thn {α:Type} {t:Sem α} {Q Q':α→Shared→Prop} {M:Model} {A:Around} {E:VSP} {s:Shared} (h:wpAny M A t Q E s) (hQ:∀ a s,Q a s→Q' a s):wpAny M A t Q' E s:=wpAny_mono h hQ fun _ _ x=>x
section
variable {X:Cx}
inductive AC (o:Option (Option V)) (H:Hp) (Q:VK):Prop
  | mk (v:V) (h:o=some (some v)) (q:Q v H):AC o H Q
inductive BlR (x:V) (H:Hp) (Q:Bool→Hp→Prop):Prop
  | mk (c:Bool) (h:x=.bl c) (q:Q c H):BlR x H Q
inductive xS (x:V) (H:Hp) (Q:Int→Hp→Prop):Prop
  | mk (i:Int) (h:x=.int i) (q:Q i H):xS x H Q
inductive vL (x y:V) (H:Hp) (C:Int→Int→Prop) (g:Int→Int→V) (Q:VK):Prop
  | mk (i j:Int) (h:x=.int i) (h':y=.int j) (c:C i j) (q:Q (g i j) H):vL x y H C g Q
inductive rN (x y:V) (H:Hp) (g:Int→Int→V) (Q:VK):Prop
  | mk (i j:Int) (h:x=.int i) (h':y=.int j) (q:Q (g i j) H):rN x y H g Q
def aQ (i:Nat):TE:=fun σ H Q=>AC σ[i]? H Q
def tC (v:V):TE:=fun _ H Q=>Q v H
theorem wR {i:Nat} {x:Str} {pos:Pos} (hN:X.N[i]?=some x) (hv:Vis X.env.scope x) (hd:(x==("__debug__":Str))=false:=by decide) (hcd:(x==("__classdict__":Str))=false:=by decide):PE X (.Name x pos) (aQ i):=by
 intro pins s σ H Q I h;obtain⟨v,e,h⟩:=h;obtain⟨m,hn,hl⟩:=I.loc;obtain⟨u,r,l⟩:=hl i x v hN e hv;have fin:EP X pins σ Q u s:=⟨v,H,I,r,h⟩
 rcases l with ⟨hk,hm⟩ | ⟨hk,c,hc,hcell⟩
 · exact wpAny_Name (wpAny_loadName_local I.ok.kind hk hn hm fin) hd
 · rcases hk with hk | hk
   · exact wpAny_Name (wpAny_loadName_cell I.ok.kind hk hc hcell fin) hd
   · exact wpAny_Name (wpAny_loadName_free I.ok.kind hk hc hcell fin hcd) hd
theorem pF {i j pos}:PE X (.Constant (.int i) j pos) (tC (.int i)):=fun _ _ _ H _ I h=>wpAny_Constant_int ⟨.int i,H,I.tok _,⟨_,rfl⟩,h⟩
theorem bD {b j pos}:PE X (.Constant (.bool b) j pos) (tC (.bl b)):=fun _ _ _ H _ I h=>Constant_bool ⟨.bl b,H,I,rfl,h⟩
theorem qD {j pos}:PE X (.Constant .none j pos) (tC .non):=fun _ _ _ H _ I h=>Constant_none ⟨.non,H,I,rfl,h⟩
theorem pC {x j pos}:PE X (.Constant (.str x) j pos) (tC (.str x)):=fun _ _ _ H _ I h=>Calls.Constant_str ⟨.str x,H,I.tok _,⟨_,rfl⟩,h⟩
def Gl (X:Cx) (x:Str):Prop:=X.env.kindOf x=some .globalImplicit
theorem jL {E:VSP} {pins:AOs} {s:Shared} {σ:St} {H:Hp} {x:Str} {u:Value} {pos:Pos} {Q:VSP} (I:Inv X pins σ H s) (hg:Gl X x) (hm:X.mg x=some u) (h:Q u s)
 (hd:(x==("__debug__":Str))=false:=by decide):wpAny (model X.prog X.w) X.A (eval (.Name x pos) X.env) Q E s :=
 Calls.Name_function_global I.ok.kind hg (Calls.loadGlobal_global (by rw[I.ok.glob];exact I.mod.glob.keeps I.bk) hm h) hd
theorem cJ {E:VSP} {pins:AOs} {s:Shared} {σ:St} {H:Hp} {x:Str} {u:Value} {pos:Pos} {Q:VSP} (I:Inv X pins σ H s) (hg:Gl X x) (hm:X.mg x=none) (hv:bootBuiltins x=some u) (h:Q u s)
 (hn:x≠"__name__":=by decide) (hd:(x==("__debug__":Str))=false:=by decide):wpAny (model X.prog X.w) X.A (eval (.Name x pos) X.env) Q E s:=by
 obtain⟨mb,h1,h2⟩:=I.mod.blt;exact Calls.Name_function_global I.ok.kind hg (Calls.loadGlobal_builtin (by rw[I.ok.glob];exact I.mod.glob.keeps I.bk) hm (by rw[I.ok.blt];exact h1.keeps I.bk) ((h2 x hn).trans hv) h) hd
theorem jD {x:Str} {v:V} {u:Value} {pos:Pos} (hg:Gl X x) (hm:X.mg x=some u) (r:aG v u) (hd:(x==("__debug__":Str))=false:=by decide):PE X (.Name x pos) (tC v) :=
 fun _ _ _ H _ I h=>jL I hg hm ⟨v,H,I,r,h⟩ hd
theorem tK {x:Str} {v:V} {u:Value} {pos:Pos} (hg:Gl X x) (hm:X.mg x=none) (hv:bootBuiltins x=some u) (r:aG v u) (hn:x≠"__name__":=by decide) (hd:(x==("__debug__":Str))=false:=by decide):PE X (.Name x pos) (tC v) :=
 fun _ _ _ H _ I h=>cJ I hg hm hv ⟨v,H,I,r,h⟩ hn hd
variable {a b:Expr} {ta tb:TE} {pos:Pos}
def PC (X:Cx) (op:CmpOp) (a b:Expr) (t:TE):Prop :=
  ∀ (pins:AOs) (s:Shared) (σ:St) (H:Hp) (Q:VK),Inv X pins σ H s→t σ H Q →
    wpAny (model X.prog X.w) X.A (eval a X.env) (fun v s₁=>wpAny (model X.prog X.w) X.A (eval b X.env) (fun u s₂=>wpAny (model X.prog X.w) X.A (compareOp op v u) (EP X pins σ Q) X.xe s₂) X.xe s₁) X.xe s
def tB (t:TE):TT:=fun σ H Q=>t σ H fun x H1=>BlR x H1 Q
theorem wX {op:CmpOp} {t:TE} (h:PC X op a b t) (h1:behindInMarks op b=false:=by first | exact nobehind _ (by decide) (by decide) | rfl):PE X (.Compare a [op] [b] pos) t:=fun pins s σ H Q I hw=>wpAny_Compare1 (h pins s σ H Q I hw) h1
theorem lH {op:CmpOp} {t:TE} (h:PC X op a b t) (h1:behindInMarks op b=false:=by first | exact nobehind _ (by decide) (by decide) | rfl):PT X (.Compare a [op] [b] pos) (tB t):=by
 intro pins s σ H Q I hw;refine wpAny_isTrue_Compare1 (thn (h pins s σ H _ I hw) fun v s1 h1=>thn h1 fun u s2 h2=>thn h2 fun c s3 zy5=>?_) h1;obtain⟨x,H1,I1,r1,q1⟩:=zy5;obtain⟨d,rfl,q⟩:=q1;cases r1;exact wpAny_truthy_bool ⟨H1,I1,q⟩
theorem dP {e:Expr} {t:TE} (h:PE X e t) (he:∀ whole,isTrue e X.env whole=(do let v ← whole;standAt e.pos;holding [v] (truthy v)):=by intro _;rfl):PT X e (tB t):=by
 intro pins s σ H Q I hw;refine isTrue_plain (thn (h pins s σ H _ I hw) fun v s1 zy6=>?_) (he _);obtain⟨x,H1,I1,r1,q1⟩:=zy6;obtain⟨d,rfl,q⟩:=q1;cases r1;exact wpAny_truthy_bool ⟨H1,I1,q⟩
variable {tA tB':TT} {dk:List Expr}
def wj (t u:TT):TT:=fun σ H Q=>t σ H fun c H1=>if c=true then u σ H1 Q else Q false H1
def tOr (t u:TT):TT:=fun σ H Q=>t σ H fun c H1=>if c=true then Q true H1 else u σ H1 Q
def yn (t:TT):TT:=fun σ H Q=>t σ H fun c H1=>Q (!c) H1
theorem bX (ha:PT X a tA):PW X (.BoolOp .And [a] pos) tA:=by
 intro wh pins s σ H Q I h;refine isTrue_and (thn (ha pins s σ H Q I h) fun c s1 e=>?_);cases c with
 | true=>exact isTrue_and_nil e
 | false=>exact e
theorem cY (ha:PT X a tA):PW X (.BoolOp .Or [a] pos) tA:=by
 intro wh pins s σ H Q I h;refine isTrue_or (thn (ha pins s σ H Q I h) fun c s1 e=>?_);cases c with
 | false=>exact isTrue_or_nil e
 | true=>exact e
theorem cZ (ha:PT X a tA) (hb:PW X (.BoolOp .And (b::dk) pos) tB'):PW X (.BoolOp .And (a::b::dk) pos) (wj tA tB'):=by
 intro wh pins s σ H Q I h;refine isTrue_and (thn (ha pins s σ H _ I h) fun c s1 zy7=>?_);obtain⟨H1,I1,q1⟩:=zy7;cases c with
 | true=>exact hb wh pins s1 σ H1 Q I1 q1
 | false=>exact⟨H1,I1,q1⟩
theorem dO (ha:PT X a tA) (hb:PW X (.BoolOp .Or (b::dk) pos) tB'):PW X (.BoolOp .Or (a::b::dk) pos) (tOr tA tB'):=by
 intro wh pins s σ H Q I h;refine isTrue_or (thn (ha pins s σ H _ I h) fun c s1 zy8=>?_);obtain⟨H1,I1,q1⟩:=zy8;cases c with
 | true=>exact⟨H1,I1,q1⟩
 | false=>exact hb wh pins s1 σ H1 Q I1 q1
theorem fg (ha:PT X a tA):PT X (.UnaryOp .Not a pos) (yn tA):=by
 intro pins s σ H Q I h;exact isTrue_not (ha pins s σ H (fun c H1=>Q (!c) H1) I h)
def yv (ta tb:TE):TE:=fun σ H Q=>ta σ H fun x H1=>∃ c,x=.bl c∧if c=true then tb σ H1 Q else Q (.bl false) H1
def yk (ta tb:TE):TE:=fun σ H Q=>ta σ H fun x H1=>∃ c,x=.bl c∧if c=true then Q (.bl true) H1 else tb σ H1 Q
def uD (ta:TE):TE:=fun σ H Q=>ta σ H fun x H1=>∃ c,x=.bl c∧Q (.bl (!c)) H1
theorem wS {op} {t:TE} (h:PE X a t):PE X (.BoolOp op [a] pos) t:=fun pins s σ H Q I hw=>BoolOp_one (h pins s σ H Q I hw)
theorem zB (ha:PE X a ta) (hb:PE X (.BoolOp .Or (b::dk) pos) tb):PE X (.BoolOp .Or (a::b::dk) pos) (yk ta tb):=by
 intro pins s σ H Q I h;refine BoolOp_or (thn (ha pins s σ H _ I h) fun v s1 zy10=>?_);obtain⟨x,H1,I1,r1,q1⟩:=zy10;obtain⟨c,rfl,q1⟩:=q1;cases r1;refine wpAny_truthy_bool ?_;cases c with
 | false=>exact hb pins s1 σ H1 Q I1 q1
 | true=>exact⟨.bl true,H1,I1,rfl,q1⟩
theorem wT (ha:PE X a ta):PE X (.UnaryOp .Not a pos) (uD ta):=by
 intro pins s σ H Q I h;refine UnaryOp_ (thn (ha pins s σ H _ I h) fun v s1 zy11=>?_);obtain⟨x,H1,I1,r1,q1⟩:=zy11;obtain⟨c,rfl,q1⟩:=q1;cases r1;exact not_of (wpAny_truthy_bool ⟨.bl (!c),H1,I1,rfl,q1⟩)
def tIf (t:TT) (ta tb:TE):TE:=fun σ H Q=>t σ H fun c H1=>if c=true then ta σ H1 Q else tb σ H1 Q
theorem kG {c:Expr} (hc:PT X c tA) (ha:PE X a ta) (hb:PE X b tb):PE X (.IfExp c a b pos) (tIf tA ta tb):=by
 intro pins s σ H Q I h;refine wpAny_IfExp (thn (hc pins s σ H _ I h) fun d s1 zy12=>?_);obtain⟨H1,I1,q1⟩:=zy12;cases d with
 | true=>exact ha pins s1 σ H1 Q I1 q1
 | false=>exact hb pins s1 σ H1 Q I1 q1
end
def SqL (K:Fg) (H:Hp) (a:Addr) (xs:List V):Prop :=
  Rd H a (.lst xs) ∨
    ∃ (o:Obj) (its:Array Value) (n:Nat),K.lookup a=some o∧o.cls=.type "list"∧o.dict=none∧o.data=.seq its n∧its.size≤sizeLine∧aD xs its.toList
def SqT (K:Fg) (H:Hp) (a:Addr) (xs:List V):Prop :=
  Rd H a (.tup xs) ∨
    ∃ (o:Obj) (its:Array Value) (n:Nat),K.lookup a=some o∧o.cls=.type "tuple"∧o.data=.seq its n∧its.size≤sizeLine∧aD xs its.toList
def Cb:Value→Option V
  | .none=>some .non
  | .bool b=>some (.bl b)
  | .int i _=>some (.int i)
  | .str x _=>some (.str x)
  | .bytes b _=>some (.byt b)
  | .float b _=>some (.flt b)
  | .ref a=>some (.ref a)
  | .type n=>some (.ty n)
  | _=>none
theorem aG.abs {x:V} {u:Value} (r:aG x u):Cb u=some x:=by
 cases x with
 | non=>cases r;rfl
 | bl _=>cases r;rfl
 | int _=>obtain⟨t,rfl⟩:=r;rfl
 | str _=>obtain⟨t,rfl⟩:=r;rfl
 | byt _=>obtain⟨t,rfl⟩:=r;rfl
 | flt _=>obtain⟨t,rfl⟩:=r;rfl
 | ref _=>cases r;rfl
 | ty _=>cases r;rfl
theorem aG.inj {x y:V} {u:Value} (r:aG x u) (q:aG y u):x=y:=Option.some.inj (r.abs.symm.trans q.abs)
theorem aD.inj:∀ {xs ys:List V} {us:List Value},aD xs us→aD ys us→xs=ys:=by
 intro xs ys us h
 induction h generalizing ys with
 | nil=>intro h';cases h';rfl
 | cons r t ih=>intro h';cases h' with | cons r' t'=>rw[r.inj r',ih t']
section
variable {X:Cx} {pins:AOs} {σ:St} {H:Hp} {s:Shared} {a:Addr} {xs ys:List V}
theorem SqL.of {K:Fg} (h:H a=some (.lst xs)):SqL K H a xs:=.inl (.inl h)
theorem SqT.of {K:Fg} (h:H a=some (.tup xs)):SqT K H a xs:=.inl (.inl h)
theorem Inv.list (I:Inv X pins σ H s) (h:SqL X.K H a xs):∃ its:List Value,aD xs its∧PlainL s.heap a its.toArray∧xs.length≤sizeLine:=by
 rcases h with h | ⟨o,its,n,hk,hc,hd,hs,hz,r⟩
 · obtain⟨z,its,n,r,e⟩:=h.ok I.hok;exact⟨its,r,⟨_,n,e,rfl,rfl,rfl⟩,z⟩
 · refine⟨its.toList,r,⟨o,n,I.kIn a o hk,hc,hd,by simpa using hs⟩,?_⟩;have e:=r.length;simp only[Array.length_toList] at e;lia
theorem Inv.tuple (I:Inv X pins σ H s) (h:SqT X.K H a xs):∃ its:List Value,aD xs its∧IsTup s.heap a its.toArray∧xs.length≤sizeLine:=by
 rcases h with h | ⟨o,its,n,hk,hc,hs,hz,r⟩
 · obtain⟨z,its,r,p⟩:=h.ok I.hok;exact⟨its,r,p,z⟩
 · refine⟨its.toList,r,⟨o,I.kIn a o hk,hc,n,by simpa using hs⟩,?_⟩;have e:=r.length;simp only[Array.length_toList] at e;lia
theorem Inv.list_inj (I:Inv X pins σ H s) (h:SqL X.K H a xs) (h':SqL X.K H a ys):xs=ys:=by
 obtain⟨its,r,⟨o,n,e,_,_,d⟩,_⟩:=I.list h;obtain⟨its',r',⟨o',n',e',_,_,d'⟩,_⟩:=I.list h';rw[e] at e';cases e';rw[d] at d'
 injection d' with d1 _
 have:its=its':=by simpa using congrArg Array.toList d1
 subst this;exact r.inj r'
theorem Inv.tuple_inj (I:Inv X pins σ H s) (h:SqT X.K H a xs) (h':SqT X.K H a ys):xs=ys:=by
 obtain⟨its,r,⟨o,e,_,n,d⟩,_⟩:=I.tuple h;obtain⟨its',r',⟨o',e',_,n',d'⟩,_⟩:=I.tuple h';rw[e] at e';cases e';rw[d] at d'
 injection d' with d1 _
 have:its=its':=by simpa using congrArg Array.toList d1
 subst this;exact r.inj r'
end
abbrev Cx.wish (X:Cx) (E:VSP):Cx:={X with xe:=E}
abbrev Cx.nox (X:Cx):Cx:=X.wish fun _ _=>False
theorem Cx.Ok.wish {X:Cx} (ok:X.Ok) (E:VSP):(X.wish E).Ok :=
 ⟨ok.mod,ok.kind,ok.glob,ok.blt,ok.above,ok.inj,ok.has,ok.cab,ok.hd,ok.frames,ok.stk,ok.exf,ok.bs,ok.bsz,ok.noex,ok.exfs,ok.funs,ok.frf⟩
theorem Cx.Ok.unwish {X:Cx} {E:VSP} (ok:(X.wish E).Ok):X.Ok :=
 ⟨ok.mod,ok.kind,ok.glob,ok.blt,ok.above,ok.inj,ok.has,ok.cab,ok.hd,ok.frames,ok.stk,ok.exf,ok.bs,ok.bsz,ok.noex,ok.exfs,ok.funs,ok.frf⟩
section
variable {X:Cx} {pins:AOs} {σ:St} {H:Hp} {s:Shared} {E:VSP}
theorem Inv.wish (I:Inv X pins σ H s) (E:VSP):Inv (X.wish E) pins σ H s:=⟨I.ok.wish E,I.os,I.bare,I.base,I.loc,I.cell,I.free,I.freeC,I.pin,I.hok,I.len⟩
theorem Inv.unwish (I:Inv (X.wish E) pins σ H s):Inv X pins σ H s:=⟨I.ok.unwish,I.os,I.bare,I.base,I.loc,I.cell,I.free,I.freeC,I.pin,I.hok,I.len⟩
theorem SP.unwish {D:gD} {f:Flow} {s':Shared} (h:SP (X.wish E) pins D f s'):SP X pins D f s':=by
 cases f with
 | next=>obtain⟨σ',H',I,q⟩:=h;exact⟨σ',H',I.unwish,q⟩
 | brk=>obtain⟨σ',H',I,q⟩:=h;exact⟨σ',H',I.unwish,q⟩
 | cont=>obtain⟨σ',H',I,q⟩:=h;exact⟨σ',H',I.unwish,q⟩
 | ret u=>obtain⟨v,σ',H',I,r,q⟩:=h;exact⟨v,σ',H',I.unwish,r,q⟩
theorem PSs.nox {st:List Stmt} {t:TS} (h:PSs X.nox st t):PSs X st t:=fun pins s σ H D I hw =>
 wpAny_mono (h pins s σ H D (I.wish _) hw) (fun _ _ q=>q.unwish) fun _ _ z=>False.elim z
end
section
variable {X:Cx} {st:Stmt} {dk:List Stmt} {t u:TS} {e:Expr} {te:TE} {pos:Pos}
def uF:TS:=fun D σ H=>D.nx σ H
def vU (t u:TS):TS:=fun D σ H=>t {D with nx:=u D} σ H
theorem ah:PSs X [] uF:=fun _ _ σ H _ I h=>wpAny_execs_nil ⟨σ,H,I,h⟩
theorem pD (h1:PS X st t) (h2:PSs X dk u):PSs X (st::dk) (vU t u):=by
 intro pins s σ H D I h;refine wpAny_execs_cons (thn (h1 pins s σ H {D with nx:=u D} I h) fun f s1 q=>?_);cases f with
 | next =>
  obtain⟨σ',H',I',q⟩:=q;exact h2 pins s1 σ' H' D I' q
 | ret v=>exact q
 | brk=>exact q
 | cont=>exact q
theorem pG (h1:PS X st t):PSs X [st] t:=by
 intro pins s σ H D I h;refine wpAny_execs_cons (thn (h1 pins s σ H D I h) fun f s1 q=>?_);cases f with
 | next=>exact wpAny_execs_nil q
 | ret v=>exact q
 | brk=>exact q
 | cont=>exact q
theorem Inv.quiet {pins:AOs} {σ:St} {H:Hp} {s:Shared} (I:Inv X pins σ H s):interactive X.env=false:=by simp[interactive,I.ok.kind]
def uI (te:TE):TS:=fun D σ H=>te σ H fun _ H1=>D.nx σ H1
theorem bY (he:PE X e te) (hs:swapsWith e none pos.line X.env=pure false:=by rfl):PS X (.Expr e pos) (uI te):=by
 intro pins s σ H D I h;refine wpAny_Expr_any (thn (he pins s σ H _ I h) fun v s1 zy13=>?_) I.quiet hs;obtain⟨x,H1,I1,r1,q1⟩:=zy13;exact⟨σ,H1,I1,q1⟩
def vV (te:TE):TS:=fun D σ H=>te σ H D.rt
theorem ae (he:PE X e te):PS X (.Return (some e) pos) (vV te):=by
 intro pins s σ H D I h;refine wpAny_Return_some (thn (he pins s σ H _ I h) fun v s1 zy14=>?_);obtain⟨x,H1,I1,r1,q1⟩:=zy14;exact⟨x,σ,H1,I1,r1,q1⟩
def yq (c:TT) (t u:TS):TS:=fun D σ H=>c σ H fun b H1=>if b=true then t D σ H1 else u D σ H1
theorem az {c:Expr} {a b:List Stmt} {tc:TT} (hc:PT X c tc) (ha:PSs X a t) (hb:PSs X b u):PS X (.If c a b pos) (yq tc t u):=by
 intro pins s σ H D I h;refine wpAny_If (thn (hc pins s σ H _ I h) fun d s1 zy15=>?_);obtain⟨H1,I1,q1⟩:=zy15;cases d with
 | true=>exact ha pins s1 σ H1 D I1 q1
 | false=>exact hb pins s1 σ H1 D I1 q1
def vW:TS:=fun _ _ _=>False
theorem nZ {sts:List Stmt}:PSs X sts vW:=fun _ _ _ _ _ _ h=>h.elim
end
abbrev TG:=V→St→Hp→(St→Hp→Prop)→Prop
abbrev TGs:=List V→St→Hp→(St→Hp→Prop)→Prop
def PG (X:Cx) (target:Expr) (t:TG):Prop :=
  ∀ (pins:AOs) (s:Shared) (σ:St) (H:Hp) (v:V) (u:Value) (Q:St→Hp→Prop),Inv X pins σ H s→aG v u→t v σ H Q →
    wpAny (model X.prog X.w) X.A (assign target X.env u) (fun _ s'=>∃ σ' H',Inv X pins σ' H' s'∧Q σ' H') X.xe s
def PGs (X:Cx) (ts:List Expr) (t:TGs):Prop :=
  ∀ (pins:AOs) (s:Shared) (σ:St) (H:Hp) (vs:List V) (us:List Value) (Q:St→Hp→Prop),Inv X pins σ H s→aD vs us→t vs σ H Q →
    wpAny (model X.prog X.w) X.A (assignInOrder ((assignEach ts X.env).map (·.2)) us) (fun _ s'=>∃ σ' H',Inv X pins σ' H' s'∧Q σ' H') X.xe s
abbrev xM:=V→V→V→Hp→(Hp→Prop)→Prop
def AE (X:Cx) (t:xM):Prop :=
  ∀ (pins:AOs) (s:Shared) (σ:St) (H:Hp) (o i v:V) (ov iv u:Value) (Q:Hp→Prop),Inv X pins σ H s→aG o ov→aG i iv→aG v u→t o i v H Q →
    wpAny (model X.prog X.w) X.A (setItem ov iv u) (fun _ s'=>∃ H',Inv X pins σ H' s'∧Q H') X.xe s
abbrev TIp:=V→V→Hp→VK→Prop
def PIp (X:Cx) (op:Operator) (t:TIp):Prop :=
  ∀ (pins:AOs) (s:Shared) (σ:St) (H:Hp) (x y:V) (v u:Value) (Q:VK),Inv X pins σ H s→aG x v→aG y u→t x y H Q →
    wpAny (model X.prog X.w) X.A (inplaceOp op v u) (EP X pins σ Q) X.xe s
section
variable {X:Cx} {pos:Pos}
def dD (i:Nat):TG:=fun v σ H Q=>Q (σ.set i (some v)) H
theorem aw {i:Nat} {x:Str} (hN:X.N.Nodup) (hi:X.N[i]?=some x) (hx:Loc X.env.scope x) (hf:X.fn x=true∨X.env.scope.names.lookup x=some .local:=by first | exact .inl rfl | exact .inr rfl | assumption):PG X (.Name x pos) (dD i):=by
 intro pins s σ H v u Q I r h;exact wpAny_assign_Name (ik I hN hi hx r (fun s' I'=>⟨_,H,I',h⟩) hf)
def C3:TGs:=fun vs σ H Q=>vs=[]∧Q σ H
inductive rO (t:TG) (u:TGs) (vs:List V) (σ:St) (H:Hp) (Q:St→Hp→Prop):Prop
  | mk (v:V) (r:List V) (h:vs=v::r) (q:t v σ H fun σ' H'=>u r σ' H' Q):rO t u vs σ H Q
def Aw (t:TG) (u:TGs):TGs:=fun vs σ H Q=>rO t u vs σ H Q
theorem hZ:PGs X [] C3:=by
 intro pins s σ H vs us Q I r h;obtain⟨e,h⟩:=h;subst e;cases r;exact assignInOrder_nil ⟨σ,H,I,h⟩
theorem bQ {e:Expr} {es:List Expr} {t:TG} {u:TGs} (h1:PG X e t) (h2:PGs X es u)
 (hs:(assignEach (e::es) X.env).map (·.2)=assign e X.env::(assignEach es X.env).map (·.2):=by rfl):PGs X (e::es) (Aw t u):=by
 intro pins s σ H vs us Q I r h;obtain⟨v,vr,e1,h⟩:=h;subst e1;cases r with
 | cons r rr =>
  rw[hs];refine assignInOrder_cons (thn (h1 pins s σ H _ _ _ I r h) fun _ s1 zy16=>?_);obtain⟨σ1,H1,I1,q1⟩:=zy16;exact h2 pins s1 σ1 H1 _ _ Q I1 rr q1
inductive vM (K:Fg) (n:Nat) (t:TGs) (v:V) (σ:St) (H:Hp) (Q:St→Hp→Prop):Prop
  | mk (a:Addr) (xs:List V) (h:v=.ref a) (s:SqT K H a xs) (l:xs.length=n) (q:t xs σ H Q):vM K n t v σ H Q
def C0 (K:Fg) (n:Nat) (t:TGs):TG:=fun v σ H Q=>vM K n t v σ H Q
theorem jC {es:List Expr} {k:Nat} {t:TGs} {n:Nat} (hc:X.calm=true) (h:PGs X es t)
 (hn:(assignEach es X.env).length=n:=by rfl) (hst:(assignEach es X.env).findIdx? (·.1)=none:=by rfl):PG X (.Tuple es k pos) (C0 X.K n t):=by
 intro pins s σ H v u Q I r hw;obtain⟨a,xs,e1,hq,hl,hw⟩:=hw;subst e1;cases r;obtain⟨its,rv,ht,hz⟩:=I.tuple hq;refine assign_Tuple_tuple (I.ok.hd hc) ht (by simp[hn,← hl,rv.length]) hst fun h' hx=>?_;have I1:Inv X pins σ H {s with heap:=h'}:=I.kept (t':=s.toks) fun b o e=>hx b o (Nat.ne_of_lt (Heap.lt_size e)) e;exact h pins _ σ H xs _ Q I1 (by simpa using rv) hw
def C2 (to ti:TE) (t:xM):TG:=fun v σ H Q=>to σ H fun o H1=>ti σ H1 fun i H2=>t o i v H2 fun H3=>Q σ H3
theorem qC {o i:Expr} {to ti:TE} {t:xM} (ho:PE X o to) (hi:PE X i ti) (hs:AE X t)
 (ha:∀ v,assign (.Subscript o i pos) X.env v=(do
   let ov ← holding [v] (eval o X.env)
   let iv ← holding [v,ov] (eval i X.env)
   standAt pos
   holding [v,ov,iv] (setItem ov iv v)
   release [v,ov,iv] []):=by intro _;rfl):PG X (.Subscript o i pos) (C2 to ti t):=by
 intro pins s σ H v u Q I r h;rw[ha];refine wB (wpAny_holding (thn (ho pins s σ H _ I h) fun ov s1 zy17=>?_));obtain⟨x,H1,I1,r1,q1⟩:=zy17;refine wB (wpAny_holding (thn (hi pins s1 σ H1 _ I1 q1) fun iv s2 zy18=>?_));obtain⟨y,H2,I2,r2,q2⟩:=zy18;refine wB (wpAny_standAt (wB (wpAny_holding (thn (hs pins s2 σ H2 x y v ov iv u _ I2 r1 r2 r q2) fun _ s3 zy19=>?_))));obtain⟨H3,I3,q3⟩:=zy19;exact wpAny_release ⟨σ,H3,I3,q3⟩
def nV (te:TE) (g:TG):TS:=fun D σ H=>te σ H fun x H1=>g x σ H1 D.nx
theorem qw {tg e:Expr} {te:TE} {g:TG} (he:PE X e te) (hg:PG X tg g) (hs:swapsWithSole [tg] e pos.line X.env=pure false:=by rfl) (hw:swappedStores [tg] e X.env=pure none:=by rfl)
 (h1:(assignEach [tg] X.env).map (·.2)=[assign tg X.env]:=by rfl):PS X (.Assign [tg] e pos) (nV te g):=by
 intro pins s σ H D I h;refine wpAny_Assign_stores (thn (he pins s σ H _ I h) fun v s1 zy20=>?_) hs hw;obtain⟨x,H1,I1,r1,q1⟩:=zy20;rw[h1];exact thn (hg pins s1 σ H1 x v _ I1 r1 q1) fun _ s2 q=>q
theorem pL {i:Nat} {x:Str} {e:Expr} {te:TE} {pos':Pos} (hN:X.N.Nodup) (hi:X.N[i]?=some x) (hx:Loc X.env.scope x) (he:PE X e te) (hs:swapsWith e (some (.Name x pos')) pos.line X.env=pure false:=by rfl) (hf:X.fn x=true∨X.env.scope.names.lookup x=some .local:=by first | exact .inl rfl | exact .inr rfl | assumption) :
 PS X (.Assign [.Name x pos'] e pos) (nV te (dD i)):=by
 intro pins s σ H D I h;refine wpAny_Assign_Name (thn (he pins s σ H _ I h) fun v s1 zy21=>?_) hs;obtain⟨y,H1,I1,r1,q1⟩:=zy21;exact ik I1 hN hi hx r1 (fun s2 I2=>⟨_,H1,I2,q1⟩) hf
def B5 (i:Nat) (te:TE) (ti:TIp):TS:=fun D σ H=>∃ x,σ[i]?=some (some x)∧te σ H fun y H1=>ti x y H1 fun z H2=>D.nx (σ.set i (some z)) H2
theorem qv {i:Nat} {x:Str} {e:Expr} {te:TE} {op:Operator} {ti:TIp} {pos':Pos} (hN:X.N.Nodup) (hi:X.N[i]?=some x) (hx:Loc X.env.scope x) (he:PE X e te) (ho:PIp X op ti) (hf:X.fn x=true∨X.env.scope.names.lookup x=some .local:=by first | exact .inl rfl | exact .inr rfl | assumption) :
 PS X (.AugAssign (.Name x pos') op e pos) (B5 i te ti):=by
 intro pins s σ H D I h;obtain⟨v,e1,h⟩:=h;obtain⟨m,hn,hl⟩:=I.loc;have vis:Vis X.env.scope x:=by rcases hx with k | k;exact .inl k;exact .inr (.inl k)
 obtain⟨u,r,l⟩:=hl i x v hi e1 vis;refine wpAny_AugAssign_Name ?_;have go:wpAny (model X.prog X.w) X.A (eval e X.env) (fun w s₂=>wpAny (model X.prog X.w) X.A (inplaceOp op u w) (fun r s₃=>wpAny (model X.prog X.w) X.A (storeName X.env x r) (fun _=>SP X pins D .next) X.xe s₃) X.xe s₂) X.xe s:=by
  refine thn (he pins s σ H _ I h) fun w s1 zy23=>?_;obtain⟨y,H1,I1,r1,q1⟩:=zy23;refine thn (ho pins s1 σ H1 v y u w _ I1 r r1 q1) fun z s2 zy24=>?_;obtain⟨zv,H2,I2,r2,q2⟩:=zy24;exact ik I2 hN hi hx r2 (fun s3 I3=>⟨_,H2,I3,q2⟩) hf
 rcases l with ⟨hk,hm⟩ | ⟨hk,c,hc,hcell⟩
 · exact wpAny_loadName_local I.ok.kind hk hn hm go
 · rcases hk with hk | hk
   · exact wpAny_loadName_cell I.ok.kind hk hc hcell go
   · rcases hx with k | k
     · have:X.env.scope.names.lookup x=some .free:=hk;rw[k] at this;cases this
     · have:X.env.scope.names.lookup x=some .free:=hk;rw[k] at this;cases this
end
section
variable {X:Cx} {pos:Pos}
def pz (c:TT) (tb:TS):TS:=fun D σ H=>∃ W:Nat→St→Hp→Prop,(∃ m,W m σ H)∧∀ m σ H,W m σ H →
  c σ H fun b H1=>if b=true then ∃ N:St→Hp→Prop,(∀ σ' H',N σ' H'→∃ m',m'<m∧W m' σ' H')∧tb {D with nx:=N,ct:=N,bk:=D.nx} σ H1 else D.nx σ H1
theorem ix {c:Expr} {body:List Stmt} {tc:TT} {tb:TS} (hp:PassesOwn (model X.prog X.w) X.A X.env X.xe) (hc:PT X c tc) (hb:PSs X body tb):PS X (.While c body [] pos) (pz tc tb):=by
 intro pins s σ H D I h;obtain⟨W,⟨m0,w0⟩,turn⟩:=h;refine wpAny_While (codeAny_whileLoop (fun n s'=>∃ σ' H',Inv X pins σ' H' s'∧W n σ' H') ?_ m0 ⟨σ,H,I,w0⟩);rintro n s1 ⟨σ1,H1,I1,w1⟩;refine wpAny_passesOwn hp (thn (hc pins s1 σ1 H1 _ I1 (turn n σ1 H1 w1)) fun b s2 zy31=>?_);obtain⟨H2,I2,q2⟩:=zy31;cases b with
 | true =>
  obtain⟨N,hN,q2⟩:=q2;rw[if_pos rfl];refine wpAny_passesOwn hp (thn (hb pins s2 σ1 H2 _ I2 q2) fun f s3 q3=>?_);cases f with
  | next =>
   obtain⟨σ3,H3,I3,n3⟩:=q3;obtain⟨m',hm,w3⟩:=hN σ3 H3 n3;exact⟨m',hm,σ3,H3,I3,w3⟩
  | cont =>
   obtain⟨σ3,H3,I3,n3⟩:=q3;obtain⟨m',hm,w3⟩:=hN σ3 H3 n3;exact⟨m',hm,σ3,H3,I3,w3⟩
  | brk=>exact q3
  | ret v=>exact q3
 | false =>
  rw[if_neg Bool.false_ne_true];exact wpAny_execs_nil ⟨σ1,H2,I2,q2⟩
end
structure It where
  go:Nat→Hp→Prop
  yld:Nat→Hp→V→Hp→Prop
  stop:Nat→Hp→Prop
def eU (X:Cx) (pins:AOs) (H:Hp) (b:Addr):Prop :=
  H b=none∧b≠X.env.locals∧b∉X.fs∧(b∈X.ex∨X.s₀.heap.objs.size≤b)∧(∀ x c,X.env.cells.lookup x=some c→c≠b)∧∀ p∈X.pn++pins,p.1≠b
theorem Inv.fpOk {X:Cx} {pins:AOs} {σ:St} {H H':Hp} {s:Shared} {b:Addr} (I:Inv X pins σ H s) (hb:s.heap.objs.size≤b) (hn:H' b=none):eU X pins H' b:=by
 refine⟨hn,Nat.ne_of_gt (Nat.lt_of_lt_of_le I.lt hb),I.nofs hb,.inr (Nat.le_trans I.sz hb),fun x c e z=>?_,fun p hp z=>?_⟩
 · obtain⟨v,q⟩:=I.cell x c e;exact absurd (Nat.lt_of_lt_of_le q.lt (by rw[z];exact hb)) (Nat.lt_irrefl _)
 · exact absurd (Nat.lt_of_lt_of_le (Heap.lt_size (I.pin p hp).1) (by rw[z];exact hb)) (Nat.lt_irrefl _)
structure mr (P:Program) (w:World) (K:Fg) (tg:Expr) (J:It) (fp:List Addr) (it:Addr) (tn:Nat→Heap→Prop):Prop where
  mem:it∈fp
  obj:∀ i h,tn i h→∀ b∈fp,∃ o,h.get? b=some o∧∀ v,o.data≠.cell v
  keep:∀ i h h',tn i h→(∀ b∈fp,∀ o,h.get? b=some o→h'.get? b=some o)→tn i h'
  item:∀ (X:Cx),X.prog=P→X.w=w→X.K=K→X.calm=true→∀ (i:Nat) (pins:AOs) (s:Shared) (σ:St) (H:Hp) (E:VSP),Inv X pins σ H s→(∀ b∈fp,eU X pins H b)→tn i s.heap→J.go i H →
    wpAny (model P w) X.A (pyNext (.ref it)) (fun r s1=>∃ u,r=some u ∧
      wpAny (model P w) X.A (letOwnedTupleGo tg (.ref it) u) (fun _ s2=>∃ x H',Inv X pins σ H' s2∧aG x u∧J.yld i H x H'∧tn (i+1) s2.heap∧∀ b∈fp,H' b=none) E s1) E s
  done:∀ (X:Cx),X.prog=P→X.w=w→X.K=K→X.calm=true→∀ (i:Nat) (pins:AOs) (s:Shared) (σ:St) (H:Hp) (E:VSP),Inv X pins σ H s→(∀ b∈fp,eU X pins H b)→tn i s.heap→J.stop i H →
    wpAny (model P w) X.A (pyNext (.ref it)) (fun r s1=>r=none∧Inv X pins σ H s1) E s
  self:∀ (A:Around) (i:Nat) (s:Shared) (Q:VSP) (E:VSP),tn i s.heap→Q (.ref it) s→wpAny (model P w) A (pyIter (.ref it)) Q E s
abbrev TI:=St→Hp→(It→Hp→Prop)→Prop
def PIE (X:Cx) (pins:AOs) (σ:St) (tg:Expr) (R:It→Hp→Prop) (itv:Value) (s2:Shared):Prop :=
  ∃ (it:Addr) (fp:List Addr) (tn:Nat→Heap→Prop) (J:It) (H':Hp),itv=.ref it∧Inv X pins σ H' s2∧mr X.prog X.w X.K tg J fp it tn∧tn 0 s2.heap∧(∀ b∈fp,eU X pins H' b)∧R J H'
def PI (X:Cx) (tg iter:Expr) (wi:TI):Prop :=
  ∀ (pins:AOs) (s:Shared) (σ:St) (H:Hp) (R:It→Hp→Prop),Inv X pins σ H s→wi σ H R →
    wpAny (model X.prog X.w) X.A (eval iter X.env) (fun v s1=>wpAny (model X.prog X.w) X.A (pyIter v) (PIE X pins σ tg R) X.xe s1) X.xe s
theorem r9 {M:Model} {A:Around} {E:VSP} {s:Shared} {tg:Expr} {it:Addr} {u:Value} {o:Obj} {n:String} {vs:Array Value} {Q:Unit→Shared→Prop} (ho:s.heap.get? it=some o) (hc:o.cls=.type n) (hd:o.data=.fields vs)
 (hn:["enumerate","zip","dict_itemiterator","dict_reverseitemiterator","odict_iterator","itertools.zip_longest","itertools.pairwise"].contains n=false) (hQ:Q () s):wpAny M A (letOwnedTupleGo tg (.ref it) u) Q E s:=by
 unfold letOwnedTupleGo;cases tg <;> first
  | exact wP hQ
  | (cases u <;> first
      | exact wP hQ
      | (refine wB (wpAny_load ho ?_)
         rw[hc,hd];show wpAny M A (if (["enumerate","zip","dict_itemiterator","dict_reverseitemiterator","odict_iterator","itertools.zip_longest","itertools.pairwise"].contains n&&vs[0]?==some (rawInt _))=true then _ else _) Q E s;rw[if_neg (by intro h;rw[hn,Bool.false_and] at h;cases h)];exact wP hQ))
def Itl (K:Fg) (a:Addr):It :=
  ⟨fun i H=>∃ xs x,SqL K H a xs∧xs[i]?=some x,fun i H x H'=>H'=H∧∀ xs,SqL K H a xs→xs[i]?=some x,fun i H=>∃ xs,SqL K H a xs∧xs.length≤i⟩
def Itt (K:Fg) (a:Addr):It :=
  ⟨fun i H=>∃ xs x,SqT K H a xs∧xs[i]?=some x,fun i H x H'=>H'=H∧∀ xs,SqT K H a xs→xs[i]?=some x,fun i H=>∃ xs,SqT K H a xs∧xs.length≤i⟩
def Itr (lo:Int) (n:Nat):It:=⟨fun i _=>i<n,fun i H x H'=>H'=H∧x=.int (lo+i),fun i _=>n≤i⟩
theorem nU {P:Program} {w:World} {K:Fg} {tg:Expr} (a it:Addr):mr P w K tg (Itl K a) [it] it (fun i h=>h.IsListIter it a i) where
 mem:=by simp
 obj:=fun i h st b hb=>by
  have e:b=it:=by simpa using hb
  subst e;obtain⟨o,e,c,d⟩:=st;exact⟨o,e,fun v z=>by rw[d] at z;cases z⟩
 keep:=fun i h h' st k=>st.at fun o e=>k it (by simp) o e
 item:=by
  intro X hP hw hK hc i pins s σ H E I hf st hg;subst hP hw hK;obtain⟨xs,x,hq,hx⟩:=hg;obtain⟨its,rv,p,hz⟩:=I.list hq;obtain⟨u,hu,ru⟩:=rv.get hx;obtain⟨f0,f1,f2,f3,f4,f5⟩:=hf it (by simp);refine wpAny_pyNext_list_item st p.isList (x:=u) (by simpa using hu) fun h' st' sb=>?_;have I1:Inv X pins σ H {s with heap:=h'}:=I.turned (t':=s.toks) (fun b o hb e=>(sb.2 b hb).trans e) f0 f1 f3 f4 f5;obtain⟨o,e,c,d⟩:=id st';exact⟨u,rfl,r9 (s:={s with heap:=h'}) e c d (by decide) ⟨x,H,I1,ru,⟨rfl,fun ys hy=>by rw[I.list_inj hy hq];exact hx⟩,st',fun b hb=>(hf b hb).1⟩⟩
 done:=by
  intro X hP hw hK hc i pins s σ H E I hf st hg;subst hP hw hK;obtain⟨xs,hq,hx⟩:=hg;obtain⟨its,rv,p,hz⟩:=I.list hq;obtain⟨f0,f1,f2,f3,f4,f5⟩:=hf it (by simp);have hl:=rv.length;exact wpAny_pyNext_list_end (I.ok.hd hc) st p.isList (by simp;lia) fun h' eb=>⟨rfl,I.turned (t':=s.toks) (fun b o hb e=>eb b o hb e) f0 f1 f3 f4 f5⟩
 self:=fun _ _ _ _ _ st h=>wpAny_pyIter_listiter st h
theorem lq {P:Program} {w:World} {K:Fg} {tg:Expr} (a it:Addr):mr P w K tg (Itt K a) [it] it (fun i h=>h.IsTupleIter it a i) where
 mem:=by simp
 obj:=fun i h st b hb=>by
  have e:b=it:=by simpa using hb
  subst e;obtain⟨o,e,c,d⟩:=st;exact⟨o,e,fun v z=>by rw[d] at z;cases z⟩
 keep:=fun i h h' st k=>st.at fun o e=>k it (by simp) o e
 item:=by
  intro X hP hw hK hc i pins s σ H E I hf st hg;subst hP hw hK;obtain⟨xs,x,hq,hx⟩:=hg;obtain⟨its,rv,p,hz⟩:=I.tuple hq;obtain⟨u,hu,ru⟩:=rv.get hx;obtain⟨f0,f1,f2,f3,f4,f5⟩:=hf it (by simp);refine wpAny_pyNext_tuple_item st (show s.heap.IsTuple a its.toArray from p) (x:=u) (by simpa using hu) fun h' st' sb=>?_;have I1:Inv X pins σ H {s with heap:=h'}:=I.turned (t':=s.toks) (fun b o hb e=>(sb.2 b hb).trans e) f0 f1 f3 f4 f5;obtain⟨o,e,c,d⟩:=id st';exact⟨u,rfl,r9 (s:={s with heap:=h'}) e c d (by decide) ⟨x,H,I1,ru,⟨rfl,fun ys hy=>by rw[I.tuple_inj hy hq];exact hx⟩,st',fun b hb=>(hf b hb).1⟩⟩
 done:=by
  intro X hP hw hK hc i pins s σ H E I hf st hg;subst hP hw hK;obtain⟨xs,hq,hx⟩:=hg;obtain⟨its,rv,p,hz⟩:=I.tuple hq;obtain⟨f0,f1,f2,f3,f4,f5⟩:=hf it (by simp);have hl:=rv.length;exact wpAny_pyNext_tuple_end (I.ok.hd hc) st (show s.heap.IsTuple a its.toArray from p) (by simp;lia) fun h' eb=>⟨rfl,I.turned (t':=s.toks) (fun b o hb e=>eb b o hb e) f0 f1 f3 f4 f5⟩
 self:=fun _ _ _ _ _ st h=>wpAny_pyIter_tupleiter st h
theorem lu {P:Program} {w:World} {K:Fg} {tg:Expr} (it:Addr) (lo:Int) (n:Nat):mr P w K tg (Itr lo n) [it] it (fun i h=>IsRangeIter h it (lo+(i:Nat)*1) ((n:Int)-(i:Nat)) 1) where
 mem:=by simp
 obj:=fun i h st b hb=>by
  have e:b=it:=by simpa using hb
  subst e;exact⟨_,st,fun v z=>by
    have z':Data.fields _=Data.cell v:=z;cases z'⟩
 keep:=fun i h h' st k=>k it (by simp) _ st
 item:=by
  intro X hP hw hK hc i pins s σ H E I hf st hg;subst hP hw hK;obtain⟨f0,f1,f2,f3,f4,f5⟩:=hf it (by simp);have W:=Walks.range (prog:=X.prog) (w:=X.w) (I.ok.hd hc) it lo 1 n;refine W.item i s _ _ hg st fun v h' tk hv st' kk=>?_;obtain⟨t,rfl⟩:=hv;have I1:Inv X pins σ H {s with heap:=h',toks:=tk}:=I.turned (fun b o hb e=>kk b o (by simpa using hb) e) f0 f1 f3 f4 f5;refine⟨_,rfl,r9 (s:={s with heap:=h',toks:=tk}) (n:="range_iterator") st' rfl rfl (by decide) ⟨.int (lo+i),H,I1,⟨t,?_⟩,⟨rfl,rfl⟩,st',fun b hb=>(hf b hb).1⟩⟩;rw[Int.mul_one]
 done:=by
  intro X hP hw hK hc i pins s σ H E I hf st hg;subst hP hw hK;obtain⟨f0,f1,f2,f3,f4,f5⟩:=hf it (by simp);exact wpAny_pyNext_range_end (I.ok.hd hc) st (by have:n≤i:=hg;lia) fun h' eb=>⟨rfl,I.turned (t':=s.toks) (fun b o hb e=>eb b o hb e) f0 f1 f3 f4 f5⟩
 self:=fun _ _ _ _ _ st h=>wpAny_pyIter_rangeiter st h
section
variable {X:Cx} {tg:Expr}
def uT (K:Fg) (tl:TE):TI:=fun σ H R=>tl σ H fun x H1=>∃ a,x=.ref a∧(∃ xs,SqL K H1 a xs)∧R (Itl K a) H1
def xu (K:Fg) (tl:TE):TI:=fun σ H R=>tl σ H fun x H1=>∃ a,x=.ref a∧(∃ xs,SqT K H1 a xs)∧R (Itt K a) H1
theorem bi {l:Expr} {tl:TE} (hl:PE X l tl):PI X tg l (uT X.K tl):=by
 intro pins s σ H R I h;refine thn (hl pins s σ H _ I h) fun v s1 zy32=>?_;obtain⟨x,H1,I1,r1,q1⟩:=zy32;obtain⟨a,e,⟨xs,hq⟩,q⟩:=q1;subst e;cases r1;obtain⟨its,rv,p,hz⟩:=I1.list hq;refine wpAny_pyIter_list p.isList ?_;refine⟨s1.heap.objs.size,[s1.heap.objs.size],_,_,H1,rfl,I1.kept (t':=s1.toks) fun b o e=>hpS _ e,nU a _,⟨_,Heap.get?_push_size _ rfl,rfl,rfl⟩,fun b hb=>?_,q⟩;have e:b=s1.heap.objs.size:=by simpa using hb
 subst e;exact I1.fpOk (Nat.le_refl _) (I1.hok.fresh (Nat.le_refl _))
theorem jB {l:Expr} {tl:TE} (hl:PE X l tl):PI X tg l (xu X.K tl):=by
 intro pins s σ H R I h;refine thn (hl pins s σ H _ I h) fun v s1 zy33=>?_;obtain⟨x,H1,I1,r1,q1⟩:=zy33;obtain⟨a,e,⟨xs,hq⟩,q⟩:=q1;subst e;cases r1;obtain⟨its,rv,p,hz⟩:=I1.tuple hq;refine wpAny_pyIter_tuple (show s1.heap.IsTuple a its.toArray from p) ?_;refine⟨s1.heap.objs.size,[s1.heap.objs.size],_,_,H1,rfl,I1.kept (t':=s1.toks) fun b o e=>hpS _ e,lq a _,⟨_,Heap.get?_push_size _ rfl,rfl,rfl⟩,fun b hb=>?_,q⟩;have e:b=s1.heap.objs.size:=by simpa using hb
 subst e;exact I1.fpOk (Nat.le_refl _) (I1.hok.fresh (Nat.le_refl _))
theorem qk {pins:AOs} {σ:St} {H:Hp} {s:Shared} {R:It→Hp→Prop} {E:VSP} {lo hi:Int} {t u v:Tok} {tk:Nat} (I:Inv X pins σ H s) (h1:-(2 ^ 62)≤lo) (h2:lo<2 ^ 62) (h3:-(2 ^ 62)≤hi) (h4:hi<2 ^ 62)
 (q:R (Itr lo (hi-lo).toNat) H):wpAny (model X.prog X.w) X.A (pyIter (.ref s.heap.objs.size)) (PIE X pins σ tg R) E {s with heap:=s.heap.push {cls:=.type "range",data:=.fields #[.int lo t,.int hi u,.int 1 v]},toks:=tk}:=by
 refine wpAny_pyIter_range (IsRange.new ..) (small_one h1 h2 h3 h4) ?_;have I1:Inv X pins σ H {s with heap:=s.heap.push {cls:=.type "range",data:=.fields #[.int lo t,.int hi u,.int 1 v]},toks:=tk}:=I.kept fun b o e=>hpS _ e;refine⟨(s.heap.push {cls:=.type "range",data:=.fields #[.int lo t,.int hi u,.int 1 v]}).objs.size,[(s.heap.push {cls:=.type "range",data:=.fields #[.int lo t,.int hi u,.int 1 v]}).objs.size],_,_,H,rfl,
   I1.kept (t':=tk) fun b o e=>hpS _ e,lu _ lo (hi-lo).toNat,?_,fun b hb=>?_,q⟩
 · have e1:lo+((0:Nat):Int)*1=lo:=by simp
   have e2:(((hi-lo).toNat:Nat):Int)-((0:Nat):Int)=Builtin.Range.rangeSize lo hi 1:=by rw[rangeSize_one];split <;> lia
   show IsRangeIter _ _ (lo+((0:Nat):Int)*1) ((((hi-lo).toNat:Nat):Int)-((0:Nat):Int)) 1;rw[e1,e2];exact Heap.get?_push_size _ rfl
 · have e:b=(s.heap.push {cls:=.type "range",data:=.fields #[.int lo t,.int hi u,.int 1 v]}).objs.size:=by simpa using hb
   subst e;exact I1.fpOk (Nat.le_refl _) (I1.hok.fresh (Nat.le_refl _))
def uS (ta:TA):TI:=fun σ H R=>ta σ H fun vs H1=>∃ j:Int,vs=[.int j]∧-(2 ^ 62)≤j∧j<2 ^ 62∧R (Itr 0 j.toNat) H1
theorem bo {a:Expr} {ta:TA} {p pos:Pos} (hg:Gl X "range") (hm:X.mg "range"=none) (ha:PA X [a] ta) (hs:starEach [a] X.env=[(false,eval a X.env)]:=by rfl):PI X tg (.Call (.Name "range" p) [a] [] pos) (uS ta):=by
 intro pins s σ H R I h;refine Call_ (cJ I hg hm boot_range (PyProof.Rows.callWith_type1 (thn (ha pos pins s σ H _ I h) fun us s1 zy34=>?_) hs rfl));obtain⟨vs,H1,I1,r1,q1⟩:=zy34;obtain⟨j,e,q1,q2,q⟩:=q1;subst e;cases r1 with
 | cons r rr =>
  cases rr;obtain⟨t,rfl⟩:=r;exact call_range_1 (qk I1 (by lia) (by lia) q1 q2 (by simpa using q))
def vX (wi:TI) (g:TG) (tb:TS):TS:=fun D σ H=>wi σ H fun J H1=>∃ W:Nat→Nat→St→Hp→Prop,(∃ m,W 0 m σ H1)∧∀ i m σ H,W i m σ H →
  (J.stop i H∧D.nx σ H)∨(J.go i H∧∃ N:St→Hp→Prop,(∀ σ' H',N σ' H'→∃ m',m'<m∧W (i+1) m' σ' H')∧∀ x H',J.yld i H x H'→g x σ H' fun σ2 H2=>tb {D with nx:=N,ct:=N,bk:=D.nx} σ2 H2)
def gk (fp:List Addr) (h:Heap):AOs:=fp.filterMap fun b=>(h.get? b).map fun o=>(b,o)
theorem bW {fp:List Addr} {h:Heap} {b:Addr} {o:Obj} (hb:b∈fp) (e:h.get? b=some o):(b,o)∈gk fp h:=List.mem_filterMap.mpr ⟨b,hb,by rw[e];rfl⟩
theorem je {fp:List Addr} {h:Heap} {p:Addr×Obj} (hp:p∈gk fp h):p.1∈fp∧h.get? p.1=some p.2:=by
 obtain⟨b,hb,e⟩:=List.mem_filterMap.mp hp;cases q:h.get? b with
 | none=>rw[q] at e;cases e
 | some o =>
  rw[q] at e;have e':(b,o)=p:=Option.some.inj e;subst e';exact⟨hb,q⟩
theorem Inv.pinned {pins:AOs} {σ:St} {H:Hp} {s:Shared} {fp:List Addr} (I:Inv X pins σ H s) (hf:∀ b∈fp,eU X pins H b) (ho:∀ b∈fp,∃ o,s.heap.get? b=some o∧∀ v,o.data≠.cell v):Inv X (pins++gk fp s.heap) σ H s :=
 I.pins_of fun p hp=>(mAp.mp hp).elim (fun z=>I.pin p (List.mem_append_right _ z)) fun z=>by
  obtain⟨hb,e⟩:=je z;obtain⟨f0,f1,f2,_⟩:=hf p.1 hb;obtain⟨o,e',d⟩:=ho p.1 hb;rw[e] at e';cases e';exact⟨e,f0,f1,f2,d⟩
theorem Inv.unpinned {pins pl:AOs} {σ:St} {H:Hp} {s:Shared} (I:Inv X (pins++pl) σ H s):Inv X pins σ H s:=I.pins_of fun p hp=>I.pin p (List.mem_append_right _ (List.mem_append_left _ hp))
theorem bF {iter:Expr} {body:List Stmt} {wi:TI} {g:TG} {tb:TS} {pos:Pos} (hp:PassesOwn (model X.prog X.w) X.A X.env X.xe) (hc:X.calm=true) (hi:PI X tg iter wi) (hg:PG X tg g) (hb:PSs X body tb)
 (hs:∀ x,foldedSetIterable iter X.env x=pure x:=by intro _;rfl):PS X (.For tg iter body [] pos) (vX wi g tb):=by
 intro pins s σ H D I h;refine wpAny_For (thn (hi pins s σ H _ I h) fun v s1 h1=>thn h1 fun itv s2 h2=>?_) hs;obtain⟨it,fp,tn,J,H2,e,I2,T,st2,f2,W,⟨m0,w0⟩,turn⟩:=h2;subst e;have stat:∀ {H':Hp},(∀ b∈fp,H' b=none)→∀ b∈fp,eU X pins H' b:=fun hn b hb=>⟨hn b hb,(f2 b hb).2⟩;refine codeAny_forLoop_any (fun n s'=>∃ i σ' H',Inv X pins σ' H' s'∧tn i s'.heap∧(∀ b∈fp,H' b=none)∧W i n σ' H') ?_ m0 ⟨0,σ,H2,I2,st2,fun b hb=>(f2 b hb).1,w0⟩;rintro n s3 ⟨i,σ3,H3,I3,st3,fr3,w3⟩
 rcases turn i n σ3 H3 w3 with ⟨stop,qn⟩ | ⟨go,N,hN,step⟩
 · refine wpAny_passesOwn hp (thn (T.done X rfl rfl rfl hc i pins s3 σ3 H3 X.xe I3 (stat fr3) st3 stop) fun r s4 zy36=>?_);obtain⟨hr,I4⟩:=zy36;subst hr;exact wpAny_execs_nil ⟨σ3,H3,I4,qn⟩
 · refine wpAny_passesOwn hp (thn (T.item X rfl rfl rfl hc i pins s3 σ3 H3 X.xe I3 (stat fr3) st3 go) fun r s4 zy37=>?_);obtain⟨u,hr,h4⟩:=zy37;subst hr;refine wpAny_passesOwn hp (thn h4 fun _ s5 zy38=>?_);obtain⟨x,H5,I5,r5,y5,st5,fr5⟩:=zy38;have I5':=I5.pinned (stat fr5) (T.obj _ _ st5);refine wpAny_passesOwn hp (thn (hg _ s5 σ3 H5 x u _ I5' r5 (step x H5 y5)) fun _ s6 zy39=>?_);obtain⟨σ6,H6,I6,q6⟩:=zy39;refine wpAny_passesOwn hp (thn (hb _ s6 σ6 H6 _ I6 q6) fun f s7 q7=>?_);have again:∀ {σ7:St} {H7:Hp},Inv X (pins++gk fp s5.heap) σ7 H7 s7→N σ7 H7→∃ m,m<n∧∃ i σ' H',Inv X pins σ' H' s7∧tn i s7.heap∧(∀ b∈fp,H' b=none)∧W i m σ' H':=fun {σ7 H7} I7 n7=>by
    obtain⟨m',hm,w7⟩:=hN σ7 H7 n7;refine⟨m',hm,i+1,σ7,H7,I7.unpinned,T.keep _ _ _ st5 fun b hb o e=>(I7.pin (b,o) (List.mem_append_right _ (List.mem_append_right _ (bW hb e)))).1,fun b hb=>?_,w7⟩;obtain⟨o,e,d⟩:=T.obj _ _ st5 b hb;exact (I7.pin (b,o) (List.mem_append_right _ (List.mem_append_right _ (bW hb e)))).2.1
   cases f with
   | next=>obtain⟨σ7,H7,I7,n7⟩:=q7;exact again I7 n7
   | cont=>obtain⟨σ7,H7,I7,n7⟩:=q7;exact again I7 n7
   | brk=>obtain⟨σ7,H7,I7,q7⟩:=q7;exact⟨σ7,H7,I7.unpinned,q7⟩
   | ret v=>obtain⟨x7,σ7,H7,I7,r7,q7⟩:=q7;exact⟨x7,σ7,H7,I7.unpinned,r7,q7⟩
end
abbrev R2:=V→V→Hp→VK→Prop
def OpR (X:Cx) (f:Value→Value→Sem Value) (r:R2):Prop :=
  ∀ (pins:AOs) (s:Shared) (σ:St) (H:Hp) (x y:V) (v u:Value) (Q:VK),Inv X pins σ H s→aG x v→aG y u→r x y H Q →
    wpAny (model X.prog X.w) X.A (f v u) (EP X pins σ Q) X.xe s
def UnR (X:Cx) (f:Value→Sem Value) (r:V→Hp→VK→Prop):Prop :=
  ∀ (pins:AOs) (s:Shared) (σ:St) (H:Hp) (x:V) (v:Value) (Q:VK),Inv X pins σ H s→aG x v→r x H Q →
    wpAny (model X.prog X.w) X.A (f v) (EP X pins σ Q) X.xe s
def fU (X:Cx) (f:Value) (r:List V→Hp→VK→Prop):Prop :=
  ∀ (pins:AOs) (s:Shared) (σ:St) (H:Hp) (xs:List V) (us:List Value) (Q:VK),Inv X pins σ H s→aD xs us→r xs H Q →
    wpAny (model X.prog X.w) X.A (call f us) (EP X pins σ Q) X.xe s
def Cc (X:Cx) (r:V→Hp→(Bool→Hp→Prop)→Prop):Prop :=
  ∀ (pins:AOs) (s:Shared) (σ:St) (H:Hp) (x:V) (v:Value) (Q:Bool→Hp→Prop),Inv X pins σ H s→aG x v→r x H Q →
    wpAny (model X.prog X.w) X.A (truthy v) (TP X pins σ Q) X.xe s
def tOp (r:R2) (ta tb:TE):TE:=fun σ H Q=>ta σ H fun x H1=>tb σ H1 fun y H2=>r x y H2 Q
def tUn (r:V→Hp→VK→Prop) (ta:TE):TE:=fun σ H Q=>ta σ H fun x H1=>r x H1 Q
def rI (C:Int→Int→Prop) (g:Int→Int→V):R2:=fun x y H Q=>vL x y H C g Q
def rI0 (g:Int→Int→V):R2:=fun x y H Q=>rN x y H g Q
def rU (g:Int→V):V→Hp→VK→Prop:=fun x H Q=>∃ i,x=.int i∧Q (g i) H
section
variable {X:Cx} {a b c:Expr} {ta tb tc:TE} {pos:Pos}
theorem xH (ha:PE X a ta) (hb:PE X b tb) {pins:AOs} {s:Shared} {σ:St} {H:Hp} {R:V→V→Hp→Prop} (I:Inv X pins σ H s)
 (h:ta σ H fun x H1=>tb σ H1 fun y H2=>R x y H2) {Q:VSP} {f:Value→Value→Sem Value}
 (hf:∀ v u s2 x y H2,Inv X pins σ H2 s2→aG x v→aG y u→R x y H2→wpAny (model X.prog X.w) X.A (f v u) Q X.xe s2) :
 wpAny (model X.prog X.w) X.A (eval a X.env) (fun v s₁=>wpAny (model X.prog X.w) X.A (eval b X.env) (fun u s₂=>wpAny (model X.prog X.w) X.A (f v u) Q X.xe s₂) X.xe s₁) X.xe s:=by
 refine thn (ha pins s σ H _ I h) fun v s1 zy41=>?_;obtain⟨x,H1,I1,r1,q1⟩:=zy41;refine thn (hb pins s1 σ H1 _ I1 q1) fun u s2 zy42=>?_;obtain⟨y,H2,I2,r2,q2⟩:=zy42;exact hf v u s2 x y H2 I2 r1 r2 q2
theorem aC {op:Operator} {r:R2} (ho:OpR X (binaryOp op) r) (ha:PE X a ta) (hb:PE X b tb):PE X (.BinOp a op b pos) (tOp r ta tb):=by
 intro pins s σ H Q I h;exact wpAny_BinOp (xH ha hb I h fun v u s2 x y H2 I2 rx ry q=>ho pins s2 σ H2 x y v u Q I2 rx ry q)
theorem mX {op:UnaryOp} {r:V→Hp→VK→Prop} (ho:UnR X (unaryOp op) r) (ha:PE X a ta):PE X (.UnaryOp op a pos) (tUn r ta):=by
 intro pins s σ H Q I h;refine UnaryOp_ (thn (ha pins s σ H _ I h) fun v s1 zy43=>?_);obtain⟨x,H1,I1,r1,q1⟩:=zy43;exact ho pins s1 σ H1 x v Q I1 r1 q1
theorem opI {f:Value→Value→Sem Value} {C:Int→Int→Prop} {g:Int→Int→Int}
 (rule:∀ (i j:Int) (t u:Tok) (s:Shared) (Q:VSP) (E:VSP),C i j→Q (.int (g i j) s.toks) {s with toks:=s.toks+1}→wpAny (model X.prog X.w) X.A (f (.int i t) (.int j u)) Q E s) :
 OpR X f (rI C fun i j=>.int (g i j)):=by
 intro pins s σ H x y v u Q I rx ry h;obtain⟨i,j,rfl,rfl,hc,q⟩:=h;obtain⟨t,rfl⟩:=rx;obtain⟨t',rfl⟩:=ry;exact rule i j t t' s _ _ hc ⟨.int (g i j),H,I.tok _,⟨_,rfl⟩,q⟩
theorem zE {f:Value→Value→Sem Value} {g:Int→Int→Int}
 (rule:∀ (i j:Int) (t u:Tok) (s:Shared) (Q:VSP) (E:VSP),Q (.int (g i j) s.toks) {s with toks:=s.toks+1}→wpAny (model X.prog X.w) X.A (f (.int i t) (.int j u)) Q E s) :
 OpR X f (rI0 fun i j=>.int (g i j)):=by
 intro pins s σ H x y v u Q I rx ry h;obtain⟨i,j,rfl,rfl,q⟩:=h;obtain⟨t,rfl⟩:=rx;obtain⟨t',rfl⟩:=ry;exact rule i j t t' s _ _ ⟨.int (g i j),H,I.tok _,⟨_,rfl⟩,q⟩
theorem tO {f:Value→Value→Sem Value} {g:Int→Int→Bool}
 (rule:∀ (i j:Int) (t u:Tok) (s:Shared) (Q:VSP) (E:VSP),Q (.bool (g i j)) s→wpAny (model X.prog X.w) X.A (f (.int i t) (.int j u)) Q E s) :
 OpR X f (rI0 fun i j=>.bl (g i j)):=by
 intro pins s σ H x y v u Q I rx ry h;obtain⟨i,j,rfl,rfl,q⟩:=h;obtain⟨t,rfl⟩:=rx;obtain⟨t',rfl⟩:=ry;exact rule i j t t' s _ _ ⟨.bl (g i j),H,I,rfl,q⟩
def Cf (i j:Int):Prop:=0<j∧j<1073741824
def Ce (i j:Int):Prop:=0≤j∧j≤1000000∧i.natAbs<2 ^ 64
def xT (i j:Int):Prop:=(-(2 ^ 64)<i∧i<2 ^ 64)∨(-(2 ^ 64)<j∧j<2 ^ 64)
theorem xT.ok {i j:Int} (h:xT i j):IntMulOk i j:=by
 rcases h with ⟨h1,h2⟩ | ⟨h1,h2⟩
 · exact .of_left (intBits_le_64 h1 h2)
 · exact .of_right (intBits_le_64 h1 h2)
theorem cu:OpR X (binaryOp .Add) (rI0 fun i j=>.int (i+j)):=zE fun _ _ _ _ _ _ _ q=>add_int q
theorem d0:OpR X (binaryOp .Sub) (rI0 fun i j=>.int (i-j)):=zE fun _ _ _ _ _ _ _ q=>sub_int q
theorem fj:OpR X (binaryOp .Mult) (rI xT fun i j=>.int (i*j)):=opI fun _ _ _ _ _ _ _ hc q=>mul_int q hc.ok
theorem i7:OpR X (binaryOp .FloorDiv) (rI Cf fun i j=>.int (i / j)):=opI fun i j _ _ _ _ _ hc q=>by
 have h1:(0:Int)<j:=hc.1;have h2:j<1073741824:=hc.2;exact floordiv_int (by lia) (by rw[Int.fdiv_eq_ediv_of_nonneg i (by lia)];exact q) (.inl (PyProof.noPylong_small (by lia)))
theorem gp:OpR X (binaryOp .Mod) (rI (fun _ j=>0<j) fun i j=>.int (i % j)):=opI fun i j _ _ _ _ _ hc q=>by
 have h1:(0:Int)<j:=hc;exact mod_int' (by lia) (by rw[Int.fmod_eq_emod_of_nonneg i (by lia)];exact q)
theorem wZ:OpR X (binaryOp .Pow) (rI Ce fun i j=>.int (i ^ j.toNat)):=opI fun _ _ _ _ _ _ _ hc q=>pow_int_small hc.1 hc.2.1 hc.2.2 q
theorem unI {f:Value→Sem Value} {g:Int→Int}
 (rule:∀ (i:Int) (t:Tok) (s:Shared) (Q:VSP) (E:VSP),Q (.int (g i) s.toks) {s with toks:=s.toks+1}→wpAny (model X.prog X.w) X.A (f (.int i t)) Q E s) :
 UnR X f (rU fun i=>.int (g i)):=by
 intro pins s σ H x v Q I rx h;obtain⟨i,rfl,q⟩:=h;obtain⟨t,rfl⟩:=rx;exact rule i t s _ _ ⟨.int (g i),H,I.tok _,⟨_,rfl⟩,q⟩
theorem jq:UnR X (unaryOp .USub) (rU fun i=>.int (-i)):=unI fun _ _ _ _ _ q=>neg_int q
end
def sL:V→V→Bool
  | .non,.non=>true | .non,.int _=>true | .int _,.non=>true | .non,.bl _=>true | .bl _,.non=>true | .non,.str _=>true | .str _,.non=>true
  | .int _,.int _=>true | .bl _,.bl _=>true | .str _,.str _=>true | .byt _,.byt _=>true
  | .int _,.str _=>true | .str _,.int _=>true | .bl _,.str _=>true | .str _,.bl _=>true
  | _,_=>false
def rEq:R2:=fun x y H Q=>sL x y=true∧Q (.bl (decide (x=y))) H
def rNe:R2:=fun x y H Q=>sL x y=true∧Q (.bl (!decide (x=y))) H
theorem ny {i j:Int}:decide (V.int i=V.int j)=(i==j):=by
 rw[Bool.eq_iff_iff];simp
theorem rp {i j:Bool}:decide (V.bl i=V.bl j)=(i==j):=by
 rw[Bool.eq_iff_iff];simp
theorem nu {i j:Str}:decide (V.str i=V.str j)=(i==j):=by
 rw[Bool.eq_iff_iff];simp
theorem nz {i j:Array UInt8}:decide (V.byt i=V.byt j)=(i.toList==j.toList):=by
 rw[Bool.eq_iff_iff];cases i;cases j;simp
section
variable {X:Cx} {a b c:Expr} {ta tb tc:TE} {pos:Pos}
theorem aN {pins:AOs} {σ:St} {H:Hp} {s:Shared} {Q:VK} {k k':Bool} (I:Inv X pins σ H s) (q:Q (.bl k) H) (e:k=k'):EP X pins σ Q (.bool k') s:=by
 subst e;exact⟨.bl k,H,I,rfl,q⟩
theorem aH:OpR X (compareOp .Eq) rEq:=by
 intro pins s σ H x y v u Q I rx ry h;obtain⟨hs,q⟩:=h;cases x with
 | non =>
  cases rx;cases y with
  | non=>cases ry;exact PySem.EqNone.eq_none_none (aN I q (by simp))
  | bl j=>cases ry;exact PySem.EqNone.eq_none_bool (aN I q (by simp))
  | int j=>obtain⟨t',rfl⟩:=ry;exact PySem.EqNone.eq_none_int (aN I q (by simp))
  | str j=>obtain⟨t',rfl⟩:=ry;exact PySem.EqNone.eq_none_str (aN I q (by simp))
  | _=>exact absurd (show false=true from hs) Bool.false_ne_true
 | bl i =>
  cases rx;cases y with
  | non=>cases ry;exact PySem.EqNone.eq_bool_none (aN I q (by simp))
  | bl j=>cases ry;exact eq_bool (aN I q rp)
  | str j=>obtain⟨t',rfl⟩:=ry;exact PySem.EqMixed.eq_bool_str (aN I q (by simp))
  | _=>exact absurd (show false=true from hs) Bool.false_ne_true
 | int i =>
  obtain⟨t,rfl⟩:=rx;cases y with
  | non=>cases ry;exact PySem.EqNone.eq_int_none (aN I q (by simp))
  | int j=>obtain⟨t',rfl⟩:=ry;exact eq_int (aN I q ny)
  | str j=>obtain⟨t',rfl⟩:=ry;exact PySem.EqMixed.eq_int_str (aN I q (by simp))
  | _=>exact absurd (show false=true from hs) Bool.false_ne_true
 | str i =>
  obtain⟨t,rfl⟩:=rx;cases y with
  | non=>cases ry;exact PySem.EqNone.eq_str_none (aN I q (by simp))
  | bl j=>cases ry;exact PySem.EqMixed.eq_str_bool (aN I q (by simp))
  | int j=>obtain⟨t',rfl⟩:=ry;exact PySem.EqMixed.eq_str_int (aN I q (by simp))
  | str j=>obtain⟨t',rfl⟩:=ry;exact eq_str (aN I q nu)
  | _=>exact absurd (show false=true from hs) Bool.false_ne_true
 | byt i =>
  obtain⟨t,rfl⟩:=rx;cases y with
  | byt j=>obtain⟨t',rfl⟩:=ry;exact PySem.W.eq_bytes (aN I q nz)
  | _=>exact absurd (show false=true from hs) Bool.false_ne_true
 | _=>cases y <;> exact absurd (show false=true from hs) Bool.false_ne_true
theorem qJ:OpR X (compareOp .NotEq) rNe:=by
 intro pins s σ H x y v u Q I rx ry h;obtain⟨hs,q⟩:=h;cases x with
 | non =>
  cases rx;cases y with
  | non=>cases ry;exact PySem.EqNone.ne_none_none (aN I q (by simp))
  | bl j=>cases ry;exact PySem.EqNone.ne_none_bool (aN I q (by simp))
  | int j=>obtain⟨t',rfl⟩:=ry;exact PySem.EqNone.ne_none_int (aN I q (by simp))
  | str j=>obtain⟨t',rfl⟩:=ry;exact PySem.EqNone.ne_none_str (aN I q (by simp))
  | _=>exact absurd (show false=true from hs) Bool.false_ne_true
 | bl i =>
  cases rx;cases y with
  | non=>cases ry;exact PySem.EqNone.ne_bool_none (aN I q (by simp))
  | bl j=>cases ry;exact ne_bool (aN I q (congrArg not rp))
  | str j=>obtain⟨t',rfl⟩:=ry;exact PySem.EqMixed.ne_bool_str (aN I q (by simp))
  | _=>exact absurd (show false=true from hs) Bool.false_ne_true
 | int i =>
  obtain⟨t,rfl⟩:=rx;cases y with
  | non=>cases ry;exact PySem.EqNone.ne_int_none (aN I q (by simp))
  | int j=>obtain⟨t',rfl⟩:=ry;exact ne_int (aN I q (congrArg not ny))
  | str j=>obtain⟨t',rfl⟩:=ry;exact PySem.EqMixed.ne_int_str (aN I q (by simp))
  | _=>exact absurd (show false=true from hs) Bool.false_ne_true
 | str i =>
  obtain⟨t,rfl⟩:=rx;cases y with
  | non=>cases ry;exact PySem.EqNone.ne_str_none (aN I q (by simp))
  | bl j=>cases ry;exact PySem.EqMixed.ne_str_bool (aN I q (by simp))
  | int j=>obtain⟨t',rfl⟩:=ry;exact PySem.EqMixed.ne_str_int (aN I q (by simp))
  | str j=>obtain⟨t',rfl⟩:=ry;exact ne_str (aN I q (congrArg not nu))
  | _=>exact absurd (show false=true from hs) Bool.false_ne_true
 | byt i =>
  obtain⟨t,rfl⟩:=rx;cases y with
  | byt j=>obtain⟨t',rfl⟩:=ry;exact PySem.W.ne_bytes (aN I q (congrArg not nz))
  | _=>exact absurd (show false=true from hs) Bool.false_ne_true
 | _=>cases y <;> exact absurd (show false=true from hs) Bool.false_ne_true
theorem iC:OpR X (compareOp .Lt) (rI0 fun i j=>.bl (decide (i<j))):=tO fun _ _ _ _ _ _ _ q=>lt_int q
theorem zC:OpR X (compareOp .LtE) (rI0 fun i j=>.bl (decide (i≤j))):=tO fun _ _ _ _ _ _ _ q=>le_int q
theorem gH:OpR X (compareOp .Gt) (rI0 fun i j=>.bl (decide (j<i))):=tO fun _ _ _ _ _ _ _ q=>gt_int q
theorem uP:OpR X (compareOp .GtE) (rI0 fun i j=>.bl (decide (j≤i))):=tO fun _ _ _ _ _ _ _ q=>ge_int q
theorem pN (b:Expr) {op:CmpOp} (h:op≠.In:=by decide) (h2:op≠.NotIn:=by decide):behindInMarks op b=false:=by
 have e1:(op==CmpOp.In)=false:=by cases op <;> first | rfl | exact absurd rfl h
 have e2:(op==CmpOp.NotIn)=false:=by cases op <;> first | rfl | exact absurd rfl h2
 cases b <;> simp[behindInMarks,e1,e2]
theorem jE {op:CmpOp} {r:R2} (ho:OpR X (compareOp op) r) (ha:PE X a ta) (hb:PE X b tb) (hm:behindInMarks op b=false):PE X (.Compare a [op] [b] pos) (tOp r ta tb):=by
 intro pins s σ H Q I h;exact wpAny_Compare1 (xH ha hb I h fun v u s2 x y H2 I2 rx ry q=>ho pins s2 σ H2 x y v u Q I2 rx ry q) hm
def bU (t:TE):TT:=fun σ H Q=>t σ H fun x H'=>BlR x H' Q
theorem pM {op:CmpOp} {r:R2} (ho:OpR X (compareOp op) r) (ha:PE X a ta) (hb:PE X b tb) (hm:behindInMarks op b=false):PT X (.Compare a [op] [b] pos) (bU (tOp r ta tb)):=by
 intro pins s σ H Q I h;refine wpAny_isTrue_Compare1 (thn (ha pins s σ H _ I h) fun v s1 zy44=>?_) hm;obtain⟨x,H1,I1,r1,q1⟩:=zy44;refine thn (hb pins s1 σ H1 _ I1 q1) fun u s2 zy45=>?_;obtain⟨y,H2,I2,r2,q2⟩:=zy45;refine thn (ho pins s2 σ H2 x y v u _ I2 r1 r2 q2) fun c s3 zy46=>?_;obtain⟨z,H3,I3,r3,k,e,q3⟩:=zy46;subst e;cases r3;exact wpAny_truthy_bool ⟨H3,I3,q3⟩
def pP (r r':R2) (ta tb tc:TE):TE:=fun σ H Q=>ta σ H fun x H1=>tb σ H1 fun y H2=>r x y H2 fun z H3=>∃ k,z=.bl k ∧
  (if k=true then tc σ H3 fun w' H4=>r' y w' H4 Q else Q (.bl false) H3)
theorem qr {op op':CmpOp} {r r':R2} (ho:OpR X (compareOp op) r) (ho':OpR X (compareOp op') r') (ha:PE X a ta) (hb:PE X b tb) (hc:PE X c tc)
 (hm:lastMarks [op,op'] [b,c]=false:=by with_unfolding_all rfl):PT X (.Compare a [op,op'] [b,c] pos) (bU (pP r r' ta tb tc)):=by
 intro pins s σ H Q I h;refine isTrue_chain (thn (ha pins s σ H _ I h) fun v s1 zy51=>?_) hm;obtain⟨x,H1,I1,r1,q1⟩:=zy51;refine test_link (thn (hb pins s1 σ H1 _ I1 q1) fun u s2 zy52=>?_);obtain⟨y,H2,I2,r2,q2⟩:=zy52;refine thn (ho pins s2 σ H2 x y v u _ I2 r1 r2 q2) fun d s3 zy53=>?_;obtain⟨z,H3,I3,r3,k,e,q3⟩:=zy53;subst e;cases r3;refine wpAny_truthy_bool ?_;cases k with
 | false =>
  obtain⟨k',e',q'⟩:=q3;cases e';exact ite_ff ⟨H3,I3,q'⟩
 | true =>
  refine ite_tt (test_last (thn (hc pins s3 σ H3 _ I3 q3) fun w' s4 zy54=>?_));obtain⟨z',H4,I4,r4,q4⟩:=zy54;refine thn (ho' pins s4 σ H4 y z' u w' _ I4 r2 r4 q4) fun d' s5 zy55=>?_;obtain⟨z2,H5,I5,r5,k2,e2,q5⟩:=zy55;subst e2;cases r5;exact wpAny_truthy_bool ⟨H5,I5,q5⟩
def ut (K:Fg) (x:V) (H:Hp) (k:Bool):Prop :=
  match x with
  | .non=>k=false
  | .bl b=>k=b
  | .int i=>k=(i != 0)
  | .str y=>y.length≤sizeLine∧k=((y.length:Int) != 0)
  | .byt y=>y.size≤sizeLine∧k=((y.size:Int) != 0)
  | .ref p=>(∃ xs,SqL K H p xs∧k=!xs.isEmpty)∨(∃ xs,SqT K H p xs∧k=!xs.isEmpty)∨∃ kvs,H p=some (.dK kvs)∧k=!kvs.isEmpty
  | _=>False
theorem lW {κ:Type} {kvs:List (κ×V)} {vs:List (κ×Value)} (r:KV kvs vs):(!vs.isEmpty)=!kvs.isEmpty:=by
 cases r <;> rfl
theorem iH {xs:List V} {its:List Value} (r:aD xs its):(!its.toArray.isEmpty)=!xs.isEmpty:=by
 cases r <;> simp
theorem gu:(sizeLine:Nat)<2 ^ 63:=by rw[sizeLine_eq];decide
theorem pr:Cc X (fun x H Q=>∃ k,ut X.K x H k∧Q k H):=by
 intro pins s σ H x v Q I rx h;obtain⟨k,e,q⟩:=h;have hl:=gu;have hs:sizeLine=16777216:=sizeLine_eq;cases x with
 | non =>
  cases rx;have e':k=false:=e;subst e';exact truthy_none ⟨H,I,q⟩
 | bl b =>
  cases rx;have e':k=b:=e;subst e';exact wpAny_truthy_bool ⟨H,I,q⟩
 | int i =>
  obtain⟨t,rfl⟩:=rx;have e':k=(i != 0):=e;subst e';exact PySem.P.truthy_int ⟨H,I,q⟩
 | str y =>
  obtain⟨t,rfl⟩:=rx;obtain⟨hy,e'⟩:y.length≤sizeLine∧k=((y.length:Int) != 0):=e;subst e';exact PySem.P.truthy_str (by lia) ⟨H,I.tok _,q⟩
 | byt y =>
  obtain⟨t,rfl⟩:=rx;obtain⟨hy,e'⟩:y.size≤sizeLine∧k=((y.size:Int) != 0):=e;subst e';exact PySem.W.truthy_bytes (by lia) ⟨H,I.tok _,q⟩
 | ref p =>
  cases rx;have e':(∃ xs,SqL X.K H p xs∧k=!xs.isEmpty)∨(∃ xs,SqT X.K H p xs∧k=!xs.isEmpty)∨∃ kvs,H p=some (.dK kvs)∧k=!kvs.isEmpty:=e
  rcases e' with ⟨xs,hx,e'⟩ | ⟨xs,hx,e'⟩ | ⟨kvs,hx,e'⟩
  · subst e';obtain⟨its,r,pl,hz⟩:=I.list hx;have hlen:=r.length;exact wpAny_truthy_list pl.isList (by simp only[List.size_toArray];lia) ⟨H,I.tok _,by rw[iH r];exact q⟩
  · subst e';obtain⟨its,r,pl,hz⟩:=I.tuple hx;have hlen:=r.length;exact truthy_tuple pl (by simp only[List.size_toArray];lia) ⟨H,I.tok _,by rw[iH r];exact q⟩
  · subst e';obtain⟨hz,hS,vs,r,m⟩:kvs.length≤sizeLine∧(p==sysModules)=false∧∃ vs,KV kvs vs∧s.heap.DictOf (ar X.prog X.w) p vs:=I.hok p _ hx;have hlen:kvs.length=vs.length:=Paired.length r;exact wpAny_truthy_dict hS m (by lia) ⟨H,I.tok _,by rw[lW r];exact q⟩
 | _=>exact (show False from e).elim
theorem iw (ha:PE X a ta) (he:∀ whole,isTrue a X.env whole=(do let v ← whole;standAt a.pos;holding [v] (truthy v))) :
 PT X a (fun σ H Q=>ta σ H fun x H'=>∃ k,ut X.K x H' k∧Q k H'):=by
 intro pins s σ H Q I h;refine isTrue_plain (thn (ha pins s σ H _ I h) fun v s1 zy56=>?_) (he _);obtain⟨x,H1,I1,r1,q1⟩:=zy56;exact pr pins s1 σ H1 x v Q I1 r1 q1
theorem lL:OpR X (binaryOp .Add) (fun x y H Q=>∃ i j,x=.str i∧y=.str j∧i.length+j.length≤sizeLine∧Q (.str (i++j)) H):=by
 intro pins s σ H x y v u Q I rx ry h;obtain⟨i,j,rfl,rfl,hz,q⟩:=h;obtain⟨t,rfl⟩:=rx;obtain⟨t',rfl⟩:=ry;exact add_str (fun t' tk=>⟨.str (i++j),H,I.tok _,⟨_,rfl⟩,q⟩) hz
theorem ky {x:V} {us:List Value} (r:aD [x] us):∃ u,us=[u]∧aG x u:=by
 cases r with
 | cons r1 r2=>cases r2;exact⟨_,rfl,r1⟩
theorem oO:fU X (.type "int") (fun xs H Q=>(∃ i,xs=[.int i]∧Q (.int i) H)∨∃ k,xs=[.bl k]∧Q (.int (if k then 1 else 0)) H):=by
 intro pins s σ H xs us Q I r h
 rcases h with ⟨i,rfl,q⟩ | ⟨k,rfl,q⟩
 · obtain⟨u,rfl,t,rfl⟩:=ky r;exact call_int_int ⟨.int i,H,I,⟨_,rfl⟩,q⟩
 · obtain⟨u,rfl,r1⟩:=ky r;cases r1;exact call_int_bool ⟨.int (if k then 1 else 0),H,I.tok _,⟨_,rfl⟩,q⟩
end
structure mv (h:Heap) (x dx C:Addr) (mA:SOV):Prop where
  obj:h.get? x=some (PySem.W.instObj C dx)
  ns:h.Ns1 dx mA
  ne:dx≠x
theorem og {h:Heap} {dx:Addr} {mA:SOV} (n:h.Ns1 dx mA):∃ od,h.get? dx=some od∧∀ name,PySem.W.lookIn name od=some (mA name):=by
 obtain⟨o,es,ep,ho,hd,hk,_,hm⟩:=n;refine⟨o,ho,fun name=>?_⟩;have e:=hm name;unfold nsFind findBy at e;rw[← Array.find?_toList] at e;unfold PySem.W.lookIn;rw[hd];dsimp only;split
 · rename_i y q
   rw[q] at e;exact congrArg some e
 · rename_i q
   rw[q] at e;have a:es.toList.any (·.refKey)=false:=by
    rw[List.any_eq_false];intro y hy;obtain⟨z,t,hkey⟩:=hk y (Array.mem_toList_iff.mp hy);simp[DictEntry.refKey,hkey]
   have a':¬ es.toList.any (·.refKey)=true:=by rw[a];exact Bool.false_ne_true
   rw[if_neg a'];exact congrArg some e
theorem mv.look {h:Heap} {x dx C:Addr} {mA:SOV} (I:mv h x dx C mA):∃ od,PySem.W.InstAt h x (PySem.W.instObj C dx) C (some od)∧∀ name,PySem.W.lookIn name od=some (mA name) :=
 let ⟨od,ho,hl⟩:=og I.ns
 ⟨od,⟨I.obj,rfl,rfl,ho⟩,hl⟩
section
variable {prog:Program} {w:World} {A:Around} {E:VSP} {s:Shared} {K:Fg} {x dx C f:Addr} {mA:SOV} {name:Str} {v:Value}
theorem ua {expr:Bool} {Q:VSP} (X:K.In s.heap) (I:mv s.heap x dx C mA) (hg:PySem.W.plainGet K C name=true) (hh:PySem.W.hasDictIn K C=true)
 (ha:PySem.W.findIn K (.ref C) name=some none) (hv:mA name=some v) (hv':PySem.W.handedIn v=true) (h:Q v {s with toks:=s.toks+1}) :
 wpAny (model prog w) A (getAttr (.ref x) name expr) Q E s:=by
 obtain⟨od,J,hl⟩:=I.look;exact PySem.W.get_value X J (PySem.W.plainGet_of hg).1 (PySem.W.findObj_own hh ha rfl (by rw[hl,hv])) hv' h
theorem re {pl:Sem Bool} {Q:Value×List Value→Shared→Prop} (X:K.In s.heap) (I:mv s.heap x dx C mA) (hg:PySem.W.plainGet K C name=true)
 (hf:PySem.W.findIn K (.ref C) name=some (some (.ref f))) (ht:PySem.W.isFn K (.ref f)=true) (hv:mA name=none) (h:Q (.ref f,[.ref x]) s) :
 wpAny (model prog w) A (getMethod (.ref x) name pl) Q E s:=by
 obtain⟨od,J,hl⟩:=I.look;exact PySem.W.method_fn X J (PySem.W.plainGet_of hg).1 (PySem.W.plainGet_of hg).2 hf (beq_iff_eq.mp ht) (by show (PySem.W.lookIn name od).map (·.isSome)=some false;rw[hl,hv];rfl) h
theorem sJ {ns:List Str} {Q:Unit→Shared→Prop} (X:K.In s.heap) (I:mv s.heap x dx C mA)
 (hs:PySem.W.findIn K (.ref C) "__setattr__"=some (some (.builtin "object.__setattr__"))) (hp:PySem.W.plainOver K C=true) (ht:PySem.W.takerIn K C name=some none) (hh:PySem.W.hasDictIn K C=true)
 (hw:PySem.Within mA ns) (hsz:ns.length≤sizeLine)
 (h:∀ h',mv h' x dx C (fun y=>if y=name then some v else mA y)→Heap.SameBut dx s.heap h'→Q () {s with heap:=h',toks:=s.toks+2}) :
 wpAny (model prog w) A (setAttr (.ref x) name v) Q E s:=by
 obtain⟨od,J,hl⟩:=I.look;refine PySem.W.set_plain X J hs (PySem.W.osa_open (s:={s with toks:=s.toks+1}) (r:=none) X J hp ht fun b=>?_);obtain⟨cd,hc,hd'⟩:=PySem.W.any_some hh;have hx:s.heap.get? x=some ⟨.ref C,some dx,.plain,#[]⟩:=I.obj;refine wB (wP (wB (wB (wpAny_loadPart hx (wB (PySem.W.Looks.here (s:={s with toks:=s.toks+1}) (PySem.W.looks_clsIn X hc) ?_))))));rw[hd'];refine wP (a:=some dx) (wB (wP (wB ?_)));refine wpAny_nsSet1 (s:={s with toks:=s.toks+1}) I.ns fun h' hn2 hs2=>?_;obtain⟨oD,esD,epD,hoD,hdD,hcD⟩:=hn2.count (PySem.Within.cons name v hw);refine wB (wpAny_lookBehind hoD (by rw[hdD];exact pastItsLine_dict (Nat.le_trans hcD (by rw[List.length_cons];lia))) ?_);exact wP (h _ ⟨(hs2.2 _ (Ne.symm I.ne)).trans I.obj,hn2,I.ne⟩ hs2)
theorem qO {R:Result→Shared→Prop} {vs:List Value} {kw:List (Str×Value)} (X:K.In s.heap) (hm:PySem.W.makesIn K C=true)
 (hi:PySem.W.findIn K (.ref C) "__init__"=some (some (.ref f))) (hf:PySem.W.typeIn K (.ref f)=some (.type "function"))
 (h:codeAny (model prog w) (A.under (.builtin "type.__call__" ⟨.ref C::vs,kw⟩)) (.call (.ref f) ⟨.ref (s.heap.objs.size+1)::vs,kw⟩) (PySem.W.InitBack (s.heap.objs.size+1) R)
   {s with heap:=(s.heap.push PySem.W.emptyDict).push (PySem.W.instObj C s.heap.objs.size)}) :
 codeAny (model prog w) A (.call (.ref C) ⟨vs,kw⟩) R s:=by
 obtain⟨hh,g,d,t,os⟩:=s;exact PySem.W.make_core (PySem.W.makes_of X hm) (PySem.W.looks_findIn X hi) (fun self=>PySem.W.bind_fn X self hf) (.inl rfl) h
end
def eS (f:Str) (v:V):List (Str×V)→List (Str×V)
  | []=>[(f,v)]
  | (g,x)::r=>if g=f then (g,v)::r else (g,x)::eS f v r
theorem gK (f g:Str) (v:V):∀ fs:List (Str×V),(eS f v fs).lookup g=if g=f then some v else fs.lookup g
 | []=>by
  show List.lookup g [(f,v)]=_;by_cases h:g=f
  · have hb:(g==f)=true:=beq_iff_eq.mpr h;simp only[List.lookup,hb,if_pos h]
  · have hb:(g==f)=false:=beq_eq_false_iff_ne.mpr h;simp only[List.lookup,hb,if_neg h]
 | (k,x)::r=>by
  have ih:=gK f g v r;rw[show eS f v ((k,x)::r)=(if k=f then (k,v)::r else (k,x)::eS f v r) from rfl];by_cases hk:k=f
  · rw[if_pos hk];by_cases h:g=k
    · have hb:(g==k)=true:=beq_iff_eq.mpr h;simp only[List.lookup,hb,if_pos (h.trans hk)]
    · have hb:(g==k)=false:=beq_eq_false_iff_ne.mpr h;simp only[List.lookup,hb,if_neg (fun e:g=f=>h (e.trans hk.symm))]
  · rw[if_neg hk];by_cases h:g=k
    · have hb:(g==k)=true:=beq_iff_eq.mpr h;simp only[List.lookup,hb,if_neg (fun e:g=f=>hk (h.symm.trans e))]
    · have hb:(g==k)=false:=beq_eq_false_iff_ne.mpr h;simp only[List.lookup,hb];exact ih
theorem gw (f:Str) (v:V):∀ fs:List (Str×V),f∈(eS f v fs).map (·.1)∧∀ g,g∈fs.map (·.1)→g∈(eS f v fs).map (·.1)
 | []=>⟨by simp[eS],fun g h=>by simp at h⟩
 | (k,x)::r=>by
  obtain⟨i1,i2⟩:=gw f v r;rw[show eS f v ((k,x)::r)=(if k=f then (k,v)::r else (k,x)::eS f v r) from rfl];by_cases hk:k=f
  · rw[if_pos hk];subst hk;exact⟨by simp,fun g h=>by simpa using h⟩
  · rw[if_neg hk];refine⟨?_,fun g h=>?_⟩
    · rw[List.map_cons];exact mCM _ i1
    · rw[List.map_cons] at h ⊢
      rcases List.mem_cons.mp h with e | e
      · exact List.mem_cons.mpr (.inl e)
      · exact mCM _ (i2 g e)
theorem gL (f:Str) (v:V):∀ fs:List (Str×V),(eS f v fs).length≤fs.length+1
 | []=>by simp[eS]
 | (k,x)::r=>by
  have ih:=gL f v r;rw[show eS f v ((k,x)::r)=(if k=f then (k,v)::r else (k,x)::eS f v r) from rfl];by_cases hk:k=f
  · rw[if_pos hk,List.length_cons,List.length_cons];lia
  · rw[if_neg hk,List.length_cons,List.length_cons];lia
theorem dz.some_of {v:V} {o:Option Value} (r:dz (some v) o):∃ u,o=some u∧aG v u:=by
 cases o with
 | none=>exact (show False from r).elim
 | some u=>exact⟨u,rfl,r⟩
theorem dz.none_of {o:Option Value} (r:dz none o):o=none:=by
 cases o with
 | none=>rfl
 | some u=>exact (show False from r).elim
theorem oE {v:V} {u:Value} (r:aG v u):PySem.W.handedIn u=true:=by
 cases v with
 | non=>cases (show u=Value.none from r);rfl
 | bl b=>cases (show u=Value.bool b from r);rfl
 | int i=>obtain⟨t,e⟩:=(show ∃ t,u=Value.int i t from r);cases e;rfl
 | str x=>obtain⟨t,e⟩:=(show ∃ t,u=Value.str x t from r);cases e;rfl
 | byt b=>obtain⟨t,e⟩:=(show ∃ t,u=Value.bytes b t from r);cases e;rfl
 | flt b=>obtain⟨t,e⟩:=(show ∃ t,u=Value.float b t from r);cases e;rfl
 | ref a=>cases (show u=Value.ref a from r);rfl
 | ty n=>cases (show u=Value.type n from r);rfl
section
variable {P:Program} {w:World} {H H':Hp} {h h':Heap} {a C dx:Addr} {fs fs':List (Str×V)}
theorem i9 (hok:HOk P w H h) (e:H a=some (.ins C dx fs)):∃ mA,mv h a dx C mA∧(∀ f,dz (fs.lookup f) (mA f))∧PySem.Within mA (fs.map (·.1))∧fs.length≤1000∧H dx=some (.own a):=by
 obtain⟨d,z,ne,ob,mA,n,r,q⟩:=(show bm P w H h a (.ins C dx fs) from hok a _ e);exact⟨mA,⟨ob,n,ne⟩,r,q,z,d⟩
end
structure Cls (K:Fg) (C:Addr):Prop where
  pg:PySem.W.plainGet K C Str.empty=true
  hd:PySem.W.hasDictIn K C=true
  po:PySem.W.plainOver K C=true
  sa:PySem.W.findIn K (.ref C) "__setattr__"=some (some (.builtin "object.__setattr__"))
theorem Cls.get {K:Fg} {C:Addr} (c:Cls K C) (f:Str):PySem.W.plainGet K C f=true:=c.pg
def d9 (K:Fg) (C:Addr) (f:Str):Prop:=PySem.W.findIn K (.ref C) f=some none
theorem d9.taker {K:Fg} {C:Addr} {f:Str} (n:d9 K C f):PySem.W.takerIn K C f=some none:=by
 unfold PySem.W.takerIn;rw[show PySem.W.findIn K (.ref C) f=some none from n];rfl
structure uv (K:Fg) (C:Addr) (m:Str) (f:Addr):Prop where
  at_:PySem.W.findIn K (.ref C) m=some (some (.ref f))
  fn:PySem.W.isFn K (.ref f)=true
  kp:PySem.W.keepIn K (.ref f)=true
section
variable {X:Cx} {pins:AOs} {σ:St} {H:Hp} {s:Shared} {a C dx:Addr} {fs:List (Str×V)} {f:Str} {v:V} {A:Around} {E:VSP}
theorem lY {b:Bool} {Q:VSP} (I:Inv X pins σ H s) (e:H a=some (.ins C dx fs)) (c:Cls X.K C) (n:d9 X.K C f) (l:fs.lookup f=some v)
 (h:∀ u s',Inv X pins σ H s'→aG v u→Q u s'):wpAny (model X.prog X.w) A (getAttr (.ref a) f b) Q E s:=by
 obtain⟨mA,O,r,_,_,_⟩:=i9 I.hok e;obtain⟨u,hu,ru⟩:=dz.some_of (v:=v) (o:=mA f) (by rw[← l];exact r f);exact ua I.kIn O (c.get f) c.hd n hu (oE ru) (h u _ (I.tok _) ru)
theorem lX {m:Str} {g:Addr} {pl:Sem Bool} {Q:Value×List Value→Shared→Prop} (I:Inv X pins σ H s) (e:H a=some (.ins C dx fs)) (c:Cls X.K C) (k:uv X.K C m g) (l:fs.lookup m=none)
 (h:Q (.ref g,[.ref a]) s):wpAny (model X.prog X.w) A (getMethod (.ref a) m pl) Q E s:=by
 obtain⟨mA,O,r,_,_,_⟩:=i9 I.hok e;have hn:mA m=none:=dz.none_of (by rw[← l];exact r m);exact re I.kIn O (c.get m) k.at_ k.fn hn h
theorem lF {y:V} {u:Value} {Q:Unit→Shared→Prop} (I:Inv X pins σ H s) (e:H a=some (.ins C dx fs)) (c:Cls X.K C) (n:d9 X.K C f) (hl:fs.length<1000) (ry:aG y u)
 (h:∀ s',Inv X pins σ (upd H a (.ins C dx (eS f y fs))) s'→Q () s'):wpAny (model X.prog X.w) A (setAttr (.ref a) f u) Q E s:=by
 obtain⟨mA,O,r,wi,_,ho⟩:=i9 I.hok e;have hz:(fs.map (·.1)).length≤sizeLine:=by rw[lMp,sizeLine_eq];lia
 refine sJ I.kIn O c.sa c.po n.taker c.hd wi hz fun h' O' sb=>h _ ?_;have hd:∃ o,h'.get? dx=some o:=let ⟨o,_,_,e',_⟩:=O'.ns;⟨o,e'⟩;refine I.write (x:=a) (e:=dx) (by rw[e];exact True.intro) (.inr ho) (fun b q hb z=>(sb.2 b hb).trans z) hd ?_;refine⟨by rw[ad O.ne];exact ho,?_,O.ne,O'.obj,_,O'.ns,fun g=>?_,fun g hg=>?_⟩
 · have:=gL f y fs;lia
 · show dz ((eS f y fs).lookup g) (if g=f then some u else mA g);rw[gK];by_cases q:g=f
   · rw[if_pos q,if_pos q];exact ry
   · rw[if_neg q,if_neg q];exact r g
 · by_cases q:g=f
   · rw[q];exact (gw f y fs).1
   · refine (gw f y fs).2 g (wi g fun z=>hg ?_);show (if g=f then some u else mA g)=none;rw[if_neg q];exact z
theorem Inv.made (I:Inv X pins σ H s):Inv X pins σ (upd (upd H s.heap.objs.size (.own (s.heap.objs.size+1))) (s.heap.objs.size+1) (.ins C s.heap.objs.size []))
 {s with heap:=(s.heap.push PySem.W.emptyDict).push (PySem.W.instObj C s.heap.objs.size)}:=by
 have e1:(s.heap.push PySem.W.emptyDict).get? s.heap.objs.size=some PySem.W.emptyDict:=Heap.get?_push_size s.heap rfl;have e2:((s.heap.push PySem.W.emptyDict).push (PySem.W.instObj C s.heap.objs.size)).get? (s.heap.objs.size+1)=some (PySem.W.instObj C s.heap.objs.size):=by
  have:=Heap.get?_push_size (s.heap.push PySem.W.emptyDict) (o:=PySem.W.instObj C s.heap.objs.size) rfl
  rwa [Heap.size_push] at this
 have e3:(s.heap.push PySem.W.emptyDict).Ns s.heap.objs.size (fun _=>none):=⟨PySem.W.emptyDict,#[],_,e1,rfl,(fun e he=>absurd he (by simp)),fun _=>rfl⟩;have I1:=I.laid (a:=s.heap.objs.size) (o:=.own (s.heap.objs.size+1)) (h':=s.heap.push PySem.W.emptyDict) (t':=s.toks) (fun b u q=>hpS _ q) (Nat.le_refl _) ⟨_,e1⟩;refine I1.laid (a:=s.heap.objs.size+1) (o:=.ins C s.heap.objs.size []) (t':=s.toks) (fun b u q=>hpS _ q) (Nat.le_of_eq (Heap.size_push _ _)) ?_;have ne:s.heap.objs.size≠s.heap.objs.size+1:=Nat.ne_of_lt (Nat.lt_succ_self _);refine⟨by rw[ad ne,pE],Nat.zero_le _,ne,e2,fun _=>none,(Heap.Ns1.of_empty e3).at fun o q=>hpS _ q,fun _=>True.intro,fun y hy=>absurd rfl hy⟩
theorem uq {prog:Program} {w:World} {env:Env} {e:Expr} {f:Str} {pos:Pos} {s:Shared} {Q:VSP} (hb:attributeBase e f env (eval e env)=eval e env)
 (h:wpAny (model prog w) A (eval e env) (fun o s₁=>wpAny (model prog w) A (getAttr o f true) Q E s₁) E s):wpAny (model prog w) A (eval (.Attribute e f pos) env) Q E s :=
 Attribute_any_ h (by rw[arm_eval_Attribute,hb])
end
def B3 (K:Fg) (ta:TE) (f:Str):TE:=fun σ H Q=>ta σ H fun x H1=>∃ a C dx fs v,x=.ref a∧H1 a=some (.ins C dx fs)∧Cls K C∧d9 K C f∧fs.lookup f=some v∧Q v H1
def Bm (K:Fg) (ta tv:TE) (f:Str):TS:=fun D σ H=>tv σ H fun y H1=>ta σ H1 fun x H2=>∃ a C dx fs,x=.ref a∧H2 a=some (.ins C dx fs)∧Cls K C∧d9 K C f∧fs.length<1000 ∧
  D.nx σ (upd H2 a (.ins C dx (eS f y fs)))
section
variable {X:Cx} {o e value:Expr} {f:Str} {pos pos' tpos:Pos} {ta tv:TE}
theorem lK (he:PE X e ta) (hb:attributeBase e f X.env (eval e X.env)=eval e X.env):PE X (.Attribute e f pos) (B3 X.K ta f):=by
 intro pins s σ H Q I h;refine uq hb (thn (he pins s σ H _ I h) fun u s1 zy57=>?_);obtain⟨x,H1,I1,rx,a,C,dx,fs,v,ex,ea,c,n,l,q⟩:=zy57;subst ex;obtain rfl:u=Value.ref a:=rx;exact lY I1 ea c n l fun u' s2 I2 ru=>⟨v,H1,I2,ru,q⟩
theorem qu (ha:PE X o ta) (hv:PE X value tv) (hs:swapsWith value (some (.Attribute o f pos')) pos.line X.env=pure false):PS X (.Assign [.Attribute o f pos'] value pos) (Bm X.K ta tv f):=by
 intro pins s σ H D I h;refine plainObj_wpAny_Assign_Attribute (thn (hv pins s σ H _ I h) fun u s1 zy59=>?_) hs;obtain⟨y,H1,I1,ry,q⟩:=zy59;refine thn (ha pins s1 σ H1 _ I1 q) fun ov s2 zy60=>?_;obtain⟨x,H2,I2,rx,a,C,dx,fs,ex,ea,c,n,l,q2⟩:=zy60;subst ex;obtain rfl:ov=Value.ref a:=rx;exact lF I2 ea c n l ry fun s3 I3=>⟨σ,_,I3,q2⟩
end
section
variable {X:Cx} {pins:AOs} {σ:St} {H:Hp} {s:Shared} {A:Around} {E:VSP} {Q:VSP} {c:Value} {b:Bool}
inductive gU (K:Fg) (H:Hp):V→Value→Prop where
  | non:gU K H .non (.type "NoneType")
  | bl (x:Bool):gU K H (.bl x) (.type "bool")
  | int (i:Int):gU K H (.int i) (.type "int")
  | str (x:Str):gU K H (.str x) (.type "str")
  | flt (x:UInt64):gU K H (.flt x) (.type "float")
  | lst {a:Addr} {xs:List V} (e:H a=some (.lst xs)):gU K H (.ref a) (.type "list")
  | frz {a:Addr} {o:Obj} {xs:List V} (e:H a=some (.frz o (.lst xs))):gU K H (.ref a) (.type "list")
  | tup {a:Addr} {xs:List V} (e:H a=some (.tup xs)):gU K H (.ref a) (.type "tuple")
  | dK {a:Addr} {kvs:List (Key×V)} (e:H a=some (.dK kvs)):gU K H (.ref a) (.type "dict")
  | dT {a:Addr} {kvs:List (List Key×V)} (e:H a=some (.dT kvs)):gU K H (.ref a) (.type "dict")
  | ins {a C dx:Addr} {fs:List (Str×V)} (e:H a=some (.ins C dx fs)) (cl:Cls K C) (ha:PySem.W.findIn K (.ref C) "__class__"=some (some (.builtin "object.__class__")))
      (hn:PySem.W.specialIn K (.builtin "object.__class__") "__get__"=some (some (.builtin "getset_descriptor.__get__"))) (htk:PySem.W.takesIn K (.builtin "object.__class__")=some true)
      (hm:PySem.W.mroIn K C (.type "object")=some true):gU K H (.ref a) (.ref C)
theorem gy {x:V} {u t:Value} (I:Inv X pins σ H s) (rx:aG x u) (ty:gU X.K H x t) (e:PySem.W.kitOne X.K t c=some b) (h:∀ tk,Q (.bool b) {s with toks:=tk}) :
 wpAny (model X.prog X.w) A (call (.builtin "isinstance") [u,c]) Q E s:=by
 cases ty with
 | non=>cases (show u=Value.none from rx);exact PySem.W.kia_one PySem.W.kitx_none I.kIn True.intro e (fun z=>nomatch z) h
 | bl y=>cases (show u=Value.bool y from rx);exact PySem.W.kia_one PySem.W.kitx_bool I.kIn True.intro e (fun z=>nomatch z) h
 | int i=>obtain⟨t,q⟩:=(show ∃ t,u=Value.int i t from rx);cases q;exact PySem.W.kia_one PySem.W.kitx_int I.kIn True.intro e (fun z=>nomatch z) h
 | str y=>obtain⟨t,q⟩:=(show ∃ t,u=Value.str y t from rx);cases q;exact PySem.W.kia_one PySem.W.kitx_str I.kIn True.intro e (fun z=>nomatch z) h
 | flt y=>obtain⟨t,q⟩:=(show ∃ t,u=Value.float y t from rx);cases q;exact PySem.W.kia_one PySem.W.kitx_float I.kIn True.intro e (fun z=>nomatch z) h
 | @lst a xs ea =>
  cases (show u=Value.ref a from rx);obtain⟨_,_,n,_,h1⟩:=(show bm X.prog X.w H s.heap a (.lst xs) from I.hok a _ ea);exact PySem.W.kia_one PySem.W.kitx_list I.kIn ⟨_,h1,rfl⟩ e (fun z=>nomatch z) h
 | @frz a ob xs ea =>
  cases (show u=Value.ref a from rx);obtain⟨_,_,_,n,_,h1⟩:=(show bm X.prog X.w H s.heap a (.frz ob (.lst xs)) from I.hok a _ ea);exact PySem.W.kia_one PySem.W.kitx_list I.kIn ⟨_,h1,rfl⟩ e (fun z=>nomatch z) h
 | @tup a xs ea =>
  cases (show u=Value.ref a from rx);obtain⟨_,_,_,p⟩:=(show bm X.prog X.w H s.heap a (.tup xs) from I.hok a _ ea);obtain⟨o,h1,h2,_⟩:=p;exact PySem.W.kia_one PySem.W.kitx_tuple I.kIn ⟨o,h1,h2⟩ e (fun z=>nomatch z) h
 | @dK a kvs ea =>
  cases (show u=Value.ref a from rx);obtain⟨_,_,vs,_,p⟩:=(show bm X.prog X.w H s.heap a (.dK kvs) from I.hok a _ ea);obtain⟨o,es,ep,h1,h2,_⟩:=p;exact PySem.W.kia_one PySem.W.kitx_dict I.kIn ⟨o,h1,h2.1⟩ e (fun z=>nomatch z) h
 | @dT a kvs ea =>
  cases (show u=Value.ref a from rx);obtain⟨_,_,xs,_,o,es,ep,h1,h2,_⟩:=(show bm X.prog X.w H s.heap a (.dT kvs) from I.hok a _ ea);exact PySem.W.kia_one PySem.W.kitx_dict I.kIn ⟨o,h1,h2.1⟩ e (fun z=>nomatch z) h
 | @ins a C dx fs ea cl ha hn htk hm =>
  cases (show u=Value.ref a from rx);obtain⟨mA,O,_⟩:=i9 I.hok ea;obtain⟨od,J,_⟩:=O.look;exact PySem.W.kia_one (PySem.W.kitx_own (cl.get _) cl.hd ha hn htk hm) I.kIn J e (fun z=>nomatch z) h
end
structure bO (k:Nat) (A:Around):Prop where
  hd:A.handled=none
  dp:A.depth+3*k+5<recursionLimit
  un:A.units+16*k+200<cLine
  gd:A.guards=some []
theorem bO.mono {j k:Nat} {A:Around} (r:bO k A) (h:j≤k):bO j A:=⟨r.hd,by have:=r.dp;lia,by have:=r.un;lia,r.gd⟩
theorem bO.deeper {k:Nat} {A:Around} (r:bO (k+1) A) (env:Env):bO k (A.deeper env) :=
 ⟨r.hd,by have:=r.dp;show A.depth+1+3*k+5<_;lia,by have:=r.un;show A.units+3+16*k+200<_;lia,r.gd⟩
theorem lT {A:Around} {C:Addr} {us:List Value} {kw:List (Str×Value)}:(A.under (.builtin "type.__call__" ⟨.ref C::us,kw⟩)).depth=A.depth+1:=by
 first | rfl | simp[Around.under,Code.weight,Code.isCreation,Code.isGuard,Code.isCaller,Code.frames,Code.isFrame,guardIds]
theorem lR {A:Around} {C:Addr} {us:List Value} {kw:List (Str×Value)}:(A.under (.builtin "type.__call__" ⟨.ref C::us,kw⟩)).units=A.units+1:=by
 first | rfl | simp[Around.under,Code.cUnits,Code.frames,Code.isFrame]
theorem bO.make {k:Nat} {A:Around} (r:bO (k+1) A) (C:Addr) (us:List Value) (kw:List (Str×Value)):bO k (A.under (.builtin "type.__call__" ⟨.ref C::us,kw⟩)) :=
 ⟨r.hd,by have:=r.dp;rw[lT];lia,by have:=r.un;rw[lR];lia,by first | exact r.gd | (show pushGuards _ A.guards=_;rw[r.gd];rfl)⟩
theorem bO.depth {k:Nat} {A:Around} (r:bO k A):A.depth<recursionLimit:=by have:=r.dp;lia
theorem bO.units {k:Nat} {A:Around} (r:bO k A):A.units+64<cLine:=by have:=r.un;lia
def ii:TA:=fun _ H Q=>Q [] H
def cb (ta:TE) (tr:TA):TA:=fun σ H Q=>ta σ H fun x H1=>tr σ H1 fun xs H2=>Q (x::xs) H2
section
variable {X:Cx} {e:Expr} {es:List Expr} {te:TE} {t:TA} {pos:Pos}
theorem pB:PA X [] ii:=fun _ _ _ _ H Q I h=>Calls.spliced_nil ⟨[],H,I,.nil,h⟩
theorem pA (ha:PE X e te) (hr:PA X es t) (hs:starEach (e::es) X.env=(false,eval e X.env)::starEach es X.env:=by rfl):PA X (e::es) (cb te t):=by
 intro pos pins s σ H Q I h;rw[hs];show wpAny _ _ (spliced ((false,eval e X.env)::backTo pos (starEach es X.env))) _ _ s;refine Calls.spliced_cons (thn (ha pins s σ H _ I h) fun u s1 zy65=>?_);obtain⟨x,H1,I1,r1,q1⟩:=zy65;refine thn (hr pos pins s1 σ H1 _ I1 q1) fun us s2 zy66=>?_;obtain⟨xs,H2,I2,r2,q2⟩:=zy66;exact⟨x::xs,H2,I2,.cons r1 r2,q2⟩
def sr (t:TA):TE:=fun σ H Q=>t σ H fun xs H1=>xs.length≤sizeLine∧∀ p,H1 p=none→Q (.ref p) (upd H1 p (.tup xs))
def su (t:TA):TE:=fun σ H Q=>t σ H fun xs H1=>xs.length≤sizeLine∧∀ p,H1 p=none→Q (.ref p) (upd H1 p (.lst xs))
theorem ag {x1} (h:PA X es t):PE X (.Tuple es x1 pos) (sr t):=by
 intro pins s σ H Q I hq;refine wpAny_Tuple_spliced (thn (h pos pins s σ H _ I hq) fun us s1 ⟨xs,H1,I1,r,z,q⟩=>⟨by rw[← r.length];exact z,?_⟩);have hf:H1 s1.heap.objs.size=none:=I1.hok.fresh (Nat.le_refl _);refine⟨.ref s1.heap.objs.size,upd H1 s1.heap.objs.size (.tup xs),I1.laid (t':=s1.toks) (fun b u e=>hpS _ e) (Nat.le_refl _) ?_,rfl,q _ hf⟩;exact⟨z,us,r,⟨_,Heap.get?_push_size _ rfl,rfl,_,rfl⟩⟩
theorem aM (h:PA X es t):PE X (.List es pos) (su t):=by
 intro pins s σ H Q I hq;refine wpAny_List_spliced (thn (h pos pins s σ H _ I hq) fun us s1 ⟨xs,H1,I1,r,z,q⟩=>⟨by rw[← r.length];exact z,?_⟩);have hf:H1 s1.heap.objs.size=none:=I1.hok.fresh (Nat.le_refl _);refine⟨.ref s1.heap.objs.size,upd H1 s1.heap.objs.size (.lst xs),I1.laid (t':=s1.toks) (fun b u e=>hpS _ e) (Nat.le_refl _) ?_,rfl,q _ hf⟩;exact⟨z,us,0,r,Heap.get?_push_size _ rfl⟩
end
abbrev Sp:=List V→Hp→VK→XK→Prop
abbrev CXT:=List Env→Hp→Shared→XK→Value→Shared→Prop
structure mG (P:Program) (w:World) (K:Fg) (mg:SOV) (base:Heap) (A:Around) (outer:List Env) (s:Shared) (H:Hp):Prop where
  frames:A.frames=some outer
  mod:Mod K mg base
  bs:∀ b o,base.get? b=some o→s.heap.get? b=some o∧H b=none
  bsz:base.objs.size≤s.heap.objs.size
  funs:s.heap.FunFrames base outer
  frf:∀ b∈frs outer,H b=none
  hok:HOk P w H s.heap
  bare:AllBare s.gens
def CE (outer:List Env) (P:Program) (w:World) (H:Hp) (s:Shared) (Q:VK) (u:Value) (s':Shared):Prop :=
  ∃ v H',s'.os=s.os∧AllBare s'.gens∧Un (frs outer) [] H H' s.heap s'.heap∧HOk P w H' s'.heap∧aG v u∧Q v H'
def CR (CX:CXT) (outer:List Env) (P:Program) (w:World) (H:Hp) (s:Shared) (Q:VK) (E:XK) (r:Result) (s':Shared):Prop :=
  match r with
  | .ok (.ret u)=>CE outer P w H s Q u s'
  | .ok _=>False
  | .error e=>CX outer H s E e s'
structure fB (P:Program) (w:World) (K:Fg) (mg:SOV) (base:Heap) (CX:CXT) (k:Nat) (f:Addr) (fd:FuncData) (ps:List Str) (sp:Sp):Prop where
  len:∀ vs H Q E,sp vs H Q E→vs.length=ps.length
  run:∀ (A:Around) (outer:List Env) (s:Shared) (H:Hp) (args:Args) (us:List Value) (vs:List V) (Q:VK) (E:XK),bO k A→mG P w K mg base A outer s H→BindsTo s fd args (ps.zip us)→aD vs us→sp vs H Q E →
    codeAny (model P w) A (.call (.ref f) args) (CR CX outer P w H s Q E) s
theorem mG.make {P:Program} {w:World} {K:Fg} {mg:SOV} {base:Heap} {A:Around} {outer:List Env} {s:Shared} {H:Hp} (e:mG P w K mg base A outer s H) (C:Addr) (us:List Value) (kw:List (Str×Value)) :
 mG P w K mg base (A.under (.builtin "type.__call__" ⟨.ref C::us,kw⟩)) outer s H:=⟨by first | exact e.frames | (simpa [Around.under,Code.envs,Code.isFrame,pushEnvs] using e.frames),e.mod,e.bs,e.bsz,e.funs,e.frf,e.hok,e.bare⟩
section
variable {X:Cx} {pins:AOs} {σ:St} {H:Hp} {s s':Shared}
theorem Inv.env0 (I:Inv X pins σ H s):mG X.prog X.w X.K X.mg X.base X.A X.stack s H :=
 ⟨I.ok.frames,I.ok.mod,I.bs,Nat.le_trans I.ok.bsz I.sz,I.stack,I.stkFree,I.hok,I.bare⟩
theorem Inv.after {Q:VK} {u:Value} (I:Inv X pins σ H s) (h:CE X.stack X.prog X.w H s Q u s'):EP X pins σ Q u s':=by
 obtain⟨v,H',os,bare,un,hok,r,q⟩:=h;obtain⟨hh,g,d,t,os'⟩:=s';obtain rfl:os'=s.os:=os;exact⟨v,H',I.call (h':=hh) (g':=g) (d':=d) (t':=t) (ch:=[]) un hok bare (fun b z=>absurd z (by simp)),r,q⟩
end
def ij (sp:Sp) (dvs:List V) (E:XK) (t:TA):TE:=fun σ H Q=>t σ H fun vs H1=>sp (vs++dvs) H1 Q E
def uG (C:Addr) (m:Str) (sp:Sp) (dvs:List V) (E:XK) (ta:TE) (t:TA):TE:=fun σ H Q=>ta σ H fun x H1=>∃ a dx fs,x=.ref a∧H1 a=some (.ins C dx fs)∧fs.lookup m=none ∧
  t σ H1 fun vs H2=>sp (x::(vs++dvs)) H2 Q E
def uH (C:Addr) (sp:Sp) (dvs:List V) (E:XK) (t:TA):TE:=fun σ H Q=>t σ H fun vs H1=>∀ x dx,H1 x=none→H1 dx=none→dx≠x →
  sp (.ref x::(vs++dvs)) (upd (upd H1 dx (.own x)) x (.ins C dx [])) (fun v H2=>v=.non∧Q (.ref x) H2) E
def eC (K:Fg) (fd:FuncData) (ps:List Str) (ds:List Value):Prop :=
  ∀ (s:Shared) (us:List Value),K.In s.heap→(us++ds).length=ps.length→BindsTo s fd ⟨us,[]⟩ (ps.zip (us++ds))
theorem eC.all {K:Fg} {fd:FuncData} {ps:List Str} (h:∀ us:List Value,us.length=ps.length→bindArgs fd ⟨us,[]⟩=pure (ps.zip us)):eC K fd ps []:=fun s us _ hl=>by
 rw[List.append_nil] at hl ⊢;exact .of_eq (h us hl)
def gB (CX:CXT) (X:Cx) (E:XK):Prop:=∀ (pins:AOs) (σ:St) (H:Hp) (s:Shared) (e:Value) (s':Shared),Inv X pins σ H s→CX X.stack H s E e s'→X.xe e s'
section
variable {X:Cx} {CX:CXT} {k:Nat} {f C:Addr} {fd:FuncData} {ps:List Str} {sp:Sp} {dvs:List V} {ds:List Value} {E:XK} {x m:Str} {p pos apos:Pos} {e o:Expr} {es:List Expr} {ta:TE} {t:TA}
theorem qg {pins:AOs} {σ:St} {H:Hp} {s:Shared} {Q:VK} {us:List Value} {vs:List V} (F:fB X.prog X.w X.K X.mg X.base CX k f fd ps sp) (hr:bO k X.A) (hb:eC X.K fd ps ds) (hd:aD dvs ds) (hx:gB CX X E)
 (I:Inv X pins σ H s) (r:aD vs us) (h:sp (vs++dvs) H Q E):wpAny (model X.prog X.w) X.A (call (.ref f) us) (EP X pins σ Q) X.xe s:=by
 have r2:aD (vs++dvs) (us++ds):=r.append hd;have hl:(us++ds).length=ps.length:=by rw[← r2.length];exact F.len _ _ _ _ h
 refine wpAny_call (codeAny_mono (F.run X.A X.stack s H ⟨us,[]⟩ (us++ds) (vs++dvs) Q E hr I.env0 (hb s us I.kIn hl) r2 h) fun r s' hq=>?_);cases r with
 | error e=>exact hx pins σ H s e s' I hq
 | ok fl =>
  cases fl with
  | ret u=>exact I.after hq
  | next=>exact False.elim hq
  | brk=>exact False.elim hq
  | cont=>exact False.elim hq
theorem tJ (F:fB X.prog X.w X.K X.mg X.base CX k f fd ps sp) (hr:bO k X.A) (hg:Gl X x) (hm:X.mg x=some (.ref f)) (hk:PySem.W.keepIn X.K (.ref f)=true) (hb:eC X.K fd ps ds) (hd:aD dvs ds) (hx:gB CX X E)
 (ha:PA X (e::es) t) (hdb:(x==("__debug__":Str))=false:=by decide) (he:starEach (e::es) X.env=(false,eval e X.env)::starEach es X.env:=by rfl) (hpl:(backTo pos (starEach es X.env)).any (·.1)=false:=by rfl) :
 PE X (.Call (.Name x p) (e::es) [] pos) (ij sp dvs E t):=by
 intro pins s σ H Q I h;refine wpAny_Call_Name_kw (jL I hg hm ?_ hdb);refine PySem.W.callWith_K (h₀:=X.base) I.ok.mod.kin hk (thn (ha pos pins s σ H _ I h) fun us s1 zy67=>?_) he hpl;obtain⟨vs,H1,I1,r,q⟩:=zy67;refine⟨I1.kIn,?_⟩;exact qg F hr hb hd hx I1 r q
theorem tE {pl:Sem Bool} (he:PE X o ta) (c:Cls X.K C) (hm:uv X.K C m f) (F:fB X.prog X.w X.K X.mg X.base CX k f fd ps sp) (hr:bO k X.A) (hb:eC X.K fd ps ds) (hd:aD dvs ds) (hx:gB CX X E) (ha:PA X (e::es) t)
 (hst:starEach (e::es) X.env=(false,eval e X.env)::starEach es X.env:=by rfl) (hpl:(backTo pos (starEach es X.env)).any (·.1)=false:=by rfl)
 (ht:eval (.Call (.Attribute o m apos) (e::es) [] pos) X.env=(do
   let ov ← eval o X.env
   standAt apos.atName
   let (f,first) ← holding [ov] (getMethod ov m pl)
   callWith pos f first (backTo pos (starEach (e::es) X.env)) (backToKw pos (keywordEach [] X.env))):=by rfl) :
 PE X (.Call (.Attribute o m apos) (e::es) [] pos) (uG C m sp dvs E ta t):=by
 intro pins s σ H Q I h;refine PySem.W.methodCall_KW (pl:=pl) (thn (he pins s σ H _ I h) fun u s1 zy68=>?_) ht;obtain⟨x,H1,I1,rx,a,dx,fs,ex,ea,l,q⟩:=zy68;subst ex;obtain rfl:u=Value.ref a:=rx;refine lX I1 ea c hm l ?_;refine PySem.W.callWith_K (first:=[.ref a]) (h₀:=X.base) I.ok.mod.kin hm.kp (thn (ha pos pins s1 σ H1 _ I1 q) fun us s2 zy69=>?_) hst hpl;obtain⟨vs,H2,I2,r,q2⟩:=zy69;refine⟨I2.kIn,?_⟩;exact qg (us:=.ref a::us) (vs:=.ref a::vs) F hr hb hd hx I2 (.cons rfl r) q2
structure Mk (K:Fg) (C f:Addr):Prop where
  makes:PySem.W.makesIn K C=true
  init:PySem.W.findIn K (.ref C) "__init__"=some (some (.ref f))
  fn:PySem.W.isFn K (.ref f)=true
  kp:PySem.W.keepIn K (.ref C)=true
theorem qf {pins:AOs} {σ:St} {H:Hp} {s:Shared} {Q:VK} {us:List Value} {vs:List V} (M:Mk X.K C f) (F:fB X.prog X.w X.K X.mg X.base CX k f fd ps sp) (hr:bO (k+1) X.A) (hb:eC X.K fd ps ds) (hd:aD dvs ds)
 (hx:gB CX X E) (I:Inv X pins σ H s) (r:aD vs us)
 (h:∀ x dx,H x=none→H dx=none→dx≠x→sp (.ref x::(vs++dvs)) (upd (upd H dx (.own x)) x (.ins C dx [])) (fun v H2=>v=.non∧Q (.ref x) H2) E) :
 wpAny (model X.prog X.w) X.A (call (.ref C) us) (EP X pins σ Q) X.xe s:=by
 have hq:=h (s.heap.objs.size+1) s.heap.objs.size (I.hok.fresh (Nat.le_succ _)) (I.hok.fresh (Nat.le_refl _)) (Nat.ne_of_lt (Nat.lt_succ_self _));have I2:=Inv.made (C:=C) I;have r2:aD (V.ref (s.heap.objs.size+1)::(vs++dvs)) (Value.ref (s.heap.objs.size+1)::(us++ds)):=.cons rfl (r.append hd);have hl:(Value.ref (s.heap.objs.size+1)::us++ds).length=ps.length:=by
  have e:=r2.length;rw[F.len _ _ _ _ hq] at e;exact e.symm
 refine wpAny_call (qO (f:=f) I.kIn M.makes M.init (beq_iff_eq.mp M.fn) (codeAny_mono (F.run _ X.stack _ _ ⟨Value.ref (s.heap.objs.size+1)::us,[]⟩ (Value.ref (s.heap.objs.size+1)::(us++ds)) _ _ E (hr.make C us [])
   (I2.env0.make C us []) (hb _ (Value.ref (s.heap.objs.size+1)::us) I2.kIn hl) r2 hq) fun r s' hq'=>?_))
 cases r with
 | error e=>exact hx pins σ _ _ e s' I2 hq'
 | ok fl =>
  cases fl with
  | ret u =>
   obtain⟨v,H',I3,rv,ev,q3⟩:=I2.after hq';subst ev;exact⟨rv,⟨V.ref (s.heap.objs.size+1),H',I3,rfl,q3⟩⟩
  | next=>exact False.elim hq'
  | brk=>exact False.elim hq'
  | cont=>exact False.elim hq'
theorem tG (M:Mk X.K C f) (F:fB X.prog X.w X.K X.mg X.base CX k f fd ps sp) (hr:bO (k+1) X.A) (hg:Gl X x) (hm:X.mg x=some (.ref C)) (hb:eC X.K fd ps ds) (hd:aD dvs ds) (hx:gB CX X E)
 (ha:PA X (e::es) t) (hdb:(x==("__debug__":Str))=false:=by decide) (he:starEach (e::es) X.env=(false,eval e X.env)::starEach es X.env:=by rfl) (hpl:(backTo pos (starEach es X.env)).any (·.1)=false:=by rfl) :
 PE X (.Call (.Name x p) (e::es) [] pos) (uH C sp dvs E t):=by
 intro pins s σ H Q I h;refine wpAny_Call_Name_kw (jL I hg hm ?_ hdb);refine PySem.W.callWith_K (h₀:=X.base) I.ok.mod.kin M.kp (thn (ha pos pins s σ H _ I h) fun us s1 zy71=>?_) he hpl;obtain⟨vs,H1,I1,r,q⟩:=zy71;refine⟨I1.kIn,?_⟩;exact qf M F hr hb hd hx I1 r q
end
section
variable {X:Cx} {CX:CXT} {k:Nat} {f C:Addr} {fd:FuncData} {ps ks:List Str} {sp:Sp} {E:XK} {x m:Str} {p pos apos kpos:Pos} {e o:Expr} {es:List Expr} {kws:List Keyword} {te ta:TE} {t tk:TA} {nm:Option Str}
variable {g:List Value→List Value→List Value} {gV:List V→List V→List V}
end
structure am (N P:List Str) (sc:Scope):Prop where
  kind:sc.kind=.function
  co:sc.isCoroutine=false
  gen:sc.isGenerator=false
  nd:N.Nodup
  pre:N.take P.length=P
  par:∀ x∈P,sc.names.lookup x=some .local∨sc.names.lookup x=some .cell
  nofree:∀ y∈sc.names,y.2≠.free
theorem fsM {N P:List Str} {sc:Scope} (a:sc.kind=.function:=by rfl) (b:sc.isCoroutine=false:=by rfl) (c:sc.isGenerator=false:=by rfl) (d:N.Nodup:=by decide +kernel) (e:N.take P.length=P:=by rfl) (f:∀ x∈P,sc.names.lookup x=some .local∨sc.names.lookup x=some .cell:=by decide +kernel) (g:∀ y∈sc.names,y.2≠.free:=by decide +kernel):am N P sc:=⟨a,b,c,d,e,f,g⟩
theorem jl {kindOf:Str→Option NameKind} {x:Str}:∀ {binds:List (Str×Value)} {m:SOV},(∀ v,(x,v)∉binds)→bindL kindOf binds m x=m x
 | [],_,_=>rfl
 | (n,v)::r,m,h=>by
  unfold bindL;rw[jl fun w hw=>h w (mCM _ hw)];split
  · have:x≠n:=by rintro rfl;exact h v mCS
    simp[this]
  · rfl
theorem jn {kindOf:Str→Option NameKind} {x:Str}:∀ {binds:List (Str×Value)} {m:SOV},(∀ v,(x,v)∉binds)→bindC kindOf binds m x=m x
 | [],_,_=>rfl
 | (n,v)::r,m,h=>by
  unfold bindC;rw[jn fun w hw=>h w (mCM _ hw)];split
  · rfl
  · have:x≠n:=by rintro rfl;exact h v mCS
    simp[this]
theorem jm {kindOf:Str→Option NameKind} {x:Str} {v:Value}:∀ {P:List Str} {vs:List Value} {i:Nat} {m:SOV},P.Nodup→P[i]?=some x→vs[i]?=some v→kindOf x=some .local →
 bindL kindOf (P.zip vs) m x=some v
 | [],_,_,_,_,h,_,_=>by simp at h
 | _::_,[],_,_,_,_,h,_=>by simp at h
 | p::P,w::vs,0,m,nd,h1,h2,hk=>by
  simp at h1 h2;subst h1;subst h2;show bindL kindOf ((p,w)::P.zip vs) m p=_;unfold bindL;rw[jl fun v hv=>(List.nodup_cons.mp nd).1 (List.of_mem_zip hv).1,if_pos hk];simp
 | p::P,w::vs,i+1,m,nd,h1,h2,hk=>by
  show bindL kindOf ((p,w)::P.zip vs) m x=_;unfold bindL;exact jm (i:=i) (List.nodup_cons.mp nd).2 (by simpa using h1) (by simpa using h2) hk
theorem jo {kindOf:Str→Option NameKind} {x:Str} {v:Value}:∀ {P:List Str} {vs:List Value} {i:Nat} {m:SOV},P.Nodup→P[i]?=some x→vs[i]?=some v→kindOf x≠some .local →
 bindC kindOf (P.zip vs) m x=some v
 | [],_,_,_,_,h,_,_=>by simp at h
 | _::_,[],_,_,_,_,h,_=>by simp at h
 | p::P,w::vs,0,m,nd,h1,h2,hk=>by
  simp at h1 h2;subst h1;subst h2;show bindC kindOf ((p,w)::P.zip vs) m p=_;unfold bindC;rw[jn fun v hv=>(List.nodup_cons.mp nd).1 (List.of_mem_zip hv).1,if_neg hk];simp
 | p::P,w::vs,i+1,m,nd,h1,h2,hk=>by
  show bindC kindOf ((p,w)::P.zip vs) m x=_;unfold bindC;exact jo (i:=i) (List.nodup_cons.mp nd).2 (by simpa using h1) (by simpa using h2) hk
def dB (N:List Str) (vs:List V):St:=vs.map some++List.replicate (N.length-vs.length) none
def be (CX:CXT) (P:Program) (w:World) (K:Fg) (mg:SOV) (base:Heap) (N:List Str) (qual:Str) (scope:Scope) (f:Addr) (cd:Value) (A:Around) (outer:List Env) (s:Shared) (H:Hp) (E:XK):Cx where
  prog:=P
  w:=w
  K:=K
  mg:=mg
  base:=base
  A:=A.deeper (envOfC qual scope s.heap.objs.size f cd)
  N:=N
  s₀:=s
  H₀:=H
  env:=envOfC qual scope s.heap.objs.size f cd
  outer:=outer
  stack:=envOfC qual scope s.heap.objs.size f cd::outer
  ex:=[]
  calm:=true
  fn:=fun _=>true
  pn:=[]
  xe:=fun e s'=>wpAny (model P w) (A.deeper (envOfC qual scope s.heap.objs.size f cd)) (leaving (envOfC qual scope s.heap.objs.size f cd) e) (fun _ s''=>CX outer H s E e s'') (fun e' s''=>CX outer H s E e' s'') s'
theorem kY {sc:Scope} {n:Nat} {x:Str} (h:sc.names.lookup x=some .cell):∃ c,(cellsFrom n sc.names []).lookup x=some c:=by
 have q:=PySem.W.cellsFrom_some sc.names n [] (.inl h);exact Option.isSome_iff_exists.mp q
theorem oB {CX:CXT} {P:Program} {w:World} {K:Fg} {mg:SOV} {base:Heap} {N ps:List Str} {qual:Str} {scope:Scope} {f:Addr} {cd:Value} {A:Around} {outer:List Env} {s s1:Shared} {H:Hp} {E:XK} {us:List Value} {vs:List V}
 (S:am N ps scope) (hd:A.handled=none) (e0:mG P w K mg base A outer s H) (hl:vs.length=ps.length) (r:aD vs us)
 (x:InCallC s s.heap.objs.size (bindL (envOfC qual scope s.heap.objs.size f cd).kindOf (ps.zip us) fun _=>none) (cellsFrom (s.heap.objs.size+1) scope.names []) (bindC (envOfC qual scope s.heap.objs.size f cd).kindOf (ps.zip us) fun _=>none) s1) :
 Inv (be CX P w K mg base N qual scope f cd A outer s H E) [] (dB N vs) H s1:=by
 have hpl:ps.length≤N.length:=by have:=congrArg List.length S.pre;rw[lTk] at this;lia
 obtain⟨h1,tk,rfl,hk⟩:=x.done;have noA:∀ b:Addr,b∉(be CX P w K mg base N qual scope f cd A outer s H E).ex:=fun b z=>absurd (show b∈([]:List Addr) from z) (by simp);refine⟨⟨e0.mod,S.kind,rfl,rfl,Nat.le_refl _,fun y z c h1 h2=>?_,fun y hy=>?_,fun y c _ h=>?_,fun _=>hd,Around.frames_deeper e0.frames,.inr ⟨rfl,rfl⟩,fun b z=>absurd z (noA b),e0.bs,e0.bsz,fun b _ _=>noA b,fun b z=>absurd z (noA b),e0.funs,e0.frf⟩,
   rfl,e0.bare,Un.kept hk,⟨_,x.toInCall.ns,fun i y v h1 h2 h3=>?_⟩,fun y c h=>⟨_,x.cell y c h⟩,e0.hok.fresh (Nat.le_refl _),fun y c h=>?_,fun p hp=>absurd (show p∈([]:AOs) from hp) (by simp),e0.hok.kept hk,?_⟩
 · exact name_of_addr x.apart (PySem.mem_of_lookup h1) (PySem.mem_of_lookup h2)
 · have hy:scope.names.lookup y=some .cell∨scope.names.lookup y=some .free:=hy
   rcases hy with hy | hy
   · exact kY hy
   · exact absurd rfl (S.nofree _ (PySem.mem_of_lookup hy))
 · exact Nat.le_of_lt (x.above y c (PySem.mem_of_lookup h))
 · have hi:i<vs.length:=by
    unfold dB at h2;by_cases hi:i<vs.length
    · exact hi
    · rw[List.getElem?_append_right (by simpa using hi)] at h2;rw[List.getElem?_replicate] at h2;split at h2 <;> cases h2
   have ha:vs[i]?=some v:=by
    unfold dB at h2;rw[List.getElem?_append_left (by simpa using hi),gEM] at h2;cases e:vs[i]? with
    | none=>rw[e] at h2;cases h2
    | some a=>rw[e] at h2;cases h2;rfl
   obtain⟨u,hu,rv⟩:=r.get ha;have hp:ps[i]?=some y:=by
    rw[← S.pre,List.getElem?_take_of_lt (by lia)];exact h1
   have ndP:ps.Nodup:=by rw[← S.pre];exact S.nd.sublist (List.take_sublist _ _)
   refine⟨u,rv,?_⟩
   rcases S.par y (mGE hp) with k | k
   · exact .inl ⟨k,jm ndP hp hu k⟩
   · obtain⟨c,e⟩:=kY (n:=s.heap.objs.size+1) k;refine .inr ⟨.inl k,c,e,?_⟩;have q:=x.cell y c e;rw[jo ndP hp hu (by show scope.names.lookup y≠_;rw[k];decide)] at q;exact q
 · exact e0.hok.fresh (Nat.le_of_lt (x.above y c (PySem.mem_of_lookup h)))
 · unfold dB;show _=N.length;rw[lAp,lMp,List.length_replicate];lia
theorem Ay {CX:CXT} {P:Program} {w:World} {K:Fg} {mg:SOV} {base:Heap} {k:Nat} {f:Addr} {name qual:Str} {params:Arguments} {body:List Stmt} {scope:Scope} {dV kV doc pm cdv ct oc:Value} {an od:Option Addr}
 {osl:Array (Option Value)} {N ps:List Str} {sp:Sp} (lk:K.lookup f=some ⟨oc,od,.func (PySem.W.fnOf name qual params body scope dV kV doc pm an cdv ct),osl⟩) (hcd:PySem.W.codeIn K cdv qual=true) (S:am N ps scope)
 (len:∀ vs H Q E,sp vs H Q E→vs.length=ps.length)
 (hbody:∀ (A:Around) (outer:List Env) (s:Shared) (H:Hp) (vs:List V) (Q:VK) (E:XK),bO k (A.deeper (envOfC qual scope s.heap.objs.size f cdv))→sp vs H Q E →
   ∃ t,PSs (be CX P w K mg base N qual scope f cdv A outer s H E) body t∧t {nx:=fun _ H'=>Q .non H',rt:=Q} (dB N vs) H) :
 fB P w K mg base CX (k+1) f (PySem.W.fnOf name qual params body scope dV kV doc pm an cdv ct) ps sp:=by
 refine⟨len,fun A outer s H args us vs Q E hr e0 hb r hsp=>?_⟩;have hl:=len _ _ _ _ hsp;have KX:K.In s.heap:=e0.mod.kin.keeps fun b o e=>(e0.bs b o e).1;have lim:s.heap.NoLimit:=e0.mod.nolimit.keeps fun b o e=>(e0.bs b o e).1;have hkind:∀ y∈ps.zip us,scope.names.lookup y.1=some .local∨(scope.names.lookup y.1=some .cell∧((cellsFrom (s.heap.objs.size+1) scope.names []).lookup y.1).isSome=true):=fun ⟨n,v⟩ hy=>by
  rcases S.par n (List.of_mem_zip hy).1 with q | q
  · exact .inl q
  · exact .inr ⟨q,PySem.W.cellsFrom_some _ _ _ (.inl q)⟩
 refine codeAny_call_function hr.depth (KX _ _ lk) rfl S.co S.gen rfl (PySem.W.codeRec_of KX hcd) (hb _ _ _ _ ?_);refine wpAny_newFunctionEnv_cells S.kind hkind fun env he s1 x=>?_;subst he;refine⟨lim.keeps x.toInCall.keep,codeAny_func ?_⟩;obtain⟨t,ht,hq⟩:=hbody A outer s H vs Q E (hr.deeper _) hsp;have I:Inv (be CX P w K mg base N qual scope f cdv A outer s H E) [] (dB N vs) H s1:=oB S hr.hd e0 hl r x;refine wpAny_mono (ht [] s1 (dB N vs) H _ I hq) (fun fl s' hs=>?_) fun e s' hs=>hs;have fin:∀ {σ':St} {H':Hp} {v:V} {u:Value},Inv (be CX P w K mg base N qual scope f cdv A outer s H E) [] σ' H' s'→aG v u→Q v H'→CE outer P w H s Q u s' :=
  fun {σ' H' v u} J rv q=>⟨v,H',J.os,J.bare,J.base,J.hok,rv,q⟩
 cases fl with
 | ret u =>
  obtain⟨v,σ',H',J,rv,q⟩:=hs;exact fin J rv q
 | next =>
  obtain⟨σ',H',J,q⟩:=hs;exact fin (v:=V.non) (u:=Value.none) J rfl q
 | brk =>
  obtain⟨_,_,_,q⟩:=hs;exact False.elim q
 | cont =>
  obtain⟨_,_,_,q⟩:=hs;exact False.elim q
section
variable {X:Cx} {x:Str} {p pos:Pos} {e:Expr} {es:List Expr} {t:TA} {id T:String} {r:List V→Hp→VK→Prop}
def tCB (r:List V→Hp→VK→Prop) (t:TA):TE:=fun σ H Q=>t σ H fun vs H1=>r vs H1 Q
theorem iz (hc:fU X (.builtin id) r) (hg:Gl X x) (hm:X.mg x=none) (hv:bootBuiltins x=some (.builtin id)) (ha:PA X (e::es) t) (hn:x≠"__name__":=by decide) (hdb:(x==("__debug__":Str))=false:=by decide)
 (he:starEach (e::es) X.env=(false,eval e X.env)::starEach es X.env:=by rfl) (hpl:(backTo pos (starEach es X.env)).any (·.1)=false:=by rfl):PE X (.Call (.Name x p) (e::es) [] pos) (tCB r t):=by
 intro pins s σ H Q I h;refine wpAny_Call_Name_kw (cJ I hg hm hv ?_ hn hdb);refine PyProof.Rows.callWith_builtin1 (thn (ha pos pins s σ H _ I h) fun us s1 zy76=>?_) he hpl;obtain⟨vs,H1,I1,r1,q1⟩:=zy76;exact hc pins s1 σ H1 vs us Q I1 r1 q1
theorem eK (hc:fU X (.type T) r) (hg:Gl X x) (hm:X.mg x=none) (hv:bootBuiltins x=some (.type T)) (ha:PA X (e::es) t) (hn:x≠"__name__":=by decide) (hdb:(x==("__debug__":Str))=false:=by decide)
 (he:starEach (e::es) X.env=(false,eval e X.env)::starEach es X.env:=by rfl) (hpl:(backTo pos (starEach es X.env)).any (·.1)=false:=by rfl):PE X (.Call (.Name x p) (e::es) [] pos) (tCB r t):=by
 intro pins s σ H Q I h;refine wpAny_Call_Name_kw (cJ I hg hm hv ?_ hn hdb);refine PyProof.Rows.callWith_type1 (thn (ha pos pins s σ H _ I h) fun us s1 zy77=>?_) he hpl;obtain⟨vs,H1,I1,r1,q1⟩:=zy77;exact hc pins s1 σ H1 vs us Q I1 r1 q1
end
end L2
namespace HT
open PySem PyProof.Rows
section
open PySem.SeqAt
open PySem.AutoSeq1 (wpAny_loadPart')
open PySem.MeetsSeq PySem.MeetsSeq2 PySem.MeetsSeq3
end
section
variable {prog:Program} {w:World} {A:Around} {E:VSP} {s:Shared}
theorem uo {t b:Addr} {vs ws:List Value} {Q:VSP} (ht:IsTup s.heap t vs.toArray) (hb:IsTup s.heap b ws.toArray) (hv:vs≠[])
 (h1:ws=[]→Q (.ref t) s) (h2:ws≠[]→Q (.ref s.heap.objs.size) {s with heap:=s.heap.push {cls:=.type "tuple",data:=.seq (vs++ws).toArray}})
 (hsz:vs.length+ws.length≤sizeLine):wpAny (model prog w) A (binaryOp .Add (.ref t) (.ref b)) Q E s:=by
 obtain⟨⟨cls,dd,data,sl⟩,ho,hc,n,hd⟩:=id ht;obtain⟨⟨cls2,dd2,data2,sl2⟩,ho2,hc2,n2,hd2⟩:=id hb;simp only at hc hd hc2 hd2;subst hc hd hc2 hd2;have e:vs.toArray++ws.toArray=(vs++ws).toArray:=by simp
 by_cases hw:ws=[]
 · exact concat_meets ⟨_,ho,rfl⟩ ⟨_,ho2,rfl⟩ noFill_tuple_add seq_tuple_add PySem.F.slot_tuple_add PySem.F.entry_tuple_add (PySem.F.args_tuple_add_2 _ _)
    (tuple_addW1 t b vs.toArray ws.toArray n n2 dd dd2 sl sl2 (by simpa using hv) (by simp[hw])) ⟨ho,ho2,h1 hw⟩
 · refine concat_meets ⟨_,ho,rfl⟩ ⟨_,ho2,rfl⟩ noFill_tuple_add seq_tuple_add PySem.F.slot_tuple_add PySem.F.entry_tuple_add (PySem.F.args_tuple_add_2 _ _)
    (tuple_addW2 t b vs.toArray ws.toArray n n2 dd dd2 sl sl2 (by simpa using hv) (by simpa using hw) (by rw[List.size_toArray,List.size_toArray];exact hsz)) ⟨ho,ho2,?_⟩
   rw[e];exact h2 hw
def sIx (n d:Nat):Option Int→Nat
  | none=>d
  | some v=>if v<0 then (v+(n:Int)).toNat else min v.toNat n
theorem kC (n d:Nat):sIx n d none=d:=rfl
theorem sP (n d k:Nat):sIx n d (some (k:Int))=min k n:=by
 show (if (k:Int)<0 then ((k:Int)+(n:Int)).toNat else min (k:Int).toNat n)=min k n;rw[if_neg (by lia),Int.toNat_natCast]
theorem wD (n d:Nat) (hd:d≤n) (o:Option Int):sIx n d o≤n:=by
 cases o with
 | none=>exact hd
 | some v =>
  show (if v<0 then (v+(n:Int)).toNat else min v.toNat n)≤n;by_cases hv:v<0
  · rw[if_pos hv];lia
  · rw[if_neg hv];exact Nat.min_le_right _ _
theorem rA (v:Int) (n:Nat) (h:¬ v<0):min v (n:Int)=((min v.toNat n:Nat):Int):=by
 obtain⟨k,rfl⟩:=Int.eq_ofNat_of_zero_le (Int.not_lt.mp h);show min (k:Int) (n:Int)=((min k n:Nat):Int)
 rcases Nat.le_total k n with z | z
 · rw[Nat.min_eq_left z,Int.min_eq_left (Int.ofNat_le.mpr z)]
 · rw[Nat.min_eq_right z,Int.min_eq_right (Int.ofNat_le.mpr z)]
theorem nD (v:Int) (n d:Nat):(if v<0 then max (v+(n:Int)) 0 else min v (n:Int))=((sIx n d (some v):Nat):Int):=by
 show (if v<0 then max (v+(n:Int)) 0 else min v (n:Int))=(((if v<0 then (v+(n:Int)).toNat else min v.toNat n):Nat):Int);by_cases hv:v<0
 · simp only[if_pos hv];exact (Int.ofNat_toNat _).symm
 · simp only[if_neg hv];exact rA v n hv
theorem mn (lo hi:Option Int) (n:Nat):Builtin.Slice.sliceAdjust lo hi 1 (n:Int)=(((sIx n 0 lo:Nat):Int),((sIx n n hi:Nat):Int)):=by
 have h1:¬ ((1:Int)<0):=by lia
 unfold Builtin.Slice.sliceAdjust;simp only[h1,if_false];refine Prod.ext ?_ ?_
 · cases lo with
   | none=>rfl
   | some v=>exact nD v n 0
 · cases hi with
   | none=>rfl
   | some v=>exact nD v n n
theorem lJ (i j:Nat):Builtin.Slice.slicePlaces (i:Int) (j:Int) 1=j-i:=by
 unfold Builtin.Slice.slicePlaces;have h1:(1:Int)>0:=by lia
 simp only[h1,if_true,Int.ediv_one];split <;> lia
theorem fe {v:Value} {o:Option Int} {Q:Option Int→Shared→Prop} (p:IsPart v o) (h:Q o s):wpAny (model prog w) A (Builtin.Slice.slicePartIndex v) Q E s:=by
 cases p with
 | none=>exact slicePart_none h
 | int i t=>exact slicePart_int h
theorem di {sl:Addr} {vl vu:Value} {lo hi:Option Int} {n:Nat} {Q:Int×Int×Nat→Shared→Prop} (hs:s.heap.IsSliceOf sl vl vu .none) (pl:IsPart vl lo) (pu:IsPart vu hi)
 (h:Q (((sIx n 0 lo:Nat):Int),1,sIx n n hi-sIx n 0 lo) s):wpAny (model prog w) A (Builtin.Slice.sliceApplied (.ref sl) (pure (n:Int))) Q E s:=by
 obtain⟨os,hos,hcs,hds⟩:=id hs;unfold Builtin.Slice.sliceApplied Builtin.Slice.sliceFields;refine wB (wB (wpAny_field hos hds (x:=vl) rfl (wB (wpAny_field hos hds (x:=vu) rfl (wB (wpAny_field hos hds (x:=.none) rfl (wP ?_)))))));refine wB (slicePart_none ?_);show wpAny _ _ (if ((1:Int)==0)=true then _ else _) _ _ s;rw[if_neg (by decide)];refine wB (fe pl (wB (fe pu (wB (wP ?_)))));show wpAny _ _ (match Builtin.Slice.sliceAdjust lo hi 1 (n:Int) with | (lo,hi)=>pure (lo,(1:Int),Builtin.Slice.slicePlaces lo hi 1)) _ _ s;rw[mn lo hi n];show wpAny _ _ (pure (((sIx n 0 lo:Nat):Int),(1:Int),Builtin.Slice.slicePlaces ((sIx n 0 lo:Nat):Int) ((sIx n n hi:Nat):Int) 1)) _ _ s;rw[lJ];exact wP h
theorem qA (xs:Array Value) (i k:Nat):((List.range k).filterMap fun (m:Nat)=>xs[((i:Int)+(m:Int)*1).toNat]?).toArray=((xs.toList.drop i).take k).toArray:=by
 have e:(fun (m:Nat)=>xs[((i:Int)+(m:Int)*1).toNat]?)=fun m=>xs[i+m]?:=by
  funext m
  have:((i:Int)+(m:Int)*1).toNat=i+m:=by lia
  rw[this]
 rw[e];have:=pick_run xs i k;rw[List.filterMap_map] at this;have e2:((fun x=>xs[x]?)∘fun x=>i+x)=fun m=>xs[i+m]?:=rfl;rw[e2] at this;rw[this]
theorem fO {t sl:Addr} {ao:Array Value} {vl vu:Value} {lo hi:Option Int} {Q:VSP} (ht:IsTup s.heap t ao) (hs:s.heap.IsSliceOf sl vl vu .none) (pl:IsPart vl lo) (pu:IsPart vu hi)
 (hw:¬ (sIx ao.size 0 lo=0∧sIx ao.size ao.size hi=ao.size))
 (h:Q (.ref s.heap.objs.size) {s with heap:=s.heap.push {cls:=.type "tuple",data:=.seq ((ao.toList.drop (sIx ao.size 0 lo)).take (sIx ao.size ao.size hi-sIx ao.size 0 lo)).toArray}})
 (hsz:ao.size≤sizeLine):wpAny (model prog w) A (getItem (.ref t) (.ref sl)) Q E s:=by
 have htake:sizeOk (.seq ((ao.toList.drop (sIx ao.size 0 lo)).take (sIx ao.size ao.size hi-sIx ao.size 0 lo)).toArray):=by
  show ((ao.toList.drop (sIx ao.size 0 lo)).take (sIx ao.size ao.size hi-sIx ao.size 0 lo)).toArray.size≤sizeLine;rw[List.size_toArray,lTk,List.length_drop,Array.length_toList];exact Nat.le_trans (Nat.min_le_right _ _) (Nat.le_trans (Nat.sub_le _ _) hsz)
 have hj:sIx ao.size ao.size hi≤ao.size:=wD _ _ (Nat.le_refl _) hi;obtain⟨os,hos,hcs,hds⟩:=id hs;have hTs:s.TypeIs (.ref sl) "slice":=⟨os,hos,hcs⟩;unfold getItem
 try with_reducible refine wpAny_holding ?_
 first | refine wB (wP ?_) | skip
 refine wB (wpAny_sequenceKey ht.typeIs (by decide) ?_);refine wB (wpAny_callSpecial?_slot (name:=Str.ofString "__getitem__") ht.typeIs PyProof.Rows.slot_tuple_getitem
   (wpAny_call_entry PyProof.Rows.slot_tuple_getitem ht.typeIs entry_tuple_getitem ?_ (args_tuple_getitem _ _)))
 show wpAny _ _ (Builtin.Tuple.tupleItemsOf (.ref t)>>=_) _ _ s;refine wB (tupleItemsOf_ ht ?_);refine wB (wpAny_typeOf hTs ?_);rw[if_pos (by decide)];refine wB (di hs pl pu ?_);have hno:¬ ((((sIx ao.size 0 lo:Nat):Int)==0&&(1:Int)==1&&(sIx ao.size ao.size hi-sIx ao.size 0 lo)==ao.size)=true):=by
  intro q;rw[Bool.and_eq_true,Bool.and_eq_true] at q;have q1:((sIx ao.size 0 lo:Nat):Int)=0:=eq_of_beq q.1.1;have q2:sIx ao.size ao.size hi-sIx ao.size 0 lo=ao.size:=eq_of_beq q.2;exact hw ⟨by lia,by lia⟩
 show wpAny _ _ (if (((sIx ao.size 0 lo:Nat):Int)==0&&(1:Int)==1&&(sIx ao.size ao.size hi-sIx ao.size 0 lo)==ao.size)=true then _ else _) _ _ s;rw[if_neg hno,qA]
 first
  | exact wB (m:=Builtin.Tuple.tupleExact _) (wpAny_newObj_type (wP ⟨_,rfl,wP h⟩) htake)
  | exact wB (m:=Builtin.Tuple.tupleExact _) (wpAny_newObj_type (wB (wP (wP ⟨_,rfl,wP h⟩))) htake)
  | exact wB (wB (m:=Builtin.Tuple.tupleExact _) (wpAny_newObj_type (wP (wP ⟨_,rfl,wP h⟩)) htake))
  | exact wB (wB (m:=Builtin.Tuple.tupleExact _) (wpAny_newObj_type (wP ⟨_,rfl,wP h⟩) htake))
end
end HT
namespace L2
open PySem PySem.Spec PyProof.Rows
abbrev TO:=St→Hp→(Option Int→Hp→Prop)→Prop
def PO (X:Cx) (e:Option Expr) (t:TO):Prop :=
  ∀ (pins:AOs) (s:Shared) (σ:St) (H:Hp) (Q:Option Int→Hp→Prop),Inv X pins σ H s→t σ H Q →
    wpAny (model X.prog X.w) X.A (evalPart e X.env) (fun u s'=>∃ o H',Inv X pins σ H' s'∧IsPart u o∧Q o H') X.xe s
def js:TO:=fun _ H Q=>Q none H
def pO (t:TE):TO:=fun σ H Q=>t σ H fun x H1=>xS x H1 fun i H2=>Q (some i) H2
section
variable {X:Cx} {e:Expr} {te:TE} {lo hi:Option Expr} {tl th:TO} {pos p2:Pos}
theorem fH:PO X none js:=by
 intro pins s σ H Q I h;rw[evalPart_none];exact wP ⟨none,H,I,.none,h⟩
theorem eJ (h:PE X e te):PO X (some e) (pO te):=by
 intro pins s σ H Q I hw;rw[evalPart_some];refine thn (h pins s σ H _ I hw) fun u s1 zy78=>?_;obtain⟨x,H1,I1,r1,q1⟩:=zy78;obtain⟨i,rfl,q⟩:=q1;obtain⟨t,rfl⟩:=r1;exact⟨some i,H1,I1,.int i t,q⟩
def SlR (X:Cx) (r:V→Option Int→Option Int→Hp→VK→Prop):Prop :=
  ∀ (pins:AOs) (s:Shared) (σ:St) (H:Hp) (x:V) (v vl vu:Value) (lo hi:Option Int) (sl:Addr) (Q:VK),Inv X pins σ H s→aG x v→s.heap.IsSliceOf sl vl vu .none→IsPart vl lo→IsPart vu hi→r x lo hi H Q →
    ∃ T id,typeLookup (.type T) "__getitem__"=pure (some (.builtin id))∧s.TypeIs v T∧wpAny (model X.prog X.w) X.A (getItem v (.ref sl)) (EP X pins σ Q) X.xe s
def tSl (r:V→Option Int→Option Int→Hp→VK→Prop) (te:TE) (tl th:TO):TE:=fun σ H Q=>te σ H fun x H1=>tl σ H1 fun l H2=>th σ H2 fun u H3=>r x l u H3 Q
theorem dS {r:V→Option Int→Option Int→Hp→VK→Prop} (hr:SlR X r) (he:PE X e te) (hl:PO X lo tl) (hu:PO X hi th):PE X (.Subscript e (.Slice lo hi none p2) pos) (tSl r te tl th):=by
 intro pins s σ H Q I h;refine Subscript_ (thn (he pins s σ H _ I h) fun v s1 zy79=>?_);obtain⟨x,H1,I1,r1,q1⟩:=zy79;refine wpAny_Slice (thn (hl pins s1 σ H1 _ I1 q1) fun vl s2 zy80=>?_);obtain⟨l,H2,I2,pl,q2⟩:=zy80;refine thn (hu pins s2 σ H2 _ I2 q2) fun vu s3 zy81=>?_;obtain⟨u,H3,I3,pu,q3⟩:=zy81;rw[evalPart_none];refine wP ?_;have I4:Inv X pins σ H3 {s3 with heap:=s3.heap.push {cls:=.type "slice",data:=.fields #[vl,vu,.none]}}:=I3.kept (t':=s3.toks) fun b ob q=>hpS _ q;obtain⟨T,id,hT,ht,hg⟩:=hr pins {s3 with heap:=s3.heap.push {cls:=.type "slice",data:=.fields #[vl,vu,.none]}} σ H3 x v vl vu l u s3.heap.objs.size Q I4 r1 (Heap.IsSliceOf.new ..) pl pu q3;show wpAny (model X.prog X.w) X.A (subscriptTail e (.Slice lo hi none p2) v (.ref s3.heap.objs.size)) (EP X pins σ Q) X.xe {s3 with heap:=s3.heap.push {cls:=.type "slice",data:=.fields #[vl,vu,.none]}};exact tail_any (ops:=[.ref s3.heap.objs.size,v]) ht hT hg (by with_unfolding_all rfl)
def iL (xs:List V) (lo hi:Option Int):List V:=(xs.drop (HT.sIx xs.length 0 lo)).take (HT.sIx xs.length xs.length hi-HT.sIx xs.length 0 lo)
theorem kS (xs:List V) (lo hi:Option Int):(iL xs lo hi).length≤xs.length:=by
 unfold iL;rw[lTk,List.length_drop];exact Nat.le_trans (Nat.min_le_right _ _) (Nat.sub_le _ _)
def BA (K:Fg):V→Option Int→Option Int→Hp→VK→Prop:=fun x lo hi H Q=>∃ a xs,x=.ref a∧SqT K H a xs ∧
  ¬ (HT.sIx xs.length 0 lo=0∧HT.sIx xs.length xs.length hi=xs.length)∧∀ p,H p=none→Q (.ref p) (upd H p (.tup (iL xs lo hi)))
theorem qc:SlR X (BA X.K):=by
 intro pins s σ H x v vl vu lo hi sl Q I rx hs pl pu h;obtain⟨a,xs,rfl,hx,hw,q⟩:=h;cases rx;obtain⟨its,r,ht,hz⟩:=I.tuple hx;have hlen:its.toArray.size=xs.length:=by rw[List.size_toArray];exact r.length.symm
 refine⟨"tuple",_,PyProof.Rows.slot_tuple_getitem.lookup,ht.typeIs,?_⟩;refine HT.fO ht hs pl pu (by rw[hlen];exact hw) ?_ (by rw[hlen];exact hz);rw[hlen];refine⟨.ref s.heap.objs.size,_,I.laid (t':=s.toks) (o:=.tup (iL xs lo hi)) (fun b ob q=>hpS _ q) (Nat.le_refl _) ?_,rfl,q _ (I.hok.fresh (Nat.le_refl _))⟩;exact⟨Nat.le_trans (kS xs lo hi) hz,_,(r.drop (HT.sIx xs.length 0 lo)).take (HT.sIx xs.length xs.length hi-HT.sIx xs.length 0 lo),IsTup.new _ _⟩
def zA (K:Fg):R2:=fun x y H Q=>∃ a b xs ys,x=.ref a∧y=.ref b∧SqT K H a xs∧SqT K H b ys∧xs≠[]∧xs.length+ys.length≤sizeLine ∧
  (ys=[]→Q (.ref a) H)∧(ys≠[]→∀ p,H p=none→Q (.ref p) (upd H p (.tup (xs++ys))))
theorem aD.nil_iff {xs:List V} {us:List Value} (r:aD xs us):us=[]↔xs=[]:=by
 cases r with
 | nil=>simp
 | cons _ _=>simp
theorem tN:OpR X (binaryOp .Add) (zA X.K):=by
 intro pins s σ H x y v u Q I rx ry h;obtain⟨a,b,xs,ys,rfl,rfl,ha,hb,hx,hz,q1,q2⟩:=h;cases rx;cases ry;obtain⟨its,r1,p1,_⟩:=I.tuple ha;obtain⟨its2,r2,p2,_⟩:=I.tuple hb;refine HT.uo p1 p2 (fun z=>hx (r1.nil_iff.mp z)) (fun z=>⟨.ref a,H,I,rfl,q1 (r2.nil_iff.mp z)⟩) (fun z=>?_) (by rw[← r1.length,← r2.length];exact hz);refine⟨.ref s.heap.objs.size,_,I.laid (t':=s.toks) (o:=.tup (xs++ys)) (fun b ob q=>hpS _ q) (Nat.le_refl _) ?_,rfl,q2 (fun w=>z (r2.nil_iff.mpr w)) _ (I.hok.fresh (Nat.le_refl _))⟩;exact⟨by rw[lAp];exact hz,_,r1.append r2,IsTup.new _ _⟩
end
def ixN (n:Nat) (i:Int):Option Nat:=if 0≤i then (if i<n then some i.toNat else none) else if -(n:Int)≤i then some (i+n).toNat else none
def atI {α:Type} (xs:List α) (i:Int):Option α:=(ixN xs.length i).bind fun j=>xs[j]?
theorem nk {n:Nat} {i:Int} {j:Nat} (h:ixN n i=some j):seqIndex? i n=some j∧j<n∧-(n:Int)≤i∧i<n:=by
 unfold ixN at h;by_cases h0:0≤i
 · rw[if_pos h0] at h;by_cases h1:i<n
   · rw[if_pos h1] at h;have e:i.toNat=j:=Option.some.inj h;exact⟨by rw[seqIndex_of h0 h1,e],by lia,by lia,h1⟩
   · rw[if_neg h1] at h;cases h
 · rw[if_neg h0] at h;by_cases h1:-(n:Int)≤i
   · rw[if_pos h1] at h;have e:(i+n).toNat=j:=Option.some.inj h;exact⟨by rw[seqIndex_neg (by lia) h1,e],by lia,h1,by lia⟩
   · rw[if_neg h1] at h;cases h
theorem jW {α:Type} {xs:List α} {i:Int} {v:α} (h:atI xs i=some v):∃ j,seqIndex? i xs.length=some j∧xs[j]?=some v∧j<xs.length∧-(xs.length:Int)≤i∧i<xs.length:=by
 unfold atI at h;cases e:ixN xs.length i with
 | none=>rw[e] at h;cases h
 | some j =>
  rw[e] at h;obtain⟨h1,h2,h3,h4⟩:=nk e;exact⟨j,h1,h,h2,h3,h4⟩
theorem pH {α:Type} {xs:List α} {j:Nat} {v:α} (h:xs[j]?=some v):atI xs (j:Int)=some v:=by
 have hj:j<xs.length:=(gES.mp h).1;have e:ixN xs.length (j:Int)=some j:=by
  unfold ixN;rw[if_pos (by lia),if_pos (by lia)];simp
 unfold atI;rw[e];exact h
def uu (b:Expr):Prop:=∀ o i,subscripted b false o i=operate [o,i] (getItem o i)
def IxR (X:Cx) (r:R2):Prop :=
  ∀ (value slice:Expr) (pins:AOs) (s:Shared) (σ:St) (H:Hp) (x y:V) (v u:Value) (Q:VK),Inv X pins σ H s→aG x v→aG y u→r x y H Q →
    subscripted slice false v u=operate [v,u] (getItem v u)→wpAny (model X.prog X.w) X.A (subscriptTail value slice v u) (EP X pins σ Q) X.xe s
def MtR (X:Cx) (id:String) (r:V→List V→Hp→VK→Prop):Prop :=
  ∀ (pins:AOs) (s:Shared) (σ:St) (H:Hp) (x:V) (xs:List V) (v:Value) (us:List Value) (Q:VK),Inv X pins σ H s→aG x v→aD xs us→r x xs H Q →
    wpAny (model X.prog X.w) X.A (call (.builtin id) (v::us)) (EP X pins σ Q) X.xe s
inductive AH (K:Fg) (xs:List V) (H:Hp) (Q:VK):Prop
  | mk (p:Addr) (ys:List V) (h1:xs=[.ref p]) (h2:SqL K H p ys∨SqT K H p ys) (q:Q (.int ys.length) H):AH K xs H Q
def sX (K:Fg):List V→Hp→VK→Prop:=fun xs H Q=>AH K xs H Q
inductive rH (K:Fg) (xs:List V) (H:Hp) (Q:VK):Prop
  | mk (p:Addr) (ys:List V) (h1:xs=[.ref p]) (h2:(SqL K H p ys∧∀ l,H l=none→Q (.ref l) (upd H l (.tup ys)))∨(SqT K H p ys∧Q (.ref p) H)):rH K xs H Q
def ql (K:Fg):List V→Hp→VK→Prop:=fun xs H Q=>rH K xs H Q
section
variable {X:Cx} {a b:Expr} {ta tb:TE} {pos:Pos}
theorem aa {r:R2} (hr:IxR X r) (ha:PE X a ta) (hb:PE X b tb) (hs:uu b):PE X (.Subscript a b pos) (tOp r ta tb):=by
 intro pins s σ H Q I h;exact Subscript_ (xH ha hb I h fun v u s2 x y H2 I2 rx ry q=>hr a b pins s2 σ H2 x y v u Q I2 rx ry q (hs _ _))
inductive AJ (K:Fg) (x y:V) (H:Hp) (Q:VK):Prop
  | mk (p:Addr) (xs:List V) (i:Int) (v:V) (h:x=.ref p) (h':y=.int i) (s:SqL K H p xs) (a:atI xs i=some v) (q:Q v H):AJ K x y H Q
inductive AI (K:Fg) (x y:V) (H:Hp) (Q:VK):Prop
  | mk (p:Addr) (xs:List V) (i:Int) (v:V) (h:x=.ref p) (h':y=.int i) (s:SqT K H p xs) (a:atI xs i=some v) (q:Q v H):AI K x y H Q
def wJ (K:Fg):R2:=fun x y H Q=>AJ K x y H Q
def dG (K:Fg):R2:=fun x y H Q=>AI K x y H Q
def zw:R2:=fun x y H Q=>∃ z i c,x=.str z∧y=.int i∧z.length≤sizeLine∧atI z.cps.toList i=some c∧Q (.str ⟨#[c]⟩) H
theorem aF:IxR X (wJ X.K):=by
 intro value slice pins s σ H x y v u Q I rx ry h hs;obtain⟨p,xs,i,z,rfl,rfl,hq,he,q⟩:=h;cases rx;obtain⟨t,rfl⟩:=ry;obtain⟨its,r,pl,hz⟩:=I.list hq;obtain⟨j,h1,h2,h3,h4,h5⟩:=jW he;obtain⟨w,ew,rw'⟩:=r.get h2;have hl:=r.length;have hn:=gu;have fin:EP X pins σ Q w s:=⟨z,H,I,rw',q⟩;by_cases h0:0≤i
 · have hj:i.toNat=j:=by
    rw[seqIndex_of h0 h5] at h1;exact Option.some.inj h1
   exact item_listR pl.isList h0 (by lia) (by rw[hj];simpa using ew) fin hs
 · have hj:(i+(its.toArray.size:Int)).toNat=j:=by
    rw[seqIndex_neg (by lia) h4] at h1;rw[List.size_toArray,← hl];exact Option.some.inj h1
   exact subscriptTail_builtinR (x:=w) pl.isList.typeIs slot_list_getitem.lookup
    (wpAny_getItem_list_neg (Q:=fun r s'=>r=w∧EP X pins σ Q r s') pl.isList (by lia) (by rw[List.size_toArray] <;> lia) (by lia) (by rw[hj];simpa using ew) ⟨rfl,fin⟩) hs
theorem a9:IxR X (dG X.K):=by
 intro value slice pins s σ H x y v u Q I rx ry h hs;obtain⟨p,xs,i,z,rfl,rfl,hq,he,q⟩:=h;cases rx;obtain⟨t,rfl⟩:=ry;obtain⟨its,r,pl,hz⟩:=I.tuple hq;obtain⟨j,h1,h2,h3,h4,h5⟩:=jW he;obtain⟨w,ew,rw'⟩:=r.get h2;have hl:=r.length;have hn:=gu;have fin:EP X pins σ Q w s:=⟨z,H,I,rw',q⟩;exact subscriptTail_builtinR (x:=w) pl.typeIs slot_tuple_getitem.lookup
  (getItem_tuple (j:=j) (Q:=fun r s'=>r=w∧EP X pins σ Q r s') pl (by lia) (by lia) (by rw[List.size_toArray,← hl];exact h1) (by simpa using ew) ⟨rfl,fin⟩) hs
theorem xq:IxR X zw:=by
 intro value slice pins s σ H x y v u Q I rx ry h hs;obtain⟨z,i,c,rfl,rfl,hz,he,q⟩:=h;obtain⟨t,rfl⟩:=rx;obtain⟨t',rfl⟩:=ry;obtain⟨j,h1,h2,h3,h4,h5⟩:=jW he;have hl:z.cps.toList.length=z.length:=by simp[Str.length]
 rw[hl] at h1 h4 h5;have hn:=gu;exact tail_any (typeIs_str s z t) slot_str_getitem.lookup (getItem_str (c:=c) (by
   have e1:decide (i < -(2 ^ 63:Int))=false:=decide_eq_false (by lia);have e2:decide (i≥2 ^ 63)=false:=decide_eq_false (by lia);rw[e1,e2,Bool.or_false]) (by rw[h1];simpa using h2) ⟨.str ⟨#[c]⟩,H,I.tok _,⟨_,rfl⟩,q⟩) hs
theorem lQ (its:List Value) (n j:Nat) (u:Value):Obj.mapSeq (·.setIfInBounds j u) {cls:=.type "list",data:=.seq its.toArray n}={cls:=.type "list",data:=.seq (its.set j u).toArray n}:=by
 simp[Obj.mapSeq]
theorem Inv.lst {pins:AOs} {σ:St} {H:Hp} {s:Shared} {p:Addr} {xs:List V} (I:Inv X pins σ H s) (h:H p=some (.lst xs)) :
 ∃ (its:List Value) (n:Nat),aD xs its∧s.heap.get? p=some {cls:=.type "list",data:=.seq its.toArray n}∧xs.length≤sizeLine:=by
 obtain⟨z,its,n,r,e⟩:=I.hok p _ h;exact⟨its,n,r,e,z⟩
theorem Inv.lstUpd {pins:AOs} {σ:St} {H:Hp} {s:Shared} {p:Addr} {xs ys:List V} {its its':List Value} {n n':Nat} {f:Obj→Obj} (I:Inv X pins σ H s) (h:H p=some (.lst xs))
 (ho:s.heap.get? p=some {cls:=.type "list",data:=.seq its.toArray n}) (hf:f {cls:=.type "list",data:=.seq its.toArray n}={cls:=.type "list",data:=.seq its'.toArray n'}) (r:aD ys its') (hz:ys.length≤sizeLine) (t:Nat) :
 Inv X pins σ (upd H p (.lst ys)) {s with heap:=s.heap.update p f,toks:=t}:=by
 have e:(s.heap.update p f).get? p=some {cls:=.type "list",data:=.seq its'.toArray n'}:=by
  rw[Heap.get?_update_self f ho (by rw[hf] <;> rfl),hf]
 refine I.write (x:=p) (e:=p) (by rw[h];trivial) (.inl rfl) (fun b u hb q=>(Heap.get?_update_other _ _ (Ne.symm hb)).trans q) ⟨_,e⟩ ?_;exact⟨hz,its',n',r,e⟩
def zt:V→V→V→Hp→(Hp→Prop)→Prop:=fun o i v H Q=>∃ p xs k j,o=.ref p∧i=.int k∧H p=some (.lst xs)∧ixN xs.length k=some j∧Q (upd H p (.lst (xs.set j v)))
theorem kB:AE X zt:=by
 intro pins s σ H o i v ov iv u Q I ro ri rv h;obtain⟨p,xs,k,j,rfl,rfl,hp,hj,q⟩:=h;cases ro;obtain⟨t,rfl⟩:=ri;obtain⟨its,n,r,ho,hz⟩:=I.lst hp;obtain⟨h1,h2,h3,h4⟩:=nk hj;have hl:=r.length;have hn:=gu;have I':Inv X pins σ (upd H p (.lst (xs.set j v))) {s with heap:=s.heap.update p (Obj.mapSeq (·.setIfInBounds j u))} :=
  I.lstUpd hp ho (lQ its n j u) (r.set rv j) (by rw[List.length_set];exact hz) s.toks
 by_cases h0:0≤k
 · have hk:k.toNat=j:=by
    rw[seqIndex_of h0 h4] at h1;exact Option.some.inj h1
   exact PySem.W.ki_setAt ho h0 (by lia) (by rw[List.size_toArray,← hl];exact h4) (by rw[hk];exact⟨_,I',q⟩)
 · have hk:(k+(its.toArray.size:Int)).toNat=j:=by
    rw[seqIndex_neg (by lia) h3] at h1;rw[List.size_toArray,← hl];exact Option.some.inj h1
   exact PySem.W.ki_setBack ho (by lia) (by rw[List.size_toArray,← hl];exact h3) (by lia) (by rw[hk];exact⟨_,I',q⟩)
def eZ:V→Bool
  | .non=>true
  | .bl _=>true
  | .int _=>true
  | .str _=>true
  | _=>false
def eqV:V→V→Bool
  | .non,.non=>true
  | .bl a,.bl b=>a==b
  | .bl a,.int b=>(if a then 1 else 0)==b
  | .int a,.bl b=>a==(if b then 1 else 0)
  | .int a,.int b=>a==b
  | .str a,.str b=>a==b
  | _,_=>false
theorem xB {A:Around} {s:Shared} {y x:V} {u v:Value} (ry:aG y u) (rx:aG x v) (fy:eZ y=true) (fx:eZ x=true):SeqAt.EqAt A s u v (eqV y x):=by
 cases y with
 | non =>
  cases ry;cases x with
  | non=>cases rx;exact SeqAt.EqAt.same _
  | bl b=>cases rx;exact SeqAt.EqAt.none_bool b
  | int b=>obtain⟨t,rfl⟩:=rx;exact SeqAt.EqAt.none_int b t
  | str b=>obtain⟨t,rfl⟩:=rx;exact SeqAt.EqAt.none_str b t
  | _=>exact absurd (show false=true from fx) Bool.false_ne_true
 | bl a =>
  cases ry;cases x with
  | non=>cases rx;exact SeqAt.EqAt.bool_none a
  | bl b=>cases rx;exact SeqAt.EqAt.bool_bool a b
  | int b=>obtain⟨t,rfl⟩:=rx;exact SeqAt.EqAt.bool_int a b t
  | str b=>obtain⟨t,rfl⟩:=rx;exact SeqAt.EqAt.bool_str a b t
  | _=>exact absurd (show false=true from fx) Bool.false_ne_true
 | int a =>
  obtain⟨t',rfl⟩:=ry;cases x with
  | non=>cases rx;exact SeqAt.EqAt.int_none a t'
  | bl b=>cases rx;exact SeqAt.EqAt.int_bool a t' b
  | int b=>obtain⟨t,rfl⟩:=rx;exact SeqAt.EqAt.int_int a t' b t
  | str b=>obtain⟨t,rfl⟩:=rx;exact SeqAt.EqAt.int_str a t' b t
  | _=>exact absurd (show false=true from fx) Bool.false_ne_true
 | str a =>
  obtain⟨t',rfl⟩:=ry;cases x with
  | non=>cases rx;exact SeqAt.EqAt.str_none a t'
  | bl b=>cases rx;exact SeqAt.EqAt.str_bool a t' b
  | int b=>obtain⟨t,rfl⟩:=rx;exact SeqAt.EqAt.str_int a t' b t
  | str b=>obtain⟨t,rfl⟩:=rx;exact SeqAt.EqAt.str_str a t' b t
  | _=>exact absurd (show false=true from fx) Bool.false_ne_true
 | _=>exact absurd (show false=true from fy) Bool.false_ne_true
def eqU (x:V) (u:Value):Bool:=match u with
  | .none=>eqV .non x
  | .bool b=>eqV (.bl b) x
  | .int i _=>eqV (.int i) x
  | .str z _=>eqV (.str z) x
  | _=>false
theorem rh {x y:V} {u:Value} (r:aG y u) (f:eZ y=true):eqU x u=eqV y x:=by
 cases y with
 | non=>cases r;rfl
 | bl b=>cases r;rfl
 | int i=>obtain⟨t,rfl⟩:=r;rfl
 | str z=>obtain⟨t,rfl⟩:=r;rfl
 | _=>exact absurd (show false=true from f) Bool.false_ne_true
theorem ia {x:V}:∀ {xs:List V} {us:List Value},aD xs us→xs.all eZ=true→us.any (eqU x)=xs.any fun y=>eqV y x:=by
 intro xs us h
 induction h with
 | nil=>intro _;rfl
 | cons r t ih =>
  intro f;rw[List.all_cons,Bool.and_eq_true] at f;rw[List.any_cons,List.any_cons,rh r f.1,ih f.2]
theorem fJ {A:Around} {s:Shared} {x:V} {v:Value} (rx:aG x v) (fx:eZ x=true):∀ {xs:List V} {us:List Value},aD xs us→xs.all eZ=true→∀ u∈us,SeqAt.EqAt A s u v (eqU x u):=by
 intro xs us h
 induction h with
 | nil=>intro _ u hu;cases hu
 | cons r t ih =>
  intro f u hu;rw[List.all_cons,Bool.and_eq_true] at f
  rcases List.mem_cons.mp hu with rfl | hu
  · rw[rh r f.1];exact xB r rx f.1 fx
  · exact ih f.2 u hu
def inV (x:V) (xs:List V):Bool:=xs.any fun y=>eqV y x
def rIn (K:Fg) (neg:Bool):R2:=fun x y H Q=>∃ p xs,y=.ref p∧(SqL K H p xs∨SqT K H p xs)∧eZ x=true∧xs.all eZ=true∧Q (.bl (if neg then !inV x xs else inV x xs)) H
theorem aY:OpR X (compareOp .In) (rIn X.K false):=by
 intro pins s σ H x y v u Q I rx ry h;obtain⟨p,xs,rfl,hq,fx,fs,q⟩:=h;cases ry
 rcases hq with hq | hq
 · obtain⟨its,r,pl,hz⟩:=I.list hq;refine SeqAt.in_listAt (eqU x) pl.isList (fun w hw=>fJ rx fx r fs w (by simpa using hw)) ⟨.bl _,H,I,rfl,?_⟩;rw[show its.toArray.any (eqU x)=its.any (eqU x) by simp,ia r fs];exact q
 · obtain⟨its,r,pl,hz⟩:=I.tuple hq;refine SeqAt.in_tupleAt (eqU x) pl (fun w hw=>fJ rx fx r fs w (by simpa using hw)) ⟨.bl _,H,I,rfl,?_⟩;rw[show its.toArray.any (eqU x)=its.any (eqU x) by simp,ia r fs];exact q
theorem jF:OpR X (compareOp .NotIn) (rIn X.K true):=by
 intro pins s σ H x y v u Q I rx ry h;obtain⟨p,xs,rfl,hq,fx,fs,q⟩:=h;cases ry
 rcases hq with hq | hq
 · obtain⟨its,r,pl,hz⟩:=I.list hq;refine SeqAt.notIn_listAt (eqU x) pl.isList (fun w hw=>fJ rx fx r fs w (by simpa using hw)) ⟨.bl _,H,I,rfl,?_⟩;rw[show its.toArray.any (eqU x)=its.any (eqU x) by simp,ia r fs];exact q
 · obtain⟨its,r,pl,hz⟩:=I.tuple hq;refine SeqAt.notIn_tupleAt (eqU x) pl (fun w hw=>fJ rx fx r fs w (by simpa using hw)) ⟨.bl _,H,I,rfl,?_⟩;rw[show its.toArray.any (eqU x)=its.any (eqU x) by simp,ia r fs];exact q
theorem jV:fU X (.builtin "len") (sX X.K):=by
 intro pins s σ H xs us Q I r h;obtain⟨p,ys,rfl,hq,q⟩:=h;obtain⟨u,rfl,rx⟩:=ky r;cases rx;have hn:=gu
 rcases hq with hq | hq
 · obtain⟨its,r',pl,hz⟩:=I.list hq;have hlen:=r'.length;exact Calls.call_len_list pl.isList (by simp only[List.size_toArray] <;> lia) ⟨.int ys.length,H,I.tok _,⟨s.toks+1,by rw[List.size_toArray,hlen]⟩,q⟩
 · obtain⟨its,r',pl,hz⟩:=I.tuple hq;have hlen:=r'.length;exact len_tuple pl (by simp only[List.size_toArray] <;> lia) ⟨.int ys.length,H,I.tok _,⟨s.toks+1,by rw[List.size_toArray,hlen]⟩,q⟩
theorem jU:fU X (.type "list") (fun xs H Q=>∃ p ys,xs=[.ref p]∧(SqL X.K H p ys∨SqT X.K H p ys)∧∀ l,H l=none→Q (.ref l) (upd H l (.lst ys))):=by
 intro pins s σ H xs us Q I r h;obtain⟨p,ys,rfl,hq,q⟩:=h;obtain⟨u,rfl,rx⟩:=ky r;cases rx;have fin:∀ (its:List Value),aD ys its→ys.length≤sizeLine→∀ (h':Heap) (c':Nat),(∀ b o',s.heap.get? b=some o'→h'.get? b=some o') →
  h'.get? s.heap.objs.size=some {cls:=.type "list",dict:=none,data:=.seq its.toArray c',slots:=#[]}→EP X pins σ Q (.ref s.heap.objs.size) {s with heap:=h'}:=fun its r' hz h' c' kp e =>
  ⟨.ref s.heap.objs.size,_,I.laid (t':=s.toks) kp (Nat.le_refl _) (show bm X.prog X.w _ h' _ (.lst ys) from ⟨hz,its,c',r',e⟩),rfl,q _ (I.hok.fresh (Nat.le_refl _))⟩
 rcases hq with hq | hq
 · obtain⟨its,r',pl,hz⟩:=I.list hq;have hlen:=r'.length;obtain⟨o,ho,hc,n,hd⟩:=pl.isList;exact call_list_seq p (.inl rfl) ho hc hd (fun h' c' kp e=>fin its r' hz h' c' kp e) (by simp only[List.size_toArray] <;> lia)
 · obtain⟨its,r',pl,hz⟩:=I.tuple hq;have hlen:=r'.length;obtain⟨o,ho,hc,n,hd⟩:=pl;exact call_list_seq p (.inr rfl) ho hc hd (fun h' c' kp e=>fin its r' hz h' c' kp e) (by simp only[List.size_toArray] <;> lia)
theorem j6:fU X (.type "tuple") (ql X.K):=by
 intro pins s σ H xs us Q I r h;obtain⟨p,ys,rfl,h⟩:=h;obtain⟨u,rfl,rx⟩:=ky r;cases rx
 rcases h with ⟨hq,q⟩ | ⟨hq,q⟩
 · obtain⟨its,r',pl,hz⟩:=I.list hq;have hlen:=r'.length;refine call_tuple_list pl.isList (fun h' kp=>?_) (by simp only[List.size_toArray] <;> lia);have I1:Inv X pins σ H {s with heap:=h'}:=I.kept (t':=s.toks) kp;have I2:Inv X pins σ (upd H h'.objs.size (.tup ys)) {s with heap:=h'.push {cls:=.type "tuple",data:=.seq its.toArray}} :=
    I1.laid (t':=s.toks) (fun b o e=>hpS _ e) (Nat.le_refl _) (show bm X.prog X.w _ _ _ (.tup ys) from ⟨hz,its,r',IsTup.new _ _⟩)
   exact⟨.ref h'.objs.size,_,I2,rfl,q _ (I1.hok.fresh (Nat.le_refl _))⟩
 · obtain⟨its,r',pl,hz⟩:=I.tuple hq;exact call_tuple_same pl ⟨.ref p,H,I,rfl,q⟩
def tyV (K:Fg) (T:String) (x:V) (H:Hp):Prop:=match x with
  | .str _=>T="str"
  | .int _=>T="int"
  | .ref p=>(T="list"∧∃ xs,SqL K H p xs)∨(T="tuple"∧∃ o,K.lookup p=some o∧o.cls=.type "tuple"∧o.dict=none) ∨
      (T="dict"∧((∃ kvs,H p=some (.dK kvs))∨∃ kvs,H p=some (.dT kvs)))∨(T="set"∧∃ S n,H p=some (.set S n))
  | _=>False
theorem ph {pins:AOs} {σ:St} {H:Hp} {s:Shared} {T:String} {x:V} {v:Value} (I:Inv X pins σ H s) (r:aG x v) (ty:tyV X.K T x H) :
 s.TypeIs v T∧∀ a,v=.ref a→∃ ob,s.heap.get? a=some ob∧ob.dict=none:=by
 cases x with
 | str z =>
  obtain⟨t,rfl⟩:=r;cases (show T="str" from ty);exact⟨typeIs_str s z t,fun _ e=>nomatch e⟩
 | int i =>
  obtain⟨t,rfl⟩:=r;cases (show T="int" from ty);exact⟨typeIs_int s i t,fun _ e=>nomatch e⟩
 | ref p =>
  cases r
  rcases ty with ⟨rfl,xs,hq⟩ | ⟨rfl,o,hk,hc,hd⟩ | ⟨rfl,hk⟩ | ⟨rfl,S,n,hk⟩
  · obtain⟨its,_,pl,_⟩:=I.list hq;refine⟨pl.isList.typeIs,fun a e=>?_⟩;cases e;obtain⟨o,n,e,c,hd,_⟩:=pl;exact⟨o,e,hd⟩
  · refine⟨⟨o,I.kIn p o hk,hc⟩,fun a e=>?_⟩;cases e;exact⟨o,I.kIn _ o hk,hd⟩
  · have z:∃ o,s.heap.get? p=some o∧o.ExactDict:=by
     rcases hk with ⟨kvs,hk⟩ | ⟨kvs,hk⟩
     · obtain⟨_,_,_,_,o,_,_,e,ex,_⟩:=I.hok p _ hk;exact⟨o,e,ex⟩
     · obtain⟨_,_,_,_,o,_,_,e,ex,_⟩:=I.hok p _ hk;exact⟨o,e,ex⟩
    obtain⟨o,e,ex⟩:=z;refine⟨⟨o,e,ex.1⟩,fun a e2=>?_⟩;cases e2;exact⟨o,e,ex.2.1⟩
  · obtain⟨o,_,_,_,e,ex,_⟩:=I.hok p _ hk;refine⟨⟨o,e,ex.1⟩,fun a e2=>?_⟩;cases e2;exact⟨o,e,ex.2.1⟩
 | _=>exact False.elim ty
def yu (K:Fg) (T:String) (r:V→List V→Hp→VK→Prop) (to:TE):TE:=fun σ H Q=>to σ H fun x H1=>tyV K T x H1∧r x [] H1 Q
def tBM (K:Fg) (T:String) (r:V→List V→Hp→VK→Prop) (to:TE) (t:TA):TE:=fun σ H Q=>to σ H fun x H1=>tyV K T x H1∧t σ H1 fun xs H2=>r x xs H2 Q
variable {o e:Expr} {es:List Expr} {to:TE} {t:TA} {name:Str} {apos cpos:Pos} {T id:String} {r:V→List V→Hp→VK→Prop}
theorem wY (pa:PlainAttrs T) (slot:Slot T name id) (hty:typeOf (.builtin id)=pure (.type "method_descriptor")) (hm:MtR X id r) (ho:PE X o to)
 (hbase:attributeBase o name X.env (eval o X.env)=eval o X.env:=by rfl) (hline:(apos.endLine==cpos.line)=true:=by rfl):PE X (.Call (.Attribute o name apos) [] [] cpos) (yu X.K T r to):=by
 intro pins s σ H Q I h;refine wpAny_Call_method0_late hbase hline (thn (ho pins s σ H _ I h) fun v s1 zy82=>?_);obtain⟨x,H1,I1,r1,ty,q1⟩:=zy82;obtain⟨h1,h2⟩:=ph I1 r1 ty;exact⟨T,id,pa,slot,hty,h1,h2,Calls.callWith_builtin rfl (PySem.evalArgs_none (hm pins s1 σ H1 x [] v [] Q I1 r1 .nil q1))⟩
theorem uO (pa:PlainAttrs T) (slot:Slot T name id) (hty:typeOf (.builtin id)=pure (.type "method_descriptor")) (hm:MtR X id r) (ho:PE X o to) (ha:PA X (e::es) t)
 (hbase:attributeBase o name X.env (eval o X.env)=eval o X.env:=by rfl)
 (hfew:((backTo cpos (starEach (e::es) X.env)).all (fun x=>!x.1)&&(backToKw cpos (keywordEach [] X.env)).all (fun x=>x.1.isSome)
   && decide ((e::es).length+([]:List Keyword).length+(if ([]:List Keyword).isEmpty then 0 else 1)<30))=true:=by rfl)
 (hline:(apos.endLine==cpos.line)=true:=by rfl) (hs:starEach (e::es) X.env=(false,eval e X.env)::starEach es X.env:=by rfl) (hplain:(backTo cpos (starEach es X.env)).any (·.1)=false:=by rfl) :
 PE X (.Call (.Attribute o name apos) (e::es) [] cpos) (tBM X.K T r to t):=by
 intro pins s σ H Q I h;refine wpAny_Call_method_late hbase hfew hline rfl (thn (ho pins s σ H _ I h) fun v s1 zy83=>?_);obtain⟨x,H1,I1,r1,ty,q1⟩:=zy83;obtain⟨h1,h2⟩:=ph I1 r1 ty;refine⟨T,id,pa,slot,hty,h1,h2,?_⟩;have hA:=ha cpos pins s1 σ H1 _ I1 q1;rw[hs] at hA ⊢;refine Calls.callWith_builtin (by show (false||(backTo cpos (starEach es X.env)).any (·.1))=false;rw[hplain] <;> rfl) (Calls.evalArgs_plain ?_);refine thn hA fun us s2 zy84=>?_;obtain⟨vs,H2,I2,r2,q2⟩:=zy84;exact hm pins s2 σ H2 x vs v us Q I2 r1 r2 q2
/- xs.append(e),list.index on a module's tuple .. are MtR facts of 06m -/
end
def MtM (X:Cx) (id:String) (r:V→List V→Hp→VK→Prop):Prop :=
  ∀ (pins:AOs) (s:Shared) (σ:St) (H:Hp) (x:V) (xs:List V) (v:Value) (us:List Value) (Q:VK),Inv X pins σ H s→aG x v→aD xs us→r x xs H Q →
    wpAny (model X.prog X.w) X.A (call (.builtin id) (v::us)) (EP X pins σ Q) X.xe s
theorem aD.one:∀ {x:V} {us:List Value},aD [x] us→∃ u,us=[u]∧aG x u:=by
 intro x us h;cases h with
 | cons r t=>cases t;exact⟨_,rfl,r⟩
theorem aD.two:∀ {x y:V} {us:List Value},aD [x,y] us→∃ u v,us=[u,v]∧aG x u∧aG y v:=by
 intro x y us h;cases h with
 | cons r t=>obtain⟨u,rfl,q⟩:=aD.one t;exact⟨_,_,rfl,r,q⟩
theorem aD.zero:∀ {us:List Value},aD [] us→us=[]
 | _,.nil=>rfl
theorem aD.dropLast {xs:List V} {us:List Value} (h:aD xs us):aD xs.dropLast us.dropLast:=by
 induction h with
 | nil=>exact .nil
 | cons r t ih =>
  cases t with
  | nil=>exact .nil
  | cons q t'=>exact .cons r ih
theorem lZ {α:Type} (l:List α):l.eraseIdx (l.length-1)=l.dropLast:=by
 induction l with
 | nil=>rfl
 | cons a r ih =>
  cases r with
  | nil=>rfl
  | cons b r =>
   have e:(a::b::r).length-1=((b::r).length-1)+1:=by
    have h1:(a::b::r).length=r.length+2:=rfl;have h2:(b::r).length=r.length+1:=rfl;lia
   rw[e,List.eraseIdx_cons_succ,ih]
   all_goals rfl
section
variable {X:Cx} {pins:AOs} {σ:St} {H:Hp} {s:Shared} {l b:Addr} {xs ys zs:List V}
theorem Inv.lset {its its':List Value} {n:Nat} {f:Array Value→Array Value} {t':Nat} (I:Inv X pins σ H s) (hH:H l=some (.lst xs))
 (e:s.heap.get? l=some {cls:=.type "list",data:=.seq its.toArray n}) (hf:f its.toArray=its'.toArray) (hv:aD ys its') (hz:ys.length≤sizeLine) :
 Inv X pins σ (upd H l (.lst ys)) {s with heap:=s.heap.update l (Obj.mapSeq f),toks:=t'}:=by
 have q:=PySem.IsL.update e f;rw[hf] at q;refine I.write (x:=l) (e:=l) (by rw[hH];exact trivial) (.inl rfl) (fun b' u hb hu=>(Heap.get?_update_other s.heap (Obj.mapSeq f) (Ne.symm hb)).trans hu) ⟨_,q⟩ ?_;exact⟨hz,its',_,hv,q⟩
theorem Inv.lnew {its:List Value} {t':Nat} (I:Inv X pins σ H s) (hv:aD ys its) (hz:ys.length≤sizeLine) :
 Inv X pins σ (upd H s.heap.objs.size (.lst ys)) {s with heap:=s.heap.push {cls:=.type "list",data:=.seq its.toArray},toks:=t'} :=
 I.laid (fun _ _ q=>hpS _ q) (Nat.le_refl _) ⟨hz,its,0,hv,Heap.get?_push_size _ rfl⟩
theorem Inv.fresh (I:Inv X pins σ H s):H s.heap.objs.size=none:=I.hok.fresh (Nat.le_refl _)
theorem Inv.lstM (I:Inv X pins σ H s) (hH:H l=some (.lst xs)):xs.length≤sizeLine∧∃ (its:List Value) (n:Nat),aD xs its∧xs.length=its.length∧s.heap.get? l=some {cls:=.type "list",data:=.seq its.toArray n}:=by
 obtain⟨z,its,n,r,e⟩:=I.hok l _ hH;exact⟨z,its,n,r,r.length,e⟩
theorem qL {n:Nat} (h:n≤sizeLine):Builtin.List.listTooLong n=false:=by
 unfold Builtin.List.listTooLong;exact decide_eq_false (by lia)
end
section
variable {X:Cx}
inductive AO (x:V) (vs:List V) (H:Hp) (Q:VK):Prop
  | mk (l:Addr) (xs:List V) (y:V) (h1:x=.ref l) (h2:vs=[y]) (h3:H l=some (.lst xs)) (h4:xs.length<sizeLine) (q:Q .non (upd H l (.lst (xs++[y])))):AO x vs H Q
def mT:V→List V→Hp→VK→Prop:=fun x vs H Q=>AO x vs H Q
theorem jf:MtM X "list.append" mT:=by
 intro pins s σ H x vs v us Q I rx rv h;obtain⟨l,xs,y,rfl,rfl,hH,hz,q⟩:=h;cases rx;obtain⟨u,rfl,ru⟩:=rv.one;obtain⟨z,its,n,r,hl,e⟩:=I.lstM hH;refine call_meets F.slot_list_append ⟨_,e,rfl⟩ F.entry_list_append (F.args_list_append_2 _ _) (PySem.list_append l its.toArray n u (by rw[List.size_toArray];lia)) ⟨e,?_⟩;refine⟨.non,_,I.lset (its':=its++[u]) hH e (by simp) (r.append (.cons ru .nil)) ?_,rfl,q⟩;rw[lAp,List.length_singleton];lia
def zu:V→List V→Hp→VK→Prop:=fun x vs H Q=>∃ l xs y,x=.ref l∧vs=[]∧H l=some (.lst xs)∧xs[xs.length-1]?=some y∧Q y (upd H l (.lst xs.dropLast))
theorem xg:MtM X "list.pop" zu:=by
 intro pins s σ H x vs v us Q I rx rv h;obtain⟨l,xs,y,rfl,rfl,hH,hy,q⟩:=h;cases rx;have hus:=rv.zero;subst hus;obtain⟨z,its,n,r,hl,e⟩:=I.lstM hH;obtain⟨u,hu,ru⟩:=r.get hy;have hy':its.toArray[its.toArray.size-1]?=some u:=by
  show its.toArray[its.length-1]?=some u;rw[← Array.getElem?_toList,← hl];exact hu
 refine call_meets F.slot_list_pop ⟨_,e,rfl⟩ F.entry_list_pop (F.args_list_pop_1 _) (MeetsSeq.list_pop_last l its.toArray n u hy' (by rw[List.size_toArray];lia)) ⟨e,?_⟩;refine⟨y,_,I.lset (its':=its.dropLast) hH e ?_ r.dropLast ?_,ru,q⟩
 · show its.toArray.eraseIdxIfInBounds (its.toArray.size-1)=its.dropLast.toArray;rw[List.size_toArray,List.eraseIdxIfInBounds_toArray,lZ]
 · rw[List.length_dropLast];lia
end
section
variable {prog:Program} {w:World} {A:Around} {E:VSP} {s:Shared}
set_option maxRecDepth 100000 in
end
section
variable {X:Cx}
end
end L2
namespace Att
open PySem PySem.W PySem.Calls PyProof.Rows
theorem gQ {P:Params} {h:Heap}:∀ (ns:List Int) (vs:List Value),WellAll P h vs (ns.map WData.int)→IntsAre vs ns:=by
 intro ns
 induction ns with
 | nil =>
  intro vs w;rw[List.map_nil] at w;cases w;exact .nil
 | cons n ns ih =>
  intro vs w;rw[List.map_cons] at w;cases w with
  | cons a b =>
   cases a;exact .cons _ _ (ih _ b)
theorem nY {l:OpenLaw} {n:Nat} (hn:l.most=some n) {P:Params} {h:Heap} {args:List WData} {vals:List Value}
 (hpre:l.row.toRowW.claim.pre args=true) (hwl:WellAll P h vals args) :
 ∃ a vs ns,vals=[Value.ref a]∧args=[WData.list (ns.map WData.int)]∧h.get? a=some {cls:=.type "list",data:=.seq vs.toArray}∧IntsAre vs ns∧ns.length≤n:=by
 have hsh:WShape.hasAll [] args [.list .int]=true:=(pre_splitW hpre).1;have hc:l.pre.holds [] {args:=args}=true:=(pre_splitW hpre).2;obtain⟨d,r,rfl,h1,h2⟩:=hasAllW_cons hsh;obtain rfl:=hasAllW_nil h2;obtain⟨xs,rfl,h3⟩:=hasW_list h1;obtain⟨ns,rfl⟩:=items_int h3;have hlen:ns.length≤n:=by
  unfold OpenLaw.pre at hc;have h4:(WTm.not (.lt (.lit (.int (n:Int))) (.len (.arg 0)))).holds [] {args:=[.list (ns.map .int)]}=true:=by
   have h4:=(holds_andW hc).1;rw[hn] at h4;exact h4
  have h5:=condW_of h4 (w_not (w_lt w_lit (w_len_list (w_arg rfl))));rw[lMp] at h5;refine Nat.le_of_not_lt fun q=>?_;have q':(n:Int)<((ns.length:Nat):Int):=by lia
  first
   | (rw[decide_eq_true q'] at h5;exact absurd h5 (by decide))
   | (simp at h5;lia)
 cases hwl with
 | cons w1 w2 =>
  cases w2;cases w1 with
  | list ho hall=>exact⟨_,_,ns,rfl,rfl,ho,gQ ns _ hall,hlen⟩
theorem o7 (l:OpenLaw) (args:List WData):l.row.toRowW.claim.post args (.bool true) args=true :=
 postW_of (r:=l.row.toRowW) (X:=(true==true))
  (show WShape.has [] (.bool true) .bool=true by first | rfl | decide | simp[WShape.has,WShape.arms,WShape.armsAll])
  (show (WTm.eq .res (.lit (.bool true))).value [] {args:=args,res:=some (.bool true),after:=args}=some (.bool (true==true)) from w_eq_bool (w_res rfl) w_lit) rfl
theorem attach_call {l:OpenLaw} {n:Nat} {q:Program} {loose:List Str} {XP:(Str→Option Value)→Heap→Prop} {YP:World→Heap→Prop} {d:DefRec}
 (hn:l.most=some n) (hdf:d.params.defaults=[])
 (call:∀ (w:World) (s₀ s₁:Shared) (mg mb:SOV) (fa:Addr) (o:Obj) (pm cd doc:Value) (a:Addr) (vs:List Value) (ns:List Int),
   Ground q loose [] XP w s₀ mg mb s₁.heap→YP w s₁.heap →
   s₁.heap.get? fa=some o→o.data=.func (docDef d.name d.params d.body d.scope pm cd doc)→s₁.heap.CodeRec cd d.name→mg d.name=some (.ref fa) →
   s₁.heap.get? a=some {cls:=.type "list",data:=.seq vs.toArray}→IntsAre vs ns→ns.length≤n→s₁.gens=#[] →
   codeAny (model l.prog w) callerA (.call (.ref fa) ⟨[.ref a],[]⟩) (fun r s'=>r=.ok (.ret (.bool true))∧OldK s₁.heap s'.heap∧s'.os=s₁.os∧AllBare s'.gens) s₁) :
 WalkO q loose XP YP l.row.toRowW d [] (fun f vs=>PySem.call f vs):=by
 intro w s₀ s₁ mg mb G Y fa o pm cd doc dV kV ho hd hcd hD hmg hg args vals as hpre hlay hrd hwl hlo;obtain rfl:dV=.none:=Dflts.none hD hdf;obtain rfl:kV=.none:=Dflts.noKw hD;obtain⟨a,vs,ns,rfl,rfl,hobj,hints,hlen⟩:=nY hn hpre hwl;refine enter_call (codeAny_mono (call w s₀ s₁ mg mb fa o pm cd doc a vs ns G Y ho (fd_plain hd) hcd hmg hobj hints hlen hg) fun r s' hq=>?_);obtain⟨rfl,h2,h3,h4⟩:=hq;exact⟨.inl ⟨.bool true,.bool true,[],rfl,fun _=>rfl,.bool true,o7 l _,fun _=>⟨List.Pairwise.nil,fun _ hm=>(nomatch hm)⟩⟩,h2,h3,h4⟩
section
variable {prog:Program} {w:World} {A:Around} {E:VSP} {s:Shared} {K:Frag}
end
end Att
namespace L2
open PySem PySem.Spec PyProof.Rows
theorem nQ:∀ {vs:List Value} {ns:List Int},IntsAre vs ns→aD (ns.map V.int) vs:=by
 intro vs ns h
 induction h with
 | nil=>exact .nil
 | cons n t h ih=>exact .cons ⟨t,rfl⟩ ih
def xQ (H:Hp):Prop:=∀ b,H b=none∨∃ o xs,H b=some (.frz o (.lst xs))
theorem qT {P:Program} {w:World} {K:Fg} {mg mb:SOV} {CX:CXT} {k:Nat} {fa a:Addr} {fd:FuncData} {x:Str} {sp:Sp} {s₁:Shared} {vs:List Value} {ns:List Int}
 (KX:K.In s₁.heap) (hns:s₁.heap.Ns mainGlobals mg) (hb:s₁.heap.Ns builtinsNs mb) (hbb:∀ x:Str,x≠"__name__"→mb x=bootBuiltins x) (hlim:s₁.heap.NoLimit) (hg:s₁.gens=#[])
 (ha:s₁.heap.get? a=some {cls:=.type "list",data:=.seq vs.toArray}) (hi:IntsAre vs ns) (hl:ns.length≤sizeLine) (hr:bO k callerA)
 (F:∀ base:Heap,K.In base→base.Ns mainGlobals mg→fB P w K mg base CX k fa fd [x] sp) (hbind:∀ (s:Shared) (u:Value),BindsTo s fd ⟨[u],[]⟩ [(x,u)])
 (hsp:∀ H:Hp,xQ H→SqL K H a (ns.map V.int)→sp [.ref a] H (fun v _=>v=.bl true) fun _ _ _=>False)
 (hCX:∀ H e s',CX [] H s₁ (fun _ _ _=>False) e s'→False) :
 codeAny (model P w) callerA (.call (.ref fa) ⟨[.ref a],[]⟩) (fun r s'=>r=.ok (.ret (.bool true))∧OldK s₁.heap s'.heap∧s'.os=s₁.os∧AllBare s'.gens) s₁:=by
 have rv:=nQ hi;have lenV:=hi.length;have core:∀ H:Hp,xQ H→SqL K H a (ns.map V.int)→HOk P w H s₁.heap→(∀ b,H b≠none→b=a)→(H a≠none→K.lookup a=none) →
  codeAny (model P w) callerA (.call (.ref fa) ⟨[.ref a],[]⟩) (fun r s'=>r=.ok (.ret (.bool true))∧OldK s₁.heap s'.heap∧s'.os=s₁.os∧AllBare s'.gens) s₁:=by
  intro H hO hS hok hA hK;have base_of:∀ {b:Addr} {o:Obj},s₁.heap.get? b=some o→H b=none→(jQ s₁.heap H).get? b=some o:=fun e n=>r8 e n;have noA:∀ {b:Addr} {o:Obj} {es:Array DictEntry} {ep:Nat},s₁.heap.get? b=some o→o.data=.dict es ep→H b=none:=fun {b o es ep} e d=>by
   cases q:H b with
   | none=>rfl
   | some u =>
    have e':b=a:=hA b (by rw[q];simp);subst e';rw[ha] at e;cases e;have d':Data.seq vs.toArray _=Data.dict es ep:=d;cases d'
  have nsK:∀ {b:Addr} {m:SOV},s₁.heap.Ns b m→(jQ s₁.heap H).Ns b m:=fun {b m} ⟨o,es,ep,e,d,r⟩=>⟨o,es,ep,base_of e (noA e d),d,r⟩;have hKb:K.In (jQ s₁.heap H):=fun b o e=>base_of (KX b o e) (by
    cases q:H b with
    | none=>rfl
    | some u =>
      have e':b=a:=hA b (by rw[q];simp);subst e';rw[hK (by rw[q];simp)] at e;cases e)
  have hM:Mod K mg (jQ s₁.heap H):=⟨hKb,nsK hns,⟨mb,nsK hb,hbb⟩,let ⟨mc,h1,h2⟩:=hlim;⟨mc,nsK h1,h2⟩⟩;have e0:mG P w K mg (jQ s₁.heap H) callerA [] s₁ H:=⟨rfl,hM,fun b o e=>tP e,Nat.le_of_eq (oC _ _),trivial,fun b hb=>absurd (show b∈([]:List Addr) from hb) (by simp),hok,.of_eq hg⟩;refine codeAny_mono ((F _ hKb (nsK hns)).run callerA [] s₁ H ⟨[.ref a],[]⟩ [.ref a] [.ref a] _ _ hr e0 (hbind s₁ (.ref a)) (.cons rfl .nil) (hsp H hO hS)) fun r s' h=>?_;cases r with
  | error e=>exact (hCX H e s' h).elim
  | ok fl =>
   cases fl with
   | next=>exact False.elim h
   | brk=>exact False.elim h
   | cont=>exact False.elim h
   | ret u =>
    obtain⟨v,H',os,bare,un,hok',r',q⟩:=h;have q':v=.bl true:=q;subst q';obtain rfl:u=Value.bool true:=r';refine⟨rfl,OldK.of_keep fun b o e=>?_,os,bare⟩;cases q:H b with
    | none=>exact un.keep b o e q (by intro z;exact absurd (show b∈([]:List Addr) from z) (by simp)) (by simp)
    | some u =>
     rcases hO b with z | ⟨ob,xs,z⟩
     · rw[q] at z;cases z
     · have z2:=un.frzs b ob _ z;obtain⟨e1,_⟩:=hok b _ z;obtain⟨e2,_⟩:=hok' b _ z2;rw[e] at e1;cases e1;exact e2
 cases hk:K.lookup a with
 | some o =>
  have e:=KX a o hk;rw[ha] at e;cases e;refine core (fun _=>none) (fun _=>.inl rfl) (.inr ⟨_,vs.toArray,_,hk,rfl,rfl,rfl,by rw[List.size_toArray,lenV];exact hl,by simpa using rv⟩) (fun b u z=>by have z':(none:Option HO)=some u:=z;cases z') (fun b z=>absurd rfl z) fun z=>absurd rfl z
 | none =>
  refine core (fun b=>if b=a then some (.frz {cls:=.type "list",data:=.seq vs.toArray} (.lst (ns.map V.int))) else none) (fun b=>?_) (.inl (.inr ⟨{cls:=.type "list",data:=.seq vs.toArray},if_pos rfl⟩)) (fun b u z=>?_) (fun b z=>?_) fun _=>hk
  · by_cases hb:b=a
    · exact .inr ⟨_,_,if_pos hb⟩
    · exact .inl (if_neg hb)
  · by_cases hb:b=a
    · have z':=(if_pos hb).symm.trans z;cases z';subst hb;exact⟨ha,by rw[lMp];exact hl,vs,_,rv,ha⟩
    · have z':=(if_neg hb).symm.trans z;cases z'
  · by_cases hb:b=a
    · exact hb
    · exact absurd (if_neg hb) z
abbrev KOf {K:Fg} {h:Heap} (_:K.In h):Fg:=K
theorem mJ {l:PySem.W.OpenLaw} {n k:Nat} {q:Program} {loose:List Str} {XP:(Str→Option Value)→Heap→Prop} {YP:World→Heap→Prop} {d:DefRec} {K:Params→Fg} {CX:World→CXT} {sp:World→Sp} {x:Str}
 (hn:l.most=some n) (hn2:n≤sizeLine) (hdf:d.params.defaults=[]) (hr:bO k callerA)
 (hY:∀ (w:World) (h:Heap),YP w h→(K w.params).In h)
 (F:∀ (w:World) (mg:SOV) (fa:Addr) (h:Heap),(K w.params).In h→h.Ns mainGlobals mg→mg d.name=some (.ref fa) →
   ∃ fd:FuncData,(∀ (s:Shared) (u:Value),BindsTo s fd ⟨[u],[]⟩ [(x,u)]) ∧
     ∀ base:Heap,(K w.params).In base→base.Ns mainGlobals mg→fB l.prog w (K w.params) mg base (CX w) k fa fd [x] (sp w))
 (hsp:∀ (w:World) (H:Hp) (a:Addr) (ns:List Int),ns.length≤n→xQ H→SqL (K w.params) H a (ns.map V.int)→sp w [.ref a] H (fun v _=>v=.bl true) fun _ _ _=>False)
 (hCX:∀ (w:World) (H:Hp) (s:Shared) (e:Value) (s':Shared),CX w [] H s (fun _ _ _=>False) e s'→False) :
 PySem.W.WalkO q loose XP YP l.row.toRowW d [] (fun f vs=>PySem.call f vs):=by
 refine Att.attach_call hn hdf fun w s₀ s₁ mg mb fa o pm cd doc a vs ns G Y ho hd hcd hmg hobj hints hlen hg=>?_;have KX:=hY w _ Y;obtain⟨fd,hb,hF⟩:=F w mg fa _ KX G.T.g hmg;exact qT KX G.T.g G.T.b G.T.builtins G.T.nolimit hg hobj hints (Nat.le_trans hlen hn2) hr hF hb (fun H hO hS=>hsp w H a ns hlen hO hS) fun H e s'=>hCX w H s₁ e s'
end L2
/- THE LAST THEOREM (shape;LID,My.* are yours):
   My.Adr: a structure of the addresses that your layer names (classes,functions);My.Txt K t: a structure (Prop) of the equations over K;
   My.txt_mk:{K} {implicit addresses ..} (e1:nsIn K mainGlobals "law"=some (some (.ref f))) (e2:K.lookup f=some ⟨oc,od,.func (fnOf "law" "law" params body scope dV kV doc pm an cdv ct),sl⟩) (e3:codeIn K cdv "law"=true) ..:∃ t,My.Txt K t
set_option maxRecDepth 100000 in
set_option maxHeartbeats 0 in
theorem PySem.Challenge.cw_LID_holds:PySem.Challenge.rw_LID.Holds:=by
 w_on;o_law;k_head;(case hw=>w_witness2)
 k_fill
 refine L2.mJ (l:=PySem.Challenge.rw_LID) (n:=63) (k:=40) (x:="script") (CX:=fun w=>..) (sp:=fun _=>My.sp_law) rfl (by decide) rfl ⟨rfl,by decide,by decide⟩ (fun w h Y=>PySem.W.kIn_of Y) ?F ?S ?C
 case F =>
  intro w mg fa h KX G hmg;have T:∃ t,My.Txt (L2.KOf KX) t:=by
   dsimp only[L2.KOf]                          -- K must stand as «<heap const> w.params» for k_is;refine' My.txt_mk ?e1 ?e2 ?e3 ..
   (case e1=>PySem.W.k_is)                    -- in the order: a name -> its address -> its object -> its parts
   (case e2=>PySem.W.k_is)
   ..
  obtain⟨t,T⟩:=T;have e0:=hmg.symm.trans (PySem.W.mg_of KX G T.law);cases e0                                       -- fa is the law's own address;exact⟨_,fun s u=>.of_eq rfl,fun base kb nb=>My.law_fn T kb nb⟩     -- if «.of_eq rfl» comes too early: refine' ⟨_,?b,fun base kb nb=>My.law_fn T kb nb⟩;exact fun s u=>.of_eq rfl
 case S=>exact fun w H a ns hl hO hS=>..
 case C=>exact ..
(the tactic k_is has no namespace: write k_is) -/
namespace L2
open PySem PySem.Spec PyProof.Rows
abbrev CX0:CXT:=fun _ _ _ _ _ _=>False
abbrev E0:XK:=fun _ _ _=>False
theorem qH {X:Cx}:gB CX0 X E0:=fun _ _ _ _ _ _ _ h=>h.elim
structure Fun (K:Fg) (x qual:Str) (st:Stmt) (f:Addr) (fd:FuncData):Prop where
  ex:∃ (oc:Value) (od:Option Addr) (kV doc pm:Value) (an:Option Addr) (cdv ct:Value) (osl:Array (Option Value)),
    fd=PySem.W.fnOf x qual (bL st) (ak st) (a0 st) .none kV doc pm an cdv ct∧K.lookup f=some ⟨oc,od,.func fd,osl⟩∧PySem.W.codeIn K cdv qual=true
  kp:PySem.W.keepIn K (.ref f)=true
section
variable {P:Program} {w:World} {K:Fg} {mg:SOV} {base:Heap}
theorem Fun.ok {x qual:Str} {st:Stmt} {f:Addr} {fd:FuncData} {N ps:List Str} {k:Nat} {sp:Sp} (F:Fun K x qual st f fd) (S:am N ps (a0 st)) (len:∀ vs H Q E,sp vs H Q E→vs.length=ps.length)
 (hbody:∀ (cdv:Value) (A:Around) (outer:List Env) (s:Shared) (H:Hp) (vs:List V) (Q:VK) (E:XK),bO k (A.deeper (envOfC qual (a0 st) s.heap.objs.size f cdv))→sp vs H Q E →
   ∃ t,PSs (be CX0 P w K mg base N qual (a0 st) f cdv A outer s H E).nox (ak st) t∧t {nx:=fun _ H'=>Q .non H',rt:=Q} (dB N vs) H):fB P w K mg base CX0 (k+1) f fd ps sp:=by
 obtain⟨oc,od,kV,doc,pm,an,cdv,ct,osl,rfl,lk,hcd⟩:=F.ex;refine Ay lk hcd S len fun A outer s H vs Q E hr hsp=>?_;obtain⟨t,h,q⟩:=hbody cdv A outer s H vs Q E hr hsp;exact⟨t,h.nox,q⟩
theorem Fun.binds {x qual:Str} {st:Stmt} {f:Addr} {fd:FuncData} {ps:List Str} (F:Fun K x qual st f fd)
 (h:∀ (kV doc pm:Value) (an:Option Addr) (cdv ct:Value) (us:List Value),us.length=ps.length→bindArgs (PySem.W.fnOf x qual (bL st) (ak st) (a0 st) .none kV doc pm an cdv ct) ⟨us,[]⟩=pure (ps.zip us)):eC K fd ps []:=by
 obtain⟨oc,od,kV,doc,pm,an,cdv,ct,osl,rfl,lk,hcd⟩:=F.ex;exact .all (h kV doc pm an cdv ct)
theorem ee {x qual:Str} {st:Stmt} {f:Addr} {oc:Value} {od an:Option Addr} {osl:Array (Option Value)} {kV doc pm cdv ct:Value} (l:K.lookup f=some ⟨oc,od,.func (PySem.W.fnOf x qual (bL st) (ak st) (a0 st) .none kV doc pm an cdv ct),osl⟩)
 (c:PySem.W.codeIn K cdv qual=true) (k:PySem.W.keepIn K (.ref f)=true):Fun K x qual st f (PySem.W.fnOf x qual (bL st) (ak st) (a0 st) .none kV doc pm an cdv ct):=⟨⟨oc,od,kV,doc,pm,an,cdv,ct,osl,rfl,l,c⟩,k⟩
end
theorem eY {A:Around} {k:Nat} (hr:bO k A):A.units+1<cLine:=Nat.lt_of_le_of_lt (Nat.add_le_add_left (by decide:1≤64) _) hr.units
section
variable {X:Cx}
theorem pv (i:Nat) {x:Str} {pos:Pos} (hN:X.N[i]?=some x:=by rfl) (hv:Vis X.env.scope x:=by first | exact Or.inl rfl | exact Or.inr (Or.inl rfl) | exact Or.inr (Or.inr rfl)) (hd:(x==("__debug__":Str))=false:=by decide)
 (hcd:(x==("__classdict__":Str))=false:=by decide):PE X (.Name x pos) (aQ i):=wR hN hv hd hcd
end
theorem fw {A B:Prop} (h:B):if false=true then A else B:=by
 rw[if_neg Bool.false_ne_true];exact h
theorem cB {A B:Prop} (h:A):if true=true then A else B:=by
 rw[if_pos rfl];exact h
theorem bN {c A B:Prop} [Decidable c] (h1:c→A) (h2:¬ c→B):if c then A else B:=by
 by_cases h:c
 · rw[if_pos h];exact h1 h
 · rw[if_neg h];exact h2 h
def ai (H H':Hp):Prop:=∀ b o,H b=some o→H' b=some o
theorem ai.refl (H:Hp):ai H H:=fun _ _ h=>h
theorem ai.trans {H H1 H2:Hp} (a:ai H H1) (b:ai H1 H2):ai H H2:=fun c o h=>b c o (a c o h)
theorem ai.seq {K:Fg} {H H':Hp} {a:Addr} {xs:List V} (e:ai H H') (h:SqL K H a xs):SqL K H' a xs:=by
 rcases h with (h | ⟨o,h⟩) | h
 · exact .inl (.inl (e _ _ h))
 · exact .inl (.inr ⟨o,e _ _ h⟩)
 · exact .inr h
end L2
theorem eG {P:Prop} (h:∀ G:Prop,(P→G)→G):P:=h P id
set_option maxHeartbeats 4000000
namespace L2
open PySem PySem.Spec PyProof.Rows
def blk (X:Cx) (sc:Scope) (cl:List (Str×Addr)) (N':List Str) (fp:List Addr) (pins:AOs) (s:Shared) (H:Hp):Cx where
  prog:=X.prog
  w:=X.w
  K:=X.K
  mg:=X.mg
  base:=X.base
  A:=X.A
  N:=N'
  s₀:=s
  H₀:=H
  env:=compEnvC sc cl s.heap.objs.size X.env
  outer:=X.stack
  stack:=X.stack
  ex:=fp
  fn:=fun _=>false
  calm:=X.calm
  pn:=X.pn++pins
  xe:=fun _ _=>False
def aO (cells:List (Str×Addr)):List (Str×NameKind)→List (Str×Addr)→List (Str×Addr)
  | [],acc=>acc
  | (n,k)::r,acc=>aO cells r (if k==.free then (match cells.lookup n with | some c=>(n,c)::acc | none=>acc) else acc)
theorem kW (cells:List (Str×Addr)):∀ (ns:List (Str×NameKind)) (acc:List (Str×Addr)),(∀ x c,(x,c)∈acc→cells.lookup x=some c)→∀ x c,(x,c)∈aO cells ns acc→cells.lookup x=some c
 | [],acc,h,x,c,m=>h x c m
 | (n,k)::r,acc,h,x,c,m=>by
  unfold aO at m;refine kW cells r _ (fun y d q=>?_) x c m;split at q
  · split at q
    · rename_i c' e
      rcases List.mem_cons.mp q with z | z
      · cases z;exact e
      · exact h y d z
    · exact h y d q
  · exact h y d q
theorem kX (cells:List (Str×Addr)):∀ (ns:List (Str×NameKind)) (acc:List (Str×Addr)) (x:Str) (c:Addr),(x,c)∈acc→∃ d,(x,d)∈aO cells ns acc
 | [],acc,x,c,m=>⟨c,m⟩
 | (n,k)::r,acc,x,c,m=>by
  unfold aO;refine kX cells r _ x c ?_;split
  · split
    · exact mCM _ m
    · exact m
  · exact m
theorem iM (cells:List (Str×Addr)):∀ (ns:List (Str×NameKind)) (acc:List (Str×Addr)) (x:Str) (c:Addr),(x,NameKind.free)∈ns→cells.lookup x=some c→∃ d,(x,d)∈aO cells ns acc
 | [],acc,x,c,m,e=>by cases m
 | (n,k)::r,acc,x,c,m,e=>by
  rcases List.mem_cons.mp m with z | z
  · cases z;unfold aO;refine kX cells r _ n c ?_;rw[if_pos (by decide),e];exact mCS
  · unfold aO;exact iM cells r _ x c z e
theorem fm:∀ {l:List (Str×Addr)} {x:Str} {c:Addr},(x,c)∈l→∃ d,l.lookup x=some d
 | (y,d)::r,x,c,m=>by
  by_cases h:x=y
  · subst h;exact⟨d,by simp[List.lookup_cons]⟩
  · rcases List.mem_cons.mp m with z | z
    · cases z;exact absurd rfl h
    · obtain⟨d',e⟩:=fm z;refine⟨d',?_⟩;have:(x==y)=false:=by simpa using h
      simp[List.lookup_cons,this,e]
theorem gN (env:Env):∀ (ns:List (Str×NameKind)) (acc:List (Str×Addr)),(∀ y∈ns,y.2=.free→∃ c,env.cells.lookup y.1=some c) →
 (forIn (m:=Sem) ns acc fun (x:Str×NameKind) r=>if (x.2==.free)=true then (do let a ← cellOf env x.1;pure (ForInStep.yield ((x.1,a)::r))) else pure (ForInStep.yield r))=pure (aO env.cells ns acc)
 | [],acc,_=>rfl
 | (n,k)::r,acc,h=>by
  rw[List.forIn_cons];have ih:=fun acc=>gN env r acc fun y hy=>h y (mCM _ hy);unfold aO;by_cases hk:k=.free
  · subst hk;obtain⟨c,e⟩:=h (n,.free) mCS rfl;have e':env.cells.lookup n=some c:=e;simp only[cellOf,e',beq_self_eq_true,if_true,pure_bind];exact ih _
  · have hb:(k==NameKind.free)=false:=by simpa using hk
    simp only[hb,Bool.false_eq_true,if_false,pure_bind];exact ih _
theorem fz {env:Env} {sc:Scope} (h:∀ y∈sc.names,y.2=.free→∃ c,env.cells.lookup y.1=some c):closureFor sc env=pure (aO env.cells sc.names []):=by
 have q:=gN env sc.names [] h;unfold closureFor
 first
  | (rw[show (forIn (m:=Sem) sc.names ([]:List (Str×Addr)) _)=_ from q];rfl)
  | (simp only[bind_pure];exact q)
  | exact q
section
variable {X:Cx} {pins:AOs} {σ:St} {H:Hp} {s:Shared}
theorem dv {sc:Scope} {x:Str} {c:Addr} (e:(aO X.env.cells sc.names []).lookup x=some c):X.env.cells.lookup x=some c :=
 kW _ _ _ (fun _ _ m=>by cases m) x c (PySem.mem_of_lookup e)
def dF (k:Nat) (outs:List (Nat×Str)) (σ:St):St:=List.replicate k none++outs.map fun p=>(σ[p.1]?).getD none
def bb (own:List Str) (outs:List (Nat×Str)):List Str:=own++outs.map (·.2)
structure aB (X:Cx) (sc:Scope) (own:List Str) (outs:List (Nat×Str)):Prop where
  kind:sc.kind=.function
  nocell:∀ y∈sc.names,y.2≠.cell
  loc:∀ y∈sc.names,y.2=.local→sc.names.lookup y.1=some .local
  fr:∀ y∈sc.names,y.2=.free→X.env.kindOf y.1=some .cell∨X.env.kindOf y.1=some .free
  outNo:∀ p∈outs,(relabel sc X.env).names.lookup p.2≠some .local
  outN:∀ p∈outs,X.N[p.1]?=some p.2∧(X.env.scope.names.lookup p.2=some .cell∨X.env.scope.names.lookup p.2=some .free)
theorem fq {α:Type}:∀ {l:List (Str×α)} {x:Str} {k:α},l.lookup x=some k→(x,k)∈l
 | (y,d)::r,x,k,e=>by
  by_cases h:x=y
  · subst h;simp[List.lookup_cons] at e;subst e;exact mCS
  · have:(x==y)=false:=by simpa using h
    simp[List.lookup_cons,this] at e;exact mCM _ (fq e)
 | [],x,k,e=>by simp at e
theorem cP {sc:Scope} {env:Env} {x:Str} {k:NameKind} (nc:∀ y∈sc.names,y.2≠.cell) (hk:k=.cell∨k=.free) (e:(relabel sc env).names.lookup x=some k):(x,NameKind.free)∈sc.names:=by
 have m:=fq e;unfold relabel at m;obtain⟨⟨n,k'⟩,m1,m2⟩:=List.mem_map.mp m;by_cases c:(k'==NameKind.free&&env.scope.kind==.function&&env.kindOf n==some .cell)=true
 · dsimp only at m2;rw[if_pos c] at m2;cases m2;have:k'=.free:=by
    have:=(Bool.and_eq_true_iff.mp (Bool.and_eq_true_iff.mp c).1).1
    simpa using this
   subst this;exact m1
 · dsimp only at m2;rw[if_neg c] at m2;cases m2
   rcases hk with z | z
   · subst z;exact absurd rfl (nc _ m1)
   · subst z;exact m1
theorem jM {sc:Scope} {own:List Str} {outs:List (Nat×Str)} {fp:List Addr} {h':Heap} {t':Nat} (I:Inv X pins σ H s) (S:aB X sc own outs) (hf:∀ b∈fp,eU X pins H b) (hfo:∀ b∈fp,b<s.heap.objs.size)
 (hn:h'.Ns s.heap.objs.size fun _=>none) (hk:∀ b o,s.heap.get? b=some o→h'.get? b=some o) :
 Inv (blk X sc (aO X.env.cells sc.names []) (bb own outs) fp pins s H) [] (dF own.length outs σ) H {s with heap:=h',toks:=t'}:=by
 have hcells:∀ y∈sc.names,y.2=.free→∃ c,X.env.cells.lookup y.1=some c:=fun y hy e=>I.ok.has y.1 (S.fr y hy e);have ltL:∀ b,b<s.heap.objs.size→b≠s.heap.objs.size:=fun b hb=>Nat.ne_of_lt hb;refine⟨⟨I.mod,?_,I.ok.glob,I.ok.blt,Nat.le_refl _,fun x y c e1 e2=>I.ok.inj x y c (dv e1) (dv e2),fun x hx=>?_,fun x c z _=>absurd z Bool.false_ne_true,I.ok.hd,I.ok.frames,.inl rfl,fun b hb=>⟨ltL b (hfo b hb),fun x c e=>(hf b hb).2.2.2.2.1 x c (dv e)⟩,I.bs,
     Nat.le_trans I.ok.bsz I.sz,fun b o e hb=>?_,fun b hb z=>?_,I.stack,I.stkFree⟩,rfl,I.bare,Un.kept hk,⟨_,hn,fun i x v e1 e2 e3=>?_⟩,fun x c e=>?_,I.hok.fresh (Nat.le_refl _),fun x c e=>I.freeC x c (dv e),fun p hp=>?_,I.hok.kept hk,?_⟩
 · exact S.kind
 · have hm:(x,NameKind.free)∈sc.names:=by
    rcases hx with e | e
    · exact cP S.nocell (.inl rfl) e
    · exact cP S.nocell (.inr rfl) e
   obtain⟨c,e⟩:=hcells (x,.free) hm rfl;obtain⟨d,m⟩:=iM X.env.cells sc.names [] x c hm e;exact fm m
 · rcases (hf b hb).2.2.2.1 with z | z
   · exact I.ok.noex b o e z
   · exact absurd (Nat.lt_of_lt_of_le (Heap.lt_size e) (Nat.le_trans I.ok.bsz z)) (Nat.lt_irrefl _)
 · rcases List.mem_cons.mp (I.stkSub b z) with e | e
   · exact (hf b hb).2.1 e
   · exact (hf b hb).2.2.1 e
 · -- a name that is seen
   have e2':i<(dF own.length outs σ).length:=(gES.mp e2).1;by_cases hi:i<own.length
   · unfold dF at e2;rw[List.getElem?_append_left (by simpa using hi),List.getElem?_replicate] at e2;split at e2 <;> cases e2
   · have hi':own.length≤i:=Nat.not_lt.mp hi;unfold dF at e2;rw[List.getElem?_append_right (by simpa using hi'),List.length_replicate,gEM] at e2;have e1':(bb own outs)[i]?=some x:=e1;unfold bb at e1';rw[List.getElem?_append_right hi',gEM] at e1';cases q:outs[i-own.length]? with
     | none=>rw[q] at e1';cases e1'
     | some p =>
      rw[q] at e1' e2;have ex:p.2=x:=Option.some.inj e1';have ev:(σ[p.1]?).getD none=some v:=Option.some.inj e2;have hσ:σ[p.1]?=some (some v):=by
       cases z:σ[p.1]? with
       | none=>rw[z] at ev;cases ev
       | some o=>rw[z] at ev;exact congrArg some ev
      obtain⟨hN,hkd⟩:=S.outN p (mGE q);rw[ex] at hN hkd;obtain⟨m,_,hl⟩:=I.loc;obtain⟨u,r,l⟩:=hl p.1 x v hN hσ (hkd.elim (fun z=>.inr (.inl z)) fun z=>.inr (.inr z));refine⟨u,r,?_⟩
      rcases l with ⟨k,_⟩ | ⟨_,c,ec,z⟩
      · have k':X.env.scope.names.lookup x=some .local:=k
        rcases hkd with y | y <;> (rw[k'] at y;cases y)
      · have hloc:(relabel sc X.env).names.lookup x=some .local∨(relabel sc X.env).names.lookup x=some .cell∨(relabel sc X.env).names.lookup x=some .free:=e3;have zc:h'.IsCell c (some u):=by
         obtain⟨o,ho,hd⟩:=z;exact⟨o,hk c o ho,hd⟩
        rcases hloc with y | y
        · -- the block binds the name itself: then the slot is not the outer one's;excluded by the caller
          exact absurd y (fun y=>S.outNo p (mGE q) (by rw[ex];exact y))
        · have hm:(x,NameKind.free)∈sc.names:=by
           rcases y with e | e
           · exact cP S.nocell (.inl rfl) e
           · exact cP S.nocell (.inr rfl) e
          obtain⟨d,md⟩:=iM X.env.cells sc.names [] x c hm ec;obtain⟨d',ed⟩:=fm md;have e0:=dv (X:=X) (sc:=sc) ed;rw[ec] at e0;have e0':c=d':=Option.some.inj e0;subst e0';exact .inr ⟨y,c,ed,zc⟩
 · obtain⟨v,o,ho,hd⟩:=I.cell x c (dv e);exact⟨v,o,hk c o ho,hd⟩
 · have hp':p∈X.pn++pins:=by
    rcases mAp.mp hp with z | z
    · exact z
    · cases z
   obtain⟨e,n,ne,nf,d⟩:=I.pin p hp';refine⟨hk p.1 p.2 e,n,ltL p.1 (Heap.lt_size e),fun z=>?_,d⟩
   rcases List.mem_cons.mp (I.stkSub p.1 z) with y | y
   · exact ne y
   · exact nf y
 · show (dF own.length outs σ).length=(bb own outs).length;unfold dF bb;simp
end
abbrev jP (ifs:List Expr) (env:Env):Sem Bool :=
  forIn ifs true fun c r=>if r=true then do let ok ← isTrue c env (eval c env);pure (ForInStep.yield ok) else pure (ForInStep.yield r)
def gC (X:Cx) (ifs:List Expr) (t:TT):Prop :=
  ∀ (pins:AOs) (s:Shared) (σ:St) (H:Hp) (Q:Bool→Hp→Prop),Inv X pins σ H s→t σ H Q→wpAny (model X.prog X.w) X.A (jP ifs X.env) (TP X pins σ Q) X.xe s
def yh:TT:=fun _ H Q=>Q true H
theorem cf {X:Cx}:gC X [] yh:=fun pins s σ H Q I h=>wpAny_tests_nil ⟨H,I,h⟩
theorem bG {X:Cx} {c:Expr} {t:TT} (hc:PT X c t):gC X [c] t:=fun pins s σ H Q I h=>wpAny_tests_one (hc pins s σ H Q I h)
theorem qQ {prog:Program} {w:World} {A:Around} {R:Result→Shared→Prop} {s:Shared} {elt tg iter:Expr} {ifs:List Expr} {sc:Scope} {pos:Pos} {it acc:Value} {env:Env} (J:Nat→Shared→Prop)
 (turn:∀ n s,J n s→wpAny (model prog w) A (pyNext it) (fun r s1=>(r=none∧R (.ok .next) s1)∨∃ v,r=some v ∧
   wpAny (model prog w) A (letOwnedTupleGo tg it v) (fun _ s2=>wpAny (model prog w) A (assign tg env v) (fun _ s3=>wpAny (model prog w) A (jP ifs env) (fun ok s4 =>
     (ok=false∧∃ m,m<n∧J m s4)∨(ok=true∧wpAny (model prog w) A (eval elt env) (fun x s5=>wpAny (model prog w) A (call (.builtin "list.append") [acc,x]) (fun _ s6=>∃ m,m<n∧J m s6) (fun _ _=>False) s5) (fun _ _=>False) s4))
     (fun _ _=>False) s3) (fun _ _=>False) s2) (fun _ _=>False) s1) (fun _ _=>False) s)
 (n:Nat) (h:J n s):codeAny (model prog w) A (.compLoop (.ListComp elt [⟨tg,iter,ifs,0⟩] sc pos) 0 it acc env) R s:=by
 refine codeAny_loop rfl J (fun n s hJ=>?_) n h;show wpAny _ _ (Sem.onRaise (compTurn (.ListComp elt [⟨tg,iter,ifs,0⟩] sc pos) 0 it acc env) (fun x=>do noteFrame x env;theTreesLotGoes x)) _ _ s;refine wpAny_noted ?_;rw[compTurn_list];refine wB (wpAny_standAt (wB (wpAny_mono (turn n s hJ) (fun r s1 h1=>?_) fun _ _ f=>f.elim)))
 rcases h1 with ⟨hr,h1⟩ | ⟨v,hr,h1⟩
 · subst hr;exact wP h1
 · subst hr;refine wB (wpAny_mono h1 (fun _ s2 h2=>?_) fun _ _ f=>f.elim);refine wB (wpAny_mono h2 (fun _ s3 h3=>?_) fun _ _ f=>f.elim);refine wB (wpAny_mono h3 (fun ok s4 h4=>?_) fun _ _ f=>f.elim)
   rcases h4 with ⟨e,h4⟩ | ⟨e,h4⟩
   · subst e;exact wP ⟨rfl,h4⟩
   · subst e;refine wB (wB (wpAny_mono h4 (fun x s5 h5=>?_) fun _ _ f=>f.elim));exact wB (wpAny_mono h5 (fun _ s6 h6=>wP (wP ⟨rfl,h6⟩)) fun _ _ f=>f.elim)
def tLC (wi:TI) (k:Nat) (outs:List (Nat×Str)) (g:TG) (tc:TT) (te:TE):TE:=fun σ H Q=>wi σ H fun J H1=>∀ D,H1 D=none →
  ∃ W:Nat→Nat→St→Hp→Prop,(∃ m,W 0 m (dF k outs σ) (upd H1 D (.lst [])))∧∀ i m σ' H',W i m σ' H' →
    (J.stop i H'∧Q (.ref D) H')∨(J.go i H'∧∃ N:St→Hp→Prop,(∀ σ2 H2,N σ2 H2→∃ m',m'<m∧W (i+1) m' σ2 H2)∧∀ x H2,J.yld i H' x H2→g x σ' H2 fun σ3 H3=>tc σ3 H3 fun b H4 =>
      if b=true then te σ3 H4 fun v H5=>∃ ys,H5 D=some (.lst ys)∧ys.length<sizeLine∧N σ3 (upd H5 D (.lst (ys++[v]))) else N σ3 H4)
set_option maxHeartbeats 8000000 in
theorem nh {X:Cx} {elt tg iter:Expr} {ifs:List Expr} {sc:Scope} {pos cpos:Pos} {wi:TI} {g:TG} {tc:TT} {te:TE} {own:List Str} {outs:List (Nat×Str)} {use:Option (Value→Sem Unit)} {PQ:VSP} {pins:AOs} {s:Shared} {σ:St} {H:Hp} {Q:VK} (hc:X.calm=true) (S:aB X sc own outs) (hi:PI X tg iter wi)
 (hb:∀ (fp:List Addr) (pins:AOs) (s:Shared) (H:Hp),PG (blk X sc (aO X.env.cells sc.names []) (bb own outs) fp pins s H) tg g ∧
   gC (blk X sc (aO X.env.cells sc.names []) (bb own outs) fp pins s H) ifs tc∧PE (blk X sc (aO X.env.cells sc.names []) (bb own outs) fp pins s H) elt te)
 (hs:∀ x,foldedSetIterable iter X.env x=pure x) (I:Inv X pins σ H s) (h:tLC wi own.length outs g tc te σ H Q)
 (fin:∀ (D c:Addr) (m6:SOV) (H5:Hp) (s6:Shared),Inv X pins σ H5 s6→s6.heap.Ns c m6→H5 c=none→X.env.locals≠c→X.s₀.heap.objs.size≤c→(∀ x c',X.env.cells.lookup x=some c'→c'≠c)→(∀ p∈X.pn++pins,p.1≠c)→Q (.ref D) H5 →
   compPost (model X.prog X.w) X.A X.xe use PQ (.ref D) c (.ok .next) s6) :
 wpAny (model X.prog X.w) X.A (comprehension (.ListComp elt [⟨tg,iter,ifs,0⟩] sc pos) sc X.env cpos (newList []) false (eval iter X.env) use) PQ X.xe s:=by
 have hcl:closureFor sc X.env=pure (aO X.env.cells sc.names []):=fz fun y hy e=>I.ok.has y.1 (S.fr y hy e);refine wpAny_comprehension_free (use:=use) rfl hs hcl S.kind S.loc (thn (hi pins s σ H _ I h) fun v s1 h1=>thn h1 fun itv s2 h2=>?_);obtain⟨it,fp,tn,J,H2,e,I2,T,st2,f2,h2⟩:=h2;subst e;refine wpAny_newObj_type ?_;generalize hD:s2.heap.objs.size=D;have fr:H2 D=none:=by rw[← hD];exact I2.fresh
 obtain⟨W,⟨m0,w0⟩,turn⟩:=h2 D fr;have I3:Inv X pins σ (upd H2 D (.lst [])) {s2 with heap:=s2.heap.push {cls:=.type "list",data:=.seq ([]:List Value).toArray}}:=by
  have q:=I2.lnew (t':=s2.toks) (ys:=[]) (its:=[]) .nil (Nat.zero_le _);rw[hD] at q;exact q
 have hfp:∀ b∈fp,b<s2.heap.objs.size:=fun b hb=>by
  obtain⟨o,e,_⟩:=T.obj _ _ st2 b hb;exact Heap.lt_size e
 have f3:∀ b∈fp,eU X pins (upd H2 D (.lst [])) b:=fun b hb=>⟨by rw[ad (by rw[← hD];exact Nat.ne_of_lt (hfp b hb))];exact (f2 b hb).1,(f2 b hb).2⟩;generalize hS:({s2 with heap:=s2.heap.push {cls:=.type "list",data:=.seq ([]:List Value).toArray}}:Shared)=s3 at I3;have k3:∀ b o,s2.heap.get? b=some o→s3.heap.get? b=some o:=fun b o e=>by rw[← hS];exact hpS _ e
 have z3:s2.heap.objs.size≤s3.heap.objs.size:=by rw[← hS];show _≤(s2.heap.push _).objs.size;rw[Heap.size_push];exact Nat.le_succ _
 have st3:tn 0 s3.heap:=T.keep _ _ _ st2 fun b _ o e=>k3 b o e;refine wpAny_newFunctionEnv S.nocell (fun y hy=>by cases hy) (fun h4 hn4 sb4=>?_) S.kind;have k4:∀ b o,s3.heap.get? b=some o→h4.get? b=some o:=fun b o e=>sb4.extBut b o (Nat.ne_of_lt (Heap.lt_size e)) (hpS _ e);have hn4':h4.Ns s3.heap.objs.size fun _=>none:=by
  have q:=hn4;simp only[List.reverse_nil,List.lookup_nil] at q;exact q
 have I4:=jM (t':=s3.toks+([]:List (Str×Value)).length) I3 S f3 (fun b hb=>Nat.lt_of_lt_of_le (hfp b hb) z3) hn4' k4;have st4:tn 0 h4:=T.keep _ _ _ st3 fun b _ o e=>k4 b o e;obtain⟨hg,hif,he⟩:=hb fp pins s3 (upd H2 D (.lst []));generalize hY:blk X sc (aO X.env.cells sc.names []) (bb own outs) fp pins s3 (upd H2 D (.lst []))=Y at I4 hg hif he;have yenv:Y.env=compEnvC sc (aO X.env.cells sc.names []) s3.heap.objs.size X.env:=by rw[← hY];rfl
 have statY:∀ {H':Hp},(∀ b∈fp,H' b=none)→∀ b∈fp,eU Y [] H' b:=fun {H'} hn b hb=>by
  subst hY;obtain⟨_,a1,a2,a3,a4,a5⟩:=f3 b hb;refine⟨hn b hb,Nat.ne_of_lt (Nat.lt_of_lt_of_le (hfp b hb) z3),fun z=>?_,.inl hb,fun x c e=>a4 x c (dv e),fun p hp=>?_⟩
  · rcases List.mem_cons.mp (I3.stkSub b z) with y | y
    · exact a1 y
    · exact a2 y
  · rcases mAp.mp hp with z | z
    · exact a5 p z
    · cases z
 have loop:codeAny (model X.prog X.w) X.A (.compLoop (.ListComp elt [⟨tg,iter,ifs,0⟩] sc pos) 0 (.ref it) (.ref D) Y.env) (compPost (model X.prog X.w) X.A X.xe use PQ (.ref D) s3.heap.objs.size)
  {s3 with heap:=h4,toks:=s3.toks+([]:List (Str×Value)).length}:=by
  have hP:Y.prog=X.prog:=by rw[← hY];rfl
  have hw:Y.w=X.w:=by rw[← hY];rfl
  have hA:Y.A=X.A:=by rw[← hY];rfl
  have hK:Y.K=X.K:=by rw[← hY];rfl
  have hxe:Y.xe=fun _ _=>False:=by rw[← hY];rfl
  have hcm:Y.calm=true:=by rw[← hY];exact hc
  rw[← hP,← hw,← hA];rw[← hP,← hw,← hK] at T;refine qQ (fun n s'=>∃ i σ' H',Inv Y [] σ' H' s'∧tn i s'.heap∧(∀ b∈fp,H' b=none)∧W i n σ' H') ?_ m0 ⟨0,_,_,I4,st4,fun b hb=>(f3 b hb).1,w0⟩;rintro n s5 ⟨i,σ5,H5,I5,st5,fr5,w5⟩
  rcases turn i n σ5 H5 w5 with ⟨stop,q⟩ | ⟨go,N,hN,step⟩
  · refine thn (T.done Y rfl rfl rfl hcm i [] s5 σ5 H5 _ I5 (statY fr5) st5 stop) fun r s6 zz97=>?_;obtain⟨hr,I6⟩:=zz97;refine .inl ⟨hr,?_⟩;obtain⟨m6,hn6,_⟩:=I6.loc;have yl:Y.env.locals=s3.heap.objs.size:=by rw[yenv];rfl
    have u6:Un (frs X.stack) fp (upd H2 D (.lst [])) H5 s3.heap s6.heap:=by
     have q:=I6.base;subst hY;exact q
    have I7:Inv X pins σ H5 s6:=by
     refine I3.call' (s':=s6) (ch:=fp) ?_ u6 ?_ I6.bare fun b hb=>?_
     · have q:=I6.os;subst hY;exact q
     · intro a o e;have q:=I6.hok a o e;subst hY;exact q
     · obtain⟨_,a1,a2,a3,a4,a5⟩:=f3 b hb;exact⟨a3,a1,a4,a5⟩
    rw[hP,hw,hA];refine fin D s3.heap.objs.size m6 H5 s6 I7 (by rw[← yl];exact hn6) (by rw[← yl];exact I6.free) (Nat.ne_of_lt I3.lt) I3.sz (fun x c e=>?_) (fun p hp=>Nat.ne_of_lt (Heap.lt_size (I3.pin p hp).1)) q;obtain⟨v,o,z,_⟩:=I3.cell x c e;exact Nat.ne_of_lt (Heap.lt_size z)
  · refine thn (T.item Y rfl rfl rfl hcm i [] s5 σ5 H5 _ I5 (statY fr5) st5 go) fun r s6 zz98=>?_;obtain⟨u,hr,h6⟩:=zz98;refine .inr ⟨u,hr,?_⟩;refine thn h6 fun _ s7 zz99=>?_;obtain⟨x,H7,I7,r7,y7,st7,fr7⟩:=zz99;have I7':=I7.pinned (statY fr7) (T.obj _ _ st7);have pinsOk:∀ {σ8:St} {H8:Hp} {s8:Shared},Inv Y ([]++gk fp s7.heap) σ8 H8 s8→N σ8 H8→∃ m,m<n∧∃ i σ' H',Inv Y [] σ' H' s8∧tn i s8.heap∧(∀ b∈fp,H' b=none)∧W i m σ' H':=fun {σ8 H8 s8} I8 n8=>by
     obtain⟨m',hm,w8⟩:=hN σ8 H8 n8;refine⟨m',hm,i+1,σ8,H8,I8.unpinned,T.keep _ _ _ st7 fun b hb o e=>(I8.pin (b,o) (List.mem_append_right _ (List.mem_append_right _ (bW hb e)))).1,fun b hb=>?_,w8⟩;obtain⟨o,e,d⟩:=T.obj _ _ st7 b hb;exact (I8.pin (b,o) (List.mem_append_right _ (List.mem_append_right _ (bW hb e)))).2.1
    have toF:∀ {α:Type} {t:Sem α} {Q':α→Shared→Prop} {s':Shared},wpAny (model Y.prog Y.w) Y.A t Q' Y.xe s'→wpAny (model Y.prog Y.w) Y.A t Q' (fun _ _=>False) s':=fun {α t Q' s'} z=>wpAny_mono z (fun _ _ a=>a) fun _ _ a=>by rw[hxe] at a;exact a
    refine toF (thn (hg _ s7 σ5 H7 x u _ I7' r7 (step x H7 y7)) fun _ s8 zz100=>?_);obtain⟨σ8,H8,I8,q8⟩:=zz100;refine toF (thn (hif _ s8 σ8 H8 _ I8 q8) fun ok s9 zz101=>?_);obtain⟨H9,I9,q9⟩:=zz101;cases ok with
    | false =>
     rw[if_neg Bool.false_ne_true] at q9;exact .inl ⟨rfl,pinsOk I9 q9⟩
    | true =>
     rw[if_pos rfl] at q9;refine .inr ⟨rfl,toF (thn (he _ s9 σ8 H9 _ I9 q9) fun y s10 zz102=>?_)⟩;obtain⟨v,H10,I10,r10,ys,hy,hz,n10⟩:=zz102;have ap:=jf (X:=Y) _ s10 σ8 H10 (.ref D) [v] (.ref D) [y] (fun _ H'=>N σ8 H') I10 rfl (.cons r10 .nil) ⟨D,ys,v,rfl,rfl,hy,hz,n10⟩;refine toF (thn ap fun _ s11 zz103=>?_);obtain⟨_,H11,I11,_,n11⟩:=zz103;exact pinsOk I11 n11
 rw[yenv] at loop;refine codeAny_compStart_list ?_ (T.self _ 0 _ _ _ st4 ?_)
 · exact loop
 · exact loop
theorem dW {X:Cx} {elt tg iter:Expr} {ifs:List Expr} {sc:Scope} {pos:Pos} {wi:TI} {g:TG} {tc:TT} {te:TE} {own:List Str} {outs:List (Nat×Str)} (hc:X.calm=true) (S:aB X sc own outs) (hi:PI X tg iter wi)
 (hb:∀ (fp:List Addr) (pins:AOs) (s:Shared) (H:Hp),PG (blk X sc (aO X.env.cells sc.names []) (bb own outs) fp pins s H) tg g ∧
   gC (blk X sc (aO X.env.cells sc.names []) (bb own outs) fp pins s H) ifs tc∧PE (blk X sc (aO X.env.cells sc.names []) (bb own outs) fp pins s H) elt te)
 (hs:∀ x,foldedSetIterable iter X.env x=pure x:=by intro _;rfl):PE X (.ListComp elt [⟨tg,iter,ifs,0⟩] sc pos) (tLC wi own.length outs g tc te):=by
 intro pins s σ H Q I h;rw[eval_ListComp];exact nh hc S hi hb hs I h fun D c m6 H5 s6 I6 n6 f6 cl sz cc cp q=>⟨m6,n6,fun h7 sb7=>⟨.ref D,H5,I6.turned (t':=s6.toks) (fun b o hb e=>(sb7.2 b hb).trans e) f6 cl.symm (.inr sz) cc cp,rfl,q⟩⟩
def Itx (x:Str):It:=⟨fun i _=>i<x.cps.size,fun i H v H'=>H'=H∧∃ c,x.cps.toList[i]?=some c∧v=.str ⟨#[c]⟩,fun i _=>x.cps.size≤i⟩
def BS (tl:TE):TI:=fun σ H R=>tl σ H fun v H1=>∃ x,v=.str x∧R (Itx x) H1
structure ej (J:It) (xs:List V) (Ok:Hp→Prop):Prop where
  go:∀ i H,Ok H→i<xs.length→J.go i H
  yld:∀ i H x H',J.go i H→Ok H→J.yld i H x H'→H'=H∧xs[i]?=some x
  stop:∀ i H,Ok H→xs.length≤i→J.stop i H
theorem aI {K:Fg} {a:Addr} {xs:List V}:ej (Itl K a) xs (fun H=>SqL K H a xs) :=
 ⟨fun i H q hi=>⟨xs,xs[i],q,by simp[hi]⟩,fun i H x H' _ q y=>⟨y.1,y.2 xs q⟩,fun i H q hi=>⟨xs,q,hi⟩⟩
theorem dn {K:Fg} {a:Addr} {xs:List V}:ej (Itt K a) xs (fun H=>SqT K H a xs) :=
 ⟨fun i H q hi=>⟨xs,xs[i],q,by simp[hi]⟩,fun i H x H' _ q y=>⟨y.1,y.2 xs q⟩,fun i H q hi=>⟨xs,q,hi⟩⟩
def cq (lo:Int) (n:Nat):List V:=(List.range n).map fun (i:Nat)=>V.int (lo+(i:Int))
theorem ba {lo:Int} {n:Nat}:ej (Itr lo n) (cq lo n) (fun _=>True) :=
 ⟨fun i H _ hi=>by show i<n;simpa [cq] using hi,fun i H v H' hg _ y=>by
   obtain⟨e,h⟩:=y;refine⟨e,?_⟩;have hi:i<n:=hg;rw[h];simp[cq,hi],fun i H _ hi=>by show n≤i;simpa [cq] using hi⟩
theorem xA {J:It} {xs:List V} {Ok:Hp→Prop} (Y:ej J xs Ok) {g:TG} {tb:TS} {D:gD} {σ:St} {H:Hp} (Pv:Nat→St→Hp→Prop) (h0:Pv 0 σ H) (hl:∀ i σ H,i≤xs.length→Pv i σ H→Ok H)
 (hs:∀ i x σ H,xs[i]?=some x→Pv i σ H→g x σ H fun σ2 H2=>tb {D with nx:=Pv (i+1),ct:=Pv (i+1),bk:=D.nx} σ2 H2) (hd:∀ σ H,Pv xs.length σ H→D.nx σ H) :
 ∃ W:Nat→Nat→St→Hp→Prop,(∃ m,W 0 m σ H)∧∀ i m σ H,W i m σ H →
  (J.stop i H∧D.nx σ H)∨(J.go i H∧∃ N:St→Hp→Prop,(∀ σ' H',N σ' H'→∃ m',m'<m∧W (i+1) m' σ' H')∧∀ x H',J.yld i H x H'→g x σ H' fun σ2 H2=>tb {D with nx:=N,ct:=N,bk:=D.nx} σ2 H2):=by
 refine⟨fun i m σ H=>m=xs.length-i∧i≤xs.length∧Pv i σ H,⟨xs.length,by simp,Nat.zero_le _,h0⟩,?_⟩;rintro i m σ H ⟨rfl,hi,p⟩;have q:=hl i σ H hi p;by_cases hlt:i<xs.length
 · refine .inr ⟨Y.go i H q hlt,Pv (i+1),fun σ' H' p'=>⟨xs.length-(i+1),Nat.sub_succ_lt_self _ _ hlt,rfl,hlt,p'⟩,fun x H' y=>?_⟩;obtain⟨e,y2⟩:=Y.yld i H x H' (Y.go i H q hlt) q y;subst e;exact hs i x σ _ y2 p
 · have e:i=xs.length:=by lia
   subst e;exact .inl ⟨Y.stop _ H q (Nat.le_refl _),hd σ H p⟩
section
variable {X:Cx}
end
theorem iF {α:Type}:∀ {l:List α},l.length=1→∃ a,l=[a]:=by
 intro l h;cases l with
 | nil=>cases h
 | cons a r=>cases List.eq_nil_of_length_eq_zero (Nat.succ.inj h);exact⟨a,rfl⟩
theorem dl {α:Type}:∀ {l:List α},l.length=2→∃ a b,l=[a,b]:=by
 intro l h;cases l with
 | nil=>cases h
 | cons a r=>obtain⟨b,rfl⟩:=iF (Nat.succ.inj h);exact⟨a,b,rfl⟩
theorem ou {α:Type}:∀ {l:List α},l.length=3→∃ a b c,l=[a,b,c]:=by
 intro l h;cases l with
 | nil=>cases h
 | cons a r=>obtain⟨b,c,rfl⟩:=dl (Nat.succ.inj h);exact⟨a,b,c,rfl⟩
theorem j4 {α:Type}:∀ {l:List α},l.length=4→∃ a b c d,l=[a,b,c,d]:=by
 intro l h;cases l with
 | nil=>cases h
 | cons a r=>obtain⟨b,c,d,rfl⟩:=ou (Nat.succ.inj h);exact⟨a,b,c,d,rfl⟩
section
variable {CX:CXT} {P:Program} {w:World} {K:Fg} {mg:SOV} {base:Heap} {N:List Str} {q:Str} {sc:Scope} {f:Addr} {cd:Value} {A:Around} {outer:List Env} {s:Shared} {H:Hp} {E:XK}
theorem bd:(be CX P w K mg base N q sc f cd A outer s H E).nox.K=K:=rfl
end
structure Fn (P:Program) (w:World) (K:Fg) (mg:SOV) (base:Heap) (x:Str) (k:Nat) (ps:List Str) (sp:Sp):Prop where
  ex:∃ (f:Addr) (fd:FuncData),fB P w K mg base CX0 k f fd ps sp∧mg x=some (.ref f)∧PySem.W.keepIn K (.ref f)=true∧eC K fd ps []
def Def (K:Fg) (mg:SOV) (x:Str) (st:Stmt):Prop:=∃ (f:Addr) (fd:FuncData),Fun K x x st f fd∧mg x=some (.ref f)
section
variable {X:Cx} {x:Str} {p pos:Pos} {e:Expr} {es:List Expr} {t:TA} {k:Nat} {ps:List Str} {sp:Sp}
theorem ab (F:Fn X.prog X.w X.K X.mg X.base x k ps sp) (hr:bO k X.A) (hg:Gl X x) (ha:PA X (e::es) t) (hdb:(x==("__debug__":Str))=false:=by decide)
 (he:starEach (e::es) X.env=(false,eval e X.env)::starEach es X.env:=by rfl) (hpl:(backTo pos (starEach es X.env)).any (·.1)=false:=by rfl):PE X (.Call (.Name x p) (e::es) [] pos) (ij sp [] E0 t):=by
 obtain⟨f,fd,G,hm,hk,hb⟩:=F.ex;exact tJ G hr hg hm hk hb .nil qH ha (hdb:=hdb) (he:=he) (hpl:=hpl)
end
section
variable {P:Program} {w:World} {K:Fg} {mg:SOV} {base:Heap}
theorem Def.fn {x:Str} {st:Stmt} {N ps:List Str} {k:Nat} {sp:Sp} (D:Def K mg x st) (S:am N ps (a0 st)) (len:∀ vs H Q E,sp vs H Q E→vs.length=ps.length)
 (hb:∀ (kV doc pm:Value) (an:Option Addr) (cdv ct:Value) (us:List Value),us.length=ps.length→bindArgs (PySem.W.fnOf x x (bL st) (ak st) (a0 st) .none kV doc pm an cdv ct) ⟨us,[]⟩=pure (ps.zip us))
 (hbody:∀ (f:Addr) (cdv:Value) (A:Around) (outer:List Env) (s:Shared) (H:Hp) (vs:List V) (Q:VK) (E:XK),bO k (A.deeper (envOfC x (a0 st) s.heap.objs.size f cdv))→sp vs H Q E →
   ∃ t,PSs (be CX0 P w K mg base N x (a0 st) f cdv A outer s H E).nox (ak st) t∧t {nx:=fun _ H'=>Q .non H',rt:=Q} (dB N vs) H):Fn P w K mg base x (k+1) ps sp:=by
 obtain⟨f,fd,F,hm⟩:=D;exact⟨f,fd,F.ok S len (hbody f),hm,F.kp,F.binds hb⟩
end
section
variable {X:Cx} {p pos:Pos} {e:Expr} {es:List Expr} {t:TA}
theorem bJ (hm:X.mg "len"=none) (ha:PA X (e::es) t) (hg:Gl X "len":=by rfl)
 (he:starEach (e::es) X.env=(false,eval e X.env)::starEach es X.env:=by rfl) (hpl:(backTo pos (starEach es X.env)).any (·.1)=false:=by rfl):PE X (.Call (.Name "len" p) (e::es) [] pos) (tCB (sX X.K) t):=iz jV hg hm PySem.boot_len ha (he:=he) (hpl:=hpl)
theorem oQ:bootBuiltins "int"=some (.type "int"):=by decide +kernel
theorem mf:bootBuiltins "bool"=some (.type "bool"):=by decide +kernel
theorem gR:bootBuiltins "isinstance"=some (.builtin "isinstance"):=by decide +kernel
theorem xZ (hm:X.mg "int"=none) (ha:PA X (e::es) t) (hg:Gl X "int":=by rfl)
 (he:starEach (e::es) X.env=(false,eval e X.env)::starEach es X.env:=by rfl) (hpl:(backTo pos (starEach es X.env)).any (·.1)=false:=by rfl) :
 PE X (.Call (.Name "int" p) (e::es) [] pos) (tCB (fun xs H Q=>(∃ i,xs=[.int i]∧Q (.int i) H)∨∃ k,xs=[.bl k]∧Q (.int (if k then 1 else 0)) H) t):=eK oO hg hm oQ ha (he:=he) (hpl:=hpl)
variable {o:Expr} {to:TE} {apos cpos:Pos}
theorem cr (ho:PE X o to) (ha:PA X [e] t) (hbase:attributeBase o "append" X.env (eval o X.env)=eval o X.env:=by rfl) (hline:(apos.endLine==cpos.line)=true:=by rfl)
 (hfew:((backTo cpos (starEach [e] X.env)).all (fun x=>!x.1)&&(backToKw cpos (keywordEach [] X.env)).all (fun x=>x.1.isSome)&&decide ([e].length+([]:List Keyword).length+(if ([]:List Keyword).isEmpty then 0 else 1)<30))=true:=by rfl)
 (hs:starEach [e] X.env=(false,eval e X.env)::starEach [] X.env:=by rfl) (hplain:(backTo cpos (starEach [] X.env)).any (·.1)=false:=by rfl) :
 PE X (.Call (.Attribute o "append" apos) [e] [] cpos) (tBM X.K "list" mT to t):=uO PySem.F.plainAttrs_list PySem.F.slot_list_append PySem.F.type_list_append jf ho ha hbase hfew hline hs hplain
end
def aA (J:It) (g:TG) (a:TS) (D:gD) (σ:St) (H1:Hp):Prop:=∃ W:Nat→Nat→St→Hp→Prop,(∃ m,W 0 m σ H1)∧∀ i m σ H,W i m σ H →
  (J.stop i H∧D.nx σ H)∨(J.go i H∧∃ N:St→Hp→Prop,(∀ σ' H',N σ' H'→∃ m',m'<m∧W (i+1) m' σ' H')∧∀ x H',J.yld i H x H'→g x σ H' fun σ2 H2=>a {D with nx:=N,ct:=N,bk:=D.nx} σ2 H2)
theorem rF {x:V} {H:Hp} {R:Bool→Hp→Prop}:BlR x H R=∃ k,x=.bl k∧R k H:=propext ⟨fun h=>by obtain⟨v,a,b⟩:=h;exact⟨v,a,b⟩,fun h=>by obtain⟨v,a,b⟩:=h;exact⟨v,a,b⟩⟩
theorem u4 {x:V} {H:Hp} {R:Int→Hp→Prop}:xS x H R=∃ k,x=.int k∧R k H:=propext ⟨fun h=>by obtain⟨v,a,b⟩:=h;exact⟨v,a,b⟩,fun h=>by obtain⟨v,a,b⟩:=h;exact⟨v,a,b⟩⟩
@[simp] theorem By {wi:TI} {g:TG} {a:TS} {D:gD} {σ:St} {H:Hp}:vX wi g a D σ H=wi σ H fun J H1=>aA J g a D σ H1:=rfl
theorem aA.by {J:It} {xs:List V} {Ok:Hp→Prop} (Y:ej J xs Ok) {g:TG} {tb:TS} {D:gD} {σ:St} {H:Hp} (Pv:Nat→St→Hp→Prop) (h0:Pv 0 σ H) (hl:∀ i σ H,i≤xs.length→Pv i σ H→Ok H)
 (hs:∀ i x σ H,xs[i]?=some x→Pv i σ H→g x σ H fun σ2 H2=>tb {D with nx:=Pv (i+1),ct:=Pv (i+1),bk:=D.nx} σ2 H2) (hd:∀ σ H,Pv xs.length σ H→D.nx σ H):aA J g tb D σ H:=xA Y Pv h0 hl hs hd
def bt (J:It) (g:TG) (tc:TT) (te:TE) (Q:VK) (σ0:St) (H1:Hp) (L:Addr):Prop :=
  ∃ W:Nat→Nat→St→Hp→Prop,(∃ m,W 0 m σ0 (upd H1 L (.lst [])))∧∀ i m σ' H',W i m σ' H' →
    (J.stop i H'∧Q (.ref L) H')∨(J.go i H'∧∃ N:St→Hp→Prop,(∀ σ2 H2,N σ2 H2→∃ m',m'<m∧W (i+1) m' σ2 H2)∧∀ x H2,J.yld i H' x H2→g x σ' H2 fun σ3 H3=>tc σ3 H3 fun b H4 =>
      if b=true then te σ3 H4 fun v H5=>∃ ys,H5 L=some (.lst ys)∧ys.length<sizeLine∧N σ3 (upd H5 L (.lst (ys++[v]))) else N σ3 H4)
@[simp] theorem dC {wi:TI} {k:Nat} {outs:List (Nat×Str)} {g:TG} {tc:TT} {te:TE} {σ:St} {H:Hp} {Q:VK}:tLC wi k outs g tc te σ H Q=wi σ H fun J H1=>∀ L,H1 L=none→bt J g tc te Q (dF k outs σ) H1 L:=rfl
@[simp] theorem zq {k:Nat} {outs:List (Nat×Str)} {σ:St}:dF k outs σ=List.replicate k none++outs.map fun p=>(σ[p.1]?).getD none:=rfl
section
variable {D:gD} {σ:St} {H:Hp} {Q:VK} {R:Bool→Hp→Prop} {ta tb tc te:TE} {t u v:TT} {a b:TS} {x y:V} {i:Nat} {g:TG} {al:TA} {S:List V→Hp→Prop} {r r':R2}
@[simp] theorem ir:vU a b D σ H=a {D with nx:=b D} σ H:=rfl
@[simp] theorem AT:uF D σ H=D.nx σ H:=rfl
@[simp] theorem gi:nV te g D σ H=te σ H fun x H1=>g x σ H1 D.nx:=rfl
@[simp] theorem bh {N:St→Hp→Prop}:dD i x σ H N=N (σ.set i (some x)) H:=rfl
@[simp] theorem jA:vV te D σ H=te σ H D.rt:=rfl
@[simp] theorem AV:uI te D σ H=te σ H fun _ H1=>D.nx σ H1:=rfl
@[simp] theorem Bx:yq t a b D σ H=t σ H fun k H1=>if k=true then a D σ H1 else b D σ H1:=rfl
@[simp] theorem Bn:aQ i σ H Q=∃ v,σ[i]?=some (some v)∧Q v H:=propext ⟨fun h=>by obtain⟨v,a,b⟩:=h;exact⟨v,a,b⟩,fun h=>by obtain⟨v,a,b⟩:=h;exact⟨v,a,b⟩⟩
@[simp] theorem Cq:tC x σ H Q=Q x H:=rfl
@[simp] theorem Ck:tOp r ta tb σ H Q=ta σ H fun x H1=>tb σ H1 fun y H2=>r x y H2 Q:=rfl
@[simp] theorem Cm:tIf t ta tb σ H Q=t σ H fun c H1=>if c=true then ta σ H1 Q else tb σ H1 Q:=rfl
@[simp] theorem AQ:bU te σ H R=te σ H fun x H'=>∃ k,x=.bl k∧R k H':=congrArg (te σ H) (funext fun x=>funext fun H1=>rF)
@[simp] theorem zk:tB te σ H R=te σ H fun x H'=>∃ k,x=.bl k∧R k H':=congrArg (te σ H) (funext fun x=>funext fun H1=>rF)
@[simp] theorem zp:pP r r' ta tb tc σ H Q=ta σ H fun x H1=>tb σ H1 fun y H2=>r x y H2 fun z H3=>∃ k,z=.bl k∧(if k=true then tc σ H3 fun w' H4=>r' y w' H4 Q else Q (.bl false) H3):=rfl
@[simp] theorem Br:yn t σ H R=t σ H fun c H1=>R (!c) H1:=rfl
@[simp] theorem Bz:wj t u σ H R=t σ H fun c H1=>if c=true then u σ H1 R else R false H1:=rfl
@[simp] theorem Cj:tOr t u σ H R=t σ H fun c H1=>if c=true then R true H1 else u σ H1 R:=rfl
@[simp] theorem AX:yv ta tb σ H Q=ta σ H fun x H1=>∃ c,x=.bl c∧if c=true then tb σ H1 Q else Q (.bl false) H1:=rfl
@[simp] theorem Bq:yk ta tb σ H Q=ta σ H fun x H1=>∃ c,x=.bl c∧if c=true then Q (.bl true) H1 else tb σ H1 Q:=rfl
@[simp] theorem sW:uD ta σ H Q=ta σ H fun x H1=>∃ c,x=.bl c∧Q (.bl (!c)) H1:=rfl
@[simp] theorem Bt:ii σ H S=S [] H:=rfl
@[simp] theorem dr:cb te al σ H S=te σ H fun x H1=>al σ H1 fun xs H2=>S (x::xs) H2:=rfl
@[simp] theorem iu {rr:List V→Hp→VK→Prop}:tCB rr al σ H Q=al σ H fun vs H1=>rr vs H1 Q:=rfl
@[simp] theorem AW {sp:Sp} {dvs:List V} {E:XK}:ij sp dvs E al σ H Q=al σ H fun vs H1=>sp (vs++dvs) H1 Q E:=rfl
@[simp] theorem Bo:sr al σ H Q=al σ H fun xs H1=>xs.length≤sizeLine∧∀ p,H1 p=none→Q (.ref p) (upd H1 p (.tup xs)):=rfl
@[simp] theorem Bu:su al σ H Q=al σ H fun xs H1=>xs.length≤sizeLine∧∀ p,H1 p=none→Q (.ref p) (upd H1 p (.lst xs)):=rfl
@[simp] theorem Co {K:Fg} {T:String} {rr:V→List V→Hp→VK→Prop}:tBM K T rr te al σ H Q=te σ H fun x H1=>tyV K T x H1∧al σ H1 fun xs H2=>rr x xs H2 Q:=rfl
@[simp] theorem Ch {rr:V→Option Int→Option Int→Hp→VK→Prop} {tl th:TO}:tSl rr te tl th σ H Q=te σ H fun x H1=>tl σ H1 fun l H2=>th σ H2 fun u H3=>rr x l u H3 Q:=rfl
@[simp] theorem y6 {O:Option Int→Hp→Prop}:js σ H O=O none H:=rfl
@[simp] theorem AS {O:Option Int→Hp→Prop}:pO te σ H O=te σ H fun x H1=>∃ i,x=.int i∧O (some i) H1:=congrArg (te σ H) (funext fun x=>funext fun H1=>u4)
@[simp] theorem Ci {C:Int→Int→Prop} {f:Int→Int→V}:rI C f x y H Q=∃ i j,x=.int i∧y=.int j∧C i j∧Q (f i j) H:=propext ⟨fun h=>by obtain⟨i,j,a,b,c,d⟩:=h;exact⟨i,j,a,b,c,d⟩,fun h=>by obtain⟨i,j,a,b,c,d⟩:=h;exact⟨i,j,a,b,c,d⟩⟩
@[simp] theorem Bp {f:Int→Int→V}:rI0 f x y H Q=∃ i j,x=.int i∧y=.int j∧Q (f i j) H:=propext ⟨fun h=>by obtain⟨i,j,a,b,c⟩:=h;exact⟨i,j,a,b,c⟩,fun h=>by obtain⟨i,j,a,b,c⟩:=h;exact⟨i,j,a,b,c⟩⟩
@[simp] theorem Cn:rEq x y H Q=(sL x y=true∧Q (.bl (decide (x=y))) H):=rfl
@[simp] theorem Cl:rNe x y H Q=(sL x y=true∧Q (.bl (!decide (x=y))) H):=rfl
@[simp] theorem Bw {K:Fg}:wJ K x y H Q=∃ p xs i v,x=.ref p∧y=.int i∧SqL K H p xs∧atI xs i=some v∧Q v H:=propext ⟨fun h=>by obtain⟨p,xs,i,v,a,b,c,d,e⟩:=h;exact⟨p,xs,i,v,a,b,c,d,e⟩,fun h=>by obtain⟨p,xs,i,v,a,b,c,d,e⟩:=h;exact⟨p,xs,i,v,a,b,c,d,e⟩⟩
@[simp] theorem Bv:zw x y H Q=∃ z i c,x=.str z∧y=.int i∧z.length≤sizeLine∧atI z.cps.toList i=some c∧Q (.str ⟨#[c]⟩) H:=rfl
@[simp] theorem dM:yh σ H R=R true H:=rfl
@[simp] theorem zm {N:List Str} {vs:List V}:dB N vs=vs.map some++List.replicate (N.length-vs.length) none:=rfl
@[simp] theorem AR {RR:It→Hp→Prop}:uS al σ H RR=al σ H fun vs H1=>∃ j:Int,vs=[.int j]∧-(2 ^ 62)≤j∧j<2 ^ 62∧RR (Itr 0 j.toNat) H1:=rfl
@[simp] theorem zn {K:Fg} {RR:It→Hp→Prop}:uT K te σ H RR=te σ H fun x H1=>∃ a,x=.ref a∧(∃ xs,SqL K H1 a xs)∧RR (Itl K a) H1:=rfl
@[simp] theorem AU {RR:It→Hp→Prop}:BS te σ H RR=te σ H fun v H1=>∃ x,v=.str x∧RR (Itx x) H1:=rfl
end
theorem nd1 (x:Str):[x].Nodup:=by simp
end L2
namespace L2
open PySem PySem.Spec PyProof.Rows PySem.SeqAt
mutual
inductive fT (K:Fg) (H:Hp):V→PyData→Prop
  | non:fT K H .non .none
  | bl (b:Bool):fT K H (.bl b) (.bool b)
  | int (i:Int):fT K H (.int i) (.int i)
  | str (x:Str):fT K H (.str x) (.str x)
  | lst {a:Addr} {xs:List V} {ds:PDs}:SqL K H a xs→lh K H xs ds→fT K H (.ref a) (.list ds)
  | tup {a:Addr} {xs:List V} {ds:PDs}:SqT K H a xs→lh K H xs ds→fT K H (.ref a) (.tuple ds)
inductive lh (K:Fg) (H:Hp):List V→PDs→Prop
  | nil:lh K H [] []
  | cons {x:V} {d:PyData} {xs:List V} {ds:PDs}:fT K H x d→lh K H xs ds→lh K H (x::xs) (d::ds)
end
section
variable {X:Cx} {pins:AOs} {σ:St} {H:Hp} {s:Shared}
theorem fT.reads (I:Inv X pins σ H s) {v:V} {d:PyData} (h:fT X.K H v d):∀ {u:Value},aG v u→∃ as,Reads s.heap u d as:=by
 refine fT.rec (motive_1:=fun v d _=>∀ {u:Value},aG v u→∃ as,Reads s.heap u d as) (motive_2:=fun xs ds _=>∀ {us:List Value},aD xs us→∃ as,ReadsAll s.heap us ds as) ?_ ?_ ?_ ?_ ?_ ?_ ?_ ?_ h
 · intro u r;cases (show u=Value.none from r);exact⟨_,.none⟩
 · intro b u r;cases (show u=Value.bool b from r);exact⟨_,.bool b⟩
 · intro i u r;obtain⟨t,e⟩:=(show ∃ t,u=Value.int i t from r);rw[e];exact⟨_,.int i t⟩
 · intro x u r;obtain⟨t,e⟩:=(show ∃ t,u=Value.str x t from r);rw[e];exact⟨_,.str x t⟩
 · intro a xs ds hq hd ih u r;cases r;obtain⟨its,rv,p,hz⟩:=I.list hq;obtain⟨as,ra⟩:=ih rv;obtain⟨o,ho,hc,n,hdt⟩:=p.isList;exact⟨_,.list ho hc hdt (by simpa using ra)⟩
 · intro a xs ds hq hd ih u r;cases r;obtain⟨its,rv,p,hz⟩:=I.tuple hq;obtain⟨as,ra⟩:=ih rv;obtain⟨o,ho,hc,n,hdt⟩:=p;exact⟨_,.tuple ho hc hdt (by simpa using ra)⟩
 · intro us r;cases r;exact⟨_,.nil⟩
 · intro x d xs ds a b ih1 ih2 us r;cases r with
   | cons r t =>
    obtain⟨as,x⟩:=ih1 r;obtain⟨bs,y⟩:=ih2 t;exact⟨_,.cons x y⟩
inductive AG (K:Fg) (x y:V) (H:Hp) (Q:VK):Prop
  | mk (d e:PyData) (h1:fT K H x d) (h2:fT K H y e) (h3:shaped d=true) (h4:shaped e=true) (q:Q (.bl (!PyData.eqv d e)) H):AG K x y H Q
def wI (K:Fg):R2:=fun x y H Q=>AG K x y H Q
theorem xb (hu:X.A.units+64<cLine):OpR X (compareOp .NotEq) (wI X.K):=by
 intro pins s σ H x y v u Q I rx ry h;obtain⟨d,e,hd,he,sd,se,q⟩:=h;obtain⟨as,ra⟩:=hd.reads I rx;obtain⟨bs,rb⟩:=he.reads I ry;exact ne_dataH ra rb sd se hu ⟨.bl _,H,I,rfl,q⟩
end
section
variable {K:Fg} {H H':Hp}
theorem ai.seqT {a:Addr} {xs:List V} (e:ai H H') (h:SqT K H a xs):SqT K H' a xs:=by
 rcases h with (h | ⟨o,h⟩) | h
 · exact .inl (.inl (e _ _ h))
 · exact .inl (.inr ⟨o,e _ _ h⟩)
 · exact .inr h
end
theorem ic {c:TT} {tb:TS} {D:gD} {σ:St} {H:Hp} (Pv:St→Hp→Prop) (μ:St→Hp→Nat) (h0:Pv σ H)
 (hs:∀ σ H,Pv σ H→c σ H fun b H1=>if b=true then ∃ N:St→Hp→Prop,(∀ σ' H',N σ' H'→∃ m',m'<μ σ H∧(m'=μ σ' H'∧Pv σ' H'))∧tb {D with nx:=N,ct:=N,bk:=D.nx} σ H1 else D.nx σ H1):pz c tb D σ H:=by
 refine⟨fun m σ H=>m=μ σ H∧Pv σ H,⟨_,rfl,h0⟩,?_⟩;rintro m σ H ⟨rfl,p⟩;exact hs σ H p
end L2
namespace L2
open PySem PySem.Spec PyProof.Rows
section
variable {X:Cx} {p pos:Pos} {e:Expr} {t:TA} {o:Expr} {to:TE} {apos cpos:Pos}
theorem fA:bootBuiltins "list"=some (.type "list"):=by decide +kernel
theorem l0:bootBuiltins "tuple"=some (.type "tuple"):=by decide +kernel
theorem xX {es:List Expr} (hm:X.mg "list"=none) (ha:PA X (e::es) t) (hg:Gl X "list":=by rfl)
 (he:starEach (e::es) X.env=(false,eval e X.env)::starEach es X.env:=by rfl) (hpl:(backTo pos (starEach es X.env)).any (·.1)=false:=by rfl) :
 PE X (.Call (.Name "list" p) (e::es) [] pos) (tCB (fun xs H Q=>∃ p ys,xs=[.ref p]∧(SqL X.K H p ys∨SqT X.K H p ys)∧∀ l,H l=none→Q (.ref l) (upd H l (.lst ys))) t):=eK jU hg hm fA ha (he:=he) (hpl:=hpl)
end
@[simp] theorem xp:∀ ys:List Str,(Txt.join ("":Str) ys).cps.toList=(ys.map fun y=>y.cps.toList).flatten:=by
 intro ys;have e:("":Str)=Str.empty:=by decide +kernel
 rw[e];have key:∀ ys:List Str,(Str.join Str.empty ys).cps.toList=(ys.map fun y=>y.cps.toList).flatten:=by
  intro ys
  induction ys with
  | nil=>rfl
  | cons y r ih =>
   cases r with
   | nil=>simp[Str.join]
   | cons y2 r2 =>
    show ((y++Str.empty++Str.join Str.empty (y2::r2):Str)).cps.toList=_;rw[Str.append_empty,Str.cps_append,Array.toList_append,ih];rfl
 rw[show Txt.join Str.empty ys=Str.join Str.empty ys from StrLaws.glued_eq_join _ _];exact key ys
theorem bt.by {J:It} {xs:List V} {Ok:Hp→Prop} (Y:ej J xs Ok) {g:TG} {tc:TT} {te:TE} {Q:VK} {σ0:St} {H1:Hp} {L:Addr} (Pv:Nat→St→Hp→Prop) (h0:Pv 0 σ0 (upd H1 L (.lst []))) (hl:∀ i σ H,i≤xs.length→Pv i σ H→Ok H)
 (hs:∀ i x σ H,xs[i]?=some x→Pv i σ H→g x σ H fun σ3 H3=>tc σ3 H3 fun b H4=>if b=true then te σ3 H4 fun v H5=>∃ ys,H5 L=some (.lst ys)∧ys.length<sizeLine∧Pv (i+1) σ3 (upd H5 L (.lst (ys++[v]))) else Pv (i+1) σ3 H4)
 (hd:∀ σ H,Pv xs.length σ H→Q (.ref L) H):bt J g tc te Q σ0 H1 L:=by
 refine⟨fun i m σ H=>m=xs.length-i∧i≤xs.length∧Pv i σ H,⟨xs.length,by simp,Nat.zero_le _,h0⟩,?_⟩;rintro i m σ H ⟨rfl,hi,p⟩;have q:=hl i σ H hi p;by_cases hlt:i<xs.length
 · refine .inr ⟨Y.go i H q hlt,Pv (i+1),fun σ' H' p'=>⟨xs.length-(i+1),Nat.sub_succ_lt_self _ _ hlt,rfl,hlt,p'⟩,fun x H' y=>?_⟩;obtain⟨e,y2⟩:=Y.yld i H x H' (Y.go i H q hlt) q y;subst e;exact hs i x σ _ y2 p
 · have e:i=xs.length:=by lia
   subst e;exact .inl ⟨Y.stop _ H q (Nat.le_refl _),hd σ H p⟩
theorem aB.of {X:Cx} {sc:Scope} {own:List Str} {outs:List (Nat×Str)} (fsc:Scope) (N:List Str) (hX:X.env.scope=fsc:=by rfl) (hN:X.N=N:=by rfl) (k:sc.kind=.function:=by rfl) (nc:∀ y∈sc.names,y.2≠.cell:=by decide +kernel) (l:∀ y∈sc.names,y.2=.local→sc.names.lookup y.1=some .local:=by decide +kernel)
 (fr:∀ y∈sc.names,y.2=.free→fsc.names.lookup y.1=some .cell∨fsc.names.lookup y.1=some .free:=by decide +kernel)
 (no:∀ p∈outs,sc.names.lookup p.2≠some .local:=by decide +kernel) (hn:∀ p∈outs,N[p.1]?=some p.2∧(fsc.names.lookup p.2=some .cell∨fsc.names.lookup p.2=some .free):=by decide +kernel):aB X sc own outs:=by
 subst hX hN;refine⟨k,nc,l,fr,fun p hp e=>no p hp ?_,hn⟩;have m:=fq e;unfold relabel at m;obtain⟨⟨n,k'⟩,m1,m2⟩:=List.mem_map.mp m;dsimp only at m2;split at m2
 · cases m2
 · cases m2;exact l _ m1 rfl
section
variable {X:Cx}
def mS (K:Fg):R2:=fun x y H Q=>∃ l b xs zs,x=.ref l∧y=.ref b∧SqL K H l xs∧SqL K H b zs∧xs.length+zs.length≤sizeLine∧∀ p,H p=none→Q (.ref p) (upd H p (.lst (xs++zs)))
theorem cz:OpR X (binaryOp .Add) (mS X.K):=by
 intro pins s σ H x y v u Q I rx ry h;obtain⟨l,b,xs,zs,rfl,rfl,hH,hB,hz,q⟩:=h;cases rx;cases ry;obtain⟨its,r,pl,_⟩:=I.list hH;obtain⟨its2,r2,pl2,_⟩:=I.list hB;have h1:=r.length;have h2:=r2.length;obtain⟨⟨cls,dd,data,sl⟩,ho,hc,n,hd⟩:=pl.isList;obtain⟨⟨cls2,dd2,data2,sl2⟩,ho2,hc2,n2,hd2⟩:=pl2.isList;simp only at hc hd hc2 hd2;subst hc hd hc2 hd2;have e:its.toArray++its2.toArray=(its++its2).toArray:=by simp
 refine concat_meets ⟨_,ho,rfl⟩ ⟨_,ho2,rfl⟩ noFill_list_add seq_list_add PySem.F.slot_list_add PySem.F.entry_list_add (PySem.F.args_list_add_2 _ _) (list_addW l b its.toArray its2.toArray n n2 dd dd2 sl sl2 (by simp;lia)) ⟨ho,ho2,?_⟩;rw[e];exact⟨.ref _,_,I.lnew (t':=s.toks) (r.append r2) (by rw[lAp];lia),rfl,q _ I.fresh⟩
end
section
variable {X:Cx} {e:Expr} {t:TA} {o:Expr} {to:TE} {apos cpos:Pos}
variable {p pos:Pos} {es:List Expr}
end
section
variable {κ:Type} [DecidableEq κ]
def bj (kvs:List (κ×V)) (k:κ):Option V:=(kvs.find? fun kv=>decide (kv.1=k)).map (·.2)
def bT (kvs:List (κ×V)) (k:κ) (v:V):List (κ×V) :=
  if (kvs.any fun kv=>decide (kv.1=k))=true then kvs.map (fun kv=>if kv.1=k then (kv.1,v) else kv) else kvs++[(k,v)]
theorem bA {p:κ×V} {r:List (κ×V)} {k:κ} (e:p.1=k):bj (p::r) k=some p.2:=by simp[bj,List.find?_cons,e]
theorem bB {p:κ×V} {r:List (κ×V)} {k:κ} (e:¬ p.1=k):bj (p::r) k=bj r k:=by simp[bj,List.find?_cons,e]
theorem df (k:κ):∀ kvs:List (κ×V),(kvs.any fun kv=>decide (kv.1=k))=(bj kvs k).isSome
 | []=>rfl
 | p::r=>by
  rw[List.any_cons];by_cases e:p.1=k
  · simp only[bA e,decide_eq_true e,Bool.true_or,Option.isSome_some]
  · rw[bB e,decide_eq_false e,Bool.false_or];exact df k r
theorem kz (k j:κ) (y:V):∀ kvs:List (κ×V),bj (kvs.map fun kv=>if kv.1=k then (kv.1,y) else kv) j=(bj kvs j).map fun x=>if j=k then y else x
 | []=>rfl
 | p::r=>by
  have ih:=kz k j y r;rw[List.map_cons];by_cases h:p.1=k
  · rw[if_pos h];by_cases e:p.1=j
    · rw[bA (p:=(p.1,y)) e,bA e,Option.map_some,if_pos (e.symm.trans h)]
    · rw[bB (p:=(p.1,y)) e,bB e,ih]
  · rw[if_neg h];by_cases e:p.1=j
    · rw[bA (p:=p) e,bA e,Option.map_some,if_neg (fun z=>h (e.trans z))]
    · rw[bB (p:=p) e,bB e,ih]
theorem j9 (k j:κ) (y:V):∀ kvs:List (κ×V),bj kvs k=none→bj (kvs++[(k,y)]) j=if j=k then some y else bj kvs j
 | [],_=>by
  by_cases e:k=j
  · rw[if_pos e.symm];exact bA (p:=(k,y)) e
  · rw[if_neg (fun z=>e z.symm)];exact bB (p:=(k,y)) e
 | p::r,hn=>by
  rw[List.cons_append];have hk:¬ p.1=k:=fun z=>by rw[bA z] at hn;cases hn
  rw[bB hk] at hn;have ih:=j9 k j y r hn;by_cases e:p.1=j
  · rw[bA e,bA e,if_neg (fun z=>hk (e.trans z))]
  · rw[bB e,bB e,ih]
theorem ig (kvs:List (κ×V)) (k j:κ) (y:V):bj (bT kvs k y) j=if j=k then some y else bj kvs j:=by
 unfold bT;by_cases a:(kvs.any fun kv=>decide (kv.1=k))=true
 · rw[if_pos a,kz];rw[df] at a;by_cases e:j=k
   · obtain⟨x,hx⟩:=Option.isSome_iff_exists.mp a;rw[if_pos e,e,hx,Option.map_some,if_pos rfl]
   · rw[if_neg e];cases bj kvs j with
     | none=>rfl
     | some x=>rw[Option.map_some,if_neg e]
 · rw[if_neg a];refine j9 k j y kvs ?_;rw[df] at a;cases q:bj kvs k with
   | none=>rfl
   | some x=>rw[q] at a;exact (a rfl).elim
theorem bM (kvs:List (κ×V)) (k:κ) (v:V):(bT kvs k v).length≤kvs.length+1:=by
 unfold bT;split
 · rw[lMp];lia
 · rw[lAp,List.length_cons,List.length_nil];lia
theorem qp {kvs:List (κ×V)} {k:κ} (v:V) (h:bj kvs k=none):bT kvs k v=kvs++[(k,v)]:=by
 unfold bT;rw[df,h];exact if_neg (by decide)
theorem dz.isSome_eq {o:Option V} {u:Option Value} (r:dz o u):o.isSome=u.isSome:=by
 cases o with
 | none=>cases u with
  | none=>rfl
  | some _=>exact (show False from r).elim
 | some _=>cases u with
  | none=>exact (show False from r).elim
  | some _=>rfl
theorem dz.getD {o:Option V} {u:Option Value} {d:V} {d':Value} (r:dz o u) (rd:aG d d'):aG (o.getD d) (u.getD d'):=by
 cases o with
 | none=>cases u with
  | none=>exact rd
  | some _=>exact (show False from r).elim
 | some _=>cases u with
  | none=>exact (show False from r).elim
  | some _=>exact r
theorem KV.val {kvs:List (κ×V)} {vs:List (κ×Value)} (r:KV kvs vs) (k:κ):dz (bj kvs k) (valueAt vs k):=by
 unfold KV at r
 induction r with
 | nil=>exact True.intro
 | @cons p q ps qs h t ih =>
  obtain⟨h1,h2⟩:=h;by_cases e:p.1=k
  · have e':q.1=k:=h1.symm.trans e;have b:valueAt (q::qs) k=some q.2:=by simp[valueAt,List.find?_cons,e']
    rw[bA e,b];exact h2
  · have e':¬ q.1=k:=fun z=>e (h1.trans z);have b:valueAt (q::qs) k=valueAt qs k:=by simp[valueAt,List.find?_cons,e']
    rw[bB e,b];exact ih
theorem KV.any {kvs:List (κ×V)} {vs:List (κ×Value)} (r:KV kvs vs) (k:κ):(kvs.any fun kv=>decide (kv.1=k))=vs.any fun kv=>decide (kv.1=k):=by
 unfold KV at r
 induction r with
 | nil=>rfl
 | cons h t ih=>rw[List.any_cons,List.any_cons,ih,h.1]
theorem KV.repl {kvs:List (κ×V)} {vs:List (κ×Value)} (r:KV kvs vs) (k:κ) {y:V} {u:Value} (ry:aG y u) :
 KV (kvs.map fun kv=>if kv.1=k then (kv.1,y) else kv) (vs.map fun kv=>if kv.1=k then (kv.1,u) else kv):=by
 unfold KV at r ⊢
 induction r with
 | nil=>exact .nil
 | @cons p q ps qs h t ih =>
  rw[List.map_cons,List.map_cons];refine .cons ?_ ih;obtain⟨h1,h2⟩:=h;by_cases e:p.1=k
  · rw[if_pos e,if_pos (h1.symm.trans e)];exact⟨h1,ry⟩
  · rw[if_neg e,if_neg (fun z=>e (h1.trans z))];exact⟨h1,h2⟩
theorem KV.put {kvs:List (κ×V)} {vs:List (κ×Value)} (r:KV kvs vs) (k:κ) {y:V} {u:Value} (ry:aG y u):KV (bT kvs k y) (stored vs k u):=by
 unfold bT stored;rw[r.any k];by_cases e:(vs.any fun kv=>decide (kv.1=k))=true
 · rw[if_pos e,if_pos e];exact r.repl k ry
 · rw[if_neg e,if_neg e];exact Paired.snoc r ⟨rfl,ry⟩
theorem KV.length {kvs:List (κ×V)} {vs:List (κ×Value)} (r:KV kvs vs):kvs.length=vs.length:=Paired.length r
end
theorem eX {P:Program} {w:World} {k:Key} {u:Value} (r:aG (kV k) u):(ar P w).is k u=true:=by
 cases k with
 | inl i=>obtain⟨t,e⟩:=(show ∃ t,u=Value.int i t from r);subst e;exact kM P w i t
 | inr x=>obtain⟨t,e⟩:=(show ∃ t,u=Value.str x t from r);subst e;exact dZ P w x t
theorem jh {P:Program} {w:World}:∀ {ks:List Key} {us:List Value},aD (ks.map kV) us→ItemsAre (ar P w) ks us
 | [],_,r=>by rw[List.map_nil] at r;cases r;exact .nil
 | k::ks,_,r=>by
  rw[List.map_cons] at r;cases r with
  | cons h t=>exact .cons (eX h) (jh t)
abbrev KT (H:Hp):List (List Key×V)→List (List Key×Addr×Value)→Prop:=Paired fun p q=>p.1=q.1∧H q.2.1=some (.tup (p.1.map kV))∧aG p.2 q.2.2
theorem KT.val {H:Hp} {kvs:List (List Key×V)} {xs:List (List Key×Addr×Value)} (r:KT H kvs xs) (k:List Key):dz (bj kvs k) ((atKey xs k).map (·.2)):=by
 induction r with
 | nil=>exact True.intro
 | @cons p q ps qs h t ih =>
  obtain⟨h1,_,h2⟩:=h;by_cases e:p.1=k
  · have e':q.1=k:=h1.symm.trans e;have b:atKey (q::qs) k=some q.2:=by simp[atKey,List.find?_cons,e']
    rw[bA e,b];exact h2
  · have e':¬ q.1=k:=fun z=>e (h1.trans z);have b:atKey (q::qs) k=atKey qs k:=by simp[atKey,List.find?_cons,e']
    rw[bB e,b];exact ih
theorem KT.repl {H:Hp} {kvs:List (List Key×V)} {xs:List (List Key×Addr×Value)} (r:KT H kvs xs) (k:List Key) {y:V} {u:Value} (ry:aG y u) :
 KT H (kvs.map fun kv=>if kv.1=k then (kv.1,y) else kv) (xs.map (putAt k u)):=by
 induction r with
 | nil=>exact .nil
 | @cons p q ps qs h t ih =>
  rw[List.map_cons,List.map_cons];refine .cons ?_ ih;obtain⟨h1,h2,h3⟩:=h;unfold putAt;by_cases e:p.1=k
  · rw[if_pos e,if_pos (h1.symm.trans e)];exact⟨h1,h2,ry⟩
  · rw[if_neg e,if_neg (fun z=>e (h1.trans z))];exact⟨h1,h2,h3⟩
theorem KT.put {H:Hp} {kvs:List (List Key×V)} {xs:List (List Key×Addr×Value)} (r:KT H kvs xs) (k:List Key) {b:Addr} {y:V} {u:Value} (hb:H b=some (.tup (k.map kV))) (ry:aG y u) :
 KT H (bT kvs k y) (storedH xs k b u):=by
 have e:(kvs.any fun kv=>decide (kv.1=k))=(atKey xs k).isSome:=by
  rw[df,(r.val k).isSome_eq,Option.isSome_map]
 unfold bT storedH;rw[e];by_cases q:(atKey xs k).isSome=true
 · rw[if_pos q,if_pos q];exact r.repl k ry
 · rw[if_neg q,if_neg q];exact Paired.snoc r ⟨rfl,hb,ry⟩
theorem KT.keeps {H H':Hp} {kvs:List (List Key×V)} {xs:List (List Key×Addr×Value)} (r:KT H kvs xs) (ht:∀ b ys,H b=some (.tup ys)→H' b=some (.tup ys)):KT H' kvs xs :=
 Paired.mapP r fun _ _ z=>⟨z.1,ht _ _ z.2.1,z.2.2⟩
section
variable {P:Program} {w:World} {H:Hp} {h:Heap} {a:Addr}
theorem uM {u:HO} (ok:HOk P w H h) (e:Rd H a u):bm P w H h a u:=e.ok ok
theorem iJ {kvs:List (Key×V)} (ok:HOk P w H h) (e:Rd H a (.dK kvs)):kvs.length≤sizeLine∧(a==sysModules)=false∧∃ vs,KV kvs vs∧h.DictOf (ar P w) a vs :=
 show bm P w H h a (.dK kvs) from uM ok e
theorem kP {kvs:List (Key×V)} (ok:HOk P w H h) (e:H a=some (.dK kvs)):kvs.length≤sizeLine∧(a==sysModules)=false∧∃ vs,KV kvs vs∧h.DictOf (ar P w) a vs:=iJ ok (.inl e)
theorem gx {ks:List Key} (ok:HOk P w H h) (e:H a=some (.tup (ks.map kV))):(tupleKind (ar P w)).is h ks a:=by
 obtain⟨_,its,r,o,h1,h2,n,h3⟩:=(show bm P w H h a (.tup (ks.map kV)) from ok a _ e);exact⟨o,its.toArray,n,h1,h2,h3,by simpa using jh r⟩
theorem iI {kvs:List (List Key×V)} (ok:HOk P w H h) (e:Rd H a (.dT kvs)):kvs.length≤sizeLine∧(a==sysModules)=false ∧
 ∃ xs,KT H kvs xs∧h.DictOfH (tupleKind (ar P w)) a xs:=by
 obtain⟨z,y,xs,r,o,es,ep,h1,h2,h3,h4,h5⟩:=(show bm P w H h a (.dT kvs) from uM ok e);refine⟨z,y,xs,r,o,es,ep,h1,h2,h3,h4,fun x hx=>?_,h5⟩;have all:∀ {l:List (List Key×V)} {m:List (List Key×Addr×Value)},KT H l m→∀ x∈m,(tupleKind (ar P w)).is h x.1 x.2.1:=by
  intro l m q
  induction q with
  | nil=>intro x hx;exact nomatch hx
  | @cons p q ps qs hq t ih =>
   intro x hx
   rcases List.mem_cons.mp hx with e | hx
   · subst e;exact gx ok (by rw[← hq.1];exact hq.2.1)
   · exact ih x hx
 exact all r x hx
theorem Az {kvs:List (List Key×V)} (ok:HOk P w H h) (e:H a=some (.dT kvs)):kvs.length≤sizeLine∧(a==sysModules)=false ∧
 ∃ xs,KT H kvs xs∧h.DictOfH (tupleKind (ar P w)) a xs:=iI ok (.inl e)
end
def bP (H:Hp) (a:Addr) (y:V) (r:Option V):Prop :=
  (∃ kvs k,Rd H a (.dK kvs)∧y=kV k∧r=bj kvs k)∨∃ kvs k b,Rd H a (.dT kvs)∧y=.ref b∧H b=some (.tup (k.map kV))∧r=bj kvs k
def lj (H:Hp) (a:Addr) (y v:V) (H':Hp):Prop :=
  (∃ kvs k,H a=some (.dK kvs)∧y=kV k∧kvs.length<sizeLine∧H'=upd H a (.dK (bT kvs k v))) ∨
  ∃ kvs k b,H a=some (.dT kvs)∧y=.ref b∧H b=some (.tup (k.map kV))∧kvs.length<sizeLine∧H'=upd H a (.dT (bT kvs k v))
theorem bP.k {H:Hp} {a:Addr} {kvs:List (Key×V)} {k:Key} (e:H a=some (.dK kvs)):bP H a (kV k) (bj kvs k):=.inl ⟨kvs,k,.inl e,rfl,rfl⟩
theorem lj.k {H:Hp} {a:Addr} {kvs:List (Key×V)} {k:Key} {v:V} (e:H a=some (.dK kvs)) (hl:kvs.length<sizeLine):lj H a (kV k) v (upd H a (.dK (bT kvs k v))):=.inl ⟨kvs,k,e,rfl,hl,rfl⟩
section
variable {X:Cx} {pins:AOs} {σ:St} {H:Hp} {s:Shared} {a:Addr} {y v:V} {u r:Value} {o:Option V} {A:Around} {E:VSP}
theorem Inv.big (I:Inv X pins σ H s):sysModules<s.heap.objs.size:=by
 have h:mainGlobals<s.heap.objs.size:=(I.mod.glob.keeps I.bk).lt;exact Nat.lt_trans (by decide) h
theorem oI {Q:VSP} (hu:A.units+1<cLine) (I:Inv X pins σ H s) (g:bP H a y (some v)) (ry:aG y u) (h:∀ w' s',Inv X pins σ H s'→aG v w'→Q w' s') :
 wpAny (model X.prog X.w) A (getItem (.ref a) u) Q E s:=by
 rcases g with ⟨kvs,k,e,ey,l⟩ | ⟨kvs,k,b,e,ey,eb,l⟩
 · subst ey;obtain⟨z,hd,vs,rel,dd⟩:=iJ I.hok e;obtain⟨w',hw,rw'⟩:=dz.some_of (v:=v) (o:=valueAt vs k) (by rw[l];exact rel.val k);exact wpAny_getItem_of (eX ry) dd.mapOf hw (h w' _ (I.tok _) rw')
 · subst ey;cases (show u=Value.ref b from ry);obtain⟨z,hd,xs,rel,dd⟩:=iI I.hok e;obtain⟨w',hw,rw'⟩:=dz.some_of (v:=v) (o:=(atKey xs k).map (·.2)) (by rw[l];exact rel.val k);obtain⟨p,hp,hp2⟩:=oMS.mp hw;refine wpAny_getItem_heap (tupleKind_room_in1 hu) (gx I.hok eb) dd hp ?_;rw[hp2];exact h w' _ (I.tok _) rw'
theorem C5 {Q:VSP} (hu:A.units+1<cLine) (I:Inv X pins σ H s) (g:bP H a y o) (ry:aG y u) (h:∀ s',Inv X pins σ H s'→Q (.bool o.isSome) s') :
 wpAny (model X.prog X.w) A (compareOp .In u (.ref a)) Q E s:=by
 rcases g with ⟨kvs,k,e,ey,l⟩ | ⟨kvs,k,b,e,ey,eb,l⟩
 · subst ey;obtain⟨z,hd,vs,rel,dd⟩:=iJ I.hok e;refine wpAny_in_of (eX ry) hd dd.mapOf ?_;rw[← (rel.val k).isSome_eq,← l];exact h _ (I.tok _)
 · subst ey;cases (show u=Value.ref b from ry);obtain⟨z,hd,xs,rel,dd⟩:=iI I.hok e;refine wpAny_in_heap (tupleKind_room_in1 hu) (gx I.hok eb) hd dd ?_;have q:=(rel.val k).isSome_eq;rw[Option.isSome_map] at q;rw[← q,← l];exact h _ (I.tok _)
theorem um {Q:VSP} (hu:A.units+1<cLine) (I:Inv X pins σ H s) (g:bP H a y o) (ry:aG y u) (h:∀ s',Inv X pins σ H s'→Q (.bool (!o.isSome)) s') :
 wpAny (model X.prog X.w) A (compareOp .NotIn u (.ref a)) Q E s:=by
 rcases g with ⟨kvs,k,e,ey,l⟩ | ⟨kvs,k,b,e,ey,eb,l⟩
 · subst ey;obtain⟨z,hd,vs,rel,dd⟩:=iJ I.hok e;refine wpAny_notIn_of (eX ry) hd dd.mapOf ?_;rw[← (rel.val k).isSome_eq,← l];exact h _ (I.tok _)
 · subst ey;cases (show u=Value.ref b from ry);obtain⟨z,hd,xs,rel,dd⟩:=iI I.hok e;refine wpAny_notIn_heap (tupleKind_room_in1 hu) (gx I.hok eb) hd dd ?_;have q:=(rel.val k).isSome_eq;rw[Option.isSome_map] at q;rw[← q,← l];exact h _ (I.tok _)
theorem fP {h':Heap} {t':Nat} {ob:HO} (I:Inv X pins σ H s) (mu:Mut (H a)) (hs:Heap.SameBut a s.heap h') (he:∃ q,h'.get? a=some q) (new:bm X.prog X.w (upd H a ob) h' a ob) :
 Inv X pins σ (upd H a ob) {s with heap:=h',toks:=t'} :=
 I.write (x:=a) (e:=a) mu (.inl rfl) (fun b q hb z=>(hs.2 b hb).trans z) he new
theorem jS {P:Program} {w:World} {H':Hp} {h':Heap} {kvs:List (Key×V)} {vs:List (Key×Value)} (z:kvs.length≤sizeLine) (hd:(a==sysModules)=false) (rel:KV kvs vs) (dd:h'.DictOf (ar P w) a vs) :
 bm P w H' h' a (.dK kvs):=⟨z,hd,vs,rel,dd⟩
theorem oH {H':Hp} {Q:Unit→Shared→Prop} (hu:A.units+1<cLine) (I:Inv X pins σ H s) (g:lj H a y v H') (ry:aG y u) (rv:aG v r) (h:∀ s',Inv X pins σ H' s'→Q () s') :
 wpAny (model X.prog X.w) A (setItem (.ref a) u r) Q E s:=by
 rcases g with ⟨kvs,k,e,ey,l,eH⟩ | ⟨kvs,k,b,e,ey,eb,l,eH⟩
 · subst ey eH;obtain⟨z,hd,vs,rel,dd⟩:=kP I.hok e;have hz:vs.length≤sizeLine:=by rw[← rel.length];exact z
   have hl:(bT kvs k v).length≤sizeLine:=by have:=bM kvs k v;lia
   refine wpAny_setItem_pairs (hsz:=hz) (eX ry) dd fun h' dd' hs=>h _ ?_;have he:∃ q,h'.get? a=some q:=let ⟨q,_,_,hq,_⟩:=dd';⟨q,hq⟩;exact fP I (by rw[e];exact True.intro) hs he (jS hl hd (rel.put k rv) dd')
 · subst ey eH;cases (show u=Value.ref b from ry);obtain⟨z,hd,xs,rel,dd⟩:=Az I.hok e;have hz:xs.length≤sizeLine:=by rw[← Paired.length rel];exact z
   have hl:(bT kvs k v).length≤sizeLine:=by have:=bM kvs k v;lia
   refine wpAny_setItem_heap (hsz:=hz) (tupleKind_room_in1 hu) (gx I.hok eb) dd fun h' dd' hs=>h _ ?_;obtain⟨q,es,ep,hq,h2,h3,h4,_,h5⟩:=dd';refine fP I (by rw[e];exact True.intro) hs ⟨q,hq⟩ ⟨hl,hd,_,(rel.put k eb rv).keeps fun c ys ec=>?_,q,es,ep,hq,h2,h3,h4,h5⟩;rw[ad (Am ec e (fun z=>nomatch z))];exact ec
end
section
variable {X:Cx} {pins:AOs} {σ:St} {H:Hp} {s:Shared} {a:Addr} {kvs:List (Key×V)} {k:Key} {u:Value} {A:Around} {E:VSP}
end
def xR (i:Expr):Prop:=∀ ov iv,subscripted i false ov iv=operate [ov,iv] (getItem ov iv)
theorem mK {prog:Program} {w:World} {A:Around} {E:VSP} {s:Shared} {env:Env} {value slice:Expr} {pos:Pos} {T id:String} {Q:VSP}
 (hl:typeLookup (.type T) "__getitem__"=pure (some (.builtin id))) (hs:xR slice)
 (h:wpAny (model prog w) A (eval value env) (fun o s₁=>wpAny (model prog w) A (eval slice env) (fun i s₂=>s₂.TypeIs o T∧wpAny (model prog w) A (getItem o i) Q E s₂) E s₁) E s) :
 wpAny (model prog w) A (eval (.Subscript value slice pos) env) Q E s:=by
 refine Subscript_ (wpAny_mono h (fun o s₁ h₁=>wpAny_mono h₁ (fun i s₂ h₂=>?_) fun _ _ x=>x) fun _ _ x=>x);obtain⟨hT,h₂⟩:=h₂;unfold subscriptTail;refine wB ?_;rw[getitemInPython_of_ne hT.not_modules];refine wB (wpAny_specialOf hT hl ?_);have fin:wpAny (model prog w) A (subscripted slice false o i) (fun r s₃=>wpAny (model prog w) A (letTemporaryGo value o r>>=fun _=>pure r) Q E s₃) E s₂:=by
  rw[hs o i];exact wpAny_operating (wpAny_mono h₂ (fun r s₃ h₃=>wB (wpAny_letTemporaryGo (wP h₃))) fun _ _ x=>x)
 first
  | exact wP (wB fin)
  | exact wB (wP (wB fin))
  | exact wB fin
theorem kQ {X:Cx} {pins:AOs} {σ:St} {H:Hp} {s:Shared} {a:Addr} {y:V} {o:Option V} (I:Inv X pins σ H s) (g:bP H a y o):s.TypeIs (.ref a) "dict":=by
 rcases g with ⟨kvs,k,e,_,_⟩ | ⟨kvs,k,b,e,_,_,_⟩
 · obtain⟨_,_,vs,_,dd⟩:=iJ I.hok e;exact dd.typeIs
 · obtain⟨_,_,xs,_,dd⟩:=iI I.hok e;exact dd.typeIs
inductive vP (x y:V) (H:Hp) (Q:VK):Prop
  | mk (a:Addr) (v:V) (h:x=.ref a) (g:bP H a y (some v)) (q:Q v H):vP x y H Q
def uJ (td ty:TE):TE:=fun σ H Q=>td σ H fun x H1=>ty σ H1 fun y H2=>vP x y H2 Q
def B4 (ty td:TE):TE:=fun σ H Q=>ty σ H fun y H1=>td σ H1 fun x H2=>∃ a o,x=.ref a∧bP H2 a y o∧Q (.bl o.isSome) H2
def sw (ty td:TE):TE:=fun σ H Q=>ty σ H fun y H1=>td σ H1 fun x H2=>∃ a o,x=.ref a∧bP H2 a y o∧Q (.bl (!o.isSome)) H2
inductive vO (x y v:V) (H:Hp) (N:Hp→Prop):Prop
  | mk (a:Addr) (H4:Hp) (h:x=.ref a) (g:lj H a y v H4) (q:N H4):vO x y v H N
def uL (td ty tv:TE):TS:=fun D σ H=>tv σ H fun v H1=>td σ H1 fun x H2=>ty σ H2 fun y H3=>vO x y v H3 (D.nx σ)
section
variable {X:Cx} {o i e value:Expr} {pos pos' tpos:Pos} {td ty tv:TE}
theorem pK (hu:X.A.units+1<cLine) (ho:PE X o td) (hi:PE X i ty) (hs:xR i):PE X (.Subscript o i pos) (uJ td ty):=by
 intro pins s σ H Q I h;refine mK PySem.F.slot_dict_getitem.lookup hs (thn (ho pins s σ H _ I h) fun u s1 zy85=>?_);obtain⟨x,H1,I1,rx,q1⟩:=zy85;refine thn (hi pins s1 σ H1 _ I1 q1) fun iv s2 zy86=>?_;obtain⟨y,H2,I2,ry,a,v,ex,g,q2⟩:=zy86;subst ex;obtain rfl:u=Value.ref a:=rx;exact⟨kQ I2 g,oI hu I2 g ry fun w' s3 I3 rw'=>⟨v,H2,I3,rw',q2⟩⟩
theorem qG (hu:X.A.units+1<cLine) (hi:PE X i ty) (ho:PE X o td):PC X .In i o (B4 ty td):=by
 intro pins s σ H Q I h;refine thn (hi pins s σ H _ I h) fun iv s1 zy87=>?_;obtain⟨y,H1,I1,ry,q1⟩:=zy87;refine thn (ho pins s1 σ H1 _ I1 q1) fun u s2 zy88=>?_;obtain⟨x,H2,I2,rx,a,ov,ex,g,q2⟩:=zy88;subst ex;obtain rfl:u=Value.ref a:=rx;exact C5 hu I2 g ry fun s3 I3=>⟨.bl ov.isSome,H2,I3,rfl,q2⟩
theorem jc (hu:X.A.units+1<cLine) (hi:PE X i ty) (ho:PE X o td):PC X .NotIn i o (sw ty td):=by
 intro pins s σ H Q I h;refine thn (hi pins s σ H _ I h) fun iv s1 zy89=>?_;obtain⟨y,H1,I1,ry,q1⟩:=zy89;refine thn (ho pins s1 σ H1 _ I1 q1) fun u s2 zy90=>?_;obtain⟨x,H2,I2,rx,a,ov,ex,g,q2⟩:=zy90;subst ex;obtain rfl:u=Value.ref a:=rx;exact um hu I2 g ry fun s3 I3=>⟨.bl (!ov.isSome),H2,I3,rfl,q2⟩
theorem hV (hu:X.A.units+1<cLine) (ho:PE X o td) (hi:PE X i ty) (hv:PE X value tv) (hs:swapsWith value (some (.Subscript o i pos')) pos.line X.env=pure false) :
 PS X (.Assign [.Subscript o i pos'] value pos) (uL td ty tv):=by
 intro pins s σ H D I h;refine wpAny_Assign_Subscript (thn (hv pins s σ H _ I h) fun r s1 zy91=>?_) hs;obtain⟨v,H1,I1,rv,q1⟩:=zy91;refine thn (ho pins s1 σ H1 _ I1 q1) fun u s2 zy92=>?_;obtain⟨x,H2,I2,rx,q2⟩:=zy92;refine thn (hi pins s2 σ H2 _ I2 q2) fun iv s3 zy93=>?_;obtain⟨y,H3,I3,ry,a,H4,ex,g,q3⟩:=zy93;subst ex;obtain rfl:u=Value.ref a:=rx;exact oH hu I3 g ry rv fun s4 I4=>⟨σ,H4,I4,q3⟩
end
theorem iK {P:Program} {w:World} {H:Hp} (h:Heap) (hb:sysModules<h.objs.size):bm P w H (h.push {cls:=.type "dict",data:=.dict #[]}) h.objs.size (.dK []) :=
 ⟨Nat.zero_le _,beq_eq_false_iff_ne.mpr (Ne.symm (Nat.ne_of_lt hb)),[],.nil,Heap.DictOf.new h⟩
def vZ:TE:=fun _ H Q=>∀ p,H p=none→Q (.ref p) (upd H p (.dK []))
section
variable {X:Cx} {pos:Pos}
theorem iy:PE X (.Dict [] [] pos) vZ:=fun pins s σ H Q I h =>
 wpAny_Dict_empty ⟨.ref s.heap.objs.size,_,I.laid (a:=s.heap.objs.size) (o:=.dK []) (t':=s.toks) (fun _ _ q=>hpS _ q) (Nat.le_refl _) (iK s.heap I.big),rfl,h _ (I.hok.fresh (Nat.le_refl _))⟩
end
def lD:List (TE×TE)→St→Hp→(List (V×V)→Hp→Prop)→Prop
  | [],_,H,Q=>Q [] H
  | (tk,tv)::r,σ,H,Q=>tk σ H fun x H1=>tv σ H1 fun y H2=>lD r σ H2 fun ps H3=>Q ((x,y)::ps) H3
abbrev VV:List (V×V)→List (Value×Value)→Prop:=Paired fun p q=>aG p.1 q.1∧aG p.2 q.2
def PPs (X:Cx) (pos:Pos) (keys:List (Option Expr)) (values:List Expr) (trs:List (TE×TE)):Prop :=
  ∀ (pins:AOs) (s:Shared) (σ:St) (H:Hp) (Q:List (V×V)→Hp→Prop),Inv X pins σ H s→lD trs σ H Q →
    wpAny (model X.prog X.w) X.A (evalPairs (pairTrees keys values X.env pos)) (fun vs s'=>∃ ps H',Inv X pins σ H' s'∧VV ps vs∧Q ps H') X.xe s
theorem tj {X:Cx} {pos:Pos}:PPs X pos [] [] []:=fun pins s σ H Q I h=>pairTrees_nil_walk ⟨[],H,I,.nil,h⟩
theorem dR {X:Cx} {pos:Pos} {k v:Expr} {ks:List (Option Expr)} {vs:List Expr} {tk tv:TE} {trs:List (TE×TE)} (hk:PE X k tk) (hv:PE X v tv) (hr:PPs X pos ks vs trs) :
 PPs X pos (some k::ks) (v::vs) ((tk,tv)::trs):=fun pins s σ H Q I h =>
 pairTrees_cons_walk (thn (hk pins s σ H _ I h) fun u s1 ⟨x,H1,I1,rx,q1⟩=>thn (hv pins s1 σ H1 _ I1 q1) fun w2 s2 ⟨y,H2,I2,ry,q2⟩ =>
   thn (hr pins s2 σ H2 _ I2 q2) fun ws s3 ⟨ps,H3,I3,rel,q3⟩=>⟨(x,y)::ps,H3,I3,.cons ⟨rx,ry⟩ rel,q3⟩)
def gq (kvs more:List (Key×V)):List (Key×V):=more.foldl (fun acc kv=>bT acc kv.1 kv.2) kvs
theorem KV.merge:∀ {more:List (Key×V)} {rs:List (Key×Value)} {kvs:List (Key×V)} {vs:List (Key×Value)},KV more rs→KV kvs vs→KV (gq kvs more) (merged vs rs):=by
 intro more rs kvs vs r;unfold KV at r
 induction r generalizing kvs vs with
 | nil=>intro q;exact q
 | @cons p q ps qs h t ih =>
  intro r0;have e:KV (bT kvs p.1 p.2) (stored vs q.1 q.2):=by
   have:=r0.put p.1 h.2;rw[← h.1];exact this
  exact ih e
theorem eW:∀ (more kvs:List (Key×V)),(gq kvs more).length≤kvs.length+more.length
 | [],kvs=>by show kvs.length≤kvs.length+0;lia
 | p::r,kvs=>by
  have h1:=eW r (bT kvs p.1 p.2);have h2:=bM kvs p.1 p.2;show (gq (bT kvs p.1 p.2) r).length≤_;rw[List.length_cons];lia
theorem iN {P:Program} {w:World}:∀ {kvs:List (Key×V)} {ws:List (Value×Value)},VV (kvs.map fun kv=>(kV kv.1,kv.2)) ws→∃ rs,Carries (ar P w) ws rs∧KV kvs rs
 | [],_,r=>by rw[List.map_nil] at r;cases r;exact⟨[],True.intro,.nil⟩
 | p::kvs,_,r=>by
  rw[List.map_cons] at r;cases r with
  | @cons a b as bs h t =>
   obtain⟨rs,c,q⟩:=iN (P:=P) (w:=w) t;obtain⟨b1,b2⟩:=b;exact⟨(p.1,b2)::rs,⟨eX h.1,rfl,c⟩,.cons ⟨rfl,h.2⟩ q⟩
def yt (trs:List (TE×TE)):TE:=fun σ H Q=>∀ p,H p=none→lD trs σ (upd H p (.dK [])) fun ps H2=>H2 p=some (.dK [])∧∃ kvs:List (Key×V),ps=kvs.map (fun kv=>(kV kv.1,kv.2))∧kvs.length≤15∧Q (.ref p) (upd H2 p (.dK (gq [] kvs)))
theorem tI {X:Cx} {pos:Pos} {keys:List (Option Expr)} {values:List Expr} {trs:List (TE×TE)} (h:PPs X pos keys values trs) (hall:keys.all (·.isSome)=true) (hl:keys.length=values.length) (h0:keys≠[])
 (h15:keys.length≤15):PE X (.Dict keys values pos) (yt trs):=by
 intro pins s σ H Q I q;have hn:=I.hok.fresh (Nat.le_refl s.heap.objs.size);have I1:=I.laid (a:=s.heap.objs.size) (o:=.dK []) (h':=s.heap.push {cls:=.type "dict",data:=.dict #[]}) (t':=s.toks) (fun _ _ q=>hpS _ q) (Nat.le_refl _) (iK s.heap I.big);refine wpAny_Dict_walk (knd:=ar X.prog X.w) hall hl h0 h15 (thn (h pins _ σ _ _ I1 (q _ hn)) fun ws s2 zy100=>?_);obtain⟨ps,H2,I2,rel,e,kvs,ep,lk,q2⟩:=zy100;subst ep;obtain⟨rs,c,rk⟩:=iN (P:=X.prog) (w:=X.w) rel;obtain⟨z,hd,vs0,r0,dd⟩:=kP I2.hok e;cases r0;refine⟨rs,c,dd,fun h' dd' hs=>⟨.ref s.heap.objs.size,_,?_,rfl,q2⟩⟩;have hz:(gq [] kvs).length≤sizeLine:=by
  have h1:=eW kvs [];rw[List.length_nil] at h1;rw[sizeLine_eq];lia
 have he:∃ q,h'.get? s.heap.objs.size=some q:=let ⟨q,_,_,hq,_⟩:=dd';⟨q,hq⟩;exact fP I2 (by rw[e];exact True.intro) hs he (jS hz hd (rk.merge .nil) dd')
structure M1 (X:Cx) (o:Expr) (m:Str) (apos:Pos) (e:Expr) (cpos:Pos):Prop where
  base:attributeBase o m X.env (eval o X.env)=eval o X.env
  few:((backTo cpos (starEach [e] X.env)).all (fun x=>!x.1)&&(backToKw cpos (keywordEach [] X.env)).all (fun x=>x.1.isSome)
    && decide (([e]:List Expr).length+([]:List Keyword).length+(if ([]:List Keyword).isEmpty then 0 else 1)<30))=true
  line:(apos.endLine==cpos.line)=true
  trees:backTo cpos (starEach [e] X.env)=[(false,eval e X.env)]
structure M2 (X:Cx) (o:Expr) (m:Str) (apos:Pos) (e f:Expr) (cpos:Pos):Prop where
  base:attributeBase o m X.env (eval o X.env)=eval o X.env
  few:((backTo cpos (starEach [e,f] X.env)).all (fun x=>!x.1)&&(backToKw cpos (keywordEach [] X.env)).all (fun x=>x.1.isSome)
    && decide (([e,f]:List Expr).length+([]:List Keyword).length+(if ([]:List Keyword).isEmpty then 0 else 1)<30))=true
  line:(apos.endLine==cpos.line)=true
  trees:backTo cpos (starEach [e,f] X.env)=[(false,eval e X.env),(false,eval f X.env)]
def IsD (H:Hp) (a:Addr):Prop:=(∃ kvs,Rd H a (.dK kvs))∨∃ kvs,Rd H a (.dT kvs)
theorem qY {X:Cx} {pins:AOs} {σ:St} {H:Hp} {s:Shared} {a:Addr} (I:Inv X pins σ H s) (d:IsD H a) :
 s.TypeIs (.ref a) "dict"∧(∀ b,Value.ref a=.ref b→∃ ob,s.heap.get? b=some ob∧ob.dict=none)∧(a==sysModules)=false:=by
 rcases d with ⟨kvs,e⟩ | ⟨kvs,e⟩
 · obtain⟨_,hd,vs,_,dd⟩:=iJ I.hok e;refine⟨dd.typeIs,fun b q=>?_,hd⟩;cases q;obtain⟨ob,_,_,h1,h2,_⟩:=dd;exact⟨ob,h1,h2.2.1⟩
 · obtain⟨_,hd,xs,_,dd⟩:=iI I.hok e;refine⟨dd.typeIs,fun b q=>?_,hd⟩;cases q;obtain⟨ob,_,_,h1,h2,_⟩:=dd;exact⟨ob,h1,h2.2.1⟩
section
variable {X:Cx} {pins:AOs} {σ:St} {H:Hp} {s:Shared} {a:Addr} {y d:V} {u r:Value} {o:Option V} {A:Around} {E:VSP}
theorem xE {Q:VSP} (hu:A.units+1<cLine) (I:Inv X pins σ H s) (g:bP H a y o) (ry:aG y u) (rd:aG d r) (h:∀ w' s',Inv X pins σ H s'→aG (o.getD d) w'→Q w' s') :
 wpAny (model X.prog X.w) A (call (.builtin "dict.get") [.ref a,u,r]) Q E s:=by
 rcases g with ⟨kvs,k,e,ey,l⟩ | ⟨kvs,k,b,e,ey,eb,l⟩
 · subst ey;obtain⟨z,hd,vs,rel,dd⟩:=iJ I.hok e;refine call_meetsIn PySem.F.slot_dict_get dd.typeIs PySem.F.entry_dict_get (PySem.F.args_dict_get_3 _ _ _) (meets_dict_get_default (ar X.prog X.w) a (eX ry) hd r) ⟨_,dd.mapOf,h _ _ (I.tok _) ?_⟩;rw[l];exact (rel.val k).getD rd
 · subst ey;cases (show u=Value.ref b from ry);obtain⟨z,hd,xs,rel,dd⟩:=iI I.hok e;refine call_meetsIn PySem.F.slot_dict_get dd.typeIs PySem.F.entry_dict_get (PySem.F.args_dict_get_3 _ _ _) (meetsH_dict_get_default (tupleKind (ar X.prog X.w)) a b hd r) ⟨tupleKind_room_in1 hu,k,xs,gx I.hok eb,dd,h _ _ (I.tok _) ?_⟩;rw[l];exact (rel.val k).getD rd
end
def wg (td ty tx:TE):TE:=fun σ H Q=>td σ H fun x H1=>∃ a,x=.ref a∧IsD H1 a∧ty σ H1 fun y H2=>tx σ H2 fun z H3=>∃ o,bP H3 a y o∧Q (o.getD z) H3
section
variable {X:Cx} {o e f:Expr} {apos cpos:Pos} {td ty tx:TE}
theorem qF (hu:X.A.units+1<cLine) (ho:PE X o td) (he:PE X e ty) (hf:PE X f tx) (m:M2 X o "get" apos e f cpos):PE X (.Call (.Attribute o "get" apos) [e,f] [] cpos) (wg td ty tx):=by
 intro pins s σ H Q I h;refine wpAny_Call_method m.base m.few m.line PySem.F.plainAttrs_dict PySem.F.slot_dict_get PySem.F.type_dict_get (thn (ho pins s σ H _ I h) fun u s1 zy103=>?_);obtain⟨x,H1,I1,rx,a,ex,d,q1⟩:=zy103;subst ex;obtain rfl:u=Value.ref a:=rx;obtain⟨t1,t2,_⟩:=qY I1 d;refine⟨t1,t2,?_⟩;rw[m.trees];refine Calls.callWith_builtin rfl (Calls.evalArgs_plain (Calls.spliced_cons (thn (he pins s1 σ H1 _ I1 q1) fun iv s2 zy104=>?_)));obtain⟨y,H2,I2,ry,q2⟩:=zy104;refine Calls.spliced_cons (thn (hf pins s2 σ H2 _ I2 q2) fun fv s3 zy105=>?_);obtain⟨z,H3,I3,rz,ov,g,q3⟩:=zy105;refine Calls.spliced_nil ?_;exact xE hu I3 g ry rz fun w' s4 I4 rw'=>⟨_,H3,I4,rw',q3⟩
end
section
variable {X:Cx} {pins:AOs} {σ:St} {H:Hp} {s:Shared} {a:Addr} {kvs:List (Key×V)} {A:Around} {E:VSP}
end
section
variable {X:Cx} {pins:AOs} {σ:St} {H:Hp} {s:Shared} {a:Addr} {y:V} {u:Value} {A:Around} {E:VSP}
end
section
variable {X:Cx}
def qo (K:Fg):R2:=fun x y H Q=>∃ a b xs ys,x=.ref a∧y=.ref b∧SqT K H a xs∧SqT K H b ys∧xs.length+ys.length≤sizeLine ∧
  (xs=[]→Q (.ref b) H)∧(xs≠[]→ys=[]→Q (.ref a) H)∧(xs≠[]→ys≠[]→∀ p,H p=none→Q (.ref p) (upd H p (.tup (xs++ys))))
theorem eM:OpR X (binaryOp .Add) (qo X.K):=by
 intro pins s σ H x y v u Q I rx ry h;obtain⟨a,b,xs,ys,rfl,rfl,ha,hb,hz,q0,q1,q2⟩:=h;by_cases hx:xs=[]
 · cases rx;cases ry;obtain⟨its,r1,p1,_⟩:=I.tuple ha;obtain⟨its2,r2,p2,_⟩:=I.tuple hb;have e0:its=[]:=r1.nil_iff.mpr hx;subst e0;obtain⟨⟨c1,d1,t1,s1⟩,ho,hc,n,hd⟩:=p1;obtain⟨⟨c2,d2,t2,s2⟩,ho2,hc2,n2,hd2⟩:=p2;simp only at hc hd hc2 hd2;subst hc hd hc2 hd2;exact concat_meets ⟨_,ho,rfl⟩ ⟨_,ho2,rfl⟩ noFill_tuple_add seq_tuple_add PySem.F.slot_tuple_add PySem.F.entry_tuple_add (PySem.F.args_tuple_add_2 _ _) (tuple_addW0 a b _ _ n n2 d1 d2 s1 s2 (by simp)) ⟨ho,ho2,⟨.ref b,H,I,rfl,q0 hx⟩⟩
 · exact tN pins s σ H _ _ v u Q I rx ry ⟨a,b,xs,ys,rfl,rfl,ha,hb,hx,hz,q1 hx,q2 hx⟩
def zy (K:Fg):R2:=fun x y H Q=>∃ a b xs,x=.ref a∧y=.ref b∧SqT K H a xs∧SqT K H b []∧Q (.bl xs.isEmpty) H
theorem tM (hu:X.A.units+64<cLine):OpR X (compareOp .Eq) (zy X.K):=by
 intro pins s σ H x y v u Q I rx ry h;obtain⟨a,b,xs,rfl,rfl,ha,hb,q⟩:=h;cases rx;cases ry;obtain⟨its,r1,p1,_⟩:=I.tuple ha;obtain⟨its2,r2,p2,_⟩:=I.tuple hb;have e2:its2=[]:=r2.nil_iff.mpr rfl;subst e2;refine SeqAt.eq_tupleAt (e:=fun _=>true) p1 p2 (by lia) (fun j h1 h2=>absurd h2 (by simp)) ?_;have e1:=r1.length;have:((List.range (min its.toArray.size ([]:List Value).toArray.size)).all (fun _=>true)&&its.toArray.size==([]:List Value).toArray.size)=xs.isEmpty:=by
  cases xs with
  | nil=>simp at e1;simp[← e1]
  | cons _ _=>simp at e1;simp[← e1]
 rw[this];exact⟨.bl xs.isEmpty,H,I,rfl,q⟩
def nK (P:Program) (w:World) (K:Fg) (a:Addr) (kvs:List (Key×V)):Prop:=∃ (o:Obj) (vs:List (Key×Value)),K.lookup a=some o∧o.IsDictOf (ar P w) vs∧KV kvs vs∧(a==sysModules)=false
theorem nK.of {pins:AOs} {σ:St} {H:Hp} {s:Shared} {a:Addr} {kvs:List (Key×V)} (I:Inv X pins σ H s) (h:nK X.prog X.w X.K a kvs):(a==sysModules)=false∧∃ vs,KV kvs vs∧s.heap.DictOf (ar X.prog X.w) a vs:=by
 obtain⟨o,vs,h1,h2,h3,h4⟩:=h;exact⟨h4,vs,h3,Heap.dictOf_iff.mpr ⟨o,I.kIn a o h1,h2⟩⟩
variable {o i:Expr} {pos:Pos} {td ty:TE}
def yp (P:Program) (w:World) (K:Fg) (td ty:TE):TE:=fun σ H Q=>td σ H fun x H1=>ty σ H1 fun y H2=>∃ a kvs k v,x=.ref a∧nK P w K a kvs∧y=kV k∧bj kvs k=some v∧Q v H2
theorem tH (ho:PE X o td) (hi:PE X i ty) (hs:xR i):PE X (.Subscript o i pos) (yp X.prog X.w X.K td ty):=by
 intro pins s σ H Q I h;refine mK PySem.F.slot_dict_getitem.lookup hs (thn (ho pins s σ H _ I h) fun u s1 zz116=>?_);obtain⟨x,H1,I1,rx,q1⟩:=zz116;refine thn (hi pins s1 σ H1 _ I1 q1) fun iv s2 zz117=>?_;obtain⟨y,H2,I2,ry,a,kvs,k,v,ex,g,ey,l,q2⟩:=zz117;subst ex ey;obtain rfl:u=Value.ref a:=rx;obtain⟨hd,vs,rel,dd⟩:=g.of I2;obtain⟨w',hw,rw'⟩:=dz.some_of (v:=v) (o:=valueAt vs k) (by rw[← l];exact rel.val k);exact⟨dd.typeIs,wpAny_getItem_of (eX ry) dd.mapOf hw ⟨v,H2,I2.tok _,rw',q2⟩⟩
end
theorem qt {X:Cx} {elt tg iter:Expr} {ifs:List Expr} {sc:Scope} {pos spos py:Pos} {i0:Nat} {y0:Str} {wi:TI} {g:TG} {tc:TT} {te:TE} {own:List Str} {outs:List (Nat×Str)} (hc:X.calm=true) (S:aB X sc own outs) (hi:PI X tg iter wi)
 (hb:∀ (fp:List Addr) (pins:AOs) (s:Shared) (H:Hp),PG (blk X sc (aO X.env.cells sc.names []) (bb own outs) fp pins s H) tg g ∧
   gC (blk X sc (aO X.env.cells sc.names []) (bb own outs) fp pins s H) ifs tc∧PE (blk X sc (aO X.env.cells sc.names []) (bb own outs) fp pins s H) elt te)
 (hN:X.N.Nodup) (hi0:X.N[i0]?=some y0) (hx0:X.env.scope.names.lookup y0=some .local) (hsw:swapsWith (.ListComp elt [⟨tg,iter,ifs,0⟩] sc pos) (some (.Name y0 py)) spos.line X.env=pure true:=by rfl)
 (hs:∀ x,foldedSetIterable iter X.env x=pure x:=by intro _;rfl):PS X (.Assign [.Name y0 py] (.ListComp elt [⟨tg,iter,ifs,0⟩] sc pos) spos) (nV (tLC wi own.length outs g tc te) (dD i0)):=by
 intro pins s σ H DD I h;rw[exec_Assign_Name_used _ _ _ _ hsw];refine wB (wpAny_standAt (wB ?_));show wpAny _ X.A (do let _ ← comprehension (.ListComp elt [⟨tg,iter,ifs,0⟩] sc pos) sc X.env _ (newList []) false (eval iter X.env) (some (assign (.Name y0 py) X.env))) _ _ s;refine wB (wpAny_mono (Q:=fun _ s'=>∃ σ' H',Inv X pins σ' H' s'∧DD.nx σ' H') ?_ (fun _ s' hq=>wP (wP hq)) fun _ _ e=>e);refine nh hc S hi hb hs I h fun D c m6 H5 s6 I7 n6 f6 cl sz cc cp q=>?_;refine wpAny_assign_Name (ja I7 hN hi0 (.inl hx0) (v:=.ref D) rfl (fun s8 I8 z=>?_) (.inr hx0));obtain⟨a8,sb8,h8⟩:=z;have a8c:c≠a8:=by
  rcases h8 with z | z
  · rw[z];exact cl.symm
  · exact (cc _ _ z).symm
 exact⟨m6,n6.sameBut sb8 a8c,fun h9 sb9=>⟨_,H5,I8.turned (t':=s8.toks) (fun b o hb e=>(sb9.2 b hb).trans e) f6 cl.symm (.inr sz) cc cp,q⟩⟩
mutual
inductive TD (K:Fg) (H:Hp):V→PyData→Prop
  | bl (b:Bool):TD K H (.bl b) (.bool b)
  | int (i:Int):TD K H (.int i) (.int i)
  | str (x:Str):TD K H (.str x) (.str x)
  | tup {a:Addr} {xs:List V} {ds:PDs}:SqT K H a xs→TDs K H xs ds→TD K H (.ref a) (.tuple ds)
inductive TDs (K:Fg) (H:Hp):List V→PDs→Prop
  | nil:TDs K H [] []
  | cons {x:V} {d:PyData} {xs:List V} {ds:PDs}:TD K H x d→TDs K H xs ds→TDs K H (x::xs) (d::ds)
end
def Tk (H H':Hp):Prop:=∀ b xs,Rd H b (.tup xs)→Rd H' b (.tup xs)
section
variable {K:Fg} {H H' H2:Hp}
theorem ai.tk (e:ai H H'):Tk H H':=fun b xs h=>by
 rcases h with h | ⟨o,h⟩
 · exact .inl (e _ _ h)
 · exact .inr ⟨o,e _ _ h⟩
theorem bu {L:Addr} {o:HO} (h:H L=none∨∃ ys,H L=some (.lst ys)):Tk H (upd H L o):=fun b xs z=>by
 have ne:b≠L:=fun e=>by
  rw[e] at z
  rcases z with z | ⟨_,z⟩ <;> rcases h with h | ⟨ys,h⟩ <;> rw[h] at z <;> cases z
 rcases z with z | ⟨o',z⟩
 · exact .inl (by rw[ad ne];exact z)
 · exact .inr ⟨o',by rw[ad ne];exact z⟩
theorem SqT.tk {a:Addr} {xs:List V} (e:Tk H H') (h:SqT K H a xs):SqT K H' a xs:=by
 rcases h with h | h
 · exact .inl (e _ _ h)
 · exact .inr h
theorem TD.tk (e:Tk H H') {v:V} {d:PyData} (h:TD K H v d):TD K H' v d :=
 TD.rec (motive_1:=fun v d _=>TD K H' v d) (motive_2:=fun xs ds _=>TDs K H' xs ds) (fun b=>.bl b) (fun i=>.int i) (fun x=>.str x) (fun hq _ ih=>.tup (hq.tk e) ih) .nil (fun _ _ a b=>.cons a b) h
theorem TDs.tk (e:Tk H H') {xs:List V} {ds:PDs} (h:TDs K H xs ds):TDs K H' xs ds :=
 TDs.rec (motive_1:=fun v d _=>TD K H' v d) (motive_2:=fun xs ds _=>TDs K H' xs ds) (fun b=>.bl b) (fun i=>.int i) (fun x=>.str x) (fun hq _ ih=>.tup (hq.tk e) ih) .nil (fun _ _ a b=>.cons a b) h
theorem TD.same {v:V} {d:PyData} (e:ai H H') (h:TD K H v d):TD K H' v d:=h.tk e.tk
theorem TDs.same {v:List V} {d:PDs} (e:ai H H') (h:TDs K H v d):TDs K H' v d:=h.tk e.tk
theorem TDs.length {xs:List V} {ds:PDs} (h:TDs K H xs ds):xs.length=ds.length:=by
 induction xs generalizing ds with
 | nil=>cases h;rfl
 | cons x r ih=>cases h with | cons a b=>rw[List.length_cons,List.length_cons,ih b]
theorem TDs.get {xs:List V} {ds:PDs} (h:TDs K H xs ds):∀ {i:Nat} {x:V},xs[i]?=some x→∃ d,ds[i]?=some d∧TD K H x d:=by
 induction xs generalizing ds with
 | nil=>intro i x z;simp at z
 | cons y r ih =>
  cases h with
  | cons a b =>
   intro i x z;cases i with
   | zero=>cases z;exact⟨_,rfl,a⟩
   | succ i=>exact ih b z
theorem TDs.snoc {xs:List V} {ds:PDs} {v:V} {d:PyData} (h:TDs K H xs ds) (hv:TD K H v d):TDs K H (xs++[v]) (ds++[d]):=by
 induction xs generalizing ds with
 | nil=>cases h;exact .cons hv .nil
 | cons y r ih=>cases h with | cons a b=>exact .cons a (ih b)
theorem TDs.app {xs ys:List V} {ds es:PDs} (h:TDs K H xs ds) (h2:TDs K H ys es):TDs K H (xs++ys) (ds++es):=by
 induction xs generalizing ds with
 | nil=>cases h;exact h2
 | cons y r ih=>cases h with | cons a b=>exact .cons a (ih b)
theorem TD.int_of {v:V} {i:Int} (h:TD K H v (.int i)):v=.int i:=by cases h;rfl
theorem TD.str_of {v:V} {x:Str} (h:TD K H v (.str x)):v=.str x:=by cases h;rfl
theorem TD.tup_of {v:V} {ds:PDs} (h:TD K H v (.tuple ds)):∃ a xs,v=.ref a∧SqT K H a xs∧TDs K H xs ds:=by
 cases h with
 | tup hq hd=>exact⟨_,_,rfl,hq,hd⟩
theorem TDs.ints {ns:List Nat}:∀ {xs:List V},TDs K H xs (ns.map fun n=>PyData.int ((n:Nat):Int))→xs=ns.map fun n=>V.int ((n:Nat):Int):=by
 induction ns with
 | nil=>intro xs h;cases h;rfl
 | cons s r ih=>intro xs h;cases h with | cons a b=>rw[ih b,a.int_of];rfl
theorem TDs.of_ints (ns:List Nat):TDs K H (ns.map fun n=>V.int ((n:Nat):Int)) (ns.map fun n=>PyData.int ((n:Nat):Int)):=by
 induction ns with
 | nil=>exact .nil
 | cons s r ih=>exact .cons (.int _) ih
end
theorem dj {H H2:Hp} {p:Addr} {o:HO} (s:ai H H2) (h:H p=none):ai H (upd H2 p o):=fun b u e=>by
 rw[ad (af e h)];exact s b u e
theorem smu {H:Hp} {L:Addr} {o:HO} (h:H L=none):ai H (upd H L o):=fun b u e=>by rw[ad (af e h)];exact e
section
variable {X:Cx} {p pos apos cpos:Pos} {e:Expr} {es:List Expr} {t:TA} {o:Expr} {to:TE}
end
end L2
namespace L2
open PySem PySem.Spec PyProof.Rows
theorem iZ:typeLookup (.type "tuple") (dunderI "add")=pure none:=by rw[typeLookup_type];kernel_rfl
section
variable {X:Cx}
theorem nn:PIp X .Add (qo X.K):=by
 intro pins s σ H x y v u Q I rx ry h;obtain⟨a,b,xs,ys,rfl,rfl,ha,hb,hz,q0,q1,q2⟩:=h;cases rx;cases ry;obtain⟨its,r1,p1,_⟩:=I.tuple ha;obtain⟨its2,r2,p2,_⟩:=I.tuple hb;obtain⟨⟨c1,d1,t1,s1⟩,ho,hc,n,hd⟩:=p1;obtain⟨⟨c2,d2,t2,s2⟩,ho2,hc2,n2,hd2⟩:=p2;simp only at hc hd hc2 hd2;subst hc hd hc2 hd2;have hsz:its.length+its2.length≤sizeLine:=by rw[← r1.length,← r2.length];exact hz
 have ht:s.TypeIs (.ref a) "tuple":=⟨_,ho,rfl⟩;have ht2:s.TypeIs (.ref b) "tuple":=⟨_,ho2,rfl⟩;refine wpAny_inplaceOp_concat ht ht2 iZ noFill_tuple_add seq_tuple_add ?_;by_cases hx:its=[]
 · exact call_meets PySem.F.slot_tuple_add ht PySem.F.entry_tuple_add (PySem.F.args_tuple_add_2 _ _) (tuple_addW0 a b _ _ n n2 d1 d2 s1 s2 (by simp[hx])) ⟨ho,ho2,⟨.ref b,H,I,rfl,q0 (r1.nil_iff.mp hx)⟩⟩
 · by_cases hy:its2=[]
   · exact call_meets PySem.F.slot_tuple_add ht PySem.F.entry_tuple_add (PySem.F.args_tuple_add_2 _ _) (tuple_addW1 a b _ _ n n2 d1 d2 s1 s2 (by simpa using hx) (by simp[hy])) ⟨ho,ho2,⟨.ref a,H,I,rfl,q1 (fun z=>hx (r1.nil_iff.mpr z)) (r2.nil_iff.mp hy)⟩⟩
   · refine call_meets PySem.F.slot_tuple_add ht PySem.F.entry_tuple_add (PySem.F.args_tuple_add_2 _ _) (tuple_addW2 a b _ _ n n2 d1 d2 s1 s2 (by simpa using hx) (by simpa using hy) (by rw[List.size_toArray,List.size_toArray];exact hsz)) ⟨ho,ho2,?_⟩;have e:its.toArray++its2.toArray=(its++its2).toArray:=by simp
     rw[e];refine⟨.ref s.heap.objs.size,_,I.laid (t':=s.toks) (o:=.tup (xs++ys)) (fun b ob q=>hpS _ q) (Nat.le_refl _) ?_,rfl,q2 (fun z=>hx (r1.nil_iff.mpr z)) (fun z=>hy (r2.nil_iff.mpr z)) _ (I.hok.fresh (Nat.le_refl _))⟩;exact⟨by rw[lAp];exact hz,_,r1.append r2,IsTup.new _ _⟩
end
structure Drw (prog:Program) (w:World) (i src:Addr) (xs:Array Value) (J:Nat→Heap→Prop):Prop where
  ext:∀ k h h',J k h→(∀ o,h.get? i=some o→h'.get? i=some o)→(∀ o,h.get? src=some o→h'.get? src=some o)→J k h'
  item:∀ (A:Around) (E:VSP) (s:Shared) (k:Nat) (x:Value) (Q:VSP),J k s.heap→xs[k]?=some x→(∀ h',J (k+1) h'→Heap.SameBut i s.heap h'→Q x {s with heap:=h'}) →
    wpAny (model prog w) A (Builtin.SmallTypes.nextOf (.ref i)) Q E s
  stop:∀ (A:Around) (E:VSP) (s:Shared) (k:Nat) (Q:VSP),A.handled=none→J k s.heap→xs[k]?=none→(∀ h' e,Heap.ExtBut i s.heap h'→(∃ o,h'.get? e=some o∧o.cls=.type "StopIteration")→E (.ref e) {s with heap:=h'}) →
    wpAny (model prog w) A (Builtin.SmallTypes.nextOf (.ref i)) Q E s
theorem eO {prog:Program} {w:World} (i t:Addr) (hne:t≠i) (xs:Array Value):Drw prog w i t xs (fun k h=>h.IsTupleIter i t k∧h.IsTuple t xs) where
 ext:=fun k h h' ⟨⟨o,a,r⟩,o2,a2,r2⟩ e1 e2=>⟨⟨o,e1 o a,r⟩,o2,e2 o2 a2,r2⟩
 item:=by
  rintro A E s k x Q ⟨st,ht⟩ hx q;obtain⟨o,ho,hc,hd⟩:=id st;obtain⟨ot,hot,ct,nt,dt⟩:=id ht;unfold Builtin.SmallTypes.nextOf;refine wB (wpAny_callSpecial?_slot (name:=Str.ofString "__next__") st.typeIs F.slot_tuple_iterator_next (wpAny_call_entry F.slot_tuple_iterator_next st.typeIs F.entry_tuple_iterator_next ?_ (F.args_tuple_iterator_next_1 _)));show wpAny _ _ (field (.ref i) 0>>=_) _ _ s;refine wB (wpAny_field ho hd (x:=.ref t) rfl ?_);show wpAny _ _ (if (Value.ref t==Value.none)=true then _ else _) _ _ s;rw[if_neg (fun z=>Bool.false_ne_true (show (Value.ref t==Value.none)=true from z))];show wpAny _ _ (field (.ref i) 1>>=_) _ _ s;refine wB (wpAny_field ho hd (x:=.int k 0) rfl ?_);show wpAny _ _ (seqItems? (.ref t)>>=_) _ _ s;refine wB (wpAny_seqItems hot dt ?_);simp only[Int.toNat_natCast,hx];refine wB (wpAny_setField ho hd (by simp) (wP ⟨x,rfl,wP (q _ ⟨?_,ht.extBut (Heap.SameBut.update ..).extBut hne⟩ (Heap.SameBut.update ..))⟩));exact⟨_,Heap.get?_update_self _ ho (Obj.isFreed_of_fields (Obj.data_mapFields hd _)),(Obj.cls_mapFields ..).trans hc,by rw[Obj.data_mapFields hd];simp[rawInt]⟩
 stop:=by
  rintro A E s k Q hh ⟨st,ht⟩ hx q;obtain⟨o,ho,hc,hd⟩:=id st;obtain⟨ot,hot,ct,nt,dt⟩:=id ht;unfold Builtin.SmallTypes.nextOf;refine wB (wpAny_callSpecial?_slot (name:=Str.ofString "__next__") st.typeIs F.slot_tuple_iterator_next (wpAny_call_entry F.slot_tuple_iterator_next st.typeIs F.entry_tuple_iterator_next ?_ (F.args_tuple_iterator_next_1 _)));show wpAny _ _ (field (.ref i) 0>>=_) _ _ s;refine wB (wpAny_field ho hd (x:=.ref t) rfl ?_);show wpAny _ _ (if (Value.ref t==Value.none)=true then _ else _) _ _ s;rw[if_neg (fun z=>Bool.false_ne_true (show (Value.ref t==Value.none)=true from z))];show wpAny _ _ (field (.ref i) 1>>=_) _ _ s;refine wB (wpAny_field ho hd (x:=.int k 0) rfl ?_);show wpAny _ _ (seqItems? (.ref t)>>=_) _ _ s;refine wB (wpAny_seqItems hot dt ?_);simp only[Int.toNat_natCast,hx];refine wB (wpAny_rule (wB (wpAny_setField ho hd (by simp) ?_)));show wpAny _ _ (newExc (.type "StopIteration") []>>=_) _ _ _;refine wB ?_;simp only[newExc,newTuple];refine wB (wpAny_newObj_type ?_ (by size_fits));refine wB (m:=firstArgMember _ _) (wpAny_of_eq (a:=Value.none) (by first | rfl | (simp only[firstArgMember];rfl)) ?_);refine wpAny_newObj_type ?_ (by size_fits);simp only[raiseNew];refine wB (wpAny_handled ?_);first | rw[show A.in1.handled=none from hh] | rw[hh]
  refine wB (wP (wpAny_throw ?_));exact q _ _ (((Heap.SameBut.update ..).extBut.push _).push _) ⟨_,Heap.get?_push_size _ rfl,rfl⟩
section
variable {prog:Program} {w:World} {A:Around} {E:VSP} {s:Shared} {z TI TO i1 i2 l1 l2:Addr} {k:Nat} {xs ys:Array Value} {J1 J2:Nat→Heap→Prop} {a b x y:Value}
structure ZAp (z TI TO i1 i2 l1 l2:Addr):Prop where
  z_:TI≠z∧TO≠z∧i1≠z∧i2≠z∧l1≠z∧l2≠z
  o_:TI≠TO∧i1≠TO∧i2≠TO∧l1≠TO∧l2≠TO
  i_:TI≠i1∧TI≠i2∧i1≠i2
  l_:l1≠i1∧l1≠i2∧l2≠i1∧l2≠i2
theorem aE {c:Addr} {h h':Heap} {b:Addr} {o:Obj} (e:Heap.SameBut b h h') (n:c≠b) (g:h.get? c=some o):h'.get? c=some o:=(e.2 c n).trans g
theorem nM {Q:VSP} (D:ZAp z TI TO i1 i2 l1 l2) (R1:Drw prog w i1 l1 xs J1) (R2:Drw prog w i2 l2 ys J2) (hz:IsZip s.heap z TI TO .none) (hTI:IsPair s.heap TI (.ref i1) (.ref i2)) (hTO:IsPair s.heap TO a b)
 (h1:J1 k s.heap) (h2:J2 k s.heap) (hx:xs[k]?=some x) (hy:ys[k]?=some y)
 (hQ:∀ h',IsZip h' z TI TO (rawInt s.heap.objs.size)→IsPair h' TO x y→J1 (k+1) h'→J2 (k+1) h'→IsPair h' s.heap.objs.size x y→(∀ c o,c≠z→c≠TO→c≠i1→c≠i2→s.heap.get? c=some o→h'.get? c=some o)→Q (.ref s.heap.objs.size) {s with heap:=h'}) :
 wpAny (model prog w) A (Builtin.«zip.__next__» ⟨[.ref z],[]⟩) (fun fin s'=>∃ v,fin=.done (.ret v)∧Q v s') E s:=by
 obtain⟨z1,z2,z3,z4,z5,z6⟩:=D.z_;obtain⟨o1,o2,o3,o4,o5⟩:=D.o_;obtain⟨j1,j2,j3⟩:=D.i_;obtain⟨m1,m2,m3,m4⟩:=D.l_;show wpAny _ _ (field (.ref z) 2>>=_) _ _ _;refine wB (wpAny_field hz rfl (x:=.bool false) rfl ?_);show wpAny _ _ (field (.ref z) 3>>=_) _ _ _;refine wB (wpAny_field hz rfl (x:=.ref TI) rfl ?_);refine wB (wpAny_seqItems hTI rfl ?_);show wpAny _ _ (Builtin.SmallTypes.ownedTupleIsFree (.ref z)>>=_) _ _ _;refine wB ?_;unfold Builtin.SmallTypes.ownedTupleIsFree;refine wB (wpAny_field hz rfl (x:=.none) rfl (wP ?_));simp only[if_true];refine wB (wpAny_rule ?_);refine wB (wpAny_field hz rfl (x:=.ref TO) rfl ?_);refine wB (wpAny_setField_rec hz (by simp) fun g1 gz1 gs1=>?_);have gz1':IsZip g1 z TI TO .ellipsis:=gz1;refine wB ?_;simp only[List.zipIdx_cons,List.zipIdx_nil,List.forIn_cons,List.forIn_nil];refine wB (wB (wpAny_onRaise ?_));show wpAny _ _ (Builtin.SmallTypes.nextOf (.ref i1)>>=_) _ _ _;have J11:J1 k g1:=R1.ext k _ _ h1 (fun o e=>aE gs1 z3 e) (fun o e=>aE gs1 z5 e);refine wB (R1.item _ _ {s with heap:=g1} k x _ J11 hx fun g2 J12 gs2=>wP ?_);have t2:IsPair g2 TO a b:=aE gs2 (Ne.symm o2) (aE gs1 z2 hTO);refine wB (wpAny_seqItems t2 rfl ?_);refine wB (wpAny_updateSeq_pair t2 fun g3 t3 gs3=>?_);have t3':IsPair g3 TO x b:=t3;refine wB (wpAny_letGo (wP ?_));refine wB (wB (wpAny_onRaise ?_));show wpAny _ _ (Builtin.SmallTypes.nextOf (.ref i2)>>=_) _ _ _;have J23:J2 k g3:=R2.ext k _ _ h2 (fun o e=>aE gs3 o3 (aE gs2 (Ne.symm j3) (aE gs1 z4 e))) (fun o e=>aE gs3 o5 (aE gs2 m3 (aE gs1 z6 e)));refine wB (R2.item _ _ {s with heap:=g3} k y _ J23 hy fun g4 J24 gs4=>wP ?_);have t4:IsPair g4 TO x b:=aE gs4 (Ne.symm o3) t3';refine wB (wpAny_seqItems t4 rfl ?_);refine wB (wpAny_updateSeq_pair t4 fun g5 t5 gs5=>?_);have t5':IsPair g5 TO x y:=t5;refine wB (wpAny_letGo (wP (wP ?_)));refine wB (wpAny_seqItems t5' rfl ?_);refine wB (wpAny_newTuple ?_);have sz:g5.objs.size=s.heap.objs.size:=by rw[gs5.1,gs4.1,gs3.1,gs2.1,gs1.1]
 have zz5:IsZip g5 z TI TO .ellipsis:=aE gs5 (Ne.symm z2) (aE gs4 (Ne.symm z4) (aE gs3 (Ne.symm z2) (aE gs2 (Ne.symm z3) gz1')));have kp:∀ c o,c≠z→c≠TO→c≠i1→c≠i2→s.heap.get? c=some o→g5.get? c=some o:=fun c o c1 c2 c3 c4 e=>aE gs5 c2 (aE gs4 c4 (aE gs3 c2 (aE gs2 c3 (aE gs1 c1 e))));have J15:J1 (k+1) g5:=R1.ext _ _ _ J12 (fun o e=>aE gs5 o2 (aE gs4 j3 (aE gs3 o2 e))) (fun o e=>aE gs5 o4 (aE gs4 m2 (aE gs3 o4 e)));have J25:J2 (k+1) g5:=R2.ext _ _ _ J24 (fun o e=>aE gs5 o3 e) (fun o e=>aE gs5 o5 e);have lz:z<g5.objs.size:=Heap.lt_size zz5;show wpAny _ _ (Builtin.SmallTypes.ownedTupleHandOut (.ref z) (.ref g5.objs.size)>>=_) _ _ _;refine wB ?_;unfold Builtin.SmallTypes.ownedTupleHandOut;have zz6:IsZip (g5.push {cls:=.type "tuple",data:=.seq #[x,y]}) z TI TO .ellipsis:=hpS _ zz5;refine wB (wpAny_setField_rec zz6 (by simp) fun g7 zz7 gs7=>?_);have zz7':IsZip g7 z TI TO (rawInt g5.objs.size):=zz7;refine wpAny_setField_rec zz7' (by simp) fun g8 zz8 gs8=>?_;have zz8':IsZip g8 z TI TO (rawInt g5.objs.size):=zz8;have up:∀ c o,c≠z→g5.get? c=some o→g8.get? c=some o:=fun c o c1 e=>aE gs8 c1 (aE gs7 c1 (hpS _ e));have pT:IsPair g8 g5.objs.size x y:=aE gs8 (Nat.ne_of_gt lz) (aE gs7 (Nat.ne_of_gt lz) (Heap.get?_push_size _ rfl));rw[sz] at zz8' pT;refine wP ⟨_,rfl,?_⟩;show Q (.ref g5.objs.size) _;rw[sz];exact hQ g8 zz8' (up _ _ z2 t5') (R1.ext _ _ _ J15 (fun o e=>up _ o z3 e) fun o e=>up _ o z5 e) (R2.ext _ _ _ J25 (fun o e=>up _ o z4 e) fun o e=>up _ o z6 e) pT fun c o c1 c2 c3 c4 e=>up c o c1 (kp c o c1 c2 c3 c4 e)
theorem oU {Q:Fin→Shared→Prop} (hh:A.handled=none) (D:ZAp z TI TO i1 i2 l1 l2) (R1:Drw prog w i1 l1 xs J1) (R2:Drw prog w i2 l2 ys J2) (hz:IsZip s.heap z TI TO .none) (hTI:IsPair s.heap TI (.ref i1) (.ref i2)) (hTO:IsPair s.heap TO a b)
 (h1:J1 k s.heap) (h2:J2 k s.heap) (hend:xs[k]?=none∨ys[k]?=none)
 (hE:∀ h' e,(∀ c o,c≠z→c≠TO→c≠i1→c≠i2→s.heap.get? c=some o→h'.get? c=some o)→(∃ o,h'.get? e=some o∧o.cls=.type "StopIteration")→E (.ref e) {s with heap:=h'}) :
 wpAny (model prog w) A (Builtin.«zip.__next__» ⟨[.ref z],[]⟩) Q E s:=by
 obtain⟨z1,z2,z3,z4,z5,z6⟩:=D.z_;obtain⟨o1,o2,o3,o4,o5⟩:=D.o_;obtain⟨j1,j2,j3⟩:=D.i_;obtain⟨m1,m2,m3,m4⟩:=D.l_;show wpAny _ _ (field (.ref z) 2>>=_) _ _ _;refine wB (wpAny_field hz rfl (x:=.bool false) rfl ?_);show wpAny _ _ (field (.ref z) 3>>=_) _ _ _;refine wB (wpAny_field hz rfl (x:=.ref TI) rfl ?_);refine wB (wpAny_seqItems hTI rfl ?_);show wpAny _ _ (Builtin.SmallTypes.ownedTupleIsFree (.ref z)>>=_) _ _ _;refine wB ?_;unfold Builtin.SmallTypes.ownedTupleIsFree;refine wB (wpAny_field hz rfl (x:=.none) rfl (wP ?_));simp only[if_true];refine wB (wpAny_rule ?_);refine wB (wpAny_field hz rfl (x:=.ref TO) rfl ?_);refine wB (wpAny_setField_rec hz (by simp) fun g1 gz1 gs1=>?_);have gz1':IsZip g1 z TI TO .ellipsis:=gz1;refine wB ?_;simp only[List.zipIdx_cons,List.zipIdx_nil,List.forIn_cons,List.forIn_nil];refine wB (wB (wpAny_onRaise ?_));show wpAny _ _ (Builtin.SmallTypes.nextOf (.ref i1)>>=_) _ _ _;have J11:J1 k g1:=R1.ext k _ _ h1 (fun o e=>aE gs1 z3 e) (fun o e=>aE gs1 z5 e);cases hx:xs[k]? with
 | none =>
  refine wB (R1.stop _ _ {s with heap:=g1} k _ hh J11 hx fun g2 e gs2 he=>?_);obtain⟨oe,hoe,hce⟩:=he;have zz2:IsZip g2 z TI TO .ellipsis:=gs2 _ _ (Ne.symm z3) gz1';have ez:e≠z:=fun q=>by subst q;rw[zz2] at hoe;cases hoe;simp at hce
  refine wpAny_setField_rec zz2 (by simp) fun g3 _ gs3=>hE g3 e (fun c o c1 _ c3 _ q=>aE gs3 c1 (gs2 _ _ c3 (aE gs1 c1 q))) ⟨oe,aE gs3 ez hoe,hce⟩
 | some x =>
  have hy:ys[k]?=none:=hend.resolve_left (by rw[hx];simp);refine wB (R1.item _ _ {s with heap:=g1} k x _ J11 hx fun g2 J12 gs2=>wP ?_);have t2:IsPair g2 TO a b:=aE gs2 (Ne.symm o2) (aE gs1 z2 hTO);refine wB (wpAny_seqItems t2 rfl ?_);refine wB (wpAny_updateSeq_pair t2 fun g3 t3 gs3=>?_);refine wB (wpAny_letGo (wP ?_));refine wB (wB (wpAny_onRaise ?_));show wpAny _ _ (Builtin.SmallTypes.nextOf (.ref i2)>>=_) _ _ _;have J23:J2 k g3:=R2.ext k _ _ h2 (fun o e=>aE gs3 o3 (aE gs2 (Ne.symm j3) (aE gs1 z4 e))) (fun o e=>aE gs3 o5 (aE gs2 m3 (aE gs1 z6 e)));refine wB (R2.stop _ _ {s with heap:=g3} k _ hh J23 hy fun g4 e gs4 he=>?_);obtain⟨oe,hoe,hce⟩:=he;have zz4:IsZip g4 z TI TO .ellipsis:=gs4 _ _ (Ne.symm z4) (aE gs3 (Ne.symm z2) (aE gs2 (Ne.symm z3) gz1'));have ez:e≠z:=fun q=>by subst q;rw[zz4] at hoe;cases hoe;simp at hce
  refine wpAny_setField_rec zz4 (by simp) fun g5 _ gs5=>hE g5 e (fun c o c1 c2 c3 c4 q=>aE gs5 c1 (gs4 _ _ c4 (aE gs3 c2 (aE gs2 c3 (aE gs1 c1 q))))) ⟨oe,aE gs5 ez hoe,hce⟩
end
section
variable {X:Cx} {pins:AOs} {σ:St} {H:Hp} {s:Shared} {h2:Heap} {t':Nat} {ch:List Addr} {o:HO}
theorem Inv.turnedAll (I:Inv X pins σ H s) (hch:∀ b∈ch,eU X pins H b) (keep:∀ b u,b∉ch→s.heap.get? b=some u→h2.get? b=some u):Inv X pins σ H {s with heap:=h2,toks:=t'}:=by
 have nt:∀ {b:Addr} {u:HO},H b=some u→b∉ch:=fun {b u} q z=>by rw[(hch b z).1] at q;cases q
 refine I.step (g':=s.gens) (d':=s.drawn) (ch:=ch) (fun b hb=>⟨(hch b hb).2.2.2.1,(hch b hb).2.1,(hch b hb).2.2.2.2.1,(hch b hb).2.2.2.2.2⟩) (fun b u _ _ hc z _=>keep b u hc z) (fun b u _ _ hc z _=>⟨u.slots,keep b u hc z⟩) (fun _ _ _ _ n=>n)
  (fun b u hc z=>⟨u,keep b u hc z⟩) (fun _ _ z=>z) (fun _ _ _ z=>z) (fun b ps z=>⟨#[],by rw[z];simp⟩) (fun m hm=>?_) (fun b u z=>?_) I.bare
 · obtain⟨o,es,ep,ho,r⟩:=hm;exact⟨o,es,ep,keep _ o (fun z=>(hch _ z).2.1 rfl) ho,r⟩
 · refine (I.hok b u z).stay (fun c v hc zc=>keep c v ?_ zc) (fun _ q=>q) fun _ _ q=>q
   rcases hc with rfl | hc
   · exact nt z
   · exact nt hc
theorem Inv.turnedNew (I:Inv X pins σ H s) (hch:∀ b∈ch,eU X pins H b) (keep:∀ b u,b∉ch→s.heap.get? b=some u→h2.get? b=some u) (new:bm X.prog X.w (upd H s.heap.objs.size o) h2 s.heap.objs.size o) :
 Inv X pins σ (upd H s.heap.objs.size o) {s with heap:=h2,toks:=t'}:=by
 have hfr:H s.heap.objs.size=none:=I.hok.fresh (Nat.le_refl _);have nt:∀ {b:Addr} {u:HO},H b=some u→b∉ch:=fun {b u} q z=>by rw[(hch b z).1] at q;cases q
 have nd:∀ {b:Addr} {u:HO},H b=some u→b≠s.heap.objs.size:=fun {b u} q z=>by rw[z,hfr] at q;cases q
 refine I.step (g':=s.gens) (d':=s.drawn) (ch:=ch) (fun b hb=>⟨(hch b hb).2.2.2.1,(hch b hb).2.1,(hch b hb).2.2.2.2.1,(hch b hb).2.2.2.2.2⟩) (fun b u _ _ hc z _=>keep b u hc z) (fun b u _ _ hc z _=>⟨u.slots,keep b u hc z⟩) (fun b u _ z n=>by rw[ad (Nat.ne_of_lt (Heap.lt_size z))];exact n)
  (fun b u hc z=>⟨u,keep b u hc z⟩) (fun b xs z=>by rw[ad (nd z)];exact z) (fun b u v z=>by rw[ad (nd z)];exact z) (fun b ps z=>⟨#[],by rw[ad (nd z),z];simp⟩) (fun m hm=>?_) (fun b u z=>?_) I.bare
 · obtain⟨o,es,ep,ho,r⟩:=hm;exact⟨o,es,ep,keep _ o (fun z=>(hch _ z).2.1 rfl) ho,r⟩
 · by_cases hb:b=s.heap.objs.size
   · rw[hb,pE] at z;cases z;rw[hb];exact new
   · rw[ad hb] at z;refine (I.hok b u z).stay (fun c v hc zc=>keep c v ?_ zc) (fun c zc=>by rw[ad (nd zc)];exact zc) fun c xs zc=>by rw[ad (nd zc)];exact zc
     rcases hc with rfl | hc
     · exact nt z
     · exact nt hc
end
theorem cv {h:Heap} {a b:Addr} {oa ob:Obj} (ha:h.get? a=some oa) (hb:h.get? b=some ob) (hc:oa.cls≠ob.cls):a≠b:=fun z=>by
 rw[z,hb] at ha;cases ha;exact hc rfl
theorem rD:bootBuiltins "zip"=some (.type "zip"):=by decide +kernel
section
variable {prog:Program} {w:World} {A:Around} {E:VSP} {s:Shared} {z TI TO i1 i2 l1 l2:Addr} {k:Nat} {xs ys:Array Value} {J1 J2:Nat→Heap→Prop} {a b x y:Value}
theorem lN {Q:Option Value→Shared→Prop} (D:ZAp z TI TO i1 i2 l1 l2) (R1:Drw prog w i1 l1 xs J1) (R2:Drw prog w i2 l2 ys J2) (hz:IsZip s.heap z TI TO .none) (hTI:IsPair s.heap TI (.ref i1) (.ref i2)) (hTO:IsPair s.heap TO a b)
 (h1:J1 k s.heap) (h2:J2 k s.heap) (hx:xs[k]?=some x) (hy:ys[k]?=some y)
 (hQ:∀ h',IsZip h' z TI TO (rawInt s.heap.objs.size)→IsPair h' TO x y→J1 (k+1) h'→J2 (k+1) h'→IsPair h' s.heap.objs.size x y→(∀ c o,c≠z→c≠TO→c≠i1→c≠i2→s.heap.get? c=some o→h'.get? c=some o)→Q (some (.ref s.heap.objs.size)) {s with heap:=h'}) :
 wpAny (model prog w) A (pyNext (.ref z)) Q E s:=by
 have ty:s.TypeIs (.ref z) "zip":=⟨_,hz,rfl⟩;unfold pyNext;exact wB (wpAny_attempt (wpAny_callSpecial?_slot (name:=Str.ofString "__next__") ty F.slot_zip_next (wpAny_call_entry F.slot_zip_next ty F.entry_zip_next (nM D R1 R2 hz hTI hTO h1 h2 hx hy fun h' a1 a2 a3 a4 a5 a6=>wP (hQ h' a1 a2 a3 a4 a5 a6)) (F.args_zip_next_1 _))))
theorem o8 {Q:Option Value→Shared→Prop} (hh:A.handled=none) (D:ZAp z TI TO i1 i2 l1 l2) (R1:Drw prog w i1 l1 xs J1) (R2:Drw prog w i2 l2 ys J2) (hz:IsZip s.heap z TI TO .none) (hTI:IsPair s.heap TI (.ref i1) (.ref i2)) (hTO:IsPair s.heap TO a b)
 (h1:J1 k s.heap) (h2:J2 k s.heap) (hend:xs[k]?=none∨ys[k]?=none)
 (hQ:∀ h',(∀ c o,c≠z→c≠TO→c≠i1→c≠i2→s.heap.get? c=some o→h'.get? c=some o)→Q none {s with heap:=h'}):wpAny (model prog w) A (pyNext (.ref z)) Q E s:=by
 have ty:s.TypeIs (.ref z) "zip":=⟨_,hz,rfl⟩;unfold pyNext;refine wB (wpAny_attempt (wpAny_callSpecial?_slot (name:=Str.ofString "__next__") ty F.slot_zip_next (wpAny_call_entry F.slot_zip_next ty F.entry_zip_next (oU hh D R1 R2 hz hTI hTO h1 h2 hend fun h' e hk he=>?_) (F.args_zip_next_1 _))));obtain⟨o,ho,hc⟩:=he;exact wB (wpAny_isInstance (T:="StopIteration") (b:=true) ⟨o,ho,hc⟩ isSubtype_stop (wP (hQ _ hk)))
end
abbrev zt1 (h:Heap) (a:Addr):Heap:=h.push {cls:=.type "tuple_iterator",data:=.fields #[.ref a,.int 0 0]}
abbrev zt2 (h:Heap) (a b:Addr):Heap:=zt1 (zt1 h a) b
abbrev zt3 (h:Heap) (a b:Addr):Heap:=(zt2 h a b).push {cls:=.type "tuple",data:=.seq #[.ref h.objs.size,.ref (zt1 h a).objs.size]}
abbrev zt4 (h:Heap) (a b:Addr):Heap:=(zt3 h a b).push {cls:=.type "tuple",data:=.seq #[.none,.none]}
abbrev zt5 (h:Heap) (a b:Addr):Heap:=(zt4 h a b).push {cls:=.type "zip",data:=.fields #[.none,.bool false,.bool false,.ref (zt2 h a b).objs.size,.ref (zt3 h a b).objs.size]}
theorem lP (a b:Addr) (xs ys:Array Value):Meets (Builtin.«zip.__new__» ⟨[.type "zip",.ref a,.ref b],[]⟩) (fun _ R s=>s.heap.IsTuple a xs∧s.heap.IsTuple b ys∧R (.ok (.ret (.ref (zt4 s.heap a b).objs.size))) {s with heap:=zt5 s.heap a b}) :=
 .of_wp fun prog w A R s h=>by
  obtain⟨hp,g,d,tk,os⟩:=s;obtain⟨ha,hb,h⟩:=h;have sub:=sub_zip;have e1:Heap.IsTuple (Shared.heap ⟨hp,g,d,tk,os⟩) a xs:=ha;have e2:Heap.IsTuple (Shared.heap ⟨zt1 hp a,g,d,tk,os⟩) b ys:=Heap.IsTuple.push hb _
  wp_walk using wpAny_pyIter_tuple e1,wpAny_pyIter_tuple e2
  exact⟨_,rfl,h⟩
theorem oM {prog:Program} {w:World} {A:Around} {E:VSP} {s:Shared} {a b:Addr} {xs ys:Array Value} {Q:VSP} (ha:s.heap.IsTuple a xs) (hb:s.heap.IsTuple b ys)
 (h:∀ h',IsZip h' (s.heap.objs.size+4) (s.heap.objs.size+2) (s.heap.objs.size+3) .none→IsPair h' (s.heap.objs.size+2) (.ref s.heap.objs.size) (.ref (s.heap.objs.size+1))→IsPair h' (s.heap.objs.size+3) .none .none →
   h'.IsTupleIter s.heap.objs.size a 0→h'.IsTupleIter (s.heap.objs.size+1) b 0→(∀ c o,s.heap.get? c=some o→h'.get? c=some o)→Q (.ref (s.heap.objs.size+4)) {s with heap:=h'}) :
 wpAny (model prog w) A (call (.type "zip") [.ref a,.ref b]) Q E s:=by
 refine callType_new F.called_zip (by decide) (F.typeCall_zip_2 _ _) (F.newCall_zip_2 _ _) (fun obj=>F.args_object_init_3 obj _ _) F.entry_zip_new (lP a b xs ys) ⟨ha,hb,?_⟩;have z1:(zt1 s.heap a).objs.size=s.heap.objs.size+1:=Heap.size_push ..;have z2:(zt2 s.heap a b).objs.size=s.heap.objs.size+2:=by rw[Heap.size_push,z1]
 have z3:(zt3 s.heap a b).objs.size=s.heap.objs.size+3:=by rw[Heap.size_push,z2]
 have z4:(zt4 s.heap a b).objs.size=s.heap.objs.size+4:=by rw[Heap.size_push,z3]
 have up:∀ {c:Addr} {o:Obj},(zt1 s.heap a).get? c=some o→(zt5 s.heap a b).get? c=some o:=fun e=>hpS _ (hpS _ (hpS _ (hpS _ e)));have g5:(zt5 s.heap a b).get? (zt4 s.heap a b).objs.size=some _:=Heap.get?_push_size _ rfl;have g4:(zt5 s.heap a b).get? (zt3 s.heap a b).objs.size=some _:=hpS _ (Heap.get?_push_size _ rfl);have g3:(zt5 s.heap a b).get? (zt2 s.heap a b).objs.size=some _:=hpS _ (hpS _ (Heap.get?_push_size _ rfl));have g2:(zt5 s.heap a b).get? (zt1 s.heap a).objs.size=some _:=hpS _ (hpS _ (hpS _ (Heap.get?_push_size _ rfl)));have g1:(zt5 s.heap a b).get? s.heap.objs.size=some _:=up (Heap.get?_push_size _ rfl);show _∧_;rw[z2,z3,z4] at g5;rw[z1,z2] at g3;rw[z3] at g4;rw[z1] at g2;rw[z4];exact⟨⟨_,g5,rfl⟩,h _ g5 g3 g4 ⟨_,g1,rfl,rfl⟩ ⟨_,g2,rfl,rfl⟩ fun c o e=>up (hpS _ e)⟩
def rM (K:Fg) (a b:Addr):It :=
  ⟨fun i H=>∃ xs ys x y,SqT K H a xs∧SqT K H b ys∧xs[i]?=some x∧ys[i]?=some y,fun i H v H'=>∃ t x y,v=.ref t∧H t=none∧H'=upd H t (.tup [x,y])∧(∀ xs,SqT K H a xs→xs[i]?=some x)∧∀ ys,SqT K H b ys→ys[i]?=some y,
    fun i H=>∃ xs ys,SqT K H a xs∧SqT K H b ys∧(xs.length≤i∨ys.length≤i)⟩
theorem nR {P:Program} {w:World} {K:Fg} {elts:List Expr} {k} {pos:Pos} (a b z TI TO i1 i2:Addr) (h0:z≠TI∧z≠TO∧z≠i1∧z≠i2∧TI≠TO∧TI≠i1∧TI≠i2∧TO≠i1∧TO≠i2∧i1≠i2) (hab:a≠TO∧b≠TO) :
 mr P w K (.Tuple elts k pos) (rM K a b) [z,TI,TO,i1,i2] z (fun i h=>IsZip h z TI TO .none∧IsPair h TI (.ref i1) (.ref i2)∧(∃ u v,IsPair h TO u v)∧h.IsTupleIter i1 a i∧h.IsTupleIter i2 b i) where
 mem:=by simp
 obj:=fun i h st c hc=>by
  obtain⟨h1,h2,⟨u,v,h3⟩,⟨o4,h4,_,d4⟩,⟨o5,h5,_,d5⟩⟩:=st;simp only[List.mem_cons,nMN,or_false] at hc
  rcases hc with rfl | rfl | rfl | rfl | rfl
  · exact⟨_,h1,fun v z=>by cases z⟩
  · exact⟨_,h2,fun v z=>by cases z⟩
  · exact⟨_,h3,fun v z=>by cases z⟩
  · exact⟨_,h4,fun v z=>by rw[d4] at z;cases z⟩
  · exact⟨_,h5,fun v z=>by rw[d5] at z;cases z⟩
 keep:=fun i h h' st k=>by
  obtain⟨h1,h2,⟨u,v,h3⟩,⟨o4,h4,r4⟩,⟨o5,h5,r5⟩⟩:=st;exact⟨k z (by simp) _ h1,k TI (by simp) _ h2,⟨u,v,k TO (by simp) _ h3⟩,⟨o4,k i1 (by simp) _ h4,r4⟩,⟨o5,k i2 (by simp) _ h5,r5⟩⟩
 item:=by
  intro X hP hw hK hc i pins s σ H E I hf st hg;subst hP hw hK;obtain⟨xs,ys,x,y,hqx,hqy,hx,hy⟩:=hg;obtain⟨its,rv,p,hz⟩:=I.tuple hqx;obtain⟨its2,rv2,p2,hz2⟩:=I.tuple hqy;obtain⟨u,hu,ru⟩:=rv.get hx;obtain⟨v,hv,rv'⟩:=rv2.get hy;obtain⟨h1,h2,⟨u0,v0,h3⟩,h4,h5⟩:=st;obtain⟨n1,n2,n3,n4,n5,n6,n7,n8,n9,n10⟩:=h0;obtain⟨ol,hol,hcl,_⟩:=id p;obtain⟨ol2,hol2,hcl2,_⟩:=id p2;obtain⟨o4,g4,c4,d4⟩:=id h4;obtain⟨o5,g5,c5,d5⟩:=id h5;have D:ZAp z TI TO i1 i2 a b:=⟨⟨n1.symm,n2.symm,n3.symm,n4.symm,cv hol h1 (by rw[hcl];simp),cv hol2 h1 (by rw[hcl2];simp)⟩,⟨n5,n8.symm,n9.symm,hab.1,hab.2⟩,⟨n6,n7,n10⟩,
    ⟨cv hol g4 (by rw[hcl,c4];simp),cv hol g5 (by rw[hcl,c5];simp),cv hol2 g4 (by rw[hcl2,c4];simp),cv hol2 g5 (by rw[hcl2,c5];simp)⟩⟩
  refine lN D (eO i1 a D.l_.1 its.toArray) (eO i2 b D.l_.2.2.2 its2.toArray) h1 h2 h3 ⟨h4,p⟩ ⟨h5,p2⟩ (x:=u) (y:=v) (by simpa using hu) (by simpa using hv) fun h' e1 e2 e3 e4 e5 e7=>?_;refine⟨_,rfl,wpAny_letOwnedTupleGo_zip (s:={s with heap:=h'}) e1 fun h'' f1 sb=>?_⟩;have lz:z<s.heap.objs.size:=Heap.lt_size h1;have keep:∀ c o,c∉[z,TI,TO,i1,i2]→s.heap.get? c=some o→h''.get? c=some o:=fun c o hc q=>by
   simp only[List.mem_cons,nMN,or_false,not_or] at hc;exact (sb.2 c hc.1).trans (e7 c o hc.1 hc.2.2.1 hc.2.2.2.1 hc.2.2.2.2 q)
  have hT:h''.get? s.heap.objs.size=some {cls:=.type "tuple",data:=.seq #[u,v]}:=(sb.2 _ (Nat.ne_of_gt lz)).trans e5;have I2:Inv X pins σ (upd H s.heap.objs.size (.tup [x,y])) {s with heap:=h''}:=I.turnedNew (t':=s.toks) hf keep ⟨cE,[u,v],.cons ru (.cons rv' .nil),⟨_,hT,rfl,_,rfl⟩⟩;refine⟨.ref s.heap.objs.size,_,I2,rfl,⟨_,x,y,rfl,I.hok.fresh (Nat.le_refl _),rfl,fun q hq=>by rw[I.tuple_inj hq hqx];exact hx,fun q hq=>by rw[I.tuple_inj hq hqy];exact hy⟩,⟨f1,?_,⟨u,v,(sb.2 TO D.z_.2.1).trans e2⟩,?_,?_⟩,fun c hc=>?_⟩
  · exact (sb.2 TI D.z_.1).trans (e7 TI _ D.z_.1 D.o_.1 D.i_.1 D.i_.2.1 h2)
  · obtain⟨⟨o,q,r⟩,_⟩:=e3;exact⟨o,(sb.2 i1 D.z_.2.2.1).trans q,r⟩
  · obtain⟨⟨o,q,r⟩,_⟩:=e4;exact⟨o,(sb.2 i2 D.z_.2.2.2.1).trans q,r⟩
  · have hlt:c<s.heap.objs.size:=by
     simp only[List.mem_cons,nMN,or_false] at hc
     rcases hc with rfl | rfl | rfl | rfl | rfl
     · exact lz
     · exact Heap.lt_size h2
     · exact Heap.lt_size h3
     · exact Heap.lt_size g4
     · exact Heap.lt_size g5
    rw[ad (Nat.ne_of_lt hlt)];exact (hf c hc).1
 done:=by
  intro X hP hw hK hc i pins s σ H E I hf st hg;subst hP hw hK;obtain⟨xs,ys,hqx,hqy,hlen⟩:=hg;obtain⟨its,rv,p,hz⟩:=I.tuple hqx;obtain⟨its2,rv2,p2,hz2⟩:=I.tuple hqy;obtain⟨h1,h2,⟨u0,v0,h3⟩,h4,h5⟩:=st;obtain⟨n1,n2,n3,n4,n5,n6,n7,n8,n9,n10⟩:=h0;obtain⟨ol,hol,hcl,_⟩:=id p;obtain⟨ol2,hol2,hcl2,_⟩:=id p2;obtain⟨o4,g4,c4,d4⟩:=id h4;obtain⟨o5,g5,c5,d5⟩:=id h5;have D:ZAp z TI TO i1 i2 a b:=⟨⟨n1.symm,n2.symm,n3.symm,n4.symm,cv hol h1 (by rw[hcl];simp),cv hol2 h1 (by rw[hcl2];simp)⟩,⟨n5,n8.symm,n9.symm,hab.1,hab.2⟩,⟨n6,n7,n10⟩,
    ⟨cv hol g4 (by rw[hcl,c4];simp),cv hol g5 (by rw[hcl,c5];simp),cv hol2 g4 (by rw[hcl2,c4];simp),cv hol2 g5 (by rw[hcl2,c5];simp)⟩⟩
  have e1:=rv.length;have e2:=rv2.length;refine o8 (I.ok.hd hc) D (eO i1 a D.l_.1 its.toArray) (eO i2 b D.l_.2.2.2 its2.toArray) h1 h2 h3 ⟨h4,p⟩ ⟨h5,p2⟩ (hlen.imp (fun q=>by simp;lia) fun q=>by simp;lia) fun h' kp=>⟨rfl,I.turnedAll (t':=s.toks) hf fun c o hc q=>?_⟩;simp only[List.mem_cons,nMN,or_false,not_or] at hc;exact kp c o hc.1 hc.2.2.1 hc.2.2.2.1 hc.2.2.2.2 q
 self:=fun _ _ _ _ _ st h=>wpAny_pyIter_zip st.1 h
def At (K:Fg) (ta:TA):TI:=fun σ H R=>ta σ H fun vs H1=>∃ a b xs ys,vs=[.ref a,.ref b]∧SqT K H1 a xs∧SqT K H1 b ys∧R (rM K a b) H1
theorem tm {X:Cx} {elts:List Expr} {k} {tpos:Pos} {e1 e2:Expr} {ta:TA} {p pos:Pos} (hg:Gl X "zip") (hm:X.mg "zip"=none) (ha:PA X [e1,e2] ta) (hs:starEach [e1,e2] X.env=[(false,eval e1 X.env),(false,eval e2 X.env)]:=by rfl) (hs2:starEach [e2] X.env=[(false,eval e2 X.env)]:=by rfl) :
 PI X (.Tuple elts k tpos) (.Call (.Name "zip" p) [e1,e2] [] pos) (At X.K ta):=by
 intro pins s σ H R I h;refine Call_ (cJ I hg hm rD (PyProof.Rows.callWith_type1 (thn (ha pos pins s σ H _ I h) fun us s1 zy16=>?_) (by rw[hs,hs2]) (by rw[hs2];rfl)));obtain⟨vs,H1,I1,r1,q1⟩:=zy16;obtain⟨a,b,xs,ys,e,hqx,hqy,q⟩:=q1;subst e;obtain⟨u,v,rfl,ru,rv⟩:=r1.two;cases ru;cases rv;obtain⟨its,rv,p1,hz⟩:=I1.tuple hqx;obtain⟨its2,rv2,p2,hz2⟩:=I1.tuple hqy;have la:a<s1.heap.objs.size:=by obtain⟨o,e,_⟩:=id p1;exact Heap.lt_size e
 have lb:b<s1.heap.objs.size:=by obtain⟨o,e,_⟩:=id p2;exact Heap.lt_size e
 refine oM p1 p2 fun h' f1 f2 f3 f4 f5 f7=>?_;refine wpAny_pyIter_zip f1 ?_;have I2:Inv X pins σ H1 {s1 with heap:=h'}:=I1.kept (t':=s1.toks) f7;generalize hn:s1.heap.objs.size=n at f1 f2 f3 f4 f5 la lb;refine⟨n+4,[n+4,n+2,n+3,n,n+1],_,rM X.K a b,H1,rfl,I2,nR a b (n+4) (n+2) (n+3) n (n+1) (by refine⟨?_,?_,?_,?_,?_,?_,?_,?_,?_,?_⟩ <;> (intro z;have z':(_:Nat)=_:=z;lia)) ⟨Nat.ne_of_lt (Nat.lt_add_right 3 la),Nat.ne_of_lt (Nat.lt_add_right 3 lb)⟩,⟨f1,f2,⟨_,_,f3⟩,f4,f5⟩,fun c hc=>?_,q⟩;have hc':s1.heap.objs.size≤c:=by
  rw[hn];simp only[List.mem_cons,nMN,or_false] at hc
  rcases hc with rfl | rfl | rfl | rfl | rfl
  · exact Nat.le_add_right _ _
  · exact Nat.le_add_right _ _
  · exact Nat.le_add_right _ _
  · exact Nat.le_refl _
  · exact Nat.le_add_right _ _
 exact I1.fpOk hc' (I1.hok.fresh hc')
theorem cW {X:Cx} {p pos:Pos} {e:Expr} {es:List Expr} {t:TA} (hm:X.mg "tuple"=none) (ha:PA X (e::es) t) (hg:Gl X "tuple":=by rfl)
 (he:starEach (e::es) X.env=(false,eval e X.env)::starEach es X.env:=by rfl) (hpl:(backTo pos (starEach es X.env)).any (·.1)=false:=by rfl) :
 PE X (.Call (.Name "tuple" p) (e::es) [] pos) (tCB (ql X.K) t):=eK j6 hg hm l0 ha (he:=he) (hpl:=hpl)
theorem eh (xs:List V) (k:Nat):iL xs (some ((k:Nat):Int)) none=xs.drop k:=by
 unfold iL;rw[HT.kC,HT.sP];by_cases h:k≤xs.length
 · rw[Nat.min_eq_left h,List.take_of_length_le (by rw[List.length_drop];exact Nat.le_refl _)]
 · rw[Nat.min_eq_right (by lia),List.drop_of_length_le (Nat.le_refl _),List.drop_of_length_le (by lia)];exact List.take_nil
theorem aA.zipT {K:Fg} {a b:Addr} {xs ys:List V} {g:TG} {tb:TS} {D:gD} {σ:St} {H:Hp} (hlen:xs.length=ys.length) (Pv:Nat→St→Hp→Prop) (h0:Pv 0 σ H) (hl:∀ i σ H,i≤xs.length→Pv i σ H→SqT K H a xs∧SqT K H b ys)
 (hs:∀ i x y σ H t,xs[i]?=some x→ys[i]?=some y→Pv i σ H→H t=none→g (.ref t) σ (upd H t (.tup [x,y])) fun σ2 H2=>tb {D with nx:=Pv (i+1),ct:=Pv (i+1),bk:=D.nx} σ2 H2) (hd:∀ σ H,Pv xs.length σ H→D.nx σ H):aA (rM K a b) g tb D σ H:=by
 refine⟨fun i m σ H=>i≤xs.length∧m=xs.length-i∧Pv i σ H,⟨_,Nat.zero_le _,rfl,h0⟩,fun i m σ H z=>?_⟩;obtain⟨hi,hm,hp⟩:=z;obtain⟨l1,l2⟩:=hl i σ H hi hp;by_cases hlt:i<xs.length
 · have hlt2:i<ys.length:=by lia
   refine .inr ⟨⟨xs,ys,xs[i],ys[i],l1,l2,by simp[hlt],by simp[hlt2]⟩,fun σ' H'=>Pv (i+1) σ' H',fun σ' H' q=>⟨xs.length-(i+1),by rw[hm];exact Nat.sub_succ_lt_self _ _ hlt,hlt,rfl,q⟩,?_⟩;rintro v H' ⟨t,x,y,rfl,ht,rfl,hx,hy⟩;exact hs i x y σ H t (hx xs l1) (hy ys l2) hp ht
 · have:i=xs.length:=by lia
   subst this;exact .inl ⟨⟨xs,ys,l1,l2,.inl (Nat.le_refl _)⟩,hd σ H hp⟩
theorem pI {c A B:Prop} [Decidable c] (h:¬ c) (b:B):if c then A else B:=by rw[if_neg h];exact b
theorem pJ {c A B:Prop} [Decidable c] (h:c) (a:A):if c then A else B:=by rw[if_pos h];exact a
theorem aA.zipTN {K:Fg} {a b:Addr} {xs ys:List V} {g:TG} {tb:TS} {d:St→Hp→Prop} {r:VK} {k c:St→Hp→Prop} {σ:St} {H:Hp} (hlen:xs.length=ys.length) (Pv:Nat→St→Hp→Prop) (h0:Pv 0 σ H) (hl:∀ i σ H,i≤xs.length→Pv i σ H→SqT K H a xs∧SqT K H b ys)
 (hs:∀ i x y σ H t (N B:St→Hp→Prop),(∀ σ' H',Pv (i+1) σ' H'→N σ' H')→xs[i]?=some x→ys[i]?=some y→Pv i σ H→H t=none→g (.ref t) σ (upd H t (.tup [x,y])) fun σ2 H2=>tb ⟨N,r,B,N⟩ σ2 H2) (hd:∀ σ H,Pv xs.length σ H→d σ H):aA (rM K a b) g tb ⟨d,r,k,c⟩ σ H :=
 aA.zipT hlen Pv h0 hl (fun i x y σ H t h1 h2 h3 h4=>hs i x y σ H t _ _ (fun _ _ z=>z) h1 h2 h3 h4) hd
end L2
namespace HT
open PySem PySem.Spec PyProof.Rows
section
variable {prog:Program} {w:World} {A:Around} {E:VSP} {s:Shared}
theorem eT {t sl:Addr} {ao:Array Value} {vl vu:Value} {lo hi:Option Int} {Q:VSP} (ht:IsTup s.heap t ao) (hs:s.heap.IsSliceOf sl vl vu .none) (pl:IsPart vl lo) (pu:IsPart vu hi)
 (hw:sIx ao.size 0 lo=0∧sIx ao.size ao.size hi=ao.size) (h:Q (.ref t) s):wpAny (model prog w) A (getItem (.ref t) (.ref sl)) Q E s:=by
 obtain⟨os,hos,hcs,hds⟩:=id hs;have hTs:s.TypeIs (.ref sl) "slice":=⟨os,hos,hcs⟩;unfold getItem
 try with_reducible refine wpAny_holding ?_
 first | refine wB (wP ?_) | skip
 refine wB (wpAny_sequenceKey ht.typeIs (by decide) ?_);refine wB (wpAny_callSpecial?_slot (name:=Str.ofString "__getitem__") ht.typeIs PyProof.Rows.slot_tuple_getitem
   (wpAny_call_entry PyProof.Rows.slot_tuple_getitem ht.typeIs entry_tuple_getitem ?_ (args_tuple_getitem _ _)))
 show wpAny _ _ (Builtin.Tuple.tupleItemsOf (.ref t)>>=_) _ _ s;refine wB (tupleItemsOf_ ht ?_);refine wB (wpAny_typeOf hTs ?_);rw[if_pos (by decide)];refine wB (di hs pl pu ?_);have hyes:((((sIx ao.size 0 lo:Nat):Int)==0&&(1:Int)==1&&(sIx ao.size ao.size hi-sIx ao.size 0 lo)==ao.size)=true):=by
  rw[hw.1,hw.2];simp
 show wpAny _ _ (if (((sIx ao.size 0 lo:Nat):Int)==0&&(1:Int)==1&&(sIx ao.size ao.size hi-sIx ao.size 0 lo)==ao.size)=true then _ else _) _ _ s;rw[if_pos hyes];unfold Builtin.Tuple.tupleIsExact;refine wB (wB (wpAny_typeOf ht.typeIs (wP ?_)));rw[if_pos (by decide)];exact wB (wpAny_rule (wP ⟨_,rfl,wP h⟩))
end
end HT
namespace L2
open PySem PySem.Spec PyProof.Rows
section
variable {X:Cx}
def qm (K:Fg):V→Option Int→Option Int→Hp→VK→Prop:=fun x lo hi H Q=>∃ a xs,x=.ref a∧SqT K H a xs ∧
  (iL xs lo hi=xs→Q (.ref a) H)∧∀ p,H p=none→Q (.ref p) (upd H p (.tup (iL xs lo hi)))
theorem hU:SlR X (qm X.K):=by
 intro pins s σ H x v vl vu lo hi sl Q I rx hs pl pu h;obtain⟨a,xs,rfl,hx,q1,q2⟩:=h;by_cases hw:HT.sIx xs.length 0 lo=0∧HT.sIx xs.length xs.length hi=xs.length
 · cases rx;obtain⟨its,r,ht,hz⟩:=I.tuple hx;have hlen:its.toArray.size=xs.length:=by rw[List.size_toArray];exact r.length.symm
   refine⟨"tuple",_,PyProof.Rows.slot_tuple_getitem.lookup,ht.typeIs,?_⟩;refine HT.eT ht hs pl pu (by rw[hlen];exact hw) ⟨.ref a,H,I,rfl,q1 ?_⟩;unfold iL;rw[hw.1,hw.2];simp
 · exact qc pins s σ H _ v vl vu lo hi sl Q I rx hs pl pu ⟨a,xs,rfl,hx,hw,q2⟩
end
end L2
namespace L2
theorem C9 {x a b:Nat} (h:x≤a:=by with_reducible assumption) (e:Nat.ble a b=true:=by decide):x≤b:=Nat.le_trans h (Nat.le_of_ble_eq_true e)
theorem C8 {x c a b:Nat} (h:x≤c:=by with_reducible assumption) (e:Nat.ble a b=true:=by decide):x+a≤c+b:=Nat.add_le_add h (Nat.le_of_ble_eq_true e)
theorem C6 {b c A B:Nat} (h:b≤c:=by with_reducible assumption) (h2:c≤A:=by with_reducible assumption) (e:Nat.ble A B=true:=by decide):b≤B:=C9 (Nat.le_trans h h2) e
theorem C7 {b c d:Nat} (h:b=d:=by with_reducible assumption) (h2:c=d:=by with_reducible assumption):b=c:=h.trans h2.symm
end L2
namespace P10
open PySem L2
def tbl:List (Str×List Str):=[("number",["number"]),("name",["meant"]),("let",["bound","one","one"]),("var",["bound","one","one"]),("set",["meant","one"]),("do",["many"]),("if",["one","one","one"]),("while",["one","one"]),("each",["bound","one","one"]),("say",["one"]),("fault",["word"]),("op",["op","many"]),("new",["place","many"]),("get",["place","place","one"]),("fun",["bounds","one"]),("apply",["one","many"]),("call",["place","many"])]
def ao:PyData→PDs
  | .tuple l=>l
  | _=>[]
def fM (s:Str) (d:PyData):PDs:=if s="one" then [d] else if s="many" then ao d else []
def aX (sl:List Str) (ps:PDs):PDs:=(List.zipWith fM sl ps).flatten
def Shp (s:Str) (d:PyData):Prop:=(s="many"→∃ l,d=.tuple l)∧(s∈(["number","meant","bound","place"]:List Str)→∃ i,d=.int i)∧(s∈(["op","word"]:List Str)→∃ x,d=.str x)∧(s="bounds"→∃ is:List Int,d=.tuple (is.map .int)∧is.length≤3)
structure Nd (d:PyData) (h:Str) (sl:List Str) (ps:PDs):Prop where
  eq:d=.tuple (.str h::ps)
  mem:(h,sl)∈tbl
  shp:Paired Shp sl ps
  few:(aX sl ps).length≤8
theorem lV {sl:List Str} {ps:PDs} {i:Nat} {s:Str} {p:PyData} (h1:sl[i]?=some s) (h2:ps[i]?=some p):aX (sl.take (i+1)) (ps.take (i+1))=aX (sl.take i) (ps.take i)++fM s p:=by
 unfold aX;have hi:i<sl.length:=(gES.mp h1).1;have hj:i<ps.length:=(gES.mp h2).1;rw[tAO,tAO,h1,h2];show (List.zipWith fM (sl.take i++[s]) (ps.take i++[p])).flatten=_;rw[List.zipWith_append (by rw[lTk,lTk];lia),List.flatten_append];simp
theorem qU {sl:List Str} {ps:PDs} (i:Nat):(aX (sl.take i) (ps.take i)).length≤(aX sl ps).length:=by
 unfold aX;have e:List.zipWith fM (sl.take i) (ps.take i)=(List.zipWith fM sl ps).take i:=by rw[List.take_zipWith]
 rw[e];have:=congrArg (fun l=>(List.flatten l).length) (List.take_append_drop i (List.zipWith fM sl ps));simp only[List.flatten_append,lAp] at this;lia
theorem sn {k:Str} {sl:List Str} (h:(k,sl)∈tbl):sl.length≤3:=by
 have:∀ p∈tbl,p.2.length≤3:=by decide +kernel
 exact this _ h
end P10
namespace K23
open PySem L2 P10
structure Blt (mg:SOV):Prop where
  len:mg "len"=none
  range:mg "range"=none
  isinstance:mg "isinstance"=none
  tuple:mg "tuple"=none
  str:mg "str"=none
  zip:mg "zip"=none
  list:mg "list"=none
  sorted:mg "sorted"=none
structure Glb (P:Program) (w:World) (K:Fg) (mg:SOV):Prop where
  slots:∃ a kvs,mg "SLOTS"=some (.ref a)∧nK P w K a kvs∧∀ k sl,(k,sl)∈tbl→∃ r,bj kvs (.inr k)=some (.ref r)∧∀ H,SqT K H r (sl.map V.str)
section
variable {CX:CXT} {P:Program} {w:World} {K:Fg} {mg:SOV} {base:Heap} {N:List Str} {q:Str} {sc:Scope} {f:Addr} {cd:Value} {A:Around} {outer:List Env} {s:Shared} {H:Hp} {E:XK}
theorem bd:(be CX P w K mg base N q sc f cd A outer s H E).nox.K=K:=rfl
theorem oK:(be CX P w K mg base N q sc f cd A outer s H E).nox.prog=P:=rfl
theorem oJ:(be CX P w K mg base N q sc f cd A outer s H E).nox.w=w:=rfl
end
theorem cS {K:Fg} {H:Hp} {a b:Addr} {xs ys:PDs} {Q:VK} (hA:TD K H (.ref a) (.tuple xs)) (hB:TD K H (.ref b) (.tuple ys)) (hz:xs.length+ys.length≤100000)
 (q:∀ p H',ai H H'→TD K H' (.ref p) (.tuple (xs++ys))→Q (.ref p) H'):qo K (.ref a) (.ref b) H Q:=by
 obtain⟨a',us,e,ha,hu⟩:=hA.tup_of;cases e;obtain⟨b',vs,e,hb,hv⟩:=hB.tup_of;cases e;have hz0:(100000:Nat)<sizeLine:=by decide
 have l1:=hu.length;have l2:=hv.length;refine⟨a,b,us,vs,rfl,rfl,ha,hb,by lia,fun e=>?_,fun _ e=>?_,fun _ _ p hp=>?_⟩
 · have:xs=[]:=by rw[e] at l1;exact List.eq_nil_of_length_eq_zero l1.symm
   rw[this,List.nil_append] at q;exact q b H (ai.refl H) hB
 · have:ys=[]:=by rw[e] at l2;exact List.eq_nil_of_length_eq_zero l2.symm
   rw[this,List.append_nil] at q;exact q a H (ai.refl H) hA
 · have k:=smu (o:=HO.tup (us++vs)) hp;exact q p _ k (.tup (SqT.of pE) ((hu.same k).app (hv.same k)))
theorem sF {sl:List Str} {ps:PDs} (h:Paired Shp sl ps) {i:Nat} {p:PyData} (hp:ps[i]?=some p):∃ s,sl[i]?=some s∧Shp s p:=by
 induction h generalizing i with
 | nil=>simp at hp
 | cons z t ih =>
  cases i with
  | zero=>cases hp;exact⟨_,rfl,z⟩
  | succ i=>exact ih hp
section
variable {P:Program} {w:World} {K:Fg} {mg:SOV} {base:Heap}
abbrev sCh:Stmt:=top 3
inductive vE (K:Fg) (vs:List V) (H:Hp) (Q:VK):Prop
  | mk (v:V) (d:PyData) (h:Str) (sl:List Str) (ps:PDs) (g0_:vs=[v]) (g1_:TD K H v d) (g2_:Nd d h sl ps) (g3_:∀ v' H',ai H H'→TD K H' v' (.tuple (aX sl ps))→Q v' H'):vE K vs H Q
def gP (K:Fg):Sp:=fun vs H Q _=>vE K vs H Q
theorem zd:am ["e","children","slot","part"] ["e"] (a0 sCh):=fsM
theorem Af (D:Def K mg "children_of" sCh) (T:Blt mg) (C:Glb P w K mg):Fn P w K mg base "children_of" 1 ["e"] (gP K):=by
 refine D.fn zd (fun vs H Q E h=>?_) (fun _ _ _ _ _ _ us hl=>by obtain⟨a,rfl⟩:=iF hl;rfl) (fun f cdv A outer s' H vs Q E hr h=>?_)
 · obtain⟨v,d,h',sl,ps,rfl,_⟩:=h;rfl
 · obtain⟨v,d,hd,sl,ps,rfl,td,nd',q⟩:=h;obtain⟨rfl,hm,hshp,hfew⟩:=nd';obtain⟨a,xs,rfl,ha,hx⟩:=td.tup_of;obtain⟨aS,kvs,gS,hS,hkv⟩:=C.slots;obtain⟨r,hr1,hr2⟩:=hkv hd sl hm;have nd:=zd.nd;have tl:=sn hm;have hfl:=Paired.length hshp;obtain⟨x0,xr,rfl,hx0,hxr⟩:∃ x0 xr,xs=x0::xr∧TD K H x0 (.str hd)∧TDs K H xr ps:=by
    cases hx with
    | cons p q=>exact⟨_,_,rfl,p,q⟩
   obtain rfl:=hx0.str_of;have hxl:=hxr.length;have hz0:(1000000:Nat)<sizeLine:=by decide
   refine⟨_,(pD (pL (i:=1) nd rfl (Or.inl rfl) (ag pB))
 (pD (bF PassesOwn.never rfl (tm rfl T.zip (pA (tH (jD (v:=.ref aS) rfl gS rfl) (aa a9 (pv 0) pF (fun _ _=>rfl)) (fun _ _=>rfl)) (pA (dS qc (pv 0) (eJ pF) fH) pB))) (jC rfl (bQ (aw (i:=2) nd rfl (Or.inl rfl)) (bQ (aw (i:=3) nd rfl (Or.inl rfl)) hZ)))
 (pG (az (pM aH (pv 2) pC (pN _)) (pG (qv (i:=1) nd rfl (Or.inl rfl) (ag (pA (pv 3) pB)) (nn))) (pG (az (pM aH (pv 2) pC (pN _)) (pG (qv (i:=1) nd rfl (Or.inl rfl) (cW T.tuple (pA (pv 3) pB)) (nn))) ah)))))
 (pG (ae (pv 1))))),?_⟩
   dsimp only[bd,oK,oJ];refine⟨lm,fun c hc=>?_⟩;have k1:=smu (o:=HO.tup []) hc;have dc:TD K (upd H c (.tup [])) (.ref c) (.tuple []):=.tup (SqT.of pE) .nil;generalize upd H c (.tup [])=H1 at k1 dc ⊢;refine⟨_,rfl,a,_,0,.str hd,rfl,rfl,k1.seqT ha,pH (j:=0) rfl,aS,kvs,.inr hd,.ref r,rfl,hS,rfl,hr1,_,rfl,_,rfl,a,_,rfl,k1.seqT ha,?_,fun p2 hp2=>?_⟩
   · unfold HT.sIx;simp
   · rw[show (some (1:Int))=some (((1:Nat):Nat):Int) from rfl,eh];have k2:=smu (o:=HO.tup ((V.str hd::xr).drop 1)) hp2;have hp2':(upd H1 p2 (.tup ((V.str hd::xr).drop 1))) p2=some (.tup xr):=pE;generalize upd H1 p2 (.tup ((V.str hd::xr).drop 1))=H2 at k2 hp2' ⊢;refine⟨r,p2,_,_,rfl,hr2 _,SqT.of hp2',?_⟩;show aA _ _ _ _ _ _;refine aA.zipTN (xs:=sl.map V.str) (ys:=xr) (by rw[lMp];exact C7) (fun i σ Hi=>ai H2 Hi∧∃ b x2 x3,σ=[some (.ref a),some (.ref b),x2,x3]∧TD K Hi (.ref b) (.tuple (aX (sl.take i) (ps.take i))))
      ⟨ai.refl _,c,_,_,rfl,dc.same k2⟩ ?_ ?_ ?_
     · rintro i σ Hi _ ⟨s2,_⟩;exact⟨hr2 _,SqT.of (s2 _ _ hp2')⟩
     · rintro i x y σ Hi t N_ B_ hN_ hxi hyi ⟨s2,b,x2,x3,rfl,db⟩ ht;rw[gEM] at hxi;obtain⟨slot,hsi,rfl⟩:=oMS.mp hxi;obtain⟨d,hdi,htd⟩:=hxr.get hyi;obtain⟨s0,hs0,hsh⟩:=sF hshp hdi;rw[hsi] at hs0;cases hs0;have k3:=smu (o:=HO.tup [V.str slot,y]) ht;have dy:=htd.same (k1.trans (k2.trans (s2.trans k3)));have db3:=db.same k3;have st:=lV hsi hdi;have hle:=qU (sl:=sl) (ps:=ps) (i+1);refine⟨t,_,rfl,SqT.of pE,rfl,_,_,rfl,_,_,rfl,rfl,?_⟩;have s3:=s2.trans k3;generalize upd Hi t (.tup [V.str slot,y])=H3 at k3 dy db3 s3 ⊢;refine⟨_,rfl,rfl,_,rfl,?_⟩;by_cases h1:slot="one"
       · subst h1;refine pJ (by simp) ?_;refine⟨_,rfl,_,rfl,ke,fun u hu=>?_⟩;have k4:=smu (o:=HO.tup [y]) hu;rw[st] at hle;refine cS (db3.same k4) (ys:=[d]) (.tup (SqT.of pE) (.cons (dy.same k4) .nil)) (by simp[fM] at hle ⊢;lia) fun p H' s' dp=>?_;exact hN_ _ _ ⟨s3.trans (k4.trans s'),p,_,_,rfl,by rw[st];exact dp⟩
       · refine pI (by simpa using h1) ?_;refine⟨_,rfl,rfl,_,rfl,?_⟩;by_cases h2:slot="many"
         · subst h2;obtain⟨l,rfl⟩:=hsh.1 rfl;refine pJ (by simp) ?_;obtain⟨ay,xy,rfl,hay,hxy⟩:=dy.tup_of;refine⟨_,rfl,_,rfl,ay,xy,rfl,.inr ⟨hay,?_⟩⟩;rw[st] at hle;refine cS db3 (ys:=l) dy (by rw[lAp] at hle;show _+l.length≤_;have e:(fM "many" (PyData.tuple l))=l:=rfl;rw[e] at hle;exact C6) fun p H' s' dp=>?_;exact hN_ _ _ ⟨s3.trans s',p,_,_,rfl,by rw[st];exact dp⟩
         · refine pI (by simpa using h2) ?_;have e:fM slot d=[]:=by unfold fM;rw[if_neg h1,if_neg h2]
           exact hN_ _ _ ⟨s3,b,_,_,rfl,by rw[st,e,List.append_nil];exact db3⟩
     · rintro σ Hi ⟨s2,b,x2,x3,rfl,db⟩;rw[lMp,List.take_length,hfl,List.take_length] at db;exact⟨_,rfl,q _ _ (k1.trans (k2.trans s2)) db⟩
end
end K23
namespace L2
open PySem
theorem TDs.at {K:Fg} {H:Hp} {xs:List V} {ds:PDs} (h:TDs K H xs ds) {i:Nat} {d:PyData} (hd:ds[i]?=some d):∃ x,xs[i]?=some x∧TD K H x d:=by
 have hi:i<ds.length:=(gES.mp hd).1;have hx:xs[i]?=some (xs[i]'(by rw[h.length];exact hi)):=gEE _;obtain⟨d',h1,h2⟩:=h.get hx;rw[hd] at h1;cases h1;exact⟨_,hx,h2⟩
theorem SqL.same {K:Fg} {H H':Hp} {a:Addr} {xs:List V} (s:ai H H') (h:SqL K H a xs):SqL K H' a xs:=s.seq h
end L2
namespace L2
theorem aq {a b:TS} {d:St→Hp→Prop} {r:VK} {k c:St→Hp→Prop} {σ:St} {H:Hp} (h:∀ N:St→Hp→Prop,(∀ σ' H',b ⟨d,r,k,c⟩ σ' H'→N σ' H')→a ⟨N,r,k,c⟩ σ H):vU a b ⟨d,r,k,c⟩ σ H:=h _ fun _ _ z=>z
theorem aA.byN {J:It} {xs:List V} {Ok:Hp→Prop} (Y:ej J xs Ok) {g:TG} {tb:TS} {d:St→Hp→Prop} {r:VK} {k c:St→Hp→Prop} {σ:St} {H:Hp} (Pv:Nat→St→Hp→Prop) (h0:Pv 0 σ H) (hl:∀ i σ H,i≤xs.length→Pv i σ H→Ok H)
 (hs:∀ i x σ H (N B:St→Hp→Prop),(∀ σ' H',Pv (i+1) σ' H'→N σ' H')→(∀ σ' H',d σ' H'→B σ' H')→xs[i]?=some x→Pv i σ H→g x σ H fun σ2 H2=>tb ⟨N,r,B,N⟩ σ2 H2) (hd:∀ σ H,Pv xs.length σ H→d σ H):aA J g tb ⟨d,r,k,c⟩ σ H :=
 aA.by Y Pv h0 hl (fun i x σ H h1 h2=>hs i x σ H _ _ (fun _ _ z=>z) (fun _ _ z=>z) h1 h2) hd
end L2
namespace P10
open PySem L2
def hC (h:Str):List Str:=((tbl.find? fun p=>decide (p.1=h)).map (·.2)).getD []
theorem pZ {h:Str} {sl:List Str} (m:(h,sl)∈tbl):hC h=sl:=by
 have:∀ p∈tbl,hC p.1=p.2:=by decide +kernel
 exact this _ m
def aj:PyData→PDs
  | .tuple (.str h::ps)=>aX (hC h) ps
  | _=>[]
theorem Nd.kids {d:PyData} {h:Str} {sl:List Str} {ps:PDs} (n:Nd d h sl ps):aj d=aX sl ps:=by
 rw[n.eq];show aX (hC h) ps=_;rw[pZ n.mem]
def atD (d:PyData):List Nat→Option PyData
  | []=>some d
  | i::r=>(aj d)[i]?.bind fun x=>atD x r
def WFd:Nat→PyData→Prop
  | 0,_=>False
  | n+1,d=>∃ h sl ps,Nd d h sl ps∧∀ x∈aX sl ps,WFd n x
theorem WFd.kid {n:Nat} {d x:PyData} (h:WFd (n+1) d) (hx:x∈aj d):WFd n x:=by
 obtain⟨h',sl,ps,nd,w⟩:=h;rw[nd.kids] at hx;exact w x hx
def dN (l:List Nat):PyData:=.tuple (l.map fun n=>.int ((n:Nat):Int))
end P10
namespace K23
open PySem L2 P10
section
variable {P:Program} {w:World} {K:Fg} {mg:SOV} {base:Heap}
abbrev sAt:Stmt:=top 4
def AtV (K:Fg) (H:Hp) (v:V):Option PyData→Prop
  | some e=>TD K H v e
  | none=>v=.non
inductive vG (K:Fg) (vs:List V) (H:Hp) (Q:VK):Prop
  | mk (v p:V) (n:Nat) (d:PyData) (path:List Nat) (g0_:vs=[v,p]) (g1_:TD K H v d) (g2_:WFd n d) (g3_:TD K H p (dN path)) (g4_:∀ v' H',ai H H'→AtV K H' v' (atD d path)→Q v' H'):vG K vs H Q
def yK (K:Fg):Sp:=fun vs H Q _=>vG K vs H Q
theorem zh:am ["e","path","number","children"] ["e","path"] (a0 sAt):=fsM
theorem Aj (D:Def K mg "at_path" sAt) (T:Blt mg) (bI:Fn P w K mg base "children_of" 1 ["e"] (gP K)):Fn P w K mg base "at_path" 2 ["e","path"] (yK K):=by
 refine D.fn zh (fun vs H Q E h=>?_) (fun _ _ _ _ _ _ us hl=>by obtain⟨a,b,rfl⟩:=dl hl;rfl) (fun f cdv A outer s' H vs Q E hr h=>?_)
 · obtain⟨v,p,n,d,path,rfl,_⟩:=h;rfl
 · obtain⟨v,p,n,d,path,rfl,td,wf,tp,q⟩:=h;have nd:=zh.nd;obtain⟨a,xs,rfl,ha,hx⟩:=tp.tup_of;obtain rfl:=hx.ints;refine⟨_,(pD (bF PassesOwn.never rfl (jB (pv 1)) (aw (i:=2) nd rfl (Or.inl rfl))
 (pD (pL (i:=3) nd rfl (Or.inl rfl) (ab bI (hr.mono (by decide)) rfl (pA (pv 0) pB)))
 (pD (az (fg (qr zC iC pF (pv 2) (bJ T.len (pA (pv 3) pB)))) (pG (ae qD)) ah)
 (pG (pL (i:=0) nd rfl (Or.inl rfl) (aa a9 (pv 3) (pv 2) (fun _ _=>rfl)))))))
 (pG (ae (pv 0)))),?_⟩
   dsimp only[bd,oK,oJ];refine aq fun Ct BZ=>?_;refine⟨_,rfl,a,rfl,⟨_,ha⟩,?_⟩;show aA _ _ _ _ _ _;refine aA.byN (dn (xs:=path.map fun n=>V.int ((n:Nat):Int))) (fun i σ Hi=>ai H Hi∧∃ (u:V) (m:Nat) (e:PyData) (x2 x3:Option V),σ=[some u,some (.ref a),x2,x3]∧TD K Hi u e∧WFd m e∧atD d path=atD e (path.drop i))
    ⟨ai.refl _,v,n,d,_,_,rfl,td,wf,rfl⟩ (fun i σ Hi _ z=>z.1.seqT ha) ?_ ?_
   · rintro i x σ Hi Cs B_ BY hB_ hxi ⟨s2,u,m,e,x2,x3,rfl,tu,we,hat⟩;rw[gEM] at hxi;obtain⟨k,hk,rfl⟩:=oMS.mp hxi;have hi:i<path.length:=(gES.mp hk).1;have hdr:path.drop i=k::path.drop (i+1):=by
      rw[List.drop_eq_getElem_cons hi];congr 1;exact (gES.mp hk).2
     rw[hdr] at hat;obtain⟨m',rfl⟩:∃ m',m=m'+1:=by
      cases m with
      | zero=>exact we.elim
      | succ m'=>exact⟨m',rfl⟩
     obtain⟨h',sl,ps,ndd,wk⟩:=id we;refine⟨_,rfl,u,e,h',sl,ps,rfl,tu,ndd,fun c H3 s3 tc=>?_⟩;obtain⟨ac,xc,rfl,hac,hxc⟩:=tc.tup_of;have hl:=hxc.length;refine⟨_,rfl,_,_,rfl,rfl,_,rfl,?_⟩;refine pJ (by simp) ?_;refine⟨_,rfl,ac,xc,rfl,.inr hac,_,_,rfl,rfl,_,rfl,?_⟩;by_cases hlt:k<xc.length
     · refine pI (by simpa using hlt) ?_;have hlt2:k<(aX sl ps).length:=by lia
       have hg:(aX sl ps)[k]?=some (aX sl ps)[k]:=gEE hlt2;obtain⟨y,hy,ty⟩:=TDs.at hxc hg;refine⟨_,rfl,_,rfl,ac,xc,_,y,rfl,rfl,hac,pH hy,?_⟩;refine BY _ _ ?_;refine⟨s2.trans s3,y,m',_,_,_,rfl,ty,wk _ (List.getElem_mem hlt2),?_⟩;rw[hat];show (aj e)[k]?.bind _=_;rw[ndd.kids,hg];rfl
     · refine pJ (by simpa using hlt) ?_;refine q _ _ (s2.trans s3) ?_;have e0:(aj e)[k]?=none:=by rw[ndd.kids];exact List.getElem?_eq_none (by lia)
       rw[hat];show AtV K H3 V.non ((aj e)[k]?.bind _);rw[e0];rfl
   · rintro σ Hi ⟨s2,u,m,e,x2,x3,rfl,tu,we,hat⟩;refine BZ _ _ ?_;rw[lMp,List.drop_length] at hat;exact⟨_,rfl,q _ _ s2 (by rw[hat];exact tu)⟩
end
end K23
namespace P10
open PySem L2
def aU (z:Str) (ws:List Str):Bool:=ws.any fun y=>y==z
def w1:List Str:=["number","name","fault"]
def w2:List Str:=["let","var","each"]
def w3:List Str:=["op","new","call"]
def w7:List Str:=["set","fun"]
theorem uR {h:Str} {sl:List Str} (m:(h,sl)∈tbl) (e:aU h w1=true):sl=(["number"]:List Str)∨sl=(["meant"]:List Str)∨sl=(["word"]:List Str):=by
 have:∀ p∈tbl,aU p.1 w1=true→p.2=(["number"]:List Str)∨p.2=(["meant"]:List Str)∨p.2=(["word"]:List Str):=by decide +kernel
 exact this _ m e
theorem nG {h:Str} {sl:List Str} (m:(h,sl)∈tbl) (e:aU h w2=true):sl=(["bound","one","one"]:List Str):=by
 have:∀ p∈tbl,aU p.1 w2=true→p.2=(["bound","one","one"]:List Str):=by decide +kernel
 exact this _ m e
theorem xK {sl:List Str} (m:(("apply":Str),sl)∈tbl):sl=(["one","many"]:List Str):=by
 have:∀ p∈tbl,p.1="apply"→p.2=(["one","many"]:List Str):=by decide +kernel
 exact this _ m rfl
theorem bH (z:Str) (ws:List Str):inV (V.str z) (ws.map V.str)=aU z ws:=by
 unfold inV aU;rw[List.any_map];rfl
theorem br (ws:List Str):(ws.map V.str).all eZ=true:=by
 rw[List.all_map,List.all_eq_true];intro x _;rfl
end P10
namespace K23
open PySem L2 P10
theorem i6 {s:Str} {ps:PDs} (h:Paired Shp [s] ps):∃ p,ps=[p]∧Shp s p:=by
 cases h with
 | cons a t=>cases t;exact⟨_,rfl,a⟩
theorem cQ {s s2:Str} {ps:PDs} (h:Paired Shp [s,s2] ps):∃ p p2,ps=[p,p2]∧Shp s p∧Shp s2 p2:=by
 cases h with
 | cons a t=>obtain⟨p2,rfl,h2⟩:=i6 t;exact⟨_,_,rfl,a,h2⟩
theorem i5 {s s2 s3:Str} {ps:PDs} (h:Paired Shp [s,s2,s3] ps):∃ p p2 p3,ps=[p,p2,p3]∧Shp s p∧Shp s2 p2∧Shp s3 p3:=by
 cases h with
 | cons a t=>obtain⟨p2,p3,rfl,h2,h3⟩:=cQ t;exact⟨_,_,_,rfl,a,h2,h3⟩
section
variable {K:Fg} {H:Hp}
theorem vT {xr:List V} {p:PyData} (h:TDs K H xr [p]):∃ x,xr=[x]∧TD K H x p:=by
 cases h with
 | cons a t=>cases t;exact⟨_,rfl,a⟩
theorem lC {xr:List V} {p p2:PyData} (h:TDs K H xr [p,p2]):∃ x x2,xr=[x,x2]∧TD K H x p∧TD K H x2 p2:=by
 cases h with
 | cons a t=>obtain⟨x2,rfl,h2⟩:=vT t;exact⟨_,_,rfl,a,h2⟩
theorem jr {xr:List V} {p p2 p3:PyData} (h:TDs K H xr [p,p2,p3]):∃ x x2 x3,xr=[x,x2,x3]∧TD K H x p∧TD K H x2 p2∧TD K H x3 p3:=by
 cases h with
 | cons a t=>obtain⟨x2,x3,rfl,h2,h3⟩:=lC t;exact⟨_,_,_,rfl,a,h2,h3⟩
end
section
variable {P:Program} {w:World} {K:Fg} {mg:SOV} {base:Heap}
end
end K23
namespace P10
open PySem L2
def cL (h:Str) (ps:PDs):PDs:=if aU h w2=true then ps.take 1 else if h="fun" then ao (ps.headD (.tuple [])) else []
def w8:List Str:=["name","set"]
def j0 (h:Str) (ps:PDs):Option PyData:=if aU h w8=true then ps.head? else none
theorem Ax {sl:List Str} (m:(("fun":Str),sl)∈tbl):sl=(["bounds","one"]:List Str):=by
 have:∀ p∈tbl,p.1="fun"→p.2=(["bounds","one"]:List Str):=by decide +kernel
 exact this _ m rfl
theorem BP {h:Str} {sl:List Str} (m:(h,sl)∈tbl) (e:aU h w8=true):sl=(["meant"]:List Str)∨sl=(["meant","one"]:List Str):=by
 have:∀ p∈tbl,aU p.1 w8=true→p.2=(["meant"]:List Str)∨p.2=(["meant","one"]:List Str):=by decide +kernel
 exact this _ m e
end P10
namespace K23
open PySem L2 P10
section
variable {P:Program} {w:World} {K:Fg} {mg:SOV} {base:Heap}
abbrev sBb:Stmt:=top 5
inductive vF (K:Fg) (vs:List V) (H:Hp) (Q:VK):Prop
  | mk (v:V) (d:PyData) (h:Str) (sl:List Str) (ps:PDs) (g0_:vs=[v]) (g1_:TD K H v d) (g2_:Nd d h sl ps) (g3_:∀ v' H',ai H H'→TD K H' v' (.tuple (cL h ps))→Q v' H'):vF K vs H Q
def ww (K:Fg):Sp:=fun vs H Q _=>vF K vs H Q
theorem Bl:am ["e"] ["e"] (a0 sBb):=fsM
theorem Ai (D:Def K mg "bound_by" sBb) (T:Blt mg):Fn P w K mg base "bound_by" 1 ["e"] (ww K):=by
 refine D.fn Bl (fun vs H Q E h=>?_) (fun _ _ _ _ _ _ us hl=>by obtain⟨a,rfl⟩:=iF hl;rfl) (fun f cdv A outer s' H vs Q E hr h=>?_)
 · obtain⟨v,d,h',sl,ps,rfl,_⟩:=h;rfl
 · obtain⟨v,d,hd,sl,ps,rfl,td,nd',q⟩:=h;obtain⟨rfl,hm,hshp,hfew⟩:=nd';obtain⟨a,xs,rfl,ha,hx⟩:=td.tup_of;obtain⟨x0,xr,rfl,hx0,hxr⟩:∃ x0 xr,xs=x0::xr∧TD K H x0 (.str hd)∧TDs K H xr ps:=by
    cases hx with
    | cons p q=>exact⟨_,_,rfl,p,q⟩
   obtain rfl:=hx0.str_of;have at0:∀ {x:V} {r:List V},atI (x::r) 0=some x:=fun {x r}=>pH (j:=0) rfl;have at1:∀ {x y:V} {r:List V},atI (x::y::r) 1=some y:=fun {x y r}=>pH (j:=1) rfl;refine⟨_,(pD (az (pM aY (aa a9 (pv 0) pF (fun _ _=>rfl)) (@ag _ _ _ _ _ (@pA _ _ _ _ _ pC (@pA _ _ _ _ _ pC (@pA _ _ _ _ _ pC pB (by rfl)) (by rfl)) (by rfl))) (by with_unfolding_all rfl)) (pG (ae (ag (pA (aa a9 (pv 0) pF (fun _ _=>rfl)) pB)))) ah)
 (pG (ae (kG (pM aH (aa a9 (pv 0) pF (fun _ _=>rfl)) pC (pN _)) (cW T.tuple (pA (aa a9 (pv 0) pF (fun _ _=>rfl)) pB)) (ag pB))))),?_⟩
   dsimp only[bd,oK,oJ];refine⟨_,rfl,a,_,0,.str hd,rfl,rfl,ha,at0,fX,fun t1 ht1=>?_⟩;have k1:=smu (o:=HO.tup (w2.map V.str)) ht1;refine⟨t1,w2.map V.str,rfl,.inr (SqT.of pE),rfl,br _,_,rfl,?_⟩;rw[bH];have g1:upd H t1 (.tup [V.str "let",V.str "var",V.str "each"])=upd H t1 (.tup (w2.map V.str)):=rfl;rw[g1];generalize upd H t1 (.tup (w2.map V.str))=H1 at k1 ⊢;have ha1:=k1.seqT ha;have hxr1:=hxr.same k1;cases b1:aU hd w2 with
   | true =>
    refine pJ rfl ?_;obtain rfl:=nG hm b1;obtain⟨p0,p1,p2,rfl,_,_,_⟩:=i5 hshp;obtain⟨y0,y1,y2,rfl,e0,e1,e2⟩:=jr hxr1;have eb:cL hd [p0,p1,p2]=[p0]:=by unfold cL;rw[if_pos b1];rfl
    rw[eb] at q;refine⟨_,rfl,a,_,1,y0,rfl,rfl,ha1,at1,ke,fun u hu=>?_⟩;have ku:=smu (o:=HO.tup [y0]) hu;exact q _ _ (k1.trans ku) (.tup (SqT.of pE) (.cons (e0.same ku) .nil))
   | false =>
   refine pI (by decide) ?_;refine⟨_,rfl,a,_,0,.str hd,rfl,rfl,ha1,at0,rfl,_,rfl,?_⟩;by_cases b2:hd="fun"
   · subst b2;refine pJ (by simp) ?_;obtain rfl:=Ax hm;obtain⟨p0,p1,rfl,s0,_⟩:=cQ hshp;obtain⟨is,rfl,_⟩:=s0.2.2.2 rfl;obtain⟨y0,y1,rfl,e0,e1⟩:=lC hxr1;obtain⟨c,zs,rfl,hc,hz⟩:=e0.tup_of;have eb:cL "fun" [PyData.tuple (is.map .int),p1]=is.map .int:=by unfold cL;rw[b1,if_neg (by decide),if_pos rfl];rfl
     rw[eb] at q;exact⟨_,rfl,a,_,1,_,rfl,rfl,ha1,at1,c,zs,rfl,.inr ⟨hc,q _ _ k1 (.tup hc hz)⟩⟩
   · refine pI (by simpa using b2) ?_;have eb:cL hd ps=[]:=by unfold cL;rw[b1,if_neg (by decide),if_neg b2]
     rw[eb] at q;refine⟨lm,fun u hu=>?_⟩;exact q _ _ (k1.trans (smu hu)) (.tup (SqT.of pE) .nil)
end
end K23
namespace L2
open PySem PySem.Spec PyProof.Rows
section
variable {X:Cx} {e st:Expr} {te:TE} {tst:TO} {p2 pos:Pos}
theorem aD.reverse':∀ {xs:List V} {us:List Value},aD xs us→aD xs.reverse us.reverse
 := by
  intro xs us h
  induction h with
  | nil=>exact .nil
  | cons r t ih =>
   rw[List.reverse_cons,List.reverse_cons];exact aD.append ih (.cons r .nil)
end
end L2
namespace HT
open PySem PySem.Spec PyProof.Rows
theorem mj (n:Nat):Builtin.Slice.sliceAdjust none none (-1) (n:Int)=((n:Int)-1,-1):=rfl
theorem lI (n:Nat):Builtin.Slice.slicePlaces ((n:Int)-1) (-1) (-1)=n:=by
 unfold Builtin.Slice.slicePlaces;rw[if_neg (by decide)];by_cases h:(n:Int)-1>-1
 · rw[if_pos h,show (-(-1):Int)=1 from rfl,Int.ediv_one];omega
 · rw[if_neg h];omega
theorem qz (xs:Array Value):((List.range xs.size).filterMap fun (m:Nat)=>xs[(((xs.size:Int)-1)+(m:Int)*(-1)).toNat]?).toArray=xs.toList.reverse.toArray:=by
 have e:(List.range xs.size).filterMap (fun (m:Nat)=>xs[(((xs.size:Int)-1)+(m:Int)*(-1)).toNat]?)=((List.range xs.size).map fun k=>xs.size-1-k).filterMap (xs[·]?):=by
  rw[List.filterMap_map];have g:∀ l:List Nat,(∀ m∈l,m<xs.size)→l.filterMap (fun (m:Nat)=>xs[(((xs.size:Int)-1)+(m:Int)*(-1)).toNat]?)=l.filterMap ((xs[·]?)∘fun k=>xs.size-1-k):=by
   intro l
   induction l with
   | nil=>intro _;rfl
   | cons m l ih =>
    intro h;have hm:=h m mCS;have e1:xs[(((xs.size:Int)-1)+(m:Int)*(-1)).toNat]?=((xs[·]?)∘fun k=>xs.size-1-k) m:=by
     show _=xs[xs.size-1-m]?;congr 1;omega
    rw[List.filterMap_cons,List.filterMap_cons,e1,ih fun x hx=>h x (mCM _ hx)]
  exact g _ fun m hm=>List.mem_range.mp hm
 rw[e,PySem.W.krv_range,List.filterMap_reverse,PySem.W.krv_all]
section
variable {prog:Program} {w:World} {A:Around} {E:VSP} {s:Shared}
theorem g9 {sl:Addr} {vk:Value} {n:Nat} {Q:Int×Int×Nat→Shared→Prop} (hs:s.heap.IsSliceOf sl .none .none vk) (pk:IsPart vk (some (-1)))
 (h:Q ((n:Int)-1,-1,n) s):wpAny (model prog w) A (Builtin.Slice.sliceApplied (.ref sl) (pure (n:Int))) Q E s:=by
 obtain⟨os,hos,hcs,hds⟩:=id hs;unfold Builtin.Slice.sliceApplied Builtin.Slice.sliceFields;refine wB (wB (wpAny_field hos hds (x:=.none) rfl (wB (wpAny_field hos hds (x:=.none) rfl (wB (wpAny_field hos hds (x:=vk) rfl (wP ?_)))))));refine wB (fe pk ?_);show wpAny _ _ (if ((-1:Int)==0)=true then _ else _) _ _ s;rw[if_neg (by decide)];refine wB (slicePart_none (wB (slicePart_none (wB (wP ?_)))));show wpAny _ _ (match Builtin.Slice.sliceAdjust none none (-1) (n:Int) with | (lo,hi)=>pure (lo,(-1:Int),Builtin.Slice.slicePlaces lo hi (-1))) _ _ s;rw[mj n];show wpAny _ _ (pure ((n:Int)-1,(-1:Int),Builtin.Slice.slicePlaces ((n:Int)-1) (-1) (-1))) _ _ s;rw[lI];exact wP h
theorem fN {t sl:Addr} {ao:Array Value} {vk:Value} {Q:VSP} (ht:IsTup s.heap t ao) (hs:s.heap.IsSliceOf sl .none .none vk) (pk:IsPart vk (some (-1)))
 (h:Q (.ref s.heap.objs.size) {s with heap:=s.heap.push {cls:=.type "tuple",data:=.seq ao.toList.reverse.toArray}})
 (hsz:ao.size≤sizeLine):wpAny (model prog w) A (getItem (.ref t) (.ref sl)) Q E s:=by
 have htake:sizeOk (.seq ao.toList.reverse.toArray):=by
  show ao.toList.reverse.toArray.size≤sizeLine;rw[List.size_toArray,List.length_reverse,Array.length_toList];exact hsz
 obtain⟨os,hos,hcs,hds⟩:=id hs;have hTs:s.TypeIs (.ref sl) "slice":=⟨os,hos,hcs⟩;unfold getItem
 try with_reducible refine wpAny_holding ?_
 first | refine wB (wP ?_) | skip
 refine wB (wpAny_sequenceKey ht.typeIs (by decide) ?_);refine wB (wpAny_callSpecial?_slot (name:=Str.ofString "__getitem__") ht.typeIs PyProof.Rows.slot_tuple_getitem
   (wpAny_call_entry PyProof.Rows.slot_tuple_getitem ht.typeIs entry_tuple_getitem ?_ (args_tuple_getitem _ _)))
 show wpAny _ _ (Builtin.Tuple.tupleItemsOf (.ref t)>>=_) _ _ s;refine wB (tupleItemsOf_ ht ?_);refine wB (wpAny_typeOf hTs ?_);rw[if_pos (by decide)];refine wB (g9 hs pk ?_);have hno:¬ ((((ao.size:Int)-1)==0&&(-1:Int)==1&&ao.size==ao.size)=true):=by
  rw[show ((-1:Int)==1)=false from rfl,Bool.and_false,Bool.false_and]
  decide
 show wpAny _ _ (if (((ao.size:Int)-1)==0&&(-1:Int)==1&&ao.size==ao.size)=true then _ else _) _ _ s;rw[if_neg hno,qz]
 first
  | exact wB (m:=Builtin.Tuple.tupleExact _) (wpAny_newObj_type (wP ⟨_,rfl,wP h⟩) htake)
  | exact wB (m:=Builtin.Tuple.tupleExact _) (wpAny_newObj_type (wB (wP (wP ⟨_,rfl,wP h⟩))) htake)
  | exact wB (wB (m:=Builtin.Tuple.tupleExact _) (wpAny_newObj_type (wP (wP ⟨_,rfl,wP h⟩)) htake))
  | exact wB (wB (m:=Builtin.Tuple.tupleExact _) (wpAny_newObj_type (wP ⟨_,rfl,wP h⟩) htake))
end
end HT
namespace L2
open PySem PySem.Spec PyProof.Rows
section
variable {X:Cx} {e st:Expr} {te:TE} {tst:TO} {p2 pos:Pos}
inductive vJ (K:Fg) (x:V) (o:Option Int) (H:Hp) (Q:VK):Prop
  | mk (a:Addr) (xs:List V) (h1:o=some (-1)) (h2:x=.ref a) (h3:SqT K H a xs) (q:∀ p,H p=none→Q (.ref p) (upd H p (.tup xs.reverse))):vJ K x o H Q
def yj (K:Fg) (te:TE) (tst:TO):TE:=fun σ H Q=>te σ H fun x H1=>tst σ H1 fun o H2=>vJ K x o H2 Q
theorem tq (he:PE X e te) (hst:PO X (some st) tst):PE X (.Subscript e (.Slice none none (some st) p2) pos) (yj X.K te tst):=by
 intro pins s σ H Q I h;refine Subscript_ (thn (he pins s σ H _ I h) fun v s1 zz122=>?_);obtain⟨x,H1,I1,r1,q1⟩:=zz122;refine wpAny_Slice ?_;rw[evalPart_none];refine wP (wP (thn (hst pins s1 σ H1 _ I1 q1) ?_));rintro vk s3 ⟨o,H3,I3,pk,a,xs,rfl,rfl,hx,q⟩;cases r1;have I4:Inv X pins σ H3 {s3 with heap:=s3.heap.push {cls:=.type "slice",data:=.fields #[.none,.none,vk]}}:=I3.kept (t':=s3.toks) fun b ob q=>hpS _ q;obtain⟨its,r,ht,hz⟩:=I4.tuple hx;have hlen:=r.length;show wpAny (model X.prog X.w) X.A (subscriptTail e (.Slice none none (some st) p2) (.ref a) (.ref s3.heap.objs.size)) (EP X pins σ Q) X.xe {s3 with heap:=s3.heap.push {cls:=.type "slice",data:=.fields #[.none,.none,vk]}};refine tail_any (ops:=[.ref a,.ref s3.heap.objs.size]) ht.typeIs PyProof.Rows.slot_tuple_getitem.lookup ?_ (by with_unfolding_all rfl);refine HT.fN ht (Heap.IsSliceOf.new ..) pk ?_ (by rw[List.size_toArray] <;> omega);refine⟨.ref _,_,I4.laid (t':=s3.toks) (o:=.tup xs.reverse) (fun b ob q=>hpS _ q) (Nat.le_refl _) ?_,rfl,q _ (I4.hok.fresh (Nat.le_refl _))⟩;exact⟨by rw[List.length_reverse];exact hz,its.reverse,r.reverse',⟨_,Heap.get?_push_size _ rfl,rfl,0,rfl⟩⟩
end
end L2
namespace L2
open PySem PySem.Spec PyProof.Rows PySem.AutoSeq1
theorem ue {a b:Addr} {us vs:Array Value} {k m:Nat} {dd:Option Addr} {sl:Array (Option Value)} (h0:¬ (!us.isEmpty&&Builtin.List.listTooLong (us.size+vs.size))=true) (h1:us.size≤sizeLine) (h2:us.size+vs.size≤sizeLine+1) :
 Meets (Builtin.«list.extend» ⟨[.ref a,.ref b],[]⟩) fun _ R s=>s.heap.get? a=some ⟨.type "list",none,.seq us k,#[]⟩ ∧
  s.heap.get? b=some ⟨.type "tuple",dd,.seq vs m,sl⟩∧R (.ok (.ret Value.none)) {s with heap:=s.heap.update a (Obj.mapSeq fun x=>x++vs),toks:=s.toks} :=
 .of_wp fun P W B R s z=>by
  rcases s with ⟨c1,c2,c3,c4,c5⟩
  rcases z with ⟨ea,eb,q⟩
  have i1:=PySem.AutoSeq1.sub_tuple_tuple;have i2:=PySem.AutoSeq1.sub_list_list;have i3:=PySem.AutoSeq1.sub_tuple_list;have i4:=PySem.AutoSeq1.sub_list_tuple;have hw:(us++vs).size≤sizeLine+1:=by rw[Array.size_append];exact h2
  wp_walk using (wpAny_updateSeq ea rfl (hz:=h1) (_hz':=hw)),wpAny_loadPart' ea,wpAny_loadPart' eb
  exact⟨_,rfl,q⟩
section
variable {X:Cx} {o e:Expr} {to:TE} {t:TA} {apos cpos:Pos}
inductive vN (K:Fg) (x:V) (vs:List V) (H:Hp) (Q:VK):Prop
  | mk (l b:Addr) (xs zs:List V) (h1:x=.ref l) (h2:vs=[.ref b]) (h3:H l=some (.lst xs)) (h4:SqT K H b zs) (h5:xs.length+zs.length≤sizeLine) (q:Q .non (upd H l (.lst (xs++zs)))):vN K x vs H Q
def uN (K:Fg):V→List V→Hp→VK→Prop:=fun x vs H Q=>vN K x vs H Q
theorem tS:MtM X "list.extend" (uN X.K):=by
 intro pins s σ H x vs v us Q I rx rv h;obtain⟨l,b,xs,zs,rfl,rfl,hH,hB,hz,q⟩:=h;cases rx;obtain⟨u,rfl,ru⟩:=rv.one;cases ru;obtain⟨z,its,n,r,hl,e⟩:=I.lstM hH;obtain⟨its2,r2,⟨o2,e2,c2,n2,d2⟩,z2⟩:=I.tuple hB;have hl2:=r2.length;have hsz:its.toArray.size+its2.toArray.size≤sizeLine:=by rw[List.size_toArray,List.size_toArray];omega
 have hlong:¬ (!its.toArray.isEmpty&&Builtin.List.listTooLong (its.toArray.size+its2.toArray.size))=true:=by
  rw[qL hsz,Bool.and_false];exact Bool.false_ne_true
 obtain⟨cl,dd,da,sl⟩:=o2;cases c2;cases d2;refine call_meets F.slot_list_extend ⟨_,e,rfl⟩ F.entry_list_extend (F.args_list_extend_2 _ _)
  (ue hlong (by rw[List.size_toArray];omega) (by omega)) ⟨e,e2,?_⟩
 refine⟨.non,_,I.lset (its':=its++its2) hH e (by simp) (r.append r2) ?_,rfl,q⟩;rw[lAp];omega
theorem rL (ho:PE X o to) (ha:PA X [e] t) (hbase:attributeBase o "extend" X.env (eval o X.env)=eval o X.env:=by rfl) (hline:(apos.endLine==cpos.line)=true:=by rfl)
 (hfew:((backTo cpos (starEach [e] X.env)).all (fun x=>!x.1)&&(backToKw cpos (keywordEach [] X.env)).all (fun x=>x.1.isSome)&&decide ([e].length+([]:List Keyword).length+(if ([]:List Keyword).isEmpty then 0 else 1)<30))=true:=by rfl)
 (hs:starEach [e] X.env=(false,eval e X.env)::starEach [] X.env:=by rfl) (hplain:(backTo cpos (starEach [] X.env)).any (·.1)=false:=by rfl) :
 PE X (.Call (.Attribute o "extend" apos) [e] [] cpos) (tBM X.K "list" (uN X.K) to t):=uO PySem.F.plainAttrs_list PySem.F.slot_list_extend PySem.F.type_list_extend tS ho ha hbase hfew hline hs hplain
theorem mw (ho:PE X o to) (hbase:attributeBase o "pop" X.env (eval o X.env)=eval o X.env:=by rfl) (hline:(apos.endLine==cpos.line)=true:=by rfl) :
 PE X (.Call (.Attribute o "pop" apos) [] [] cpos) (yu X.K "list" zu to):=wY PySem.F.plainAttrs_list PySem.F.slot_list_pop PySem.F.type_list_pop xg ho hbase hline
end
end L2
namespace P10
open PySem L2
def ax:Nat→PyData→PDs
  | 0,_=>[]
  | n+1,d=>d::((aj d).map (ax n)).flatten
def stk (l:List (Nat×PyData)):PDs:=(l.reverse.map fun p=>ax p.1 p.2).flatten
theorem sy (l:List (Nat×PyData)) (n:Nat) (d:PyData):stk (l++[(n+1,d)])=d::stk (l++((aj d).reverse.map fun x=>(n,x))):=by
 unfold stk;rw[List.reverse_append,List.reverse_append,← List.map_reverse,List.reverse_reverse];show d::(((aj d).map (ax n)).flatten++_)=d::_;rw[List.map_append,List.flatten_append,List.map_map];rfl
theorem pS (p:Nat×PyData) (l:List (Nat×PyData)):stk (p::l)=stk l++ax p.1 p.2:=by
 unfold stk;rw[List.reverse_cons,List.map_append,List.flatten_append];show _++(ax p.1 p.2++[])=_;rw[List.append_nil]
theorem sY {n:Nat} {d:PyData} (h:WFd n d):1≤(ax n d).length:=by
 cases n with
 | zero=>exact h.elim
 | succ n=>exact Nat.succ_le_succ (Nat.zero_le _)
theorem sA {l:List (Nat×PyData)} (h:∀ p∈l,WFd p.1 p.2):l.length≤(stk l).length:=by
 induction l with
 | nil=>exact Nat.zero_le _
 | cons p l ih =>
  have h1:=ih fun q hq=>h q (mCM _ hq);have h2:=sY (h p mCS);rw[pS,lAp,List.length_cons];omega
theorem TDs.rev {K:Fg} {H:Hp} {xs:List V} {ds:PDs} (h:TDs K H xs ds):TDs K H xs.reverse ds.reverse:=by
 induction xs generalizing ds with
 | nil=>cases h;exact .nil
 | cons x r ih =>
  cases h with
  | cons a b =>
   rw[List.reverse_cons,List.reverse_cons];exact (ih b).snoc a
theorem TDs.last {K:Fg} {H:Hp} {xs:List V} {ds:PDs} {d:PyData} (h:TDs K H xs (ds++[d])):∃ ys y,xs=ys++[y]∧TDs K H ys ds∧TD K H y d:=by
 induction ds generalizing xs with
 | nil=>cases h with | cons a b=>cases b;exact⟨[],_,rfl,.nil,a⟩
 | cons e r ih =>
  cases h with
  | cons a b =>
   obtain⟨ys,y,rfl,p,q⟩:=ih b;exact⟨_::ys,y,rfl,.cons a p,q⟩
end P10
namespace K23
open PySem L2 P10
section
variable {P:Program} {w:World} {K:Fg} {mg:SOV} {base:Heap}
abbrev sWk:Stmt:=top 6
inductive uX (K:Fg) (vs:List V) (H:Hp) (Q:VK):Prop
  | mk (v:V) (d:PyData) (n:Nat) (g0_:vs=[v]) (g1_:TD K H v d) (g2_:WFd n d) (g3_:(ax n d).length≤900000) (g4_:∀ L H' zs,ai H H'→H L=none→H' L=some (.lst zs)→TDs K H' zs (ax n d)→Q (.ref L) H'):uX K vs H Q
def wn (K:Fg):Sp:=fun vs H Q _=>uX K vs H Q
theorem yP:am ["e","met","waiting","node"] ["e"] (a0 sWk):=fsM
theorem zG (D:Def K mg "walked" sWk) (bI:Fn P w K mg base "children_of" 1 ["e"] (gP K)):Fn P w K mg base "walked" 2 ["e"] (wn K):=by
 refine D.fn yP (fun vs H Q E h=>?_) (fun _ _ _ _ _ _ us hl=>by obtain⟨a,rfl⟩:=iF hl;rfl) (fun f cdv A outer s' H vs Q E hr h=>?_)
 · obtain⟨v,d,n,rfl,_⟩:=h;rfl
 · obtain⟨v,d,n,rfl,td,wf,hsz,q⟩:=h;have nd:=yP.nd;have hz0:(1000000:Nat)<sizeLine:=by decide
   refine⟨_,(pD (pL (i:=1) nd rfl (Or.inl rfl) (aM pB))
 (pD (pL (i:=2) nd rfl (Or.inl rfl) (aM (pA (pv 0) pB)))
 (pD (ix PassesOwn.never (iw (pv 2) (by intro _;rfl))
 (pD (pL (i:=3) nd rfl (Or.inl rfl) (mw (pv 2)))
 (pD (bY (cr (pv 1) (pA (pv 3) pB)))
 (pG (bY (rL (pv 2) (pA (tq (ab bI (hr.mono (by decide)) rfl (pA (pv 3) pB)) (eJ (mX jq pF))) pB)))))))
 (pG (ae (pv 1)))))),?_⟩
   dsimp only[bd,oK,oJ];refine aq fun tR kN=>?_;refine⟨lm,fun M hM=>?_⟩;refine kN _ _ (aq fun As xz=>?_);have k1:=smu (o:=HO.lst []) hM;have hM1:(upd H M (.lst [])) M=some (.lst []):=pE;generalize upd H M (.lst [])=H1 at k1 hM1 ⊢;refine⟨_,rfl,ke,fun W hW=>?_⟩;have k2:=smu (o:=HO.lst [v]) hW;have hW2:(upd H1 W (.lst [v])) W=some (.lst [v]):=pE;have MW:M≠W:=fun e=>by rw[← e,hM1] at hW;cases hW
   have hM2:=k2 _ _ hM1;have hWH:H W=none:=by
    cases hh:H W with
    | none=>rfl
    | some o=>rw[k1 _ _ hh] at hW;cases hW
   refine xz _ _ (aq fun AZ xx=>?_);generalize upd H1 W (.lst [v])=H2 at k2 hW2 hM2 ⊢;have kk:=k1.trans k2;refine ic (fun σ Hi=>ai H Hi∧∃ (ms ws:List V) (md:PDs) (l:List (Nat×PyData)) (x3:Option V),σ=[some v,some (.ref M),some (.ref W),x3]∧Hi M=some (.lst ms)∧Hi W=some (.lst ws)∧TDs K Hi ms md∧TDs K Hi ws (l.map (·.2))∧(∀ p∈l,WFd p.1 p.2)∧md++stk l=ax n d)
    (fun _ Hi=>match Hi M with | some (.lst ms)=>900001-ms.length | _=>0)
    ⟨kk,[],[v],[],[(n,d)],_,rfl,hM2,hW2,.nil,.cons (td.same kk) .nil,fun p hp=>by rw[mSg.mp hp];exact wf,by unfold stk;simp⟩ ?_
   rintro σ Hi ⟨sm,ms,ws,md,l,x3,rfl,hMi,hWi,hms,hws,hwf,hst⟩;refine⟨_,rfl,_,.inl ⟨ws,SqL.of hWi,rfl⟩,?_⟩
   rcases List.eq_nil_or_concat l with rfl | ⟨l',p,rfl⟩
   · cases hws;refine pI (by decide) ?_;have e0:md=ax n d:=by rw[← hst];simp[stk]
     rw[e0] at hms;exact xx _ _ ⟨_,rfl,q M Hi ms sm hM hMi hms⟩
   · obtain⟨m,e⟩:=p;rw[List.concat_eq_append,List.map_append] at hws;rw[List.concat_eq_append] at hwf hst;obtain⟨ws',y,rfl,hws',hy⟩:=TDs.last hws;have hwe:WFd m e:=hwf (m,e) (List.mem_append_right _ (mSg.mpr rfl));obtain⟨m,rfl⟩:∃ m',m=m'+1:=by
      cases m with
      | zero=>exact hwe.elim
      | succ m=>exact⟨m,rfl⟩
     obtain⟨he,sl,ps,nde,hk⟩:=hwe;have hsl:=sA hwf;have hsl2:=congrArg List.length hst;have hwl:=hws'.length;rw[lMp] at hwl;rw[lAp] at hsl hsl2;rw[sy] at hst;have hlen:md.length+1≤900000:=by
      have:=congrArg List.length hst;rw[lAp,List.length_cons] at this;omega
     have hml:=hms.length;refine pJ (by cases ws' <;> rfl) ?_;refine⟨fun σ' H'=>(ai H H'∧∃ (ms ws:List V) (md:PDs) (l:List (Nat×PyData)) (x3:Option V),σ'=[some v,some (.ref M),some (.ref W),x3]∧H' M=some (.lst ms)∧H' W=some (.lst ws)∧TDs K H' ms md∧TDs K H' ws (l.map (·.2))∧(∀ p∈l,WFd p.1 p.2)∧md++stk l=ax n d)∧∃ y,H' M=some (.lst (ms++[y])),?_,?_⟩
     · rintro σ' H' ⟨pv,y',hy'⟩;refine⟨_,?_,rfl,pv⟩;rw[hy',hMi];show 900001-(ms++[y']).length<900001-ms.length;rw[lAp];show 900001-(ms.length+1)<900001-ms.length;omega
     · refine aq fun AY u9=>?_;refine⟨_,rfl,.inl ⟨rfl,_,SqL.of hWi⟩,W,ws'++[y],y,rfl,rfl,hWi,by simp,?_⟩;rw[List.dropLast_concat];refine u9 _ _ (aq fun BO xw=>?_);have sm3:ai H (upd Hi W (.lst ws')):=dj sm hWH;have hW3:(upd Hi W (.lst ws')) W=some (.lst ws'):=pE;have hM3:(upd Hi W (.lst ws')) M=some (.lst ms):=by rw[ad MW];exact hMi
       have hms3:=hms.tk (bu (o:=.lst ws') (.inr ⟨_,hWi⟩));have hws3:=hws'.tk (bu (o:=.lst ws') (.inr ⟨_,hWi⟩));have hy3:=hy.tk (bu (o:=.lst ws') (.inr ⟨_,hWi⟩));generalize upd Hi W (.lst ws')=H3 at sm3 hW3 hM3 hms3 hws3 hy3 ⊢;refine⟨_,rfl,.inl ⟨rfl,_,SqL.of hM3⟩,_,rfl,M,ms,y,rfl,rfl,hM3,by omega,?_⟩;refine xw _ _ ?_;have sm4:ai H (upd H3 M (.lst (ms++[y]))):=dj sm3 hM;have hM4:(upd H3 M (.lst (ms++[y]))) M=some (.lst (ms++[y])):=pE;have hW4:(upd H3 M (.lst (ms++[y]))) W=some (.lst ws'):=by rw[ad (Ne.symm MW)];exact hW3
       have tk4:Tk H3 (upd H3 M (.lst (ms++[y]))):=bu (.inr ⟨_,hM3⟩);have hms4:=(hms3.snoc hy3).tk tk4;have hws4:=hws3.tk tk4;have hy4:=hy3.tk tk4;generalize upd H3 M (.lst (ms++[y]))=H4 at sm4 hM4 hW4 tk4 hms4 hws4 hy4 ⊢;refine⟨_,rfl,.inl ⟨rfl,_,SqL.of hW4⟩,_,rfl,y,e,he,sl,ps,rfl,hy4,nde,fun v5 H5 k5 tv=>?_⟩;obtain⟨c,zs,rfl,hc,hzs⟩:=tv.tup_of;refine⟨_,rfl,_,rfl,c,zs,rfl,rfl,hc,fun p hp=>?_⟩;have kp:=smu (o:=HO.tup zs.reverse) hp;have k6:=k5.trans kp;have hW6:=k6 _ _ hW4;have hM6:=k6 _ _ hM4;have hp6:(upd H5 p (.tup zs.reverse)) p=some (.tup zs.reverse):=pE;have hz6:=TDs.rev (hzs.same kp);have hms6:=hms4.same k6;have hws6:=hws4.same k6;have sm6:=sm4.trans k6;generalize upd H5 p (.tup zs.reverse)=H6 at kp k6 hW6 hM6 hp6 hz6 hms6 hws6 sm6 ⊢;have hfew:=nde.few;have hzl:=hz6.length;rw[List.length_reverse,List.length_reverse] at hzl;have hll:ws'.length≤900000:=by
        rw[hwl];have:l'.length≤l'.length+([(m+1,e)]:List (Nat×PyData)).length:=Nat.le_add_right _ _;omega
       refine⟨W,p,ws',zs.reverse,rfl,rfl,hW6,SqT.of hp6,by rw[List.length_reverse];omega,?_⟩;refine⟨⟨dj sm6 hWH,ms++[y],ws'++zs.reverse,md++[e],l'++((aj e).reverse.map fun x=>(m,x)),_,rfl,by rw[ad MW];exact hM6,pE,hms6.tk (bu (.inr ⟨_,hW6⟩)),?_,fun p' hp'=>?_,?_⟩,y,by rw[ad MW];exact hM6⟩
       · rw[List.map_append,List.map_map,show ((fun x:Nat×PyData=>x.2)∘fun x=>(m,x))=id from rfl,List.map_id,nde.kids];exact (hws6.app hz6).tk (bu (.inr ⟨_,hW6⟩))
       · rcases mAp.mp hp' with z | z
         · exact hwf p' (List.mem_append_left _ z)
         · obtain⟨x,hx,rfl⟩:=List.mem_map.mp z;rw[List.mem_reverse,nde.kids] at hx;exact hk x hx
       · rw[List.append_assoc];exact hst
end
end K23
namespace P10
open PySem L2
def du:PyData→Option PyData
  | .tuple (.str h::ps)=>j0 h ps
  | _=>none
def l6:PyData→PDs
  | .tuple (.str h::ps)=>cL h ps
  | _=>[]
def FrD:Nat→PyData→Int→Prop
  | 0,_,_=>False
  | n+1,d,i=>du d=some (.int i)∨∃ k x,(aj d)[k]?=some x∧FrD n x i∧(k+1=(aj d).length→PyData.int i∉l6 d)
theorem uc {n m:Nat} {d:PyData} {i:Int} (wf:WFd n d) (h:FrD m d i):FrD n d i:=by
 induction n generalizing m d with
 | zero=>exact wf.elim
 | succ n ih =>
  cases m with
  | zero=>exact h.elim
  | succ m =>
   rcases h with h | ⟨k,x,h1,h2,h3⟩
   · exact .inl h
   · exact .inr ⟨k,x,h1,ih (wf.kid (mGE h1)) h2,h3⟩
theorem jJ {h:Str} {ps:PDs} (e:aU h w8=false):j0 h ps=none:=by unfold j0;rw[e];rfl
structure OkE (B:List Int) (n:Nat) (d:PyData):Prop where
  wf:WFd n d
  lay:d.canLay0=true
  dep:d.depth≤2*n
  cl:∀ i,FrD n d i→i∈B
theorem tY {ds:PDs} (h:∀ x∈ds,x.canLay0=true):PyData.canLayAll0 ds=true:=by
 induction ds with
 | nil=>rfl
 | cons d r ih =>
  show (d.canLay0&&PyData.canLayAll0 r)=true;rw[h d mCS,ih fun x hx=>h x (mCM _ hx)];rfl
theorem uk {ds:PDs} {n:Nat} (h:∀ x∈ds,x.depth≤n):PyData.depthAll ds≤n:=by
 induction ds with
 | nil=>exact Nat.zero_le _
 | cons d r ih =>
  show max d.depth (PyData.depthAll r)≤n;have:=h d mCS;have:=ih fun x hx=>h x (mCM _ hx);lia
theorem nj {ds:PDs} (h:∀ x∈ds,x.canLay0=true):(PyData.tuple ds).canLay0=true:=by
 show PyData.canLayAll0 ds=true;exact tY h
theorem nq {ds:PDs} {n:Nat} (h:∀ x∈ds,x.depth≤n):(PyData.tuple ds).depth≤n+1:=by
 show PyData.depthAll ds+1≤n+1;have:=uk h;exact C8
theorem OkE.node {B:List Int} {n:Nat} {h:Str} {sl:List Str} {ps:PDs} (nd:Nd (.tuple (.str h::ps)) h sl ps) (hs:(PyData.str h).canLay0=true) (hl:∀ x∈ps,x.canLay0=true) (hd:∀ x∈ps,x.depth≤2*n+1) (hk:∀ x∈aX sl ps,WFd n x) (hc:∀ i,FrD (n+1) (.tuple (.str h::ps)) i→i∈B):OkE B (n+1) (.tuple (.str h::ps)):=by
 refine⟨⟨h,sl,ps,nd,hk⟩,nj fun x hx=>?_,?_,hc⟩
 · rcases List.mem_cons.mp hx with rfl | hx
   · exact hs
   · exact hl x hx
 · have:=nq (ds:=.str h::ps) (n:=2*n+1) fun x hx=>by
    rcases List.mem_cons.mp hx with rfl | hx
    · exact Nat.zero_le _
    · exact hd x hx
   lia
theorem OkE.more {B:List Int} {n m:Nat} {d:PyData} (h:OkE B n d) (hn:n≤m):OkE B m d:=by
 obtain⟨wf,lay,dep,cl⟩:=h;refine⟨?_,lay,by lia,fun i z=>cl i (uc wf z)⟩;clear lay dep cl
 induction n generalizing m d with
 | zero=>exact wf.elim
 | succ n ih =>
  cases m with
  | zero=>lia
  | succ m =>
   obtain⟨h,sl,ps,nd,hk⟩:=wf;exact⟨h,sl,ps,nd,fun x hx=>ih (by lia) (hk x hx)⟩
theorem dq {d:PyData}:Shp "one" d:=⟨fun z=>absurd z (by decide +kernel),fun z=>absurd z (by decide +kernel),fun z=>absurd z (by decide +kernel),fun z=>absurd z (by decide +kernel)⟩
theorem nX {l:PDs}:Shp "many" (.tuple l):=⟨fun _=>⟨l,rfl⟩,fun z=>absurd z (by decide +kernel),fun z=>absurd z (by decide +kernel),fun z=>absurd z (by decide +kernel)⟩
theorem iY {s:Str} {i:Int} (h:s∉(["many","op","word","bounds"]:List Str)):Shp s (.int i) :=
 ⟨fun z=>absurd (by rw[z];decide +kernel) h,fun _=>⟨i,rfl⟩,fun z=>absurd (mCM _ (List.mem_append_left (["bounds"]:List Str) z)) h,fun z=>absurd (by rw[z];decide +kernel) h⟩
theorem yN {s x:Str} (h:s∉(["many","bounds","number","meant","bound","place"]:List Str)):Shp s (.str x) :=
 ⟨fun z=>absurd (by rw[z];decide +kernel) h,fun z=>absurd (mCM _ (mCM _ z)) h,fun _=>⟨x,rfl⟩,fun z=>absurd (by rw[z];decide +kernel) h⟩
theorem OkE.makeG {B B':List Int} {n:Nat} {h:Str} {sl:List Str} {ps ks:PDs} (hm:(h,sl)∈tbl) (hs:(PyData.str h).canLay0=true) (shp:Paired Shp sl ps) (hk:aX sl ps=ks) (hl:∀ x∈ps,x.canLay0=true) (hd:∀ x∈ps,x.depth≤2*n+1) (kl:ks.length≤8) (ko:∀ x∈ks,OkE B' n x) (hc:∀ i,FrD (n+1) (.tuple (.str h::ps)) i→i∈B):OkE B (n+1) (.tuple (.str h::ps))∧aj (.tuple (.str h::ps))=ks:=by
 have nd:Nd (.tuple (.str h::ps)) h sl ps:=⟨rfl,hm,shp,by rw[hk];exact kl⟩;exact⟨OkE.node nd hs hl hd (fun x hx=>(ko x (by rw[← hk];exact hx)).wf) hc,by rw[nd.kids,hk]⟩
theorem fK {h:Str} {sl:List Str} {ps ks:PDs} (hm:(h,sl)∈tbl) (shp:Paired Shp sl ps) (hk:aX sl ps=ks) (kl:ks.length≤8):aj (.tuple (.str h::ps))=ks:=by
 have nd:Nd (.tuple (.str h::ps)) h sl ps:=⟨rfl,hm,shp,by rw[hk];exact kl⟩;rw[nd.kids,hk]
theorem OkE.makeM {B:List Int} {n:Nat} {h:Str} {sl:List Str} {ps ks:PDs} (hm:(h,sl)∈tbl) (hs:(PyData.str h).canLay0=true) (shp:Paired Shp sl ps) (hk:aX sl ps=ks) (hl:∀ x∈ps,x.canLay0=true) (hd:∀ x∈ps,x.depth≤2*n+1) (kl:ks.length≤8) (ko:∀ x∈ks,OkE B n x) (hc:∀ i,j0 h ps=some (.int i)→i∈B):OkE B (n+1) (.tuple (.str h::ps))∧aj (.tuple (.str h::ps))=ks :=
 OkE.makeG hm hs shp hk hl hd kl ko fun i z=>by
  rcases z with z | ⟨k,x,h1,h2,_⟩
  · exact hc i z
  · rw[fK hm shp hk kl] at h1;exact (ko x (mGE h1)).cl i h2
theorem OkE.make {B:List Int} {n:Nat} {h:Str} {sl:List Str} {ps ks:PDs} (hm:(h,sl)∈tbl) (hs:(PyData.str h).canLay0=true) (shp:Paired Shp sl ps) (hk:aX sl ps=ks) (hl:∀ x∈ps,x.canLay0=true) (hd:∀ x∈ps,x.depth≤2*n+1) (kl:ks.length≤8) (ko:∀ x∈ks,OkE B n x) (hm8:aU h w8=false:=by decide +kernel):OkE B (n+1) (.tuple (.str h::ps))∧aj (.tuple (.str h::ps))=ks :=
 OkE.makeM hm hs shp hk hl hd kl ko fun i z=>by rw[jJ hm8] at z;cases z
theorem OkE.wide {B B':List Int} {n:Nat} {d:PyData} (h:OkE B n d) (hb:∀ i∈B,i∈B'):OkE B' n d:=⟨h.wf,h.lay,h.dep,fun i z=>hb i (h.cl i z)⟩
def CnL (p:Int→PyData→Int→Prop):Int→PDs→Int→Prop
  | i,[],j=>j=i
  | i,x::r,j=>∃ l,p i x l∧CnL p l r j
def rgI (i:Int) (k:Nat):List Int:=(List.range k).map fun t=>i+((t:Nat):Int)
def CnD:Nat→Int→PyData→Int→Prop
  | 0,_,_,_=>False
  | n+1,i,d,j=>∃ k:Nat,l6 d=(rgI i k).map .int∧CnL (CnD n) (i+((k:Nat):Int)) (aj d) j
theorem CnL.imp {p q:Int→PyData→Int→Prop} {ks:PDs} (h:∀ x∈ks,∀ i j,p i x j→q i x j):∀ {i j:Int},CnL p i ks j→CnL q i ks j:=by
 induction ks with
 | nil=>exact fun {i j} z=>z
 | cons x r ih =>
  intro i j z;obtain⟨l,z1,z2⟩:=z;exact⟨l,h x mCS _ _ z1,ih (fun y hy=>h y (mCM _ hy)) z2⟩
theorem CnD.more {n m:Nat} {d:PyData} (hn:n≤m):∀ {i j:Int},CnD n i d j→CnD m i d j:=by
 induction n generalizing m d with
 | zero=>exact fun {i j} z=>z.elim
 | succ n ih =>
  intro i j z;cases m with
  | zero=>lia
  | succ m =>
   obtain⟨k,z1,z2⟩:=z;exact⟨k,z1,z2.imp fun x _ i j=>ih (by lia)⟩
theorem CnD.plain {n:Nat} {h:Str} {ps ks:PDs} {i j:Int} (ek:aj (.tuple (.str h::ps))=ks) (z:CnL (CnD n) i ks j) (h1:aU h w2=false:=by decide +kernel) (h2:h≠"fun":=by decide +kernel):CnD (n+1) i (.tuple (.str h::ps)) j:=by
 refine⟨0,?_,?_⟩
 · show cL h ps=[];unfold cL;rw[if_neg (by rw[h1];exact Bool.false_ne_true),if_neg h2]
 · rw[ek,Int.natCast_zero,Int.add_zero];exact z
theorem qi (i:Int) (k:Nat):rgI i (k+1)=rgI i k++[i+((k:Nat):Int)]:=by unfold rgI;rw[List.range_succ,List.map_append];rfl
theorem cO (i:Int) (k:Nat):(rgI i k).length=k:=by unfold rgI;rw[lMp,List.length_range]
theorem kU {n:Nat} {h:Str} {a i l j:Int} {d1 d2:PyData} (hm:(h,(["bound","one","one"]:List Str))∈tbl) (e:aU h w2=true) (ha:a=i) (c1:CnD n (i+1) d1 l) (c2:CnD n l d2 j):CnD (n+1) i (.tuple (.str h::[.int a,d1,d2])) j:=by
 subst ha;refine⟨1,?_,?_⟩
 · show cL h [.int a,d1,d2]=_;unfold cL rgI;rw[if_pos e];simp
 · rw[fK (ks:=[d1,d2]) hm (.cons (iY (by decide +kernel)) (.cons dq (.cons dq .nil))) rfl (by show 2≤8;decide)];exact⟨l,c1,j,c2,rfl⟩
def hdO:PyData→Str
  | .tuple (.str h::_)=>h
  | _=>""
def cK (d:PyData):List Int:=(l6 d).filterMap fun x=>match x with
  | .int i=>some i
  | _=>none
def iA (n:Nat) (d:PyData):List Int:=((ax n d).map cK).flatten
def iE (x:PyData):List Int:=if hdO x="var" then [] else cK x
def dJ (x:PyData):List Int:=if hdO x="var" then cK x else []
def qS (n:Nat) (d:PyData):List Int:=((ax n d).map iE).flatten
def eR (n:Nat) (d:PyData):List Int:=((ax n d).map dJ).flatten
inductive Sub:Nat→PyData→Nat→PyData→Prop
  | here (n:Nat) (d:PyData):Sub (n+1) d (n+1) d
  | kid {n m:Nat} {d x f:PyData} (hx:x∈aj d) (h:Sub n x m f):Sub (n+1) d m f
theorem cm {n:Nat} {d x y:PyData} (hx:x∈aj d) (hy:y∈ax n x):y∈ax (n+1) d:=by
 show y∈d::((aj d).map (ax n)).flatten;exact mCM _ (List.mem_flatten.mpr ⟨_,List.mem_map_of_mem hx,hy⟩)
theorem i8 {n:Nat} {d y:PyData} (h:y∈ax (n+1) d):y=d∨∃ x∈aj d,y∈ax n x:=by
 rcases List.mem_cons.mp (show y∈d::((aj d).map (ax n)).flatten from h) with h | h
 · exact .inl h
 · obtain⟨l,hl,hy⟩:=List.mem_flatten.mp h;obtain⟨x,hx,rfl⟩:=List.mem_map.mp hl;exact .inr ⟨x,hx,hy⟩
theorem Sub.pre {n m:Nat} {d f:PyData} (h:Sub n d m f):∀ y∈ax m f,y∈ax n d:=by
 induction h with
 | here=>exact fun y hy=>hy
 | kid hx _ ih=>exact fun y hy=>cm hx (ih y hy)
theorem Sub.self {n m:Nat} {d f:PyData} (h:Sub n d m f):f∈ax n d:=by
 induction h with
 | here n d=>exact mCS
 | kid hx _ ih=>exact cm hx ih
theorem pR {n:Nat} {d y:PyData} (h:y∈ax n d):∃ m,Sub n d m y:=by
 induction n generalizing d with
 | zero=>cases h
 | succ n ih =>
  rcases i8 h with rfl | ⟨x,hx,hy⟩
  · exact⟨_,.here n y⟩
  · obtain⟨m,hm⟩:=ih hy;exact⟨m,.kid hx hm⟩
theorem Sub.trans {n m k:Nat} {d f g:PyData} (h:Sub n d m f) (h2:Sub m f k g):Sub n d k g:=by
 induction h with
 | here=>exact h2
 | kid hx _ ih=>exact .kid hx (ih h2)
theorem aT {f:PyData→List Int} {n:Nat} {d:PyData} {i:Int}:i∈((ax n d).map f).flatten↔∃ y∈ax n d,i∈f y:=by
 constructor
 · intro h;obtain⟨l,hl,hi⟩:=List.mem_flatten.mp h;obtain⟨y,hy,rfl⟩:=List.mem_map.mp hl;exact⟨y,hy,hi⟩
 · rintro⟨y,hy,hi⟩;exact List.mem_flatten.mpr ⟨_,List.mem_map_of_mem hy,hi⟩
theorem jK {d:PyData} {i:Int}:i∈cK d↔PyData.int i∈l6 d:=by
 unfold cK;rw[List.mem_filterMap];constructor
 · rintro⟨x,hx,e⟩;cases x <;> simp at e
   rw[← e];exact hx
 · exact fun h=>⟨_,h,rfl⟩
theorem qx {n:Nat} {d x:PyData} {i:Int} (hx:x∈ax n d) (hm:du x=some (.int i)):FrD n d i∨i∈iA n d:=by
 induction n generalizing d with
 | zero=>cases hx
 | succ n ih =>
  rcases i8 hx with rfl | ⟨y,hy,hx⟩
  · exact .inl (.inl hm)
  · by_cases hb:PyData.int i∈l6 d
    · exact .inr (aT.mpr ⟨d,mCS,jK.mpr hb⟩)
    · rcases ih hx with h | h
      · obtain⟨k,hk⟩:=List.mem_iff_getElem?.mp hy;exact .inl (.inr ⟨k,y,hk,h,fun _=>hb⟩)
      · obtain⟨z,hz,hi⟩:=aT.mp h;exact .inr (aT.mpr ⟨z,cm hy hz,hi⟩)
def bV (L:List Int) (n:Nat) (d:PyData):Prop:=∀ m f,Sub n d m f→hdO f="fun"→∀ x∈ax m f,∀ i,du x=some (.int i)→i∈iA m f∨i∈L∨i∈qS n d
theorem bV.node {L:List Int} {n:Nat} {d:PyData} (hk:∀ x∈aj d,bV (L++iE d) n x) (hf:hdO d="fun"→∀ i,FrD (n+1) d i→i∈L):bV L (n+1) d:=by
 intro m f hs hfun x hx i hm;cases hs with
 | here =>
  rcases qx hx hm with h | h
  · exact .inr (.inl (hf hfun i h))
  · exact .inl h
 | @kid _ _ _ y _ hy h =>
  rcases hk y hy m f h hfun x hx i hm with h1 | h1 | h1
  · exact .inl h1
  · rcases mAp.mp h1 with h1 | h1
    · exact .inr (.inl h1)
    · exact .inr (.inr (aT.mpr ⟨d,mCS,h1⟩))
  · obtain⟨z,hz,hi⟩:=aT.mp h1;exact .inr (.inr (aT.mpr ⟨z,cm hy hz,hi⟩))
theorem bV.wide {L L':List Int} {n:Nat} {d:PyData} (h:bV L n d) (hl:∀ i∈L,i∈L'):bV L' n d:=fun m f hs hf x hx i hm=>by
 rcases h m f hs hf x hx i hm with h1 | h1 | h1
 · exact .inl h1
 · exact .inr (.inl (hl i h1))
 · exact .inr (.inr h1)
theorem cH {n m:Nat} {d:PyData} (wf:WFd n d) (hn:n≤m):ax m d=ax n d:=by
 induction n generalizing m d with
 | zero=>exact wf.elim
 | succ n ih =>
  cases m with
  | zero=>omega
  | succ m =>
   show d::((aj d).map (ax m)).flatten=d::((aj d).map (ax n)).flatten;congr 2;exact List.map_congr_left fun x hx=>ih (wf.kid hx) (by omega)
theorem WFd.more {n m:Nat} {d:PyData} (wf:WFd n d) (hn:n≤m):WFd m d:=by
 induction n generalizing m d with
 | zero=>exact wf.elim
 | succ n ih =>
  cases m with
  | zero=>omega
  | succ m =>
   obtain⟨h,sl,ps,nd,w⟩:=wf;exact⟨h,sl,ps,nd,fun x hx=>ih (w x hx) (by omega)⟩
theorem Sub.wf {n m:Nat} {d f:PyData} (h:Sub n d m f) (wf:WFd n d):WFd m f:=by
 induction h with
 | here=>exact wf
 | kid hx _ ih=>exact ih (wf.kid hx)
theorem Sub.le {n m:Nat} {d f:PyData} (h:Sub n d m f):m≤n:=by
 induction h with
 | here=>exact Nat.le_refl _
 | kid _ _ ih=>omega
theorem bV.more {L:List Int} {n m:Nat} {d:PyData} (wf:WFd n d) (hn:n≤m) (h:bV L n d):bV L m d:=by
 induction n generalizing m d L with
 | zero=>exact wf.elim
 | succ n ih =>
  intro k f hs hf x hx i hm;have hfm:f∈ax m d:=hs.self;rw[cH wf hn] at hfm;obtain⟨k',hk'⟩:=pR hfm;have w1:=hk'.wf wf;have w2:WFd k f:=hs.wf (wf.more hn);have e:ax k f=ax k' f:=by
   rcases Nat.le_total k k' with c | c
   · exact (cH w2 c).symm
   · exact cH w1 c
  rw[e] at hx;have:=h k' f hk' hf x hx i hm;unfold iA qS at *;rw[e,cH wf hn];exact this
def fW (p:PyData→Prop) (n:Nat) (d:PyData):Prop:=∀ x∈ax n d,p x
theorem fW.node {p:PyData→Prop} {n:Nat} {d:PyData} (h0:p d) (hk:∀ x∈aj d,fW p n x):fW p (n+1) d:=fun y hy=>by
 rcases i8 hy with rfl | ⟨x,hx,h⟩
 · exact h0
 · exact hk x hx y h
theorem fW.more {p:PyData→Prop} {n m:Nat} {d:PyData} (wf:WFd n d) (hn:n≤m) (h:fW p n d):fW p m d:=fun y hy=>h y (by rw[cH wf hn] at hy;exact hy)
end P10
namespace L2
open PySem PySem.Spec PyProof.Rows
def rQ (e:Expr) (d:Nat) (acc:Value) (env:Env):Prop:=(∀ (prog:Program) (w:World) (it:Value),(model prog w).den (.compLoop e d it acc env)=Sem.onRaise (compTurn e d it acc env) (fun x=>do noteFrame x env;theTreesLotGoes x))∧∀ (A:Around) (it:Value),A.under (.compLoop e d it acc env)=A
def uz (e:Expr) (d:Nat) (acc:Value) (env:Env):Prop:=(∀ (prog:Program) (w:World) (it:Value),∃ k,(model prog w).den (.compStart e d it acc env)=Sem.onRaise (compStart e d it acc env) k)∧∀ (A:Around) (it:Value),A.under (.compStart e d it acc env)=A
def cx (e:Expr) (d:Nat) (tg:Expr) (ifs:List Expr) (ip:Pos) (em:Sem Fin) (it acc:Value) (env:Env):Prop :=
  compTurn e d it acc env=(do
    standAt ip
    let r ← pyNext it
    match r with
      | none=>pure (Fin.done Flow.next)
      | some v=>do
        letOwnedTupleGo tg it v
        assign tg env v
        let ok ← jP ifs env
        if ok=true then em
        else again (.compLoop e d it acc env))
theorem xG {prog:Program} {w:World} {A:Around} {R:Result→Shared→Prop} {s:Shared} {e tg:Expr} {d:Nat} {ifs:List Expr} {ip:Pos} {em:Sem Fin} {it acc:Value} {env:Env} (hD:rQ e d acc env) (hT:cx e d tg ifs ip em it acc env) (J:Nat→Shared→Prop)
 (turn:∀ n s,J n s→wpAny (model prog w) A (pyNext it) (fun r s1=>(r=none∧R (.ok .next) s1)∨∃ v,r=some v ∧
   wpAny (model prog w) A (letOwnedTupleGo tg it v) (fun _ s2=>wpAny (model prog w) A (assign tg env v) (fun _ s3=>wpAny (model prog w) A (jP ifs env) (fun ok s4 =>
     (ok=false∧∃ m,m<n∧J m s4)∨(ok=true∧wpAny (model prog w) A em (fun fin s6=>fin=.again (.compLoop e d it acc env)∧∃ m,m<n∧J m s6) (fun _ _=>False) s4))
     (fun _ _=>False) s3) (fun _ _=>False) s2) (fun _ _=>False) s1) (fun _ _=>False) s)
 (n:Nat) (h:J n s):codeAny (model prog w) A (.compLoop e d it acc env) R s:=by
 refine codeAny_loop rfl J (fun n s hJ=>?_) n h;rw[hD.1,hD.2];refine wpAny_noted ?_;rw[hT];refine wB (wpAny_standAt (wB (wpAny_mono (turn n s hJ) (fun r s1 h1=>?_) fun _ _ f=>f.elim)))
 rcases h1 with ⟨hr,h1⟩ | ⟨v,hr,h1⟩
 · subst hr;exact wP h1
 · subst hr;refine wB (wpAny_mono h1 (fun _ s2 h2=>?_) fun _ _ f=>f.elim);refine wB (wpAny_mono h2 (fun _ s3 h3=>?_) fun _ _ f=>f.elim);refine wB (wpAny_mono h3 (fun ok s4 h4=>?_) fun _ _ f=>f.elim)
   rcases h4 with ⟨e,h4⟩ | ⟨e,h4⟩
   · subst e;exact wP ⟨rfl,h4⟩
   · subst e;refine wpAny_mono h4 (fun fin s6 h6=>?_) fun _ _ f=>f.elim;obtain⟨rfl,h6⟩:=h6;exact⟨rfl,h6⟩
theorem m9 {prog:Program} {w:World} {A:Around} {R:Result→Shared→Prop} {s:Shared} {e:Expr} {d:Nat} {it acc:Value} {env:Env} {g:Comprehension} (hD:uz e d acc env) (hg:(clausesOf e)[d]?=some g) (ha:(g.is_async != 0)=false)
 (h1:codeAny (model prog w) A (.compLoop e d it acc env) R s) (h2:wpAny (model prog w) A (pyIter it) (fun it' s'=>codeAny (model prog w) A (.compLoop e d it' acc env) R s') (fun _ _=>False) s):codeAny (model prog w) A (.compStart e d it acc env) R s:=by
 refine codeAny_of_tree ?_;obtain⟨k,hk⟩:=hD.1 prog w it;rw[hk,hD.2];refine wpAny_onRaise ?_;unfold compStart;rw[if_neg (by rw[hg];simp[ha])];refine wB (wpAny_askSetting ?_);split
 · exact wP ⟨rfl,h1⟩
 · refine wB (wpAny_rule ?_);rw[hg];refine wB (wpAny_standAt ?_);exact wB (wpAny_mono h2 (fun it' s' h=>wP ⟨rfl,h⟩) fun _ _ f=>f.elim)
theorem kR {kx vx:Expr} {gens:List Comprehension} {sc:Scope} {pos:Pos} {d:Nat} {acc:Value} {env:Env}:rQ (.DictComp kx vx gens sc pos) d acc env:=⟨fun _ _ _=>rfl,fun _ _=>rfl⟩
theorem jk {kx vx:Expr} {gens:List Comprehension} {sc:Scope} {pos:Pos} {d:Nat} {acc:Value} {env:Env}:uz (.DictComp kx vx gens sc pos) d acc env:=⟨fun _ _ _=>⟨_,rfl⟩,fun _ _=>rfl⟩
theorem ul {kx:Expr} {gens:List Comprehension} {sc:Scope} {pos:Pos} {d:Nat} {acc:Value} {env:Env}:rQ (.SetComp kx gens sc pos) d acc env:=⟨fun _ _ _=>rfl,fun _ _=>rfl⟩
theorem rn {kx:Expr} {gens:List Comprehension} {sc:Scope} {pos:Pos} {d:Nat} {acc:Value} {env:Env}:uz (.SetComp kx gens sc pos) d acc env:=⟨fun _ _ _=>⟨_,rfl⟩,fun _ _=>rfl⟩
def ui (kx vx:Expr) (D:Addr) (env:Env):Sem Unit:=do
  let kv ← eval kx env
  let vv ← holding [kv] (eval vx env)
  standAt (have src:=kx.pos;{line:=src.line,col:=src.col,endLine:=vx.pos.endLine,endCol:=vx.pos.endCol})
  holding [kv,vv] (dictSet D kv vv)
def emD (kx vx:Expr) (D:Addr) (env:Env) (c:Code):Sem Fin:=do
  let _ ← ui kx vx D env
  again c
def emN (e:Expr) (iter:Expr) (acc:Value) (env:Env) (c:Code):Sem Fin:=do
  let x ← eval iter env
  standAt iter.pos
  let x ← foldedSetIterable iter env x
  let it ← holding [x] (pyIter x)
  let _ ← runOwn (.compStart e 1 it acc env) env
  again c
theorem rY {kx vx tg iter:Expr} {ifs:List Expr} {sc:Scope} {pos:Pos} {it:Value} {D:Addr} {env:Env}:cx (.DictComp kx vx [⟨tg,iter,ifs,0⟩] sc pos) 0 tg ifs iter.pos (emD kx vx D env (.compLoop (.DictComp kx vx [⟨tg,iter,ifs,0⟩] sc pos) 0 it (.ref D) env)) it (.ref D) env:=by
 unfold cx emD ui;rfl
theorem pq {kx vx tg iter tg2 iter2:Expr} {ifs ifs2:List Expr} {sc:Scope} {pos:Pos} {it:Value} {D:Addr} {env:Env}:cx (.DictComp kx vx [⟨tg,iter,ifs,0⟩,⟨tg2,iter2,ifs2,0⟩] sc pos) 0 tg ifs iter.pos (emN (.DictComp kx vx [⟨tg,iter,ifs,0⟩,⟨tg2,iter2,ifs2,0⟩] sc pos) iter2 (.ref D) env (.compLoop (.DictComp kx vx [⟨tg,iter,ifs,0⟩,⟨tg2,iter2,ifs2,0⟩] sc pos) 0 it (.ref D) env)) it (.ref D) env:=by
 unfold cx emN;rfl
theorem pi {kx vx tg iter tg2 iter2:Expr} {ifs ifs2:List Expr} {sc:Scope} {pos:Pos} {it:Value} {D:Addr} {env:Env}:cx (.DictComp kx vx [⟨tg,iter,ifs,0⟩,⟨tg2,iter2,ifs2,0⟩] sc pos) 1 tg2 ifs2 iter2.pos (emD kx vx D env (.compLoop (.DictComp kx vx [⟨tg,iter,ifs,0⟩,⟨tg2,iter2,ifs2,0⟩] sc pos) 1 it (.ref D) env)) it (.ref D) env:=by
 unfold cx emD ui;rfl
section
variable {κ:Type}
abbrev TM (κ:Type):=κ→St→Hp→(κ→St→Hp→Prop)→Prop
def er (J:It) (g:TG) (tc:TT) (t:TM κ) (Qe:κ→St→Hp→Prop) (k0:κ) (σ0:St) (H0:Hp):Prop :=
  ∃ W:Nat→Nat→κ→St→Hp→Prop,(∃ m,W 0 m k0 σ0 H0)∧∀ i m k σ' H',W i m k σ' H' →
    (J.stop i H'∧Qe k σ' H')∨(J.go i H'∧∃ N:κ→St→Hp→Prop,(∀ k2 σ2 H2,N k2 σ2 H2→∃ m',m'<m∧W (i+1) m' k2 σ2 H2)∧∀ x H2,J.yld i H' x H2→g x σ' H2 fun σ3 H3=>tc σ3 H3 fun b H4=>if b=true then t k σ3 H4 N else N k σ3 H4)
theorem er.by {J:It} {xs:List V} {Ok:Hp→Prop} (Y:ej J xs Ok) {g:TG} {tc:TT} {t:TM κ} {Qe:κ→St→Hp→Prop} {k0:κ} {σ0:St} {H0:Hp} (Pv:Nat→κ→St→Hp→Prop) (h0:Pv 0 k0 σ0 H0) (hl:∀ i k σ H,i≤xs.length→Pv i k σ H→Ok H)
 (hs:∀ i x k σ H,xs[i]?=some x→Pv i k σ H→g x σ H fun σ3 H3=>tc σ3 H3 fun b H4=>if b=true then t k σ3 H4 (Pv (i+1)) else Pv (i+1) k σ3 H4)
 (hd:∀ k σ H,Pv xs.length k σ H→Qe k σ H):er J g tc t Qe k0 σ0 H0:=by
 refine⟨fun i m k σ H=>m=xs.length-i∧i≤xs.length∧Pv i k σ H,⟨xs.length,by simp,Nat.zero_le _,h0⟩,?_⟩;rintro i m k σ H ⟨rfl,hi,p⟩;have q:=hl i k σ H hi p;by_cases hlt:i<xs.length
 · refine .inr ⟨Y.go i H q hlt,Pv (i+1),fun k' σ' H' p'=>⟨xs.length-(i+1),Nat.sub_succ_lt_self _ _ hlt,rfl,hlt,p'⟩,fun x H' y=>?_⟩;obtain⟨e,y2⟩:=Y.yld i H x H' (Y.go i H q hlt) q y;subst e;exact hs i x k σ _ y2 p
 · have e:i=xs.length:=by omega
   subst e;exact .inl ⟨Y.stop _ H q (Nat.le_refl _),hd k σ H p⟩
def PM (Y:Cx) (pf:κ→AOs→Prop) (av:List Addr) (c:Code) (em:Sem Fin) (t:TM κ):Prop :=
  ∀ (pins pl:AOs) (k:κ) (s:Shared) (σ:St) (H:Hp) (N:κ→St→Hp→Prop),(∀ p∈pins,p.1∉av)→pf k pl→Inv Y (pl++pins) σ H s→t k σ H N→wpAny (model Y.prog Y.w) Y.A em (fun fin s'=>fin=.again c∧∃ k' pl' σ' H',pf k' pl'∧Inv Y (pl'++pins) σ' H' s'∧N k' σ' H') Y.xe s
set_option maxHeartbeats 8000000 in
theorem jT {Y:Cx} {pf:κ→AOs→Prop} {av:List Addr} {bp:AOs} {e tg:Expr} {d:Nat} {ifs:List Expr} {ip:Pos} {em:Sem Fin} {it:Addr} {acc:Value} {fp:List Addr} {tn:Nat→Heap→Prop} {J:It} {g:TG} {tc:TT} {t:TM κ} {Qe:κ→St→Hp→Prop} {R:Result→Shared→Prop}
 (hD:rQ e d acc Y.env) (hT:cx e d tg ifs ip em (.ref it) acc Y.env) (hcm:Y.calm=true) (hxe:Y.xe=fun _ _=>False) (T:mr Y.prog Y.w Y.K tg J fp it tn) (hg:PG Y tg g) (hif:gC Y ifs tc) (hm:PM Y pf av (.compLoop e d (.ref it) acc Y.env) em t)
 (hv1:∀ p∈bp,p.1∉av) (hv2:∀ b∈fp,b∉av) (stat:∀ (k:κ) (pl:AOs) (H':Hp),pf k pl→(∀ b∈fp,H' b=none)→∀ b∈fp,eU Y (pl++bp) H' b) {k0:κ} {pl0:AOs} {σ0:St} {H0:Hp} {s0:Shared} (hp0:pf k0 pl0) (I0:Inv Y (pl0++bp) σ0 H0 s0) (st0:tn 0 s0.heap) (fr0:∀ b∈fp,H0 b=none) (hL:er J g tc t Qe k0 σ0 H0)
 (fin:∀ k pl σ' H' s',pf k pl→Inv Y (pl++bp) σ' H' s'→Qe k σ' H'→R (.ok .next) s'):codeAny (model Y.prog Y.w) Y.A (.compLoop e d (.ref it) acc Y.env) R s0:=by
 obtain⟨W,⟨m0,w0⟩,turn⟩:=hL;refine xG hD hT (fun n s'=>∃ i k pl σ' H',pf k pl∧Inv Y (pl++bp) σ' H' s'∧tn i s'.heap∧(∀ b∈fp,H' b=none)∧W i n k σ' H') ?_ m0 ⟨0,k0,pl0,_,_,hp0,I0,st0,fr0,w0⟩;rintro n s5 ⟨i,k5,pl5,σ5,H5,hp5,I5,st5,fr5,w5⟩
 rcases turn i n k5 σ5 H5 w5 with ⟨stop,q⟩ | ⟨go,N,hN,step⟩
 · refine thn (T.done Y rfl rfl rfl hcm i _ s5 σ5 H5 _ I5 (stat k5 pl5 H5 hp5 fr5) st5 stop) fun r s6 zz97=>?_;obtain⟨hr,I6⟩:=zz97;exact .inl ⟨hr,fin _ _ _ _ _ hp5 I6 q⟩
 · refine thn (T.item Y rfl rfl rfl hcm i _ s5 σ5 H5 _ I5 (stat k5 pl5 H5 hp5 fr5) st5 go) fun r s6 zz98=>?_;obtain⟨u,hr,h6⟩:=zz98;refine .inr ⟨u,hr,?_⟩;refine thn h6 fun _ s7 zz99=>?_;obtain⟨x,H7,I7,r7,y7,st7,fr7⟩:=zz99;have I7':=I7.pinned (stat k5 pl5 H7 hp5 fr7) (T.obj _ _ st7);rw[List.append_assoc] at I7';have pinsOk:∀ {k8:κ} {pl8:AOs} {σ8:St} {H8:Hp} {s8:Shared},pf k8 pl8→Inv Y (pl8++(bp++gk fp s7.heap)) σ8 H8 s8→N k8 σ8 H8→∃ m,m<n∧∃ i k pl σ' H',pf k pl∧Inv Y (pl++bp) σ' H' s8∧tn i s8.heap∧(∀ b∈fp,H' b=none)∧W i m k σ' H':=fun {k8 pl8 σ8 H8 s8} hp8 I8 n8=>by
    obtain⟨m',hm,w8⟩:=hN k8 σ8 H8 n8;rw[← List.append_assoc] at I8;refine⟨m',hm,i+1,k8,pl8,σ8,H8,hp8,I8.unpinned,T.keep _ _ _ st7 fun b hb o e=>(I8.pin (b,o) (List.mem_append_right _ (List.mem_append_right _ (bW hb e)))).1,fun b hb=>?_,w8⟩;obtain⟨o,e,d⟩:=T.obj _ _ st7 b hb;exact (I8.pin (b,o) (List.mem_append_right _ (List.mem_append_right _ (bW hb e)))).2.1
   have toF:∀ {α:Type} {t:Sem α} {Q':α→Shared→Prop} {s':Shared},wpAny (model Y.prog Y.w) Y.A t Q' Y.xe s'→wpAny (model Y.prog Y.w) Y.A t Q' (fun _ _=>False) s':=fun {α t Q' s'} z=>wpAny_mono z (fun _ _ a=>a) fun _ _ a=>by rw[hxe] at a;exact a
   refine toF (thn (hg _ s7 σ5 H7 x u _ I7' r7 (step x H7 y7)) fun _ s8 zz100=>?_);obtain⟨σ8,H8,I8,q8⟩:=zz100;refine toF (thn (hif _ s8 σ8 H8 _ I8 q8) fun ok s9 zz101=>?_);obtain⟨H9,I9,q9⟩:=zz101;cases ok with
   | false =>
    rw[if_neg Bool.false_ne_true] at q9;exact .inl ⟨rfl,pinsOk hp5 I9 q9⟩
   | true =>
    rw[if_pos rfl] at q9;refine .inr ⟨rfl,toF (thn (hm _ _ k5 s9 σ8 H9 _ (fun p hp=>by rcases mAp.mp hp with z | z;exact hv1 p z;exact hv2 p.1 (je z).1) hp5 I9 q9) fun y s10 zz102=>?_)⟩;obtain⟨hf,k',pl',σ',H',hp',I',n'⟩:=zz102;exact⟨hf,pinsOk hp' I' n'⟩
end
abbrev p0:Unit→AOs→Prop:=fun _ pl=>pl=[]
inductive AM (D:Addr) (x y:V) (H:Hp) (N:Hp→Prop):Prop
  | mk (kvs:List (Key×V)) (key:Key) (h1:x=kV key) (h2:H D=some (.dK kvs)) (h3:kvs.length<sizeLine) (q:N (upd H D (.dK (bT kvs key y)))):AM D x y H N
def vY (D:Addr) (tk tv:TE):TM Unit:=fun _ σ H N=>tk σ H fun x H1=>tv σ H1 fun y H2=>AM D x y H2 (N () σ)
theorem mV {Y:Cx} {kx vx:Expr} {tk tv:TE} {D:Addr} {c:Code} (hk:PE Y kx tk) (hv:PE Y vx tv):PM Y p0 [] c (emD kx vx D Y.env c) (vY D tk tv):=by
 intro pins pl k s σ H N _ hp I h;subst hp;unfold emD ui;refine wB (wB (thn (hk _ s σ H _ I h) fun u s1 z=>?_));obtain⟨x,H1,I1,rx,q1⟩:=z;refine wB (wpAny_holding (thn (hv _ s1 σ H1 _ I1 q1) fun u2 s2 z=>?_));obtain⟨y,H2,I2,ry,kvs,key,rfl,hD,hl,q⟩:=z;refine wB (wpAny_standAt (wpAny_holding ?_));obtain⟨z,hd,vs,rel,dd⟩:=kP I2.hok hD;have hz:vs.length≤sizeLine:=by rw[← rel.length];exact z
 have hl2:(bT kvs key y).length≤sizeLine:=by have:=bM kvs key y;omega
 refine wpAny_dictSet_pairs (eX rx) dd (fun h' dd' hs=>wP ⟨rfl,(),[],σ,_,rfl,?_,q⟩) hz;have he:∃ q,h'.get? D=some q:=let ⟨q,_,_,hq,_⟩:=dd';⟨q,hq⟩;exact fP I2 (by rw[hD];exact True.intro) hs he (jS hl2 hd (rel.put key ry) dd')
theorem qy {Y:Cx} {e tg iter:Expr} {ifs:List Expr} {D:Addr} {c:Code} {wi:TI} {g:TG} {tc:TT} {t:TM Unit} {em:Value→Sem Fin} {gc:Comprehension} (hDL:rQ e 1 (.ref D) Y.env) (hDS:uz e 1 (.ref D) Y.env) (hgc:(clausesOf e)[1]?=some gc) (ha:(gc.is_async != 0)=false) (hT:∀ it,cx e 1 tg ifs iter.pos (em it) it (.ref D) Y.env)
 (hcm:Y.calm=true) (hxe:Y.xe=fun _ _=>False) (hi:PI Y tg iter wi) (hg:PG Y tg g) (hif:gC Y ifs tc) (hm:∀ it:Value,PM Y p0 [] (.compLoop e 1 it (.ref D) Y.env) (em it) t) (hs:∀ x,foldedSetIterable iter Y.env x=pure x) :
 PM Y p0 [] c (emN e iter (.ref D) Y.env c) (fun _ σ H N=>wi σ H fun J H1=>er J g tc t N () σ H1):=by
 intro pins pl k s σ H N _ hp I h;subst hp;unfold emN;refine wB (thn (hi _ s σ H _ I h) fun v s1 h1=>?_);refine wB (wpAny_standAt ?_);rw[hs];refine wB (wP (wB (wpAny_holding (thn h1 fun itv s2 h2=>?_))));obtain⟨it,fp,tn,J,H2,rfl,I2,T,st2,f2,hL⟩:=h2;have loop:codeAny (model Y.prog Y.w) Y.A (.compLoop e 1 (.ref it) (.ref D) Y.env) (fun r s'=>r=.ok .next∧∃ k' pl' σ' H',p0 k' pl'∧Inv Y (pl'++pins) σ' H' s'∧N k' σ' H') s2:=by
  refine jT (pf:=p0) (bp:=pins) hDL (hT _) hcm hxe T hg hif (hm _) (fun _ _ z=>by cases z) (fun _ _ z=>by cases z) (fun _ pl H' hp hn b hb=>by rw[hp];exact⟨hn b hb,(f2 b hb).2⟩) (k0:=()) (pl0:=[]) rfl I2 st2 (fun b hb=>(f2 b hb).1) hL fun k pl σ' H' s' hp I' q=>⟨rfl,k,pl,σ',H',hp,I',q⟩
 refine wB (wpAny_runOwn ?_);refine codeAny_mono (m9 (A:=Y.A) (R:=fun r s'=>r=.ok .next∧∃ k' pl' σ' H',p0 k' pl'∧Inv Y (pl'++pins) σ' H' s'∧N k' σ' H') hDS hgc ha loop (T.self _ 0 _ _ _ st2 loop)) fun r s' hr=>?_;obtain⟨rfl,k',pl',σ',H',hp',I',n'⟩:=hr;exact wP ⟨rfl,k',pl',σ',H',hp',I',n'⟩
def tDC (wi:TI) (k:Nat) (outs:List (Nat×Str)) (g:TG) (tc:TT) (t:Addr→TM Unit):TE:=fun σ H Q=>wi σ H fun J H1=>∀ D,H1 D=none→er J g tc (t D) (fun _ _ H'=>Q (.ref D) H') () (dF k outs σ) (upd H1 D (.dK []))
set_option maxHeartbeats 8000000 in
theorem nC {X:Cx} {kx vx tg iter:Expr} {ifs:List Expr} {dk:List Comprehension} {sc:Scope} {pos cpos:Pos} {wi:TI} {g:TG} {tc:TT} {t:Addr→TM Unit} {em:Addr→Env→Value→Sem Fin} {own:List Str} {outs:List (Nat×Str)} {use:Option (Value→Sem Unit)} {PQ:VSP} {pins:AOs} {s:Shared} {σ:St} {H:Hp} {Q:VK} (hc:X.calm=true) (S:aB X sc own outs) (hi:PI X tg iter wi)
 (hT:∀ D env it,cx (.DictComp kx vx (⟨tg,iter,ifs,0⟩::dk) sc pos) 0 tg ifs iter.pos (em D env it) it (.ref D) env)
 (hb:∀ (fp:List Addr) (pins:AOs) (s:Shared) (H:Hp),PG (blk X sc (aO X.env.cells sc.names []) (bb own outs) fp pins s H) tg g ∧
   gC (blk X sc (aO X.env.cells sc.names []) (bb own outs) fp pins s H) ifs tc∧∀ D it,PM (blk X sc (aO X.env.cells sc.names []) (bb own outs) fp pins s H) p0 [] (.compLoop (.DictComp kx vx (⟨tg,iter,ifs,0⟩::dk) sc pos) 0 it (.ref D) (blk X sc (aO X.env.cells sc.names []) (bb own outs) fp pins s H).env) (em D (blk X sc (aO X.env.cells sc.names []) (bb own outs) fp pins s H).env it) (t D))
 (hs:∀ x,foldedSetIterable iter X.env x=pure x) (I:Inv X pins σ H s) (h:tDC wi own.length outs g tc t σ H Q)
 (fin:∀ (D c:Addr) (m6:SOV) (H5:Hp) (s6:Shared),Inv X pins σ H5 s6→s6.heap.Ns c m6→H5 c=none→X.env.locals≠c→X.s₀.heap.objs.size≤c→(∀ x c',X.env.cells.lookup x=some c'→c'≠c)→(∀ p∈X.pn++pins,p.1≠c)→Q (.ref D) H5 →
   compPost (model X.prog X.w) X.A X.xe use PQ (.ref D) c (.ok .next) s6) :
 wpAny (model X.prog X.w) X.A (comprehension (.DictComp kx vx (⟨tg,iter,ifs,0⟩::dk) sc pos) sc X.env cpos newDict false (eval iter X.env) use) PQ X.xe s:=by
 have hcl:closureFor sc X.env=pure (aO X.env.cells sc.names []):=fz fun y hy e=>I.ok.has y.1 (S.fr y hy e);refine wpAny_comprehension_free (use:=use) rfl hs hcl S.kind S.loc (thn (hi pins s σ H _ I h) fun v s1 h1=>thn h1 fun itv s2 h2=>?_);obtain⟨it,fp,tn,J,H2,rfl,I2,T,st2,f2,h2⟩:=h2;refine wpAny_newObj_type ?_;generalize hD:s2.heap.objs.size=D;have fr:H2 D=none:=by rw[← hD];exact I2.fresh
 have hL:=h2 D fr;have I3:Inv X pins σ (upd H2 D (.dK [])) {s2 with heap:=s2.heap.push {cls:=.type "dict",data:=.dict #[]}}:=by
  have q:=I2.laid (a:=s2.heap.objs.size) (o:=.dK []) (h':=s2.heap.push {cls:=.type "dict",data:=.dict #[]}) (t':=s2.toks) (fun _ _ q=>hpS _ q) (Nat.le_refl _) (iK s2.heap I2.big);rw[hD] at q;exact q
 have hfp:∀ b∈fp,b<s2.heap.objs.size:=fun b hb=>by
  obtain⟨o,e,_⟩:=T.obj _ _ st2 b hb;exact Heap.lt_size e
 have f3:∀ b∈fp,eU X pins (upd H2 D (.dK [])) b:=fun b hb=>⟨by rw[ad (by rw[← hD];exact Nat.ne_of_lt (hfp b hb))];exact (f2 b hb).1,(f2 b hb).2⟩;generalize hS:({s2 with heap:=s2.heap.push {cls:=.type "dict",data:=.dict #[]}}:Shared)=s3 at I3;have k3:∀ b o,s2.heap.get? b=some o→s3.heap.get? b=some o:=fun b o e=>by rw[← hS];exact hpS _ e
 have z3:s2.heap.objs.size≤s3.heap.objs.size:=by rw[← hS];show _≤(s2.heap.push _).objs.size;rw[Heap.size_push];exact Nat.le_succ _
 have st3:tn 0 s3.heap:=T.keep _ _ _ st2 fun b _ o e=>k3 b o e;refine wpAny_newFunctionEnv S.nocell (fun y hy=>by cases hy) (fun h4 hn4 sb4=>?_) S.kind;have k4:∀ b o,s3.heap.get? b=some o→h4.get? b=some o:=fun b o e=>sb4.extBut b o (Nat.ne_of_lt (Heap.lt_size e)) (hpS _ e);have hn4':h4.Ns s3.heap.objs.size fun _=>none:=by
  have q:=hn4;simp only[List.reverse_nil,List.lookup_nil] at q;exact q
 have I4:=jM (t':=s3.toks+([]:List (Str×Value)).length) I3 S f3 (fun b hb=>Nat.lt_of_lt_of_le (hfp b hb) z3) hn4' k4;have st4:tn 0 h4:=T.keep _ _ _ st3 fun b _ o e=>k4 b o e;obtain⟨hg,hif,he⟩:=hb fp pins s3 (upd H2 D (.dK []));generalize hY:blk X sc (aO X.env.cells sc.names []) (bb own outs) fp pins s3 (upd H2 D (.dK []))=Y at I4 hg hif he;have yenv:Y.env=compEnvC sc (aO X.env.cells sc.names []) s3.heap.objs.size X.env:=by rw[← hY];rfl
 have statY:∀ {H':Hp},(∀ b∈fp,H' b=none)→∀ b∈fp,eU Y [] H' b:=fun {H'} hn b hb=>by
  subst hY;obtain⟨_,a1,a2,a3,a4,a5⟩:=f3 b hb;refine⟨hn b hb,Nat.ne_of_lt (Nat.lt_of_lt_of_le (hfp b hb) z3),fun z=>?_,.inl hb,fun x c e=>a4 x c (dv e),fun p hp=>?_⟩
  · rcases List.mem_cons.mp (I3.stkSub b z) with y | y
    · exact a1 y
    · exact a2 y
  · rcases mAp.mp hp with z | z
    · exact a5 p z
    · cases z
 have loop:codeAny (model X.prog X.w) X.A (.compLoop (.DictComp kx vx (⟨tg,iter,ifs,0⟩::dk) sc pos) 0 (.ref it) (.ref D) Y.env) (compPost (model X.prog X.w) X.A X.xe use PQ (.ref D) s3.heap.objs.size)
  {s3 with heap:=h4,toks:=s3.toks+([]:List (Str×Value)).length}:=by
  have hP:Y.prog=X.prog:=by rw[← hY];rfl
  have hw:Y.w=X.w:=by rw[← hY];rfl
  have hA:Y.A=X.A:=by rw[← hY];rfl
  have hK:Y.K=X.K:=by rw[← hY];rfl
  have hxe:Y.xe=fun _ _=>False:=by rw[← hY];rfl
  have hcm:Y.calm=true:=by rw[← hY];exact hc
  rw[← hP,← hw,← hK] at T;have key:=jT (Y:=Y) (pf:=p0) (bp:=[]) (R:=compPost (model X.prog X.w) X.A X.xe use PQ (.ref D) s3.heap.objs.size) kR (hT D Y.env (.ref it)) hcm hxe T hg hif (he D (.ref it)) (fun _ _ z=>by cases z) (fun _ _ z=>by cases z) (fun _ pl H' hp hn=>by rw[hp];exact statY hn) (k0:=()) (pl0:=[]) rfl I4 st4 (fun b hb=>(f3 b hb).1) hL ?_
  · rw[hP,hw,hA] at key;exact key
  intro _ pl σ6 H5 s6 hp I6 q;subst hp;obtain⟨m6,hn6,_⟩:=I6.loc;have yl:Y.env.locals=s3.heap.objs.size:=by rw[yenv];rfl
  have u6:Un (frs X.stack) fp (upd H2 D (.dK [])) H5 s3.heap s6.heap:=by
   have q:=I6.base;subst hY;exact q
  have I7:Inv X pins σ H5 s6:=by
   refine I3.call' (s':=s6) (ch:=fp) ?_ u6 ?_ I6.bare fun b hb=>?_
   · have q:=I6.os;subst hY;exact q
   · intro a o e;have q:=I6.hok a o e;subst hY;exact q
   · obtain⟨_,a1,a2,a3,a4,a5⟩:=f3 b hb;exact⟨a3,a1,a4,a5⟩
  refine fin D s3.heap.objs.size m6 H5 s6 I7 (by rw[← yl];exact hn6) (by rw[← yl];exact I6.free) (Nat.ne_of_lt I3.lt) I3.sz (fun x c e=>?_) (fun p hp=>Nat.ne_of_lt (Heap.lt_size (I3.pin p hp).1)) q;obtain⟨v,o,z,_⟩:=I3.cell x c e;exact Nat.ne_of_lt (Heap.lt_size z)
 rw[yenv] at loop;exact m9 jk rfl rfl loop (T.self _ 0 _ _ _ st4 loop)
theorem wW {X:Cx} {kx vx tg iter:Expr} {ifs:List Expr} {sc:Scope} {pos:Pos} {wi:TI} {g:TG} {tc:TT} {tk tv:TE} {own:List Str} {outs:List (Nat×Str)} (hc:X.calm=true) (S:aB X sc own outs) (hi:PI X tg iter wi)
 (hb:∀ (fp:List Addr) (pins:AOs) (s:Shared) (H:Hp),PG (blk X sc (aO X.env.cells sc.names []) (bb own outs) fp pins s H) tg g ∧
   gC (blk X sc (aO X.env.cells sc.names []) (bb own outs) fp pins s H) ifs tc∧PE (blk X sc (aO X.env.cells sc.names []) (bb own outs) fp pins s H) kx tk∧PE (blk X sc (aO X.env.cells sc.names []) (bb own outs) fp pins s H) vx tv)
 (hs:∀ x,foldedSetIterable iter X.env x=pure x:=by intro _;rfl):PE X (.DictComp kx vx [⟨tg,iter,ifs,0⟩] sc pos) (tDC wi own.length outs g tc fun D=>vY D tk tv):=by
 intro pins s σ H Q I h;rw[arm_eval_DictComp];refine nC (dk:=[]) (em:=fun D env it=>emD kx vx D env (.compLoop (.DictComp kx vx [⟨tg,iter,ifs,0⟩] sc pos) 0 it (.ref D) env)) hc S hi (fun D env it=>rY) (fun fp pins s H=>⟨(hb fp pins s H).1,(hb fp pins s H).2.1,fun D it=>mV (hb fp pins s H).2.2.1 (hb fp pins s H).2.2.2⟩) hs I h fun D c m6 H5 s6 I6 n6 f6 cl sz cc cp q=>⟨m6,n6,fun h7 sb7=>⟨.ref D,H5,I6.turned (t':=s6.toks) (fun b o hb e=>(sb7.2 b hb).trans e) f6 cl.symm (.inr sz) cc cp,rfl,q⟩⟩
theorem wV {X:Cx} {kx vx tg iter tg2 iter2:Expr} {ifs ifs2:List Expr} {sc:Scope} {pos:Pos} {wi wi2:TI} {g g2:TG} {tc tc2:TT} {tk tv:TE} {own:List Str} {outs:List (Nat×Str)} (hc:X.calm=true) (S:aB X sc own outs) (hi:PI X tg iter wi)
 (hb:∀ (fp:List Addr) (pins:AOs) (s:Shared) (H:Hp),PG (blk X sc (aO X.env.cells sc.names []) (bb own outs) fp pins s H) tg g∧gC (blk X sc (aO X.env.cells sc.names []) (bb own outs) fp pins s H) ifs tc ∧
   PI (blk X sc (aO X.env.cells sc.names []) (bb own outs) fp pins s H) tg2 iter2 wi2∧PG (blk X sc (aO X.env.cells sc.names []) (bb own outs) fp pins s H) tg2 g2∧gC (blk X sc (aO X.env.cells sc.names []) (bb own outs) fp pins s H) ifs2 tc2 ∧
   PE (blk X sc (aO X.env.cells sc.names []) (bb own outs) fp pins s H) kx tk∧PE (blk X sc (aO X.env.cells sc.names []) (bb own outs) fp pins s H) vx tv)
 (hs:∀ x,foldedSetIterable iter X.env x=pure x:=by intro _;rfl) (hs2:∀ env x,foldedSetIterable iter2 env x=pure x:=by intro _ _;rfl):PE X (.DictComp kx vx [⟨tg,iter,ifs,0⟩,⟨tg2,iter2,ifs2,0⟩] sc pos) (tDC wi own.length outs g tc fun D=>fun _ σ H N=>wi2 σ H fun J H1=>er J g2 tc2 (vY D tk tv) N () σ H1):=by
 intro pins s σ H Q I h;rw[arm_eval_DictComp];refine nC (dk:=[⟨tg2,iter2,ifs2,0⟩]) (em:=fun D env it=>emN (.DictComp kx vx [⟨tg,iter,ifs,0⟩,⟨tg2,iter2,ifs2,0⟩] sc pos) iter2 (.ref D) env (.compLoop (.DictComp kx vx [⟨tg,iter,ifs,0⟩,⟨tg2,iter2,ifs2,0⟩] sc pos) 0 it (.ref D) env)) hc S hi (fun D env it=>pq) (fun fp pins s H=>?_) hs I h fun D c m6 H5 s6 I6 n6 f6 cl sz cc cp q=>⟨m6,n6,fun h7 sb7=>⟨.ref D,H5,I6.turned (t':=s6.toks) (fun b o hb e=>(sb7.2 b hb).trans e) f6 cl.symm (.inr sz) cc cp,rfl,q⟩⟩;obtain⟨b1,b2,b3,b4,b5,b6,b7⟩:=hb fp pins s H;refine⟨b1,b2,fun D it=>qy (em:=fun it2=>emD kx vx D (blk X sc (aO X.env.cells sc.names []) (bb own outs) fp pins s H).env (.compLoop (.DictComp kx vx [⟨tg,iter,ifs,0⟩,⟨tg2,iter2,ifs2,0⟩] sc pos) 1 it2 (.ref D) (blk X sc (aO X.env.cells sc.names []) (bb own outs) fp pins s H).env)) kR jk rfl rfl (fun it2=>pi) hc rfl b3 b4 b5 (fun it2=>mV b6 b7) (hs2 _)⟩
def Ris (xs:Array Nat):Prop:=∀ i j,i<j→j<xs.size→xs.getD i 0<xs.getD j 0
theorem rf (xs:Array Nat) (i a b:Nat) (h:i<xs.size):xs.getD i a=xs.getD i b:=by simp[Array.getD,h]
theorem rG {xs:Array Nat} {j:Nat} (R:Ris xs):∀ (f lo hi:Nat),hi-lo≤f→lo≤hi→hi≤xs.size→(∀ i,i<lo→xs.getD i 0<j)→(∀ i,hi≤i→i<xs.size→j≤xs.getD i 0) →
 (∀ i,i<SetTable.below.go xs j f lo hi→xs.getD i 0<j)∧(∀ i,SetTable.below.go xs j f lo hi≤i→i<xs.size→j≤xs.getD i 0)∧SetTable.below.go xs j f lo hi≤xs.size:=by
 intro f
 induction f with
 | zero =>
  intro lo hi h1 h2 h3 h4 h5;obtain rfl:lo=hi:=by omega
  exact⟨h4,h5,h3⟩
 | succ f ih =>
  intro lo hi h1 h2 h3 h4 h5;show (∀ i,i<(if lo<hi then _ else _)→_)∧(∀ i,(if lo<hi then _ else _)≤i→_)∧(if lo<hi then _ else _)≤_;by_cases hl:lo<hi
  · rw[if_pos hl];have hm:(lo+hi) / 2<hi:=by omega
    have hm2:lo≤(lo+hi) / 2:=by omega
    show (∀ i,i<(if xs.getD ((lo+hi) / 2) j<j then _ else _)→_)∧(∀ i,(if xs.getD ((lo+hi) / 2) j<j then _ else _)≤i→_)∧(if xs.getD ((lo+hi) / 2) j<j then _ else _)≤_;rw[rf xs _ j 0 (by omega)];by_cases hc:xs.getD ((lo+hi) / 2) 0<j
    · rw[if_pos hc];refine ih _ _ (by omega) (by omega) h3 (fun i hi'=>?_) h5;by_cases e:i=(lo+hi) / 2
      · rw[e];exact hc
      · exact Nat.lt_trans (R i ((lo+hi) / 2) (by omega) (by omega)) hc
    · rw[if_neg hc];refine ih _ _ (by omega) (by omega) (by omega) h4 fun i hi' hs=>?_;by_cases e:i=(lo+hi) / 2
      · rw[e];omega
      · have:=R ((lo+hi) / 2) i (by omega) hs;omega
  · rw[if_neg hl];obtain rfl:lo=hi:=by omega
    exact⟨h4,h5,h3⟩
theorem iP {xs:Array Nat} (R:Ris xs) (j:Nat):(∀ i,i<SetTable.below xs j→xs.getD i 0<j)∧(∀ i,SetTable.below xs j≤i→i<xs.size→j≤xs.getD i 0)∧SetTable.below xs j≤xs.size :=
 rG R xs.size 0 xs.size (by omega) (Nat.zero_le _) (Nat.le_refl _) (fun i h=>absurd h (Nat.not_lt_zero _)) fun i h1 h2=>absurd h2 (by omega)
theorem iO {xs:Array Nat} (R:Ris xs):SetTable.below xs 0=0:=by
 obtain⟨h1,_,h3⟩:=iP R 0;cases e:SetTable.below xs 0 with
 | zero=>rfl
 | succ k=>exact absurd (h1 k (by omega)) (Nat.not_lt_zero _)
theorem iQ {xs:Array Nat} (R:Ris xs) {i:Nat} (hi:i<xs.size):SetTable.below xs (xs.getD i 0+1)=i+1:=by
 obtain⟨h1,h2,h3⟩:=iP R (xs.getD i 0+1);by_cases a:SetTable.below xs (xs.getD i 0+1)≤i
 · have:=h2 i a hi;omega
 · by_cases b:i+1<SetTable.below xs (xs.getD i 0+1)
   · have:=h1 (i+1) b;have:=R i (i+1) (Nat.lt_succ_self _) (by omega);omega
   · omega
theorem kD {xs:Array Nat}:Ris xs↔xs.toList.Pairwise (·<·):=by
 rw[List.pairwise_iff_getElem];constructor
 · intro h i j hi hj hij;have:=h i j hij (by simpa using hj)
   simpa [Array.getD,show i<xs.size by simpa using hi,show j<xs.size by simpa using hj] using this
 · intro h i j hij hj;have:=h i j (by rw[Array.length_toList];omega) (by rw[Array.length_toList];exact hj) hij
   simpa [Array.getD,show i<xs.size by omega,hj] using this
theorem sT {xs:Array Nat} (R:Ris xs) {j:Nat} (hj:xs[SetTable.below xs j]?≠some j):Ris (SetTable.insertAt xs (SetTable.below xs j) j):=by
 obtain⟨h1,h2,h3⟩:=iP R j;generalize SetTable.below xs j=p at hj h1 h2 h3;rw[kD] at R ⊢;have e:(SetTable.insertAt xs p j).toList=xs.toList.take p++j::xs.toList.drop p:=by
  unfold SetTable.insertAt;simp[Array.toList_extract];rw[List.take_of_length_le (by simp)]
 rw[e,List.pairwise_append];have gt:∀ y∈xs.toList.drop p,j<y:=fun y hy=>by
  obtain⟨k,hk,rfl⟩:=List.getElem_of_mem hy;rw[List.getElem_drop];rw[List.length_drop,Array.length_toList] at hk;have hb:p+k<xs.size:=by omega
  have g:=h2 (p+k) (by omega) hb;have e1:xs.getD (p+k) 0=xs.toList[p+k]'(by rw[Array.length_toList];exact hb):=by simp[Array.getD,hb]
  rw[e1] at g;cases k with
  | succ k =>
   have:=List.pairwise_iff_getElem.mp R p (p+(k+1)) (by rw[Array.length_toList];omega) (by rw[Array.length_toList];exact hb) (by omega);have g0:=h2 p (Nat.le_refl _) (by omega);have e0:xs.getD p 0=xs.toList[p]'(by rw[Array.length_toList];omega):=by simp[Array.getD,show p<xs.size by omega]
   rw[e0] at g0;omega
  | zero =>
   refine Nat.lt_of_le_of_ne g fun c=>hj ?_;rw[Array.getElem?_eq_getElem (by simpa using hb)];have c':j=xs.toList[p]'(by rw[Array.length_toList];simpa using hb):=c;rw[Array.getElem_toList] at c';rw[c']
 refine⟨R.take,List.pairwise_cons.mpr ⟨gt,R.drop⟩,fun x hx y hy=>?_⟩;have lx:x<j:=by
  obtain⟨k,hk,rfl⟩:=List.getElem_of_mem hx;rw[List.getElem_take];rw[lTk,Array.length_toList] at hk;have hb:k<xs.size:=by omega
  have g:=h1 k (by omega);have e1:xs.getD k 0=xs.toList[k]'(by rw[Array.length_toList];exact hb):=by simp[Array.getD,hb]
  rw[e1] at g;exact g
 rcases List.mem_cons.mp hy with rfl | hy
 · exact lx
 · exact Nat.lt_trans lx (gt y hy)
def RI (t:SetTable):Prop:=Ris t.place∧t.dummies=#[]
theorem jj (j:Nat):SetTable.has #[] j=false:=rfl
theorem kF {t:SetTable} (h:t.dummies=#[]) {f:Nat→Int} {k:Int}:∀ (n:Nat) (p:SetTable.Probe) (j:Nat) (d:Option Nat),SetTable.probe.go t f k n p=some (.empty j d)→t.place[SetTable.below t.place j]?≠some j∧d=p.dummy∨(∃ i nx,SetTable.probe.go t f k n p=some (.candidate j i nx)):=by
 intro n
 induction n with
 | zero=>intro p j d z;cases z
 | succ n ih =>
  intro p j d z;unfold SetTable.probe.go at z;have ns:∀ q,t.slot q≠.dummy:=fun q=>by
   unfold SetTable.slot;dsimp only;split
   · intro c;cases c
   · rw[h,jj,if_neg Bool.false_ne_true];intro c;cases c
  split at z
  · rename_i hs
    cases z;refine .inl ⟨fun c=>?_,rfl⟩;unfold SetTable.slot at hs;dsimp only at hs;rw[if_pos (by rw[c];exact beq_self_eq_true _)] at hs;cases hs
  · rename_i hs;exact absurd hs (ns _)
  · split at z
    · cases z
    · have r:=ih _ j d z
      rcases r with r | ⟨i,nx,r⟩
      · refine .inl ⟨r.1,r.2.trans ?_⟩;unfold SetTable.advance;split <;> rfl
      · rw[r] at z;cases z
theorem wH {t:SetTable} (R:RI t) (es:Array (Int×Value)) (k:Int) (x:Value):RI (layNew t es k x).2.1:=by
 have stand:∀ (t:SetTable) n,RI (t.standIn n):=fun t n=>⟨fun i j hij hj=>by
   have hj':j<n:=by simpa [SetTable.standIn] using hj
   simp[SetTable.standIn,Array.getD,show i<n by omega,hj',hij],rfl⟩
 unfold layNew;split
 · rename_i slot dm e
   have hs:t.place[SetTable.below t.place slot]?≠some slot:=by
    unfold SetTable.freeSlot at e;split at e
    · rename_i j d hp
      unfold SetTable.probe at hp
      rcases kF R.2 _ _ _ _ hp with ⟨h1,h2⟩ | ⟨i,nx,h3⟩
      · rw[h2] at e;have e':=Option.some.inj e;have e1:(none:Option Nat).getD j=slot:=congrArg Prod.fst e';rw[← e1];exact h1
      · rw[h3] at hp;cases hp
    · cases e
   have ri1:RI (t.put slot).1:=⟨sT R.1 hs,by
     show (if SetTable.has t.dummies slot=true then _ else _)=#[];rw[R.2,jj,if_neg Bool.false_ne_true]⟩
   show RI ((t.put slot).1.orStandIn _);unfold SetTable.orStandIn;split
   · exact ri1
   · exact stand _ _
 · exact stand _ _
theorem qh {t:SetTable} (R:RI t) (es:Array (Int×Value)) (k:Nat):RI (relayAll t es k).2.1:=by
 have stand:∀ (t:SetTable) n,RI (t.standIn n):=fun t n=>⟨fun i j hij hj=>by
   have hj':j<n:=by simpa [SetTable.standIn] using hj
   simp[SetTable.standIn,Array.getD,show i<n by omega,hj',hij],rfl⟩
 unfold relayAll;cases e:t.relaid (es.map (·.1)) k with
 | none=>exact stand _ _
 | some y =>
  obtain⟨t',od⟩:=y;dsimp only;split
  · unfold SetTable.relaid SetTable.laid at e;cases e2:SetTable.layClean (SetTable.sizeAbove k-1) (es.map (·.1)) with
    | none=>rw[e2] at e;cases e
    | some ow =>
     rw[e2] at e;cases e;refine⟨?_,rfl⟩;rw[kD];show ((List.filterMap _ _).map _).Pairwise (·<·);rw[List.map_filterMap,List.pairwise_filterMap];refine List.Pairwise.imp_of_mem (fun {a b} _ _ hab=>?_) List.pairwise_lt_range;intro u hu v hv;simp only[oMS] at hu hv;obtain⟨_,⟨_,_,rfl⟩,rfl⟩:=hu;obtain⟨_,⟨_,_,rfl⟩,rfl⟩:=hv;exact hab
  · exact stand _ _
theorem cw:∀ {l B:List Int},l.Nodup→(∀ x∈l,x∈B)→l.length≤B.length:=by
 intro l
 induction l with
 | nil=>intro B _ _;exact Nat.zero_le _
 | cons x r ih =>
  intro B nd h;have hx:=h x mCS;obtain⟨n1,n2⟩:=List.nodup_cons.mp nd;have:=ih (B:=B.erase x) n2 fun y hy=>(List.mem_erase_of_ne fun e=>n1 (by rw[← e];exact hy)).mpr (h y (mCM _ hy));rw[List.length_erase_of_mem hx] at this;have:0<B.length:=List.length_pos_of_mem hx;rw[List.length_cons];omega
def gz:Value→Int
  | .int x _=>x
  | _=>0
theorem kA (t:SetTable) (n:Nat):(t.orStandIn n).led=t.led∧(t.plain=false→(t.orStandIn n).plain=false):=by
 unfold SetTable.orStandIn;split
 · exact⟨rfl,id⟩
 · exact⟨rfl,fun _=>rfl⟩
theorem ox (t:SetTable) (es:Array (Int×Value)) (k:Int) (x:Value):(layNew t es k x).2.1.led=t.led∧(t.plain=false→(layNew t es k x).2.1.plain=false):=by
 unfold layNew;split
 · rename_i slot dm _
   exact kA (t.put slot).1 _
 · exact⟨rfl,fun _=>rfl⟩
theorem lU {m f v:Nat} {l p:Bool} {hs:Array Int} {t:SetTable} {od:Array Nat} (h:SetTable.laid m f v l p hs=some (t,od)):t.led=l∧t.plain=p:=by
 unfold SetTable.laid at h;cases e:SetTable.layClean m hs with
 | none=>rw[e] at h;cases h
 | some ow=>rw[e] at h;cases h;exact⟨rfl,rfl⟩
theorem kE (t:SetTable) (es:Array (Int×Value)) (k:Nat):(relayAll t es k).2.1.led=t.led∧(t.plain=false→(relayAll t es k).2.1.plain=false):=by
 unfold relayAll;cases e:t.relaid (es.map (·.1)) k with
 | none=>exact⟨rfl,fun _=>rfl⟩
 | some y =>
  obtain⟨t',od⟩:=y;obtain⟨a,b⟩:=lU (show SetTable.laid _ _ _ _ _ _=some (t',od) from e);dsimp only;split
  · exact⟨a,fun z=>b.trans z⟩
  · exact⟨rfl,fun _=>rfl⟩
structure cD (prog:Program) (w:World) (h:Heap) (a:Addr) (ss:List Int) (n:Nat) (o:Obj) (es:Array (Int×Value)) (ep:Nat) (t:SetTable):Prop where
  at_:h.get? a=some o
  ex:o.ExactSet
  dt:o.data=.set es ep t
  el:ElemsOf (ar prog w) es.toList
  sz:es.size<64
  ft:t.fits es.size=true
  ld:t.led=!(w.params.followText "set-order")
  pl:RI t
  st:∀ e∈es.toList,∃ x u,e.2=.int x u∧x∈ss
  nd:(es.toList.map fun e=>gz e.2).Nodup
  al:∀ x∈ss.take n,∃ e∈es.toList,gz e.2=x
section
variable {prog:Program} {w:World} {A:Around} {E:VSP} {s:Shared} {a:Addr} {ss B:List Int} {n:Nat} {o:Obj} {es:Array (Int×Value)} {ep:Nat} {t:SetTable}
theorem cD.of_same {h h':Heap} (S:cD prog w h a ss n o es ep t) (e:h'.get? a=some o):cD prog w h' a ss n o es ep t:=⟨e,S.ex,S.dt,S.el,S.sz,S.ft,S.ld,S.pl,S.st,S.nd,S.al⟩
theorem isK (x:Int) (u:Tok):(ar prog w).is (.inl x) (.int x u)=true:=by
 show (x==x)=true;simp
theorem cD.store {es':Array (Int×Value)} {t':SetTable} {m:Nat} {h:Heap} (S:cD prog w h a ss n o es ep t) (el:ElemsOf (ar prog w) es'.toList) (sz:es'.size<64) (ft:t'.fits es'.size=true) (ld:t'.led=t.led) (pl:RI t')
 (st:∀ e∈es'.toList,∃ x u,e.2=.int x u∧x∈ss) (nd:(es'.toList.map fun e=>gz e.2).Nodup) (al:∀ x∈ss.take m,∃ e∈es'.toList,gz e.2=x) :
 cD prog w (h.update a (Obj.putSet es' t')) a ss m {o with data:=.set es' (ep+1) t'} es' (ep+1) t':=by
 have hg:=Heap.get?_update_self (Obj.putSet es' t') S.at_ (by rw[putSet_of es' t' S.dt];rfl);rw[putSet_of es' t' S.dt] at hg;exact⟨hg,S.ex,rfl,el,sz,ft,ld.trans S.ld,pl,st,nd,al⟩
theorem cD.add {x:Int} {u:Tok} {Q:Bool→Shared→Prop} (S:cD prog w s.heap a ss n o es ep t) (hx':ss[n]?=some x) (hB:∀ x∈ss,x∈B) (hB6:B.length<64)
 (h:∀ (b:Bool) h' o' es' ep' t',Heap.SameBut a s.heap h'→cD prog w h' a ss (n+1) o' es' ep' t'→Q b {s with heap:=h'}) :
 wpAny (model prog w) A (setAddHashed a (.int x u) ((ar prog w).hash (.inl x))) Q E s:=by
 have hlt:es.size<scanBound:=Nat.lt_trans S.sz (by decide);have hx:=mGE hx';have htk:∀ y∈ss.take (n+1),y∈ss.take n∨y=x:=fun y hy=>by rw[tAO,hx'] at hy;rcases mAp.mp hy with z | z;exact .inl z;exact .inr (mSg.mp z)
 have hgw:∀ (b:Bool) {s1:Shared} {Q':Unit→Shared→Prop},Q' () s1→wpAny (model prog w) A (match b with | true=>rule "set.scan.the-table-gave-way" | false=>pure ()) Q' E s1 :=
  fun b s1 Q' z=>by cases b <;> first | exact wP z | exact wpAny_rule z
 unfold setAddHashed setAddHashedIn;refine wpAny_holding (wB (wpAny_setState_of S.at_ S.dt S.ft ?_));dsimp only;rw[byScan_of (knd:=ar prog w) (x:=.int x u) rfl hlt S.el];simp only[↓reduceIte];unfold setAddByScan;refine wB (wB (wpAny_rule (wB (wpAny_setScan_of (knd:=ar prog w) (k:=.inl x) (isK x u) S.at_ S.dt S.ft S.el ?_))));cases hr:List.findIdx? (fun e=>(ar prog w).is (.inl x) e.2) es.toList with
 | some j =>
  dsimp only;refine wP (wP ?_);obtain⟨hj1,hj2,_⟩:=List.findIdx?_eq_some_iff_getElem.mp hr;refine h false s.heap o es ep t (Heap.SameBut.refl a s.heap) ⟨S.at_,S.ex,S.dt,S.el,S.sz,S.ft,S.ld,S.pl,S.st,S.nd,fun y hy=>?_⟩
  rcases htk y hy with z | rfl
  · exact S.al y z
  · have hm:=List.getElem_mem hj1;obtain⟨y',v,ev,_⟩:=S.st _ hm;refine⟨_,hm,?_⟩;rw[ev] at hj2 ⊢;have q:(y'==y)=true:=hj2;exact eq_of_beq q
 | none =>
  dsimp only;have hnot:=List.findIdx?_eq_none_iff.mp hr;have pm:=layNew_perm t es ((ar prog w).hash (.inl x)) (.int x u);have ft1:=layNew_fits t es ((ar prog w).hash (.inl x)) (.int x u);have fl1:=(ox t es ((ar prog w).hash (.inl x)) (.int x u)).1;have fl2:=wH S.pl es ((ar prog w).hash (.inl x)) (.int x u);generalize layNew t es ((ar prog w).hash (.inl x)) (.int x u)=L at pm ft1 fl1 fl2 ⊢;obtain⟨es1,t1,dm,gv⟩:=L;dsimp only at pm ft1 fl1 fl2 ⊢;rw[Array.toList_push] at pm;have el1:ElemsOf (ar prog w) es1.toList:=(S.el.push (isK x u) rfl).perm pm;have st1:∀ e∈es1.toList,∃ y v,e.2=.int y v∧y∈ss:=fun e he=>by
   rcases mAp.mp (pm.mem_iff.mp he) with he | he
   · exact S.st e he
   · rw[mSg.mp he];exact⟨x,u,rfl,hx⟩
  have nd1:(es1.toList.map fun e=>gz e.2).Nodup:=by
   rw[(pm.map fun e=>gz e.2).nodup_iff,List.map_append,List.nodup_append];refine⟨S.nd,by simp,fun y hy z hz=>?_⟩;obtain⟨e,he,rfl⟩:=List.mem_map.mp hy;rw[List.mem_map] at hz;obtain⟨e2,he2,rfl⟩:=hz;rw[mSg.mp he2];intro q;obtain⟨y,v,ev,_⟩:=S.st e he;have hb:=hnot e he;rw[ev] at hb q;have q':y=x:=q;rw[q',isK x v] at hb;cases hb
  have al1:∀ y∈ss.take (n+1),∃ e∈es1.toList,gz e.2=y:=fun y hy=>by
   rcases htk y hy with z | rfl
   · obtain⟨e,he,q⟩:=S.al y z;exact⟨e,pm.mem_iff.mpr (List.mem_append_left _ he),q⟩
   · exact⟨_,pm.mem_iff.mpr (List.mem_append_right _ (mSg.mpr rfl)),rfl⟩
  have z1:es1.size<64:=by
   have:=cw nd1 fun y hy=>by
    obtain⟨e,he,rfl⟩:=List.mem_map.mp hy;obtain⟨y,v,ev,hy'⟩:=st1 e he;rw[ev];exact hB y hy'
   rw[lMp,Array.length_toList] at this;omega
  have hl1:es1.size<scanBound:=Nat.lt_trans z1 (by decide);have fin:∀ (t2:SetTable) {Q2:Option Bool→Shared→Prop},t2.fits es1.size=true→t2.led=t.led→RI t2→(∀ h' o' es' ep' t',Heap.SameBut a s.heap h'→cD prog w h' a ss (n+1) o' es' ep' t'→Q2 (some true) {s with heap:=h'}) →
   wpAny (model prog w) A (do
     storeSet a es1 t2
     if (!dm&&t2.tooFull)=true then do
       (match (relayAll t2 es1 (SetTable.grown es1.size)).2.2 with | true=>rule "set.scan.the-table-gave-way" | false=>pure ())
       storeSet a (relayAll t2 es1 (SetTable.grown es1.size)).1 (relayAll t2 es1 (SetTable.grown es1.size)).2.1
       pure (some true)
     else pure (some true)) Q2 E s:=by
   intro t2 Q2 f2 l2 p2 k2;have S1:=S.store el1 z1 f2 l2 p2 st1 nd1 al1;refine wB (wpAny_storeSet_of S.at_ S.dt ?_ (fits_of_scanBound hl1));split
   · have pm2:=relayAll_perm t2 es1 (SetTable.grown es1.size);have ft2:=relayAll_fits t2 es1 (SetTable.grown es1.size);have g1:=(kE t2 es1 (SetTable.grown es1.size)).1;have g2:=qh p2 es1 (SetTable.grown es1.size);generalize relayAll t2 es1 (SetTable.grown es1.size)=R at pm2 ft2 g1 g2 ⊢;obtain⟨es2,t3,gv2⟩:=R;dsimp only at pm2 ft2 g1 g2 ⊢;have z2:es2.size<64:=by rw[← Array.length_toList,pm2.length_eq,Array.length_toList];exact z1
     refine wB (hgw _ (wB (wpAny_storeSet_of S1.at_ rfl (wP ?_) (fits_of_scanBound (Nat.lt_trans z2 (by decide))))));exact k2 _ _ _ _ _ ((Heap.SameBut.update s.heap a _).trans (Heap.SameBut.update _ a _)) (S1.store (el1.perm pm2) z2 ft2 g1 g2 (fun e he=>st1 e (pm2.mem_iff.mp he)) ((pm2.map fun e=>gz e.2).nodup_iff.mpr nd1) fun y hy=>by obtain⟨e,he,q⟩:=al1 y hy;exact⟨e,pm2.mem_iff.mpr he,q⟩)
   · exact wP (k2 _ _ _ _ _ (Heap.SameBut.update s.heap a _) S1)
  refine wB (hgw _ ?_);by_cases hp:t1.plain=true
  · rw[if_pos hp,hashByValue_scannable 8 (show (Value.int x u).scannable=true from rfl)];refine wB (wP ?_);exact fin t1 ft1 fl1 fl2 fun h' o' es' ep' t' sb S'=>wP (h true h' o' es' ep' t' sb S')
  · rw[if_neg hp];refine wB (wP ?_);exact fin t1 ft1 fl1 fl2 fun h' o' es' ep' t' sb S'=>wP (h true h' o' es' ep' t' sb S')
end
section
variable {prog:Program} {w:World} {A:Around} {R:Result→Shared→Prop} {I:Addr} {fp wr:List Addr} {G:Array GenState→Array GenState→Prop} {n:Nat} {P:Nat→Value→Prop} {St:Nat→Shared→Prop} {ss B:List Int}
theorem qd (W:WalksS prog w A.in1 I fp wr G n P St) (S:Addr) (hSf:S∉fp) (hv:∀ i v,P i v→∃ x u,v=Value.int x u∧ss[i]?=some x) (hB:∀ x∈ss,x∈B) (hB6:B.length<64) :
 ∀ (k i:Nat) (s:Shared) (o:Obj) (es:Array (Int×Value)) (ep:Nat) (t:SetTable),n-i=k→i≤n→St i s→cD prog w s.heap S ss i o es ep t →
  (∀ s' o' es' ep' t',Moved (S::wr) G s s'→cD prog w s'.heap S ss n o' es' ep' t'→R (.ok (.ret .none)) s') →
  codeAny (model prog w) A (.builtin "set.update.loop" ⟨[.ref S,.ref I],[]⟩) R s:=by
 have nw:S∉wr:=fun z=>hSf (W.sub _ z);have sub:∀ b∈wr,b∈S::wr:=fun b z=>mCM _ z;intro k
 induction k with
 | zero =>
  intro i s o es ep t hk hi st SS hR;obtain rfl:i=n:=by omega
  refine codeAny_builtin PyProof.Rows.F.entry_set_update_loop (by rw[Around.under_plainId PyProof.Rows.F.plain_set_update_loop _];show wpAny _ A.in1 (pyNext (.ref I)>>=_) _ _ s;refine wB (W.done s _ _ st fun s' hm=>?_);show wpAny _ A.in1 (ret Value.none) _ _ s';exact wP (hR s' _ _ _ _ (hm.mono sub) (SS.of_same (hm.heap S _ nw SS.at_))))
 | succ k ih =>
  intro i s o es ep t hk hi st SS hR;have lt:i<n:=by omega
  refine codeAny_builtin PyProof.Rows.F.entry_set_update_loop ?_;rw[Around.under_plainId PyProof.Rows.F.plain_set_update_loop _];show wpAny _ A.in1 (pyNext (.ref I)>>=_) _ _ s;refine wB (W.item i s _ _ lt st fun v s1 pv st1 hm=>?_);obtain⟨x,u,rfl,hx⟩:=hv i v pv;have S1:=SS.of_same (hm.heap S _ nw SS.at_);show wpAny _ A.in1 (holding [Value.int x u] (setAdd S (.int x u))>>=_) _ _ s1;refine wB (wpAny_holding (by
    unfold setAdd;refine wpAny_holding (wB ((ar prog w).pyHash (k:=.inl x) (isK x u) ?_));refine cD.add (s:={s1 with toks:=s1.toks+1}) S1 hx hB hB6 fun b h' o' es' ep' t' sb S2=>?_;refine wP ⟨plainId_quiet PyProof.Rows.F.plain_set_update_loop _,ih (i+1) _ o' es' ep' t' (by omega) lt (W.frame _ s1 _ _ st1 (Nat.le_succ _) fun c hc q e=>?_) S2 fun s3 o3 es3 ep3 t3 hm3 S3=>?_⟩
    · rw[sb.2 c fun z=>hSf (by rw[← z];exact hc)];exact e
    · refine hR s3 o3 es3 ep3 t3 (Moved.trans W.gtrans ((hm.mono sub).then_heap (Nat.le_succ _) fun c q hc e=>?_) hm3) S3;rw[sb.2 c fun z=>hc (by rw[z];exact mCS)];exact e))
end
section
variable {prog:Program} {w:World} {A:Around} {E:VSP} {s:Shared}
abbrev cX (w:World):Obj:={cls:=.type "set",dict:=none,data:=.set #[] 0 (.fresh 0 0 (!(w.params.followText "set-order")))}
theorem sH (a:Value) {Q:VSP} (h:Q (.ref s.heap.objs.size) {s with heap:=s.heap.push (cX w)}) :
 codeAny (model prog w) A (.call (.builtin "set.__new__") ⟨[.type "set",a],[]⟩) (wants Q E) s:=by
 refine codeAny_of_tree (by
   show wpAny _ A.in1 (do checkBuiltinCall "set.__new__" ⟨[.type "set",a],[]⟩;again (.builtin "set.__new__" ⟨[.type "set",a],[]⟩)) _ _ s;refine wB (wpAny_of_eq (PySem.F.newCall_set_1 a) (wP ⟨plainId_quiet PySem.F.plain_set_new _,codeAny_builtin PySem.F.entry_set_new ?_⟩));rw[Around.under_plainId PySem.F.plain_set_new _];unfold Builtin.«set.__new__» Builtin.Frozenset.newClass;have hsub:=sub_set_self;obtain⟨hp,g,d,tk,os⟩:=s;dsimp only
   wp_walk
   refine wpAny_askSetting (wP ?_);dsimp only;simp only[newObj];exact wB (wpAny_alloc (wP (wP h))))
end
section
variable {prog:Program} {w:World} {A:Around} {E:VSP} {s:Shared}
theorem qe {l:Addr} {its:Array Value} {ss B:List Int} {Q:VSP} (hh:A.handled=none) (hl:s.heap.IsList l its) (hv:∀ (i:Nat) (v:Value),its[i]?=some v→∃ x u,v=Value.int x u∧ss[i]?=some x) (hB:∀ x∈ss,x∈B) (hB6:B.length<64)
 (h:∀ h' tk o es ep t,cD prog w h' s.heap.objs.size ss its.size o es ep t→(∀ b q,s.heap.get? b=some q→h'.get? b=some q)→Q (.ref s.heap.objs.size) {s with heap:=h',toks:=tk}) :
 wpAny (model prog w) A (call (.type "set") [.ref l]) Q E s:=by
 obtain⟨c,tl,hmro⟩:=PySem.F.called_set.mro;have hmade:=PySem.F.called_set.made;have hsub:=PySem.F.called_set.sub;refine wpAny_call (codeAny_of_tree (by
   show wpAny _ _ (callAny (.type "set") _) _ _ _;refine wP ⟨Code.quiet_builtin _ (by decide +kernel),codeAny_builtin PySem.F.entry_type_call ?_⟩;rw[Around.under_plain (weight_type_call_type "set" [.ref l] []) rfl];have h1:=PySem.F.called_set.notType;have h2:=PySem.F.called_set.canCreate;have hct:=PySem.F.typeCall_set_1 (.ref l)
   repeat (any_goals (first | assumption | wp_step))
   refine codeAny_mono (sH (.ref l) (E:=E) (Q:=fun obj s1=>obj=.ref s.heap.objs.size∧s1={s with heap:=s.heap.push (cX w)}) ⟨rfl,rfl⟩) fun r s1 hr=>?_;cases r with
   | error e=>exact hr
   | ok fl =>
     cases fl with
     | ret obj =>
       obtain⟨rfl,rfl⟩:=hr;have hS:(s.heap.push (cX w)).get? s.heap.objs.size=some (cX w):=Heap.get?_push_size _ rfl;have hT:Shared.TypeIs {s with heap:=s.heap.push (cX w)} (.ref s.heap.objs.size) "set":=⟨_,hS,rfl⟩;have hli:=PySem.F.called_set.init.lookup;have hbi:=PySem.F.called_set.init.bind (.ref s.heap.objs.size)
       repeat (any_goals (first | assumption | wp_step))
       refine codeAny_mono (codeAny_call_builtin (R:=wants (fun r s2=>r=.none∧∃ h' tk o es ep t,s2={s with heap:=h',toks:=tk}∧cD prog w h' s.heap.objs.size ss its.size o es ep t∧∀ b q,s.heap.get? b=some q→h'.get? b=some q) E) PySem.F.called_set.init.plain PySem.F.entry_set_init (check_set_init_1 hT ?_)) fun r2 s2 hr2=>?_
       · obtain⟨ol,hol,hcl,nl,hdl⟩:=hl;obtain⟨ocls,odict,odata,oslots⟩:=ol;dsimp only at hcl hdl;subst hcl hdl;have hol1:(s.heap.push (cX w)).get? l=some {cls:=.type "list",dict:=odict,data:=.seq its nl,slots:=oslots}:=hpS _ hol;have hsls:=PySem.F.sub_list_set;have hslf:=PySem.F.sub_list_frozenset;have hne:(Value.type "list"==Value.type "dict")=false:=by decide
         have hl1:(s.heap.push (cX w)).IsList l its:=⟨_,hol1,rfl,nl,rfl⟩;unfold Builtin.«set.__init__» noKeywords Builtin.Frozenset.updateFrom;generalize hPI:pyIter=PI
         wp_walk
         subst hPI;refine wpAny_pyIter_list hl1 (wB (wpAny_runValue ?_));have lS:l<s.heap.objs.size:=Heap.lt_size hol;have hh3:A.in1.in1.in1.handled=none:=by simp[hh]
         have nI:l≠(s.heap.push (cX w)).objs.size:=by rw[Heap.size_push];exact Nat.ne_of_lt (Nat.lt_succ_of_lt lS)
         have nS:s.heap.objs.size∉[(s.heap.push (cX w)).objs.size,l]:=by
           rw[Heap.size_push];intro z;simp only[List.mem_cons,nMN,or_false] at z
           rcases z with z | z
           · exact Nat.ne_of_lt (Nat.lt_succ_self _) z
           · exact Nat.ne_of_gt lS z
         have hget:((s.heap.push (cX w)).push {cls:=.type "list_iterator",data:=.fields #[.ref l,.int 0 0]}).get? s.heap.objs.size=some (cX w):=hpS _ hS;refine qd ((Walks.list hh3 _ l nI its).toS) s.heap.objs.size nS hv hB hB6 (its.size-0) 0 _ (cX w) #[] 0 _ (by omega) (Nat.zero_le _) ⟨⟨_,Heap.get?_push_size _ rfl,rfl,rfl⟩,hl1.push _⟩
           ⟨hget,⟨rfl,rfl,rfl⟩,rfl,fun e he=>by simp at he,by show 0<64;decide,rfl,rfl,⟨fun i j _ z=>absurd z (Nat.not_lt_zero _),rfl⟩,fun e he=>by simp at he,by simp,fun x hx=>by simp at hx⟩ fun s3 o es ep t hm S3=>?_
         obtain⟨h3,g3,d3,tk3,os3⟩:=s3;obtain rfl:g3=s.gens:=hm.gens;obtain rfl:d3=s.drawn:=hm.drawn;obtain rfl:os3=s.os:=hm.os;show wpAny _ _ _ _ _ _;refine wP (by
           show wpAny _ _ (ret Value.none) _ _ _;refine wP ⟨rfl,h3,tk3,o,es,ep,t,rfl,S3,fun b q e=>?_⟩;have lb:=Heap.lt_size e;refine hm.heap b q (fun z=>?_) (hpS _ (hpS _ e));rw[Heap.size_push] at z;simp only[List.mem_cons,nMN,or_false] at z
           rcases z with z | z
           · exact Nat.ne_of_lt lb z
           · exact Nat.ne_of_lt (Nat.lt_succ_of_lt lb) z)
       · cases r2 with
         | error e=>exact hr2
         | ok fl2 =>
           cases fl2 with
           | ret r =>
             obtain⟨rfl,h',tk,o,es,ep,t,rfl,S',k'⟩:=hr2
             repeat (any_goals (first | assumption | wp_step))
             exact h _ _ _ _ _ _ S' k'
           | next=>cases hr2
           | brk=>cases hr2
           | cont=>cases hr2
     | next=>cases hr
     | brk=>cases hr
     | cont=>cases hr))
end
theorem aP:Slot "set_iterator" "__next__" "set_iterator.__next__":=Slot.of (owner:="set_iterator") (n:="__next__") (by rw[typeLookup_type,builtinLookup_eq_fast];kernel_rfl) (by decide +kernel) (by decide +kernel) (by decide +kernel) (by first | exact .inl (by decide +kernel) | exact .inr (by decide +kernel)) (by rw[isSubtype_type];kernel_rfl)
theorem fG:Slot "set_iterator" "__iter__" "set_iterator.__iter__":=Slot.of (owner:="set_iterator") (n:="__iter__") (by rw[typeLookup_type,builtinLookup_eq_fast];kernel_rfl) (by decide +kernel) (by decide +kernel) (by decide +kernel) (by first | exact .inl (by decide +kernel) | exact .inr (by decide +kernel)) (by rw[isSubtype_type];kernel_rfl)
theorem bZ:entryFor table "set_iterator.__next__"=some Builtin.«set_iterator.__next__»:=entryFor_of_fast (by kernel_rfl)
theorem j5:entryFor table "set_iterator.__iter__"=some Builtin.«dict_keyiterator.__iter__»:=entryFor_alias (id':="dict_keyiterator.__iter__") (by kernel_rfl) rfl (by decide +kernel) (by kernel_rfl)
theorem cC (a:Value):argsOk "set_iterator.__next__" ⟨[a],[]⟩:=by unfold argsOk;kernel_rfl
theorem jY (a:Value):argsOk "set_iterator.__iter__" ⟨[a],[]⟩:=by unfold argsOk;kernel_rfl
theorem f8:entryFor table "set.__iter__"=some Builtin.«frozenset.__iter__»:=entryFor_alias (id':="frozenset.__iter__") (by kernel_rfl) rfl (by decide +kernel) (by kernel_rfl)
theorem jR {α:Type}:∀ (l:List α) (i:Nat) (h:i<l.length),(l[i]::l.eraseIdx i).Perm l
 | [],i,h=>by cases h
 | x::r,0,_=>List.Perm.refl _
 | x::r,i+1,h=>by
  rw[List.eraseIdx_cons_succ,List.getElem_cons_succ];exact (List.Perm.swap _ _ _).trans (List.Perm.cons _ (jR r i (Nat.lt_of_succ_lt_succ h)))
theorem mW {α:Type} (nx:Nat→Nat):∀ (f k:Nat) (l:List α) (o:Array α),f=l.length→(pickOrder.go nx f k l o).toList.Perm (o.toList++l)
 | 0,k,l,o,h=>by
  cases List.eq_nil_of_length_eq_zero h.symm;rw[pickOrder.go,List.append_nil]
 | f+1,k,l,o,h=>by
  have hp:0<l.length:=by omega
  have hi:nx k % l.length<l.length:=Nat.mod_lt _ hp;rw[pickOrder.go,gEE hi];dsimp only;refine (mW nx f (k+1) (l.eraseIdx (nx k % l.length)) (o.push l[nx k % l.length]) (by rw[List.length_eraseIdx_of_lt hi];omega)).trans ?_;rw[Array.toList_push,List.append_assoc];refine List.Perm.append_left _ ?_;exact jR _ _ hi
theorem gm {α:Type} (nx:Nat→Nat) (xs:Array α):(pickOrder nx xs).toList.Perm xs.toList:=mW nx xs.size 0 xs.toList #[] (by simp)
section
variable {prog:Program} {w:World} {A:Around} {E:VSP}
theorem rV {src:Source} {n:Nat} {s:Shared} {Q:Nat→Shared→Prop} (hn:n≠0) (h:∀ i d,i<n→Q i {s with drawn:=d}):wpAny (model prog w) A (choose src n) Q E s:=fun Γ p hΓ=>by
 show Sem.wp _ _ (Sem.choose src n .pure) _ _ _ _;rw[Sem.wp_choose];exact⟨hn,h _ _ (Nat.mod_lt _ (Nat.pos_of_ne_zero hn))⟩
theorem kh {α:Type}:∀ (n:Nat) (xs:List α) (s:Shared) (Q:List α→Shared→Prop),n=xs.length→(∀ ys d,ys.Perm xs→Q ys {s with drawn:=d})→wpAny (model prog w) A (drawOrder n xs) Q E s
 | 0,xs,s,Q,h,k=>by
  cases List.eq_nil_of_length_eq_zero h.symm;exact wP (k [] s.drawn (List.Perm.refl _))
 | n+1,xs,s,Q,h,k=>by
  cases xs with
  | nil=>cases h
  | cons x r =>
   rw[drawOrder];refine wB (rV (by simp) fun i d hi=>?_);rw[gEE hi];dsimp only;refine wB (kh n _ _ _ (by rw[List.length_eraseIdx_of_lt hi];simpa using h) fun ys d2 hp=>wP (k _ d2 ?_));exact (List.Perm.cons _ hp).trans (jR _ _ hi)
   · intro z;cases z
end
def f9 (h:Heap) (I a:Addr) (first:Value) (i n ep:Nat):Prop:=h.get? I=some {cls:=.type "set_iterator",data:=.fields #[first,rawInt (i:Int),.ref a,rawInt (n:Int),rawInt (ep:Int)]}
section
variable {prog:Program} {w:World} {A:Around} {E:VSP} {s:Shared} {I a:Addr} {o:Obj} {es:Array (Int×Value)} {ep i:Nat} {t:SetTable}
theorem kK {slot nx:Nat} {v:Value} {Q:Option Value→Shared→Prop} (it:f9 s.heap I a (rawInt (slot:Int)) i es.size ep) (ho:s.heap.get? a=some o) (hd:o.data=.set es ep t) (hf:t.fits es.size=true)
 (hN:∀ (A:Around) (E:VSP) (Q:Option (Value×Nat)→Shared→Prop),Q (some (v,nx)) s→wpAny (model prog w) A (setNext a slot i ep) Q E s)
 (h:∀ h',f9 h' I a (rawInt (nx:Int)) (i+1) es.size ep→Heap.SameBut I s.heap h'→Q (some v) {s with heap:=h'}):wpAny (model prog w) A (pyNext (.ref I)) Q E s:=by
 have ty:s.TypeIs (.ref I) "set_iterator":=⟨_,it,rfl⟩;unfold pyNext;refine wB (wpAny_attempt (wpAny_callSpecial?_slot (name:=Str.ofString "__next__") ty aP (wpAny_call_entry aP ty bZ ?_ (cC _))));unfold Builtin.«set_iterator.__next__»;refine wB (wP ?_);refine wB (wpAny_fieldsOf it rfl ?_);dsimp only[rawInt];refine wB (wpAny_setEntries_of ho hd hf ?_);rw[if_neg (by simp)];simp only[Int.toNat_natCast];refine wB (hN _ _ _ ?_);dsimp only;refine wB (wpAny_setField_rec it (by simp) fun h1 g1 sb1=>?_);refine wB (wpAny_setField_rec g1 (by simp) fun h2 g2 sb2=>?_);refine wP ⟨v,rfl,wP (h h2 ?_ (sb1.trans sb2))⟩;exact g2
theorem jb {Q:Fin→Shared→Prop} (hh:A.handled=none) (hE:∀ h' e,Heap.ExtBut I s.heap h'→(∃ o,h'.get? e=some o∧o.cls=.type "StopIteration")→E (.ref e) {s with heap:=h'}) :
 wpAny (model prog w) A (do let x ← newExc (.type "StopIteration") [];raiseNew x) Q E s:=by
 refine wB ?_;simp only[newExc,newTuple];refine wB (wpAny_newObj_type ?_ (by size_fits));refine wB (m:=firstArgMember _ _) (wpAny_of_eq (a:=Value.none) (by first | rfl | (simp only[firstArgMember];rfl)) (wpAny_newObj_type ?_ (by size_fits)));simp only[raiseNew];refine wB (wpAny_handled (by rw[hh];exact wB (wP (wpAny_throw (hE _ _ ((Heap.ExtBut.refl I s.heap).push _ |>.push _) ⟨_,Heap.get?_push_size _ rfl,rfl⟩)))))
theorem fI {slot:Nat} {Q:Option Value→Shared→Prop} (hh:A.handled=none) (it:f9 s.heap I a (rawInt (slot:Int)) i es.size ep) (ho:s.heap.get? a=some o) (hd:o.data=.set es ep t) (hf:t.fits es.size=true)
 (hN:∀ (A:Around) (E:VSP) (Q:Option (Value×Nat)→Shared→Prop),Q none s→wpAny (model prog w) A (setNext a slot i ep) Q E s)
 (h:∀ h',Heap.ExtBut I s.heap h'→Q none {s with heap:=h'}):wpAny (model prog w) A (pyNext (.ref I)) Q E s:=by
 have ty:s.TypeIs (.ref I) "set_iterator":=⟨_,it,rfl⟩;unfold pyNext;refine wB (wpAny_attempt (wpAny_callSpecial?_slot (name:=Str.ofString "__next__") ty aP (wpAny_call_entry aP ty bZ ?_ (cC _))));unfold Builtin.«set_iterator.__next__»;refine wB (wP (wB (wpAny_fieldsOf it rfl ?_)));dsimp only[rawInt];refine wB (wpAny_setEntries_of ho hd hf ?_);rw[if_neg (by simp)];simp only[Int.toNat_natCast];refine wB (hN _ _ _ ?_);dsimp only;refine wB (wpAny_setField_rec it (by simp) fun h1 g1 sb1=>?_);refine jb (I:=I) (s:={s with heap:=h1}) hh fun h' e ext he=>?_;obtain⟨q,hq,hc⟩:=he;exact wB (wpAny_isInstance (T:="StopIteration") (b:=true) ⟨q,hq,hc⟩ isSubtype_stop (wP (h _ (sb1.extBut.trans ext))))
theorem qM {TP:Addr} {ps:Array Value} {m pl:Nat} {k:Int} {v:Value} {Q:Option Value→Shared→Prop} {otp:Obj} (it:f9 s.heap I a (.ref TP) i es.size ep) (ho:s.heap.get? a=some o) (hd:o.data=.set es ep t) (hf:t.fits es.size=true)
 (hT:s.heap.get? TP=some otp) (hTd:otp.data=.seq ps m) (hp:ps[i]?=some (rawInt (pl:Int))) (hv:es[pl]?=some (k,v))
 (h:∀ h',f9 h' I a (.ref TP) (i+1) es.size ep→Heap.SameBut I s.heap h'→Q (some v) {s with heap:=h'}):wpAny (model prog w) A (pyNext (.ref I)) Q E s:=by
 have ty:s.TypeIs (.ref I) "set_iterator":=⟨_,it,rfl⟩;unfold pyNext;refine wB (wpAny_attempt (wpAny_callSpecial?_slot (name:=Str.ofString "__next__") ty aP (wpAny_call_entry aP ty bZ ?_ (cC _))));unfold Builtin.«set_iterator.__next__»;refine wB (wP (wB (wpAny_fieldsOf it rfl ?_)));dsimp only[rawInt];refine wB (wpAny_setEntries_of ho hd hf ?_);rw[if_neg (by simp)];simp only[Int.toNat_natCast];refine wB (wpAny_seqItems hT hTd ?_);dsimp only;rw[hp];dsimp only[rawInt];simp only[Int.toNat_natCast];unfold setNextDrawn;refine wB (wB (wpAny_setState_of ho hd hf ?_));dsimp only;rw[if_neg (by simp),hv];refine wP ?_;refine wB (wpAny_setField_rec it (by simp) fun h1 g1 sb1=>wP ⟨v,rfl,wP (h h1 g1 sb1)⟩)
theorem jG {TP:Addr} {ps:Array Value} {m:Nat} {Q:Option Value→Shared→Prop} {otp:Obj} (hh:A.handled=none) (it:f9 s.heap I a (.ref TP) i es.size ep) (ho:s.heap.get? a=some o) (hd:o.data=.set es ep t) (hf:t.fits es.size=true)
 (hT:s.heap.get? TP=some otp) (hTd:otp.data=.seq ps m) (hp:ps[i]?=none) (h:∀ h',Heap.ExtBut I s.heap h'→Q none {s with heap:=h'}):wpAny (model prog w) A (pyNext (.ref I)) Q E s:=by
 have ty:s.TypeIs (.ref I) "set_iterator":=⟨_,it,rfl⟩;unfold pyNext;refine wB (wpAny_attempt (wpAny_callSpecial?_slot (name:=Str.ofString "__next__") ty aP (wpAny_call_entry aP ty bZ ?_ (cC _))));unfold Builtin.«set_iterator.__next__»;refine wB (wP (wB (wpAny_fieldsOf it rfl ?_)));dsimp only[rawInt];refine wB (wpAny_setEntries_of ho hd hf ?_);rw[if_neg (by simp)];simp only[Int.toNat_natCast];refine wB (wpAny_seqItems hT hTd ?_);dsimp only;rw[hp];dsimp only;refine wB (wpAny_setField_rec it (by simp) fun h1 g1 sb1=>?_);refine wB (wpAny_setField_rec g1 (by simp) fun h2 g2 sb2=>?_);refine jb (I:=I) (s:={s with heap:=h2}) hh fun h' e ext he=>?_;obtain⟨q,hq,hc⟩:=he;exact wB (wpAny_isInstance (T:="StopIteration") (b:=true) ⟨q,hq,hc⟩ isSubtype_stop (wP (h _ ((sb1.trans sb2).extBut.trans ext))))
end
section
variable {prog:Program} {w:World} {A:Around} {E:VSP} {s:Shared} {I a:Addr} {o:Obj} {es:Array (Int×Value)} {ep i:Nat} {t:SetTable}
theorem eD {Q:Bool→Shared→Prop} (h:Q (w.params.followText "set-order") s):wpAny (model prog w) A setsByText Q E s:=by
 unfold setsByText;exact wB (wpAny_askSetting (wP h))
theorem mO {slot:Nat} {Q:Option (Value×Nat)→Shared→Prop} (hb:w.params.followText "set-order"=true) (ho:s.heap.get? a=some o) (hd:o.data=.set es ep t) (hf:t.fits es.size=true)
 (h:Q (((pickOrder (w.params.setOrder a ep) es)[i]?).map fun e=>(e.2,slot)) s):wpAny (model prog w) A (setNext a slot i ep) Q E s:=by
 unfold setNext;refine wB (wpAny_setState_of ho hd hf ?_);dsimp only;refine wB (eD ?_);rw[hb];simp only[if_true];rw[if_neg (by simp)];unfold setWalk;refine wB (wB (wpAny_setState_of ho hd hf ?_));dsimp only;refine wB (eD ?_);rw[hb];simp only[if_true];exact wB (wpAny_askSetting (wP (wP h)))
theorem pY {slot:Nat} {Q:Option (Value×Nat)→Shared→Prop} (hb:w.params.followText "set-order"=false) (hl:t.led=true) (hp:(!t.plain&&decide (es.size>1))=false) (ho:s.heap.get? a=some o) (hd:o.data=.set es ep t) (hf:t.fits es.size=true)
 (h:Q (match es[SetTable.below t.place slot]?,t.place[SetTable.below t.place slot]? with | some (_,x),some j=>some (x,j+1) | _,_=>none) s):wpAny (model prog w) A (setNext a slot i ep) Q E s:=by
 unfold setNext;refine wB (wpAny_setState_of ho hd hf ?_);dsimp only;refine wB (eD ?_);rw[hb];simp only[Bool.false_eq_true,if_false];show wpAny _ _ (if (!t.plain&&decide (es.size>1))=true then _ else _) _ _ _;rw[if_neg (by rw[hp];exact Bool.false_ne_true)];refine wB ?_;show wpAny _ _ (if (!t.led&&!es.isEmpty)=true then _ else _) _ _ _;rw[if_neg (by rw[hl];simp)];exact wP (wP h)
end
section
variable {prog:Program} {w:World} {A:Around} {E:VSP} {s:Shared} {I a:Addr} {o:Obj} {es:Array (Int×Value)} {ep i:Nat} {t:SetTable}
theorem kn {Q:Bool→Shared→Prop} (ho:s.heap.get? a=some o) (hd:o.data=.set es ep t) (hf:t.fits es.size=true) (h:Q (!w.params.followText "set-order"&&(!t.plain&&decide (es.size>1))) s):wpAny (model prog w) A (setDrawn a) Q E s:=by
 unfold setDrawn;refine wB (wpAny_setState_of ho hd hf ?_);dsimp only;exact wB (eD (wP h))
abbrev itO (first:Value) (a:Addr) (n ep:Nat):Obj:={cls:=.type "set_iterator",data:=.fields #[first,rawInt 0,.ref a,rawInt (n:Int),rawInt (ep:Int)]}
theorem qW {Q:VSP} (ho:s.heap.get? a=some o) (hx:o.ExactSet) (hd:o.data=.set es ep t) (hf:t.fits es.size=true) (hn:(!w.params.followText "set-order"&&(!t.plain&&decide (es.size>1)))=false)
 (h:Q (.ref s.heap.objs.size) {s with heap:=s.heap.push (itO (rawInt 0) a es.size ep)}):wpAny (model prog w) A (pyIter (.ref a)) Q E s:=by
 have ty:s.TypeIs (.ref a) "set":=⟨_,ho,hx.1⟩;refine wpAny_pyIter_slot ty PySem.F.slot_set_iter (wpAny_call_entry PySem.F.slot_set_iter ty f8 ?_ (PySem.F.args_set_iter_1 _));unfold Builtin.«frozenset.__iter__»;refine wB (wP (wB ?_));unfold Builtin.Frozenset.sizeOf;refine wB (wpAny_setEntries_of ho hd hf (wP ?_));refine wB (kn ho hd hf ?_);rw[hn];simp only[Bool.false_eq_true,if_false];refine wB (wP (wB (wpAny_setEpoch_of ho hd hf (wB (wpAny_newObj_type (wP ⟨_,rfl,"set_iterator",_,⟨_,Heap.get?_push_size _ rfl,rfl⟩,aP.lookup,h⟩))))))
abbrev plO (ys:List Nat):Obj:={cls:=.type "tuple",data:=.seq (ys.map fun (i:Nat)=>rawInt (i:Int)).toArray}
theorem qV {Q:VSP} (ho:s.heap.get? a=some o) (hx:o.ExactSet) (hd:o.data=.set es ep t) (hf:t.fits es.size=true) (hz:es.size<scanBound) (hn:(!w.params.followText "set-order"&&(!t.plain&&decide (es.size>1)))=true)
 (h:∀ ys d,ys.Perm (List.range es.size)→Q (.ref (s.heap.objs.size+1)) {s with heap:=(s.heap.push (plO ys)).push (itO (.ref s.heap.objs.size) a es.size ep),drawn:=d}):wpAny (model prog w) A (pyIter (.ref a)) Q E s:=by
 have ty:s.TypeIs (.ref a) "set":=⟨_,ho,hx.1⟩;refine wpAny_pyIter_slot ty PySem.F.slot_set_iter (wpAny_call_entry PySem.F.slot_set_iter ty f8 ?_ (PySem.F.args_set_iter_1 _));unfold Builtin.«frozenset.__iter__»;refine wB (wP (wB ?_));unfold Builtin.Frozenset.sizeOf;refine wB (wpAny_setEntries_of ho hd hf (wP ?_));refine wB (kn ho hd hf ?_);rw[hn];simp only[if_true];refine wB (kh es.size _ _ _ (by simp) fun ys d hp=>?_);have hl:(ys.map fun (i:Nat)=>rawInt (i:Int)).length≤sizeLine:=by
  rw[lMp,hp.length_eq,List.length_range];exact fits_of_scanBound hz
 refine wB (wpAny_newTuple ?_ hl);refine wB (wpAny_setEpoch_of (s:={s with heap:=s.heap.push (plO ys),drawn:=d}) (hpS _ ho) hd hf (wB (wpAny_newObj_type (wP ⟨_,rfl,"set_iterator",_,⟨_,Heap.get?_push_size _ rfl,rfl⟩,aP.lookup,?_⟩))));have e:(s.heap.push (plO ys)).objs.size=s.heap.objs.size+1:=Heap.size_push ..;show Q (.ref (s.heap.push (plO ys)).objs.size) _;rw[e];exact h ys d hp
end
theorem jx {prog:Program} {w:World} {A:Around} {E:VSP} {s:Shared} {I a:Addr} {f:Value} {i n ep:Nat} {Q:VSP} (it:f9 s.heap I a f i n ep) (h:Q (.ref I) s):wpAny (model prog w) A (pyIter (.ref I)) Q E s:=by
 have ty:s.TypeIs (.ref I) "set_iterator":=⟨_,it,rfl⟩;refine wpAny_pyIter_slot ty fG (wpAny_call_entry fG ty j5 ?_ (jY _));show wpAny _ _ (ret (.ref I)) _ _ s;exact wP ⟨_,rfl,"set_iterator",_,ty,aP.lookup,h⟩
section
variable {prog:Program} {w:World} {A:Around} {I a:Addr} {o:Obj} {es:Array (Int×Value)} {ep:Nat} {t:SetTable}
theorem jI {s:Shared} {h':Heap} (sb:Heap.SameBut I s.heap h'):Moved [I] (fun x y=>y=x) s {s with heap:=h'}:=⟨fun b q hb e=>(sb.2 b fun z=>hb (by rw[z];exact mCS)).trans e,rfl,rfl,rfl,Nat.le_refl _⟩
theorem lO {s:Shared} {h':Heap} (x:Heap.ExtBut I s.heap h'):Moved [I] (fun x y=>y=x) s {s with heap:=h'}:=⟨fun b q hb e=>x b q (fun z=>hb (by rw[z];exact mCS)) e,rfl,rfl,rfl,Nat.le_refl _⟩
theorem nN (hh:A.handled=none) (ne:a≠I) (hd:o.data=.set es ep t) (hf:t.fits es.size=true) (hb:w.params.followText "set-order"=true) :
 WalksS prog w A I [I,a] [I] (fun x y=>y=x) es.size (fun i v=>∃ k,(pickOrder (w.params.setOrder a ep) es)[i]?=some (k,v)) (fun i s=>s.heap.get? a=some o∧f9 s.heap I a (rawInt ((0:Nat):Int)) i es.size ep) where
 sub:=fun b z=>by rw[mSg.mp z];exact mCS
 grefl:=fun _=>rfl
 gtrans:=fun _ _ _ x y=>y.trans x
 frame:=fun i s h' tk st _ k=>⟨k a (by simp) _ st.1,k I (by simp) _ st.2⟩
 item:=fun i s Q E hi st h=>by
  have hz:(pickOrder (w.params.setOrder a ep) es).size=es.size:=by rw[← Array.length_toList,(gm _ es).length_eq,Array.length_toList]
  have hlt:i<(pickOrder (w.params.setOrder a ep) es).size:=by omega
  have hg:(pickOrder (w.params.setOrder a ep) es)[i]?=some (((pickOrder (w.params.setOrder a ep) es)[i]).1,((pickOrder (w.params.setOrder a ep) es)[i]).2):=by rw[Array.getElem?_eq_getElem hlt]
  exact kK st.2 st.1 hd hf (fun A E Q q=>mO hb st.1 hd hf (by rw[hg];exact q)) fun h' it' sb=>h _ _ ⟨_,hg⟩ ⟨(sb.2 a ne).trans st.1,it'⟩ (jI sb)
 done:=fun s Q E st h=>by
  have hz:(pickOrder (w.params.setOrder a ep) es).size=es.size:=by rw[← Array.length_toList,(gm _ es).length_eq,Array.length_toList]
  have hg:(pickOrder (w.params.setOrder a ep) es)[es.size]?=none:=Array.getElem?_eq_none (by omega);exact fI hh st.2 st.1 hd hf (fun A E Q q=>mO hb st.1 hd hf (by rw[hg];exact q)) fun h' x=>h _ (lO x)
 self:=fun i s Q E st h=>jx st.2 h
theorem oZ (hh:A.handled=none) (ne:a≠I) (hd:o.data=.set es ep t) (hf:t.fits es.size=true) (hb:w.params.followText "set-order"=false) (hl:t.led=true) (hp:(!t.plain&&decide (es.size>1))=false) (R:RI t) :
 WalksS prog w A I [I,a] [I] (fun x y=>y=x) es.size (fun i v=>∃ k,es[i]?=some (k,v)) (fun i s=>s.heap.get? a=some o∧f9 s.heap I a (rawInt ((if i=0 then 0 else t.place.getD (i-1) 0+1:Nat):Int)) i es.size ep) where
 sub:=fun b z=>by rw[mSg.mp z];exact mCS
 grefl:=fun _=>rfl
 gtrans:=fun _ _ _ x y=>y.trans x
 frame:=fun i s h' tk st _ k=>⟨k a (by simp) _ st.1,k I (by simp) _ st.2⟩
 item:=fun i s Q E hi st h=>by
  have p1:=(by unfold SetTable.fits at hf;rw[Bool.and_eq_true,beq_iff_eq] at hf;exact hf.1:t.place.size=es.size);have eb:SetTable.below t.place (if i=0 then 0 else t.place.getD (i-1) 0+1)=i:=by
   cases i with
   | zero=>rw[if_pos rfl];exact iO R.1
   | succ i=>rw[if_neg (Nat.succ_ne_zero _)];exact iQ R.1 (by rw[p1];exact Nat.lt_of_succ_lt hi)
  have g1:es[i]?=some (es[i].1,es[i].2):=Array.getElem?_eq_getElem hi;have g2:t.place[i]?=some (t.place.getD i 0):=by rw[Array.getElem?_eq_getElem (by rw[p1];exact hi)];simp[Array.getD,p1,hi]
  refine kK (nx:=t.place.getD i 0+1) (v:=es[i].2) st.2 st.1 hd hf (fun A E Q q=>pY hb hl hp st.1 hd hf ?_) fun h' it' sb=>h _ _ ⟨_,g1⟩ ⟨(sb.2 a ne).trans st.1,?_⟩ (jI sb)
  · rw[eb,g1,g2];exact q
  · rw[if_neg (Nat.succ_ne_zero _),Nat.add_sub_cancel];exact it'
 done:=fun s Q E st h=>by
  refine fI hh st.2 st.1 hd hf (fun A E Q q=>pY hb hl hp st.1 hd hf ?_) fun h' x=>h _ (lO x);have p1:=(by unfold SetTable.fits at hf;rw[Bool.and_eq_true,beq_iff_eq] at hf;exact hf.1:t.place.size=es.size);have eb:SetTable.below t.place (if es.size=0 then 0 else t.place.getD (es.size-1) 0+1)=es.size:=by
   by_cases z:es.size=0
   · rw[if_pos z,z];exact iO R.1
   · rw[if_neg z];have:=iQ R.1 (i:=es.size-1) (by omega);omega
  rw[eb,Array.getElem?_eq_none (Nat.le_refl _)];exact q
 self:=fun i s Q E st h=>jx st.2 h
theorem lp {TP:Addr} {ys:List Nat} (hh:A.handled=none) (ne:a≠I) (nt:TP≠I) (hd:o.data=.set es ep t) (hf:t.fits es.size=true) (hp:ys.Perm (List.range es.size)) :
 WalksS prog w A I [I,a,TP] [I] (fun x y=>y=x) es.size (fun i v=>∃ p k,ys[i]?=some p∧es[p]?=some (k,v)) (fun i s=>s.heap.get? a=some o∧s.heap.get? TP=some (plO ys)∧f9 s.heap I a (.ref TP) i es.size ep) where
 sub:=fun b z=>by rw[mSg.mp z];exact mCS
 grefl:=fun _=>rfl
 gtrans:=fun _ _ _ x y=>y.trans x
 frame:=fun i s h' tk st _ k=>⟨k a (by simp) _ st.1,k TP (by simp) _ st.2.1,k I (by simp) _ st.2.2⟩
 item:=fun i s Q E hi st h=>by
  have hy:ys.length=es.size:=by rw[hp.length_eq,List.length_range]
  have hlt:i<ys.length:=by omega
  have hm:ys[i]<es.size:=List.mem_range.mp (hp.mem_iff.mp (List.getElem_mem hlt));have hv:es[ys[i]]?=some ((es[ys[i]]).1,(es[ys[i]]).2):=by rw[Array.getElem?_eq_getElem hm]
  refine qM st.2.2 st.1 hd hf st.2.1 rfl (pl:=ys[i]) ?_ hv fun h' it' sb=>h _ _ ⟨ys[i],_,gEE hlt,hv⟩ ⟨(sb.2 a ne).trans st.1,(sb.2 TP nt).trans st.2.1,it'⟩ (jI sb);rw[List.getElem?_toArray,gEM,gEE hlt];rfl
 done:=fun s Q E st h=>by
  have hy:ys.length=es.size:=by rw[hp.length_eq,List.length_range]
  refine jG hh st.2.2 st.1 hd hf st.2.1 rfl ?_ fun h' x=>h _ (lO x);rw[List.getElem?_toArray,gEM,List.getElem?_eq_none (by omega)];rfl
 self:=fun i s Q E st h=>jx st.2.2 h
end
theorem iG {P:Nat→Value→Prop} {acc:Array Value} {l:List Value} (h:ItemsOf P acc l.length) (k:∀ j v,P j v→l[j]?=some v):acc.toList=l:=by
 refine List.ext_getElem (by rw[Array.length_toList,h.1]) fun j h1 h2=>?_;have e:=k j _ (h.2 j _ (Array.getElem?_eq_getElem (by simpa using h1)));rw[gEE h2] at e;rw[Array.getElem_toList];exact (Option.some.inj e).symm
section
variable {prog:Program} {w:World} {A:Around} {E:VSP} {s:Shared} {a:Addr} {ss:List Int} {n:Nat} {o:Obj} {es:Array (Int×Value)} {ep:Nat} {t:SetTable}
theorem qX (S:cD prog w s.heap a ss n o es ep t) {Q:VSP}
 (h:∀ (I:Addr) (fp:List Addr) (P:Nat→Value→Prop) (St:Nat→Shared→Prop) (h':Heap) (d:Drawn),(∀ A':Around,A'.handled=none→WalksS prog w A' I fp [I] (fun x y=>y=x) es.size P St)→St 0 {s with heap:=h',drawn:=d}→(∀ b∈fp,b<h'.objs.size)→I∈fp→s.heap.objs.size≤I→(∀ b∈fp,b=a∨s.heap.objs.size≤b) →
   (∀ b q,s.heap.get? b=some q→h'.get? b=some q)→(∀ acc,ItemsOf P acc es.size→acc.toList.Perm (es.toList.map (·.2)))→Q (.ref I) {s with heap:=h',drawn:=d}):wpAny (model prog w) A (pyIter (.ref a)) Q E s:=by
 have la:a<s.heap.objs.size:=Heap.lt_size S.at_;have hz:es.size<scanBound:=Nat.lt_trans S.sz (by decide);cases hc:(!w.params.followText "set-order"&&(!t.plain&&decide (es.size>1))) with
 | true =>
  refine qV S.at_ S.ex S.dt S.ft hz hc fun ys d hp=>?_;have e1:(s.heap.push (plO ys)).objs.size=s.heap.objs.size+1:=Heap.size_push ..;have hI:((s.heap.push (plO ys)).push (itO (.ref s.heap.objs.size) a es.size ep)).get? (s.heap.objs.size+1)=some (itO (.ref s.heap.objs.size) a es.size ep):=by rw[← e1];exact Heap.get?_push_size _ rfl
  have hTP:((s.heap.push (plO ys)).push (itO (.ref s.heap.objs.size) a es.size ep)).get? s.heap.objs.size=some (plO ys):=hpS _ (Heap.get?_push_size _ rfl);have up:∀ b q,s.heap.get? b=some q→((s.heap.push (plO ys)).push (itO (.ref s.heap.objs.size) a es.size ep)).get? b=some q:=fun b q e=>hpS _ (hpS _ e);refine h (s.heap.objs.size+1) _ _ _ _ d (fun A' hA=>lp (TP:=s.heap.objs.size) hA (Nat.ne_of_lt (Nat.lt_succ_of_lt la)) (Nat.ne_of_lt (Nat.lt_succ_self _)) S.dt S.ft hp) ⟨up _ _ S.at_,hTP,hI⟩ (fun b hb=>?_) (by simp) (Nat.le_succ _) (fun b hb=>?_) up fun acc hi=>?_
  · simp only[List.mem_cons,nMN,or_false] at hb
    rcases hb with rfl | rfl | rfl
    · exact Heap.lt_size hI
    · exact Heap.lt_size (up _ _ S.at_)
    · exact Heap.lt_size hTP
  · simp only[List.mem_cons,nMN,or_false] at hb
    rcases hb with rfl | rfl | rfl
    · exact .inr (Nat.le_succ _)
    · exact .inl rfl
    · exact .inr (Nat.le_refl _)
  · have hy:ys.length=es.size:=by rw[hp.length_eq,List.length_range]
    let g:Nat→Value:=fun p=>((es[p]?).map (·.2)).getD .none
    have e:acc.toList=ys.map g:=iG (by rw[lMp,hy];exact hi) fun j v z=>by
     obtain⟨p,k,z1,z2⟩:=z;rw[gEM,z1];show some (((es[p]?).map (·.2)).getD .none)=some v;rw[z2];rfl
    rw[e];refine (hp.map g).trans ?_;have e2:(List.range es.size).map g=es.toList.map (·.2):=by
     refine List.ext_getElem (by simp) fun j h1 h2=>?_;rw[List.getElem_map,List.getElem_range,List.getElem_map,Array.getElem_toList];show ((es[j]?).map (·.2)).getD .none=_;rw[Array.getElem?_eq_getElem (by simpa using h2)];rfl
    rw[e2]
 | false =>
  refine qW S.at_ S.ex S.dt S.ft hc ?_;have hI:(s.heap.push (itO (rawInt 0) a es.size ep)).get? s.heap.objs.size=some (itO (rawInt 0) a es.size ep):=Heap.get?_push_size _ rfl;have up:∀ b q,s.heap.get? b=some q→(s.heap.push (itO (rawInt 0) a es.size ep)).get? b=some q:=fun b q e=>hpS _ e;have lt:∀ b∈[s.heap.objs.size,a],b<(s.heap.push (itO (rawInt 0) a es.size ep)).objs.size:=fun b hb=>by
   simp only[List.mem_cons,nMN,or_false] at hb
   rcases hb with rfl | rfl
   · exact Heap.lt_size hI
   · exact Heap.lt_size (up _ _ S.at_)
  have ge:∀ b∈[s.heap.objs.size,a],b=a∨s.heap.objs.size≤b:=fun b hb=>by
   simp only[List.mem_cons,nMN,or_false] at hb
   rcases hb with rfl | rfl
   · exact .inr (Nat.le_refl _)
   · exact .inl rfl
  cases hb:w.params.followText "set-order" with
  | true =>
   refine h s.heap.objs.size [s.heap.objs.size,a] _ _ _ s.drawn (fun A' hA=>nN hA (Nat.ne_of_lt la) S.dt S.ft hb) ⟨up _ _ S.at_,hI⟩ lt (by simp) (Nat.le_refl _) ge up fun acc hi=>?_;have pp:=gm (w.params.setOrder a ep) es;have e:acc.toList=(pickOrder (w.params.setOrder a ep) es).toList.map (·.2):=iG (by rw[lMp,pp.length_eq,Array.length_toList];exact hi) fun j v z=>by
    obtain⟨k,z⟩:=z;rw[gEM,Array.getElem?_toList,z];rfl
   rw[e];exact pp.map _
  | false =>
   have hp1:(!t.plain&&decide (es.size>1))=false:=by rw[hb] at hc;simpa using hc
   refine h s.heap.objs.size [s.heap.objs.size,a] _ _ _ s.drawn (fun A' hA=>oZ hA (Nat.ne_of_lt la) S.dt S.ft hb (by rw[S.ld,hb];rfl) hp1 S.pl) ⟨up _ _ S.at_,hI⟩ lt (by simp) (Nat.le_refl _) ge up fun acc hi=>?_;have e:acc.toList=es.toList.map (·.2):=iG (by rw[lMp,Array.length_toList];exact hi) fun j v z=>by
    obtain⟨k,z⟩:=z;rw[gEM,Array.getElem?_toList,z];rfl
   rw[e]
theorem kT (hh:A.handled=none) (S:cD prog w s.heap a ss n o es ep t) {Q:List Value→Shared→Prop}
 (h:∀ (vs:List Value) h' d tk,vs.Perm (es.toList.map (·.2))→(∀ b q,s.heap.get? b=some q→h'.get? b=some q)→Q vs {s with heap:=h',drawn:=d,toks:=tk}):wpAny (model prog w) A (collect (.ref a)) Q E s:=by
 have la:a<s.heap.objs.size:=Heap.lt_size S.at_;unfold collect;refine wB (wpAny_runValue (codeAny_builtin PySem.F.entry_proto_collect (by
   rw[Around.under_plainId PySem.F.plain_proto_collect _];show wpAny _ A.in1 (newList []>>=fun l=>again (.builtin "list.__iadd__" ⟨[l,.ref a],[]⟩)) _ _ s;refine wB (wpAny_newObj_type (wP ⟨plainId_quiet PySem.F.plain_list_iadd _,codeAny_builtin PySem.F.entry_list_iadd ?_⟩));rw[Around.under_plainId PySem.F.plain_list_iadd _];have S1:cD prog w (s.heap.push {cls:=.type "list",data:=.seq ([]:List Value).toArray}) a ss n o es ep t:=S.of_same (hpS _ S.at_);have ty:Shared.TypeIs {s with heap:=s.heap.push {cls:=.type "list",data:=.seq ([]:List Value).toArray}} (.ref a) "set":=⟨_,S1.at_,S1.ex.1⟩;have h1:Builtin.List.listSameRef (.ref s.heap.objs.size) (.ref a)=false:=by simp[Builtin.List.listSameRef];exact Nat.ne_of_gt la
   show wpAny _ A.in1 (Builtin.List.listExtendWith (.ref s.heap.objs.size) (.ref a) (.ref s.heap.objs.size)) _ _ _;unfold Builtin.List.listExtendWith;refine wB (wpAny_typeOf ty ?_);rw[if_neg (by rw[h1];decide)];refine wB (qX S1 fun I fp P St h2 d W st lt mI gI ge up pm=>?_);have ty2:Shared.TypeIs {s with heap:=h2,drawn:=d} (.ref a) "set":=⟨_,up _ _ S1.at_,S1.ex.1⟩;refine wB (wpAny_holding ?_);unfold Builtin.List.listLengthHint;refine wB (wpAny_specialOf ty2 PySem.F.slot_set_len.lookup ?_);dsimp only;rw[show splitId "set.__len__"=some ("set","__len__") by decide +kernel];refine wB (wpAny_isInstance (b:=true) ty2 sub_set_self ?_);simp only[Bool.not_true,Bool.false_eq_true,if_false];rw[if_pos]
   rotate_left
   · decide +kernel
   refine wB (wpAny_typeOf ty2 ?_);dsimp only;refine wP ?_;rw[if_pos]
   rotate_left
   · decide +kernel
   have hS:h2.get? s.heap.objs.size=some {cls:=.type "list",data:=.seq ([]:List Value).toArray}:=up _ _ (Heap.get?_push_size _ rfl);have nS:s.heap.objs.size∉fp:=fun z=>by
     rcases ge _ z with q | q
     · exact Nat.ne_of_gt la q
     · exact absurd (show (s.heap.push _).objs.size≤_ from q) (by rw[Heap.size_push];exact Nat.not_succ_le_self _)
   refine wB (wpAny_rule (wB ?_));unfold Builtin.List.listTouch;refine wB (wpAny_updateSeq hS rfl ?_);have hS1:=Heap.get?_update_self (Obj.mapSeq fun x=>x.push Value.none) hS rfl;refine wpAny_updateSeq hS1 rfl ?_;have hS2:=Heap.get?_update_self (Obj.mapSeq fun x=>x.pop) hS1 rfl;have k2:∀ b q,b≠s.heap.objs.size→h2.get? b=some q→((h2.update s.heap.objs.size (Obj.mapSeq fun x=>x.push Value.none)).update s.heap.objs.size (Obj.mapSeq fun x=>x.pop)).get? b=some q:=fun b q nb e=>(Heap.get?_update_other _ _ (Ne.symm nb)).trans ((Heap.get?_update_other _ _ (Ne.symm nb)).trans e);have W1:=W A.in1.in1 hh;have st1:=W1.frame 0 _ ((h2.update s.heap.objs.size (Obj.mapSeq fun x=>x.push Value.none)).update s.heap.objs.size (Obj.mapSeq fun x=>x.pop)) s.toks st (Nat.le_refl _) fun b hb q e=>k2 b q (fun z=>nS (by rw[← z];exact hb)) e;refine wP ⟨plainId_quiet PySem.F.plain_extend_loop _,codeAny_extend_loopS (W A.in1 hh) (fits_of_scanBound (Nat.lt_trans S.sz (by decide))) _ nS _ es.size 0 _ _ _ rfl (Nat.zero_le _) st1 hS2 (ItemsOf.nil P) fun s3 acc c3 hm hS3 hacc=>?_⟩;show wpAny _ A (load s.heap.objs.size>>=_) _ _ s3;refine wB (wpAny_load hS3 ?_);obtain⟨h3,g3,d3,tk3,os3⟩:=s3;obtain rfl:g3=s.gens:=hm.gens;obtain rfl:d3=d:=hm.drawn;obtain rfl:os3=s.os:=hm.os;refine wP (h _ h3 d3 tk3 (pm acc hacc) fun b q e=>?_);have lb:=Heap.lt_size e;refine hm.heap b q (fun z=>?_) (k2 b q (Nat.ne_of_lt lb) (up _ _ (hpS _ e)));simp only[List.mem_cons,nMN,or_false] at z
   rcases z with z | z
   · exact Nat.ne_of_lt lb z
   · have gI':(s.heap.push {cls:=.type "list",data:=.seq ([]:List Value).toArray}).objs.size≤I:=gI;rw[Heap.size_push] at gI';rw[z] at lb;exact absurd (Nat.lt_of_lt_of_le lb (Nat.le_trans (Nat.le_succ _) gI')) (Nat.lt_irrefl _))))
end
end L2
namespace L2
open PySem PySem.Spec PyProof.Rows PySem.W
section
variable {prog:Program} {w:World} {A:Around} {E:VSP} {s:Shared}
end
theorem fS:bootBuiltins "sorted"=some (.builtin "sorted"):=by decide +kernel
section
variable {X:Cx}
end
end L2
namespace L2
open PySem PySem.Spec PyProof.Rows
theorem u3:∀ (vs:List Value),(∀ v∈vs,∃ x u,v=Value.int x u)→IntsAre vs (vs.map gz):=by
 intro vs
 induction vs with
 | nil=>intro _;exact .nil
 | cons v r ih =>
  intro h;obtain⟨x,u,rfl⟩:=h v mCS;exact .cons x u (ih fun y hy=>h y (mCM _ hy))
theorem ji {vs:List Value} {xs:List Int} (h:IntsAre vs xs):aD (xs.map V.int) vs:=by
 induction xs generalizing vs with
 | nil=>cases h;exact .nil
 | cons x r ih =>
  cases h with
  | cons _ t q=>exact .cons ⟨t,rfl⟩ (ih q)
theorem Inv.drew {X:Cx} {pins:AOs} {σ:St} {H:Hp} {s:Shared} {d:Drawn} (I:Inv X pins σ H s):Inv X pins σ H {s with drawn:=d}:=⟨I.ok,I.os,I.bare,I.base,I.loc,I.cell,I.free,I.freeC,I.pin,I.hok,I.len⟩
section
variable {prog:Program} {w:World} {A:Around} {E:VSP} {s:Shared} {a:Addr} {ss B:List Int} {n:Nat} {o:Obj} {es:Array (Int×Value)} {ep:Nat} {t:SetTable}
theorem gG (hh:A.handled=none) (S:cD prog w s.heap a ss n o es ep t) (hB:∀ x∈ss,x∈B) (hB6:B.length<64) {Q:VSP}
 (h:∀ (s1:Shared) (h':Heap) (vs:List Value) (xs:List Int) (e:Nat),(∃ h1 d tk,s1={s with heap:=h1,drawn:=d,toks:=tk}∧∀ b q,s.heap.get? b=some q→h1.get? b=some q)→(∀ b q,s1.heap.get? b=some q→h'.get? b=some q) →
   h'.get? s1.heap.objs.size=some (seqObj "list" vs.toArray e)→IntsAre vs xs→xs.Nodup→xs.Pairwise (·≤·)→(∀ x∈xs,x∈ss)→(∀ x∈ss.take n,x∈xs)→xs.length<64→Q (.ref s1.heap.objs.size) {s1 with heap:=h'}) :
 wpAny (model prog w) A (call (.builtin "sorted") [.ref a]) Q E s:=by
 refine Calls.call_function_entry kind_sorted plain_sorted entry_sorted (args_sorted1 _) (by
   unfold Builtin.«sorted»;refine wB (m:=checkCount "sorted" 1 1 _) (wP (wB (kT (A:=A.in1) hh S fun vs h1 d tk pm k1=>?_)));have hv:∀ v∈vs,∃ x u,v=Value.int x u∧x∈ss:=fun v hv=>by
     obtain⟨e,he,rfl⟩:=List.mem_map.mp (pm.mem_iff.mp hv);exact S.st e he
   have hI:IntsAre vs (vs.map gz):=u3 vs fun v z=>by
     obtain⟨x,u,e,_⟩:=hv v z;exact⟨x,u,e⟩
   have nd:(vs.map gz).Nodup:=by
     rw[(pm.map gz).nodup_iff,List.map_map];exact S.nd
   have hsub:∀ x∈vs.map gz,x∈ss:=fun x hx=>by
     obtain⟨v,hv',rfl⟩:=List.mem_map.mp hx;obtain⟨x,u,rfl,hx'⟩:=hv v hv';exact hx'
   have hl:vs.length<64:=by
     have:=cw nd fun x hx=>hB x (hsub x hx);rw[lMp] at this;omega
   refine wB (wpAny_newList ?_ (Nat.le_trans (Nat.le_of_lt hl) (by decide)));have hp:(h1.push (seqObj "list" vs.toArray 0)).get? h1.objs.size=some (seqObj "list" vs.toArray 0):=Heap.get?_push_size _ rfl;refine wB (wpAny_holding (wpAny_call_entry slot_list_sort ⟨_,hp,rfl⟩ entry_list_sort (list_sort_tree hp hI hl fun out xs b1 b2 b3=>⟨_,rfl,?_⟩) (args_list_sort _)));obtain⟨e,he⟩:=sortedHeap_at (out:=out) hp;refine wP ⟨_,rfl,?_⟩;refine h {s with heap:=h1,drawn:=d,toks:=tk} _ out.toList xs e ⟨h1,d,tk,rfl,k1⟩ (fun b q z=>?_) (by rw[Array.toArray_toList];exact he) b1 (b2.nodup_iff.mpr nd) b3 (fun x hx=>hsub x (b2.mem_iff.mp hx)) (fun x hx=>?_) (by rw[b2.length_eq,lMp];exact hl)
   · have lb:b<h1.objs.size:=Heap.lt_size z;rw[sortedHeap_old (Nat.ne_of_lt lb) (by rw[Heap.size_push];exact Nat.lt_succ_of_lt lb)];exact hpS _ z
   · obtain⟨e,he,rfl⟩:=S.al x hx;exact b2.mem_iff.mpr (List.mem_map.mpr ⟨e.2,pm.mem_iff.mpr (List.mem_map.mpr ⟨e,he,rfl⟩),rfl⟩))
end
theorem oP:bootBuiltins "set"=some (.type "set"):=by decide +kernel
inductive uV (K:Fg) (xs:List V) (H:Hp) (Q:VK):Prop
  | mk (p:Addr) (ss B:List Int) (h1:xs=[.ref p]) (h2:SqL K H p (ss.map V.int)) (h4:∀ x∈ss,x∈B) (h5:B.length<64) (q:∀ (l:Addr) (ys:List Int),H l=none→ys.Nodup→ys.Pairwise (·≤·)→(∀ x,x∈ys↔x∈ss)→Q (.ref l) (upd H l (.lst (ys.map V.int)))):uV K xs H Q
def zr (K:Fg):List V→Hp→VK→Prop:=fun xs H Q=>uV K xs H Q
theorem xV {X:Cx} {p1 p2 pos1 pos2:Pos} {e:Expr} {te:TE} (hm:X.mg "sorted"=none) (hm2:X.mg "set"=none) (he:PE X e te) (hc:X.calm=true:=by rfl) (hg:Gl X "sorted":=by rfl) (hg2:Gl X "set":=by rfl)
 (s1:starEach [.Call (.Name "set" p2) [e] [] pos2] X.env=(false,eval (.Call (.Name "set" p2) [e] [] pos2) X.env)::starEach [] X.env:=by rfl) (s2:starEach [e] X.env=(false,eval e X.env)::starEach [] X.env:=by rfl)
 (s3:(backTo pos1 (starEach [] X.env)).any (·.1)=false:=by rfl) (s4:(backTo pos2 (starEach [] X.env)).any (·.1)=false:=by rfl) (s5:backTo pos1 (starEach [] X.env)=[]:=by rfl) (s6:backTo pos2 (starEach [] X.env)=[]:=by rfl) :
 PE X (.Call (.Name "sorted" p1) [.Call (.Name "set" p2) [e] [] pos2] [] pos1) (tCB (zr X.K) (cb te ii)):=by
 intro pins s σ H Q I h;have hh:X.A.handled=none:=I.ok.hd hc;refine wpAny_Call_Name_kw (cJ I hg hm fS (PyProof.Rows.callWith_builtin1 ?_ s1 s3));rw[s1];show wpAny _ _ (spliced ((false,eval (.Call (.Name "set" p2) [e] [] pos2) X.env)::backTo pos1 (starEach [] X.env))) _ _ s;rw[s5];refine Calls.spliced_cons (wpAny_Call_Name_kw (cJ I hg2 hm2 oP (PyProof.Rows.callWith_type1 ?_ s2 s4)));rw[s2];show wpAny _ _ (spliced ((false,eval e X.env)::backTo pos2 (starEach [] X.env))) _ _ s;rw[s6];refine Calls.spliced_cons (thn (he pins s σ H _ I h) fun u s1 z=>Calls.spliced_nil ?_);obtain⟨x,H1,I1,rx,p,ss,B,ex,hq,hB,hB6,q⟩:=z;cases ex;cases rx;obtain⟨its,rv,pl,hz⟩:=I1.list hq;have hlen:=rv.length;rw[lMp] at hlen;refine qe (ss:=ss) hh pl.isList (fun i v hv=>?_) hB hB6 fun h2 tk o es ep t S k2=>Calls.spliced_nil ?_
 · have hv':its[i]?=some v:=by simpa using hv
   have hi:i<ss.length:=by have:=(gES.mp hv').1;omega
   obtain⟨u,hu,ru⟩:=rv.get (i:=i) (x:=V.int ss[i]) (by rw[gEM,gEE hi];rfl);rw[hv'] at hu;cases hu;obtain⟨t,rfl⟩:=ru;exact⟨ss[i],t,rfl,gEE hi⟩
 · refine gG (s:={s1 with heap:=h2,toks:=tk}) hh S hB hB6 fun s3 h3 vs xs en hs3 k3 hat hS nd hso hin hal hxl=>?_;obtain⟨h4,d,tk4,rfl,k4⟩:=hs3;have I3:Inv X pins σ H1 {s1 with heap:=h4,drawn:=d,toks:=tk4}:=(I1.kept (t':=tk4) fun b o z=>k4 _ _ (k2 _ _ z)).drew;have ll:(xs.map V.int).length≤sizeLine:=by
    rw[lMp];have:(64:Nat)≤sizeLine:=by decide
    omega
   refine⟨.ref h4.objs.size,_,I3.turnedNew (t':=tk4) (ch:=[]) (o:=.lst (xs.map V.int)) (fun b z=>by cases z) (fun b z _ y=>k3 b z y) ⟨ll,vs,en,ji hS,hat⟩,rfl,q _ xs ?_ nd hso (fun x=>⟨hin x,fun hx=>hal x ?_⟩)⟩
   · exact I3.fresh
   · rw[List.size_toArray,← hlen,List.take_length];exact hx
def xD (elt:Expr) (acc:Value) (env:Env):Sem Unit:=do
  let v ← eval elt env
  standAt elt.pos
  let _ ← call (.builtin "set.add") [acc,v]
  pure ()
def emS (elt:Expr) (acc:Value) (env:Env) (c:Code):Sem Fin:=do
  let _ ← xD elt acc env
  again c
theorem rX {elt tg iter:Expr} {ifs:List Expr} {sc:Scope} {pos:Pos} {it acc:Value} {env:Env}:cx (.SetComp elt [⟨tg,iter,ifs,0⟩] sc pos) 0 tg ifs iter.pos (emS elt acc env (.compLoop (.SetComp elt [⟨tg,iter,ifs,0⟩] sc pos) 0 it acc env)) it acc env:=by
 unfold cx emS xD;rfl
def pfS (prog:Program) (w:World) (D:Addr) (ss:List Int):Nat→AOs→Prop:=fun n pl=>∃ o es ep t,pl=[(D,o)]∧∀ h:Heap,h.get? D=some o→cD prog w h D ss n o es ep t
inductive AL (ss:List Int) (n:Nat) (x:V) (H:Hp) (N:Nat→Hp→Prop):Prop
  | mk (i:Int) (h1:x=.int i) (h2:ss[n]?=some i) (q:N (n+1) H):AL ss n x H N
def yr (ss:List Int) (te:TE):TM Nat:=fun n σ H N=>te σ H fun x H1=>AL ss n x H1 fun m=>N m σ
theorem kZ {prog:Program} {w:World} {A:Around} {E:VSP} {s:Shared} {a:Addr} {ss B:List Int} {n:Nat} {o:Obj} {es:Array (Int×Value)} {ep:Nat} {t:SetTable} {x:Int} {u:Tok} {Q:VSP} (S:cD prog w s.heap a ss n o es ep t) (hx:ss[n]?=some x) (hB:∀ x∈ss,x∈B) (hB6:B.length<64)
 (h:∀ h' o' es' ep' t',Heap.SameBut a s.heap h'→cD prog w h' a ss (n+1) o' es' ep' t'→Q .none {s with heap:=h',toks:=s.toks+1}):wpAny (model prog w) A (call (.builtin "set.add") [.ref a,.int x u]) Q E s:=by
 refine wpAny_call_entry PySem.F.slot_set_add ⟨o,S.at_,S.ex.1⟩ PySem.F.entry_set_add ?_ (PySem.F.args_set_add_2 _ _);unfold Builtin.«set.add» Builtin.Frozenset.oneOther;show wpAny _ A.in1 ((do let a' ← Builtin.Frozenset.addrOf (.ref a);pure (a',Value.int x u))>>=_) _ _ s;refine wB (wB (wP (wP ?_)));show wpAny _ A.in1 (setAdd a (.int x u)>>=fun _=>ret Value.none) _ _ s;unfold setAdd;refine wB (wpAny_holding (wB ((ar prog w).pyHash (k:=.inl x) (isK x u) ?_)));exact cD.add (s:={s with toks:=s.toks+1}) S hx hB hB6 fun b h' o' es' ep' t' sb S2=>wP ⟨_,rfl,h h' o' es' ep' t' sb S2⟩
theorem wQ {Y:Cx} {elt:Expr} {te:TE} {D:Addr} {ss B:List Int} {c:Code} (he:PE Y elt te) (hD:D∈Y.ex) (hB:∀ x∈ss,x∈B) (hB6:B.length<64) (hl:D≠Y.env.locals) (hf:D∉Y.fs) (hcl:∀ x c,Y.env.cells.lookup x=some c→c≠D) (hpn:∀ p∈Y.pn,p.1≠D):PM Y (pfS Y.prog Y.w D ss) [D] c (emS elt (.ref D) Y.env c) (yr ss te):=by
 intro pins pl n s σ H N hv hp I h;unfold emS xD;refine wB (wB (thn (he _ s σ H _ I h) fun u s1 z=>?_));obtain⟨x,H1,I1,rx,i,rfl,hi,q⟩:=z;obtain⟨tk,rfl⟩:=rx;obtain⟨o,es,ep,t,rfl,hS⟩:=hp;obtain⟨p1,p2,_⟩:=I1.pin (D,o) (List.mem_append_right _ mCS);refine wB (wpAny_standAt (wB (kZ (hS _ p1) hi hB hB6 fun h' o' es' ep' t' sb S2=>wP (wP ⟨rfl,n+1,[(D,o')],σ,H1,⟨o',es',ep',t',rfl,fun h2 e=>S2.of_same e⟩,?_,q⟩))));have Ia:Inv Y pins σ H1 s1:=I1.pins_of fun p hp=>I1.pin p (List.mem_append_right _ (List.mem_append_right _ hp));have Ib:=Ia.turned (t':=s1.toks+1) (it:=D) (h':=h') (fun b o hb e=>(sb.2 b hb).trans e) p2 hl (.inl hD) hcl (fun p hp=>by
   rcases mAp.mp hp with z | z
   · exact hpn p z
   · exact fun e=>hv p z (by rw[e];exact mCS))
 refine Ib.pins_of fun p hp=>?_
 rcases mAp.mp hp with z | z
 · rw[mSg.mp z];refine⟨S2.at_,p2,hl,hf,fun v e=>?_⟩;rw[S2.dt] at e;cases e
 · exact Ib.pin p (List.mem_append_right _ z)
inductive SSR (J:It) (g:TG) (tc:TT) (te:TE) (Q:VK) (σ0:St) (H1:Hp):Prop
  | mk (ss B:List Int) (hB:∀ x∈ss,x∈B) (hB6:B.length<64) (h:er J g tc (yr ss te) (fun n _ H'=>n=ss.length∧∀ (l:Addr) (ys:List Int),H' l=none→ys.Nodup→ys.Pairwise (·≤·)→(∀ x,x∈ys↔x∈ss)→Q (.ref l) (upd H' l (.lst (ys.map V.int)))) 0 σ0 H1):SSR J g tc te Q σ0 H1
def tSS (wi:TI) (k:Nat) (outs:List (Nat×Str)) (g:TG) (tc:TT) (te:TE):TE:=fun σ H Q=>wi σ H fun J H1=>SSR J g tc te Q (dF k outs σ) H1
set_option maxHeartbeats 8000000 in
theorem sN {X:Cx} {elt tg iter:Expr} {ifs:List Expr} {sc:Scope} {pos cpos:Pos} {wi:TI} {g:TG} {tc:TT} {te:TE} {own:List Str} {outs:List (Nat×Str)} {PQ:VSP} {pins:AOs} {s:Shared} {σ:St} {H:Hp} {Q:VK} (hc:X.calm=true) (S:aB X sc own outs) (hi:PI X tg iter wi)
 (hb:∀ (fp:List Addr) (pins:AOs) (s:Shared) (H:Hp),PG (blk X sc (aO X.env.cells sc.names []) (bb own outs) fp pins s H) tg g ∧
   gC (blk X sc (aO X.env.cells sc.names []) (bb own outs) fp pins s H) ifs tc∧PE (blk X sc (aO X.env.cells sc.names []) (bb own outs) fp pins s H) elt te)
 (hs:∀ x,foldedSetIterable iter X.env x=pure x) (I:Inv X pins σ H s) (h:tSS wi own.length outs g tc te σ H Q)
 (fin:∀ (D:Addr) (H5:Hp) (s6:Shared) (ss B:List Int) (o:Obj) (es:Array (Int×Value)) (ep:Nat) (t:SetTable),Inv X pins σ H5 s6→cD X.prog X.w s6.heap D ss ss.length o es ep t→(∀ x∈ss,x∈B)→B.length<64 →
   (∀ (l:Addr) (ys:List Int),H5 l=none→ys.Nodup→ys.Pairwise (·≤·)→(∀ x,x∈ys↔x∈ss)→Q (.ref l) (upd H5 l (.lst (ys.map V.int))))→PQ (.ref D) s6) :
 wpAny (model X.prog X.w) X.A (comprehension (.SetComp elt [⟨tg,iter,ifs,0⟩] sc pos) sc X.env cpos (newSet (.type "set")) false (eval iter X.env)) PQ X.xe s:=by
 have hcl:closureFor sc X.env=pure (aO X.env.cells sc.names []):=fz fun y hy e=>I.ok.has y.1 (S.fr y hy e);refine wpAny_comprehension_free (use:=none) rfl hs hcl S.kind S.loc (thn (hi pins s σ H _ I h) fun v s1 h1=>thn h1 fun itv s2 h2=>?_);obtain⟨it,fp,tn,J,H2,rfl,I2,T,st2,f2,ss,B,hB,hB6,hL⟩:=h2;unfold newSet setsByText;refine wB (wB (wpAny_askSetting (wP ?_)));refine wpAny_newObj_type ?_;generalize hD:s2.heap.objs.size=D;have fr:H2 D=none:=by rw[← hD];exact I2.fresh
 have fD:eU X pins H2 D:=I2.fpOk (by rw[hD];exact Nat.le_refl _) fr;have I3:Inv X pins σ H2 {s2 with heap:=s2.heap.push (cX X.w)}:=I2.kept (t':=s2.toks) fun b o e=>hpS _ e;have hg3:(s2.heap.push (cX X.w)).get? D=some (cX X.w):=by rw[← hD];exact Heap.get?_push_size _ rfl
 have hfp:∀ b∈fp,b<s2.heap.objs.size:=fun b hb=>by
  obtain⟨o,e,_⟩:=T.obj _ _ st2 b hb;exact Heap.lt_size e
 show wpAny (model X.prog X.w) X.A (newFunctionEnv sc X.env.globals (aO X.env.cells sc.names []) [] X.env.qual none Value.none (some X.env)) _ X.xe ({s2 with heap:=s2.heap.push (cX X.w)}:Shared);generalize hS:({s2 with heap:=s2.heap.push (cX X.w)}:Shared)=s3 at I3 ⊢;have hg3':s3.heap.get? D=some (cX X.w):=by rw[← hS];exact hg3
 have k3:∀ b o,s2.heap.get? b=some o→s3.heap.get? b=some o:=fun b o e=>by rw[← hS];exact hpS _ e
 have z3:s2.heap.objs.size≤s3.heap.objs.size:=by rw[← hS];show _≤(s2.heap.push _).objs.size;rw[Heap.size_push];exact Nat.le_succ _
 have zD:D<s3.heap.objs.size:=Heap.lt_size hg3';have st3:tn 0 s3.heap:=T.keep _ _ _ st2 fun b _ o e=>k3 b o e;have f3:∀ b∈D::fp,eU X pins H2 b:=fun b hb=>by
  rcases List.mem_cons.mp hb with rfl | hb
  · exact fD
  · exact f2 b hb
 have l3:∀ b∈D::fp,b<s3.heap.objs.size:=fun b hb=>by
  rcases List.mem_cons.mp hb with rfl | hb
  · exact zD
  · exact Nat.lt_of_lt_of_le (hfp b hb) z3
 refine wpAny_newFunctionEnv S.nocell (fun y hy=>by cases hy) (fun h4 hn4 sb4=>?_) S.kind;have k4:∀ b o,s3.heap.get? b=some o→h4.get? b=some o:=fun b o e=>sb4.extBut b o (Nat.ne_of_lt (Heap.lt_size e)) (hpS _ e);have hn4':h4.Ns s3.heap.objs.size fun _=>none:=by
  have q:=hn4;simp only[List.reverse_nil,List.lookup_nil] at q;exact q
 have I4:=jM (t':=s3.toks+([]:List (Str×Value)).length) I3 S f3 l3 hn4' k4;have st4:tn 0 h4:=T.keep _ _ _ st3 fun b _ o e=>k4 b o e;obtain⟨hg,hif,he⟩:=hb (D::fp) pins s3 H2;have yex:D∈(blk X sc (aO X.env.cells sc.names []) (bb own outs) (D::fp) pins s3 H2).ex:=mCS;have statX:∀ b∈D::fp,b≠(blk X sc (aO X.env.cells sc.names []) (bb own outs) (D::fp) pins s3 H2).env.locals∧b∉(blk X sc (aO X.env.cells sc.names []) (bb own outs) (D::fp) pins s3 H2).fs∧(∀ x c,(blk X sc (aO X.env.cells sc.names []) (bb own outs) (D::fp) pins s3 H2).env.cells.lookup x=some c→c≠b)∧∀ p∈(blk X sc (aO X.env.cells sc.names []) (bb own outs) (D::fp) pins s3 H2).pn,p.1≠b:=fun b hb=>by
  obtain⟨_,a1,a2,a3,a4,a5⟩:=f3 b hb;refine⟨Nat.ne_of_lt (l3 b hb),fun z=>?_,fun x c e=>a4 x c (dv e),fun p hp=>a5 p hp⟩
  rcases List.mem_cons.mp (I3.stkSub b z) with y | y
  · exact a1 y
  · exact a2 y
 generalize hY:blk X sc (aO X.env.cells sc.names []) (bb own outs) (D::fp) pins s3 H2=Y at I4 hg hif he yex statX;have yenv:Y.env=compEnvC sc (aO X.env.cells sc.names []) s3.heap.objs.size X.env:=by rw[← hY];rfl
 have yex2:∀ b∈fp,b∈Y.ex:=fun b hb=>by rw[← hY];exact mCM _ hb
 obtain⟨d1,d2,d3,d4⟩:=statX D mCS;have loop:codeAny (model X.prog X.w) X.A (.compLoop (.SetComp elt [⟨tg,iter,ifs,0⟩] sc pos) 0 (.ref it) (.ref D) Y.env) (compPost (model X.prog X.w) X.A X.xe none PQ (.ref D) s3.heap.objs.size)
  {s3 with heap:=h4,toks:=s3.toks+([]:List (Str×Value)).length}:=by
  have hP:Y.prog=X.prog:=by rw[← hY];rfl
  have hw:Y.w=X.w:=by rw[← hY];rfl
  have hA:Y.A=X.A:=by rw[← hY];rfl
  have hK:Y.K=X.K:=by rw[← hY];rfl
  have hxe:Y.xe=fun _ _=>False:=by rw[← hY];rfl
  have hcm:Y.calm=true:=by rw[← hY];exact hc
  rw[← hP,← hw,← hK] at T;have p0':pfS Y.prog Y.w D ss 0 [(D,cX X.w)]:=by
   rw[hP,hw];exact⟨cX X.w,#[],0,_,rfl,fun h e=>⟨e,⟨rfl,rfl,rfl⟩,rfl,fun e he=>by simp at he,by show 0<64;decide,rfl,rfl,⟨fun i j _ z=>absurd z (Nat.not_lt_zero _),rfl⟩,fun e he=>by simp at he,by simp,fun x hx=>by simp at hx⟩⟩
  have I5:Inv Y ([(D,cX X.w)]++[]) (dF own.length outs σ) H2 {s3 with heap:=h4,toks:=s3.toks+([]:List (Str×Value)).length}:=I4.pins_of fun p hp=>by
   rw[List.append_nil,mSg] at hp;rw[hp];exact⟨k4 _ _ hg3',fr,d1,d2,fun v e=>by cases e⟩
  have key:=jT (Y:=Y) (pf:=pfS Y.prog Y.w D ss) (av:=[D]) (bp:=[]) (R:=compPost (model X.prog X.w) X.A X.xe none PQ (.ref D) s3.heap.objs.size) ul (rX (iter:=iter) (sc:=sc) (pos:=pos)) hcm hxe T hg hif (wQ he yex hB hB6 d1 d2 d3 d4) (fun _ z=>by cases z) (fun b hb z=>by
      rw[mSg] at z;have:=hfp b hb;rw[z,hD] at this;exact Nat.lt_irrefl _ this) (fun _ pl H' hp hn b hb=>by
      obtain⟨o,es,ep,t,rfl,_⟩:=hp;obtain⟨e1,e2,e3,e4⟩:=statX b (mCM _ hb);refine⟨hn b hb,e1,e2,.inl (yex2 b hb),e3,fun p hp=>?_⟩
      rcases mAp.mp hp with z | z
      · exact e4 p z
      · rw[List.append_nil,mSg] at z;rw[z];have:=hfp b hb;show D≠b;exact fun e=>by rw[← e,hD] at this;exact Nat.lt_irrefl _ this) (k0:=0) p0' I5 st4 (fun b hb=>(f2 b hb).1) hL ?_
  · rw[hP,hw,hA] at key;exact key
  intro n6 pl6 σ6 H5 s6 hp6 I6 q;obtain⟨rfl,q⟩:=q;obtain⟨o6,es6,ep6,t6,rfl,hS6⟩:=hp6;obtain⟨g6,n6,_⟩:=I6.pin (D,o6) (List.mem_append_right _ mCS);obtain⟨m6,hn6,_⟩:=I6.loc;have yl:Y.env.locals=s3.heap.objs.size:=by rw[yenv];rfl
  have u6:Un (frs X.stack) (D::fp) H2 H5 s3.heap s6.heap:=by
   have q:=I6.base;subst hY;exact q
  have I7:Inv X pins σ H5 s6:=by
   refine I3.call' (s':=s6) (ch:=D::fp) ?_ u6 ?_ I6.bare fun b hb=>?_
   · have q:=I6.os;subst hY;exact q
   · intro a o e;have q:=I6.hok a o e;subst hY;exact q
   · obtain⟨_,a1,a2,a3,a4,a5⟩:=f3 b hb;exact⟨a3,a1,a4,a5⟩
  refine⟨m6,by rw[← yl];exact hn6,fun h7 sb7=>?_⟩;have cell:∀ x c,X.env.cells.lookup x=some c→c≠s3.heap.objs.size:=fun x c e=>by
   obtain⟨v,o,z,_⟩:=I3.cell x c e;exact Nat.ne_of_lt (Heap.lt_size z)
  have I8:=I7.turned (t':=s6.toks) (it:=s3.heap.objs.size) (h':=h7) (fun b o hb e=>(sb7.2 b hb).trans e) (by rw[← yl];exact I6.free) (Nat.ne_of_gt I3.lt) (.inr I3.sz) cell (fun p hp=>Nat.ne_of_lt (Heap.lt_size (I3.pin p hp).1));refine fin D H5 _ ss B o6 es6 ep6 t6 I8 ?_ hB hB6 q;have:=hS6 h7 ((sb7.2 D (Nat.ne_of_lt zD)).trans g6);rw[hP,hw] at this;exact this
 rw[yenv] at loop;exact m9 rn rfl rfl loop (T.self _ 0 _ _ _ st4 loop)
theorem xU {X:Cx} {elt tg iter:Expr} {ifs:List Expr} {sc:Scope} {p1 pos1 pos:Pos} {wi:TI} {g:TG} {tc:TT} {te:TE} {own:List Str} {outs:List (Nat×Str)} (hm:X.mg "sorted"=none) (hc:X.calm=true) (S:aB X sc own outs) (hi:PI X tg iter wi)
 (hb:∀ (fp:List Addr) (pins:AOs) (s:Shared) (H:Hp),PG (blk X sc (aO X.env.cells sc.names []) (bb own outs) fp pins s H) tg g ∧
   gC (blk X sc (aO X.env.cells sc.names []) (bb own outs) fp pins s H) ifs tc∧PE (blk X sc (aO X.env.cells sc.names []) (bb own outs) fp pins s H) elt te)
 (hg:Gl X "sorted":=by rfl) (hs:∀ x,foldedSetIterable iter X.env x=pure x:=by intro _;rfl)
 (s1:starEach [.SetComp elt [⟨tg,iter,ifs,0⟩] sc pos] X.env=(false,eval (.SetComp elt [⟨tg,iter,ifs,0⟩] sc pos) X.env)::starEach [] X.env:=by rfl)
 (s3:(backTo pos1 (starEach [] X.env)).any (·.1)=false:=by rfl) (s5:backTo pos1 (starEach [] X.env)=[]:=by rfl) :
 PE X (.Call (.Name "sorted" p1) [.SetComp elt [⟨tg,iter,ifs,0⟩] sc pos] [] pos1) (tSS wi own.length outs g tc te):=by
 intro pins s σ H Q I h;have hh:X.A.handled=none:=I.ok.hd hc;refine wpAny_Call_Name_kw (cJ I hg hm fS (PyProof.Rows.callWith_builtin1 ?_ s1 s3));rw[s1];show wpAny _ _ (spliced ((false,eval (.SetComp elt [⟨tg,iter,ifs,0⟩] sc pos) X.env)::backTo pos1 (starEach [] X.env))) _ _ s;rw[s5];refine Calls.spliced_cons ?_;rw[arm_eval_SetComp];refine sN hc S hi hb hs I h fun D H5 s6 ss B o es ep t I6 S6 hB hB6 q=>Calls.spliced_nil ?_;refine gG hh S6 hB hB6 fun s3 h3 vs xs en hs3 k3 hat hS nd hso hin hal hxl=>?_;obtain⟨h4,d,tk4,rfl,k4⟩:=hs3;have I3:Inv X pins σ H5 {s6 with heap:=h4,drawn:=d,toks:=tk4}:=(I6.kept (t':=tk4) fun b o z=>k4 _ _ z).drew;have ll:(xs.map V.int).length≤sizeLine:=by
  rw[lMp];have:(64:Nat)≤sizeLine:=by decide
  omega
 refine⟨.ref h4.objs.size,_,I3.turnedNew (t':=tk4) (ch:=[]) (o:=.lst (xs.map V.int)) (fun b z=>by cases z) (fun b z _ y=>k3 b z y) ⟨ll,vs,en,ji hS,hat⟩,rfl,q _ xs I3.fresh nd hso (fun x=>⟨hin x,fun hx=>hal x (by rw[List.take_length];exact hx)⟩)⟩
end L2
namespace P10
open PySem L2
def sd (ks:List Int):List (Key×V):=ks.map fun i=>(.inl i,.bl true)
def cN (ks:List Int) (i:Int):List Int:=if i∈ks then ks else ks++[i]
theorem gg (ks:List Int) (i:Int):bj (sd ks) (.inl i)=if i∈ks then some (.bl true) else none:=by
 induction ks with
 | nil=>rfl
 | cons k r ih =>
  by_cases e:k=i
  · subst e;rw[if_pos mCS];exact bA (p:=(Sum.inl k,V.bl true)) rfl
  · have h1:bj (sd (k::r)) (.inl i)=bj (sd r) (.inl i):=bB (p:=(Sum.inl k,V.bl true)) (fun z=>e (Sum.inl.inj z));rw[h1,ih];by_cases h:i∈r
    · rw[if_pos h,if_pos (mCM _ h)]
    · rw[if_neg h,if_neg (fun z=>by rcases List.mem_cons.mp z with z | z;exact e z.symm;exact h z)]
theorem jy (ks:List Int) (i:Int):bT (sd ks) (.inl i) (.bl true)=sd (cN ks i):=by
 unfold cN;by_cases h:i∈ks
 · rw[if_pos h];unfold bT;rw[df,gg,if_pos h];show List.map _ _=_
   conv=>rhs;rw[← List.map_id (sd ks)]
   refine List.map_congr_left fun p hp=>?_;obtain⟨k,hk,rfl⟩:=List.mem_map.mp hp;split <;> rfl
 · rw[if_neg h,qp _ (by rw[gg,if_neg h])];unfold sd;rw[List.map_append];rfl
theorem bK {ks:List Int} {i j:Int}:j∈cN ks i↔j∈ks∨j=i:=by
 unfold cN;by_cases h:i∈ks
 · rw[if_pos h];constructor
   · exact .inl
   · rintro (z | rfl)
     · exact z
     · exact h
 · rw[if_neg h];simp
theorem jN (ks:List Int) (i:Int):(cN ks i).length≤ks.length+1:=by
 unfold cN;split
 · omega
 · simp
theorem gh (ks:List Int):(sd ks).length=ks.length:=by unfold sd;rw[lMp]
theorem qZ {ks:List Int} {i:Int} (h:ks.Nodup):(cN ks i).Nodup:=by
 unfold cN;split
 · exact h
 · rename_i hi
   rw[List.nodup_append];exact⟨h,by simp,fun a ha b hb=>by rw[mSg] at hb;rw[hb];exact fun e=>hi (e▸ha)⟩
theorem WFd.node {n:Nat} {x:PyData} (h:WFd n x):∃ h' sl ps,Nd x h' sl ps:=by
 cases n with
 | zero=>exact h.elim
 | succ n=>obtain⟨h',sl,ps,nd,_⟩:=h;exact⟨h',sl,ps,nd⟩
theorem gJ {x:PyData} {h:Str} {sl:List Str} {ps:PDs} (nd:Nd x h sl ps):hdO x=h:=by rw[nd.eq];rfl
theorem kr {x:PyData} {sl:List Str} {ps:PDs} (nd:Nd x "var" sl ps):∃ i r,ps=.int i::r∧cK x=[i]:=by
 have:=nG nd.mem (by decide +kernel);subst this;have hs:=nd.shp;cases hs with
 | cons a t =>
  obtain⟨i,rfl⟩:=a.2.1 (by decide +kernel);refine⟨i,_,rfl,?_⟩;rw[nd.eq];show (cL "var" _).filterMap _=_;unfold cL;rw[if_pos (by decide +kernel)];rfl
theorem kL {x:PyData} {h:Str} {sl:List Str} {ps:PDs} (nd:Nd x h sl ps) (hh:aU h w8=true):∃ i r,ps=.int i::r∧du x=some (.int i):=by
 have hs:=nd.shp;have key:∀ {s:Str} {r:List Str},sl=s::r→s="meant"→∃ i r,ps=.int i::r:=fun {s r} e e2=>by
  rw[e,e2] at hs;cases hs with
  | cons a t =>
   obtain⟨i,rfl⟩:=a.2.1 (by decide +kernel);exact⟨i,_,rfl⟩
 obtain⟨i,r,rfl⟩:∃ i r,ps=.int i::r:=by
  rcases BP nd.mem hh with e | e
  · exact key e rfl
  · exact key e rfl
 refine⟨i,r,rfl,?_⟩;rw[nd.eq];show j0 h _=_;unfold j0;rw[if_pos hh];rfl
theorem nF {x:PyData} {h:Str} {sl:List Str} {ps:PDs} (nd:Nd x h sl ps):cL h ps=(cK x).map .int∧(cK x).length≤3:=by
 have e0:cK x=(cL h ps).filterMap fun x=>match x with
  | .int i=>some i
  | _=>none:=by rw[nd.eq];rfl
 rw[e0];unfold cL;split
 · rename_i hb
   have hs:=nd.shp;rw[nG nd.mem hb] at hs;cases hs with
   | cons a t =>
    obtain⟨i,rfl⟩:=a.2.1 (by decide +kernel);exact⟨rfl,by show 1≤3;decide⟩
 · split
   · rename_i hf
     subst hf;have hs:=nd.shp;rw[Ax nd.mem] at hs;cases hs with
     | cons a t =>
      obtain⟨is,rfl,hl⟩:=a.2.2.2 rfl;have e:ao (PyData.tuple (is.map .int))=is.map .int:=rfl;show ao _=_∧_;rw[show (PyData.tuple (is.map PyData.int)::_).headD (.tuple [])=.tuple (is.map .int) from rfl,e,List.filterMap_map];rw[show ((fun x=>match x with | PyData.int i=>some i | _=>none)∘PyData.int)=some from rfl,List.filterMap_some];exact⟨rfl,hl⟩
   · exact⟨rfl,Nat.zero_le _⟩
end P10
namespace K23
open PySem L2 P10
section
variable {P:Program} {w:World} {K:Fg} {mg:SOV} {base:Heap}
theorem Ao:(["node"]:List Str).Nodup:=by decide +kernel
theorem bR {H:Hp} {x:V} {d:PyData} {h:Str} {sl:List Str} {ps:PDs} (t:TD K H x d) (nd:Nd d h sl ps):∃ a vs,x=.ref a∧SqT K H a (.str h::vs)∧TDs K H vs ps:=by
 rw[nd.eq] at t;obtain⟨a,ys,rfl,ha,hy⟩:=t.tup_of;cases hy with
 | cons p q=>rw[p.str_of] at ha;exact⟨a,_,rfl,ha,q⟩
theorem cy {H H1 Hi:Hp} {L:Addr} {o:HO} (s:ai H1 Hi) (h:H1 L=none):ai H1 (upd Hi L o):=fun a u e=>by
 rw[ad (af e h)];exact s a u e
theorem cA {H H1:Hp} {p:Addr} (s:ai H H1) (h:H1 p=none):H p=none:=by
 cases e:H p with
 | none=>rfl
 | some u=>rw[s _ _ e] at h;cases h
theorem dQ {n:Nat} {d x:PyData} (wf:WFd n d) (h:x∈ax n d):∃ h' sl ps,Nd x h' sl ps:=by
 obtain⟨m,s⟩:=pR h;exact (s.wf wf).node
abbrev sVo:Stmt:=top 10
inductive uY (K:Fg) (vs:List V) (H:Hp) (Q:VK):Prop
  | mk (v:V) (d:PyData) (n:Nat) (h0:vs=[v]) (h1:TD K H v d) (h2:WFd n d) (h3:(ax n d).length≤900000) (q:∀ a H' ks,ai H H'→H a=none→H' a=some (.dK (sd ks))→(∀ i,i∈ks↔i∈eR n d)→Q (.ref a) H'):uY K vs H Q
def yx (K:Fg):Sp:=fun vs H Q _=>uY K vs H Q
theorem B6:am ["body"] ["body"] (a0 sVo):=fsM
theorem zH (D:Def K mg "vars_of" sVo) (iU:Fn P w K mg base "walked" 2 ["e"] (wn K)):Fn P w K mg base "vars_of" 3 ["body"] (yx K):=by
 refine D.fn B6 (fun vs H Q E h=>?_) (fun _ _ _ _ _ _ us hl=>by obtain⟨a,rfl⟩:=iF hl;rfl) (fun f' cdv A outer s' H vs Q E hr h=>?_)
 · obtain⟨v,d,n,rfl,_⟩:=h;rfl
 · obtain⟨v,d,n,rfl,td,wf,hsz,q⟩:=h;have hz0:(4000000:Nat)<sizeLine:=by decide
   refine⟨_,(pG (ae (wW (own:=["node"]) (outs:=[]) (tc:=bU (tOp rEq (tOp (dG K) (aQ 0) (tC (.int 0))) (tC (.str "var")))) (tk:=tOp (dG K) (aQ 0) (tC (.int 1))) rfl (aB.of (a0 sVo) ["body"]) (bi (ab iU (hr.mono (by decide)) rfl (pA (pv 0) pB))) (fun _ _ _ _=>⟨(aw (i:=0) Ao rfl (Or.inl rfl)),(bG (pM aH (aa a9 (pv 0) pF (fun _ _=>rfl)) pC (pN _))),(aa a9 (pv 0) pF (fun _ _=>rfl)),bD⟩)))),?_⟩;dsimp only[bd];refine⟨_,rfl,v,d,n,rfl,td,wf,hsz,fun L H1 zs s1 hL hz tz=>?_⟩;refine⟨L,rfl,⟨zs,SqL.of hz⟩,fun a ha=>?_⟩;have k0:=smu (o:=HO.dK []) ha;have zl:=tz.length;refine er.by (aI (xs:=zs)) (fun i _ σ Hi=>ai H1 Hi∧(∃ ks,Hi a=some (.dK (sd ks))∧ks.length≤i∧∀ j,j∈ks↔∃ x∈(ax n d).take i,j∈dJ x)∧∃ y,σ=[y]) ⟨k0,⟨[],pE,Nat.le_refl _,fun j=>by simp⟩,_,rfl⟩ (fun i _ σ Hi _ h=>SqL.of (h.1 _ _ hz)) ?_ ?_
   · rintro i u _ σ Hi hui ⟨si,⟨ks,hai,kl,km⟩,y,rfl⟩;have hi:i<zs.length:=(gES.mp hui).1;obtain⟨x,hx,tx⟩:=tz.get hui;have xm:=mGE hx;obtain⟨h,sl,ps,nd⟩:=dQ wf xm;obtain⟨p,vs,rfl,hp,hvs⟩:=bR (tx.same si) nd;have hh:=gJ nd;have tk1:∀ j,(∃ z∈(ax n d).take (i+1),j∈dJ z)↔(∃ z∈(ax n d).take i,j∈dJ z)∨j∈dJ x:=fun j=>by
      rw[tAO,hx];simp only[Option.toList_some,mAp,mSg];constructor
      · rintro⟨z,z1 | rfl,z2⟩
        · exact .inl ⟨z,z1,z2⟩
        · exact .inr z2
      · rintro (⟨z,z1,z2⟩ | z2)
        · exact⟨z,.inl z1,z2⟩
        · exact⟨x,.inr rfl,z2⟩
     refine⟨_,rfl,p,_,_,_,rfl,rfl,hp,pH (j:=0) rfl,rfl,_,rfl,?_⟩;by_cases hv:h="var"
     · refine pJ (by simp[hv]) ?_;subst hv;obtain⟨j,r,rfl,hid⟩:=kr nd;cases hvs with
       | cons b1 b2 =>
        rw[b1.int_of] at hp;refine⟨_,rfl,p,_,_,_,rfl,rfl,hp,pH (j:=1) rfl,_,.inl j,rfl,hai,by rw[gh];omega,?_⟩;rw[jy];refine⟨cy (H:=H) si ha,⟨_,pE,by have:=jN ks j;omega,fun m=>?_⟩,_,rfl⟩;rw[bK,tk1,km];have:dJ x=[j]:=by unfold dJ;rw[if_pos hh,hid]
        rw[this,mSg]
     · refine pI (by simpa using hv) ?_;refine⟨si,⟨ks,hai,by omega,fun m=>?_⟩,_,rfl⟩;rw[tk1,km];have:dJ x=[]:=by unfold dJ;rw[if_neg (by rw[hh];exact hv)]
       rw[this];simp
   · rintro _ σ Hi ⟨si,⟨ks,hai,kl,km⟩,y,rfl⟩;refine q a Hi ks (s1.trans si) (cA s1 ha) hai fun j=>?_;rw[km,zl,List.take_length];exact aT.symm
def fh (n:Nat) (d:PyData) (wd:Str) (ks:List Int) (i:Int):Prop:=(∃ x∈ax n d,hdO x=wd∧du x=some (.int i))∧i∈ks∧i∉iA n d
abbrev sOv:Stmt:=top 11
inductive ve (K:Fg) (vs:List V) (H:Hp) (Q:VK):Prop
  | mk (v:V) (va:Addr) (wd:Str) (d:PyData) (n:Nat) (ks B:List Int) (h0:vs=[v,.ref va,.str wd]) (h1:TD K H v d) (h2:WFd n d) (h3:(ax n d).length≤900000) (h4:H va=some (.dK (sd ks))) (h5:aU wd w8=true) (h6:∀ i,fh n d wd ks i→i∈B) (h7:B.length<64)
    (q:∀ a H' (ys:List Int),ai H H'→H a=none→H' a=some (.lst (ys.map V.int))→ys.Nodup→ys.Pairwise (·≤·)→(∀ i,i∈ys↔fh n d wd ks i)→Q (.ref a) H'):ve K vs H Q
def wq (K:Fg):Sp:=fun vs H Q _=>ve K vs H Q
abbrev nOv:List Str:=["e","variables","word","met","own","meant"]
theorem yU:am nOv ["e","variables","word"] (a0 sOv):=fsM
theorem BI:(["node","word"]:List Str).Nodup:=by decide +kernel
theorem An:(["node","number"]:List Str).Nodup:=by decide +kernel
theorem BF:(["number","variables","own"]:List Str).Nodup:=by decide +kernel
theorem px {H:Hp} {is:List Int} {xs:List V} (h:TDs K H xs (is.map .int)):xs=is.map V.int:=by
 induction is generalizing xs with
 | nil=>cases h;rfl
 | cons i r ih=>cases h with
  | cons a b=>rw[a.int_of,ih b];rfl
theorem uC {H:Hp} {a:Addr} {o:HO} {kvs:List (Key×V)} (h:H a=some (.dK kvs)):Tk H (upd H a o):=fun b xs z=>by
 have ne:b≠a:=fun e=>by
  rw[e] at z
  rcases z with z | ⟨_,z⟩ <;> rw[h] at z <;> cases z
 rcases z with z | ⟨o',z⟩
 · exact .inl (by rw[ad ne];exact z)
 · exact .inr ⟨o',by rw[ad ne];exact z⟩
theorem ud {α:Type} (p:α→Bool) (l:List α) {i:Nat} {x:α} (h:l[i]?=some x) (hp:p x=true):(l.filter p)[((l.take i).filter p).length]?=some x:=by
 have e:l=l.take i++x::l.drop (i+1):=by
  obtain⟨hi,hx⟩:=gES.mp h;rw[← hx,List.getElem_cons_drop,List.take_append_drop]
 conv=>lhs;lhs;rw[e,List.filter_append,List.filter_cons_of_pos hp]
 rw[List.getElem?_append_right (Nat.le_refl _),Nat.sub_self];rfl
theorem zN (D:Def K mg "outer_vars" sOv) (T:Blt mg) (iU:Fn P w K mg base "walked" 2 ["e"] (wn K)) (mF:Fn P w K mg base "bound_by" 1 ["e"] (ww K)):Fn P w K mg base "outer_vars" 3 ["e","variables","word"] (wq K):=by
 refine D.fn yU (fun vs H Q E h=>?_) (fun _ _ _ _ _ _ us hl=>by obtain⟨a,b,c,rfl⟩:=ou hl;rfl) (fun f' cdv A outer s' H vs Q E hr h=>?_)
 · obtain⟨v,va,wd,d,n,ks,B,rfl,_⟩:=h;rfl
 · obtain⟨v,va,wd,d,n,ks,B,rfl,td,wf,hsz,hva,hw8,hB,hB6,q⟩:=h;have nd:=yU.nd;have hu:=eY hr;have hz0:(4000000:Nat)<sizeLine:=by decide
   obtain⟨t3,h3,r3⟩:∃ t,PSs (be CX0 P w K mg base nOv "outer_vars" (a0 sOv) f' cdv A outer s' H E).nox ((ak sOv).drop 3) t ∧
    ∀ (H1:Hp) (oa ma:Addr) (os ms:List Int) (x3:Option V),ai H H1→H1 oa=some (.dK (sd os))→H1 ma=some (.lst (ms.map V.int))→(∀ i,i∈os↔i∈iA n d)→(∀ i,i∈ms↔∃ x∈ax n d,hdO x=wd∧du x=some (.int i))→ms.length≤900000→t {nx:=fun _ H'=>Q .non H',rt:=Q} [some v,some (.ref va),some (.str wd),x3,some (.ref oa),some (.ref ma)] H1:=by
    refine⟨_,(pG (ae (xU (own:=["number"]) (outs:=[(1,"variables"),(4,"own")]) T.sorted rfl (aB.of (a0 sOv) nOv) (bi (pv 5)) (fun _ _ _ _=>⟨(aw (i:=0) BF rfl (Or.inl rfl)),(bG (PW.pt (cZ (lH (qG hu (pv 0) (pv 1))) (bX (lH (jc hu (pv 0) (pv 2))))))),(pv 0)⟩)))),fun H1 oa ma os ms x3 s1 hoa hma om mm ml=>?_⟩;dsimp only[bd]
    let p:Int→Bool:=fun i=>decide (i∈ks)&&!decide (i∈os)
    have pm:∀ i,i∈ms.filter p↔fh n d wd ks i:=fun i=>by
     rw[List.mem_filter,mm];show _∧(decide (i∈ks)&&!decide (i∈os))=true↔_;unfold fh;rw[← om];simp
    refine⟨_,rfl,ma,rfl,⟨_,SqL.of hma⟩,ms.filter p,B,fun i hi=>hB i ((pm i).mp hi),hB6,?_⟩;refine er.by (aI (xs:=ms.map V.int)) (fun i c σ Hi=>Hi=H1∧c=((ms.take i).filter p).length∧∃ y,σ=[y,some (.ref va),some (.ref oa)]) ⟨rfl,rfl,_,rfl⟩ (fun i _ σ Hi _ h=>by rw[h.1];exact SqL.of hma) ?_ ?_
    · rintro i u c σ Hi hui ⟨rfl,rfl,y,rfl⟩;rw[gEM] at hui;obtain⟨j,hj,rfl⟩:=oMS.mp hui;have e1:bP Hi va (.int j) (bj (sd ks) (.inl j)):=bP.k (k:=.inl j) (s1 _ _ hva);have e2:bP Hi oa (.int j) (bj (sd os) (.inl j)):=bP.k (k:=.inl j) hoa;have tk1:((ms.take (i+1)).filter p).length=((ms.take i).filter p).length+(if p j=true then 1 else 0):=by
       rw[tAO,hj,List.filter_append,lAp];congr 1;show ([j].filter p).length=_;by_cases z:p j=true
       · rw[if_pos z,List.filter_cons_of_pos z];rfl
       · rw[if_neg z,List.filter_cons_of_neg z];rfl
      refine⟨_,rfl,_,rfl,va,_,rfl,e1,_,rfl,?_⟩;rw[gg];by_cases a1:j∈ks
      · rw[if_pos a1];refine pJ rfl ?_;refine⟨_,rfl,_,rfl,oa,_,rfl,e2,_,rfl,?_⟩;rw[gg];by_cases a2:j∈os
        · rw[if_pos a2];have pj:¬ p j=true:=by show ¬ (decide (j∈ks)&&!decide (j∈os))=true;simp[a2]
          refine pI (by decide) ⟨rfl,by rw[tk1,if_neg pj];rfl,_,rfl⟩
        · rw[if_neg a2];have pj:p j=true:=by show (decide (j∈ks)&&!decide (j∈os))=true;simp[a1,a2]
          refine pJ rfl ⟨_,rfl,j,rfl,ud p ms hj pj,rfl,by rw[tk1,if_pos pj],_,rfl⟩
      · rw[if_neg a1];refine pI (by decide) ?_;have pj:¬ p j=true:=by show ¬ (decide (j∈ks)&&!decide (j∈os))=true;simp[a1]
        refine pI (by decide) ⟨rfl,by rw[tk1,if_neg pj];rfl,_,rfl⟩
    · rintro c σ Hi ⟨rfl,rfl,y,rfl⟩;refine⟨by rw[lMp,List.take_length],fun l ys hl nd' so hm=>?_⟩;exact q l _ ys (s1.trans (smu hl)) (cA s1 hl) pE nd' so fun i=>(hm i).trans (pm i)
   obtain⟨t2,h2,r2⟩:∃ t,PSs (be CX0 P w K mg base nOv "outer_vars" (a0 sOv) f' cdv A outer s' H E).nox ((ak sOv).drop 2) t ∧
    ∀ (H1:Hp) (oa L:Addr) (os:List Int) (zs:List V) (x5:Option V),ai H H1→H1 oa=some (.dK (sd os))→H1 L=some (.lst zs)→TDs K H1 zs (ax n d)→(∀ i,i∈os↔i∈iA n d)→t {nx:=fun _ H'=>Q .non H',rt:=Q} [some v,some (.ref va),some (.str wd),some (.ref L),some (.ref oa),x5] H1:=by
    refine⟨_,(pD (qt (i0:=5) (own:=["node"]) (outs:=[(2,"word")]) (tc:=bU (tOp rEq (tOp (dG K) (aQ 0) (tC (.int 0))) (aQ 1))) (te:=tOp (dG K) (aQ 0) (tC (.int 1))) rfl (aB.of (a0 sOv) nOv) (bi (pv 3)) (fun _ _ _ _=>⟨(aw (i:=0) BI rfl (Or.inl rfl)),(bG (pM aH (aa a9 (pv 0) pF (fun _ _=>rfl)) (pv 1) (pN _))),(aa a9 (pv 0) pF (fun _ _=>rfl))⟩) nd rfl rfl) h3),fun H1 oa L os zs x5 s1 hoa hL tz om=>?_⟩;dsimp only[bd];rw[ir,gi,dC];refine⟨_,rfl,L,rfl,⟨zs,SqL.of hL⟩,fun G hG=>?_⟩;have k0:=smu (o:=HO.lst []) hG;have zl:=tz.length;refine bt.by (aI (xs:=zs)) (fun i σ Hi=>ai H1 Hi∧(∃ ms:List Int,Hi G=some (.lst (ms.map V.int))∧ms.length≤i∧∀ j,j∈ms↔∃ x∈(ax n d).take i,hdO x=wd∧du x=some (.int j))∧∃ y,σ=[y,some (.str wd)]) ⟨k0,⟨[],pE,Nat.le_refl _,fun j=>by simp⟩,_,rfl⟩ (fun i σ Hi _ h=>SqL.of (h.1 _ _ hL)) ?_ ?_
    · rintro i u σ Hi hui ⟨si,⟨ms,hGi,ml,mm⟩,y,rfl⟩;have hi:i<zs.length:=(gES.mp hui).1;obtain⟨x,hx,tx⟩:=tz.get hui;obtain⟨h,sl,ps,ndx⟩:=dQ wf (mGE hx);obtain⟨p,vs,rfl,hp,hvs⟩:=bR (tx.same si) ndx;have hh:=gJ ndx;have tk1:∀ j,(∃ z∈(ax n d).take (i+1),hdO z=wd∧du z=some (.int j))↔(∃ z∈(ax n d).take i,hdO z=wd∧du z=some (.int j))∨(hdO x=wd∧du x=some (.int j)):=fun j=>by
       rw[tAO,hx];simp only[Option.toList_some,mAp,mSg];constructor
       · rintro⟨z,z1 | rfl,z2⟩
         · exact .inl ⟨z,z1,z2⟩
         · exact .inr z2
       · rintro (⟨z,z1,z2⟩ | z2)
         · exact⟨z,.inl z1,z2⟩
         · exact⟨x,.inr rfl,z2⟩
      rw[bh];refine⟨_,rfl,p,_,_,_,rfl,rfl,hp,pH (j:=0) rfl,_,rfl,rfl,_,rfl,?_⟩;by_cases hv:h=wd
      · refine pJ (by simp[hv]) ?_;subst hv;obtain⟨j,r,rfl,hid⟩:=kL ndx hw8;cases hvs with
        | cons b1 b2 =>
         rw[b1.int_of] at hp;refine⟨_,rfl,p,_,_,_,rfl,rfl,hp,pH (j:=1) rfl,_,hGi,by rw[lMp];omega,cy (H:=H) si hG,⟨ms++[j],by rw[pE,List.map_append];rfl,by simp;omega,fun m=>?_⟩,_,rfl⟩;rw[mAp,tk1,mm,mSg];constructor
         · rintro (z | rfl)
           · exact .inl z
           · exact .inr ⟨hh,hid⟩
         · rintro (z | ⟨_,z⟩)
           · exact .inl z
           · rw[hid] at z;cases z;exact .inr rfl
      · refine pI (by simpa using hv) ⟨si,⟨ms,hGi,by omega,fun m=>?_⟩,_,rfl⟩;rw[tk1,mm];constructor
        · exact .inl
        · rintro (z | ⟨z,_⟩)
          · exact z
          · exact absurd (hh.symm.trans z) hv
    · rintro σ Hi ⟨si,⟨ms,hGi,ml,mm⟩,y,rfl⟩;rw[zl] at ml mm;rw[List.take_length] at mm;exact r3 Hi oa G os ms _ (s1.trans si) (si _ _ hoa) hGi om mm (by omega)
   refine⟨_,(pD (pL (i:=3) nd rfl (Or.inl rfl) (ab iU (hr.mono (by decide)) rfl (pA (pv 0) pB)))
 (pD (pL (i:=4) nd rfl (Or.inr rfl) (wV (own:=["node","number"]) (outs:=[]) (wi2:=xu K (ij (ww K) [] E0 (cb (aQ 0) ii))) rfl (aB.of (a0 sOv) nOv) (bi (pv 3)) (fun _ _ _ _=>⟨(aw (i:=0) An rfl (Or.inl rfl)),cf,jB (ab mF (hr.mono (by decide)) rfl (pA (pv 0) pB)),(aw (i:=1) An rfl (Or.inl rfl)),cf,(pv 1),bD⟩))) h2)),?_⟩
   dsimp only[bd];refine⟨_,rfl,v,d,n,rfl,td,wf,hsz,fun L H1 zs s1 hL hz tz=>?_⟩;refine⟨_,rfl,L,rfl,⟨zs,SqL.of hz⟩,fun a ha=>?_⟩;have k0:=smu (o:=HO.dK []) ha;have zl:=tz.length;refine er.by (aI (xs:=zs)) (fun i _ σ Hi=>ai H1 Hi∧(∃ os,Hi a=some (.dK (sd os))∧os.length≤3*i∧∀ j,j∈os↔∃ x∈(ax n d).take i,j∈cK x)∧∃ y1 y2,σ=[y1,y2]) ⟨k0,⟨[],pE,Nat.le_refl _,fun j=>by simp⟩,_,_,rfl⟩ (fun i _ σ Hi _ h=>SqL.of (h.1 _ _ hz)) ?_ ?_
   · rintro i u _ σ Hi hui ⟨si,⟨os,hai,ol,om⟩,y1,y2,rfl⟩;have hi:i<zs.length:=(gES.mp hui).1;obtain⟨x,hx,tx⟩:=tz.get hui;obtain⟨h,sl,ps,ndx⟩:=dQ wf (mGE hx);obtain⟨eb,il⟩:=nF ndx;rw[bh,dM];refine cB ⟨_,rfl,u,x,h,sl,ps,rfl,tx.same si,ndx,fun v' H' s' tv'=>?_⟩;rw[eb] at tv';obtain⟨b,ys,rfl,hb,hy⟩:=tv'.tup_of;have ey:=px hy;subst ey;refine⟨b,rfl,⟨_,hb⟩,?_⟩;refine er.by (dn (xs:=(cK x).map V.int)) (fun k _ σ Hk=>ai H1 Hk∧SqT K Hk b ((cK x).map V.int)∧(∃ os',Hk a=some (.dK (sd os'))∧os'.length≤3*i+k∧∀ j,j∈os'↔(∃ z∈(ax n d).take i,j∈cK z)∨j∈(cK x).take k)∧∃ y1 y2,σ=[y1,y2]) ⟨si.trans s',hb,⟨os,s' _ _ hai,by omega,fun j=>by rw[om];simp⟩,_,_,rfl⟩ (fun k _ σ Hk _ h=>h.2.1) ?_ ?_
     · rintro k u2 _ σ Hk huk ⟨sk,hbk,⟨os',hak,ok,ok2⟩,z1,z2,rfl⟩;rw[gEM] at huk;obtain⟨j,hj,rfl⟩:=oMS.mp huk;have hk:k<(cK x).length:=(gES.mp hj).1;rw[bh,dM];refine cB ⟨_,rfl,_,.inl j,rfl,hak,by rw[gh];omega,?_⟩;rw[jy];refine⟨cy (H:=H) sk ha,hbk.tk (uC hak),⟨_,pE,by have:=jN os' j;omega,fun m=>?_⟩,_,_,rfl⟩;rw[bK,ok2,tAO,hj,mAp];simp only[Option.toList_some,mSg,or_assoc]
     · rintro _ σ Hk ⟨sk,hbk,⟨os',hak,ok,ok2⟩,z1,z2,rfl⟩;rw[lMp] at ok ok2;refine⟨sk,⟨os',hak,by omega,fun j=>?_⟩,_,_,rfl⟩;rw[ok2,List.take_length,tAO,hx];simp only[Option.toList_some,mAp,mSg];constructor
       · rintro (⟨z,a1,a2⟩ | a1)
         · exact⟨z,.inl a1,a2⟩
         · exact⟨x,.inr rfl,a1⟩
       · rintro⟨z,a1 | rfl,a2⟩
         · exact .inl ⟨z,a1,a2⟩
         · exact .inr a2
   · rintro _ σ Hi ⟨si,⟨os,hai,ol,om⟩,y1,y2,rfl⟩;rw[zl,List.take_length] at om;exact r2 Hi a L os zs _ (s1.trans si) hai (si _ _ hz) (tz.same si) fun j=>(om j).trans aT.symm
end
end K23
namespace P10
open PySem L2
structure Gam where
  hs:List (Str×Nat)
  own:Nat
  rs:List Nat
def Gam.oh (Γ:Gam):Str:=((Γ.hs[Γ.own]?).map (·.1)).getD ""
def iS (Γ:Gam) (x:PyData):Prop:=hdO x="call"→∃ (f:Nat) (h:Str) (c:Nat) (as:PDs),x=.tuple [.str "call",.int ((f:Nat):Int),.tuple as]∧Γ.hs[f]?=some (h,c)∧as.length=c∧(h="deep"∨h="function"∧(Γ.own<f∨Γ.oh≠"function"))
abbrev sh (i:Int):Prop:=-10<i∧i<1000000
abbrev okS (s:Str):Bool:=s.cps.toList.all fun c=>decide (c<16 ^ 8)
abbrev wOk (s:Str):Prop:=(PyData.str s).canLay0=true∧s.cps.size≤8∧okS s=true
mutual
inductive Sz:Nat→PyData→Prop
  | int {w:Nat} {i:Int} (h:sh i) (hw:20≤w):Sz w (.int i)
  | str {w:Nat} {s:Str} (h:okS s=true) (hw:s.cps.size≤w):Sz w (.str s)
  | tup {w:Nat} {ds:PDs} (h:SzL w ds):Sz w (.tuple ds)
inductive SzL:Nat→PDs→Prop
  | nil {w:Nat}:SzL w []
  | cons {w a b:Nat} {d:PyData} {ds:PDs} (h:Sz a d) (t:SzL b ds) (hw:a+1+b≤w):SzL w (d::ds)
end
theorem SzL.mono {w w':Nat} {ds:PDs} (h:SzL w ds) (hw:w≤w'):SzL w' ds:=by
 cases h with
 | nil=>exact .nil
 | cons a b c=>exact .cons a b (by omega)
theorem Sz.mono {w w':Nat} {d:PyData} (h:Sz w d) (hw:w≤w'):Sz w' d:=by
 cases h with
 | int a b=>exact .int a (by omega)
 | str a b=>exact .str a (by omega)
 | tup a=>exact .tup (a.mono hw)
theorem pQ {is:List Int} (h:∀ i∈is,sh i):SzL (is.length*21) (is.map .int):=by
 induction is with
 | nil=>exact .nil
 | cons i r ih=>exact .cons (.int (h i mCS) (Nat.le_refl 20)) (ih fun x hx=>h x (mCM _ hx)) (by rw[List.length_cons,Nat.succ_mul];omega)
def wb:Nat→Nat
  | 0=>0
  | n+1=>(if n % 2=1 then 4 else 2)*wb n+40
theorem cF {n:Nat} (h:n % 2=1):wb (n+1)=4*wb n+40:=by show (if n % 2=1 then 4 else 2)*wb n+40=_;rw[if_pos h]
theorem bC (n:Nat):2*wb n+40≤wb (n+1):=by
 show _≤(if n % 2=1 then 4 else 2)*wb n+40;split <;> omega
theorem rW {n m:Nat} (h:n≤m):wb n≤wb m:=by
 induction m with
 | zero=>rw[Nat.le_zero.mp h];exact Nat.le_refl _
 | succ m ih =>
  rcases Nat.lt_or_ge m n with z | z
  · rw[Nat.le_antisymm h z];exact Nat.le_refl _
  · have:=ih z;have:=bC m;omega
theorem oY {n:Nat} (h:n≠0):40≤wb n:=by
 cases n with
 | zero=>exact absurd rfl h
 | succ n=>have:=bC n;omega
structure XE (Γ:Gam) (L W:List Int) (n:Nat) (c:Int) (d:PyData) (c':Int):Prop where
  ok:OkE (L++W) n d
  cn:CnD n c d c'
  fo:bV L n d
  an:fW (iS Γ) n d
  cc:c≤c'∧c'≤c+((wb n:Nat):Int)
  li:(∀ i∈L++W,sh i)→0≤c→c+((wb n:Nat):Int)≤1000000→Sz (wb n) d
theorem XE.more {Γ:Gam} {L W:List Int} {n m:Nat} {c c':Int} {d:PyData} (h:XE Γ L W n c d c') (hn:n≤m):XE Γ L W m c d c' :=
 have z:=rW hn;have z2:=h.cc
 ⟨h.ok.more hn,h.cn.more hn,h.fo.more h.ok.wf hn,h.an.more h.ok.wf hn,⟨z2.1,by omega⟩,fun a b e=>(h.li a b (by omega)).mono z⟩
theorem XE.ne0 {Γ:Gam} {L W:List Int} {n:Nat} {c c':Int} {d:PyData} (h:XE Γ L W n c d c'):n≠0:=fun e=>by
 have:=h.ok.wf;rw[e] at this;exact this.elim
def XEs (Γ:Gam) (L W:List Int) (n:Nat):Int→PDs→Int→Prop
  | c,[],c'=>c'=c
  | c,d::r,c'=>∃ l,XE Γ L W n c d l∧XEs Γ L W n l r c'
section
variable {Γ:Gam} {L W:List Int} {n:Nat} {c c' l:Int} {d:PyData} {ds:PDs}
theorem XEs.more {m:Nat} (hn:n≤m):∀ {ds:PDs} {c:Int},XEs Γ L W n c ds c'→XEs Γ L W m c ds c':=by
 intro ds
 induction ds with
 | nil=>exact fun h=>h
 | cons d r ih=>rintro c ⟨l,h1,h2⟩;exact⟨l,h1.more hn,ih h2⟩
theorem XEs.cn:∀ {ds:PDs} {c:Int},XEs Γ L W n c ds c'→CnL (CnD n) c ds c':=by
 intro ds
 induction ds with
 | nil=>exact fun h=>h
 | cons d r ih=>rintro c ⟨l,h1,h2⟩;exact⟨l,h1.cn,ih h2⟩
theorem XEs.mem:∀ {ds:PDs} {c:Int},XEs Γ L W n c ds c'→∀ x∈ds,OkE (L++W) n x∧bV L n x∧fW (iS Γ) n x:=by
 intro ds
 induction ds with
 | nil=>exact fun _ x hx=>by cases hx
 | cons d r ih =>
  rintro c ⟨l,h1,h2⟩ x hx
  rcases List.mem_cons.mp hx with rfl | hx
  · exact⟨h1.ok,h1.fo,h1.an⟩
  · exact ih h2 x hx
theorem XEs.snoc:∀ {ds:PDs} {c:Int},XEs Γ L W n c ds l→XE Γ L W n l d c'→XEs Γ L W n c (ds++[d]) c':=by
 intro ds
 induction ds with
 | nil=>intro c h z;cases (show l=c from h);exact⟨c',z,rfl⟩
 | cons y r ih=>rintro c ⟨l',h1,h2⟩ z;exact⟨l',h1,ih h2 z⟩
theorem XEs.cc:∀ {ds:PDs} {c:Int},XEs Γ L W n c ds c'→c≤c'∧c'≤c+((ds.length*wb n:Nat):Int):=by
 intro ds
 induction ds with
 | nil=>intro c h;cases (show c'=c from h);exact⟨Int.le_refl _,by simp⟩
 | cons d r ih =>
  rintro c ⟨l,h1,h2⟩;have a:=h1.cc;have b:=ih h2;have e:(d::r).length*wb n=r.length*wb n+wb n:=Nat.succ_mul _ _;rw[e];exact⟨by omega,by omega⟩
theorem XEs.li (hs:∀ i∈L++W,sh i):∀ {ds:PDs} {c:Int},XEs Γ L W n c ds c'→0≤c→c+((ds.length*wb n:Nat):Int)≤1000000→SzL (ds.length*(wb n+1)) ds:=by
 intro ds
 induction ds with
 | nil=>exact fun _ _ _=>.nil
 | cons d r ih =>
  rintro c ⟨l,h1,h2⟩ c0 hc;have a:=h1.cc;have e:(d::r).length*wb n=r.length*wb n+wb n:=Nat.succ_mul _ _;have e2:(d::r).length*(wb n+1)=r.length*(wb n+1)+(wb n+1):=Nat.succ_mul _ _;rw[e] at hc;rw[e2];exact .cons (h1.li hs c0 (by omega)) (ih h2 (by omega) (by omega)) (by omega)
theorem XE.one (h:XE Γ L W n c d c'):XEs Γ L W n c [d] c':=⟨c',h,rfl⟩
def Prt (n:Nat) (p:PyData):Prop:=(∃ i,p=.int i)∨(∃ s,p=.str s∧(PyData.str s).canLay0=true)∨(p.canLay0=true∧p.depth≤2*n)∨∃ ds,p=.tuple ds∧∀ x∈ds,x.canLay0=true∧x.depth≤2*n
theorem Prt.lay {p:PyData} (h:Prt n p):p.canLay0=true∧p.depth≤2*n+1:=by
 rcases h with ⟨i,rfl⟩ | ⟨s,rfl,hs⟩ | ⟨h1,h2⟩ | ⟨ds,rfl,h⟩
 · exact⟨rfl,Nat.zero_le _⟩
 · exact⟨hs,by simp only[PyData.depth];omega⟩
 · exact⟨h1,by omega⟩
 · exact⟨nj fun x hx=>(h x hx).1,nq fun x hx=>(h x hx).2⟩
theorem ce {B:List Int} (h:OkE B n d):Prt n d:=.inr (.inr (.inl ⟨h.lay,h.dep⟩))
theorem gj (h:XEs Γ L W n c ds c'):Prt n (.tuple ds):=.inr (.inr (.inr ⟨ds,rfl,fun x hx=>⟨(h.mem x hx).1.lay,(h.mem x hx).1.dep⟩⟩))
theorem XE.plainG {h:Str} {sl:List Str} {ps:PDs} (hm:(h,sl)∈tbl) (shp:Paired Shp sl ps) (hk:aX sl ps=ds) (kl:ds.length≤8) (hp:∀ p∈ps,Prt n p) (z:XEs Γ L W n c ds c') (np:iS Γ (.tuple (.str h::ps))) (wc:c≤c'∧c'≤c+((wb (n+1):Nat):Int)) (wz:(∀ i∈L++W,sh i)→0≤c→c+((wb (n+1):Nat):Int)≤1000000→Sz (wb (n+1)) (.tuple (.str h::ps)))
 (hs:(PyData.str h).canLay0=true:=by decide +kernel) (h1:aU h w2=false:=by decide +kernel) (h2:h≠"fun":=by decide +kernel) (h8:aU h w8=false:=by decide +kernel):XE Γ L W (n+1) c (.tuple (.str h::ps)) c':=by
 obtain⟨ok,ek⟩:=OkE.make (B:=L++W) (n:=n) (ks:=ds) hm hs shp hk (fun x hx=>(hp x hx).lay.1) (fun x hx=>(hp x hx).lay.2) kl (fun x hx=>(z.mem x hx).1) h8;refine⟨ok,CnD.plain ek z.cn h1 h2,bV.node (fun x hx=>?_) (fun e=>absurd e h2),fW.node np fun x hx=>?_,wc,wz⟩
 · rw[ek] at hx;exact (z.mem x hx).2.1.wide fun i hi=>List.mem_append_left _ hi
 · rw[ek] at hx;exact (z.mem x hx).2.2
theorem XE.plain {h:Str} {sl:List Str} {ps:PDs} (hm:(h,sl)∈tbl) (shp:Paired Shp sl ps) (hk:aX sl ps=ds) (kl:ds.length≤8) (hp:∀ p∈ps,Prt n p) (z:XEs Γ L W n c ds c') (np:iS Γ (.tuple (.str h::ps))) (wc:ds.length*wb n≤wb (n+1)) (wz:(∀ i∈L++W,sh i)→SzL (ds.length*(wb n+1)) ds→SzL (wb (n+1)) (.str h::ps))
 (hs:(PyData.str h).canLay0=true:=by decide +kernel) (h1:aU h w2=false:=by decide +kernel) (h2:h≠"fun":=by decide +kernel) (h8:aU h w8=false:=by decide +kernel):XE Γ L W (n+1) c (.tuple (.str h::ps)) c' :=
 have zc:=z.cc
 XE.plainG hm shp hk kl hp z np ⟨zc.1,by omega⟩ (fun a b e=>.tup (wz a (z.li a b (by omega)))) hs h1 h2 h8
theorem bE {h:Str} {ps:PDs} (hh:h≠"call"):iS Γ (.tuple (.str h::ps)):=fun e=>absurd e hh
theorem sS {s:Str} {w b:Nat} {ds:PDs} (t:SzL b ds) (hw:s.cps.size+1+b≤w) (h:okS s=true:=by decide +kernel):SzL w (.str s::ds):=.cons (.str h (Nat.le_refl _)) t hw
theorem sI {i:Int} {w b:Nat} {ds:PDs} (h:sh i) (t:SzL b ds) (hw:21+b≤w):SzL w (.int i::ds):=.cons (.int h (Nat.le_refl 20)) t hw
theorem sM {w a b:Nat} {ks ds:PDs} (h:SzL a ks) (t:SzL b ds) (hw:a+1+b≤w):SzL w (.tuple ks::ds):=.cons (.tup h) t hw
theorem s0:SzL 0 []:=.nil
theorem fC {i:Int} (hi:sh i):XE Γ L W (n+1) c (.tuple [.str "number",.int i]) c:=by
 refine XE.plain (ds:=[]) (sl:=["number"]) (by decide +kernel) (.cons (iY (by decide +kernel)) .nil) rfl (by decide) (fun p hp=>?_) rfl (bE (by decide +kernel)) (by simp) (fun _ _=>sS (sI hi s0 (Nat.le_refl 21)) (by have:=bC n;show 6+1+21≤_;omega));rw[mSg.mp hp];exact .inl ⟨i,rfl⟩
theorem rT {s:Str} (hs:wOk s):XE Γ L W (n+1) c (.tuple [.str "fault",.str s]) c:=by
 refine XE.plain (ds:=[]) (sl:=["word"]) (by decide +kernel) (.cons (yN (by decide +kernel)) .nil) rfl (by decide) (fun p hp=>?_) rfl (bE (by decide +kernel)) (by simp) (fun _ _=>sS (sS (w:=9) s0 (by have:=hs.2.1;omega) hs.2.2) (by have:=bC n;show 5+1+9≤_;omega));rw[mSg.mp hp];exact .inr (.inl ⟨s,rfl,hs.1⟩)
theorem ln {i:Int} (hi:i∈L++W):XE Γ L W (n+1) c (.tuple [.str "name",.int i]) c:=by
 have hm:(("name":Str),(["meant"]:List Str))∈tbl:=by decide +kernel
 have shp:Paired Shp (["meant"]:List Str) [PyData.int i]:=.cons (iY (by decide +kernel)) .nil;obtain⟨ok,ek⟩:=OkE.makeM (B:=L++W) (n:=n) (ks:=[]) hm (by decide +kernel) shp rfl (fun x hx=>by rw[mSg.mp hx];rfl) (fun x hx=>by rw[mSg.mp hx];exact Nat.zero_le _) (by decide) (fun x hx=>by cases hx) (fun j e=>by
   have:j0 "name" [PyData.int i]=some (.int i):=by unfold j0;rw[if_pos (by decide +kernel)];rfl
   rw[this] at e;cases e;exact hi)
 refine⟨ok,CnD.plain (i:=c) (j:=c) ek rfl,bV.node (fun x hx=>?_) (fun e=>absurd (show ("name":Str)="fun" from e) (by decide +kernel)),fW.node (bE (by decide +kernel)) fun x hx=>?_,⟨Int.le_refl _,by omega⟩,fun a _ _=>.tup (sS (sI (a i hi) s0 (Nat.le_refl 21)) (by have:=bC n;show 4+1+21≤_;omega))⟩
 · rw[ek] at hx;cases hx
 · rw[ek] at hx;cases hx
theorem uB {i:Int} (hi:i∈W) (h:XE Γ L W n c d c'):XE Γ L W (n+1) c (.tuple [.str "set",.int i,d]) c':=by
 have hm:(("set":Str),(["meant","one"]:List Str))∈tbl:=by decide +kernel
 have shp:Paired Shp (["meant","one"]:List Str) [PyData.int i,d]:=.cons (iY (by decide +kernel)) (.cons dq .nil);have hp:∀ p∈[PyData.int i,d],Prt n p:=fun p hp=>by
  rcases List.mem_cons.mp hp with rfl | hp
  · exact .inl ⟨i,rfl⟩
  · rw[mSg.mp hp];exact ce h.ok
 obtain⟨ok,ek⟩:=OkE.makeM (B:=L++W) (n:=n) (ks:=[d]) hm (by decide +kernel) shp rfl (fun x hx=>(hp x hx).lay.1) (fun x hx=>(hp x hx).lay.2) (by show 1≤8;decide) (fun x hx=>by rw[mSg.mp hx];exact h.ok) (fun j e=>by
   have:j0 "set" [PyData.int i,d]=some (.int i):=by unfold j0;rw[if_pos (by decide +kernel)];rfl
   rw[this] at e;cases e;exact List.mem_append_right _ hi)
 have hcc:=h.cc;have hw2:=bC n;refine⟨ok,CnD.plain ek h.one.cn,bV.node (fun x hx=>?_) (fun e=>absurd (show ("set":Str)="fun" from e) (by decide +kernel)),fW.node (bE (by decide +kernel)) fun x hx=>?_,⟨hcc.1,by omega⟩,fun a b e=>.tup (sS (sI (a i (List.mem_append_right _ hi)) (.cons (h.li a b (by omega)) s0 (Nat.le_refl (wb n+1))) (Nat.le_refl _)) (by show 3+1+(21+(wb n+1))≤_;omega))⟩
 · rw[ek] at hx;rw[mSg.mp hx];exact h.fo.wide fun i hi=>List.mem_append_left _ hi
 · rw[ek] at hx;rw[mSg.mp hx];exact h.an
theorem bS {k m:Nat} (h:k≤m) (w:Nat):k*w≤m*w:=Nat.mul_le_mul_right _ h
theorem vR (z:XEs Γ L W n c ds c') (kl:ds.length≤4) (ho:n % 2=1:=by omega):XE Γ L W (n+1) c (.tuple [.str "do",.tuple ds]) c':=by
 refine XE.plain (sl:=["many"]) (by decide +kernel) (.cons nX .nil) (by show ds++[]=ds;exact List.append_nil _) (by omega) (fun p hp=>?_) z (bE (by decide +kernel)) (by rw[cF ho];have:=bS kl (wb n);omega) (fun _ y=>sS (sM y s0 (Nat.le_refl _)) (by rw[cF ho];have:=bS kl (wb n+1);show 2+1+_≤_;omega));rw[mSg.mp hp];exact gj z
theorem ye {a b e:PyData} {l l':Int} (ha:XE Γ L W n c a l) (hb:XE Γ L W n l b l') (he:XE Γ L W n l' e c') (ho:n % 2=1:=by omega):XE Γ L W (n+1) c (.tuple [.str "if",a,b,e]) c':=by
 refine XE.plain (sl:=["one","one","one"]) (ds:=[a,b,e]) (by decide +kernel) (.cons dq (.cons dq (.cons dq .nil))) rfl (by show 3≤8;decide) (fun p hp=>?_) ⟨l,ha,l',hb,c',he,rfl⟩ (bE (by decide +kernel)) (by rw[cF ho];show 3*wb n≤_;omega) (fun _ y=>sS y (by rw[cF ho];show 2+1+3*(wb n+1)≤_;omega));simp only[List.mem_cons,nMN,or_false] at hp
 rcases hp with rfl | rfl | rfl
 · exact ce ha.ok
 · exact ce hb.ok
 · exact ce he.ok
theorem rS {a b:PyData} {l:Int} (ha:XE Γ L W n c a l) (hb:XE Γ L W n l b c'):XE Γ L W (n+1) c (.tuple [.str "while",a,b]) c':=by
 refine XE.plain (sl:=["one","one"]) (ds:=[a,b]) (by decide +kernel) (.cons dq (.cons dq .nil)) rfl (by show 2≤8;decide) (fun p hp=>?_) ⟨l,ha,c',hb,rfl⟩ (bE (by decide +kernel)) (by have:=bC n;show 2*wb n≤_;omega) (fun _ y=>sS y (by have:=bC n;show 5+1+2*(wb n+1)≤_;omega));simp only[List.mem_cons,nMN,or_false] at hp
 rcases hp with rfl | rfl
 · exact ce ha.ok
 · exact ce hb.ok
theorem oW {a:PyData} (ha:XE Γ L W n c a c'):XE Γ L W (n+1) c (.tuple [.str "say",a]) c':=by
 refine XE.plain (sl:=["one"]) (ds:=[a]) (by decide +kernel) (.cons dq .nil) rfl (by show 1≤8;decide) (fun p hp=>?_) ha.one (bE (by decide +kernel)) (by have:=bC n;show 1*wb n≤_;omega) (fun _ y=>sS y (by have:=bC n;show 3+1+1*(wb n+1)≤_;omega));rw[mSg.mp hp];exact ce ha.ok
theorem oX {s:Str} (hs:wOk s) (z:XEs Γ L W n c ds c') (kl:ds.length≤3) (ho:n % 2=1:=by omega):XE Γ L W (n+1) c (.tuple [.str "op",.str s,.tuple ds]) c':=by
 refine XE.plain (sl:=["op","many"]) (by decide +kernel) (.cons (yN (by decide +kernel)) (.cons nX .nil)) (by show []++(ds++[])=ds;simp) (by omega) (fun p hp=>?_) z (bE (by decide +kernel)) (by rw[cF ho];have:=bS kl (wb n);omega) (fun _ y=>sS (sS (sM y s0 (Nat.le_refl _)) (Nat.le_refl _) hs.2.2) (by rw[cF ho];have:=bS kl (wb n+1);have:=hs.2.1;show 2+1+_≤_;omega))
 rcases List.mem_cons.mp hp with rfl | hp
 · exact .inr (.inl ⟨s,rfl,hs.1⟩)
 · rw[mSg.mp hp];exact gj z
theorem yd {a b e:PyData} {l l':Int} (ha:XE Γ L W n c a l) (hb:XE Γ L W n l b l') (he:XE Γ L W n l' e c') (ho:n % 2=1:=by omega):XE Γ L W (n+2) c (.tuple [.str "if",.tuple [.str "op",.str "not",.tuple [a]],b,e]) c':=by
 have x1:XE Γ L W (n+1) c (.tuple [.str "op",.str "not",.tuple [a]]) l:=oX (by decide +kernel) ha.one (by show 1≤3;decide) ho;have c1:=ha.cc;have c2:=hb.cc;have c3:=he.cc;have w1:=cF ho;have w2:=bC (n+1);refine XE.plainG (n:=n+1) (sl:=["one","one","one"]) (ds:=[.tuple [.str "op",.str "not",.tuple [a]],b,e]) (by decide +kernel) (.cons dq (.cons dq (.cons dq .nil))) rfl (by show 3≤8;decide) (fun p hp=>?_) ⟨l,x1,l',hb.more (by omega),c',he.more (by omega),rfl⟩ (bE (by decide +kernel)) ⟨by omega,by omega⟩ (fun s b0 e0=>.tup (sS (sM (sS (sS (sM (.cons (ha.li s b0 (by omega)) s0 (Nat.le_refl (wb n+1))) s0 (Nat.le_refl _)) (Nat.le_refl _)) (Nat.le_refl _)) (.cons (hb.li s (by omega) (by omega)) (.cons (he.li s (by omega) (by omega)) s0 (Nat.le_refl (wb n+1))) (Nat.le_refl _)) (Nat.le_refl _)) (by show 2+1+(2+1+(3+1+(wb n+1+1+0))+1+(wb n+1+(wb n+1)))≤_;omega)));simp only[List.mem_cons,nMN,or_false] at hp
 rcases hp with rfl | rfl | rfl
 · exact ce x1.ok
 · exact ce (hb.more (m:=n+1) (by omega)).ok
 · exact ce (he.more (m:=n+1) (by omega)).ok
theorem y9 {r:Int} (hr:sh r) (z:XEs Γ L W n c ds c') (kl:ds.length≤3) (ho:n % 2=1:=by omega):XE Γ L W (n+1) c (.tuple [.str "new",.int r,.tuple ds]) c':=by
 refine XE.plain (sl:=["place","many"]) (by decide +kernel) (.cons (iY (by decide +kernel)) (.cons nX .nil)) (by show []++(ds++[])=ds;simp) (by omega) (fun p hp=>?_) z (bE (by decide +kernel)) (by rw[cF ho];have:=bS kl (wb n);omega) (fun _ y=>sS (sI hr (sM y s0 (Nat.le_refl _)) (Nat.le_refl _)) (by rw[cF ho];have:=bS kl (wb n+1);show 3+1+_≤_;omega))
 rcases List.mem_cons.mp hp with rfl | hp
 · exact .inl ⟨r,rfl⟩
 · rw[mSg.mp hp];exact gj z
theorem yf {r k:Int} {a:PyData} (hr:sh r) (hk:sh k) (ha:XE Γ L W n c a c'):XE Γ L W (n+1) c (.tuple [.str "get",.int r,.int k,a]) c':=by
 refine XE.plain (sl:=["place","place","one"]) (ds:=[a]) (by decide +kernel) (.cons (iY (by decide +kernel)) (.cons (iY (by decide +kernel)) (.cons dq .nil))) rfl (by show 1≤8;decide) (fun p hp=>?_) ha.one (bE (by decide +kernel)) (by have:=bC n;show 1*wb n≤_;omega) (fun _ y=>sS (sI hr (sI hk y (Nat.le_refl _)) (Nat.le_refl _)) (by have:=bC n;have:=oY ha.ne0;show 3+1+(21+(21+1*(wb n+1)))≤_;omega));simp only[List.mem_cons,nMN,or_false] at hp
 rcases hp with rfl | rfl | rfl
 · exact .inl ⟨r,rfl⟩
 · exact .inl ⟨k,rfl⟩
 · exact ce ha.ok
theorem mH {a:PyData} (ha:XE Γ L W n c a l) (z:XEs Γ L W n l ds c') (kl:ds.length≤2) (ho:n % 2=1:=by omega):XE Γ L W (n+1) c (.tuple [.str "apply",a,.tuple ds]) c':=by
 refine XE.plain (sl:=["one","many"]) (ds:=a::ds) (by decide +kernel) (.cons dq (.cons nX .nil)) (by show [a]++(ds++[])=a::ds;simp) (by simp;omega) (fun p hp=>?_) ⟨l,ha,z⟩ (bE (by decide +kernel)) (by rw[cF ho];have:=bS (show (a::ds).length≤3 by simp;omega) (wb n);omega) (fun _ y=>by
   have e:(a::ds).length*(wb n+1)=ds.length*(wb n+1)+(wb n+1):=Nat.succ_mul _ _;rw[e] at y;cases y with
   | cons p q hw=>exact sS (.cons p (sM q s0 (Nat.le_refl _)) (Nat.le_refl _)) (by rw[cF ho];have:=bS kl (wb n+1);show 5+1+_≤_;omega))
 rcases List.mem_cons.mp hp with rfl | hp
 · exact ce ha.ok
 · rw[mSg.mp hp];exact gj z
theorem vS {f:Nat} {h:Str} {k:Nat} (hf:Γ.hs[f]?=some (h,k)) (hk:h="deep"∨h="function"∧(Γ.own<f∨Γ.oh≠"function")) (z:XEs Γ L W n c ds c') (hl:ds.length=k) (kl:k≤2) (hf10:f<1000):XE Γ L W (n+1) c (.tuple [.str "call",.int ((f:Nat):Int),.tuple ds]) c':=by
 refine XE.plain (sl:=["place","many"]) (by decide +kernel) (.cons (iY (by decide +kernel)) (.cons nX .nil)) (by show []++(ds++[])=ds;simp) (by omega) (fun p hp=>?_) z (fun _=>⟨f,h,k,ds,rfl,hf,hl,hk⟩) (by have:=bC n;have:=bS (show ds.length≤2 by omega) (wb n);omega) (fun _ y=>sS (sI ⟨by omega,by omega⟩ (sM y s0 (Nat.le_refl _)) (Nat.le_refl _)) (by have:=bC n;have:=bS (show ds.length≤2 by omega) (wb n+1);show 4+1+_≤_;omega))
 rcases List.mem_cons.mp hp with rfl | hp
 · exact .inl ⟨_,rfl⟩
 · rw[mSg.mp hp];exact gj z
theorem yc {h:Str} {a b:PyData} (hh:h="let"∨h="each") (ha:XE Γ L W n (c+1) a l) (hb:XE Γ (L++[c]) W n l b c'):XE Γ L W (n+1) c (.tuple [.str h,.int c,a,b]) c':=by
 have hm:(h,(["bound","one","one"]:List Str))∈tbl:=by rcases hh with rfl | rfl <;> decide +kernel
 have e2:aU h w2=true:=by rcases hh with rfl | rfl <;> decide +kernel
 have e8:aU h w8=false:=by rcases hh with rfl | rfl <;> decide +kernel
 have hs:(PyData.str h).canLay0=true:=by rcases hh with rfl | rfl <;> decide +kernel
 have hf:h≠"fun":=by rcases hh with rfl | rfl <;> decide +kernel
 have hv:h≠"var":=by rcases hh with rfl | rfl <;> decide +kernel
 have hc:h≠"call":=by rcases hh with rfl | rfl <;> decide +kernel
 have shp:Paired Shp (["bound","one","one"]:List Str) [PyData.int c,a,b]:=.cons (iY (by decide +kernel)) (.cons dq (.cons dq .nil));have hbd:l6 (.tuple [.str h,.int c,a,b])=[.int c]:=by show cL h [.int c,a,b]=_;unfold cL;rw[if_pos e2];rfl
 have ek0:aj (.tuple (.str h::[.int c,a,b]))=[a,b]:=fK (ks:=[a,b]) hm shp rfl (by show 2≤8;decide);have hp:∀ p∈[PyData.int c,a,b],Prt n p:=fun p hp=>by
  simp only[List.mem_cons,nMN,or_false] at hp
  rcases hp with rfl | rfl | rfl
  · exact .inl ⟨c,rfl⟩
  · exact ce ha.ok
  · exact ce hb.ok
 obtain⟨ok,ek⟩:=OkE.makeG (B:=L++W) (B':=L++[c]++W) (n:=n) (ks:=[a,b]) hm hs shp rfl (fun x hx=>(hp x hx).lay.1) (fun x hx=>(hp x hx).lay.2) (by show 2≤8;decide) (fun x hx=>by
     simp only[List.mem_cons,nMN,or_false] at hx
     rcases hx with rfl | rfl
     · exact ha.ok.wide fun i hi=>by simp at hi ⊢;rcases hi with hi | hi <;> simp[hi]
     · exact hb.ok) (fun i z=>by
     rcases z with z | ⟨k,x,h1,h2,h3⟩
     · rw[show du (.tuple (.str h::[.int c,a,b]))=none from jJ e8] at z;cases z
     · rw[ek0] at h1 h3
       match k,h1 with
       | 0,h1=>cases h1;exact ha.ok.cl i h2
       | 1,h1 =>
         cases h1;have:=hb.ok.cl i h2;have hn:=h3 rfl;rw[hbd] at hn;simp at this hn ⊢
         rcases this with t | t | t
         · exact .inl t
         · exact absurd t hn
         · exact .inr t)
 have hlet:iE (.tuple (.str h::[.int c,a,b]))=[c]:=by
  unfold iE;rw[if_neg (show ¬ hdO (.tuple (.str h::[.int c,a,b]))="var" from hv)];unfold cK;rw[hbd];rfl
 have hac:=ha.cc;have hbc:=hb.cc;have hw2:=bC n;have hzs:h.cps.size≤4∧okS h=true:=by rcases hh with rfl | rfl <;> decide +kernel
 refine⟨ok,kU hm e2 rfl ha.cn hb.cn,bV.node (fun x hx=>?_) (fun e=>absurd e hf),fW.node (bE hc) fun x hx=>?_,⟨by omega,by omega⟩,fun s b0 e=>.tup (sS (sI ⟨by omega,by omega⟩ (.cons (ha.li s (by omega) (by omega)) (.cons (hb.li (fun i hi=>by
     simp only[mAp,mSg] at hi
     rcases hi with (hi | hi) | hi
     · exact s i (List.mem_append_left _ hi)
     · rw[hi];exact⟨by omega,by omega⟩
     · exact s i (List.mem_append_right _ hi)) (by omega) (by omega)) s0 (Nat.le_refl (wb n+1))) (Nat.le_refl _)) (Nat.le_refl _)) (by have:=hzs.1;omega) hzs.2)⟩
 · rw[ek] at hx;rw[hlet];simp only[List.mem_cons,nMN,or_false] at hx
   rcases hx with rfl | rfl
   · exact ha.fo.wide fun i hi=>List.mem_append_left _ hi
   · exact hb.fo
 · rw[ek] at hx;simp only[List.mem_cons,nMN,or_false] at hx
   rcases hx with rfl | rfl
   · exact ha.an
   · exact hb.an
theorem oV {a b:PyData} (ha:XE Γ L W n (c+1) a l) (hb:XE Γ L (W++[c]) n l b c'):XE Γ L W (n+1) c (.tuple [.str "var",.int c,a,b]) c':=by
 have hm:(("var":Str),(["bound","one","one"]:List Str))∈tbl:=by decide +kernel
 have e2:aU "var" w2=true:=by decide +kernel
 have shp:Paired Shp (["bound","one","one"]:List Str) [PyData.int c,a,b]:=.cons (iY (by decide +kernel)) (.cons dq (.cons dq .nil));have hbd:l6 (.tuple [.str "var",.int c,a,b])=[.int c]:=by show cL "var" [.int c,a,b]=_;unfold cL;rw[if_pos e2];rfl
 have ek0:aj (.tuple (.str "var"::[.int c,a,b]))=[a,b]:=fK (ks:=[a,b]) hm shp rfl (by show 2≤8;decide);have hp:∀ p∈[PyData.int c,a,b],Prt n p:=fun p hp=>by
  simp only[List.mem_cons,nMN,or_false] at hp
  rcases hp with rfl | rfl | rfl
  · exact .inl ⟨c,rfl⟩
  · exact ce ha.ok
  · exact ce hb.ok
 obtain⟨ok,ek⟩:=OkE.makeG (B:=L++W) (B':=L++(W++[c])) (n:=n) (ks:=[a,b]) hm (by decide +kernel) shp rfl (fun x hx=>(hp x hx).lay.1) (fun x hx=>(hp x hx).lay.2) (by show 2≤8;decide) (fun x hx=>by
     simp only[List.mem_cons,nMN,or_false] at hx
     rcases hx with rfl | rfl
     · exact ha.ok.wide fun i hi=>by simp at hi ⊢;rcases hi with hi | hi <;> simp[hi]
     · exact hb.ok) (fun i z=>by
     rcases z with z | ⟨k,x,h1,h2,h3⟩
     · rw[show du (.tuple (.str "var"::[.int c,a,b]))=none from jJ (by decide +kernel)] at z;cases z
     · rw[ek0] at h1 h3
       match k,h1 with
       | 0,h1=>cases h1;exact ha.ok.cl i h2
       | 1,h1 =>
         cases h1;have:=hb.ok.cl i h2;have hn:=h3 rfl;rw[hbd] at hn;simp at this hn ⊢
         rcases this with t | t | t
         · exact .inl t
         · exact .inr t
         · exact absurd t hn)
 have hlet:iE (.tuple (.str "var"::[.int c,a,b]))=[]:=by
  unfold iE;exact if_pos rfl
 have hac:=ha.cc;have hbc:=hb.cc;have hw2:=bC n;refine⟨ok,kU hm e2 rfl ha.cn hb.cn,bV.node (fun x hx=>?_) (fun e=>absurd (show ("var":Str)="fun" from e) (by decide +kernel)),fW.node (bE (by decide +kernel)) fun x hx=>?_,⟨by omega,by omega⟩,fun s b0 e=>.tup (sS (sI ⟨by omega,by omega⟩ (.cons (ha.li s (by omega) (by omega)) (.cons (hb.li (fun i hi=>by
     simp only[mAp,mSg] at hi
     rcases hi with hi | hi | hi
     · exact s i (List.mem_append_left _ hi)
     · exact s i (List.mem_append_right _ hi)
     · rw[hi];exact⟨by omega,by omega⟩) (by omega) (by omega)) s0 (Nat.le_refl (wb n+1))) (Nat.le_refl _)) (Nat.le_refl _)) (by show 3+1+_≤_;omega))⟩
 · rw[ek] at hx;rw[hlet,List.append_nil];simp only[List.mem_cons,nMN,or_false] at hx
   rcases hx with rfl | rfl
   · exact ha.fo
   · exact hb.fo
 · rw[ek] at hx;simp only[List.mem_cons,nMN,or_false] at hx
   rcases hx with rfl | rfl
   · exact ha.an
   · exact hb.an
theorem yg {k:Nat} (hk:k≤3) (hb:XE Γ (L++rgI c k) [] n (c+((k:Nat):Int)) d c'):XE Γ L W (n+1) c (.tuple [.str "fun",.tuple ((rgI c k).map .int),d]) c':=by
 have hm:(("fun":Str),(["bounds","one"]:List Str))∈tbl:=by decide +kernel
 have shpB:Shp "bounds" (.tuple ((rgI c k).map .int)):=⟨fun z=>absurd z (by decide +kernel),fun z=>absurd z (by decide +kernel),fun z=>absurd z (by decide +kernel),fun _=>⟨rgI c k,rfl,by rw[cO];exact hk⟩⟩;have shp:Paired Shp (["bounds","one"]:List Str) [PyData.tuple ((rgI c k).map .int),d]:=.cons shpB (.cons dq .nil);have hbd:l6 (.tuple [.str "fun",.tuple ((rgI c k).map .int),d])=(rgI c k).map .int:=by
  show cL "fun" [.tuple ((rgI c k).map .int),d]=_;unfold cL;rw[if_neg (by decide +kernel),if_pos rfl];rfl
 have ek0:aj (.tuple (.str "fun"::[.tuple ((rgI c k).map .int),d]))=[d]:=fK (ks:=[d]) hm shp rfl (by show 1≤8;decide);have hp:∀ p∈[PyData.tuple ((rgI c k).map .int),d],Prt n p:=fun p hp=>by
  rcases List.mem_cons.mp hp with rfl | hp
  · exact .inr (.inr (.inr ⟨_,rfl,fun x hx=>by obtain⟨i,_,rfl⟩:=List.mem_map.mp hx;exact⟨rfl,Nat.zero_le _⟩⟩))
  · rw[mSg.mp hp];exact ce hb.ok
 have cl:∀ i,FrD (n+1) (.tuple (.str "fun"::[.tuple ((rgI c k).map .int),d])) i→i∈L:=fun i z=>by
  rcases z with z | ⟨j,x,h1,h2,h3⟩
  · rw[show du (.tuple (.str "fun"::[.tuple ((rgI c k).map .int),d]))=none from jJ (by decide +kernel)] at z;cases z
  · rw[ek0] at h1 h3
    match j,h1 with
    | 0,h1 =>
     cases h1;have:=hb.ok.cl i h2;have hn:=h3 rfl;rw[hbd] at hn;simp at this hn
     rcases this with t | t
     · exact t
     · exact absurd t hn
 obtain⟨ok,ek⟩:=OkE.makeG (B:=L++W) (B':=L++rgI c k++[]) (n:=n) (ks:=[d]) hm (by decide +kernel) shp rfl (fun x hx=>(hp x hx).lay.1) (fun x hx=>(hp x hx).lay.2) (by show 1≤8;decide) (fun x hx=>by rw[mSg.mp hx];exact hb.ok) (fun i z=>List.mem_append_left _ (cl i z));have hlet:iE (.tuple (.str "fun"::[.tuple ((rgI c k).map .int),d]))=rgI c k:=by
  unfold iE;rw[if_neg (show ¬ hdO (.tuple (.str "fun"::[.tuple ((rgI c k).map .int),d]))="var" by show ¬ ("fun":Str)="var";decide +kernel)];unfold cK;rw[hbd,List.filterMap_map];exact List.filterMap_some
 have hbc:=hb.cc;have hw2:=bC n;have hw3:=oY hb.ne0;have rgm:∀ i∈rgI c k,c≤i∧i<c+((k:Nat):Int):=fun i hi=>by
  unfold rgI at hi;obtain⟨t,ht,rfl⟩:=List.mem_map.mp hi;have:=List.mem_range.mp ht;exact⟨by omega,by omega⟩
 refine⟨ok,⟨k,hbd,?_⟩,bV.node (fun x hx=>?_) (fun _=>cl),fW.node (bE (by decide +kernel)) fun x hx=>?_,⟨by omega,by omega⟩,fun s b0 e=>.tup (sS (sM (pQ fun i hi=>⟨by have:=rgm i hi;omega,by have:=rgm i hi;omega⟩) (.cons (hb.li (fun i hi=>by
     simp only[mAp,nMN,or_false] at hi
     rcases hi with hi | hi
     · exact s i (List.mem_append_left _ hi)
     · exact⟨by have:=rgm i hi;omega,by have:=rgm i hi;omega⟩) (by omega) (by omega)) s0 (Nat.le_refl (wb n+1))) (Nat.le_refl _)) (by rw[cO];have:=bS hk 21;show 3+1+_≤_;omega))⟩
 · rw[ek0];exact⟨c',hb.cn,rfl⟩
 · rw[ek] at hx;rw[mSg.mp hx,hlet];exact hb.fo
 · rw[ek] at hx;rw[mSg.mp hx];exact hb.an
end
end P10
namespace P10
open PySem L2
def nmI (o:List Nat) (f:Int):Int:=(((o[f.toNat]?).getD 0:Nat):Int)
def C4 (o:List Nat):PDs→PDs
  | .str h::.int f::r=>if h="call" then .str h::.int (nmI o f)::r else .str h::.int f::r
  | l=>l
mutual
def ren (o:List Nat):PyData→PyData
  | .tuple ds=>.tuple (C4 o (zj o ds))
  | .none=>.none
  | .bool b=>.bool b
  | .int i=>.int i
  | .str s=>.str s
  | d=>d
def zj (o:List Nat):PDs→PDs
  | []=>[]
  | d::r=>ren o d::zj o r
end
variable {o:List Nat}
def bq:Nat→PyData→PDs
  | 0,_=>[]
  | n+1,d=>d::if hdO d="fun" then [] else ((aj d).reverse.map (bq n)).flatten
def cs:Nat→PyData→PDs
  | 0,_=>[]
  | n+1,d=>d::if hdO d="fun" then [] else ((aj d).map (cs n)).flatten
def cR (d:PyData):PDs:=if hdO d="fun" then [] else aj d
theorem mY (n:Nat) (d:PyData):bq (n+1) d=d::((cR d).reverse.map (bq n)).flatten:=by
 show d::(if hdO d="fun" then [] else _)=_;unfold cR;split <;> rfl
theorem eL (n:Nat) (d:PyData):cs (n+1) d=d::((cR d).map (cs n)).flatten:=by
 show d::(if hdO d="fun" then [] else _)=_;unfold cR;split <;> rfl
theorem oy {d x:PyData} (h:x∈cR d):x∈aj d:=by
 unfold cR at h;split at h
 · cases h
 · exact h
theorem eN (n:Nat):∀ {d x:PyData},x∈bq n d↔x∈cs n d:=by
 induction n with
 | zero=>exact fun {d x}=>Iff.rfl
 | succ n ih =>
  intro d x;rw[mY,eL,List.mem_cons,List.mem_cons];refine or_congr Iff.rfl ?_;rw[List.mem_flatten,List.mem_flatten];constructor
  · rintro⟨l,hl,hx⟩;obtain⟨y,hy,rfl⟩:=List.mem_map.mp hl;exact⟨_,List.mem_map_of_mem (List.mem_reverse.mp hy),ih.mp hx⟩
  · rintro⟨l,hl,hx⟩;obtain⟨y,hy,rfl⟩:=List.mem_map.mp hl;exact⟨_,List.mem_map_of_mem (List.mem_reverse.mpr hy),ih.mpr hx⟩
theorem kO {f g:PyData→PDs} {l:PDs} (h:∀ x∈l,(f x).length≤(g x).length):((l.map f).flatten).length≤((l.map g).flatten).length:=by
 induction l with
 | nil=>exact Nat.le_refl _
 | cons x r ih =>
  rw[List.map_cons,List.map_cons,List.flatten_cons,List.flatten_cons,lAp,lAp];have:=h x mCS;have:=ih fun y hy=>h y (mCM _ hy);omega
theorem kI (n:Nat) (d:PyData):(cs n d).length≤(ax n d).length:=by
 induction n generalizing d with
 | zero=>exact Nat.le_refl _
 | succ n ih =>
  show (d::if hdO d="fun" then [] else ((aj d).map (cs n)).flatten).length≤(d::((aj d).map (ax n)).flatten).length;split
  · simp
  · rw[List.length_cons,List.length_cons];exact Nat.succ_le_succ (kO fun x _=>ih x)
theorem sV {f:PyData→PDs} (l:PDs):((l.reverse.map f).flatten).length=((l.map f).flatten).length:=by
 induction l with
 | nil=>rfl
 | cons x r ih=>rw[List.reverse_cons,List.map_append,List.flatten_append,lAp,ih,List.map_cons,List.flatten_cons,lAp];simp[Nat.add_comm]
theorem iB (n:Nat) (d:PyData):(bq n d).length≤(ax n d).length:=by
 induction n generalizing d with
 | zero=>exact Nat.le_refl _
 | succ n ih =>
  show (d::if hdO d="fun" then [] else ((aj d).reverse.map (bq n)).flatten).length≤(d::((aj d).map (ax n)).flatten).length;split
  · simp
  · rw[List.length_cons,List.length_cons,sV];exact Nat.succ_le_succ (kO fun x _=>ih x)
theorem cI {n:Nat} {d x:PyData} (h:x∈cs n d):x∈ax n d:=by
 induction n generalizing d with
 | zero=>exact h
 | succ n ih =>
  rw[eL] at h
  rcases List.mem_cons.mp h with rfl | h
  · exact mCS
  · obtain⟨l,hl,hx⟩:=List.mem_flatten.mp h;obtain⟨y,hy,rfl⟩:=List.mem_map.mp hl;exact cm (oy hy) (ih hx)
def io (l:List (Nat×PyData)):PDs:=(l.reverse.map fun p=>bq p.1 p.2).flatten
theorem pU (l:List (Nat×PyData)) (n:Nat) (d:PyData):io (l++[(n+1,d)])=d::io (l++(cR d).map fun x=>(n,x)):=by
 unfold io;rw[List.reverse_append,List.reverse_append,← List.map_reverse];show bq (n+1) d++_=_;rw[mY,List.map_append,List.flatten_append,List.map_map];rfl
theorem nW (p:Nat×PyData) (l:List (Nat×PyData)):io (p::l)=io l++bq p.1 p.2:=by
 unfold io;rw[List.reverse_cons,List.map_append,List.flatten_append];show _++(bq p.1 p.2++[])=_;rw[List.append_nil]
theorem pV {l:List (Nat×PyData)} (h:∀ p∈l,WFd p.1 p.2):l.length≤(io l).length:=by
 induction l with
 | nil=>exact Nat.zero_le _
 | cons p l ih =>
  have h1:=ih fun q hq=>h q (mCM _ hq);have h2:1≤(bq p.1 p.2).length:=by
   have:=h p mCS;cases e:p.1 with
   | zero=>rw[e] at this;exact this.elim
   | succ n=>exact Nat.succ_le_succ (Nat.zero_le _)
  rw[nW,lAp,List.length_cons];omega
def stW:List Str:=["say","fault","while","apply","get"]
def opW:List Str:=["div","at"]
def aJ (ks:List Int):PyData→Bool
  | .tuple (.str h::p::_)=>if h="op" then (match p with | .str s=>aU s opW | _=>false) else if h="call" then (match p with | .int f=>decide (f∈ks) | _=>false) else aU h stW
  | _=>false
theorem iD {x:PyData} {h:Str} {sl:List Str} {ps:PDs} (nd:Nd x h sl ps):∃ p r,ps=p::r∧(h="op"→∃ s,p=.str s)∧(h="call"→∃ f,p=.int f):=by
 have key:∀ q∈tbl,q.2≠[]∧(q.1="op"→q.2=(["op","many"]:List Str))∧(q.1="call"→q.2=(["place","many"]:List Str)):=by decide +kernel
 obtain⟨k1,k2,k3⟩:=key _ nd.mem;have hs:=nd.shp;cases hs with
 | nil=>exact absurd rfl k1
 | cons a t =>
  refine⟨_,_,rfl,fun e=>?_,fun e=>?_⟩
  · have:=k2 e;cases this;exact a.2.2.1 (by decide +kernel)
  · have:=k3 e;cases this;exact a.2.1 (by decide +kernel)
end P10
namespace L2
open PySem PySem.Spec PyProof.Rows
theorem rC {X:Cx} (hc:X.calm=true):fU X (.builtin "any") (fun xs H Q=>∃ (p:Addr) (bs:List Bool),xs=[.ref p]∧SqL X.K H p (bs.map V.bl)∧Q (.bl (bs.any id)) H):=by
 intro pins s σ H xs us Q I rv h;obtain⟨p,bs,rfl,hq,q⟩:=h;obtain⟨u,rfl,ru⟩:=rv.one;cases ru;obtain⟨its,r,pl,hz⟩:=I.list hq;have hin:X.A.in1.handled=none:=by
  have:=I.ok.hd hc
  first | exact this | simpa using this
 refine call_any_walk (wpAny_pyIter_list pl.isList ?_);have hax:p≠s.heap.objs.size:=by
  obtain⟨o,ho,_⟩:=pl.isList;exact Nat.ne_of_lt (Heap.lt_size ho)
 refine⟨s.heap.objs.size,_,_,_,_,_,fun i=>(bs[i]?).getD false,rfl,Walks.list hin s.heap.objs.size p hax its.toArray,⟨⟨_,Heap.get?_push_size _ rfl,rfl,rfl⟩,pl.isList.extBut (fun b o hb e=>hpS _ e) (by exact hax)⟩,?_,fun h' tk hk=>?_⟩
 · intro i v s' Q' E' hv hQ';have hv':its[i]?=some v:=by simpa using hv
   have hlen:=r.length;have hi:i<its.length:=(gES.mp hv').1;have hib:i<bs.length:=by rw[← hlen,lMp] at hi;exact hi
   have hb:(bs.map V.bl)[i]?=some (V.bl bs[i]):=by simp[hib]
   obtain⟨u',hu',ru'⟩:=r.get hb;rw[hv'] at hu';cases hu';cases (show v=Value.bool bs[i] from ru');refine wpAny_truthy_bool ?_
   simpa [hib] using hQ'
 · have hall:(List.range its.toArray.size).any (fun i=>(bs[i]?).getD false)=bs.any id:=by
    have hlen:=r.length;rw[lMp] at hlen;rw[List.size_toArray,← hlen];rw[Bool.eq_iff_iff,List.any_eq_true,List.any_eq_true];constructor
    · rintro⟨i,hi,h⟩;have hi':=List.mem_range.mp hi;exact⟨bs[i],List.getElem_mem hi',by simpa [hi'] using h⟩
    · rintro⟨b,hb,h⟩;obtain⟨i,hi,e⟩:=List.mem_iff_getElem.mp hb;exact⟨i,List.mem_range.mpr hi,by simpa [hi,e] using h⟩
   rw[hall];refine⟨.bl _,H,?_,rfl,q⟩;refine I.kept fun b o e=>hk b o ?_ (hpS _ e);simp;exact Nat.ne_of_lt (Heap.lt_size e)
theorem rE:bootBuiltins "any"=some (.builtin "any"):=by decide +kernel
section
variable {X:Cx} {p pos:Pos} {e f o:Expr} {es:List Expr} {t:TA} {td ty tx:TE} {apos cpos:Pos}
theorem vQ (hm:X.mg "any"=none) (ha:PA X (e::es) t) (hc:X.calm=true:=by rfl) (hg:Gl X "any":=by rfl)
 (he:starEach (e::es) X.env=(false,eval e X.env)::starEach es X.env:=by rfl) (hpl:(backTo pos (starEach es X.env)).any (·.1)=false:=by rfl) :
 PE X (.Call (.Name "any" p) (e::es) [] pos) (tCB (fun xs H Q=>∃ (p:Addr) (bs:List Bool),xs=[.ref p]∧SqL X.K H p (bs.map V.bl)∧Q (.bl (bs.any id)) H) t):=iz (rC hc) hg hm rE ha (he:=he) (hpl:=hpl)
inductive rJ (a:Addr) (y z:V) (H:Hp) (Q:VK):Prop
  | mk (kvs:List (Key×V)) (k:Key) (h1:H a=some (.dK kvs)) (h2:y=kV k) (h3:kvs.length<sizeLine) (q1:∀ v,bj kvs k=some v→Q v H) (q2:bj kvs k=none→Q z (upd H a (.dK (bT kvs k z)))):rJ a y z H Q
def yi (td ty tx:TE):TE:=fun σ H Q=>td σ H fun x H1=>∃ a,x=.ref a∧IsD H1 a∧ty σ H1 fun y H2=>tx σ H2 fun z H3=>rJ a y z H3 Q
theorem qE (ho:PE X o td) (he:PE X e ty) (hf:PE X f tx) (m:M2 X o "setdefault" apos e f cpos):PE X (.Call (.Attribute o "setdefault" apos) [e,f] [] cpos) (yi td ty tx):=by
 intro pins s σ H Q I h;refine wpAny_Call_method m.base m.few m.line PySem.F.plainAttrs_dict PySem.F.slot_dict_setdefault PySem.F.type_dict_setdefault (thn (ho pins s σ H _ I h) fun u s1 zy103=>?_);obtain⟨x,H1,I1,rx,a,ex,d,q1⟩:=zy103;subst ex;obtain rfl:u=Value.ref a:=rx;obtain⟨t1,t2,_⟩:=qY I1 d;refine⟨t1,t2,?_⟩;rw[m.trees];refine Calls.callWith_builtin rfl (Calls.evalArgs_plain (Calls.spliced_cons (thn (he pins s1 σ H1 _ I1 q1) fun iv s2 zy104=>?_)));obtain⟨y,H2,I2,ry,q2⟩:=zy104;refine Calls.spliced_cons (thn (hf pins s2 σ H2 _ I2 q2) fun fv s3 zy105=>?_);obtain⟨z,H3,I3,rz,kvs,k,ea,rfl,hl,qa,qb⟩:=zy105;refine Calls.spliced_nil ?_;obtain⟨zz,hd,vs,rel,dd⟩:=kP I3.hok ea;have hz:vs.length≤sizeLine:=by rw[← rel.length];exact zz
 have hl2:(bT kvs k z).length≤sizeLine:=by have:=bM kvs k z;omega
 refine call_meetsIn PySem.F.slot_dict_setdefault dd.typeIs PySem.F.entry_dict_setdefault (PySem.F.args_dict_setdefault_3 _ _ _) (kt_meets_setdefault (ar X.prog X.w) a (eX ry) hd fv) ⟨vs,dd,hz,fun v hv=>?_,fun hn h' dd' hs=>?_⟩
 · obtain⟨v',hv',rv⟩:∃ v',bj kvs k=some v'∧aG v' v:=by
    have:=rel.val k;rw[hv] at this;cases e:bj kvs k with
    | none=>rw[e] at this;cases this
    | some v'=>rw[e] at this;exact⟨v',rfl,this⟩
   exact⟨v',H3,I3.tok _,rv,qa v' hv'⟩
 · have hn':bj kvs k=none:=by
    have:=rel.val k;rw[hn] at this;cases e:bj kvs k with
    | none=>rfl
    | some v'=>rw[e] at this;cases this
   have he:∃ q,h'.get? a=some q:=let ⟨q,_,_,hq,_⟩:=dd';⟨q,hq⟩;exact⟨z,_,fP I3 (by rw[ea];exact True.intro) hs he (jS hl2 hd (rel.put k rz) dd'),rz,qb hn'⟩
end
end L2
namespace K23
open PySem L2 P10
structure xN (K:Fg) (mg:SOV):Prop where
  st:∃ a,mg "STIRRING"=some (.ref a)∧∀ H,SqT K H a (stW.map V.str)
  op:∃ a,mg "STIRRING_OPS"=some (.ref a)∧∀ H,SqT K H a (opW.map V.str)
section
variable {P:Program} {w:World} {K:Fg} {mg:SOV} {base:Heap}
abbrev sOf:Stmt:=top 12
inductive vf (K:Fg) (vs:List V) (H:Hp) (Q:VK):Prop
  | mk (v:V) (d:PyData) (n:Nat) (h0:vs=[v]) (h1:TD K H v d) (h2:WFd n d) (h3:(bq n d).length≤900000) (q:∀ L H' zs,ai H H'→H L=none→H' L=some (.lst zs)→TDs K H' zs (bq n d)→Q (.ref L) H'):vf K vs H Q
def wt (K:Fg):Sp:=fun vs H Q _=>vf K vs H Q
theorem yW:am ["e","met","waiting","node"] ["e"] (a0 sOf):=fsM
theorem zP (D:Def K mg "outside_funs" sOf) (bI:Fn P w K mg base "children_of" 1 ["e"] (gP K)):Fn P w K mg base "outside_funs" 2 ["e"] (wt K):=by
 refine D.fn yW (fun vs H Q E h=>?_) (fun _ _ _ _ _ _ us hl=>by obtain⟨a,rfl⟩:=iF hl;rfl) (fun f cdv A outer s' H vs Q E hr h=>?_)
 · obtain⟨v,d,n,rfl,_⟩:=h;rfl
 · obtain⟨v,d,n,rfl,td,wf,hsz,q⟩:=h;have nd:=yW.nd;have hz0:(1000000:Nat)<sizeLine:=by decide
   refine⟨_,(pD (pL (i:=1) nd rfl (Or.inl rfl) (aM pB))
 (pD (pL (i:=2) nd rfl (Or.inl rfl) (aM (pA (pv 0) pB)))
 (pD (ix PassesOwn.never (iw (pv 2) (by intro _;rfl))
 (pD (pL (i:=3) nd rfl (Or.inl rfl) (mw (pv 2)))
 (pD (bY (cr (pv 1) (pA (pv 3) pB)))
 (pG (az (pM qJ (aa a9 (pv 3) pF (fun _ _=>rfl)) pC (pN _)) (pG (bY (rL (pv 2) (pA (ab bI (hr.mono (by decide)) rfl (pA (pv 3) pB)) pB)))) ah)))))
 (pG (ae (pv 1)))))),?_⟩
   dsimp only[bd,oK,oJ];refine aq fun tR kN=>?_;refine⟨lm,fun M hM=>?_⟩;refine kN _ _ (aq fun As xz=>?_);have k1:=smu (o:=HO.lst []) hM;have hM1:(upd H M (.lst [])) M=some (.lst []):=pE;generalize upd H M (.lst [])=H1 at k1 hM1 ⊢;refine⟨_,rfl,ke,fun W hW=>?_⟩;have k2:=smu (o:=HO.lst [v]) hW;have hW2:(upd H1 W (.lst [v])) W=some (.lst [v]):=pE;have MW:M≠W:=fun e=>by rw[← e,hM1] at hW;cases hW
   have hM2:=k2 _ _ hM1;have hWH:H W=none:=by
    cases hh:H W with
    | none=>rfl
    | some o=>rw[k1 _ _ hh] at hW;cases hW
   refine xz _ _ (aq fun AZ xx=>?_);generalize upd H1 W (.lst [v])=H2 at k2 hW2 hM2 ⊢;have kk:=k1.trans k2;refine ic (fun σ Hi=>ai H Hi∧∃ (ms ws:List V) (md:PDs) (l:List (Nat×PyData)) (x3:Option V),σ=[some v,some (.ref M),some (.ref W),x3]∧Hi M=some (.lst ms)∧Hi W=some (.lst ws)∧TDs K Hi ms md∧TDs K Hi ws (l.map (·.2))∧(∀ p∈l,WFd p.1 p.2)∧md++io l=bq n d)
    (fun _ Hi=>match Hi M with | some (.lst ms)=>900001-ms.length | _=>0)
    ⟨kk,[],[v],[],[(n,d)],_,rfl,hM2,hW2,.nil,.cons (td.same kk) .nil,fun p hp=>by rw[mSg.mp hp];exact wf,by unfold io;simp⟩ ?_
   rintro σ Hi ⟨sm,ms,ws,md,l,x3,rfl,hMi,hWi,hms,hws,hwf,hst⟩;refine⟨_,rfl,_,.inl ⟨ws,SqL.of hWi,rfl⟩,?_⟩
   rcases List.eq_nil_or_concat l with rfl | ⟨l',p,rfl⟩
   · cases hws;refine pI (by decide) ?_;have e0:md=bq n d:=by rw[← hst];simp[io]
     rw[e0] at hms;exact xx _ _ ⟨_,rfl,q M Hi ms sm hM hMi hms⟩
   · obtain⟨m,e⟩:=p;rw[List.concat_eq_append,List.map_append] at hws;rw[List.concat_eq_append] at hwf hst;obtain⟨ws',y,rfl,hws',hy⟩:=TDs.last hws;have hwe:WFd m e:=hwf (m,e) (List.mem_append_right _ (mSg.mpr rfl));obtain⟨m,rfl⟩:∃ m',m=m'+1:=by
      cases m with
      | zero=>exact hwe.elim
      | succ m=>exact⟨m,rfl⟩
     obtain⟨he,sl,ps,nde,hk⟩:=hwe;have hsl:=pV hwf;have hsl2:=congrArg List.length hst;have hwl:=hws'.length;rw[lMp] at hwl;rw[lAp] at hsl hsl2;rw[pU] at hst;have hlen:md.length+1≤900000:=by
      have:=congrArg List.length hst;rw[lAp,List.length_cons] at this;omega
     have hml:=hms.length;refine pJ (by cases ws' <;> rfl) ?_;refine⟨fun σ' H'=>(ai H H'∧∃ (ms ws:List V) (md:PDs) (l:List (Nat×PyData)) (x3:Option V),σ'=[some v,some (.ref M),some (.ref W),x3]∧H' M=some (.lst ms)∧H' W=some (.lst ws)∧TDs K H' ms md∧TDs K H' ws (l.map (·.2))∧(∀ p∈l,WFd p.1 p.2)∧md++io l=bq n d)∧∃ y,H' M=some (.lst (ms++[y])),?_,?_⟩
     · rintro σ' H' ⟨pv,y',hy'⟩;refine⟨_,?_,rfl,pv⟩;rw[hy',hMi];show 900001-(ms++[y']).length<900001-ms.length;rw[lAp];show 900001-(ms.length+1)<900001-ms.length;omega
     · refine aq fun AY u9=>?_;refine⟨_,rfl,.inl ⟨rfl,_,SqL.of hWi⟩,W,ws'++[y],y,rfl,rfl,hWi,by simp,?_⟩;rw[List.dropLast_concat];refine u9 _ _ (aq fun BO xw=>?_);have sm3:ai H (upd Hi W (.lst ws')):=dj sm hWH;have hW3:(upd Hi W (.lst ws')) W=some (.lst ws'):=pE;have hM3:(upd Hi W (.lst ws')) M=some (.lst ms):=by rw[ad MW];exact hMi
       have hms3:=hms.tk (bu (o:=.lst ws') (.inr ⟨_,hWi⟩));have hws3:=hws'.tk (bu (o:=.lst ws') (.inr ⟨_,hWi⟩));have hy3:=hy.tk (bu (o:=.lst ws') (.inr ⟨_,hWi⟩));generalize upd Hi W (.lst ws')=H3 at sm3 hW3 hM3 hms3 hws3 hy3 ⊢;refine⟨_,rfl,.inl ⟨rfl,_,SqL.of hM3⟩,_,rfl,M,ms,y,rfl,rfl,hM3,by omega,?_⟩;refine xw _ _ ?_;have sm4:ai H (upd H3 M (.lst (ms++[y]))):=dj sm3 hM;have hM4:(upd H3 M (.lst (ms++[y]))) M=some (.lst (ms++[y])):=pE;have hW4:(upd H3 M (.lst (ms++[y]))) W=some (.lst ws'):=by rw[ad (Ne.symm MW)];exact hW3
       have tk4:Tk H3 (upd H3 M (.lst (ms++[y]))):=bu (.inr ⟨_,hM3⟩);have hms4:=(hms3.snoc hy3).tk tk4;have hws4:=hws3.tk tk4;have hy4:=hy3.tk tk4;generalize upd H3 M (.lst (ms++[y]))=H4 at sm4 hM4 hW4 tk4 hms4 hws4 hy4 ⊢;obtain⟨ya,vs,rfl,hya,_⟩:=bR hy4 nde;have hhe:=gJ nde;refine⟨_,rfl,ya,_,_,_,rfl,rfl,hya,pH (j:=0) rfl,rfl,_,rfl,?_⟩;by_cases hf:he="fun"
       · have ek:cR e=[]:=by unfold cR;rw[if_pos (by rw[hhe];exact hf)]
         rw[ek] at hst;refine pI (by simp[hf]) ⟨⟨sm4,ms++[V.ref ya],ws',md++[e],l',_,rfl,hM4,hW4,hms4,hws4,fun p' hp'=>hwf p' (List.mem_append_left _ hp'),?_⟩,_,hM4⟩;rw[List.append_assoc];rw[List.map_nil,List.append_nil] at hst;exact hst
       refine pJ (by simpa using hf) ?_;have ek:cR e=aj e:=by unfold cR;rw[if_neg (by rw[hhe];exact hf)]
       rw[ek] at hst;refine⟨_,rfl,.inl ⟨rfl,_,SqL.of hW4⟩,_,rfl,.ref ya,e,he,sl,ps,rfl,hy4,nde,fun v5 H5 k5 tv=>?_⟩;obtain⟨c,zs,rfl,hc,hzs⟩:=tv.tup_of;have hW6:=k5 _ _ hW4;have hM6:=k5 _ _ hM4;have hfew:=nde.few;have hzl:=hzs.length;have hll:ws'.length≤900000:=by
        rw[hwl];have:l'.length≤l'.length+([(m+1,e)]:List (Nat×PyData)).length:=Nat.le_add_right _ _;omega
       refine⟨W,c,ws',zs,rfl,rfl,hW6,hc,by omega,?_⟩;refine⟨⟨dj (sm4.trans k5) hWH,ms++[V.ref ya],ws'++zs,md++[e],l'++((aj e).map fun x=>(m,x)),_,rfl,by rw[ad MW];exact hM6,pE,(hms4.same k5).tk (bu (.inr ⟨_,hW6⟩)),?_,fun p' hp'=>?_,?_⟩,_,by rw[ad MW];exact hM6⟩
       · rw[List.map_append,List.map_map,show ((fun x:Nat×PyData=>x.2)∘fun x=>(m,x))=id from rfl,List.map_id,nde.kids];exact ((hws4.same k5).app hzs).tk (bu (.inr ⟨_,hW6⟩))
       · rcases mAp.mp hp' with z | z
         · exact hwf p' (List.mem_append_left _ z)
         · obtain⟨x,hx,rfl⟩:=List.mem_map.mp z;rw[nde.kids] at hx;exact hk x hx
       · rw[List.append_assoc];exact hst
abbrev sSt:Stmt:=top 13
inductive v3 (K:Fg) (vs:List V) (H:Hp) (Q:VK):Prop
  | mk (v:V) (ra:Addr) (d:PyData) (h:Str) (sl:List Str) (ps:PDs) (ks:List Int) (h0:vs=[v,.ref ra]) (h1:TD K H v d) (h2:Nd d h sl ps) (h3:H ra=some (.dK (sd ks))) (q:Q (.bl (aJ ks d)) H):v3 K vs H Q
def wo (K:Fg):Sp:=fun vs H Q _=>v3 K vs H Q
theorem B7:am ["e","restless"] ["e","restless"] (a0 sSt):=fsM
theorem zK (D:Def K mg "stirs" sSt) (C:xN K mg):Fn P w K mg base "stirs" 1 ["e","restless"] (wo K):=by
 refine D.fn B7 (fun vs H Q E h=>?_) (fun _ _ _ _ _ _ us hl=>by obtain⟨a,b,rfl⟩:=dl hl;rfl) (fun f cdv A outer s' H vs Q E hr h=>?_)
 · obtain⟨v,ra,d,h,sl,ps,ks,rfl,_⟩:=h;rfl
 · obtain⟨v,ra,d,h,sl,ps,ks,rfl,td,ndd,hra,q⟩:=h;have hu:=eY hr;obtain⟨sa,hsa,hst⟩:=C.st;obtain⟨oa,hoa,hot⟩:=C.op;obtain⟨a,vs,rfl,ha,hvs⟩:=bR td ndd;obtain⟨p,r,rfl,p1,p2⟩:=iD ndd;obtain⟨vp,vr,rfl,tp,tr⟩:∃ vp vr,vs=vp::vr∧TD K H vp p∧TDs K H vr r:=by
    cases hvs with
    | cons a b=>exact⟨_,_,rfl,a,b⟩
   have at0:∀ {x:V} {r:List V},atI (x::r) 0=some x:=fun {x r}=>pH (j:=0) rfl;have at1:∀ {x y:V} {r:List V},atI (x::y::r) 1=some y:=fun {x y r}=>pH (j:=1) rfl;refine⟨_,(pD (az (pM aH (aa a9 (pv 0) pF (fun _ _=>rfl)) pC (pN _)) (pG (ae (jE aY (aa a9 (pv 0) pF (fun _ _=>rfl)) (jD (v:=.ref oa) rfl hoa rfl) (by with_unfolding_all rfl)))) ah)
 (pD (az (pM aH (aa a9 (pv 0) pF (fun _ _=>rfl)) pC (pN _)) (pG (ae (wX (qG hu (aa a9 (pv 0) pF (fun _ _=>rfl)) (pv 1))))) ah)
 (pG (ae (jE aY (aa a9 (pv 0) pF (fun _ _=>rfl)) (jD (v:=.ref sa) rfl hsa rfl) (by with_unfolding_all rfl)))))),?_⟩
   dsimp only[bd];rw[ndd.eq] at q;refine⟨_,rfl,a,_,_,_,rfl,rfl,ha,at0,rfl,_,rfl,?_⟩;by_cases e1:h="op"
   · refine pJ (by simp[e1]) ?_;obtain⟨s,rfl⟩:=p1 e1;rw[tp.str_of] at ha;refine⟨_,rfl,a,_,_,_,rfl,rfl,ha,at1,oa,opW.map V.str,rfl,.inr (hot H),rfl,br _,?_⟩;rw[bH];have:aJ ks (.tuple (.str h::.str s::r))=aU s opW:=by show (if h="op" then _ else _)=_;rw[if_pos e1]
     rw[this] at q;exact q
   refine pI (by simpa using e1) ?_;refine⟨_,rfl,a,_,_,_,rfl,rfl,ha,at0,rfl,_,rfl,?_⟩;by_cases e2:h="call"
   · refine pJ (by simp[e2]) ?_;obtain⟨i,rfl⟩:=p2 e2;rw[tp.int_of] at ha;refine⟨_,rfl,a,_,_,_,rfl,rfl,ha,at1,_,rfl,ra,_,rfl,bP.k (k:=.inl i) hra,?_⟩;rw[gg];have:aJ ks (.tuple (.str h::.int i::r))=decide (i∈ks):=by show (if h="op" then _ else if h="call" then _ else _)=_;rw[if_neg e1,if_pos e2]
     rw[this] at q;by_cases z:i∈ks
     · rw[if_pos z];rw[decide_eq_true z] at q;exact q
     · rw[if_neg z];rw[decide_eq_false z] at q;exact q
   refine pI (by simpa using e2) ?_;refine⟨_,rfl,a,_,_,_,rfl,rfl,ha,at0,sa,stW.map V.str,rfl,.inr (hst H),rfl,br _,?_⟩;rw[bH];have:aJ ks (.tuple (.str h::p::r))=aU h stW:=by show (if h="op" then _ else if h="call" then _ else _)=_;rw[if_neg e1,if_neg e2]
   rw[this] at q;exact q
abbrev sIs:Stmt:=top 14
inductive vz (K:Fg) (vs:List V) (H:Hp) (Q:VK):Prop
  | mk (v:V) (ra:Addr) (d:PyData) (n:Nat) (ks:List Int) (h0:vs=[v,.ref ra]) (h1:TD K H v d) (h2:WFd n d) (h3:(bq n d).length≤900000) (h4:H ra=some (.dK (sd ks))) (q:∀ H',ai H H'→Q (.bl (!(bq n d).any (aJ ks))) H'):vz K vs H Q
def yG (K:Fg):Sp:=fun vs H Q _=>vz K vs H Q
theorem Bd:am ["e","restless"] ["e","restless"] (a0 sIs):=fsM
theorem BJ:(["node","restless"]:List Str).Nodup:=by decide +kernel
theorem gn {n:Nat} {d x:PyData} (wf:WFd n d) (h:x∈bq n d):∃ h' sl ps,Nd x h' sl ps:=dQ wf (cI ((eN n).mp h))
theorem zY (D:Def K mg "is_still" sIs) (hany:mg "any"=none) (cM:Fn P w K mg base "outside_funs" 2 ["e"] (wt K)) (jZ:Fn P w K mg base "stirs" 1 ["e","restless"] (wo K)):Fn P w K mg base "is_still" 3 ["e","restless"] (yG K):=by
 refine D.fn Bd (fun vs H Q E h=>?_) (fun _ _ _ _ _ _ us hl=>by obtain⟨a,b,rfl⟩:=dl hl;rfl) (fun f' cdv A outer s' H vs Q E hr h=>?_)
 · obtain⟨v,ra,d,n,ks,rfl,_⟩:=h;rfl
 · obtain⟨v,ra,d,n,ks,rfl,td,wf,hsz,hra,q⟩:=h;have hz0:(1000000:Nat)<sizeLine:=by decide
   refine⟨_,(pG (ae (wT (vQ hany (pA (dW (own:=["node"]) (outs:=[(1,"restless")]) rfl (aB.of (a0 sIs) ["e","restless"]) (bi (ab cM (hr.mono (by decide)) rfl (pA (pv 0) pB))) (fun _ _ _ _=>⟨(aw (i:=0) BJ rfl (Or.inl rfl)),cf,(ab jZ (hr.mono (by decide)) rfl (pA (pv 0) (pA (pv 1) pB)))⟩)) pB))))),?_⟩;dsimp only[bd];rw[jA,sW,iu,dr,dC];refine⟨_,rfl,v,d,n,rfl,td,wf,hsz,fun L H1 zs s1 hL hz tz=>⟨L,rfl,⟨zs,SqL.of hz⟩,fun G hG=>?_⟩⟩;have k0:=smu (o:=HO.lst []) hG;have zl:=tz.length;refine bt.by (aI (xs:=zs)) (fun i σ Hi=>ai H1 Hi∧Hi G=some (.lst ((((bq n d).take i).map (aJ ks)).map V.bl))∧∃ y,σ=[y,some (.ref ra)]) ⟨k0,pE,_,rfl⟩ (fun i σ Hi _ h=>SqL.of (h.1 _ _ hz)) ?_ ?_
   · rintro i u σ Hi hui ⟨si,hGi,y,rfl⟩;have hi:i<zs.length:=(gES.mp hui).1;obtain⟨x,hx,tx⟩:=tz.get hui;obtain⟨h,sl,ps,ndx⟩:=gn wf (mGE hx);rw[bh,dM];refine cB ⟨_,rfl,_,rfl,u,ra,x,h,sl,ps,ks,rfl,tx.same si,ndx,si _ _ (s1 _ _ hra),_,hGi,?_,cy (H:=H) si hG,?_,_,rfl⟩
     · rw[lMp,lMp,lTk];omega
     · rw[pE,tAO,hx,List.map_append,List.map_append];rfl
   · rintro σ Hi ⟨si,hGi,y,rfl⟩;rw[zl,List.take_length] at hGi;refine⟨G,_,rfl,SqL.of hGi,_,rfl,?_⟩;rw[List.any_map,show (id∘aJ ks)=aJ ks from rfl];exact q Hi (s1.trans si)
end
end K23
namespace L2
open PySem PySem.Spec PyProof.Rows
section
variable {X:Cx}
def BC (K:Fg):R2:=fun x y H Q=>∃ p q xs,x=.ref p∧y=.ref q∧SqL K H p xs∧SqL K H q []∧Q (.bl xs.isEmpty) H
theorem qK (hu:X.A.units+1<cLine):OpR X (compareOp .Eq) (BC X.K):=by
 intro pins s σ H x y v u Q I rx ry h;obtain⟨p,q,xs,rfl,rfl,hp,hq,k⟩:=h;cases rx;cases ry;obtain⟨its,r1,l1,z1⟩:=I.list hp;obtain⟨its2,r2,l2,z2⟩:=I.list hq;have e1:=r1.length;have e2:its2=[]:=r2.nil_iff.mpr rfl;subst e2;by_cases hl:xs=[]
 · subst hl;have e3:its=[]:=r1.nil_iff.mpr rfl;subst e3;refine SeqAt.eq_listAt (e:=fun _=>true) l1.isList l2.isList rfl (by lia) (fun j h1 h2=>absurd h2 (by simp)) ?_;exact⟨.bl true,H,I,rfl,k⟩
 · have hne:its≠[]:=fun z=>hl (r1.nil_iff.mp z);refine SeqAt.eq_list_lengthsAt l1.isList l2.isList (by simpa using hne) (by lia) ?_;have:xs.isEmpty=false:=by cases xs with | nil=>exact absurd rfl hl | cons _ _=>rfl
   rw[this] at k;exact⟨.bl false,H,I,rfl,k⟩
def BB (K:Fg):R2:=fun x y H Q=>∃ p q xs,x=.ref p∧y=.ref q∧SqL K H p xs∧SqL K H q []∧Q (.bl (!xs.isEmpty)) H
theorem xa (hu:X.A.units+1<cLine):OpR X (compareOp .NotEq) (BB X.K):=by
 intro pins s σ H x y v u Q I rx ry h;obtain⟨p,q,xs,rfl,rfl,hp,hq,k⟩:=h;cases rx;cases ry;obtain⟨its,r1,l1,z1⟩:=I.list hp;obtain⟨its2,r2,l2,z2⟩:=I.list hq;have e1:=r1.length;have e2:its2=[]:=r2.nil_iff.mpr rfl;subst e2;by_cases hl:xs=[]
 · subst hl;have e3:its=[]:=r1.nil_iff.mpr rfl;subst e3;exact SeqAt.RcNeAt.lists (e:=fun _=>true) l1.isList l2.isList rfl (by lia) (fun j h1 h2=>absurd h2 (by simp)) X.prog X.w X.xe _ ⟨.bl false,H,I,rfl,k⟩
 · have hne:its≠[]:=fun z=>hl (r1.nil_iff.mp z);have:xs.isEmpty=false:=by cases xs with | nil=>exact absurd rfl hl | cons _ _=>rfl
   rw[this] at k;exact SeqAt.RcNeAt.lists_lengths l1.isList l2.isList (by simpa using hne) (by lia) X.prog X.w X.xe _ ⟨.bl true,H,I,rfl,k⟩
end
end L2
namespace L2
open PySem PySem.Spec PyProof.Rows PySem.SeqAt
section
variable {X:Cx} {pins:AOs} {σ:St} {H:Hp} {s:Shared}
end
end L2
namespace K23
open PySem L2 P10
def fV (H:Hp) (b:Addr) (k:Int):Prop:=∃ n c:Int,H b=some (.lst [.int n,.int c,.int k])∧0≤k
def Mo (H:Hp) (f:Addr) (H':Hp):Prop:=∀ b,b≠f→H' b=H b
theorem Mo.put {H H':Hp} {f:Addr} {o:HO} (m:Mo H f H'):Mo H f (upd H' f o):=fun b hb=>by rw[ad hb];exact m b hb
theorem o9 (x m:Int) (h:0<m):0≤x % m∧x % m<m:=⟨Int.emod_nonneg x (by omega),Int.emod_lt_of_pos x h⟩
theorem xJ {x y z:V}:atI [x,y,z] 0=some x:=pH (j:=0) rfl
theorem Ca {x y z:V}:atI [x,y,z] 1=some y:=pH (j:=1) rfl
theorem xI {x y z:V}:atI [x,y,z] 2=some z:=pH (j:=2) rfl
section
variable {P:Program} {w:World} {K:Fg} {mg:SOV} {base:Heap}
abbrev sBx:Stmt:=top 20
def wv (K:Fg):Sp:=fun vs H Q _=>∃ (a:Addr) (ns:List Int) (k:Int),vs=[.ref a,.int k]∧SqL K H a (ns.map V.int)∧ns.length≤63∧0≤k∧k≤1000∧∀ b H',ai H H'→H b=none→fV H' b 0→Q (.ref b) H'
theorem ze:am ["_law_script","_law_k","_law_cell"] ["_law_script","_law_k"] (a0 sBx):=fsM
theorem Ag (D:Def K mg "_law_box" sBx) (T:Blt mg) (hint:mg "int"=none):Fn P w K mg base "_law_box" 1 ["_law_script","_law_k"] (wv K):=by
 refine D.fn ze (fun vs H Q E h=>?_) (fun _ _ _ _ _ _ us hl=>by obtain⟨a,b,rfl⟩:=dl hl;rfl) (fun f' cdv A outer s' H vs Q E hr h=>?_)
 · obtain⟨a,ns,k,rfl,_⟩:=h;rfl
 · obtain⟨a,ns,k,rfl,hS,hlen,k0,k1,q⟩:=h;have nd:=ze.nd;obtain⟨t2,h2,r2⟩:∃ t,PSs (be CX0 P w K mg base ["_law_script","_law_k","_law_cell"] "_law_box" (a0 sBx) f' cdv A outer s' H E).nox ((ak sBx).drop 2) t ∧
    ∀ (c:Int) (x0 x1:Option V),t {nx:=fun _ H'=>Q .non H',rt:=Q} [x0,x1,some (.int c)] H:=by
    refine⟨_,(pG (ae (aM (pA (aC fj (pv 2) (xZ hint (pA (jE uP (pv 2) (aC wZ pF pF) (pN _)) pB))) (pA (pv 2) (pA pF pB)))))),fun c x0 x1=>?_⟩;refine⟨_,rfl,_,rfl,_,_,rfl,rfl,⟨by decide,by decide,by decide⟩,_,_,rfl,rfl,.inr ⟨_,rfl,_,_,rfl,rfl,.inr ?_,_,rfl,fX,fun b hb=>?_⟩⟩
    · split <;> exact⟨by decide,by decide⟩
    · exact q b _ (smu hb) hb ⟨_,c,pE,Int.le_refl 0⟩
   refine⟨_,(pD (pL (i:=2) nd rfl (Or.inl rfl) (aC fj pF (pv 1)))
 (pD (az (pM gH (bJ T.len (pA (pv 0) pB)) pF (pN _)) (pG (pL (i:=2) nd rfl (Or.inl rfl) (aC cu (aa aF (pv 0) (aC gp (pv 1) (bJ T.len (pA (pv 0) pB))) (fun _ _=>rfl)) (aC fj pF (aC i7 (pv 1) (bJ T.len (pA (pv 0) pB))))))) ah) h2)),?_⟩
   dsimp only[bd];refine⟨_,rfl,_,_,rfl,rfl,.inl ⟨by decide,by decide⟩,?_⟩;refine⟨_,rfl,a,_,rfl,.inl hS,_,_,rfl,rfl,_,rfl,?_⟩;rw[lMp];by_cases hp:0<ns.length
   · refine pJ (by simpa using hp) ?_;have hb:=o9 k (ns.length:Int) (by omega);obtain⟨i,hi⟩:=Int.eq_ofNat_of_zero_le hb.1;have hi':i<ns.length:=by omega
     refine⟨_,rfl,_,rfl,_,rfl,a,_,rfl,.inl hS,_,_,rfl,rfl,by rw[lMp];omega,a,_,_,V.int ns[i],rfl,rfl,hS,by rw[lMp,hi];exact pH (by simp[hi']),_,rfl,_,rfl,a,_,rfl,.inl hS,_,_,rfl,rfl,⟨by rw[lMp];omega,by rw[lMp];omega⟩,_,_,rfl,rfl,.inl ⟨by decide,by decide⟩,_,_,rfl,rfl,?_⟩;exact r2 _ _ _
   · exact pI (by simpa using hp) (r2 _ _ _)
abbrev sTk:Stmt:=top 21
def fZ:Sp:=fun vs H Q _=>∃ (b:Addr) (k many:Int),vs=[.ref b,.int many]∧fV H b k∧k≤1000000∧0<many∧many≤1000000∧∀ r H',0≤r→r<many→Mo H b H'→fV H' b (k+1)→Q (.int r) H'
theorem yQ:am ["_law_box_here","_law_many_here","_law_found","_law_mixed"] ["_law_box_here","_law_many_here"] (a0 sTk):=fsM
theorem zI (D:Def K mg "_law_take" sTk):Fn P w K mg base "_law_take" 1 ["_law_box_here","_law_many_here"] fZ:=by
 refine D.fn yQ (fun vs H Q E h=>?_) (fun _ _ _ _ _ _ us hl=>by obtain⟨a,b,rfl⟩:=dl hl;rfl) (fun f' cdv A outer s' H vs Q E hr h=>?_)
 · obtain⟨b,k,many,rfl,_⟩:=h;rfl
 · obtain⟨b,k,many,rfl,⟨n,c,hb,k0⟩,k1,hm,hm2,q⟩:=h;have nd:=yQ.nd;refine⟨_,(pD (qw (aC cu (aa aF (pv 0) pF (fun _ _=>rfl)) pF) (qC (pv 0) pF kB))
 (pD (az (pM gH (aa aF (pv 0) pF (fun _ _=>rfl)) pF (pN _)) (pD (pL (i:=2) nd rfl (Or.inl rfl) (aC gp (aa aF (pv 0) pF (fun _ _=>rfl)) (pv 1)))
 (pD (qw (aC i7 (aa aF (pv 0) pF (fun _ _=>rfl)) (pv 1)) (qC (pv 0) pF kB))
 (pG (ae (pv 2))))) ah)
 (pD (pL (i:=3) nd rfl (Or.inl rfl) (aC gp (aC fj (aC cu (aC gp (aa aF (pv 0) pF (fun _ _=>rfl)) pF) (aC fj pF (aa aF (pv 0) pF (fun _ _=>rfl)))) pF) pF))
 (pD (pL (i:=3) nd rfl (Or.inl rfl) (aC gp (aC fj (aC cu (aC i7 (pv 3) pF) (aC fj pF (aa aF (pv 0) pF (fun _ _=>rfl)))) pF) pF))
 (pG (ae (aC gp (aC i7 (pv 3) pF) (pv 1)))))))),?_⟩
   dsimp only[bd];refine⟨_,rfl,b,_,_,_,rfl,rfl,SqL.of hb,xI,_,_,rfl,rfl,_,rfl,b,_,_,2,rfl,rfl,hb,rfl,?_⟩;have e1:(upd H b (.lst ([V.int n,V.int c,V.int k].set 2 (V.int (k+1))))) b=some (.lst [V.int n,V.int c,V.int (k+1)]):=pE;have m1:Mo H b (upd H b (.lst ([V.int n,V.int c,V.int k].set 2 (V.int (k+1))))):=Mo.put fun _ _=>rfl;generalize upd H b (.lst ([V.int n,V.int c,V.int k].set 2 (V.int (k+1))))=H1 at e1 m1 ⊢;refine⟨_,rfl,b,_,_,_,rfl,rfl,SqL.of e1,xJ,_,_,rfl,rfl,_,rfl,?_⟩;refine bN (fun _=>?_) (fun _=>?_)
   · refine⟨_,rfl,b,_,_,_,rfl,rfl,SqL.of e1,xJ,_,rfl,_,_,rfl,rfl,hm,?_⟩;refine⟨_,rfl,b,_,_,_,rfl,rfl,SqL.of e1,xJ,_,rfl,_,_,rfl,rfl,⟨hm,by omega⟩,_,rfl,b,_,_,0,rfl,rfl,e1,rfl,?_⟩;exact⟨_,rfl,q _ _ (o9 _ _ hm).1 (o9 _ _ hm).2 m1.put ⟨_,c,pE,by omega⟩⟩
   · have hc:=o9 c 2147483647 (by decide);refine⟨_,rfl,b,_,_,_,rfl,rfl,SqL.of e1,Ca,_,_,rfl,rfl,show (0:Int)<2147483647 by decide,_,rfl,b,_,_,_,rfl,rfl,SqL.of e1,xI,_,_,rfl,rfl,.inl ⟨by decide,by decide⟩,_,_,rfl,rfl,_,_,rfl,rfl,.inr ⟨by decide,by decide⟩,_,_,rfl,rfl,show (0:Int)<2147483629 by decide,?_⟩;refine⟨_,rfl,_,_,rfl,rfl,⟨by decide,by decide⟩,_,rfl,b,_,_,_,rfl,rfl,SqL.of e1,xI,_,_,rfl,rfl,.inl ⟨by decide,by decide⟩,_,_,rfl,rfl,_,_,rfl,rfl,.inr ⟨by decide,by decide⟩,_,_,rfl,rfl,show (0:Int)<2147483587 by decide,?_⟩;refine⟨_,rfl,_,_,rfl,rfl,⟨by decide,by decide⟩,_,rfl,_,_,rfl,rfl,hm,?_⟩;exact q _ _ (o9 _ _ hm).1 (o9 _ _ hm).2 m1 ⟨n,c,e1,by omega⟩
end
def dI (nx:Int) (hd:Addr) (own:Nat) (rc:Addr) (ca:Int):List (Key×V):=[(.inr "next",.int nx),(.inr "heads",.ref hd),(.inr "own",.int ((own:Nat):Int)),(.inr "records",.ref rc),(.inr "calls",.int ca)]
theorem qR {nx ca i:Int} {hd rc:Addr} {own:Nat}:bT (dI nx hd own rc ca) (.inr "next") (.int i)=dI i hd own rc ca:=rfl
theorem oj {nx ca i:Int} {hd rc:Addr} {own:Nat}:bT (dI nx hd own rc ca) (.inr "calls") (.int i)=dI nx hd own rc i:=rfl
def dH (p:Str×Nat):PyData:=.tuple [.str p.1,.int ((p.2:Nat):Int)]
def Sm2 (b g:Addr) (H H':Hp):Prop:=∀ a u,a≠b→a≠g→H a=some u→H' a=some u
theorem Sm2.trans {b g:Addr} {H H1 H2:Hp} (x:Sm2 b g H H1) (y:Sm2 b g H1 H2):Sm2 b g H H2:=fun a u h1 h2 h=>y a u h1 h2 (x a u h1 h2 h)
theorem Sm2.of {b g:Addr} {H H':Hp} (s:ai H H'):Sm2 b g H H':=fun a u _ _ h=>s a u h
theorem Mo.sm2 {b g:Addr} {H H':Hp} (m:Mo H b H'):Sm2 b g H H':=fun a u h1 _ h=>(m a h1).trans h
theorem Mo.sm2' {b g:Addr} {H H':Hp} (m:Mo H g H'):Sm2 b g H H':=fun a u _ h2 h=>(m a h2).trans h
structure MS (K:Fg) (H:Hp) (Γ:Gam) (b g hd rc:Addr) (k nx ca:Int):Prop where
  bx:fV H b k
  lo:H g=some (.dK (dI nx hd Γ.own rc ca))
  hv:∃ xs,H hd=some (.lst xs)∧TDs K H xs (Γ.hs.map dH)
  hb:hd≠b
  rv:TD K H (.ref rc) (dN Γ.rs)
theorem MS.bf {K:Fg} {H:Hp} {Γ:Gam} {b g hd rc:Addr} {k nx ca:Int} (h:MS K H Γ b g hd rc k nx ca):∃ ys,H b=some (.lst ys):=by obtain⟨n,c,h,_⟩:=h.bx;exact⟨_,h⟩
theorem MS.ne {K:Fg} {H:Hp} {Γ:Gam} {b g hd rc:Addr} {k nx ca:Int} (h:MS K H Γ b g hd rc k nx ca):b≠g:=fun e=>by
 obtain⟨ys,h1⟩:=h.bf;rw[e,h.lo] at h1;cases h1
theorem MS.ng {K:Fg} {H:Hp} {Γ:Gam} {b g hd rc:Addr} {k nx ca:Int} (h:MS K H Γ b g hd rc k nx ca):hd≠g:=fun e=>by
 obtain⟨xs,h1,_⟩:=h.hv;rw[e,h.lo] at h1;cases h1
theorem Sm2.tk {K:Fg} {H H':Hp} {Γ:Gam} {b g hd rc:Addr} {k nx ca:Int} (s:Sm2 b g H H') (m:MS K H Γ b g hd rc k nx ca):Tk H H':=fun a xs h=>by
 have n1:a≠b:=fun e=>by
  obtain⟨ys,h1⟩:=m.bf;rw[e] at h
  rcases h with h | ⟨_,h⟩ <;> rw[h1] at h <;> cases h
 have n2:a≠g:=fun e=>by
  rw[e] at h
  rcases h with h | ⟨_,h⟩ <;> rw[m.lo] at h <;> cases h
 rcases h with h | ⟨o,h⟩
 · exact .inl (s _ _ n1 n2 h)
 · exact .inr ⟨o,s _ _ n1 n2 h⟩
theorem MS.same {K:Fg} {H H':Hp} {Γ:Gam} {b g hd rc:Addr} {k nx ca:Int} (m:MS K H Γ b g hd rc k nx ca) (s:ai H H'):MS K H' Γ b g hd rc k nx ca:=by
 obtain⟨n,c,h,h0⟩:=m.bx;obtain⟨xs,h1,h2⟩:=m.hv;exact⟨⟨n,c,s _ _ h,h0⟩,s _ _ m.lo,⟨xs,s _ _ h1,h2.same s⟩,m.hb,m.rv.same s⟩
theorem MS.took {K:Fg} {H H':Hp} {Γ:Gam} {b g hd rc:Addr} {k k' nx ca:Int} (m:MS K H Γ b g hd rc k nx ca) (mo:Mo H b H') (bx:fV H' b k'):MS K H' Γ b g hd rc k' nx ca:=by
 obtain⟨xs,h1,h2⟩:=m.hv;have tk:=Sm2.tk (mo.sm2 (g:=g)) m;exact⟨bx,(mo g (Ne.symm m.ne)).trans m.lo,⟨xs,(mo hd m.hb).trans h1,h2.tk tk⟩,m.hb,m.rv.tk tk⟩
theorem MS.put {K:Fg} {H:Hp} {Γ:Gam} {b g hd rc:Addr} {k nx ca nx' ca':Int} (m:MS K H Γ b g hd rc k nx ca):MS K (upd H g (.dK (dI nx' hd Γ.own rc ca'))) Γ b g hd rc k nx' ca':=by
 obtain⟨xs,h1,h2⟩:=m.hv;obtain⟨n,c,h,h0⟩:=m.bx;have mo:Mo H g (upd H g (.dK (dI nx' hd Γ.own rc ca'))):=Mo.put fun _ _=>rfl;have tk:=Sm2.tk (mo.sm2' (b:=b)) m;exact⟨⟨n,c,(mo b m.ne).trans h,h0⟩,pE,⟨xs,(mo hd m.ng).trans h1,h2.tk tk⟩,m.hb,m.rv.tk tk⟩
structure iR (K:Fg) (H:Hp) (b g sd:Addr) (L W:List Int):Prop where
  ex:∃ la va,SqT K H sd [.ref la,.ref va]∧H la=some (.lst (L.map V.int))∧H va=some (.lst (W.map V.int))∧la≠b∧va≠b∧la≠g∧va≠g
theorem iR.sm {K:Fg} {H H':Hp} {Γ:Gam} {b g hd rc sd:Addr} {k nx ca:Int} {L W:List Int} (h:iR K H b g sd L W) (m:MS K H Γ b g hd rc k nx ca) (s:Sm2 b g H H'):iR K H' b g sd L W:=by
 obtain⟨la,va,h1,h2,h3,n1,n2,n3,n4⟩:=h.ex;exact⟨la,va,h1.tk (s.tk m),s _ _ n1 n3 h2,s _ _ n2 n4 h3,n1,n2,n3,n4⟩
def cst:Nat→Nat
  | 0=>10
  | n+1=>8*cst n+60
theorem eP (n:Nat):10≤cst n:=by
 cases n with
 | zero=>exact Nat.le_refl _
 | succ n=>show 10≤8*cst n+60;omega
section
variable {P:Program} {w:World} {K:Fg} {mg:SOV} {base:Heap}
abbrev sFr:Stmt:=top 23
inductive vC (K:Fg) (vs:List V) (H:Hp) (Q:VK):Prop
  | mk (Γ:Gam) (b g hd rc:Addr) (k nx ca:Int) (h0:vs=[.ref g]) (h1:MS K H Γ b g hd rc k nx ca) (q:∀ H',Mo H g H'→MS K H' Γ b g hd rc k (nx+1) ca→Q (.int nx) H'):vC K vs H Q
def wu (K:Fg):Sp:=fun vs H Q _=>vC K vs H Q
theorem Bk:am ["_law_lore"] ["_law_lore"] (a0 sFr):=fsM
theorem A9 (D:Def K mg "_law_fresh" sFr):Fn P w K mg base "_law_fresh" 1 ["_law_lore"] (wu K):=by
 refine D.fn Bk (fun vs H Q E h=>?_) (fun _ _ _ _ _ _ us hl=>by obtain⟨a,rfl⟩:=iF hl;rfl) (fun f' cdv A outer s' H vs Q E hr h=>?_)
 · obtain⟨Γ,b,g,hd,rc,k,nx,ca,rfl,_⟩:=h;rfl
 · obtain⟨Γ,b,g,hd,rc,k,nx,ca,rfl,m,q⟩:=h;have hu:=eY hr;refine⟨_,(pD (hV hu (pv 0) pC (aC cu (pK hu (pv 0) pC (fun _ _=>rfl)) pF) rfl)
 (pG (ae (aC d0 (pK hu (pv 0) pC (fun _ _=>rfl)) pF)))),?_⟩
   have e1:bP H g (.str "next") (some (.int nx)):=bP.k (k:=.inr "next") m.lo;have m1:=m.put (nx':=nx+1) (ca':=ca);refine⟨_,rfl,g,_,rfl,e1,_,_,rfl,rfl,_,rfl,g,_,rfl,lj.k (k:=.inr "next") m.lo (by show 5<sizeLine;decide),?_⟩;rw[qR];have e2:bP (upd H g (.dK (dI (nx+1) hd Γ.own rc ca))) g (.str "next") (some (.int (nx+1))):=bP.k (k:=.inr "next") m1.lo;refine⟨_,rfl,g,_,rfl,e2,_,_,rfl,rfl,?_⟩;rw[show nx+1-1=nx by omega];exact q _ (Mo.put fun _ _=>rfl) m1
abbrev sLf:Stmt:=top 22
inductive vq (K:Fg) (vs:List V) (H:Hp) (Q:VK):Prop
  | mk (Γ:Gam) (b g hd rc sd:Addr) (k nx ca:Int) (L W:List Int) (h0:vs=[.ref b,.ref sd]) (h1:MS K H Γ b g hd rc k nx ca) (h2:iR K H b g sd L W) (h3:k≤990000) (h4:L.length+W.length≤1000)
    (q:∀ v d k' H',Sm2 b g H H'→MS K H' Γ b g hd rc k' nx ca→k'≤k+3→TD K H' v d→(∀ n,XE Γ L W (n+1) nx d nx)→Q v H'):vq K vs H Q
def pX (K:Fg):Sp:=fun vs H Q _=>vq K vs H Q
theorem yZ:am ["_law_box_here","_law_seen","_law_some"] ["_law_box_here","_law_seen"] (a0 sLf):=fsM
def cg:List Int:=[0,1,2,3,-1,32767]
theorem mZ {j:Nat} (h:j<cg.length):sh cg[j]:=by
 have:∀ i∈cg,sh i:=by decide
 exact this _ (List.getElem_mem h)
theorem zV (D:Def K mg "_law_leaf" sLf) (T:Blt mg) (a7:Fn P w K mg base "_law_take" 1 ["_law_box_here","_law_many_here"] fZ):Fn P w K mg base "_law_leaf" 2 ["_law_box_here","_law_seen"] (pX K):=by
 refine D.fn yZ (fun vs H Q E h=>?_) (fun _ _ _ _ _ _ us hl=>by obtain⟨a,b,rfl⟩:=dl hl;rfl) (fun f' cdv A outer s' H vs Q E hr h=>?_)
 · obtain⟨Γ,b,g,hd,rc,sd,k,nx,ca,L,W,rfl,_⟩:=h;rfl
 · obtain⟨Γ,b,g,hd,rc,sd,k,nx,ca,L,W,rfl,m,sv,hk,hlw,q⟩:=h;have nd:=yZ.nd;have hz0:(100000:Nat)<sizeLine:=by decide
   obtain⟨la,va,h1,h2,h3,n1,n2,n3,n4⟩:=sv.ex;refine⟨_,(pD (pL (i:=2) nd rfl (Or.inl rfl) (aC cz (aa a9 (pv 1) pF (fun _ _=>rfl)) (aa a9 (pv 1) pF (fun _ _=>rfl))))
 (pD (az (PW.pt (dO (pM (qK (eY hr)) (pv 2) (aM pB) (pN _)) (cY (pM aH (ab a7 (hr.mono (by decide)) rfl (pA (pv 0) (pA pF pB))) pF (pN _))))) (@pG _ _ _ (@ae _ _ _ _ (@ag _ _ _ _ _ (@pA _ _ _ _ _ pC (@pA _ _ _ _ _ (@aa _ _ _ _ _ _ _ aF (@aM _ _ _ _ (@pA _ _ _ _ _ pF (@pA _ _ _ _ _ pF (@pA _ _ _ _ _ pF (@pA _ _ _ _ _ pF (@pA _ _ _ _ _ (@mX _ _ _ _ _ _ jq pF) (@pA _ _ _ _ _ pF pB (by rfl)) (by rfl)) (by rfl)) (by rfl)) (by rfl)) (by rfl))) (ab a7 (hr.mono (by decide)) rfl (pA (pv 0) (pA pF pB))) (fun _ _=>rfl)) pB (by rfl)) (by rfl))))) ah)
 (@pG _ _ _ (@ae _ _ _ _ (@ag _ _ _ _ _ (@pA _ _ _ _ _ pC (@pA _ _ _ _ _ (@aa _ _ _ _ _ _ _ aF (pv 2) (ab a7 (hr.mono (by decide)) rfl (pA (pv 0) (pA (bJ T.len (pA (pv 2) pB)) pB))) (fun _ _=>rfl)) pB (by rfl)) (by rfl))))))),?_⟩
   dsimp only[bd];refine⟨_,rfl,sd,_,_,_,rfl,rfl,h1,pH (j:=0) rfl,_,rfl,sd,_,_,_,rfl,rfl,h1,pH (j:=1) rfl,la,va,_,_,rfl,rfl,SqL.of h2,SqL.of h3,by simp;omega,fun p hp=>?_⟩;have kp:=smu (o:=HO.lst (L.map V.int++W.map V.int)) hp;have ep:(upd H p (.lst (L.map V.int++W.map V.int))) p=some (.lst ((L++W).map V.int)):=by rw[pE,List.map_append]
   have m1:=m.same kp;have pb:p≠b:=fun e=>by
    obtain⟨ys,hy⟩:=m.bf;rw[e,hy] at hp;cases hp
   have s1:Sm2 b g H (upd H p (.lst (L.map V.int++W.map V.int))):=Sm2.of kp;generalize upd H p (.lst (L.map V.int++W.map V.int))=H1 at kp ep m1 s1 ⊢;refine⟨_,rfl,lm,fun p2 hp2=>?_⟩;have kp2:=smu (o:=HO.lst []) hp2;refine⟨p,p2,_,rfl,rfl,SqL.of (kp2 _ _ ep),SqL.of pE,_,rfl,?_⟩;have m2:=m1.same kp2;have ep2:=kp2 _ _ ep;have s2:=s1.trans (Sm2.of (b:=b) (g:=g) kp2);generalize upd H1 p2 (.lst [])=H2 at m2 ep2 s2 ⊢;by_cases he:L++W=[]
   · refine pJ (by rw[he];rfl) ?_;refine cB ?_;refine⟨1,rfl,Cg,fun p hp=>?_⟩;have kp:=smu (o:=HO.lst (cg.map V.int)) hp;have mq:=(m2).same kp;have pb:p≠b:=fun e=>by
      obtain⟨ys,hy⟩:=(m2).bf;rw[e,hy] at hp;cases hp
     have ep:(upd H2 p (.lst (cg.map V.int))) p=some (.lst (cg.map V.int)):=pE;refine⟨_,rfl,b,k,6,rfl,mq.bx,by omega,by decide,by decide,fun r H3 r0 r1 mo bx=>?_⟩;have m3:=mq.took mo bx;obtain⟨j,rfl⟩:=Int.eq_ofNat_of_zero_le r0;have hj:j<cg.length:=by show j<6;omega
     refine⟨p,_,_,V.int cg[j],rfl,rfl,SqL.of ((mo p pb).trans ep),pH (by simp[hj]),cE,fun t ht=>?_⟩;have kt:=smu (o:=HO.tup [V.str "number",V.int cg[j]]) ht;exact q _ (.tuple [.str "number",.int cg[j]]) (k+1) _ ((s2).trans ((Sm2.of kp).trans (mo.sm2.trans (Sm2.of kt)))) (m3.same kt) (by omega) (.tup (SqT.of pE) (.cons (.str _) (.cons (.int _) .nil))) fun n=>fC (mZ hj)
   · refine pI (by simpa using he) ?_;refine⟨_,rfl,b,k,3,rfl,m2.bx,by omega,by decide,by decide,fun r H3 r0 r1 mo bx=>⟨rfl,_,rfl,?_⟩⟩;have m3:=m2.took mo bx;have ep3:=(mo p pb).trans ep2;refine bN (fun _=>?_) (fun _=>?_)
     · clear ep2;refine⟨1,rfl,Cg,fun p hp=>?_⟩;have kp:=smu (o:=HO.lst (cg.map V.int)) hp;have mq:=(m3).same kp;have pb:p≠b:=fun e=>by
        obtain⟨ys,hy⟩:=(m3).bf;rw[e,hy] at hp;cases hp
       have ep:(upd H3 p (.lst (cg.map V.int))) p=some (.lst (cg.map V.int)):=pE;refine⟨_,rfl,b,(k+1),6,rfl,mq.bx,by omega,by decide,by decide,fun r H5 r0 r1 mo5 bx5=>?_⟩;have m5:=mq.took mo5 bx5;obtain⟨j,rfl⟩:=Int.eq_ofNat_of_zero_le r0;have hj:j<cg.length:=by show j<6;omega
       refine⟨p,_,_,V.int cg[j],rfl,rfl,SqL.of ((mo5 p pb).trans ep),pH (by simp[hj]),cE,fun t ht=>?_⟩;have kt:=smu (o:=HO.tup [V.str "number",V.int cg[j]]) ht;exact q _ (.tuple [.str "number",.int cg[j]]) ((k+1)+1) _ ((s2.trans mo.sm2).trans ((Sm2.of kp).trans (mo5.sm2.trans (Sm2.of kt)))) (m5.same kt) (by omega) (.tup (SqT.of pE) (.cons (.str _) (.cons (.int _) .nil))) fun n=>fC (mZ hj)
     · have hpos:0<(L++W).length:=List.length_pos_iff.mpr he;refine⟨_,rfl,_,rfl,_,rfl,p,_,rfl,.inl (SqL.of ep3),b,k+1,_,rfl,m3.bx,by omega,by rw[lMp];omega,by rw[lMp,lAp];omega,fun r H4 r0 r1 mo4 bx4=>?_⟩;rw[lMp] at r1;obtain⟨j,rfl⟩:=Int.eq_ofNat_of_zero_le r0;have hj:j<(L++W).length:=by omega
       have m4:=m3.took mo4 bx4;refine⟨p,_,_,V.int (L++W)[j],rfl,rfl,SqL.of ((mo4 p pb).trans ep3),pH (by rw[gEM,gEE hj];rfl),cE,fun t ht=>?_⟩;have kt:=smu (o:=HO.tup [V.str "name",V.int (L++W)[j]]) ht;exact q _ (.tuple [.str "name",.int (L++W)[j]]) (k+1+1) _ (s2.trans (mo.sm2.trans (mo4.sm2.trans (Sm2.of kt)))) (m4.same kt) (by omega) (.tup (SqT.of pE) (.cons (.str _) (.cons (.int _) .nil))) fun n=>ln (List.getElem_mem hj)
end
theorem aV (n:Nat):(L2.cq 0 n).length=n:=by simp[L2.cq]
theorem BQ {α:Type} {l:List α} (h:l.length=5):∃ a b c d e,l=[a,b,c,d,e]:=by
 obtain⟨a,r,rfl⟩:=List.exists_cons_of_length_eq_add_one h;obtain⟨b,c,d,e,rfl⟩:=j4 (show r.length=4 by simpa using h);exact⟨a,b,c,d,e,rfl⟩
theorem Sm2.put {b g L:Addr} {H H2:Hp} {o:HO} (s:Sm2 b g H H2) (h:H L=none):Sm2 b g H (upd H2 L o):=fun a u h1 h2 e=>by
 rw[ad (af e h)];exact s a u h1 h2 e
section
variable {K:Fg} {H H':Hp} {Γ:Gam} {b g hd rc L:Addr} {k nx ca:Int}
theorem MS.new (m:MS K H Γ b g hd rc k nx ca) (h:H L=none):L≠b∧L≠g∧L≠hd:=by
 obtain⟨ys,hy⟩:=m.bf;obtain⟨xs,h1,_⟩:=m.hv;exact⟨Ne.symm (af hy h),Ne.symm (af m.lo h),Ne.symm (af h1 h)⟩
theorem MS.updL {ys zs:List V} (m:MS K H Γ b g hd rc k nx ca) (n:L≠b∧L≠g∧L≠hd) (h:H L=some (.lst ys)):MS K (upd H L (.lst zs)) Γ b g hd rc k nx ca:=by
 obtain⟨xs,h1,h2⟩:=m.hv;obtain⟨i,c,h3,h0⟩:=m.bx;have tk:Tk H (upd H L (.lst zs)):=bu (.inr ⟨_,h⟩);exact⟨⟨i,c,by rw[ad (Ne.symm n.1)];exact h3,h0⟩,by rw[ad (Ne.symm n.2.1)];exact m.lo,⟨xs,by rw[ad (Ne.symm n.2.2)];exact h1,h2.tk tk⟩,m.hb,m.rv.tk tk⟩
end
structure GOk (Γ:Gam):Prop where
  hc:∀ p∈Γ.hs,p.2≤2
  hl:Γ.hs.length≤10
  ho:Γ.own<Γ.hs.length
  rl:Γ.rs.length≤3
  rr:∀ r∈Γ.rs,1≤r∧r≤3
section
variable {P:Program} {w:World} {K:Fg} {mg:SOV} {base:Heap}
structure Ask (K:Fg) (H:Hp) (Γ:Gam) (b g hd rc sd:Addr) (k nx ca:Int) (L W:List Int) (n:Nat):Prop where
  m:MS K H Γ b g hd rc k nx ca
  s:iR K H b g sd L W
  o:GOk Γ
  l:L.length+W.length+3*n≤100
section
variable {H H':Hp} {Γ:Gam} {b g hd rc sd:Addr} {k k' nx nx' ca ca':Int} {L W:List Int} {n:Nat}
theorem Ask.go (A:Ask K H Γ b g hd rc sd k nx ca L W n) (s:Sm2 b g H H') (m:MS K H' Γ b g hd rc k' nx' ca'):Ask K H' Γ b g hd rc sd k' nx' ca' L W n:=⟨m,A.s.sm A.m s,A.o,A.l⟩
theorem Ask.lo {m:Nat} (A:Ask K H Γ b g hd rc sd k nx ca L W n) (h:m≤n):Ask K H Γ b g hd rc sd k nx ca L W m:=⟨A.m,A.s,A.o,by have:=A.l;omega⟩
end
inductive xO (K:Fg) (n c x:Nat) (vs:List V) (H:Hp) (Q:VK):Prop
  | mk (Γ:Gam) (b g hd rc sd:Addr) (k nx ca:Int) (L W:List Int) (h0:vs=[.ref b,.int ((n:Nat):Int),.ref sd,.ref g]) (h1:Ask K H Γ b g hd rc sd k nx ca L W n) (h2:k+((c:Nat):Int)≤900000)
    (q:∀ v d k' nx' ca' H',Sm2 b g H H'→MS K H' Γ b g hd rc k' nx' ca'→k'≤k+((c:Nat):Int)→TD K H' v d→XE Γ L W x nx d nx'→Q v H'):xO K n c x vs H Q
def spE (K:Fg) (n:Nat):Sp:=fun vs H Q _=>xO K n (cst n) (2*n+1) vs H Q
def spK (K:Fg) (n:Nat):Sp:=fun vs H Q _=>xO K n (8*cst n+50) (2*n+3) vs H Q
inductive vg (K:Fg) (n:Nat) (vs:List V) (H:Hp) (Q:VK):Prop
  | mk (Γ:Gam) (b g hd rc sd:Addr) (k nx ca:Int) (L W:List Int) (m:Nat) (h0:vs=[.ref b,.int ((n:Nat):Int),.ref sd,.ref g,.int ((m:Nat):Int)]) (h1:Ask K H Γ b g hd rc sd k nx ca L W n) (hm:m≤4) (h2:k+((m*cst n:Nat):Int)≤900000)
    (q:∀ v ds k' nx' ca' H',Sm2 b g H H'→MS K H' Γ b g hd rc k' nx' ca'→k'≤k+((m*cst n:Nat):Int)→TD K H' v (.tuple ds)→ds.length=m→XEs Γ L W (2*n+1) nx ds nx'→Q v H'):vg K n vs H Q
def jv (K:Fg) (n:Nat):Sp:=fun vs H Q _=>vg K n vs H Q
abbrev ps4:List Str:=["_law_box_here","_law_deep","_law_seen","_law_lore"]
abbrev sMn:Stmt:=top 24
abbrev nMn:List Str:=["_law_box_here","_law_deep","_law_seen","_law_lore","_law_many_here"]
theorem B8:am nMn nMn (a0 sMn):=fsM
theorem BL:(["_law_k","_law_box_here","_law_deep","_law_seen","_law_lore"]:List Str).Nodup:=by decide +kernel
theorem uQ {n:Nat} (D:Def K mg "_law_many" sMn) (T:Blt mg) (aW:Fn P w K mg base "_law_e" (4*n+3) ps4 (spE K n)):Fn P w K mg base "_law_many" (4*n+4) nMn (jv K n):=by
 refine D.fn B8 (fun vs H Q E h=>?_) (fun _ _ _ _ _ _ us hl=>by obtain⟨a,b,c,d,e,rfl⟩:=BQ hl;rfl) (fun f' cdv A outer s' H vs Q E hr h=>?_)
 · obtain⟨Γ,b,g,hd,rc,sd,k,nx,ca,L,W,m,rfl,_⟩:=h;rfl
 · obtain⟨Γ,b,g,hd,rc,sd,k,nx,ca,L,W,m,rfl,A0,hm,h2,q⟩:=h;have hz0:(100000:Nat)<sizeLine:=by decide
   refine⟨_,(pG (ae (cW T.tuple (pA (dW (own:=["_law_k"]) (outs:=[(0,"_law_box_here"),(1,"_law_deep"),(2,"_law_seen"),(3,"_law_lore")]) rfl (aB.of (a0 sMn) nMn) (bo rfl T.range (pA (pv 4) pB)) (fun _ _ _ _=>⟨(aw (i:=0) BL rfl (Or.inl rfl)),cf,(ab aW (hr.mono (by omega)) rfl (pA (pv 1) (pA (pv 2) (pA (pv 3) (pA (pv 4) pB)))))⟩)) pB)))),?_⟩;dsimp only[bd];rw[jA,iu,dr,dC];refine⟨_,rfl,_,rfl,by omega,by omega,fun G hG=>?_⟩;rw[show ((m:Nat):Int).toNat=m from Int.toNat_natCast _];have nw:=A0.m.new hG;have k0:=smu (o:=HO.lst []) hG;refine bt.by (ba (n:=m)) (fun j σ Hj=>Sm2 b g H Hj∧(∃ ys ds k' nx' ca',MS K Hj Γ b g hd rc k' nx' ca'∧k'≤k+((j*cst n:Nat):Int)∧Hj G=some (.lst ys)∧TDs K Hj ys ds∧ds.length=j∧XEs Γ L W (2*n+1) nx ds nx')∧∃ y,σ=[y,some (.ref b),some (.int ((n:Nat):Int)),some (.ref sd),some (.ref g)])
    ⟨Sm2.of k0,⟨[],[],k,nx,ca,A0.m.same k0,by omega,pE,.nil,rfl,rfl⟩,_,rfl⟩ (fun _ _ _ _ _=>trivial) ?_ ?_
   · rintro j u σ Hj hu ⟨sj,⟨ys,ds,k1,nx1,ca1,m1,hk1,hGj,hts,hdl,xs⟩,y,rfl⟩;have hj:j<m:=by have:=(gES.mp hu).1;rwa [aV] at this
     have hmul:(j+1)*cst n≤m*cst n:=Nat.mul_le_mul_right _ hj;have hs1:(j+1)*cst n=j*cst n+cst n:=Nat.succ_mul _ _;rw[bh,dM];refine cB ⟨_,rfl,_,rfl,_,rfl,_,rfl,Γ,b,g,hd,rc,sd,k1,nx1,ca1,L,W,rfl,A0.go sj m1,by omega,fun v d k2 nx2 ca2 H2 s2 m2 hk2 tv x2=>?_⟩;have hG2:=s2 _ _ nw.1 nw.2.1 hGj;have yl:=hts.length;refine⟨ys,hG2,by omega,(sj.trans s2).put hG,⟨_,ds++[d],k2,nx2,ca2,m2.updL nw hG2,by omega,pE,((hts.tk (s2.tk m1)).snoc tv).tk (bu (.inr ⟨_,hG2⟩)),by simp[hdl],xs.snoc x2⟩,_,rfl⟩
   · rintro σ Hj ⟨sj,⟨ys,ds,k1,nx1,ca1,m1,hk1,hGj,hts,hdl,xs⟩,y,rfl⟩;rw[aV] at hk1 hdl;refine⟨G,_,rfl,.inl ⟨SqL.of hGj,fun F hF=>?_⟩⟩;have k5:=smu (o:=HO.tup ys) hF;exact q _ ds k1 nx1 ca1 _ (sj.trans (Sm2.of k5)) (m1.same k5) hk1 (.tup (SqT.of pE) (hts.same k5)) hdl xs
end
section
variable {P:Program} {w:World} {K:Fg} {mg:SOV} {base:Heap}
theorem MS.newL {H:Hp} {Γ:Gam} {b g hd rc p:Addr} {k nx ca:Int} {o:HO} (m:MS K H Γ b g hd rc k nx ca) (hp:H p=none):Sm2 b g H (upd H p o)∧MS K (upd H p o) Γ b g hd rc k nx ca∧p≠b∧p≠g :=
 ⟨Sm2.of (smu hp),m.same (smu hp),(m.new hp).1,(m.new hp).2.1⟩
theorem MS.draw {H H':Hp} {Γ:Gam} {b g hd rc:Addr} {k nx ca:Int} (m:MS K H Γ b g hd rc k nx ca) (mo:Mo H b H') (bx:fV H' b (k+1)):Sm2 b g H H'∧MS K H' Γ b g hd rc (k+1) nx ca:=⟨mo.sm2,m.took mo bx⟩
def dY:List Str:=["add","sub","less","same","mul","not","row","size","div","at"]
theorem tL {s:Str} (h:s∈dY):wOk s:=by
 have:∀ s∈dY,wOk s:=by decide +kernel
 exact this s h
abbrev sOp:Stmt:=top 26
abbrev nOp:List Str:=["_law_box_here","_law_deep","_law_seen","_law_lore","_law_word","_law_many_here"]
theorem yV:am nOp ps4 (a0 sOp):=fsM
theorem zO {n:Nat} (D:Def K mg "_law_op" sOp) (T:Blt mg) (a7:Fn P w K mg base "_law_take" 1 ["_law_box_here","_law_many_here"] fZ) (bw:Fn P w K mg base "_law_many" (4*n+4) nMn (jv K n)):Fn P w K mg base "_law_op" (4*n+5) ps4 (spK K n):=by
 refine D.fn yV (fun vs H Q E h=>?_) (fun _ _ _ _ _ _ us hl=>by obtain⟨a,b,c,d,rfl⟩:=j4 hl;rfl) (fun f' cdv A outer s' H vs Q E hr h=>?_)
 · obtain⟨Γ,b,g,hd,rc,sd,k,nx,ca,L,W,rfl,_⟩:=h;rfl
 · obtain⟨Γ,b,g,hd,rc,sd,k,nx,ca,L,W,rfl,A0,h2,q⟩:=h;have nd:=yV.nd;have hz0:(100000:Nat)<sizeLine:=by decide
   have hc:=eP n;obtain⟨t4,h4,r4⟩:∃ t,PSs (be CX0 P w K mg base nOp "_law_op" (a0 sOp) f' cdv A outer s' H E).nox ((ak sOp).drop 4) t ∧
    ∀ (s:Str) (m:Nat) (H1:Hp) (k1:Int),s∈dY→m≤3→Sm2 b g H H1→MS K H1 Γ b g hd rc k1 nx ca→k1≤k+2→t {nx:=fun _ H'=>Q .non H',rt:=Q} [some (.ref b),some (.int ((n:Nat):Int)),some (.ref sd),some (.ref g),some (.str s),some (.int ((m:Nat):Int))] H1:=by
    refine⟨_,(pG (ae (ag (pA pC (pA (pv 4) (pA (ab bw (hr.mono (by omega)) rfl (pA (pv 0) (pA (pv 1) (pA (pv 2) (pA (pv 3) (pA (pv 5) pB)))))) pB)))))),fun s m H1 k1 hs hm s1 m1 hk1=>?_⟩;have hmul:m*cst n≤3*cst n:=Nat.mul_le_mul_right _ hm;refine⟨_,rfl,_,rfl,_,rfl,_,rfl,_,rfl,_,rfl,Γ,b,g,hd,rc,sd,k1,nx,ca,L,W,m,rfl,A0.go s1 m1,by omega,by omega,fun v ds k2 nx2 ca2 H2 s2 m2 hk2 tv hl xs=>?_⟩;refine⟨fX,fun t ht=>?_⟩;have kt:=smu (o:=HO.tup [V.str "op",V.str s,v]) ht;exact q _ (.tuple [.str "op",.str s,.tuple ds]) k2 nx2 ca2 _ (s1.trans (s2.trans (Sm2.of kt))) (m2.same kt) (by omega) (.tup (SqT.of pE) (.cons (.str _) (.cons (.str _) (.cons (tv.same kt) .nil)))) ((oX (tL hs) xs (by omega)).more (by omega))
   obtain⟨t3,h3,r3⟩:∃ t,PSs (be CX0 P w K mg base nOp "_law_op" (a0 sOp) f' cdv A outer s' H E).nox ((ak sOp).drop 3) t ∧
    ∀ (s:Str) (m:Nat) (H1:Hp) (k1:Int),s∈dY→m≤3→Sm2 b g H H1→MS K H1 Γ b g hd rc k1 nx ca→k1≤k+1→t {nx:=fun _ H'=>Q .non H',rt:=Q} [some (.ref b),some (.int ((n:Nat):Int)),some (.ref sd),some (.ref g),some (.str s),some (.int ((m:Nat):Int))] H1:=by
    refine⟨_,(pD (az (pM aH (pv 4) pC (pN _)) (pG (pL (i:=5) nd rfl (Or.inl rfl) (ab a7 (hr.mono (by omega)) rfl (pA (pv 0) (pA pF pB))))) ah) h4),fun s m H1 k1 hs hm s1 m1 hk1=>?_⟩;refine⟨_,rfl,rfl,_,rfl,?_⟩;refine bN (fun _=>?_) (fun _=>?_)
    · refine⟨_,rfl,b,k1,4,rfl,m1.bx,by omega,by decide,by decide,fun r H2 r0 r1 mo bx=>?_⟩;obtain⟨j,rfl⟩:=Int.eq_ofNat_of_zero_le r0;obtain⟨s2,m2⟩:=m1.draw mo bx;exact r4 s j H2 (k1+1) hs (by omega) (s1.trans s2) m2 (by omega)
    · exact r4 s m H1 k1 hs hm s1 m1 (by omega)
   obtain⟨t2,h2',r2⟩:∃ t,PSs (be CX0 P w K mg base nOp "_law_op" (a0 sOp) f' cdv A outer s' H E).nox ((ak sOp).drop 1) t ∧
    ∀ (s:Str) (H1:Hp) (k1:Int) (x5:Option V),s∈dY→Sm2 b g H H1→MS K H1 Γ b g hd rc k1 nx ca→k1≤k+1→t {nx:=fun _ H'=>Q .non H',rt:=Q} [some (.ref b),some (.int ((n:Nat):Int)),some (.ref sd),some (.ref g),some (.str s),x5] H1:=by
    refine⟨_,(pD (pL (i:=5) nd rfl (Or.inl rfl) pF) (pD (az (pM aY (pv 4) (ag (pA pC (pA pC pB))) (by with_unfolding_all rfl)) (pG (pL (i:=5) nd rfl (Or.inl rfl) pF)) ah) h3)),fun s H2 k1 x5 hs S2 m2 hk1=>?_⟩;refine⟨_,rfl,cE,fun u hu=>?_⟩;obtain⟨s3,m3,ub,ug⟩:=m2.newL (o:=HO.tup (([("not":Str),"size"]:List Str).map V.str)) hu;refine⟨u,([("not":Str),"size"]:List Str).map V.str,rfl,.inr (SqT.of pE),rfl,br _,_,rfl,?_⟩;refine bN (fun _=>?_) (fun _=>?_)
    · exact r3 s 1 _ k1 hs (by omega) (S2.trans s3) m3 hk1
    · exact r3 s 2 _ k1 hs (by omega) (S2.trans s3) m3 hk1
   refine⟨_,(@pD _ _ _ _ _ (@pL _ _ 4 _ _ _ _ nd rfl (Or.inl rfl) (@aa _ _ _ _ _ _ _ aF (@aM _ _ _ _ (@pA _ _ _ _ _ pC (@pA _ _ _ _ _ pC (@pA _ _ _ _ _ pC (@pA _ _ _ _ _ pC (@pA _ _ _ _ _ pC (@pA _ _ _ _ _ pC (@pA _ _ _ _ _ pC (@pA _ _ _ _ _ pC (@pA _ _ _ _ _ pC (@pA _ _ _ _ _ pC pB (by rfl)) (by rfl)) (by rfl)) (by rfl)) (by rfl)) (by rfl)) (by rfl)) (by rfl)) (by rfl)) (by rfl))) (ab a7 (hr.mono (by omega)) rfl (pA (pv 0) (pA pF pB))) (fun _ _=>rfl)) (by rfl) (by exact Or.inl rfl)) h2'),?_⟩;dsimp only[bd];refine⟨B1,fun p hp=>?_⟩;have ep:(upd H p (.lst (dY.map V.str))) p=some (.lst (dY.map V.str)):=pE;obtain⟨s1,m1,pb,pg⟩:=A0.m.newL (o:=HO.lst (dY.map V.str)) hp;refine⟨_,rfl,b,k,10,rfl,m1.bx,by omega,by decide,by decide,fun r H2 r0 r1 mo bx=>?_⟩;obtain⟨j,rfl⟩:=Int.eq_ofNat_of_zero_le r0;have hj:j<dY.length:=by show j<10;omega
   obtain⟨s2,m2⟩:=m1.draw mo bx;refine⟨p,_,_,V.str dY[j],rfl,rfl,SqL.of ((mo p pb).trans ep),pH (by simp[hj]),?_⟩;exact r2 dY[j] H2 (k+1) _ (List.getElem_mem hj) (s1.trans s2) m2 (by omega)
end
section
variable {P:Program} {w:World} {K:Fg} {mg:SOV} {base:Heap}
abbrev sFw:Stmt:=top 29
abbrev nFw:List Str:=["_law_box_here","_law_deep","_law_seen","_law_lore","_law_way","_law_test"]
theorem z9:am nFw ps4 (a0 sFw):=fsM
def f2:List Str:=["odd","even"]
theorem A8 {n:Nat} (D:Def K mg "_law_flow" sFw) (T:Blt mg) (a7:Fn P w K mg base "_law_take" 1 ["_law_box_here","_law_many_here"] fZ) (F0:Fn P w K mg base "_law_e" 3 ps4 (spE K 0)) (aW:Fn P w K mg base "_law_e" (4*n+3) ps4 (spE K n)) (bw:Fn P w K mg base "_law_many" (4*n+4) nMn (jv K n)):Fn P w K mg base "_law_flow" (4*n+5) ps4 (spK K n):=by
 refine D.fn z9 (fun vs H Q E h=>?_) (fun _ _ _ _ _ _ us hl=>by obtain⟨a,b,c,d,rfl⟩:=j4 hl;rfl) (fun f' cdv A outer s' H vs Q E hr h=>?_)
 · obtain⟨Γ,b,g,hd,rc,sd,k,nx,ca,L,W,rfl,_⟩:=h;rfl
 · obtain⟨Γ,b,g,hd,rc,sd,k,nx,ca,L,W,rfl,A0,h2,q⟩:=h;have nd:=z9.nd;have hz0:(100000:Nat)<sizeLine:=by decide
   have hc:=eP n;have hc0:cst 0=10:=rfl;obtain⟨t5,h5,r5⟩:∃ t,PSs (be CX0 P w K mg base nFw "_law_flow" (a0 sFw) f' cdv A outer s' H E).nox ((ak sFw).drop 5) t ∧
    ∀ (H1:Hp) (k1:Int) (x4 x5:Option V),Sm2 b g H H1→MS K H1 Γ b g hd rc k1 nx ca→k1≤k+2→t {nx:=fun _ H'=>Q .non H',rt:=Q} [some (.ref b),some (.int ((n:Nat):Int)),some (.ref sd),some (.ref g),x4,x5] H1:=by
    refine⟨_,(pG (ae (ag (pA pC (pA (ab bw (hr.mono (by omega)) rfl (pA (pv 0) (pA (pv 1) (pA (pv 2) (pA (pv 3) (pA (aC cu pF (ab a7 (hr.mono (by omega)) rfl (pA (pv 0) (pA pF pB)))) pB)))))) pB))))),fun H1 k1 x4 x5 s1 m1 hk1=>?_⟩;refine⟨_,rfl,_,rfl,_,rfl,_,rfl,_,rfl,b,k1,4,rfl,m1.bx,by omega,by decide,by decide,fun r H2 r0 r1 mo bx=>?_⟩;obtain⟨j,rfl⟩:=Int.eq_ofNat_of_zero_le r0;obtain⟨s2,m2⟩:=m1.draw mo bx;have hmul:(1+j)*cst n≤4*cst n:=Nat.mul_le_mul_right _ (by omega);refine⟨_,_,rfl,rfl,Γ,b,g,hd,rc,sd,k1+1,nx,ca,L,W,1+j,by rw[Int.natCast_add];rfl,A0.go (s1.trans s2) m2,by omega,by omega,fun v ds k3 nx3 ca3 H3 s3 m3 hk3 tv hl xs=>?_⟩;refine⟨cE,fun t ht=>?_⟩;have kt:=smu (o:=HO.tup [V.str "do",v]) ht;exact q _ (.tuple [.str "do",.tuple ds]) k3 nx3 ca3 _ ((s1.trans s2).trans (s3.trans (Sm2.of kt))) (m3.same kt) (by omega) (.tup (SqT.of pE) (.cons (.str _) (.cons (tv.same kt) .nil))) ((vR xs (by omega)).more (by omega))
   obtain⟨t4,h4,r4⟩:∃ t,PSs (be CX0 P w K mg base nFw "_law_flow" (a0 sFw) f' cdv A outer s' H E).nox ((ak sFw).drop 4) t ∧
    ∀ (H1:Hp) (k1:Int) (j:Nat) (x5:Option V),Sm2 b g H H1→MS K H1 Γ b g hd rc k1 nx ca→k1≤k+2→t {nx:=fun _ H'=>Q .non H',rt:=Q} [some (.ref b),some (.int ((n:Nat):Int)),some (.ref sd),some (.ref g),some (.int ((j:Nat):Int)),x5] H1:=by
    refine⟨_,(pD (az (pM iC (pv 4) pF (pN _)) (pD (pL (i:=5) nd rfl (Or.inl rfl) (ab aW (hr.mono (by omega)) rfl (pA (pv 0) (pA (pv 1) (pA (pv 2) (pA (pv 3) pB))))))
 (pD (az (pM iC (pv 4) pF (pN _)) (pG (pL (i:=5) nd rfl (Or.inl rfl) (ag (pA pC (pA pC (pA (ag (pA (pv 5) pB)) pB)))))) ah)
 (pG (ae (ag (pA pC (pA (pv 5) (pA (ab aW (hr.mono (by omega)) rfl (pA (pv 0) (pA (pv 1) (pA (pv 2) (pA (pv 3) pB))))) (pA (ab aW (hr.mono (by omega)) rfl (pA (pv 0) (pA (pv 1) (pA (pv 2) (pA (pv 3) pB))))) pB))))))))) ah) h5),fun H1 k1 j x5 s1 m1 hk1=>?_⟩
    refine⟨_,rfl,_,_,rfl,rfl,_,rfl,?_⟩;refine bN (fun _=>?_) (fun _=>r5 H1 k1 _ _ s1 m1 hk1);refine⟨_,rfl,_,rfl,_,rfl,_,rfl,Γ,b,g,hd,rc,sd,k1,nx,ca,L,W,rfl,A0.go s1 m1,by omega,fun v d k2 nx2 ca2 H2 s2 m2 hk2 tv x2=>?_⟩;have S2:=s1.trans s2;refine⟨_,rfl,_,_,rfl,rfl,_,rfl,?_⟩;refine bN (fun _=>?_) (fun _=>?_)
    · refine⟨_,rfl,ke,fun u1 hu1=>?_⟩;have k3:=smu (o:=HO.tup [v]) hu1;refine⟨fX,fun u2 hu2=>?_⟩;have k4:=smu (o:=HO.tup [V.str "op",V.str "not",V.ref u1]) hu2;have Sx:=S2.trans (Sm2.of (b:=b) (g:=g) (k3.trans k4));have mx:=(m2.same k3).same k4;have tx:TD K _ (V.ref u2) (.tuple [.str "op",.str "not",.tuple [d]]):=.tup (SqT.of (pE (H:=upd H2 u1 (.tup [v])) (o:=HO.tup [V.str "op",V.str "not",V.ref u1]))) (.cons (.str _) (.cons (.str _) (.cons ((TD.tup (SqT.of pE) (.cons (tv.same k3) .nil)).same k4) .nil)));generalize upd (upd H2 u1 (.tup [v])) u2 (.tup [V.str "op",V.str "not",V.ref u1])=Hx at Sx mx tx ⊢;refine⟨_,rfl,_,rfl,_,rfl,_,rfl,_,rfl,Γ,b,g,hd,rc,sd,k2,nx2,ca2,L,W,rfl,A0.go Sx mx,by omega,fun v5 d5 k5 nx5 ca5 H5 s5 m5 hk5 tv5 x5=>?_⟩;refine⟨_,rfl,_,rfl,_,rfl,_,rfl,Γ,b,g,hd,rc,sd,k5,nx5,ca5,L,W,rfl,A0.go (Sx.trans s5) m5,by omega,fun v6 d6 k6 nx6 ca6 H6 s6 m6 hk6 tv6 x6=>?_⟩;refine⟨rR,fun t ht=>?_⟩;have kt:=smu (o:=HO.tup [V.str "if",V.ref u2,v5,v6]) ht;exact q _ (.tuple [.str "if",.tuple [.str "op",.str "not",.tuple [d]],d5,d6]) k6 nx6 ca6 _ (Sx.trans (s5.trans (s6.trans (Sm2.of kt)))) (m6.same kt) (by omega) (.tup (SqT.of pE) (.cons (.str _) (.cons (((tx.tk (s5.tk mx)).tk (s6.tk m5)).same kt) (.cons ((tv5.tk (s6.tk m5)).same kt) (.cons (tv6.same kt) .nil))))) (yd x2 x5 x6)
    · have Sx:=S2;have mx:=m2;have tx:=tv;refine⟨_,rfl,_,rfl,_,rfl,_,rfl,_,rfl,Γ,b,g,hd,rc,sd,k2,nx2,ca2,L,W,rfl,A0.go Sx mx,by omega,fun v5 d5 k5 nx5 ca5 H5 s5 m5 hk5 tv5 x5=>?_⟩;refine⟨_,rfl,_,rfl,_,rfl,_,rfl,Γ,b,g,hd,rc,sd,k5,nx5,ca5,L,W,rfl,A0.go (Sx.trans s5) m5,by omega,fun v6 d6 k6 nx6 ca6 H6 s6 m6 hk6 tv6 x6=>?_⟩;refine⟨rR,fun t ht=>?_⟩;have kt:=smu (o:=HO.tup [V.str "if",v,v5,v6]) ht;exact q _ (.tuple [.str "if",d,d5,d6]) k6 nx6 ca6 _ (Sx.trans (s5.trans (s6.trans (Sm2.of kt)))) (m6.same kt) (by omega) (.tup (SqT.of pE) (.cons (.str _) (.cons (((tx.tk (s5.tk mx)).tk (s6.tk m5)).same kt) (.cons ((tv5.tk (s6.tk m5)).same kt) (.cons (tv6.same kt) .nil))))) ((ye x2 x5 x6).more (by omega))
   obtain⟨t3,h3,r3⟩:∃ t,PSs (be CX0 P w K mg base nFw "_law_flow" (a0 sFw) f' cdv A outer s' H E).nox ((ak sFw).drop 3) t ∧
    ∀ (H1:Hp) (k1:Int) (j:Nat) (x5:Option V),Sm2 b g H H1→MS K H1 Γ b g hd rc k1 nx ca→k1≤k+1→t {nx:=fun _ H'=>Q .non H',rt:=Q} [some (.ref b),some (.int ((n:Nat):Int)),some (.ref sd),some (.ref g),some (.int ((j:Nat):Int)),x5] H1:=by
    refine⟨_,(pD (az (PW.pt (cZ (pM aH (pv 4) pF (pN _)) (bX (pM aH (ab a7 (hr.mono (by omega)) rfl (pA (pv 0) (pA pF pB))) pF (pN _))))) (pG (ae (ag (pA pC (pA (@aa _ _ _ _ _ _ _ aF (aM (pA pC (pA pC pB))) (ab a7 (hr.mono (by omega)) rfl (pA (pv 0) (pA pF pB))) (fun _ _=>rfl)) pB))))) ah) h4),fun H1 k1 j x5 s1 m1 hk1=>?_⟩;refine⟨_,rfl,rfl,_,rfl,?_⟩;refine bN (fun _=>?_) (fun _=>?_)
    · refine⟨_,rfl,b,k1,3,rfl,m1.bx,by omega,by decide,by decide,fun r H2 r0 r1 mo bx=>⟨rfl,_,rfl,?_⟩⟩;obtain⟨s2,m2⟩:=m1.draw mo bx;have S2:=s1.trans s2;refine bN (fun _=>?_) (fun _=>r4 H2 _ j _ S2 m2 (by omega));refine⟨cE,fun p hp=>?_⟩;obtain⟨s3,m3,pb,pg⟩:=m2.newL (o:=HO.lst (f2.map V.str)) hp;have ep:(upd H2 p (.lst (f2.map V.str))) p=some (.lst (f2.map V.str)):=pE;refine⟨_,rfl,b,_,2,rfl,m3.bx,by omega,by decide,by decide,fun r' H4 r0' r1' mo' bx'=>?_⟩;obtain⟨i,rfl⟩:=Int.eq_ofNat_of_zero_le r0';have hi:i<f2.length:=by show i<2;omega
      obtain⟨s4,m4⟩:=m3.draw mo' bx';refine⟨p,_,_,V.str f2[i],rfl,rfl,SqL.of ((mo' p pb).trans ep),pH (by simp[hi]),cE,fun t ht=>?_⟩;have kt:=smu (o:=HO.tup [V.str "fault",V.str f2[i]]) ht;have hl:∀ s∈f2,wOk s:=by decide +kernel
      exact q _ (.tuple [.str "fault",.str f2[i]]) (k1+1+1) nx ca _ (S2.trans (s3.trans (s4.trans (Sm2.of kt)))) (m4.same kt) (by omega) (.tup (SqT.of pE) (.cons (.str _) (.cons (.str _) .nil))) (rT (hl _ (List.getElem_mem hi)))
    · exact r4 H1 k1 j _ s1 m1 (by omega)
   refine⟨_,(pD (pL (i:=4) nd rfl (Or.inl rfl) (ab a7 (hr.mono (by omega)) rfl (pA (pv 0) (pA pF pB))))
 (pD (az (pM aH (pv 4) pF (pN _)) (pG (ae (ag (pA pC (pA (ab F0 (hr.mono (by omega)) rfl (pA (pv 0) (pA pF (pA (pv 2) (pA (pv 3) pB))))) (pA (ab aW (hr.mono (by omega)) rfl (pA (pv 0) (pA (pv 1) (pA (pv 2) (pA (pv 3) pB))))) pB)))))) ah)
 (pD (az (pM aH (pv 4) pF (pN _)) (pG (ae (ag (pA pC (pA (ab aW (hr.mono (by omega)) rfl (pA (pv 0) (pA (pv 1) (pA (pv 2) (pA (pv 3) pB))))) pB))))) ah) h3))),?_⟩
   refine⟨_,rfl,b,k,8,rfl,A0.m.bx,by omega,by decide,by decide,fun r H1 r0 r1 mo bx=>?_⟩;obtain⟨j,rfl⟩:=Int.eq_ofNat_of_zero_le r0;obtain⟨s1,m1⟩:=A0.m.draw mo bx;refine⟨_,rfl,rfl,_,rfl,?_⟩;refine bN (fun _=>?_) (fun _=>?_)
   · refine⟨_,rfl,_,rfl,_,rfl,Γ,b,g,hd,rc,sd,k+1,nx,ca,L,W,rfl,(A0.lo (Nat.zero_le _)).go s1 m1,by omega,fun v5 d5 k5 nx5 ca5 H5 s5 m5 hk5 tv5 x5=>?_⟩;refine⟨_,rfl,_,rfl,_,rfl,_,rfl,Γ,b,g,hd,rc,sd,k5,nx5,ca5,L,W,rfl,A0.go (s1.trans s5) m5,by omega,fun v6 d6 k6 nx6 ca6 H6 s6 m6 hk6 tv6 x6=>?_⟩;refine⟨fX,fun t ht=>?_⟩;have kt:=smu (o:=HO.tup [V.str "while",v5,v6]) ht;exact q _ (.tuple [.str "while",d5,d6]) k6 nx6 ca6 _ (s1.trans (s5.trans (s6.trans (Sm2.of kt)))) (m6.same kt) (by omega) (.tup (SqT.of pE) (.cons (.str _) (.cons ((tv5.tk (s6.tk m5)).same kt) (.cons (tv6.same kt) .nil)))) ((rS (x5.more (by omega)) x6).more (by omega))
   refine⟨_,rfl,rfl,_,rfl,?_⟩;refine bN (fun _=>?_) (fun _=>r3 H1 _ j _ s1 m1 (by omega));refine⟨_,rfl,_,rfl,_,rfl,_,rfl,Γ,b,g,hd,rc,sd,k+1,nx,ca,L,W,rfl,A0.go s1 m1,by omega,fun v6 d6 k6 nx6 ca6 H6 s6 m6 hk6 tv6 x6=>?_⟩;refine⟨cE,fun t ht=>?_⟩;have kt:=smu (o:=HO.tup [V.str "say",v6]) ht;exact q _ (.tuple [.str "say",d6]) k6 nx6 ca6 _ (s1.trans (s6.trans (Sm2.of kt))) (m6.same kt) (by omega) (.tup (SqT.of pE) (.cons (.str _) (.cons (tv6.same kt) .nil))) ((oW x6).more (by omega))
end
section
variable {P:Program} {w:World} {K:Fg} {mg:SOV} {base:Heap}
theorem pw {H:Hp} {xs:List V} {is:List Int} (h:TDs K H xs (is.map .int)):xs=is.map V.int:=by
 induction is generalizing xs with
 | nil=>cases h;rfl
 | cons i r ih =>
  cases h with
  | cons a b=>rw[ih b,a.int_of];rfl
theorem MS.recs {H:Hp} {Γ:Gam} {b g hd rc:Addr} {k nx ca:Int} (m:MS K H Γ b g hd rc k nx ca):SqT K H rc (Γ.rs.map fun n=>V.int ((n:Nat):Int)):=by
 obtain⟨a,xs,e,h,hx⟩:=(show TD K H (.ref rc) (.tuple (Γ.rs.map fun n=>.int ((n:Nat):Int))) from m.rv).tup_of;cases e;have:xs=Γ.rs.map fun n=>V.int ((n:Nat):Int):=by
  have z:Γ.rs.map (fun n=>PyData.int ((n:Nat):Int))=(Γ.rs.map fun n=>((n:Nat):Int)).map PyData.int:=by rw[List.map_map];rfl
  rw[z] at hx;have:=pw hx;rw[this,List.map_map];rfl
 rw[← this];exact h
theorem MS.dg {H:Hp} {Γ:Gam} {b g hd rc:Addr} {k nx ca:Int} (m:MS K H Γ b g hd rc k nx ca):bP H g (.str "records") (some (.ref rc)):=bP.k (k:=.inr "records") m.lo
theorem MS.dh {H:Hp} {Γ:Gam} {b g hd rc:Addr} {k nx ca:Int} (m:MS K H Γ b g hd rc k nx ca):bP H g (.str "heads") (some (.ref hd)):=bP.k (k:=.inr "heads") m.lo
theorem MS.dw {H:Hp} {Γ:Gam} {b g hd rc:Addr} {k nx ca:Int} (m:MS K H Γ b g hd rc k nx ca):bP H g (.str "own") (some (.int ((Γ.own:Nat):Int))):=bP.k (k:=.inr "own") m.lo
theorem MS.dc {H:Hp} {Γ:Gam} {b g hd rc:Addr} {k nx ca:Int} (m:MS K H Γ b g hd rc k nx ca):bP H g (.str "calls") (some (.int ca)):=bP.k (k:=.inr "calls") m.lo
abbrev sRc:Stmt:=top 27
abbrev nRc:List Str:=["_law_box_here","_law_deep","_law_seen","_law_lore","_law_record_here","_law_many_here"]
theorem yT:am nRc ps4 (a0 sRc):=fsM
theorem zM {n:Nat} (D:Def K mg "_law_record" sRc) (T:Blt mg) (a7:Fn P w K mg base "_law_take" 1 ["_law_box_here","_law_many_here"] fZ) (aW:Fn P w K mg base "_law_e" (4*n+3) ps4 (spE K n)) (bw:Fn P w K mg base "_law_many" (4*n+4) nMn (jv K n)) (iV:Fn P w K mg base "_law_op" (4*n+5) ps4 (spK K n)):Fn P w K mg base "_law_record" (4*n+6) ps4 (spK K n):=by
 refine D.fn yT (fun vs H Q E h=>?_) (fun _ _ _ _ _ _ us hl=>by obtain⟨a,b,c,d,rfl⟩:=j4 hl;rfl) (fun f' cdv A outer s' H vs Q E hr h=>?_)
 · obtain⟨Γ,b,g,hd,rc,sd,k,nx,ca,L,W,rfl,_⟩:=h;rfl
 · obtain⟨Γ,b,g,hd,rc,sd,k,nx,ca,L,W,rfl,A0,h2,q⟩:=h;have nd:=yT.nd;have hu:=eY hr;have hz0:(100000:Nat)<sizeLine:=by decide
   have hc:=eP n;obtain⟨t1,h1,r1⟩:∃ t,PSs (be CX0 P w K mg base nRc "_law_record" (a0 sRc) f' cdv A outer s' H E).nox ((ak sRc).drop 1) t ∧
    ∀ (H1:Hp) (x4 x5:Option V),Γ.rs≠[]→Sm2 b g H H1→MS K H1 Γ b g hd rc k nx ca→t {nx:=fun _ H'=>Q .non H',rt:=Q} [some (.ref b),some (.int ((n:Nat):Int)),some (.ref sd),some (.ref g),x4,x5] H1:=by
    refine⟨_,(pD (pL (i:=4) nd rfl (Or.inl rfl) (ab a7 (hr.mono (by omega)) rfl (pA (pv 0) (pA (bJ T.len (pA (pK hu (pv 3) pC (fun _ _=>rfl)) pB)) pB))))
 (pD (pL (i:=5) nd rfl (Or.inl rfl) (aa a9 (pK hu (pv 3) pC (fun _ _=>rfl)) (pv 4) (fun _ _=>rfl)))
 (pD (az (pM gH (ab a7 (hr.mono (by omega)) rfl (pA (pv 0) (pA pF pB))) pF (pN _)) (pG (ae (ag (pA pC (pA (pv 4) (pA (ab bw (hr.mono (by omega)) rfl (pA (pv 0) (pA (pv 1) (pA (pv 2) (pA (pv 3) (pA (pv 5) pB)))))) pB)))))) ah)
 (pG (ae (ag (pA pC (pA (pv 4) (pA (ab a7 (hr.mono (by omega)) rfl (pA (pv 0) (pA (pv 5) pB))) (pA (ab aW (hr.mono (by omega)) rfl (pA (pv 0) (pA (pv 1) (pA (pv 2) (pA (pv 3) pB))))) pB)))))))))),fun H1 x4 x5 hne s1 m1=>?_⟩
    have hrl:=A0.o.rl;have hpos:0<Γ.rs.length:=List.length_pos_iff.mpr hne;refine⟨_,rfl,_,rfl,g,_,rfl,m1.dg,rc,_,rfl,.inr m1.recs,b,k,_,rfl,m1.bx,by omega,by rw[lMp];omega,by rw[lMp];omega,fun r H2 r0 r1 mo bx=>?_⟩;rw[lMp] at r1;obtain⟨j,rfl⟩:=Int.eq_ofNat_of_zero_le r0;have hj:j<Γ.rs.length:=by omega
    obtain⟨s2,m2⟩:=m1.draw mo bx;have S2:=s1.trans s2;refine⟨_,rfl,g,_,rfl,m2.dg,_,rfl,rc,_,_,V.int ((Γ.rs[j]:Nat):Int),rfl,rfl,m2.recs,pH (by simp[hj]),?_⟩;obtain⟨l1,l3⟩:=A0.o.rr _ (List.getElem_mem hj);generalize Γ.rs[j]=f at l1 l3 ⊢;refine⟨_,rfl,b,_,3,rfl,m2.bx,by omega,by decide,by decide,fun r' H3 r0' r1' mo' bx'=>⟨_,_,rfl,rfl,_,rfl,?_⟩⟩;obtain⟨s3,m3⟩:=m2.draw mo' bx';have S3:=S2.trans s3;refine bN (fun _=>?_) (fun _=>?_)
    · have hmul:f*cst n≤3*cst n:=Nat.mul_le_mul_right _ l3;refine⟨_,rfl,_,rfl,_,rfl,_,rfl,_,rfl,_,rfl,Γ,b,g,hd,rc,sd,_,nx,ca,L,W,f,rfl,A0.go S3 m3,by omega,by omega,fun v ds k4 nx4 ca4 H4 s4 m4 hk4 tv hl xs=>?_⟩;refine⟨fX,fun t ht=>?_⟩;have kt:=smu (o:=HO.tup [V.str "new",V.int ((j:Nat):Int),v]) ht;exact q _ (.tuple [.str "new",.int ((j:Nat):Int),.tuple ds]) k4 nx4 ca4 _ (S3.trans (s4.trans (Sm2.of kt))) (m4.same kt) (by omega) (.tup (SqT.of pE) (.cons (.str _) (.cons (.int _) (.cons (tv.same kt) .nil)))) ((y9 ⟨by omega,by have:=A0.o.rl;omega⟩ xs (by omega)).more (by omega))
    · refine⟨_,rfl,_,rfl,_,rfl,b,_,_,rfl,m3.bx,by omega,by omega,by omega,fun r4 H4 r40 r41 mo4 bx4=>?_⟩;obtain⟨s4,m4⟩:=m3.draw mo4 bx4;have S4:=S3.trans s4;refine⟨_,rfl,_,rfl,_,rfl,_,rfl,Γ,b,g,hd,rc,sd,_,nx,ca,L,W,rfl,A0.go S4 m4,by omega,fun v5 d5 k5 nx5 ca5 H5 s5 m5 hk5 tv5 x5=>?_⟩;refine⟨rR,fun t ht=>?_⟩;have kt:=smu (o:=HO.tup [V.str "get",V.int ((j:Nat):Int),V.int r4,v5]) ht;exact q _ (.tuple [.str "get",.int ((j:Nat):Int),.int r4,d5]) k5 nx5 ca5 _ (S4.trans (s5.trans (Sm2.of kt))) (m5.same kt) (by omega) (.tup (SqT.of pE) (.cons (.str _) (.cons (.int _) (.cons (.int _) (.cons (tv5.same kt) .nil))))) ((yf ⟨by omega,by have:=A0.o.rl;omega⟩ ⟨by omega,by omega⟩ x5).more (by omega))
   refine⟨_,(pD (az (pM (tM hr.units) (pK hu (pv 3) pC (fun _ _=>rfl)) (ag pB) (pN _)) (pG (ae (ab iV (hr.mono (by omega)) rfl (pA (pv 0) (pA (pv 1) (pA (pv 2) (pA (pv 3) pB))))))) ah) h1),?_⟩;refine⟨_,rfl,g,_,rfl,A0.m.dg,lm,fun p hp=>?_⟩;obtain⟨s1,m1,pb,pg⟩:=A0.m.newL (o:=HO.tup []) hp;refine⟨rc,p,_,rfl,rfl,m1.recs,SqT.of pE,_,rfl,?_⟩;generalize upd H p (.tup [])=H1 at s1 m1 ⊢;refine bN (fun _=>?_) (fun hne=>r1 H1 _ _ (fun e=>hne (by rw[e];rfl)) s1 m1);exact⟨_,rfl,_,rfl,_,rfl,_,rfl,Γ,b,g,hd,rc,sd,k,nx,ca,L,W,rfl,A0.go s1 m1,h2,fun v d k' nx' ca' H' s' m' hk' tv x=>q v d k' nx' ca' H' (s1.trans s') m' hk' tv x⟩
end
section
variable {P:Program} {w:World} {K:Fg} {mg:SOV} {base:Heap}
def Cal (Γ:Gam) (i:Int):Prop:=∃ (f:Nat) (h:Str) (c:Nat),i=((f:Nat):Int)∧Γ.hs[f]?=some (h,c)∧(h="deep"∨h="function"∧(Γ.own<f∨Γ.oh≠"function"))
theorem MS.head {H:Hp} {Γ:Gam} {b g hd rc:Addr} {k nx ca:Int} (m:MS K H Γ b g hd rc k nx ca):∃ xs,SqL K H hd xs∧xs.length=Γ.hs.length∧∀ (f:Nat) (h:Str) (c:Nat),Γ.hs[f]?=some (h,c)→∃ t,atI xs ((f:Nat):Int)=some (.ref t)∧SqT K H t [.str h,.int ((c:Nat):Int)]:=by
 obtain⟨xs,h1,h2⟩:=m.hv;refine⟨xs,SqL.of h1,by rw[h2.length,lMp],fun f h c hf=>?_⟩;obtain⟨x,hx,tx⟩:=h2.at (i:=f) (d:=dH (h,c)) (by rw[gEM,hf];rfl);obtain⟨a,ys,rfl,ha,hy⟩:=(show TD K H x (.tuple [.str h,.int ((c:Nat):Int)]) from tx).tup_of;refine⟨a,pH hx,?_⟩;cases hy with
 | cons p r =>
  cases r with
  | cons p2 r2 =>
   cases r2;rw[p.str_of,p2.int_of] at ha;exact ha
theorem eF {n i:Nat} {x:V} (h:(L2.cq 0 n)[i]?=some x):x=.int ((i:Nat):Int):=by
 unfold L2.cq at h;rw[gEM] at h;obtain⟨k,h1,h2⟩:=oMS.mp h;have hi:=(gES.mp h1).1;rw[gEE hi,List.getElem_range] at h1;cases h1;rw[← h2];simp
abbrev sCl:Stmt:=top 28
abbrev nCl:List Str:=["_law_box_here","_law_deep","_law_seen","_law_lore","_law_some","_law_own","_law_k","_law_one"]
theorem zb:am nCl ps4 (a0 sCl):=fsM
theorem Ap:(["_law_k","_law_lore"]:List Str).Nodup:=by decide +kernel
theorem l7 {x y:V}:atI [x,y] 0=some x:=pH (j:=0) rfl
theorem jX {x y:V}:atI [x,y] 1=some y:=pH (j:=1) rfl
theorem Ae {n:Nat} (D:Def K mg "_law_call" sCl) (T:Blt mg) (a7:Fn P w K mg base "_law_take" 1 ["_law_box_here","_law_many_here"] fZ) (bz:Fn P w K mg base "_law_leaf" 2 ["_law_box_here","_law_seen"] (pX K)) (aW:Fn P w K mg base "_law_e" (4*n+3) ps4 (spE K n)) (FM0:Fn P w K mg base "_law_many" 4 nMn (jv K 0)) (bw:Fn P w K mg base "_law_many" (4*n+4) nMn (jv K n)):Fn P w K mg base "_law_call" (4*n+5) ps4 (spK K n):=by
 refine D.fn zb (fun vs H Q E h=>?_) (fun _ _ _ _ _ _ us hl=>by obtain⟨a,b,c,d,rfl⟩:=j4 hl;rfl) (fun f' cdv A outer s' H vs Q E hr h=>?_)
 · obtain⟨Γ,b,g,hd,rc,sd,k,nx,ca,L,W,rfl,_⟩:=h;rfl
 · obtain⟨Γ,b,g,hd,rc,sd,k,nx,ca,L,W,rfl,A0,h2,q⟩:=h;have nd:=zb.nd;have hu:=eY hr;have hz0:(100000:Nat)<sizeLine:=by decide
   have hc:=eP n;have hc0:cst 0=10:=rfl;have hll:=A0.l;have hhl:=A0.o.hl;obtain⟨t6,h6,r6⟩:∃ t,PSs (be CX0 P w K mg base nCl "_law_call" (a0 sCl) f' cdv A outer s' H E).nox ((ak sCl).drop 6) t ∧
    ∀ (H1:Hp) (ca1:Int) (G:Addr) (is:List Int) (x5 x6 x7:Option V),Sm2 b g H H1→MS K H1 Γ b g hd rc k nx ca1→H1 G=some (.lst (is.map V.int))→G≠b→(∀ i∈is,Cal Γ i)→is≠[]→is.length≤20→t {nx:=fun _ H'=>Q .non H',rt:=Q} [some (.ref b),some (.int ((n:Nat):Int)),some (.ref sd),some (.ref g),some (.ref G),x5,x6,x7] H1:=by
    refine⟨_,(pD (pL (i:=7) nd rfl (Or.inl rfl) (aa aF (pv 4) (ab a7 (hr.mono (by omega)) rfl (pA (pv 0) (pA (bJ T.len (pA (pv 4) pB)) pB))) (fun _ _=>rfl)))
 (pG (ae (ag (pA pC (pA (pv 7) (pA (ab bw (hr.mono (by omega)) rfl (pA (pv 0) (pA (pv 1) (pA (pv 2) (pA (pv 3) (pA (aa a9 (aa aF (pK hu (pv 3) pC (fun _ _=>rfl)) (pv 7) (fun _ _=>rfl)) pF (fun _ _=>rfl)) pB)))))) pB))))))),fun H1 ca1 G is x5 x6 x7 s1 m1 hG Gb hcal hne hil=>?_⟩
    have hpos:0<is.length:=List.length_pos_iff.mpr hne;refine⟨_,rfl,_,rfl,_,rfl,G,_,rfl,.inl (SqL.of hG),b,k,_,rfl,m1.bx,by omega,by rw[lMp];omega,by rw[lMp];omega,fun r H2 r0 r1 mo bx=>?_⟩;rw[lMp] at r1;obtain⟨j,rfl⟩:=Int.eq_ofNat_of_zero_le r0;have hj:j<is.length:=by omega
    obtain⟨s2,m2⟩:=m1.draw mo bx;have S2:=s1.trans s2;refine⟨G,_,_,V.int is[j],rfl,rfl,SqL.of ((mo G Gb).trans hG),pH (by simp[hj]),?_⟩;obtain⟨f,h,c,ef,hf,hcl⟩:=hcal _ (List.getElem_mem hj);rw[ef];obtain⟨xs,hxs,xl,hat⟩:=m2.head;obtain⟨t,ht1,ht2⟩:=hat f h c hf;have c2:c≤2:=A0.o.hc _ (mGE hf);have hmul:c*cst n≤2*cst n:=Nat.mul_le_mul_right _ c2;refine⟨_,rfl,_,rfl,_,rfl,_,rfl,_,rfl,_,rfl,g,_,rfl,m2.dh,_,rfl,hd,_,_,_,rfl,rfl,hxs,ht1,t,_,_,_,rfl,rfl,ht2,jX,Γ,b,g,hd,rc,sd,k+1,nx,ca1,L,W,c,rfl,A0.go S2 m2,by omega,by omega,fun v ds k3 nx3 ca3 H3 s3 m3 hk3 tv hl xs=>?_⟩;refine⟨fX,fun t ht=>?_⟩;have kt:=smu (o:=HO.tup [V.str "call",V.int ((f:Nat):Int),v]) ht;exact q _ (.tuple [.str "call",.int ((f:Nat):Int),.tuple ds]) k3 nx3 ca3 _ (S2.trans (s3.trans (Sm2.of kt))) (m3.same kt) (by omega) (.tup (SqT.of pE) (.cons (.str _) (.cons (.int _) (.cons (tv.same kt) .nil)))) ((vS hf hcl xs hl (by omega) (by have:=(gES.mp hf).1;omega)).more (by omega))
   obtain⟨t5,h5,r5⟩:∃ t,PSs (be CX0 P w K mg base nCl "_law_call" (a0 sCl) f' cdv A outer s' H E).nox ((ak sCl).drop 5) t ∧
    ∀ (H1:Hp) (ca1:Int) (G:Addr) (is:List Int) (x5 x6 x7:Option V),Sm2 b g H H1→MS K H1 Γ b g hd rc k nx ca1→H1 G=some (.lst (is.map V.int))→G≠b→(∀ i∈is,Cal Γ i)→is.length≤20→t {nx:=fun _ H'=>Q .non H',rt:=Q} [some (.ref b),some (.int ((n:Nat):Int)),some (.ref sd),some (.ref g),some (.ref G),x5,x6,x7] H1:=by
    refine⟨_,(pD (az (pM (qK hu) (pv 4) (aM pB) (pN _)) (pG (ae (ag (pA pC (pA (ab aW (hr.mono (by omega)) rfl (pA (pv 0) (pA (pv 1) (pA (pv 2) (pA (pv 3) pB))))) (pA (ab FM0 (hr.mono (by omega)) rfl (pA (pv 0) (pA pF (pA (pv 2) (pA (pv 3) (pA (aC cu pF (ab a7 (hr.mono (by omega)) rfl (pA (pv 0) (pA pF pB)))) pB)))))) pB)))))) ah) h6),fun H1 ca1 G is x5 x6 x7 s1 m1 hG Gb hcal hil=>?_⟩;refine⟨_,rfl,lm,fun p hp=>?_⟩;obtain⟨s2,m2,pb,pg⟩:=m1.newL (o:=HO.lst []) hp;have hG2:=smu (o:=HO.lst []) hp _ _ hG;refine⟨G,p,_,rfl,rfl,SqL.of hG2,SqL.of pE,_,rfl,?_⟩;generalize upd H1 p (.lst [])=H2 at s2 m2 hG2 ⊢;have S2:=s1.trans s2;refine bN (fun _=>?_) (fun hne=>r6 H2 ca1 G is _ _ _ S2 m2 hG2 Gb hcal (fun e=>hne (by rw[e];rfl)) hil);refine⟨_,rfl,_,rfl,_,rfl,_,rfl,Γ,b,g,hd,rc,sd,k,nx,ca1,L,W,rfl,A0.go S2 m2,by omega,fun v5 d5 k5 nx5 ca5 H5 s5 m5 hk5 tv5 x5=>?_⟩;have S5:=S2.trans s5;refine⟨_,rfl,_,rfl,_,rfl,_,rfl,b,_,2,rfl,m5.bx,by omega,by decide,by decide,fun r H6 r0 r1 mo bx=>?_⟩;obtain⟨j,rfl⟩:=Int.eq_ofNat_of_zero_le r0;obtain⟨s6,m6⟩:=m5.draw mo bx;have S6:=S5.trans s6;have hmul:(1+j)*cst 0≤2*cst 0:=Nat.mul_le_mul_right _ (by omega);refine⟨_,_,rfl,rfl,Γ,b,g,hd,rc,sd,k5+1,nx5,ca5,L,W,1+j,by rw[Int.natCast_add];rfl,(A0.lo (Nat.zero_le _)).go S6 m6,by omega,by omega,fun v ds k7 nx7 ca7 H7 s7 m7 hk7 tv hl xs=>?_⟩;refine⟨fX,fun t ht=>?_⟩;have kt:=smu (o:=HO.tup [V.str "apply",v5,v]) ht;exact q _ (.tuple [.str "apply",d5,.tuple ds]) k7 nx7 ca7 _ (S6.trans (s7.trans (Sm2.of kt))) (m7.same kt) (by omega) (.tup (SqT.of pE) (.cons (.str _) (.cons (((tv5.tk (s6.tk m5)).tk (s7.tk m6)).same kt) (.cons (tv.same kt) .nil)))) ((mH x5 (xs.more (by omega)) (by omega)).more (by omega))
   obtain⟨t3,h3,r3⟩:∃ t,PSs (be CX0 P w K mg base nCl "_law_call" (a0 sCl) f' cdv A outer s' H E).nox ((ak sCl).drop 3) t ∧
    ∀ (H1:Hp) (ca1:Int) (G:Addr) (is:List Int) (x5 x6 x7:Option V),Sm2 b g H H1→MS K H1 Γ b g hd rc k nx ca1→H G=none→H1 G=some (.lst (is.map V.int))→G≠b→G≠g→G≠hd→(∀ i∈is,Cal Γ i)→is.length≤10→t {nx:=fun _ H'=>Q .non H',rt:=Q} [some (.ref b),some (.int ((n:Nat):Int)),some (.ref sd),some (.ref g),some (.ref G),x5,x6,x7] H1:=by
    refine⟨_,(pD (pL (i:=5) nd rfl (Or.inl rfl) (aa a9 (aa aF (pK hu (pv 3) pC (fun _ _=>rfl)) (pK hu (pv 3) pC (fun _ _=>rfl)) (fun _ _=>rfl)) pF (fun _ _=>rfl)))
 (pD (bF PassesOwn.never rfl (bo rfl T.range (pA (bJ T.len (pA (pK hu (pv 3) pC (fun _ _=>rfl)) pB)) pB)) (aw (i:=6) nd rfl (Or.inl rfl))
 (pG (az (PW.pt (cZ (pM aH (aa a9 (aa aF (pK hu (pv 3) pC (fun _ _=>rfl)) (pv 6) (fun _ _=>rfl)) pF (fun _ _=>rfl)) pC (pN _)) (bX (PW.pt (dO (pM gH (pv 6) (pK hu (pv 3) pC (fun _ _=>rfl)) (pN _)) (cY (pM qJ (pv 5) pC (pN _)))))))) (pG (bY (cr (pv 4) (pA (pv 6) pB)))) ah))) h5)),fun H1 ca1 G is x5 x6 x7 s1 m1 hG0 hG Gb Gg Gh hcal hil=>?_⟩
    obtain⟨xs,hxs,xl,hat⟩:=m1.head;obtain⟨⟨ho,co⟩,hown⟩:∃ p,Γ.hs[Γ.own]?=some p:=⟨_,gEE A0.o.ho⟩;have eoh:Γ.oh=ho:=by unfold Gam.oh;rw[hown];rfl
    obtain⟨t,ht1,ht2⟩:=hat Γ.own ho co hown;refine⟨_,rfl,g,_,rfl,m1.dh,_,rfl,g,_,rfl,m1.dw,hd,_,_,_,rfl,rfl,hxs,ht1,t,_,_,_,rfl,rfl,ht2,l7,?_⟩;refine⟨_,rfl,g,_,rfl,m1.dh,hd,_,rfl,.inl hxs,_,rfl,by omega,by omega,?_⟩;show aA _ _ _ _ _ _;rw[show ((xs.length:Nat):Int).toNat=xs.length from Int.toNat_natCast _];refine aA.by (ba (n:=xs.length)) (fun i σ Hi=>Sm2 b g H Hi∧MS K Hi Γ b g hd rc k nx ca1∧(∃ is:List Int,Hi G=some (.lst (is.map V.int))∧(∀ i∈is,Cal Γ i)∧is.length≤10+i)∧∃ x6 x7,σ=[some (.ref b),some (.int ((n:Nat):Int)),some (.ref sd),some (.ref g),some (.ref G),some (.str ho),x6,x7]) ⟨s1,m1,⟨is,hG,hcal,hil⟩,_,_,rfl⟩ (fun _ _ _ _ _=>trivial) ?_ ?_
    · rintro i u σ Hi hui ⟨si,mi,⟨is,hGi,hcal,hil⟩,x6,x7,rfl⟩;have hi:i<xs.length:=by have:=(gES.mp hui).1;rwa [aV] at this
      obtain rfl:=eF hui;obtain⟨ys,hys,yl,hat⟩:=mi.head;obtain⟨⟨h,c⟩,hf⟩:∃ p,Γ.hs[i]?=some p:=⟨_,gEE (by omega)⟩;obtain⟨t,ht1,ht2⟩:=hat i h c hf;have skip:(fun σ Hi=>Sm2 b g H Hi∧MS K Hi Γ b g hd rc k nx ca1∧(∃ is:List Int,Hi G=some (.lst (is.map V.int))∧(∀ i∈is,Cal Γ i)∧is.length≤10+(i+1))∧∃ x6 x7,σ=[some (.ref b),some (.int ((n:Nat):Int)),some (.ref sd),some (.ref g),some (.ref G),some (.str ho),x6,x7]) [some (.ref b),some (.int ((n:Nat):Int)),some (.ref sd),some (.ref g),some (.ref G),some (.str ho),some (V.int ((i:Nat):Int)),x7] Hi:=⟨si,mi,⟨is,hGi,hcal,by omega⟩,_,_,rfl⟩;have add:Cal Γ ((i:Nat):Int)→(fun σ Hi=>Sm2 b g H Hi∧MS K Hi Γ b g hd rc k nx ca1∧(∃ is:List Int,Hi G=some (.lst (is.map V.int))∧(∀ i∈is,Cal Γ i)∧is.length≤10+(i+1))∧∃ x6 x7,σ=[some (.ref b),some (.int ((n:Nat):Int)),some (.ref sd),some (.ref g),some (.ref G),some (.str ho),x6,x7]) [some (.ref b),some (.int ((n:Nat):Int)),some (.ref sd),some (.ref g),some (.ref G),some (.str ho),some (V.int ((i:Nat):Int)),x7] (upd Hi G (.lst (is.map V.int++[V.int ((i:Nat):Int)]))):=fun hcl=>by
       refine⟨si.put hG0,mi.updL ⟨Gb,Gg,Gh⟩ hGi,⟨is++[((i:Nat):Int)],by rw[pE,List.map_append];rfl,fun z hz=>?_,by rw[lAp];show is.length+1≤_;omega⟩,_,_,rfl⟩
       rcases mAp.mp hz with hz | hz
       · exact hcal z hz
       · rw[mSg.mp hz];exact hcl
      refine⟨_,rfl,g,_,rfl,mi.dh,_,rfl,hd,_,_,_,rfl,rfl,hys,ht1,t,_,_,_,rfl,rfl,ht2,l7,rfl,_,rfl,?_⟩;by_cases e1:h="function"
      · refine pJ (by simp[e1]) ?_;refine⟨_,rfl,_,rfl,g,_,rfl,mi.dw,_,_,rfl,rfl,_,rfl,?_⟩;by_cases e2:Γ.own<i
        · refine pJ (by simp;omega) ?_;refine cB ?_;exact⟨_,rfl,.inl ⟨rfl,_,SqL.of hGi⟩,_,rfl,G,_,_,rfl,rfl,hGi,by rw[lMp];omega,add ⟨i,h,c,rfl,hf,.inr ⟨e1,.inl e2⟩⟩⟩
        · refine pI (by simp;omega) ?_;refine⟨_,rfl,rfl,_,rfl,?_⟩;by_cases e3:ho="function"
          · exact pI (by simp[e3]) skip
          · refine pJ (by simpa using e3) ?_;exact⟨_,rfl,.inl ⟨rfl,_,SqL.of hGi⟩,_,rfl,G,_,_,rfl,rfl,hGi,by rw[lMp];omega,add ⟨i,h,c,rfl,hf,.inr ⟨e1,.inr (by rw[eoh];exact e3)⟩⟩⟩
      · exact pI (by simpa using e1) skip
    · rintro σ Hi ⟨si,mi,⟨is,hGi,hcal,hil⟩,x6,x7,rfl⟩;rw[aV,xl] at hil;exact r5 Hi ca1 G is _ _ _ si mi hGi Gb hcal (by omega)
   obtain⟨t2,h2',r2⟩:∃ t,PSs (be CX0 P w K mg base nCl "_law_call" (a0 sCl) f' cdv A outer s' H E).nox ((ak sCl).drop 2) t ∧
    ∀ (H1:Hp) (ca1:Int) (x4 x5 x6 x7:Option V),Sm2 b g H H1→MS K H1 Γ b g hd rc k nx ca1→(∀ a,H1 a=none→H a=none)→t {nx:=fun _ H'=>Q .non H',rt:=Q} [some (.ref b),some (.int ((n:Nat):Int)),some (.ref sd),some (.ref g),x4,x5,x6,x7] H1:=by
    refine⟨_,(pD (qt (i0:=4) (own:=["_law_k"]) (outs:=[(3,"_law_lore")]) (tc:=bU (tOp rEq (tOp (dG K) (tOp (wJ K) (uJ (aQ 1) (tC (.str "heads"))) (aQ 0)) (tC (.int 0))) (tC (.str "deep")))) rfl (aB.of (a0 sCl) nCl) (bo rfl T.range (pA (bJ T.len (pA (pK hu (pv 3) pC (fun _ _=>rfl)) pB)) pB)) (fun _ _ _ _=>⟨(aw (i:=0) Ap rfl (Or.inl rfl)),(bG (pM aH (aa a9 (aa aF (pK hu (pv 1) pC (fun _ _=>rfl)) (pv 0) (fun _ _=>rfl)) pF (fun _ _=>rfl)) pC (pN _))),(pv 0)⟩) nd rfl rfl) h3),fun H1 ca1 x4 x5 x6 x7 s1 m1 fr=>?_⟩;obtain⟨xs,hxs,xl,hat⟩:=m1.head;rw[ir,gi,dC];refine⟨_,rfl,g,_,rfl,m1.dh,hd,_,rfl,.inl hxs,_,rfl,by omega,by omega,fun G hG=>?_⟩;rw[show ((xs.length:Nat):Int).toNat=xs.length from Int.toNat_natCast _];obtain⟨Gb,Gg,Gh⟩:=m1.new hG;have k0:=smu (o:=HO.lst []) hG;refine bt.by (ba (n:=xs.length)) (fun i σ Hi=>Sm2 b g H Hi∧MS K Hi Γ b g hd rc k nx ca1∧(∃ is:List Int,Hi G=some (.lst (is.map V.int))∧(∀ i∈is,Cal Γ i)∧is.length≤i)∧∃ y,σ=[y,some (.ref g)]) ⟨s1.trans (Sm2.of k0),m1.same k0,⟨[],pE,fun _ h=>(by cases h),Nat.le_refl _⟩,_,rfl⟩ (fun _ _ _ _ _=>trivial) ?_ ?_
    · rintro i u σ Hi hui ⟨si,mi,⟨is,hGi,hcal,hil⟩,y,rfl⟩;have hi:i<xs.length:=by have:=(gES.mp hui).1;rwa [aV] at this
      obtain rfl:=eF hui;obtain⟨ys,hys,yl,hat⟩:=mi.head;obtain⟨⟨h,c⟩,hf⟩:∃ p,Γ.hs[i]?=some p:=⟨_,gEE (by omega)⟩;obtain⟨t,ht1,ht2⟩:=hat i h c hf;rw[bh];refine⟨_,rfl,g,_,rfl,mi.dh,_,rfl,hd,_,_,_,rfl,rfl,hys,ht1,t,_,_,_,rfl,rfl,ht2,l7,rfl,_,rfl,?_⟩;by_cases e1:h="deep"
      · refine pJ (by simp[e1]) ⟨_,rfl,_,hGi,by rw[lMp];omega,si.put (fr _ hG),mi.updL ⟨Gb,Gg,Gh⟩ hGi,⟨is++[((i:Nat):Int)],by rw[pE,List.map_append];rfl,fun z hz=>?_,by rw[lAp];show is.length+1≤_;omega⟩,_,rfl⟩
        rcases mAp.mp hz with hz | hz
        · exact hcal z hz
        · rw[mSg.mp hz];exact⟨i,h,c,rfl,hf,.inl e1⟩
      · exact pI (by simpa using e1) ⟨si,mi,⟨is,hGi,hcal,by omega⟩,_,rfl⟩
    · rintro σ Hi ⟨si,mi,⟨is,hGi,hcal,hil⟩,y,rfl⟩;rw[aV,xl] at hil;exact r3 Hi ca1 G is _ _ _ si mi (fr _ hG) hGi Gb Gg Gh hcal (by omega)
   refine⟨_,(pD (hV hu (pv 3) pC (aC cu (pK hu (pv 3) pC (fun _ _=>rfl)) pF) rfl)
 (pD (az (pM gH (pK hu (pv 3) pC (fun _ _=>rfl)) pF (pN _)) (pG (ae (ab bz (hr.mono (by omega)) rfl (pA (pv 0) (pA (pv 2) pB))))) ah) h2')),?_⟩
   have m0:=A0.m;have m1:=m0.put (nx':=nx) (ca':=ca+1);have s1:Sm2 b g H (upd H g (.dK (dI nx hd Γ.own rc (ca+1)))):=(Mo.put fun _ _=>rfl:Mo H g _).sm2';refine⟨_,rfl,g,_,rfl,m0.dc,_,_,rfl,rfl,_,rfl,g,_,rfl,lj.k (k:=.inr "calls") m0.lo (by show 5<sizeLine;decide),?_⟩;rw[oj];have fr:∀ a,(upd H g (.dK (dI nx hd Γ.own rc (ca+1)))) a=none→H a=none:=fun a ha=>by
    by_cases e:a=g
    · rw[e,pE] at ha;cases ha
    · rw[ad e] at ha;exact ha
   generalize upd H g (.dK (dI nx hd Γ.own rc (ca+1)))=H1 at m1 s1 fr ⊢;refine⟨_,rfl,g,_,rfl,m1.dc,_,_,rfl,rfl,_,rfl,?_⟩;refine bN (fun _=>?_) (fun _=>r2 H1 (ca+1) _ _ _ _ s1 m1 fr);exact⟨_,rfl,_,rfl,Γ,b,g,hd,rc,sd,k,nx,ca+1,L,W,rfl,m1,A0.s.sm m0 s1,by omega,by omega,fun v d k' H' s' m' hk' tv x=>q v d k' nx (ca+1) H' (s1.trans s') m' (by omega) tv (x (2*n+2))⟩
end
section
variable {P:Program} {w:World} {K:Fg} {mg:SOV} {base:Heap}
section
variable {H:Hp} {Γ:Gam} {b g hd rc sd:Addr} {k nx ca x:Int} {L W:List Int} {σ:St} {Q:VK}
theorem mQ (m:MS K H Γ b g hd rc k nx ca) (sv:iR K H b g sd L W) (hl:L.length+W.length≤1000) (e2:σ[2]?=some (some (.ref sd))) (e5:σ[5]?=some (some (.int x)))
 (q:∀ t H',Sm2 b g H H'→MS K H' Γ b g hd rc k nx ca→iR K H' b g t (L++[x]) W→Q (.ref t) H') :
 sr (cb (tOp (mS K) (tOp (dG K) (aQ 2) (tC (.int 0))) (su (cb (aQ 5) ii))) (cb (tOp (dG K) (aQ 2) (tC (.int 1))) ii)) σ H Q:=by
 have hz0:(100000:Nat)<sizeLine:=by decide
 obtain⟨la,va,h1,h2,h3,n1,n2,n3,n4⟩:=sv.ex;refine⟨_,e2,sd,_,_,_,rfl,rfl,h1,l7,_,e5,ke,fun p hp=>?_⟩;have k1:=smu (o:=HO.lst [V.int x]) hp;refine⟨la,p,_,_,rfl,rfl,SqL.of (k1 _ _ h2),SqL.of pE,by simp;omega,fun p2 hp2=>?_⟩;have k2:=smu (o:=HO.lst (L.map V.int++[V.int x])) hp2;have m2:=(m.same k1).same k2;obtain⟨b2,g2,_⟩:=(m.same k1).new hp2;have s2:Sm2 b g H _:=Sm2.of (k1.trans k2);have e2':(upd (upd H p (.lst [V.int x])) p2 (.lst (L.map V.int++[V.int x]))) p2=some (.lst ((L++[x]).map V.int)):=by rw[pE,List.map_append];rfl
 refine⟨_,e2,sd,_,_,_,rfl,rfl,(h1.tk (k1.trans k2).tk),jX,cE,fun t ht=>?_⟩;have k3:=smu (o:=HO.tup [V.ref p2,V.ref va]) ht;exact q t _ (s2.trans (Sm2.of k3)) (m2.same k3) ⟨p2,va,SqT.of pE,k3 _ _ e2',k3 _ _ (k2 _ _ (k1 _ _ h3)),b2,n2,g2,n4⟩
theorem sK (m:MS K H Γ b g hd rc k nx ca) (sv:iR K H b g sd L W) (hl:L.length+W.length≤1000) (e2:σ[2]?=some (some (.ref sd))) (e5:σ[5]?=some (some (.int x)))
 (q:∀ t H',Sm2 b g H H'→MS K H' Γ b g hd rc k nx ca→iR K H' b g t L (W++[x])→Q (.ref t) H') :
 sr (cb (tOp (dG K) (aQ 2) (tC (.int 0))) (cb (tOp (mS K) (tOp (dG K) (aQ 2) (tC (.int 1))) (su (cb (aQ 5) ii))) ii)) σ H Q:=by
 have hz0:(100000:Nat)<sizeLine:=by decide
 obtain⟨la,va,h1,h2,h3,n1,n2,n3,n4⟩:=sv.ex;refine⟨_,e2,sd,_,_,_,rfl,rfl,h1,l7,_,e2,sd,_,_,_,rfl,rfl,h1,jX,_,e5,ke,fun p hp=>?_⟩;have k1:=smu (o:=HO.lst [V.int x]) hp;refine⟨va,p,_,_,rfl,rfl,SqL.of (k1 _ _ h3),SqL.of pE,by simp;omega,fun p2 hp2=>?_⟩;have k2:=smu (o:=HO.lst (W.map V.int++[V.int x])) hp2;have m2:=(m.same k1).same k2;obtain⟨b2,g2,_⟩:=(m.same k1).new hp2;have s2:Sm2 b g H _:=Sm2.of (k1.trans k2);have e2':(upd (upd H p (.lst [V.int x])) p2 (.lst (W.map V.int++[V.int x]))) p2=some (.lst ((W++[x]).map V.int)):=by rw[pE,List.map_append];rfl
 refine⟨cE,fun t ht=>?_⟩;have k3:=smu (o:=HO.tup [V.ref la,V.ref p2]) ht;exact q t _ (s2.trans (Sm2.of k3)) (m2.same k3) ⟨la,p2,SqT.of pE,k3 _ _ (k2 _ _ (k1 _ _ h2)),k3 _ _ e2',n1,b2,n3,g2⟩
end
inductive AD (K:Fg) (n:Nat) (vs:List V) (H:Hp) (Q:VK):Prop
  | mk (Γ:Gam) (b g hd rc sd:Addr) (k nx ca:Int) (L W:List Int) (h0:vs=[.ref b,.int ((n:Nat):Int),.ref sd,.ref g]) (h1:Ask K H Γ b g hd rc sd k nx ca L W (n+1)) (h2:k+((8*cst n+50:Nat):Int)≤900000)
    (q:∀ v d k' nx' ca' H',Sm2 b g H H'→MS K H' Γ b g hd rc k' nx' ca'→k'≤k+((8*cst n+50:Nat):Int)→TD K H' v d→XE Γ L W (2*n+3) nx d nx'→Q v H'):AD K n vs H Q
def spB (K:Fg) (n:Nat):Sp:=fun vs H Q _=>AD K n vs H Q
abbrev sBd:Stmt:=top 25
abbrev nBd:List Str:=["_law_box_here","_law_deep","_law_seen","_law_lore","_law_word","_law_one","_law_ids","_law_thing_here","_law_body"]
theorem zg:am nBd ps4 (a0 sBd):=fsM
def w5:List Str:=["let","let","var","each","fun"]
theorem qj (i:Int) (j:Nat):rgI i (j+1)=i::rgI (i+1) j:=by
 unfold rgI;rw[List.range_succ_eq_map,List.map_cons,List.map_map];congr 1
 · simp
 · refine List.map_congr_left fun t _=>?_;show i+((t+1:Nat):Int)=i+1+((t:Nat):Int);omega
theorem rZ {H:Hp} (is:List Int):TDs K H (is.map V.int) (is.map .int):=by
 induction is with
 | nil=>exact .nil
 | cons i r ih=>exact .cons (.int i) ih
theorem lM {H:Hp} {is:List Int} {xs:List V} (h:TDs K H xs (is.map .int)):xs=is.map V.int:=by
 induction is generalizing xs with
 | nil=>cases h;rfl
 | cons i r ih=>cases h with
  | cons a b=>rw[a.int_of,ih b];rfl
theorem Ah {n:Nat} (D:Def K mg "_law_binder" sBd) (T:Blt mg) (a7:Fn P w K mg base "_law_take" 1 ["_law_box_here","_law_many_here"] fZ) (cV:Fn P w K mg base "_law_fresh" 1 ["_law_lore"] (wu K)) (aW:Fn P w K mg base "_law_e" (4*n+3) ps4 (spE K n)) (FM0:Fn P w K mg base "_law_many" 4 nMn (jv K 0)) (bw:Fn P w K mg base "_law_many" (4*n+4) nMn (jv K n)):Fn P w K mg base "_law_binder" (4*n+5) ps4 (spB K n):=by
 refine D.fn zg (fun vs H Q E h=>?_) (fun _ _ _ _ _ _ us hl=>by obtain⟨a,b,c,d,rfl⟩:=j4 hl;rfl) (fun f' cdv A outer s' H vs Q E hr h=>?_)
 · obtain⟨Γ,b,g,hd,rc,sd,k,nx,ca,L,W,rfl,_⟩:=h;rfl
 · obtain⟨Γ,b,g,hd,rc,sd,k,nx,ca,L,W,rfl,A0,h2,q⟩:=h;have nd:=zg.nd;have hz0:(100000:Nat)<sizeLine:=by decide
   have hc:=eP n;have hc0:cst 0=10:=rfl;have hll:=A0.l;have Bs:Ask K H Γ b g hd rc sd k nx ca L W n:=A0.lo (by omega);obtain⟨t7,h7,r7⟩:∃ t,PSs (be CX0 P w K mg base nBd "_law_binder" (a0 sBd) f' cdv A outer s' H E).nox ((ak sBd).drop 7) t ∧
    ∀ (H1:Hp) (k1 nx1 ca1 l:Int) (s:Str) (v7 v8:V) (d7 d8:PyData) (x6:Option V),s="let"∨s="each"→Sm2 b g H H1→MS K H1 Γ b g hd rc k1 nx1 ca1→k1≤k+((8*cst n+50:Nat):Int)→TD K H1 v7 d7→TD K H1 v8 d8→XE Γ L W (2*n+2) (nx+1) d7 l→XE Γ (L++[nx]) W (2*n+2) l d8 nx1→t {nx:=fun _ H'=>Q .non H',rt:=Q} [some (.ref b),some (.int ((n:Nat):Int)),some (.ref sd),some (.ref g),some (.str s),some (.int nx),x6,some v7,some v8] H1:=by
    refine⟨_,(pG (ae (ag (pA (pv 4) (pA (pv 5) (pA (pv 7) (pA (pv 8) pB))))))),fun H1 k1 nx1 ca1 l s v7 v8 d7 d8 x6 hs s1 m1 hk1 u7 u8 y7 y8=>?_⟩;refine⟨_,rfl,_,rfl,_,rfl,_,rfl,rR,fun t ht=>?_⟩;have kt:=smu (o:=HO.tup [V.str s,V.int nx,v7,v8]) ht;exact q _ (.tuple [.str s,.int nx,d7,d8]) k1 nx1 ca1 _ (s1.trans (Sm2.of kt)) (m1.same kt) hk1 (.tup (SqT.of pE) (.cons (.str _) (.cons (.int _) (.cons (u7.same kt) (.cons (u8.same kt) .nil))))) (yc hs y7 y8)
   obtain⟨t6,h6,r6⟩:∃ t,PSs (be CX0 P w K mg base nBd "_law_binder" (a0 sBd) f' cdv A outer s' H E).nox ((ak sBd).drop 6) t ∧
    ∀ (H1:Hp) (k1 nx1 ca1 l:Int) (s:Str) (v7 v8:V) (d7 d8:PyData) (x6:Option V),s="let"∨s="each"→Sm2 b g H H1→MS K H1 Γ b g hd rc k1 nx1 ca1→k1≤k+((5*cst n+40:Nat):Int)→TD K H1 v7 d7→TD K H1 v8 d8→XE Γ L W (2*n+2) (nx+1) d7 l→XE Γ (L++[nx]) W (2*n+1) l d8 nx1→t {nx:=fun _ H'=>Q .non H',rt:=Q} [some (.ref b),some (.int ((n:Nat):Int)),some (.ref sd),some (.ref g),some (.str s),some (.int nx),x6,some v7,some v8] H1:=by
    refine⟨_,(pD (az (pM aH (pv 4) pC (pN _)) (pG (pL (i:=8) nd rfl (Or.inl rfl) (ag (pA pC (pA (aC eM (ag (pA (pv 8) pB)) (ab bw (hr.mono (by omega)) rfl (pA (pv 0) (pA (pv 1) (pA (ag (pA (aC cz (aa a9 (pv 2) pF (fun _ _=>rfl)) (aM (pA (pv 5) pB))) (pA (aa a9 (pv 2) pF (fun _ _=>rfl)) pB))) (pA (pv 3) (pA (ab a7 (hr.mono (by omega)) rfl (pA (pv 0) (pA pF pB))) pB))))))) pB))))) ah) h7),fun H1 k1 nx1 ca1 l s v7 v8 d7 d8 x6 hs s1 m1 hk1 u7 u8 y7 y8=>?_⟩;refine⟨_,rfl,rfl,_,rfl,?_⟩;refine bN (fun hse=>?_) (fun _=>r7 H1 k1 nx1 ca1 l s v7 v8 d7 d8 _ hs s1 m1 (by omega) u7 u8 y7 (y8.more (by omega)));refine⟨_,rfl,ke,fun p1 hp1=>?_⟩;have k1':=smu (o:=HO.tup [v8]) hp1;have m2:=m1.same k1';have S2:=s1.trans (Sm2.of (b:=b) (g:=g) k1');have tp1:TD K _ (.ref p1) (.tuple [d8]):=.tup (SqT.of pE) (.cons (u8.same k1') .nil);have u72:=u7.same k1';generalize upd H1 p1 (.tup [v8])=H2 at m2 S2 tp1 u72 ⊢;refine⟨_,rfl,_,rfl,?_⟩;refine mQ m2 (A0.s.sm A0.m S2) (by omega) rfl rfl fun t3 H3 s3 m3 sv3=>?_;refine⟨_,rfl,_,rfl,b,k1,3,rfl,m3.bx,by omega,by decide,by decide,fun r H4 r0 r1 mo bx=>?_⟩;obtain⟨j,rfl⟩:=Int.eq_ofNat_of_zero_le r0;obtain⟨s4,m4⟩:=m3.draw mo bx;have hmul:j*cst n≤2*cst n:=Nat.mul_le_mul_right _ (by omega);refine⟨Γ,b,g,hd,rc,t3,k1+1,nx1,ca1,L++[nx],W,j,rfl,⟨m4,sv3.sm m3 s4,A0.o,by rw[lAp];show L.length+1+W.length+3*n≤100;omega⟩,by omega,by omega,fun v ds k5 nx5 ca5 H5 s5 m5 hk5 tv hl xs=>?_⟩;have tp5:=((tp1.tk (s3.tk m2)).tk (s4.tk m3)).tk (s5.tk m4);have S5:=S2.trans (s3.trans (s4.trans s5));have u75:=((u72.tk (s3.tk m2)).tk (s4.tk m3)).tk (s5.tk m4);obtain⟨pv9,ys9,rfl,hq9,hy9⟩:=tv.tup_of;refine cS tp5 tv (by show 1+ds.length≤100000;omega) fun p H6 k6 tp6=>?_;refine⟨cE,fun t ht=>?_⟩;have kt:=smu (o:=HO.tup [V.str "do",V.ref p]) ht;exact r7 _ k5 nx5 ca5 l s v7 _ d7 (.tuple [.str "do",.tuple (d8::ds)]) _ hs (S5.trans (Sm2.of (k6.trans kt))) ((m5.same k6).same kt) (by omega) ((u75.same k6).same kt) (.tup (SqT.of pE) (.cons (.str _) (.cons (tp6.same kt) .nil))) y7 (vR (show XEs Γ (L++[nx]) W (2*n+1) l (d8::ds) nx5 from ⟨nx1,y8,xs⟩) (by show ds.length+1≤4;omega))
   obtain⟨t5,h5,r5⟩:∃ t,PSs (be CX0 P w K mg base nBd "_law_binder" (a0 sBd) f' cdv A outer s' H E).nox ((ak sBd).drop 5) t ∧
    ∀ (H1:Hp) (k1 nx1 ca1:Int) (s:Str) (v7:V) (d7:PyData) (x6 x8:Option V),s="let"∨s="each"→Sm2 b g H H1→MS K H1 Γ b g hd rc k1 nx1 ca1→k1≤k+((4*cst n+30:Nat):Int)→TD K H1 v7 d7→XE Γ L W (2*n+2) (nx+1) d7 nx1→t {nx:=fun _ H'=>Q .non H',rt:=Q} [some (.ref b),some (.int ((n:Nat):Int)),some (.ref sd),some (.ref g),some (.str s),some (.int nx),x6,some v7,x8] H1:=by
    refine⟨_,(pD (pL (i:=8) nd rfl (Or.inl rfl) (ab aW (hr.mono (by omega)) rfl (pA (pv 0) (pA (pv 1) (pA (ag (pA (aC cz (aa a9 (pv 2) pF (fun _ _=>rfl)) (aM (pA (pv 5) pB))) (pA (aa a9 (pv 2) pF (fun _ _=>rfl)) pB))) (pA (pv 3) pB)))))) h6),fun H1 k1 nx1 ca1 s v7 d7 x6 x8 hs s1 m1 hk1 u7 y7=>?_⟩;refine⟨_,rfl,_,rfl,?_⟩;refine mQ m1 (A0.s.sm A0.m s1) (by omega) rfl rfl fun t3 H3 s3 m3 sv3=>?_;refine⟨_,rfl,Γ,b,g,hd,rc,t3,k1,nx1,ca1,L++[nx],W,rfl,⟨m3,sv3,A0.o,by rw[lAp];show L.length+1+W.length+3*n≤100;omega⟩,by omega,fun v d k5 nx5 ca5 H5 s5 m5 hk5 tv x5=>?_⟩;exact r6 H5 k5 nx5 ca5 nx1 s v7 v d7 d _ hs (s1.trans (s3.trans s5)) m5 (by omega) ((u7.tk (s3.tk m1)).tk (s5.tk m3)) tv y7 x5
   obtain⟨t4,h4,r4⟩:∃ t,PSs (be CX0 P w K mg base nBd "_law_binder" (a0 sBd) f' cdv A outer s' H E).nox ((ak sBd).drop 4) t ∧
    ∀ (H1:Hp) (k1 nx1 ca1:Int) (s:Str) (v7:V) (d7:PyData) (x6 x8:Option V),s="let"∨s="each"∨s="var"→Sm2 b g H H1→MS K H1 Γ b g hd rc k1 nx1 ca1→k1≤k+((4*cst n+30:Nat):Int)→TD K H1 v7 d7→XE Γ L W (2*n+2) (nx+1) d7 nx1→t {nx:=fun _ H'=>Q .non H',rt:=Q} [some (.ref b),some (.int ((n:Nat):Int)),some (.ref sd),some (.ref g),some (.str s),some (.int nx),x6,some v7,x8] H1:=by
    refine⟨_,(pD (az (pM aH (pv 4) pC (pN _)) (pG (ae (ag (pA pC (pA (pv 5) (pA (pv 7) (pA (ab aW (hr.mono (by omega)) rfl (pA (pv 0) (pA (pv 1) (pA (ag (pA (aa a9 (pv 2) pF (fun _ _=>rfl)) (pA (aC cz (aa a9 (pv 2) pF (fun _ _=>rfl)) (aM (pA (pv 5) pB))) pB))) (pA (pv 3) pB))))) pB))))))) ah) h5),fun H1 k1 nx1 ca1 s v7 d7 x6 x8 hs s1 m1 hk1 u7 y7=>?_⟩;refine⟨_,rfl,rfl,_,rfl,?_⟩;refine bN (fun _=>?_) (fun hsv=>r5 H1 k1 nx1 ca1 s v7 d7 _ _ (by rcases hs with h | h | h;exact .inl h;exact .inr h;exact absurd (by rw[h];rfl) hsv) s1 m1 hk1 u7 y7);refine⟨_,rfl,_,rfl,_,rfl,_,rfl,?_⟩;refine sK m1 (A0.s.sm A0.m s1) (by omega) rfl rfl fun t3 H3 s3 m3 sv3=>?_;refine⟨_,rfl,Γ,b,g,hd,rc,t3,k1,nx1,ca1,L,W++[nx],rfl,⟨m3,sv3,A0.o,by rw[lAp];show L.length+(W.length+1)+3*n≤100;omega⟩,by omega,fun v d k5 nx5 ca5 H5 s5 m5 hk5 tv x5=>?_⟩;refine⟨rR,fun t ht=>?_⟩;have kt:=smu (o:=HO.tup [V.str "var",V.int nx,v7,v]) ht;exact q _ (.tuple [.str "var",.int nx,d7,d]) k5 nx5 ca5 _ (s1.trans (s3.trans (s5.trans (Sm2.of kt)))) (m5.same kt) (by omega) (.tup (SqT.of pE) (.cons (.str _) (.cons (.int _) (.cons (((u7.tk (s3.tk m1)).tk (s5.tk m3)).same kt) (.cons (tv.same kt) .nil))))) (oV y7 (x5.more (by omega)))
   obtain⟨t3,h3,r3⟩:∃ t,PSs (be CX0 P w K mg base nBd "_law_binder" (a0 sBd) f' cdv A outer s' H E).nox ((ak sBd).drop 3) t ∧
    ∀ (H1:Hp) (k1:Int) (s:Str) (x6 x7 x8:Option V),s="let"∨s="each"∨s="var"→Sm2 b g H H1→MS K H1 Γ b g hd rc k1 (nx+1) ca→k1≤k+1→t {nx:=fun _ H'=>Q .non H',rt:=Q} [some (.ref b),some (.int ((n:Nat):Int)),some (.ref sd),some (.ref g),some (.str s),some (.int nx),x6,x7,x8] H1:=by
    refine⟨_,(pD (az (PW.pt (cZ (pM aH (pv 4) pC (pN _)) (bX (pM gH (ab a7 (hr.mono (by omega)) rfl (pA (pv 0) (pA pF pB))) pF (pN _))))) (pG (pL (i:=7) nd rfl (Or.inl rfl) (ag (pA pC (pA pC (pA (ab FM0 (hr.mono (by omega)) rfl (pA (pv 0) (pA pF (pA (pv 2) (pA (pv 3) (pA (ab a7 (hr.mono (by omega)) rfl (pA (pv 0) (pA pF pB))) pB)))))) pB)))))) (pG (pL (i:=7) nd rfl (Or.inl rfl) (ab aW (hr.mono (by omega)) rfl (pA (pv 0) (pA (pv 1) (pA (pv 2) (pA (pv 3) pB)))))))) h4),fun H1 k1 s x6 x7 x8 hs s1 m1 hk1=>?_⟩;have els:∀ (H1:Hp) (k1:Int),Sm2 b g H H1→MS K H1 Γ b g hd rc k1 (nx+1) ca→k1≤k+2→nV (ij (spE K n) [] E (cb (aQ 0) (cb (aQ 1) (cb (aQ 2) (cb (aQ 3) ii))))) (dD 7) {nx:=t4 {nx:=fun _ H'=>Q .non H',rt:=Q},rt:=Q} [some (.ref b),some (.int ((n:Nat):Int)),some (.ref sd),some (.ref g),some (.str s),some (.int nx),x6,x7,x8] H1:=fun H1 k1 s1 m1 hk1=>by
     refine⟨_,rfl,_,rfl,_,rfl,_,rfl,Γ,b,g,hd,rc,sd,k1,nx+1,ca,L,W,rfl,Bs.go s1 m1,by omega,fun v d k5 nx5 ca5 H5 s5 m5 hk5 tv x5=>?_⟩;exact r4 H5 k5 nx5 ca5 s v d _ _ hs (s1.trans s5) m5 (by omega) tv (x5.more (by omega))
    refine⟨_,rfl,rfl,_,rfl,?_⟩;refine bN (fun _=>?_) (fun _=>els H1 k1 s1 m1 (by omega));refine⟨_,rfl,b,k1,4,rfl,m1.bx,by omega,by decide,by decide,fun r H2 r0 r1 mo bx=>⟨_,_,rfl,rfl,_,rfl,?_⟩⟩;obtain⟨s2,m2⟩:=m1.draw mo bx;have S2:=s1.trans s2;refine bN (fun _=>?_) (fun _=>els H2 _ S2 m2 (by omega));refine⟨_,rfl,_,rfl,_,rfl,_,rfl,b,k1+1,4,rfl,m2.bx,by omega,by decide,by decide,fun r' H3 r0' r1' mo' bx'=>?_⟩;obtain⟨j,rfl⟩:=Int.eq_ofNat_of_zero_le r0';obtain⟨s3,m3⟩:=m2.draw mo' bx';have S3:=S2.trans s3;have hmul:j*cst 0≤3*cst 0:=Nat.mul_le_mul_right _ (by omega);refine⟨Γ,b,g,hd,rc,sd,k1+1+1,nx+1,ca,L,W,j,rfl,(Bs.lo (Nat.zero_le _)).go S3 m3,by omega,by omega,fun v ds k5 nx5 ca5 H5 s5 m5 hk5 tv hl xs=>?_⟩;refine⟨fX,fun t ht=>?_⟩;have kt:=smu (o:=HO.tup [V.str "op",V.str "row",v]) ht;exact r4 _ k5 nx5 ca5 s _ (.tuple [.str "op",.str "row",.tuple ds]) _ _ hs (S3.trans (s5.trans (Sm2.of kt))) (m5.same kt) (by omega) (.tup (SqT.of pE) (.cons (.str _) (.cons (.str _) (.cons (tv.same kt) .nil)))) ((oX (by decide +kernel) xs (by omega)).more (by omega))
   obtain⟨t2,h2',r2⟩:∃ t,PSs (be CX0 P w K mg base nBd "_law_binder" (a0 sBd) f' cdv A outer s' H E).nox ((ak sBd).drop 2) t ∧
    ∀ (H1:Hp) (k1:Int) (s:Str) (x6 x7 x8:Option V),s∈w5→Sm2 b g H H1→MS K H1 Γ b g hd rc k1 (nx+1) ca→k1≤k+1→t {nx:=fun _ H'=>Q .non H',rt:=Q} [some (.ref b),some (.int ((n:Nat):Int)),some (.ref sd),some (.ref g),some (.str s),some (.int nx),x6,x7,x8] H1:=by
    refine⟨_,(pD (az (pM aH (pv 4) pC (pN _)) (pD (pL (i:=6) nd rfl (Or.inl rfl) (aC eM (ag (pA (pv 5) pB)) (cW T.tuple (pA (dW (own:=["_law_k"]) (outs:=[(3,"_law_lore")]) rfl (aB.of (a0 sBd) nBd) (bo rfl T.range (pA (ab a7 (hr.mono (by omega)) rfl (pA (pv 0) (pA pF pB))) pB)) (fun _ _ _ _=>⟨(aw (i:=0) Ap rfl (Or.inl rfl)),cf,(ab cV (hr.mono (by omega)) rfl (pA (pv 1) pB))⟩)) pB))))
 (pG (ae (ag (pA pC (pA (pv 6) (pA (ab aW (hr.mono (by omega)) rfl (pA (pv 0) (pA (pv 1) (pA (ag (pA (aC cz (aa a9 (pv 2) pF (fun _ _=>rfl)) (xX T.list (pA (pv 6) pB))) (pA (aM pB) pB))) (pA (pv 3) pB))))) pB))))))) ah) h3),fun H1 k1 s x6 x7 x8 hs s1 m1 hk1=>?_⟩
    refine⟨_,rfl,rfl,_,rfl,?_⟩;refine bN (fun _=>?_) (fun hsf=>r3 H1 k1 s _ _ _ (by
      have:∀ s∈w5,s="fun"∨s="let"∨s="each"∨s="var":=by decide +kernel
      rcases this s hs with h | h
      · exact absurd (by rw[h];rfl) hsf
      · exact h) s1 m1 hk1)
    refine⟨_,rfl,ke,fun p1 hp1=>?_⟩;have k1':=smu (o:=HO.tup [V.int nx]) hp1;have m2:=m1.same k1';have S2:=s1.trans (Sm2.of (b:=b) (g:=g) k1');have tp1:TD K (upd H1 p1 (.tup [V.int nx])) (.ref p1) (.tuple [.int nx]):=.tup (SqT.of pE) (.cons (.int _) .nil);generalize upd H1 p1 (.tup [V.int nx])=H2 at m2 S2 tp1 ⊢;dsimp only[bd];rw[iu,dr,dC];refine⟨_,rfl,b,k1,2,rfl,m2.bx,by omega,by decide,by decide,fun r H3 r0 r1 mo bx=>⟨_,rfl,by omega,by omega,fun G hG=>?_⟩⟩;obtain⟨j,rfl⟩:=Int.eq_ofNat_of_zero_le r0;obtain⟨s3,m3⟩:=m2.draw mo bx;rw[show ((j:Nat):Int).toNat=j from Int.toNat_natCast _];have nw:=m3.new hG;have k0:=smu (o:=HO.lst []) hG;refine bt.by (ba (n:=j)) (fun i σ Hi=>Sm2 b g H3 Hi∧MS K Hi Γ b g hd rc (k1+1) (nx+1+((i:Nat):Int)) ca∧Hi G=some (.lst ((rgI (nx+1) i).map V.int))∧∃ y,σ=[y,some (.ref g)]) ⟨Sm2.of k0,by rw[Int.natCast_zero,Int.add_zero];exact m3.same k0,pE,_,rfl⟩ (fun _ _ _ _ _=>trivial) ?_ ?_
    · rintro i u σ Hi hu ⟨si,mi,hGi,y,rfl⟩;have hi:i<j:=by have:=(gES.mp hu).1;rwa [aV] at this
      rw[bh,dM];refine cB ⟨_,rfl,Γ,b,g,hd,rc,_,_,_,rfl,mi,fun H4 mo4 m4=>?_⟩;have hG4:=(mo4 G nw.2.1).trans hGi;refine⟨_,hG4,by rw[lMp,cO];omega,?_,?_,?_,_,rfl⟩
      · exact (si.trans mo4.sm2').put hG
      · rw[Int.natCast_add,← Int.add_assoc];exact m4.updL nw hG4
      · rw[pE,qi,List.map_append];rfl
    · rintro σ Hi ⟨si,mi,hGi,y,rfl⟩;rw[aV] at mi hGi;refine⟨G,_,rfl,.inl ⟨SqL.of hGi,fun F hF=>?_⟩⟩;have k5:=smu (o:=HO.tup ((rgI (nx+1) j).map V.int)) hF;have tF:TD K (upd Hi F (.tup ((rgI (nx+1) j).map V.int))) (.ref F) (.tuple ((rgI (nx+1) j).map .int)):=.tup (SqT.of pE) (rZ _);have tp5:=((tp1.tk (s3.tk m2)).tk (si.tk m3)).same k5;have m5:=mi.same k5;have S5:=S2.trans (s3.trans (si.trans (Sm2.of k5)));generalize upd Hi F (.tup ((rgI (nx+1) j).map V.int))=H5 at tF tp5 m5 S5 ⊢;refine cS tp5 tF (by simp[cO];omega) fun p H6 k6 tp6=>?_;have eids:[PyData.int nx]++(rgI (nx+1) j).map .int=(rgI nx (j+1)).map .int:=by rw[qj];rfl
      rw[eids] at tp6;have m6:=m5.same k6;have S6:=S5.trans (Sm2.of k6);obtain⟨a6,ys6,ea6,hq6,hy6⟩:=tp6.tup_of;cases ea6;have ey6:=lM hy6;subst ey6;obtain⟨la,va,z1,z2,z3,n1,n2,n3,n4⟩:=(A0.s.sm A0.m S6).ex;refine⟨_,rfl,_,rfl,_,rfl,_,rfl,sd,_,_,_,rfl,rfl,z1,l7,_,rfl,_,_,rfl,.inr hq6,fun l hl=>?_⟩;have k7:=smu (o:=HO.lst ((rgI nx (j+1)).map V.int)) hl;refine⟨la,l,_,_,rfl,rfl,SqL.of (k7 _ _ z2),SqL.of pE,by simp[cO];omega,fun p2 hp2=>?_⟩;have k8:=smu (o:=HO.lst (L.map V.int++(rgI nx (j+1)).map V.int)) hp2;obtain⟨b2,g2,_⟩:=(m6.same k7).new hp2;refine⟨lm,fun p3 hp3=>?_⟩;obtain⟨b3,g3,_⟩:=((m6.same k7).same k8).new hp3;have k9:=smu (o:=HO.lst []) hp3;refine⟨cE,fun t ht=>?_⟩;have k10:=smu (o:=HO.tup [V.ref p2,V.ref p3]) ht;have kk:=((k7.trans k8).trans k9).trans k10;have m10:=m6.same kk;have S10:=S6.trans (Sm2.of (b:=b) (g:=g) kk);have tp10:=tp6.same kk;have sv:iR K _ b g t (L++rgI nx (j+1)) []:=⟨p2,p3,SqT.of (pE (o:=HO.tup [V.ref p2,V.ref p3])),k10 _ _ (k9 _ _ (by rw[List.map_append];exact pE)),k10 _ _ pE,b2,b3,g2,g3⟩;generalize upd (upd (upd (upd H6 l (.lst ((rgI nx (j+1)).map V.int))) p2 (.lst (L.map V.int++(rgI nx (j+1)).map V.int))) p3 (.lst [])) t (.tup [V.ref p2,V.ref p3])=H10 at m10 S10 sv tp10 ⊢;refine⟨_,rfl,Γ,b,g,hd,rc,t,k1+1,nx+1+((j:Nat):Int),ca,L++rgI nx (j+1),[],rfl,⟨m10,sv,A0.o,by rw[lAp,cO];show L.length+(j+1)+0+3*n≤100;omega⟩,by omega,fun v d k11 nx11 ca11 H11 s11 m11 hk11 tv x11=>?_⟩;refine⟨fX,fun t ht=>?_⟩;have kt:=smu (o:=HO.tup [V.str "fun",V.ref p,v]) ht;exact q _ (.tuple [.str "fun",.tuple ((rgI nx (j+1)).map .int),d]) k11 nx11 ca11 _ (S10.trans (s11.trans (Sm2.of kt))) (m11.same kt) (by omega) (.tup (SqT.of pE) (.cons (.str _) (.cons ((tp10.tk (s11.tk m10)).same kt) (.cons (tv.same kt) .nil)))) ((yg (k:=j+1) (by omega) (by rw[Int.natCast_add,Int.add_comm ((j:Nat):Int),← Int.add_assoc];exact x11)).more (by omega))
   refine⟨_,(@pD _ _ _ _ _ (@pL _ _ 4 _ _ _ _ nd rfl (Or.inl rfl) (@aa _ _ _ _ _ _ _ aF (@aM _ _ _ _ (@pA _ _ _ _ _ pC (@pA _ _ _ _ _ pC (@pA _ _ _ _ _ pC (@pA _ _ _ _ _ pC (@pA _ _ _ _ _ pC pB (by rfl)) (by rfl)) (by rfl)) (by rfl)) (by rfl))) (ab a7 (hr.mono (by omega)) rfl (pA (pv 0) (pA pF pB))) (fun _ _=>rfl)) (by rfl) (by exact Or.inl rfl))
 (pD (pL (i:=5) nd rfl (Or.inl rfl) (ab cV (hr.mono (by omega)) rfl (pA (pv 3) pB))) h2')),?_⟩
   refine⟨B0,fun p hp=>?_⟩;obtain⟨s1,m1,pb,pg⟩:=A0.m.newL (o:=HO.lst (w5.map V.str)) hp;have ep:(upd H p (.lst (w5.map V.str))) p=some (.lst (w5.map V.str)):=pE;refine⟨_,rfl,b,k,5,rfl,m1.bx,by omega,by decide,by decide,fun r H2 r0 r1 mo bx=>?_⟩;obtain⟨j,rfl⟩:=Int.eq_ofNat_of_zero_le r0;have hj:j<w5.length:=by show j<5;omega
   obtain⟨s2,m2⟩:=m1.draw mo bx;refine⟨p,_,_,V.str w5[j],rfl,rfl,SqL.of ((mo p pb).trans ep),pH (by simp[hj]),?_⟩;refine⟨_,rfl,Γ,b,g,hd,rc,_,_,_,rfl,m2,fun H3 mo3 m3=>?_⟩;exact r2 H3 (k+1) _ _ _ _ (List.getElem_mem hj) (s1.trans (s2.trans mo3.sm2')) m3 (by omega)
end
section
variable {P:Program} {w:World} {K:Fg} {mg:SOV} {base:Heap}
abbrev sE:Stmt:=top 30
abbrev nE:List Str:=["_law_box_here","_law_deep","_law_seen","_law_lore","_law_way"]
theorem scE:am nE ps4 (a0 sE):=fsM
theorem Ac (D:Def K mg "_law_e" sE) (a7:Fn P w K mg base "_law_take" 1 ["_law_box_here","_law_many_here"] fZ) (bz:Fn P w K mg base "_law_leaf" 2 ["_law_box_here","_law_seen"] (pX K)):Fn P w K mg base "_law_e" 3 ps4 (spE K 0):=by
 refine D.fn scE (fun vs H Q E h=>?_) (fun _ _ _ _ _ _ us hl=>by obtain⟨a,b,c,d,rfl⟩:=j4 hl;rfl) (fun f' cdv A outer s' H vs Q E hr h=>?_)
 · obtain⟨Γ,b,g,hd,rc,sd,k,nx,ca,L,W,rfl,_⟩:=h;rfl
 · obtain⟨Γ,b,g,hd,rc,sd,k,nx,ca,L,W,rfl,A0,h2,q⟩:=h;have nd:=scE.nd;have hc0:cst 0=10:=rfl;have hll:=A0.l;refine⟨_,(pD (pL (i:=4) nd rfl (Or.inl rfl) (ab a7 (hr.mono (by omega)) rfl (pA (pv 0) (pA pF pB))))
 (pD (az (PW.pt (dO (pM aH (pv 1) pF (pN _)) (cY (pM aH (pv 4) pF (pN _))))) (pG (ae (ab bz (hr.mono (by omega)) rfl (pA (pv 0) (pA (pv 2) pB))))) ah) nZ)),?_⟩
   refine⟨_,rfl,b,k,14,rfl,A0.m.bx,by omega,by decide,by decide,fun r H1 r0 r1 mo bx=>?_⟩;obtain⟨s1,m1⟩:=A0.m.draw mo bx;refine⟨_,rfl,rfl,_,rfl,?_⟩;refine pJ rfl ?_;refine cB ?_;exact⟨_,rfl,_,rfl,Γ,b,g,hd,rc,sd,k+1,nx,ca,L,W,rfl,m1,A0.s.sm A0.m s1,by omega,by omega,fun v d k' H' s' m' hk' tv x=>q v d k' nx ca H' (s1.trans s') m' (by omega) tv (x 0)⟩
theorem Ab {n:Nat} (D:Def K mg "_law_e" sE) (T:Blt mg) (a7:Fn P w K mg base "_law_take" 1 ["_law_box_here","_law_many_here"] fZ) (bz:Fn P w K mg base "_law_leaf" 2 ["_law_box_here","_law_seen"] (pX K))
 (kd:Fn P w K mg base "_law_binder" (4*n+5) ps4 (spB K n)) (mB:Fn P w K mg base "_law_flow" (4*n+5) ps4 (spK K n)) (iV:Fn P w K mg base "_law_op" (4*n+5) ps4 (spK K n)) (kc:Fn P w K mg base "_law_record" (4*n+6) ps4 (spK K n)) (mD:Fn P w K mg base "_law_call" (4*n+5) ps4 (spK K n))
 (aW:Fn P w K mg base "_law_e" (4*n+3) ps4 (spE K n)) (FM0:Fn P w K mg base "_law_many" 4 nMn (jv K 0)):Fn P w K mg base "_law_e" (4*(n+1)+3) ps4 (spE K (n+1)):=by
 refine D.fn scE (fun vs H Q E h=>?_) (fun _ _ _ _ _ _ us hl=>by obtain⟨a,b,c,d,rfl⟩:=j4 hl;rfl) (fun f' cdv A outer s' H vs Q E hr h=>?_)
 · obtain⟨Γ,b,g,hd,rc,sd,k,nx,ca,L,W,rfl,_⟩:=h;rfl
 · obtain⟨Γ,b,g,hd,rc,sd,k,nx,ca,L,W,rfl,A0,h2,q⟩:=h;have nd:=scE.nd;have hu:=eY hr;have hz0:(100000:Nat)<sizeLine:=by decide
   have hc:=eP n;have hc0:cst 0=10:=rfl;have hcs:cst (n+1)=8*cst n+60:=rfl;have hll:=A0.l;have Bs:Ask K H Γ b g hd rc sd k nx ca L W n:=A0.lo (by omega);have hsub:(((n+1:Nat):Int)-1)=((n:Nat):Int):=by omega
   have fin:∀ H1,Sm2 b g H H1→∀ v d k' nx' ca' H',Sm2 b g H1 H'→MS K H' Γ b g hd rc k' nx' ca'→k'≤k+1+((8*cst n+50:Nat):Int)→TD K H' v d→XE Γ L W (2*n+3) nx d nx'→Q v H':=fun H1 s1 v d k' nx' ca' H' s m hk t x=>q v d k' nx' ca' H' (s1.trans s) m (by omega) t x;obtain⟨t5,h5,r5⟩:∃ t,PSs (be CX0 P w K mg base nE "_law_e" (a0 sE) f' cdv A outer s' H E).nox ((ak sE).drop 5) t ∧
    ∀ (H1:Hp) (r:Int),Sm2 b g H H1→MS K H1 Γ b g hd rc (k+1) nx ca→t {nx:=fun _ H'=>Q .non H',rt:=Q} [some (.ref b),some (.int ((n+1:Nat):Int)),some (.ref sd),some (.ref g),some (.int r)] H1:=by
    refine⟨_,(pD (az (pM iC (pv 4) pF (pN _)) (pG (ae (ab iV (hr.mono (by omega)) rfl (pA (pv 0) (pA (aC d0 (pv 1) pF) (pA (pv 2) (pA (pv 3) pB))))))) ah)
 (pD (az (pM aH (pv 4) pF (pN _)) (pG (ae (ab kc (hr.mono (by omega)) rfl (pA (pv 0) (pA (aC d0 (pv 1) pF) (pA (pv 2) (pA (pv 3) pB))))))) ah)
 (pD (az (pM aH (pv 4) pF (pN _)) (pG (ae (ag (pA pC (pA (ab aW (hr.mono (by omega)) rfl (pA (pv 0) (pA (aC d0 (pv 1) pF) (pA (pv 2) (pA (pv 3) pB))))) (pA (ab FM0 (hr.mono (by omega)) rfl (pA (pv 0) (pA pF (pA (pv 2) (pA (pv 3) (pA (ab a7 (hr.mono (by omega)) rfl (pA (pv 0) (pA pF pB))) pB)))))) pB)))))) ah)
 (pG (ae (ab mD (hr.mono (by omega)) rfl (pA (pv 0) (pA (aC d0 (pv 1) pF) (pA (pv 2) (pA (pv 3) pB)))))))))),fun H1 r s1 m1=>?_⟩
    have A1:=Bs.go s1 m1;refine⟨_,rfl,_,_,rfl,rfl,_,rfl,?_⟩;refine bN (fun _=>?_) (fun _=>?_)
    · exact⟨_,rfl,_,rfl,_,_,rfl,rfl,_,rfl,_,rfl,Γ,b,g,hd,rc,sd,k+1,nx,ca,L,W,by rw[hsub];rfl,A1,by omega,fin H1 s1⟩
    refine⟨_,rfl,rfl,_,rfl,?_⟩;refine bN (fun _=>?_) (fun _=>?_)
    · exact⟨_,rfl,_,rfl,_,_,rfl,rfl,_,rfl,_,rfl,Γ,b,g,hd,rc,sd,k+1,nx,ca,L,W,by rw[hsub];rfl,A1,by omega,fin H1 s1⟩
    refine⟨_,rfl,rfl,_,rfl,?_⟩;refine bN (fun _=>?_) (fun _=>?_)
    · refine⟨_,rfl,_,rfl,_,_,rfl,rfl,_,rfl,_,rfl,Γ,b,g,hd,rc,sd,k+1,nx,ca,L,W,by rw[hsub];rfl,A1,by omega,fun v5 d5 k5 nx5 ca5 H5 s5 m5 hk5 tv5 x5=>?_⟩;refine⟨_,rfl,_,rfl,_,rfl,_,rfl,b,k5,3,rfl,m5.bx,by omega,by decide,by decide,fun r' H6 r0 r1 mo bx=>?_⟩;obtain⟨j,rfl⟩:=Int.eq_ofNat_of_zero_le r0;obtain⟨s6,m6⟩:=m5.draw mo bx;have hmul:j*cst 0≤2*cst 0:=Nat.mul_le_mul_right _ (by omega);refine⟨Γ,b,g,hd,rc,sd,k5+1,nx5,ca5,L,W,j,rfl,(Bs.lo (Nat.zero_le _)).go (s1.trans (s5.trans s6)) m6,by omega,by omega,fun v ds k7 nx7 ca7 H7 s7 m7 hk7 tv hl xs=>?_⟩;refine⟨fX,fun t ht=>?_⟩;have kt:=smu (o:=HO.tup [V.str "apply",v5,v]) ht;exact fin H1 s1 _ (.tuple [.str "apply",d5,.tuple ds]) k7 nx7 ca7 _ (s5.trans (s6.trans (s7.trans (Sm2.of kt)))) (m7.same kt) (by omega) (.tup (SqT.of pE) (.cons (.str _) (.cons (((tv5.tk (s6.tk m5)).tk (s7.tk m6)).same kt) (.cons (tv.same kt) .nil)))) ((mH x5 (xs.more (by omega)) (by omega)).more (by omega))
    · exact⟨_,rfl,_,rfl,_,_,rfl,rfl,_,rfl,_,rfl,Γ,b,g,hd,rc,sd,k+1,nx,ca,L,W,by rw[hsub];rfl,A1,by omega,fin H1 s1⟩
   refine⟨_,(pD (pL (i:=4) nd rfl (Or.inl rfl) (ab a7 (hr.mono (by omega)) rfl (pA (pv 0) (pA pF pB))))
 (pD (az (PW.pt (dO (pM aH (pv 1) pF (pN _)) (cY (pM aH (pv 4) pF (pN _))))) (pG (ae (ab bz (hr.mono (by omega)) rfl (pA (pv 0) (pA (pv 2) pB))))) ah)
 (pD (az (pM iC (pv 4) pF (pN _)) (pG (ae (ab kd (hr.mono (by omega)) rfl (pA (pv 0) (pA (aC d0 (pv 1) pF) (pA (pv 2) (pA (pv 3) pB))))))) ah)
 (pD (az (pM iC (pv 4) pF (pN _)) (pG (ae (ab mB (hr.mono (by omega)) rfl (pA (pv 0) (pA (aC d0 (pv 1) pF) (pA (pv 2) (pA (pv 3) pB))))))) ah)
 (pD (az (PW.pt (cZ (pM aH (pv 4) pF (pN _)) (bX (pM (xa hu) (aa a9 (pv 2) pF (fun _ _=>rfl)) (aM pB) (pN _))))) (pG (ae (ag (pA pC (pA (aa aF (aa a9 (pv 2) pF (fun _ _=>rfl)) (ab a7 (hr.mono (by omega)) rfl (pA (pv 0) (pA (bJ T.len (pA (aa a9 (pv 2) pF (fun _ _=>rfl)) pB)) pB))) (fun _ _=>rfl)) (pA (ab aW (hr.mono (by omega)) rfl (pA (pv 0) (pA (aC d0 (pv 1) pF) (pA (pv 2) (pA (pv 3) pB))))) pB)))))) ah) h5))))),?_⟩
   refine⟨_,rfl,b,k,14,rfl,A0.m.bx,by omega,by decide,by decide,fun r H1 r0 r1 mo bx=>?_⟩;obtain⟨s1,m1⟩:=A0.m.draw mo bx;have A1:=Bs.go s1 m1;refine⟨_,rfl,rfl,_,rfl,?_⟩;refine pI (by simp;omega) ?_;refine⟨_,rfl,rfl,_,rfl,?_⟩;refine bN (fun _=>?_) (fun _=>?_)
   · exact⟨_,rfl,_,rfl,Γ,b,g,hd,rc,sd,k+1,nx,ca,L,W,rfl,m1,A0.s.sm A0.m s1,by omega,by omega,fun v d k' H' s' m' hk' tv x=>q v d k' nx ca H' (s1.trans s') m' (by omega) tv (x _)⟩
   refine⟨_,rfl,_,_,rfl,rfl,_,rfl,?_⟩;refine bN (fun _=>?_) (fun _=>?_)
   · exact⟨_,rfl,_,rfl,_,_,rfl,rfl,_,rfl,_,rfl,Γ,b,g,hd,rc,sd,k+1,nx,ca,L,W,by rw[hsub];rfl,A0.go s1 m1,by omega,fin H1 s1⟩
   refine⟨_,rfl,_,_,rfl,rfl,_,rfl,?_⟩;refine bN (fun _=>?_) (fun _=>?_)
   · exact⟨_,rfl,_,rfl,_,_,rfl,rfl,_,rfl,_,rfl,Γ,b,g,hd,rc,sd,k+1,nx,ca,L,W,by rw[hsub];rfl,A1,by omega,fin H1 s1⟩
   refine⟨_,rfl,rfl,_,rfl,?_⟩;refine bN (fun _=>?_) (fun _=>r5 H1 r s1 m1);obtain⟨la,va,z1,z2,z3,n1,n2,n3,n4⟩:=A1.s.ex;refine⟨_,rfl,sd,_,_,_,rfl,rfl,z1,jX,lm,fun p hp=>?_⟩;have k2:=smu (o:=HO.lst []) hp;obtain⟨s2,m2,pb,pg⟩:=m1.newL (o:=HO.lst []) hp;refine⟨va,p,_,rfl,rfl,SqL.of (k2 _ _ z3),SqL.of pE,_,rfl,?_⟩;have z1':=z1.tk k2.tk;have z3':=k2 _ _ z3;generalize upd H1 p (.lst [])=H2 at s2 m2 z1' z3' ⊢;have S2:=s1.trans s2;by_cases hW:W=[]
   · exact pI (by rw[hW];decide) (r5 H2 r S2 m2)
   refine pJ (by simpa using hW) ?_;have hpos:0<W.length:=List.length_pos_iff.mpr hW;refine⟨_,rfl,sd,_,_,_,rfl,rfl,z1',jX,_,rfl,_,rfl,sd,_,_,_,rfl,rfl,z1',jX,va,_,rfl,.inl (SqL.of z3'),b,k+1,_,rfl,m2.bx,by omega,by rw[lMp];omega,by rw[lMp];omega,fun r' H3 r0' r1' mo' bx'=>?_⟩;rw[lMp] at r1';obtain⟨j,rfl⟩:=Int.eq_ofNat_of_zero_le r0';have hj:j<W.length:=by omega
   obtain⟨s3,m3⟩:=m2.draw mo' bx';have S3:=S2.trans s3;refine⟨va,_,_,V.int W[j],rfl,rfl,SqL.of ((mo' va n2).trans z3'),pH (by simp[hj]),?_⟩;refine⟨_,rfl,_,rfl,_,_,rfl,rfl,_,rfl,_,rfl,Γ,b,g,hd,rc,sd,k+1+1,nx,ca,L,W,by rw[hsub];rfl,Bs.go S3 m3,by omega,fun v5 d5 k5 nx5 ca5 H5 s5 m5 hk5 tv5 x5=>?_⟩;refine⟨fX,fun t ht=>?_⟩;have kt:=smu (o:=HO.tup [V.str "set",V.int W[j],v5]) ht;exact fin H1 s1 _ (.tuple [.str "set",.int W[j],d5]) k5 nx5 ca5 _ (s2.trans (s3.trans (s5.trans (Sm2.of kt)))) (m5.same kt) (by omega) (.tup (SqT.of pE) (.cons (.str _) (.cons (.int _) (.cons (tv5.same kt) .nil)))) ((uB (List.getElem_mem hj) x5).more (by omega))
theorem Aa (T:Blt mg) (De:Def K mg "_law_e" sE) (Dm:Def K mg "_law_many" sMn) (Db:Def K mg "_law_binder" sBd) (Do:Def K mg "_law_op" sOp) (Dr:Def K mg "_law_record" sRc) (Dc:Def K mg "_law_call" sCl) (Df:Def K mg "_law_flow" sFw)
 (a7:Fn P w K mg base "_law_take" 1 ["_law_box_here","_law_many_here"] fZ) (bz:Fn P w K mg base "_law_leaf" 2 ["_law_box_here","_law_seen"] (pX K)) (cV:Fn P w K mg base "_law_fresh" 1 ["_law_lore"] (wu K)) :
 ∀ n,Fn P w K mg base "_law_e" (4*n+3) ps4 (spE K n):=by
 have E0:=Ac (P:=P) (w:=w) (base:=base) De a7 bz;have M0:=uQ (n:=0) Dm T E0;intro n
 induction n with
 | zero=>exact E0
 | succ n ih =>
  have M:=uQ Dm T ih;have O:=zO Do T a7 M;exact Ab De T a7 bz (Ah Db T a7 cV ih M0 M) (A8 Df T a7 E0 ih M) O (zM Dr T a7 ih M O) (Ae Dc T a7 bz ih M0 M) ih M0
end
end K23
namespace PySem
open Sem (wp)
open AutoSeq1 (wpAny_loadPart')
section
variable {prog:Program} {w:World} {A:Around} {E:VSP} {s:Shared}
end
end PySem
namespace L2
open PySem PySem.Spec PyProof.Rows
theorem pe {i:Int}:∀ {k:Nat} {acc:Array Value},ItemsOf (fun j v=>∃ t,v=.int (i+j*1) t) acc k→aD ((List.range k).map fun j=>V.int (i+((j:Nat):Int))) acc.toList:=by
 intro k acc h;have g:∀ (l:List Value) (o:Nat),(∀ j v,l[j]?=some v→∃ t,v=Value.int (i+((o+j:Nat):Int)*1) t)→aD ((List.range' o l.length).map fun j=>V.int (i+((j:Nat):Int))) l:=by
  intro l
  induction l with
  | nil=>intro o _;exact .nil
  | cons v r ih =>
   intro o hl;obtain⟨t,ht⟩:=hl 0 v rfl;refine .cons ⟨t,by rw[ht];simp⟩ (ih (o+1) fun j v hv=>?_);obtain⟨t,ht⟩:=hl (j+1) v hv;exact⟨t,by rw[ht];congr 3;omega⟩
 have z:=g acc.toList 0 fun j v hv=>by
  obtain⟨t,ht⟩:=h.2 j v (by simpa using hv);exact⟨t,by rw[ht,Nat.zero_add]⟩
 rw[Array.length_toList,h.1,← List.range_eq_range'] at z;exact z
inductive vK (xs:List V) (H:Hp) (Q:VK):Prop
  | mk (k:Nat) (h:xs=[.int ((k:Nat):Int)]) (hk:k≤1000) (q:∀ t,H t=none→Q (.ref t) (upd H t (.lst ((List.range k).map fun j=>V.int (0+((j:Nat):Int)))))):vK xs H Q
theorem xW {X:Cx} {p1 p2 pos1 pos2:Pos} {a:Expr} {ta:TA} (hm:X.mg "list"=none) (hm2:X.mg "range"=none) (ha:PA X [a] ta) (hc:X.calm=true:=by rfl) (hg:Gl X "list":=by rfl) (hg2:Gl X "range":=by rfl)
 (s1:starEach [.Call (.Name "range" p2) [a] [] pos2] X.env=(false,eval (.Call (.Name "range" p2) [a] [] pos2) X.env)::starEach [] X.env:=by rfl) (hs:starEach [a] X.env=[(false,eval a X.env)]:=by rfl) (hs0:starEach [] X.env=[]:=by rfl)
 (s3:(backTo pos1 (starEach [] X.env)).any (·.1)=false:=by rfl) (s5:backTo pos1 (starEach [] X.env)=[]:=by rfl) :
 PE X (.Call (.Name "list" p1) [.Call (.Name "range" p2) [a] [] pos2] [] pos1) (tCB vK ta):=by
 intro pins s σ H Q I h;have hh:X.A.handled=none:=I.ok.hd hc;refine wpAny_Call_Name_kw (cJ I hg hm fA (PyProof.Rows.callWith_type1 ?_ s1 s3));rw[s1];show wpAny _ _ (spliced ((false,eval (.Call (.Name "range" p2) [a] [] pos2) X.env)::backTo pos1 (starEach [] X.env))) _ _ s;rw[s5];refine Calls.spliced_cons (wpAny_Call_Name_kw (cJ I hg2 hm2 boot_range (PyProof.Rows.callWith_type1 (thn (ha pos2 pins s σ H _ I h) fun us s1 z=>?_) (by rw[hs,hs0]) (by rw[hs0];rfl))));obtain⟨vs,H1,I1,r1,k,rfl,hk,q⟩:=z;cases r1 with
 | cons r rr =>
  cases rr;obtain⟨t,rfl⟩:=r;refine call_range_1 (Calls.spliced_nil (call_list_range hh (IsRange.new ..) (small_one (by omega) (by omega) (by omega) (by omega)) (n:=k) (by rw[rangeSize_one];split <;> omega) (by omega) fun h' tk acc c' k1 k0 k2=>?_));have I3:Inv X pins σ H1 {s1 with heap:=s1.heap.push {cls:=.type "range",data:=.fields #[.int 0 s1.toks,.int ((k:Nat):Int) t,.int 1 (s1.toks+1)]},toks:=s1.toks+1+1}:=I1.kept (t':=s1.toks+1+1) fun b o z=>hpS _ z;refine⟨.ref _,_,I3.laid (t':=tk) (o:=.lst ((List.range k).map fun j=>V.int (0+((j:Nat):Int)))) (fun b o e=>k1 b o e) (Nat.le_refl _) ⟨?_,acc.toList,c',pe k2,?_⟩,rfl,q _ (I3.hok.fresh (Nat.le_refl _))⟩
  · rw[lMp,List.length_range,sizeLine_eq];omega
  · rw[Array.toArray_toList];exact k0
end L2
namespace K23
open PySem L2 P10
def fnD (h:Str) (c:Nat) (d:PyData):PyData:=.tuple [.str h,.int ((c:Nat):Int),d]
def FOk (hs:List (Str×Nat)) (rs:List Nat) (j:Nat) (f:PyData):Prop:=∃ h c d c',hs[j]?=some (h,c)∧f=fnD h c d∧XE ⟨hs,j,rs⟩ (rgI 0 c) [] 9 ((c:Nat):Int) d c'
def hw3:List Str:=["open","function","deep"]
def oR (hs:List (Str×Nat)):Prop:=∀ p∈hs,p.2≤2∧p.1∈hw3
def mnS (k:Nat):Str:=("main":Str)++(⟨#[97+k]⟩:Str)
def AF (os:List (Str×Nat)) (n:Nat):Prop:=∀ p∈os,∃ k,k<n∧p=(mnS k,k)
structure AN (hs:List (Str×Nat)) (rs:List Nat) (fs:PDs) (os:List (Str×Nat)):Prop where
  hl:hs.length≤4
  hp:0<hs.length
  hh:oR hs
  rl:rs.length≤3
  rr:∀ r∈rs,1≤r∧r≤3
  fl:fs.length=hs.length
  fo:∀ j f,fs[j]?=some f→FOk hs rs j f
  ol:os.length≤hs.length
  oo:AF os hs.length
def gM (fs:PDs) (rs:List Nat) (os:List (Str×Nat)):PyData:=.tuple [.tuple fs,dN rs,.tuple (os.map dH)]
structure C1 (H Hi:Hp) (b:Addr) (k:Int):Prop where
  sm:ai H Hi
  bx:fV Hi b k
  b0:H b=none
section
variable {P:Program} {w:World} {K:Fg} {mg:SOV} {base:Heap}
theorem C1.bl {H Hi:Hp} {b:Addr} {k:Int} (c:C1 H Hi b k):∃ ys,Hi b=some (.lst ys):=by obtain⟨n,x,h,_⟩:=c.bx;exact⟨_,h⟩
theorem C1.took {H Hi H':Hp} {b:Addr} {k:Int} (c:C1 H Hi b k) (mo:Mo Hi b H') (bx:fV H' b (k+1)):C1 H H' b (k+1) :=
 ⟨fun a u h=>(mo a (af h c.b0)).trans (c.sm a u h),bx,c.b0⟩
theorem C1.same {H Hi H':Hp} {b:Addr} {k:Int} (c:C1 H Hi b k) (s:ai Hi H'):C1 H H' b k:=by
 obtain⟨n,x,h,h0⟩:=c.bx;exact⟨c.sm.trans s,⟨n,x,s _ _ h,h0⟩,c.b0⟩
theorem C1.tk {H Hi H':Hp} {b:Addr} {k:Int} (c:C1 H Hi b k) (mo:Mo Hi b H'):Tk Hi H':=fun a xs h=>by
 obtain⟨ys,hb⟩:=c.bl;have n1:a≠b:=fun e=>by
  rw[e] at h
  rcases h with h | ⟨_,h⟩ <;> rw[hb] at h <;> cases h
 rcases h with h | ⟨o,h⟩
 · exact .inl ((mo _ n1).trans h)
 · exact .inr ⟨o,(mo _ n1).trans h⟩
theorem Sm2.same {H H1 H2:Hp} {b g:Addr} (s:Sm2 b g H1 H2) (k:ai H H1) (hb:H b=none) (hg:H g=none):ai H H2:=fun a u h=>s a u (af h hb) (af h hg) (k a u h)
structure CS (K:Fg) (H Hi:Hp) (hd fa oa rc:Addr) (hs:List (Str×Nat)) (rs:List Nat) (i j:Nat):Prop where
  sm:ai H Hi
  hv:∃ xs,Hi hd=some (.lst xs)∧TDs K Hi xs (hs.map dH)
  rv:TD K Hi (.ref rc) (dN rs)
  fv:∃ ys fs,Hi fa=some (.lst ys)∧TDs K Hi ys fs∧fs.length=i∧∀ j f,fs[j]?=some f→FOk hs rs j f
  ov:∃ zs os,Hi oa=some (.lst zs)∧TDs K Hi zs (os.map dH)∧os.length≤j∧AF os j
theorem CS.same {H Hi H':Hp} {hd fa oa rc:Addr} {hs:List (Str×Nat)} {rs:List Nat} {i j:Nat} (c:CS K H Hi hd fa oa rc hs rs i j) (s:ai Hi H'):CS K H H' hd fa oa rc hs rs i j:=by
 obtain⟨xs,h1,h2⟩:=c.hv;obtain⟨ys,fs,h3,h4,h5,h6⟩:=c.fv;obtain⟨zs,os,h7,h8,h9,h10⟩:=c.ov;exact⟨c.sm.trans s,⟨xs,s _ _ h1,h2.same s⟩,c.rv.same s,⟨ys,fs,s _ _ h3,h4.same s,h5,h6⟩,⟨zs,os,s _ _ h7,h8.same s,h9,h10⟩⟩
theorem CS.head {H Hi:Hp} {hd fa oa rc:Addr} {hs:List (Str×Nat)} {rs:List Nat} {i j:Nat} (m:CS K H Hi hd fa oa rc hs rs i j):∃ xs,SqL K Hi hd xs∧xs.length=hs.length∧∀ (f:Nat) (h:Str) (c:Nat),hs[f]?=some (h,c)→∃ t,atI xs ((f:Nat):Int)=some (.ref t)∧SqT K Hi t [.str h,.int ((c:Nat):Int)]:=by
 obtain⟨xs,h1,h2⟩:=m.hv;refine⟨xs,SqL.of h1,by rw[h2.length,lMp],fun f h c hf=>?_⟩;obtain⟨x,hx,tx⟩:=h2.at (i:=f) (d:=dH (h,c)) (by rw[gEM,hf];rfl);obtain⟨a,ys,rfl,ha,hy⟩:=(show TD K Hi x (.tuple [.str h,.int ((c:Nat):Int)]) from tx).tup_of;refine⟨a,pH hx,?_⟩;cases hy with
 | cons p r =>
  cases r with
  | cons p2 r2 =>
   cases r2;rw[p.str_of,p2.int_of] at ha;exact ha
theorem dL {H Hi:Hp} {L:Addr} {o:HO} (s:ai H Hi) (h:H L=none):ai H (upd Hi L o):=fun a u e=>by
 rw[ad (af e h)];exact s a u e
theorem CS.app {H Hi:Hp} {hd fa oa rc:Addr} {hs:List (Str×Nat)} {rs:List Nat} {i j:Nat} {v:V} {f:PyData} {ys:List V} (c:CS K H Hi hd fa oa rc hs rs i j) (tv:TD K Hi v f) (hf:FOk hs rs i f) (hy:Hi fa=some (.lst ys)) (h0:H fa=none) (n1:hd≠fa) (n2:oa≠fa):CS K H (upd Hi fa (.lst (ys++[v]))) hd fa oa rc hs rs (i+1) j:=by
 obtain⟨xs,h1,h2⟩:=c.hv;obtain⟨ys',fs,h3,h4,h5,h6⟩:=c.fv;obtain⟨zs,os,h7,h8,h9,h10⟩:=c.ov;rw[hy] at h3;cases h3;have tk:Tk Hi (upd Hi fa (.lst (ys++[v]))):=bu (.inr ⟨_,hy⟩);refine⟨dL c.sm h0,⟨xs,by rw[ad n1];exact h1,h2.tk tk⟩,c.rv.tk tk,⟨_,fs++[f],pE,(h4.snoc tv).tk tk,by simp[h5],fun k g hg=>?_⟩,⟨zs,os,by rw[ad n2];exact h7,h8.tk tk,h9,h10⟩⟩
 rcases Nat.lt_or_ge k fs.length with hk | hk
 · rw[List.getElem?_append_left hk] at hg;exact h6 k g hg
 · rw[List.getElem?_append_right hk] at hg;have e0:k-fs.length=0:=by
    rcases Nat.eq_zero_or_pos (k-fs.length) with e | e
    · exact e
    · rw[List.getElem?_eq_none (show [f].length≤_ from e)] at hg;cases hg
   rw[e0] at hg;cases hg;have:k=i:=by omega
   rw[this];exact hf
theorem CS.opn {H Hi:Hp} {hd fa oa rc:Addr} {hs:List (Str×Nat)} {rs:List Nat} {i j:Nat} {v:V} {zs:List V} (c:CS K H Hi hd fa oa rc hs rs i j) (tv:TD K Hi v (dH (mnS j,j))) (hz:Hi oa=some (.lst zs)) (h0:H oa=none) (n1:hd≠oa) (n2:fa≠oa):CS K H (upd Hi oa (.lst (zs++[v]))) hd fa oa rc hs rs i (j+1):=by
 obtain⟨xs,h1,h2⟩:=c.hv;obtain⟨ys,fs,h3,h4,h5,h6⟩:=c.fv;obtain⟨zs',os,h7,h8,h9,h10⟩:=c.ov;rw[hz] at h7;cases h7;have tk:Tk Hi (upd Hi oa (.lst (zs++[v]))):=bu (.inr ⟨_,hz⟩);refine⟨dL c.sm h0,⟨xs,by rw[ad n1];exact h1,h2.tk tk⟩,c.rv.tk tk,⟨ys,fs,by rw[ad n2];exact h3,h4.tk tk,h5,h6⟩,⟨_,os++[(mnS j,j)],pE,by rw[List.map_append];exact (h8.snoc tv).tk tk,by simp;omega,fun p hp=>?_⟩⟩
 rcases mAp.mp hp with hp | hp
 · obtain⟨k,hk,e⟩:=h10 p hp;exact⟨k,by omega,e⟩
 · exact⟨j,by omega,mSg.mp hp⟩
theorem CS.weak {H Hi:Hp} {hd fa oa rc:Addr} {hs:List (Str×Nat)} {rs:List Nat} {i j:Nat} (c:CS K H Hi hd fa oa rc hs rs i j):CS K H Hi hd fa oa rc hs rs i (j+1):=by
 obtain⟨zs,os,h7,h8,h9,h10⟩:=c.ov;exact⟨c.sm,c.hv,c.rv,c.fv,⟨zs,os,h7,h8,by omega,fun p hp=>by obtain⟨k,hk,e⟩:=h10 p hp;exact⟨k,by omega,e⟩⟩⟩
inductive vD (K:Fg) (vs:List V) (H:Hp) (Q:VK):Prop
  | mk (a:Addr) (ns:List Int) (h0:vs=[.ref a]) (h1:SqL K H a (ns.map V.int)) (h2:ns.length≤63)
    (q:∀ v hs rs fs os H',ai H H'→TD K H' v (gM fs rs os)→AN hs rs fs os→Q v H'):vD K vs H Q
def yJ (K:Fg):Sp:=fun vs H Q _=>vD K vs H Q
abbrev sCo:Stmt:=top 31
abbrev nCo:List Str:=["_law_script","_law_box_here","_law_heads","_law_k","_law_records","_law_functions","_law_opens","_law_lore","_law_body"]
theorem za:am nCo ["_law_script"] (a0 sCo):=fsM
theorem BM:(["_law_k","_law_box_here"]:List Str).Nodup:=by decide +kernel
def w4:List Str:=["function","function","deep","open"]
theorem abc {j:Nat} (h:j<5):atI ("abcde":Str).cps.toList ((j:Nat):Int)=some (97+j):=by
 refine pH ?_
 match j,h with
 | 0,_=>decide +kernel
 | 1,_=>decide +kernel
 | 2,_=>decide +kernel
 | 3,_=>decide +kernel
 | 4,_=>decide +kernel
theorem sU (c:Nat):((List.range c).map fun j=>V.int (0+((j:Nat):Int)))=(rgI 0 c).map V.int:=by
 unfold rgI;rw[List.map_map];rfl
theorem Ad (D:Def K mg "_law_core" sCo) (T:Blt mg) (a7:Fn P w K mg base "_law_take" 1 ["_law_box_here","_law_many_here"] fZ) (eQ:Fn P w K mg base "_law_box" 1 ["_law_script","_law_k"] (wv K)) (aW:Fn P w K mg base "_law_e" 19 ps4 (spE K 4)):Fn P w K mg base "_law_core" 20 ["_law_script"] (yJ K):=by
 refine D.fn za (fun vs H Q E h=>?_) (fun _ _ _ _ _ _ us hl=>by obtain⟨a,rfl⟩:=iF hl;rfl) (fun f' cdv A outer s' H vs Q E hr h=>?_)
 · obtain⟨a,ns,rfl,_⟩:=h;rfl
 · obtain⟨a,ns,rfl,hA,hns,q⟩:=h;have nd:=za.nd;have hu:=eY hr;have hz0:(100000:Nat)<sizeLine:=by decide
   obtain⟨t7,h7,r7⟩:∃ t,PSs (be CX0 P w K mg base nCo "_law_core" (a0 sCo) f' cdv A outer s' H E).nox ((ak sCo).drop 7) t ∧
    ∀ (H1:Hp) (hd fa oa rc:Addr) (hs:List (Str×Nat)) (rs:List Nat) (x1 x2 x3 x7 x8:Option V),CS K H H1 hd fa oa rc hs rs hs.length hs.length→hs.length≤4→0<hs.length→oR hs→rs.length≤3→(∀ r∈rs,1≤r∧r≤3)→t {nx:=fun _ H'=>Q .non H',rt:=Q} [some (.ref a),x1,x2,x3,some (.ref rc),some (.ref fa),some (.ref oa),x7,x8] H1:=by
    refine⟨_,(pG (ae (ag (pA (cW T.tuple (pA (pv 5) pB)) (pA (pv 4) (pA (cW T.tuple (pA (pv 6) pB)) pB)))))),fun H1 hd fa oa rc hs rs x1 x2 x3 x7 x8 c hl hp hh rl rr=>?_⟩;obtain⟨ys,fs,h3,h4,h5,h6⟩:=c.fv;obtain⟨zs,os,e7,h8,h9,h10⟩:=c.ov;have ly:=h4.length;have lz:=h8.length;rw[lMp] at lz;dsimp only[bd];refine⟨_,rfl,fa,_,rfl,.inl ⟨SqL.of h3,fun p1 hp1=>?_⟩⟩;have k1:=smu (o:=HO.tup ys) hp1;refine⟨_,rfl,_,rfl,oa,_,rfl,.inl ⟨SqL.of (k1 _ _ e7),fun p2 hp2=>?_⟩⟩;have k2:=smu (o:=HO.tup zs) hp2;refine⟨fX,fun t ht=>?_⟩;have k3:=smu (o:=HO.tup [V.ref p1,V.ref rc,V.ref p2]) ht;have kk:=(k1.trans k2).trans k3;exact q _ hs rs fs os _ (c.sm.trans kk) (.tup (SqT.of pE) (.cons ((TD.tup (SqT.of pE) (h4.same k1)).same (k2.trans k3)) (.cons (c.rv.same kk) (.cons ((TD.tup (SqT.of pE) (h8.same (k1.trans k2))).same k3) .nil)))) ⟨hl,hp,hh,rl,rr,h5,h6,h9,h10⟩
   obtain⟨t6,h6,r6⟩:∃ t,PSs (be CX0 P w K mg base nCo "_law_core" (a0 sCo) f' cdv A outer s' H E).nox ((ak sCo).drop 6) t ∧
    ∀ (H1:Hp) (hd fa oa rc:Addr) (hs:List (Str×Nat)) (rs:List Nat) (x1 x3 x7 x8:Option V),CS K H H1 hd fa oa rc hs rs 0 0→H fa=none→H oa=none→hd≠fa→hd≠oa→fa≠oa→hs.length≤4→0<hs.length→oR hs→rs.length≤3→(∀ r∈rs,1≤r∧r≤3)→t {nx:=fun _ H'=>Q .non H',rt:=Q} [some (.ref a),x1,some (.ref hd),x3,some (.ref rc),some (.ref fa),some (.ref oa),x7,x8] H1:=by
    refine⟨_,(pD (bF PassesOwn.never rfl (bo rfl T.range (pA (bJ T.len (pA (pv 2) pB)) pB)) (aw (i:=3) nd rfl (Or.inl rfl))
 (@pD _ _ _ _ _ (@pL _ _ 7 _ _ _ _ nd rfl (Or.inl rfl) (@tI _ _ _ _ _ (@dR _ _ _ _ _ _ _ _ _ pC (aa a9 (aa aF (pv 2) (pv 3) (fun _ _=>rfl)) pF (fun _ _=>rfl)) (@dR _ _ _ _ _ _ _ _ _ pC (pv 2) (@dR _ _ _ _ _ _ _ _ _ pC (pv 3) (@dR _ _ _ _ _ _ _ _ _ pC (pv 4) (@dR _ _ _ _ _ _ _ _ _ pC pF tj))))) rfl rfl (by simp) (by decide)) (by rfl) (by exact Or.inl rfl))
 (pD (pL (i:=8) nd rfl (Or.inl rfl) (ab aW (hr.mono (by omega)) rfl (pA (ab eQ (hr.mono (by omega)) rfl (pA (pv 0) (pA (aC cu pF (pv 3)) pB))) (pA pF (pA (ag (pA (xW T.list T.range (pA (aa a9 (aa aF (pv 2) (pv 3) (fun _ _=>rfl)) pF (fun _ _=>rfl)) pB)) (pA (aM pB) pB))) (pA (pv 7) pB))))))
 (pD (bY (cr (pv 5) (pA (ag (pA (aa a9 (aa aF (pv 2) (pv 3) (fun _ _=>rfl)) pF (fun _ _=>rfl)) (pA (aa a9 (aa aF (pv 2) (pv 3) (fun _ _=>rfl)) pF (fun _ _=>rfl)) (pA (pv 8) pB)))) pB)))
 (pG (az (pM aH (aa a9 (aa aF (pv 2) (pv 3) (fun _ _=>rfl)) pF (fun _ _=>rfl)) pC (pN _)) (pG (bY (cr (pv 6) (pA (ag (pA (aC lL pC (aa xq pC (pv 3) (fun _ _=>rfl))) (pA (pv 3) pB))) pB)))) ah)))))) h7),fun H1 hd fa oa rc hs rs x1 x3 x7 x8 c f0 o0 n1 n2 n3 hl hp hh rl rr=>?_⟩
    obtain⟨xs,hxs,xl,hat⟩:=c.head;dsimp only[bd];refine⟨_,rfl,hd,_,rfl,.inl hxs,_,rfl,by omega,by omega,?_⟩;show aA _ _ _ _ _ _;rw[show ((xs.length:Nat):Int).toNat=xs.length from Int.toNat_natCast _];refine aA.by (ba (n:=xs.length)) (fun i σ Hi=>CS K H Hi hd fa oa rc hs rs i i∧∃ x3 x7 x8,σ=[some (.ref a),x1,some (.ref hd),x3,some (.ref rc),some (.ref fa),some (.ref oa),x7,x8]) ⟨c,_,_,_,rfl⟩ (fun _ _ _ _ _=>trivial) ?_ ?_
    · rintro i u σ Hi hui ⟨ci,x3,x7,x8,rfl⟩;have hi:i<xs.length:=by have:=(gES.mp hui).1;rwa [aV] at this
      obtain rfl:=eF hui;obtain⟨⟨h,cn⟩,hf⟩:∃ p,hs[i]?=some p:=⟨_,gEE (by omega)⟩;have hcn:=hh _ (mGE hf);have cn2:cn≤2:=hcn.1;refine fun g hg=>?_;have kg:=smu (o:=HO.dK []) hg;obtain⟨ys,hys,yl,hat⟩:=(ci.same kg).head;obtain⟨t,ht1,ht2⟩:=hat i h cn hf;refine⟨_,rfl,_,rfl,hd,_,_,_,rfl,rfl,hys,ht1,t,_,_,_,rfl,rfl,ht2,jX,_,rfl,_,rfl,_,rfl,pE,dI ((cn:Nat):Int) hd i rc 0,rfl,by show 5≤15;decide,?_⟩;have em:gq [] (dI ((cn:Nat):Int) hd i rc 0)=dI ((cn:Nat):Int) hd i rc 0:=rfl;rw[em];have sg:ai Hi (upd (upd Hi g (.dK [])) g (.dK (dI ((cn:Nat):Int) hd i rc 0))):=fun b o e=>by rw[ad (af e hg)];exact kg _ _ e
      have eg:(upd (upd Hi g (.dK [])) g (.dK (dI ((cn:Nat):Int) hd i rc 0))) g=some (.dK (dI ((cn:Nat):Int) hd i rc 0)):=pE;generalize upd (upd Hi g (.dK [])) g (.dK (dI ((cn:Nat):Int) hd i rc 0))=H2 at sg eg ⊢;have c2:=ci.same sg;refine⟨_,rfl,_,rfl,_,_,rfl,rfl,a,ns,_,rfl,(hA.same c2.sm),hns,by omega,by omega,fun b H3 k3 hb bx=>?_⟩;have c3:=c2.same k3;obtain⟨ys3,hys3,yl3,hat3⟩:=c3.head;obtain⟨t3,ht31,ht32⟩:=hat3 i h cn hf;refine⟨_,rfl,_,rfl,hd,_,_,_,rfl,rfl,hys3,ht31,t3,_,_,_,rfl,rfl,ht32,jX,cn,rfl,by omega,fun l1 hl1=>?_⟩;rw[sU];have k4:=smu (o:=HO.lst ((rgI 0 cn).map V.int)) hl1;refine⟨lm,fun l2 hl2=>?_⟩;have k5:=smu (o:=HO.lst []) hl2;refine⟨cE,fun sd hsd=>?_⟩;have k6:=smu (o:=HO.tup [V.ref l1,V.ref l2]) hsd;have kk:=(k4.trans k5).trans k6;have c6:=c3.same kk;have bg:b≠g:=Ne.symm (af eg hb);have eg6:=kk _ _ (k3 _ _ eg);obtain⟨bn,bc,hbx,bk⟩:=bx;have hb6:=kk _ _ hbx;obtain⟨xs6,h61,h62⟩:=c6.hv;obtain⟨xs2,h21,_⟩:=c2.hv;have hdb:hd≠b:=af h21 hb;have hg3:=k3 _ _ eg;have m6:MS K _ ⟨hs,i,rs⟩ b g hd rc 0 ((cn:Nat):Int) 0:=⟨⟨bn,bc,hb6,bk⟩,eg6,⟨xs6,h61,h62⟩,hdb,c6.rv⟩;have sv:iR K _ b g sd (rgI 0 cn) []:=⟨l1,l2,SqT.of (pE (o:=HO.tup [V.ref l1,V.ref l2])),k6 _ _ (k5 _ _ pE),k6 _ _ pE,Ne.symm (af hbx hl1),Ne.symm (af (k4 _ _ hbx) hl2),Ne.symm (af hg3 hl1),Ne.symm (af (k4 _ _ hg3) hl2)⟩;have sm6:ai Hi _:=(sg.trans k3).trans kk;generalize upd (upd (upd H3 l1 (.lst ((rgI 0 cn).map V.int))) l2 (.lst [])) sd (.tup [V.ref l1,V.ref l2])=H6 at c6 m6 sv sm6 ⊢;have hbi:Hi b=none:=by
       cases e:Hi b with
       | none=>rfl
       | some u=>have:=sg _ _ e;rw[hb] at this;cases this
      refine⟨_,rfl,⟨hs,i,rs⟩,b,g,hd,rc,sd,0,((cn:Nat):Int),0,rgI 0 cn,[],rfl,⟨m6,sv,⟨fun p hp=>(hh p hp).1,by show hs.length≤10;omega,by show i<hs.length;omega,rl,rr⟩,by rw[cO];show cn+0+3*4≤100;omega⟩,by decide,fun v d k7 nx7 ca7 H7 s7 m7 hk7 tv x7=>?_⟩;have sm7:ai Hi H7:=s7.same sm6 hbi hg;have c7:=ci.same sm7;obtain⟨ys7,hys7,yl7,hat7⟩:=c7.head;obtain⟨t7,ht71,ht72⟩:=hat7 i h cn hf;obtain⟨zf,fs7,hfa7,tzf,fl7,_⟩:=c7.fv;have zfl:=tzf.length;refine⟨_,rfl,.inl ⟨rfl,_,SqL.of hfa7⟩,_,rfl,_,rfl,hd,_,_,_,rfl,rfl,hys7,ht71,t7,_,_,_,rfl,rfl,ht72,l7,_,rfl,_,rfl,hd,_,_,_,rfl,rfl,hys7,ht71,t7,_,_,_,rfl,rfl,ht72,jX,_,rfl,fX,fun p8 hp8=>?_⟩;have k8:=smu (o:=HO.tup [V.str h,V.int ((cn:Nat):Int),v]) hp8;have c8:=c7.same k8;have hfa8:=k8 _ _ hfa7;have tf:TD K (upd H7 p8 (.tup [V.str h,V.int ((cn:Nat):Int),v])) (.ref p8) (fnD h cn d):=.tup (SqT.of pE) (.cons (.str _) (.cons (.int _) (.cons (tv.same k8) .nil)));generalize upd H7 p8 (.tup [V.str h,V.int ((cn:Nat):Int),v])=H8 at c8 hfa8 tf ⊢;refine⟨fa,_,_,rfl,rfl,hfa8,by omega,?_⟩;have c9:=c8.app tf ⟨h,cn,d,nx7,hf,rfl,x7⟩ hfa8 f0 n1 (Ne.symm n3);generalize upd H8 fa (.lst (zf++[V.ref p8]))=H9 at c9 ⊢;obtain⟨ys9,hys9,yl9,hat9⟩:=c9.head;obtain⟨t9,ht91,ht92⟩:=hat9 i h cn hf;refine⟨_,rfl,_,rfl,hd,_,_,_,rfl,rfl,hys9,ht91,t9,_,_,_,rfl,rfl,ht92,l7,rfl,_,rfl,?_⟩;refine bN (fun _=>?_) (fun _=>⟨c9.weak,_,_,_,rfl⟩);obtain⟨zo,os9,hoa9,tzo,ol9,_⟩:=c9.ov;have zol:=tzo.length;rw[lMp] at zol;refine⟨_,rfl,.inl ⟨rfl,_,SqL.of hoa9⟩,_,rfl,_,_,_,rfl,rfl,by decide,abc (by omega),_,_,rfl,rfl,by show 4+1≤sizeLine;decide,_,rfl,cE,fun p10 hp10=>?_⟩;have k10:=smu (o:=HO.tup [V.str (mnS i),V.int ((i:Nat):Int)]) hp10;have c10:=c9.same k10;exact⟨oa,_,_,rfl,rfl,k10 _ _ hoa9,by omega,c10.opn (.tup (SqT.of pE) (.cons (.str _) (.cons (.int _) .nil))) (k10 _ _ hoa9) o0 n2 n3,_,_,_,rfl⟩
    · rintro σ Hi ⟨ci,x3,x7,x8,rfl⟩;rw[aV,xl] at ci;exact r7 Hi hd fa oa rc hs rs _ _ _ _ _ ci hl hp hh rl rr
   obtain⟨t4,h4,r4⟩:∃ t,PSs (be CX0 P w K mg base nCo "_law_core" (a0 sCo) f' cdv A outer s' H E).nox ((ak sCo).drop 4) t ∧
    ∀ (H1:Hp) (hd rc:Addr) (xs:List V) (hs:List (Str×Nat)) (rs:List Nat) (x1 x3 x5 x6 x7 x8:Option V),ai H H1→H1 hd=some (.lst xs)→TDs K H1 xs (hs.map dH)→TD K H1 (.ref rc) (dN rs)→hs.length≤4→0<hs.length→oR hs→rs.length≤3→(∀ r∈rs,1≤r∧r≤3)→t {nx:=fun _ H'=>Q .non H',rt:=Q} [some (.ref a),x1,some (.ref hd),x3,some (.ref rc),x5,x6,x7,x8] H1:=by
    refine⟨_,(pD (pL (i:=5) nd rfl (Or.inl rfl) (aM pB)) (pD (pL (i:=6) nd rfl (Or.inl rfl) (aM pB)) h6)),fun H1 hd rc xs hs rs x1 x3 x5 x6 x7 x8 s1 hhd txs trc hl hp hh rl rr=>?_⟩;refine⟨lm,fun fa hfa=>⟨lm,fun oa hoa=>?_⟩⟩;have k1:=smu (o:=HO.lst []) hfa;have k2:=smu (o:=HO.lst []) hoa;have kk:=k1.trans k2;have fn:∀ p,H1 p=none→H p=none:=fun p e=>by
     cases e2:H p with
     | none=>rfl
     | some u=>have:=s1 _ _ e2;rw[e] at this;cases this
    have ho1:H1 oa=none:=by
     cases e2:H1 oa with
     | none=>rfl
     | some u=>have:=k1 _ _ e2;rw[hoa] at this;cases this
    refine r6 _ hd fa oa rc hs rs _ _ _ _ ⟨s1.trans kk,⟨xs,kk _ _ hhd,txs.same kk⟩,trc.same kk,⟨[],[],k2 _ _ pE,.nil,rfl,fun j f h=>by cases h⟩,⟨[],[],pE,.nil,Nat.le_refl _,fun p hp=>by cases hp⟩⟩ (fn _ hfa) (fn _ ho1) (af hhd hfa) (af hhd ho1) (af pE hoa) hl hp hh rl rr
   obtain⟨t3,h3,r3⟩:∃ t,PSs (be CX0 P w K mg base nCo "_law_core" (a0 sCo) f' cdv A outer s' H E).nox ((ak sCo).drop 3) t ∧
    ∀ (H1:Hp) (b hd:Addr) (k1:Int) (xs:List V) (hs:List (Str×Nat)) (x3 x4 x5 x6 x7 x8:Option V),C1 H H1 b k1→k1≤100→hd≠b→H1 hd=some (.lst xs)→TDs K H1 xs (hs.map dH)→hs.length≤4→0<hs.length→oR hs→t {nx:=fun _ H'=>Q .non H',rt:=Q} [some (.ref a),some (.ref b),some (.ref hd),x3,x4,x5,x6,x7,x8] H1:=by
    refine⟨_,(pD (pL (i:=4) nd rfl (Or.inl rfl) (cW T.tuple (pA (dW (own:=["_law_k"]) (outs:=[(1,"_law_box_here")]) rfl (aB.of (a0 sCo) nCo) (bo rfl T.range (pA (ab a7 (hr.mono (by omega)) rfl (pA (pv 1) (pA pF pB))) pB)) (fun _ _ _ _=>⟨(aw (i:=0) BM rfl (Or.inl rfl)),cf,(aC cu pF (ab a7 (hr.mono (by omega)) rfl (pA (pv 1) (pA pF pB))))⟩)) pB))) h4),fun H1 b hd k1 xs hs x3 x4 x5 x6 x7 x8 c hk hdb hhd txs hl hp hh=>?_⟩;dsimp only[bd];rw[ir,gi,iu,dr,dC];refine⟨_,rfl,b,k1,3,rfl,c.bx,by omega,by decide,by decide,fun r H2 r0 r1 mo bx=>⟨_,rfl,by omega,by omega,fun G hG=>?_⟩⟩;obtain⟨m,rfl⟩:=Int.eq_ofNat_of_zero_le r0;have c2:=c.took mo bx;have tx2:=txs.tk (c.tk mo);have hd2:=(mo hd hdb).trans hhd;rw[show ((m:Nat):Int).toNat=m from Int.toNat_natCast _];have k0:=smu (o:=HO.lst []) hG;obtain⟨yb,hyb⟩:=c2.bl;have Gb:G≠b:=Ne.symm (af hyb hG);have Gd:G≠hd:=Ne.symm (af hd2 hG);have GH:H G=none:=by
     cases e2:H G with
     | none=>rfl
     | some u=>have:=c2.sm _ _ e2;rw[hG] at this;cases this
    refine bt.by (ba (n:=m)) (fun i σ Hi=>C1 H Hi b (k1+1+((i:Nat):Int))∧Hi hd=some (.lst xs)∧TDs K Hi xs (hs.map dH)∧(∃ rs:List Nat,Hi G=some (.lst (rs.map fun n=>V.int ((n:Nat):Int)))∧rs.length=i∧∀ r∈rs,1≤r∧r≤3)∧∃ y,σ=[y,some (.ref b)]) ⟨by rw[Int.natCast_zero,Int.add_zero];exact c2.same k0,k0 _ _ hd2,tx2.same k0,⟨[],pE,rfl,fun r h=>by cases h⟩,_,rfl⟩ (fun _ _ _ _ _=>trivial) ?_ ?_
    · rintro i u σ Hi hu ⟨ci,hdi,txi,⟨rs,hGi,hrl,hrr⟩,y,rfl⟩;have hi:i<m:=by have:=(gES.mp hu).1;rwa [aV] at this
      rw[bh,dM];refine cB ⟨_,rfl,b,_,3,rfl,ci.bx,by omega,by decide,by decide,fun r H4 r0 r1 mo4 bx4=>⟨_,_,rfl,rfl,?_⟩⟩;obtain⟨f,rfl⟩:=Int.eq_ofNat_of_zero_le r0;have c4:=ci.took mo4 bx4;have hG4:=(mo4 G Gb).trans hGi;have tk4:=ci.tk mo4;have tkp:Tk H4 (upd H4 G (.lst ((rs.map fun n=>V.int ((n:Nat):Int))++[V.int (1+((f:Nat):Int))]))):=bu (.inr ⟨_,hG4⟩);obtain⟨bn,bc,hb4,b40⟩:=c4.bx;refine⟨_,hG4,by rw[lMp];omega,⟨dL c4.sm GH,⟨bn,bc,by rw[ad (Ne.symm Gb)];rw[Int.natCast_add,← Int.add_assoc];exact hb4,by omega⟩,c4.b0⟩,by rw[ad (Ne.symm Gd)];exact (mo4 hd hdb).trans hdi,(txi.tk tk4).tk tkp,⟨rs++[1+f],by rw[pE,List.map_append];simp,by simp[hrl],fun r hr=>?_⟩,_,rfl⟩
      rcases mAp.mp hr with hr | hr
      · exact hrr r hr
      · rw[mSg.mp hr];exact⟨by omega,by omega⟩
    · rintro σ Hi ⟨ci,hdi,txi,⟨rs,hGi,hrl,hrr⟩,y,rfl⟩;rw[aV] at hrl;refine⟨G,_,rfl,.inl ⟨SqL.of hGi,fun F hF=>?_⟩⟩;have k5:=smu (o:=HO.tup (rs.map fun n=>V.int ((n:Nat):Int))) hF;exact r4 _ hd F xs hs rs _ _ _ _ _ _ (ci.sm.trans k5) (k5 _ _ hdi) (txi.same k5) (.tup (SqT.of pE) (TDs.of_ints _)) hl hp hh (by omega) hrr
   refine⟨_,(pD (pL (i:=1) nd rfl (Or.inr rfl) (ab eQ (hr.mono (by omega)) rfl (pA (pv 0) (pA pF pB))))
 (pD (pL (i:=2) nd rfl (Or.inl rfl) (aM (pA (ag (pA pC (pA (ab a7 (hr.mono (by omega)) rfl (pA (pv 1) (pA pF pB))) pB))) pB)))
 (pD (bF PassesOwn.never rfl (bo rfl T.range (pA (ab a7 (hr.mono (by omega)) rfl (pA (pv 1) (pA pF pB))) pB)) (aw (i:=3) nd rfl (Or.inl rfl))
 (pG (bY (cr (pv 2) (pA (ag (pA (@aa _ _ _ _ _ _ _ aF (@aM _ _ _ _ (@pA _ _ _ _ _ pC (@pA _ _ _ _ _ pC (@pA _ _ _ _ _ pC (@pA _ _ _ _ _ pC pB (by rfl)) (by rfl)) (by rfl)) (by rfl))) (ab a7 (hr.mono (by omega)) rfl (pA (pv 1) (pA pF pB))) (fun _ _=>rfl)) (pA (ab a7 (hr.mono (by omega)) rfl (pA (pv 1) (pA pF pB))) pB))) pB))))) h3))),?_⟩
   dsimp only[bd];refine⟨_,rfl,a,ns,0,rfl,hA,hns,by decide,by decide,fun b H1 k1 hb bx=>?_⟩;have c1:C1 H H1 b 0:=⟨k1,bx,hb⟩;refine⟨_,rfl,b,0,3,rfl,bx,by decide,by decide,by decide,fun r H2 r0 r1 mo bx2=>?_⟩;obtain⟨f,rfl⟩:=Int.eq_ofNat_of_zero_le r0;have c2:=c1.took mo bx2;refine⟨cE,fun p3 hp3=>?_⟩;have k3:=smu (o:=HO.tup [V.str "open",V.int ((f:Nat):Int)]) hp3;refine⟨ke,fun hd hhd=>?_⟩;have k4:=smu (o:=HO.lst [V.ref p3]) hhd;have c4:=c2.same (k3.trans k4);obtain⟨yb,hyb⟩:=c2.bl;have hdb:hd≠b:=Ne.symm (af (k3 _ _ hyb) hhd);have hdH:H hd=none:=by
    cases e2:H hd with
    | none=>rfl
    | some u=>have:=k3 _ _ (c2.sm _ _ e2);rw[hhd] at this;cases this
   have t4:TDs K (upd (upd H2 p3 (.tup [V.str "open",V.int ((f:Nat):Int)])) hd (.lst [V.ref p3])) [V.ref p3] ([(("open":Str),f)].map dH):=.cons ((TD.tup (SqT.of pE) (.cons (.str _) (.cons (.int _) .nil)):TD K (upd H2 p3 (.tup [V.str "open",V.int ((f:Nat):Int)])) (.ref p3) (dH ("open",f))).same k4) .nil;have e4:(upd (upd H2 p3 (.tup [V.str "open",V.int ((f:Nat):Int)])) hd (.lst [V.ref p3])) hd=some (.lst [V.ref p3]):=pE;generalize upd (upd H2 p3 (.tup [V.str "open",V.int ((f:Nat):Int)])) hd (.lst [V.ref p3])=H4 at c4 t4 e4 ⊢;refine⟨_,rfl,b,_,4,rfl,c4.bx,by decide,by decide,by decide,fun r' H5 r0' r1' mo5 bx5=>⟨_,rfl,by omega,by omega,?_⟩⟩;obtain⟨m,rfl⟩:=Int.eq_ofNat_of_zero_le r0';have c5:=c4.took mo5 bx5;show aA _ _ _ _ _ _;rw[show ((m:Nat):Int).toNat=m from Int.toNat_natCast _];refine aA.by (ba (n:=m)) (fun i σ Hi=>(∃ ki,C1 H Hi b ki∧ki≤2+2*((i:Nat):Int))∧(∃ xs hs,Hi hd=some (.lst xs)∧TDs K Hi xs (hs.map dH)∧hs.length=1+i∧oR hs)∧∃ x3,σ=[some (.ref a),some (.ref b),some (.ref hd),x3,none,none,none,none,none]) ⟨⟨_,c5,by omega⟩,⟨_,[("open",f)],(mo5 hd hdb).trans e4,t4.tk (c4.tk mo5),rfl,fun p hp=>by rw[mSg.mp hp];exact⟨by omega,by show ("open":Str)∈hw3;decide +kernel⟩⟩,_,rfl⟩ (fun _ _ _ _ _=>trivial) ?_ ?_
   · rintro i u σ Hi hui ⟨⟨ki,ci,hki⟩,⟨xs,hs,hhi,txi,hll,hh⟩,x3,rfl⟩;have hi:i<m:=by have:=(gES.mp hui).1;rwa [aV] at this
     refine⟨_,rfl,.inl ⟨rfl,_,SqL.of hhi⟩,rR,fun p hp=>?_⟩;have kp:=smu (o:=HO.lst (w4.map V.str)) hp;have cp:=ci.same kp;have ep:(upd Hi p (.lst (w4.map V.str))) p=some (.lst (w4.map V.str)):=pE;have tp:=txi.same kp;have hhp:=kp _ _ hhi;obtain⟨yb,hyb⟩:=ci.bl;have pb:p≠b:=Ne.symm (af hyb hp);refine⟨_,rfl,b,ki,4,rfl,cp.bx,by omega,by decide,by decide,fun r6 H6 r60 r61 mo6 bx6=>?_⟩;obtain⟨j,rfl⟩:=Int.eq_ofNat_of_zero_le r60;have hj:j<w4.length:=by show j<4;omega
     have c6:=cp.took mo6 bx6;refine⟨p,_,_,V.str w4[j],rfl,rfl,SqL.of ((mo6 p pb).trans ep),pH (by simp[hj]),?_⟩;refine⟨_,rfl,b,ki+1,3,rfl,c6.bx,by omega,by decide,by decide,fun r7 H7 r70 r71 mo7 bx7=>?_⟩;obtain⟨f7,rfl⟩:=Int.eq_ofNat_of_zero_le r70;have c7:=c6.took mo7 bx7;have t7:=(tp.tk (cp.tk mo6)).tk (c6.tk mo7);have hh7:=(mo7 hd hdb).trans ((mo6 hd hdb).trans hhp);refine⟨cE,fun p8 hp8=>?_⟩;have k8:=smu (o:=HO.tup [V.str w4[j],V.int ((f7:Nat):Int)]) hp8;have c8:=c7.same k8;have tv8:TD K (upd H7 p8 (.tup [V.str w4[j],V.int ((f7:Nat):Int)])) (.ref p8) (dH (w4[j],f7)):=.tup (SqT.of pE) (.cons (.str _) (.cons (.int _) .nil));have hh8:=k8 _ _ hh7;have t8:=t7.same k8;generalize upd H7 p8 (.tup [V.str w4[j],V.int ((f7:Nat):Int)])=H8 at c8 tv8 hh8 t8 ⊢;have xl:=t8.length;rw[lMp] at xl;refine⟨hd,_,_,rfl,rfl,hh8,by omega,?_⟩;have tk9:Tk H8 (upd H8 hd (.lst (xs++[V.ref p8]))):=bu (.inr ⟨_,hh8⟩);obtain⟨bn,bc,hb8,b80⟩:=c8.bx;have hw:∀ s∈w4,s∈hw3:=by decide +kernel
     refine⟨⟨_,⟨dL c8.sm hdH,⟨bn,bc,by rw[ad (Ne.symm hdb)];exact hb8,b80⟩,c8.b0⟩,by omega⟩,⟨_,hs++[(w4[j],f7)],pE,by rw[List.map_append];exact (t8.snoc tv8).tk tk9,by simp;omega,fun p hp=>?_⟩,_,rfl⟩
     rcases mAp.mp hp with hp | hp
     · exact hh p hp
     · rw[mSg.mp hp];exact⟨by show f7≤2;omega,hw _ (List.getElem_mem hj)⟩
   · rintro σ Hi ⟨⟨ki,ci,hki⟩,⟨xs,hs,hhi,txi,hll,hh⟩,x3,rfl⟩;rw[aV] at hki hll;exact r3 Hi b hd ki xs hs _ _ _ _ _ _ ci (by omega) hdb hhi txi (by omega) (by omega) hh
end
end K23
namespace L2
open PySem PySem.Spec PyProof.Rows
open AutoSeq1 (wpAny_loadPart')
section
variable {prog:Program} {w:World} {A:Around} {E:VSP} {s:Shared}
theorem xC (l:Addr) (ao:Array Value) (n:Nat) (dct:Option Addr) (sl:Array (Option Value)) :
 Meets (Builtin.«enumerate.__new__» ⟨[.type "enumerate",.ref l],[]⟩) (fun _ R s=>s.heap.get? l=some ⟨.type "tuple",dct,.seq ao n,sl⟩ ∧
   R (.ok (.ret (.ref (s.heap.push ⟨.type "tuple_iterator",none,.fields #[.ref l,.int 0 0],#[]⟩).objs.size))) {s with heap:=(s.heap.push ⟨.type "tuple_iterator",none,.fields #[.ref l,.int 0 0],#[]⟩).push ⟨.type "enumerate",none,.fields #[.none,.bool false,.ref s.heap.objs.size,rawInt 0,.none,.none],#[]⟩}) :=
 .of_wp fun P W B R s z=>by
  rcases s with ⟨c1,c2,c3,c4,c5⟩;rcases z with ⟨hl,z⟩
  have hs:=sub_enumerate;have hT:Heap.IsTuple (Shared.heap ⟨c1,c2,c3,c4,c5⟩) l ao:=⟨_,hl,rfl,n,rfl⟩
  wp_walk using wpAny_loadPart' hl
  refine wpAny_stack_any fun st=>wP ?_;split
  · rename_i c _ _ _ _ _
    cases (c==Value.type "enumerate")
    · wp_walk using wpAny_loadPart' hl,wpAny_pyIter_tuple hT;exact⟨_,rfl,z⟩
    · wp_walk using wpAny_loadPart' hl,wpAny_pyIter_tuple hT;exact⟨_,rfl,z⟩
  · wp_walk using wpAny_loadPart' hl,wpAny_pyIter_tuple hT;exact⟨_,rfl,z⟩
theorem rB {l:Addr} {ao:Array Value} {Q:VSP} (hT:s.heap.IsTuple l ao)
 (q:∀ h',IsEnum h' (s.heap.objs.size+1) s.heap.objs.size 0 .none→h'.IsTupleIter s.heap.objs.size l 0→(∀ b o,s.heap.get? b=some o→h'.get? b=some o)→Q (.ref (s.heap.objs.size+1)) {s with heap:=h'}) :
 wpAny (model prog w) A (call (.type "enumerate") [.ref l]) Q E s:=by
 obtain⟨⟨c,dct,dt,sl⟩,hl,hc,n,hd⟩:=hT;cases (show c=.type "tuple" from hc);cases (show dt=.seq ao n from hd);refine callType_new F.called_enumerate (by decide) (F.typeCall_enumerate_1 _) (F.newCall_enumerate_1 _) (fun obj=>F.args_object_init_2 obj _) F.entry_enumerate_new (xC l ao n dct sl) ⟨hl,?_⟩;have hz:(s.heap.push ⟨.type "tuple_iterator",none,.fields #[.ref l,.int 0 0],#[]⟩).objs.size=s.heap.objs.size+1:=Heap.size_push ..;have g:=Heap.get?_push_size (s.heap.push ⟨.type "tuple_iterator",none,.fields #[.ref l,.int 0 0],#[]⟩) (o:=⟨.type "enumerate",none,.fields #[.none,.bool false,.ref s.heap.objs.size,rawInt 0,.none,.none],#[]⟩) rfl;show _∧_;rw[hz] at g ⊢;exact⟨⟨_,g,rfl⟩,q _ g ⟨_,hpS _ (Heap.get?_push_size _ rfl),rfl,rfl⟩ fun b o x=>hpS _ (hpS _ x)⟩
variable {e it src:Addr} {xs:Array Value} {J:Nat→Heap→Prop} {k:Nat} {x old:Value}
theorem uh {Q:Option Value→Shared→Prop} (W:Drw prog w it src xs J) (he:IsEnum s.heap e it k old) (st:J k s.heap) (hx:xs[k]?=some x) (ne:e≠it) (ns:e≠src)
 (q:∀ h',IsEnumOut h' e it ((k:Int)+1) x s.heap.objs.size→J (k+1) h'→h'.get? s.heap.objs.size=some ⟨.type "tuple",none,.seq #[.int k s.toks,x] 0,#[]⟩→(∀ b o,b≠e→b≠it→s.heap.get? b=some o→h'.get? b=some o)→Q (some (.ref s.heap.objs.size)) {s with heap:=h',toks:=s.toks+1}) :
 wpAny (model prog w) A (pyNext (.ref e)) Q E s:=by
 have hT:s.TypeIs (.ref e) "enumerate":=⟨_,he,rfl⟩;unfold pyNext;refine wB (wpAny_attempt (wpAny_callSpecial?_slot (name:=Str.ofString "__next__") hT F.slot_enumerate_next (wpAny_call_entry F.slot_enumerate_next hT F.entry_enumerate_next ?_ (F.args_enumerate_next_1 _))));obtain⟨c1,c2,c3,c4,c5⟩:=s;show wpAny _ _ (field (.ref e) 2>>=_) _ _ _;refine wB (wpAny_field he rfl (x:=.ref it) rfl ?_);refine wB (W.item _ _ _ k x _ st hx fun p1 st1 sb1=>?_);replace sb1:Heap.SameBut it c1 p1:=sb1;have e1:IsEnum p1 e it k old:=(sb1.2 e ne).trans he;show wpAny _ _ (field (.ref e) 3>>=_) _ _ ⟨p1,c2,c3,c4,c5⟩;refine wB (wpAny_field e1 rfl (x:=rawInt k) rfl ?_);show wpAny _ _ (field (.ref e) 4>>=_) _ _ ⟨p1,c2,c3,c4,c5⟩;refine wB (wpAny_field e1 rfl (x:=.none) rfl ?_);show wpAny _ _ (mkInt k>>=_) _ _ ⟨p1,c2,c3,c4,c5⟩;refine wB (wpAny_mkInt ?_);show wpAny _ _ (setField (.ref e) 3 (rawInt ((k:Int)+1))>>=_) _ _ ⟨p1,c2,c3,c4+1,c5⟩;refine wB (wpAny_setField_rec e1 (by simp) fun p2 e2 sb2=>?_);replace sb2:Heap.SameBut e p1 p2:=sb2;replace e2:IsEnum p2 e it ((k:Int)+1) old:=e2;show wpAny _ _ (setField (.ref e) 4 .none>>=_) _ _ ⟨p2,c2,c3,c4+1,c5⟩;refine wB (wpAny_setField_rec e2 (by simp) fun p3 e3 sb3=>?_);replace sb3:Heap.SameBut e p2 p3:=sb3;replace e3:IsEnum p3 e it ((k:Int)+1) old:=e3;show wpAny _ _ (newTuple [.int k c4,x]>>=_) _ _ ⟨p3,c2,c3,c4+1,c5⟩;refine wB (wpAny_newTuple ?_);have zz:p3.objs.size=c1.objs.size:=by rw[sb3.1,sb2.1,sb1.1]
 have e4:IsEnum (p3.push {cls:=.type "tuple",data:=.seq #[.int k c4,x]}) e it ((k:Int)+1) old:=hpS _ e3;have t4:(p3.push {cls:=.type "tuple",data:=.seq #[.int k c4,x]}).get? c1.objs.size=some ⟨.type "tuple",none,.seq #[.int k c4,x] 0,#[]⟩:=by rw[← zz];exact Heap.get?_push_size _ rfl
 have k4:∀ b o,b≠e→p1.get? b=some o→(p3.push {cls:=.type "tuple",data:=.seq #[.int k c4,x]}).get? b=some o:=fun b o hb g=>hpS _ (sb3.extBut b o hb (sb2.extBut b o hb g));show wpAny _ _ (Builtin.SmallTypes.ownedTupleIsFree (.ref e)>>=_) _ _ ⟨p3.push {cls:=.type "tuple",data:=.seq #[.int k c4,x]},c2,c3,c4+1,c5⟩;rw[zz];generalize p3.push {cls:=.type "tuple",data:=.seq #[.int k c4,x]}=p4 at e4 t4 k4 ⊢;clear e3 sb3 e2 sb2 e1 zz p3 p2;have el:e<c1.objs.size:=Heap.lt_size he;refine wB ?_;unfold Builtin.SmallTypes.ownedTupleIsFree;refine wB (wpAny_field e4 rfl (x:=.none) rfl (wP ?_));simp only[if_true];refine wB (wpAny_rule ?_);refine wB (wpAny_field e4 rfl (x:=old) rfl ?_);refine wB (wpAny_setField_rec e4 (by simp) fun p5 e5 sb5=>?_);replace sb5:Heap.SameBut e p4 p5:=sb5;replace e5:IsEnum p5 e it ((k:Int)+1) x:=e5;show wpAny _ _ (Builtin.SmallTypes.ownedTupleHandOut (.ref e) (.ref c1.objs.size)>>=_) _ _ ⟨p5,c2,c3,c4+1,c5⟩;refine wB ?_;unfold Builtin.SmallTypes.ownedTupleHandOut;refine wB (wpAny_setField_rec e5 (by simp) fun p6 e6 sb6=>?_);replace sb6:Heap.SameBut e p5 p6:=sb6;replace e6:IsEnumOut p6 e it ((k:Int)+1) x c1.objs.size:=e6;refine wpAny_setField_rec e6 (by simp) fun p7 e7 sb7=>?_;replace sb7:Heap.SameBut e p6 p7:=sb7;replace e7:IsEnumOut p7 e it ((k:Int)+1) x c1.objs.size:=e7;have k7:∀ b o,b≠e→p4.get? b=some o→p7.get? b=some o:=fun b o hb g=>sb7.extBut b o hb (sb6.extBut b o hb (sb5.extBut b o hb g));refine wB (wpAny_letGo (wP ⟨_,rfl,wP (q p7 e7 ?_ (k7 _ _ (Nat.ne_of_gt el) t4) fun b o hb hi g=>k7 b o hb (k4 b o hb (sb1.extBut b o hi g)))⟩));exact W.ext _ _ _ st1 (fun o g=>k7 it o (Ne.symm ne) (k4 it o (Ne.symm ne) g)) fun o g=>k7 src o (Ne.symm ns) (k4 src o (Ne.symm ns) g)
theorem uf {Q:Option Value→Shared→Prop} (W:Drw prog w it src xs J) (hh:A.handled=none) (he:IsEnum s.heap e it k old) (st:J k s.heap) (hx:xs[k]?=none) (q:∀ h',Heap.ExtBut it s.heap h'→Q none {s with heap:=h'}):wpAny (model prog w) A (pyNext (.ref e)) Q E s:=by
 have hT:s.TypeIs (.ref e) "enumerate":=⟨_,he,rfl⟩;unfold pyNext;refine wB (wpAny_attempt (wpAny_callSpecial?_slot (name:=Str.ofString "__next__") hT F.slot_enumerate_next (wpAny_call_entry F.slot_enumerate_next hT F.entry_enumerate_next ?_ (F.args_enumerate_next_1 _))));show wpAny _ _ (field (.ref e) 2>>=_) _ _ _;refine wB (wpAny_field he rfl (x:=.ref it) rfl ?_);refine wB (W.stop _ _ _ k _ hh st hx fun h' y x1 ⟨o,ho,hc⟩=>?_);exact wB (wpAny_isInstance (T:="StopIteration") (b:=true) ⟨o,ho,hc⟩ isSubtype_stop (wP (q _ x1)))
end
def uw (K:Fg) (a:Addr):It :=
  ⟨fun i H=>∃ xs x,SqT K H a xs∧xs[i]?=some x,fun i H v H'=>∃ t x,v=.ref t∧H t=none∧H'=upd H t (.tup [.int i,x])∧∀ xs,SqT K H a xs→xs[i]?=some x,fun i H=>∃ xs,SqT K H a xs∧xs.length≤i⟩
theorem lA {P:Program} {w:World} {K:Fg} {elts:List Expr} {k} {pos:Pos} (a e it:Addr) (hne:e≠it) :
 mr P w K (.Tuple elts k pos) (uw K a) [e,it] e (fun i h=>(∃ old,IsEnum h e it i old)∧h.IsTupleIter it a i) where
 mem:=mCS
 obj:=fun i h st b hb=>by
  obtain⟨⟨old,he⟩,o,ho,c,d⟩:=st
  rcases List.mem_cons.mp hb with rfl | q
  · exact⟨_,he,fun v z=>by cases z⟩
  · cases mSg.mp q;exact⟨o,ho,fun v z=>by rw[d] at z;cases z⟩
 keep:=fun i h h' st k=>⟨let ⟨old,he⟩:=st.1;⟨old,k e (by simp) _ he⟩,st.2.at fun o ho=>k it (by simp) o ho⟩
 item:=by
  intro X hP hw hK hc i pins s σ H E I hf st hg;subst hP hw hK;obtain⟨xs,x,hq,hx⟩:=hg;obtain⟨its,rv,p,hz⟩:=I.tuple hq;obtain⟨u,hu,ru⟩:=rv.get hx;obtain⟨⟨old,he⟩,hit⟩:=st;obtain⟨e0,e1,e2,e3,e4,e5⟩:=hf e (by simp);obtain⟨f0,f1,f2,f3,f4,f5⟩:=hf it (by simp);have pT:s.heap.IsTuple a its.toArray:=p;obtain⟨oT,hoT,cT,nT,dT⟩:=id pT;have ns:a≠e:=fun z=>by rw[z,show s.heap.get? e=_ from he] at hoT;cases hoT;exact absurd (Value.type.inj cT) (by decide)
  have ni0:a≠it:=fun z=>by obtain⟨oi,hoi,ci,_⟩:=id hit;rw[z,hoi] at hoT;cases hoT;rw[ci] at cT;exact absurd (Value.type.inj cT) (by decide)
  refine uh (eO it a ni0 its.toArray) he ⟨hit,pT⟩ (x:=u) (by simpa using hu) hne (Ne.symm ns) fun h' ho jt hT hk=>?_;refine⟨_,rfl,wpAny_letOwnedTupleGo_enum (s:={s with heap:=h',toks:=s.toks+1}) ho fun h2 he2 hs2=>?_⟩;have hk2:∀ b o,b≠e→b≠it→s.heap.get? b=some o→h2.get? b=some o:=fun b o q1 q2 z=>(hs2.2 b q1).trans (hk b o q1 q2 z);have helt:e<s.heap.objs.size:=Heap.lt_size he;have hT2:=(hs2.2 _ (Nat.ne_of_gt helt)).trans hT;have hfr:H s.heap.objs.size=none:=I.hok.fresh (Nat.le_refl _);have nd:∀ {b:Addr} {o:HO},H b=some o→b≠s.heap.objs.size:=fun {b o} q z=>by rw[z,hfr] at q;cases q
  have ne:∀ {b:Addr} {o:HO},H b=some o→b≠e:=fun {b o} q z=>by rw[z,e0] at q;cases q
  have ni:∀ {b:Addr} {o:HO},H b=some o→b≠it:=fun {b o} q z=>by rw[z,f0] at q;cases q
  have nch:∀ {b:Addr},b∉[e,it]→b≠e∧b≠it:=fun {b} z=>⟨fun q=>z (by simp[q]),fun q=>z (by simp[q])⟩;have I2:Inv X pins σ (upd H s.heap.objs.size (.tup [.int i,x])) {s with heap:=h2,toks:=s.toks+1}:=by
   refine I.step (g':=s.gens) (d':=s.drawn) (ch:=[e,it]) (fun b hb=>?_) (fun b o _ _ hc z _=>hk2 b o (nch hc).1 (nch hc).2 z) (fun b o _ _ hc z _=>⟨o.slots,hk2 b o (nch hc).1 (nch hc).2 z⟩) (fun b o _ z n=>by rw[ad (Nat.ne_of_lt (Heap.lt_size z))];exact n)
    (fun b o hc z=>⟨o,hk2 b o (nch hc).1 (nch hc).2 z⟩) (fun b xs z=>by rw[ad (nd z)];exact z) (fun b o u z=>by rw[ad (nd z)];exact z) (fun b ps z=>⟨#[],by rw[ad (nd z),z];simp⟩) (fun m hm=>?_) (fun b o z=>?_) I.bare
   · rcases List.mem_cons.mp hb with rfl | q
     · exact⟨e3,e1,e4,e5⟩
     · cases mSg.mp q;exact⟨f3,f1,f4,f5⟩
   · obtain⟨o,es,ep,ho',r⟩:=hm;exact⟨o,es,ep,hk2 _ o (Ne.symm e1) (Ne.symm f1) ho',r⟩
   · by_cases hb:b=s.heap.objs.size
     · rw[hb,pE] at z;cases z;rw[hb];exact⟨cE,[.int i s.toks,u],.cons ⟨_,rfl⟩ (.cons ru .nil),⟨_,hT2,rfl,_,rfl⟩⟩
     · rw[ad hb] at z;refine (I.hok b o z).stay (fun c v hc zc=>?_) (fun c zc=>by rw[ad (nd zc)];exact zc) fun c xs zc=>by rw[ad (nd zc)];exact zc
       rcases hc with rfl | hc
       · exact hk2 _ _ (ne z) (ni z) zc
       · exact hk2 _ _ (ne hc) (ni hc) zc
  refine⟨.ref s.heap.objs.size,_,I2,rfl,⟨_,x,rfl,hfr,rfl,fun ys hy=>by rw[I.tuple_inj hy hq];exact hx⟩,⟨⟨u,by simpa using he2⟩,jt.1.at fun o ho'=>(hs2.2 it (Ne.symm hne)).trans ho'⟩,fun b hb=>?_⟩;have hbs:b<s.heap.objs.size:=by
   rcases List.mem_cons.mp hb with rfl | q
   · exact helt
   · cases mSg.mp q;obtain⟨o,ho',_⟩:=hit;exact Heap.lt_size ho'
  rw[ad (Nat.ne_of_lt hbs)];exact (hf b hb).1
 done:=by
  intro X hP hw hK hc i pins s σ H E I hf st hg;subst hP hw hK;obtain⟨xs,hq,hx⟩:=hg;obtain⟨its,rv,p,hz⟩:=I.tuple hq;obtain⟨⟨old,he⟩,hit⟩:=st;obtain⟨f0,f1,f2,f3,f4,f5⟩:=hf it (by simp);have hl:=rv.length;have pT:s.heap.IsTuple a its.toArray:=p;obtain⟨oT,hoT,cT,nT,dT⟩:=id pT;have ni0:a≠it:=fun z=>by obtain⟨oi,hoi,ci,_⟩:=id hit;rw[z,hoi] at hoT;cases hoT;rw[ci] at cT;exact absurd (Value.type.inj cT) (by decide)
  exact uf (eO it a ni0 its.toArray) (I.ok.hd hc) he ⟨hit,pT⟩ (by simp;omega) fun h' eb=>⟨rfl,I.turned (t':=s.toks) (fun b o hb z=>eb b o hb z) f0 f1 f3 f4 f5⟩
 self:=fun _ _ _ _ _ st h=>let ⟨_,he⟩:=st.1;wpAny_pyIter_enum he h
def xv (K:Fg) (ta:TA):TI:=fun σ H R=>ta σ H fun vs H1=>∃ a xs,vs=[.ref a]∧SqT K H1 a xs∧R (uw K a) H1
theorem gT:bootBuiltins "enumerate"=some (.type "enumerate"):=by decide +kernel
theorem qB {X:Cx} {elts:List Expr} {k} {tpos:Pos} {a:Expr} {ta:TA} {p pos:Pos} (hg:Gl X "enumerate") (hm:X.mg "enumerate"=none) (ha:PA X [a] ta) (hs:starEach [a] X.env=[(false,eval a X.env)]:=by rfl):PI X (.Tuple elts k tpos) (.Call (.Name "enumerate" p) [a] [] pos) (xv X.K ta):=by
 intro pins s σ H R I h;refine Call_ (cJ I hg hm gT (PyProof.Rows.callWith_type1 (thn (ha pos pins s σ H _ I h) fun us s1 zz=>?_) hs rfl));obtain⟨vs,H1,I1,r1,l,xs,rfl,hq,q⟩:=zz;cases r1 with
 | cons r rr =>
  cases rr;cases r;obtain⟨its,rv,p,hz⟩:=I1.tuple hq;refine rB (show s1.heap.IsTuple l its.toArray from p) fun h' he hit hk=>wpAny_pyIter_enum he ?_;have I2:Inv X pins σ H1 {s1 with heap:=h'}:=I1.kept (t':=s1.toks) hk;refine⟨s1.heap.objs.size+1,[s1.heap.objs.size+1,s1.heap.objs.size],_,uw X.K l,H1,rfl,I2,lA l _ _ (Nat.succ_ne_self _),⟨⟨_,by simpa using he⟩,hit⟩,fun b hb=>?_,q⟩;have hb':s1.heap.objs.size≤b:=by
   rcases List.mem_cons.mp hb with rfl | z
   · exact Nat.le_succ _
   · cases mSg.mp z;exact Nat.le_refl _
  exact I1.fpOk hb' (I1.hok.fresh hb')
end L2
namespace L2
open PySem PySem.Spec PyProof.Rows
section
variable {X:Cx} {p pos:Pos} {e:Expr} {es:List Expr} {t:TA}
inductive my (xs:List V) (H:Hp) (Q:VK):Prop
  | mk (a:Addr) (kvs:List (Key×V)) (h1:xs=[.ref a]) (h2:H a=some (.dK kvs)) (q:∀ l,H l=none→Q (.ref l) (upd H l (.lst (kvs.map fun p=>kV p.1)))):my xs H Q
theorem nP {prog:Program} {w:World} {kvs:List (Key×V)} {vs:List (Key×Value)} (r:KV kvs vs) (us:List Value) (hl:us.length=vs.length) (h:∀ (j:Nat) (v:Value),us[j]?=some v→∃ k x,vs[j]?=some (k,x)∧(ar prog w).is k v=true):aD (kvs.map fun p=>kV p.1) us:=by
 unfold KV at r
 induction r generalizing us with
 | nil =>
  cases us with
  | nil=>exact .nil
  | cons u r=>cases hl
 | @cons p q ps qs a b ih =>
  cases us with
  | nil=>cases hl
  | cons u r =>
   refine .cons ?_ (ih r (by simpa using hl) fun j v hv=>h (j+1) v hv);obtain⟨k,x,hk,hi⟩:=h 0 u rfl;cases hk;have a1:p.1=k:=a.1;show aG (kV p.1) u;rw[a1]
   rcases aZ hi with ⟨i,t,rfl,rfl⟩ | ⟨y,t,rfl,rfl⟩
   · exact⟨t,rfl⟩
   · exact⟨t,rfl⟩
theorem me (hc:X.calm=true):fU X (.type "list") my:=by
 intro pins s σ H xs us Q I rv h;obtain⟨a,kvs,rfl,e,q⟩:=h;obtain⟨u,rfl,ru⟩:=rv.one;cases ru;obtain⟨z,hd,vs,rel,o,es,ep,d1,d2,d3,d4,d5,d6⟩:=kP I.hok e;have hl:kvs.length=vs.length:=rel.length;refine PySem.W.kdl_call (PySem.W.kdl_dict (knd:=ar X.prog X.w) (ep:=ep) hd) (I.ok.hd hc) ⟨o,es,d1,d2,d3,d4,d5,d6⟩ (by rw[← hl];exact z) fun h' tk acc c' k1 k0 k2=>?_;refine⟨.ref _,_,I.laid (t':=tk) (o:=.lst (kvs.map fun p=>kV p.1)) k1 (Nat.le_refl _) ⟨by rw[lMp];exact z,acc.toList,c',nP rel acc.toList (by rw[Array.length_toList];exact k2.1) (fun j v hv=>k2.2 j v (by rw[← Array.getElem?_toList];exact hv)),by rw[Array.toArray_toList];exact k0⟩,rfl,q _ (I.hok.fresh (Nat.le_refl _))⟩
theorem uA (hm:X.mg "list"=none) (ha:PA X (e::es) t) (hc:X.calm=true:=by rfl) (hg:Gl X "list":=by rfl)
 (he:starEach (e::es) X.env=(false,eval e X.env)::starEach es X.env:=by rfl) (hpl:(backTo pos (starEach es X.env)).any (·.1)=false:=by rfl) :
 PE X (.Call (.Name "list" p) (e::es) [] pos) (tCB my t):=eK (me hc) hg hm fA ha (he:=he) (hpl:=hpl)
end
end L2
namespace L2
open PySem
theorem aA.enumT {K:Fg} {a:Addr} {xs:List V} {g:TG} {tb:TS} {D:gD} {σ:St} {H:Hp} (Pv:Nat→St→Hp→Prop) (h0:Pv 0 σ H) (hl:∀ i σ H,i≤xs.length→Pv i σ H→SqT K H a xs)
 (hs:∀ i x σ H t,xs[i]?=some x→Pv i σ H→H t=none→g (.ref t) σ (upd H t (.tup [.int ((i:Nat):Int),x])) fun σ2 H2=>tb {D with nx:=Pv (i+1),ct:=Pv (i+1),bk:=D.nx} σ2 H2) (hd:∀ σ H,Pv xs.length σ H→D.nx σ H):aA (uw K a) g tb D σ H:=by
 refine⟨fun i m σ H=>i≤xs.length∧m=xs.length-i∧Pv i σ H,⟨_,Nat.zero_le _,rfl,h0⟩,fun i m σ H z=>?_⟩;obtain⟨hi,hm,hp⟩:=z;have l1:=hl i σ H hi hp;by_cases hlt:i<xs.length
 · refine .inr ⟨⟨xs,xs[i],l1,by simp[hlt]⟩,fun σ' H'=>Pv (i+1) σ' H',fun σ' H' q=>⟨xs.length-(i+1),by rw[hm];exact Nat.sub_succ_lt_self _ _ hlt,hlt,rfl,q⟩,?_⟩;rintro v H' ⟨t,x,rfl,ht,rfl,hx⟩;exact hs i x σ H t (hx xs l1) hp ht
 · have:i=xs.length:=by omega
   subst this;exact .inl ⟨⟨xs,l1,Nat.le_refl _⟩,hd σ H hp⟩
end L2
namespace K23
open PySem L2 P10
def Calls (gs:PDs) (f j:Int):Prop:=∃ (n:Nat) (h:Str) (c:Nat) (d:PyData),j=((n:Nat):Int)∧gs[n]?=some (fnD h c d)∧∃ x∈bq 9 d,∃ r,x=.tuple (.str "call"::.int f::r)
def Loc (gs:PDs) (j:Int):Prop:=∃ (n:Nat) (h:Str) (c:Nat) (d:PyData),j=((n:Nat):Int)∧gs[n]?=some (fnD h c d)∧(h="deep"∨(bq 9 d).any (aJ [])=true)
inductive Rl (gs:PDs):Int→Prop
  | loc {j:Int} (h:Loc gs j):Rl gs j
  | cal {j f:Int} (h:Calls gs f j) (r:Rl gs f):Rl gs j
structure CaD (Av:Addr→Prop) (H:Hp) (ca:Addr) (R:Int→Int→Prop) (n:Nat):Prop where
  ex:∃ kvs,H ca=some (.dK kvs)∧kvs.length≤n∧(∀ f v,bj kvs (.inl f)=some v→∃ (l:Addr) (ls:List Int),v=.ref l∧H l=some (.lst (ls.map V.int))∧ls.length≤n∧¬ Av l∧∀ j,j∈ls↔R f j)∧(∀ f,bj kvs (.inl f)=none→∀ j,¬ R f j)∧∀ f f' l,bj kvs (.inl f)=some (.ref l)→bj kvs (.inl f')=some (.ref l)→f=f'
section
variable {Av:Addr→Prop} {H H':Hp} {ca x:Addr} {R:Int→Int→Prop} {n:Nat}
theorem CaD.same (c:CaD Av H ca R n) (s:ai H H'):CaD Av H' ca R n:=by
 obtain⟨kvs,h1,h2,h3,h4,h5⟩:=c.ex;refine⟨kvs,s _ _ h1,h2,fun f v hv=>?_,h4,h5⟩;obtain⟨l,ls,e,a,b,e1,e2⟩:=h3 f v hv;exact⟨l,ls,e,s _ _ a,b,e1,e2⟩
theorem CaD.put {o:HO} (c:CaD Av H ca R n) (hx:Av x) (hc:x≠ca):CaD Av (upd H x o) ca R n:=by
 obtain⟨kvs,h1,h2,h3,h4,h5⟩:=c.ex;refine⟨kvs,by rw[ad (Ne.symm hc)];exact h1,h2,fun f v hv=>?_,h4,h5⟩;obtain⟨l,ls,e,a,b,e1,e2⟩:=h3 f v hv;have:l≠x:=fun z=>e1 (by rw[z];exact hx);exact⟨l,ls,e,by rw[ad this];exact a,b,e1,e2⟩
theorem CaD.wide {m:Nat} (c:CaD Av H ca R n) (h:n≤m):CaD Av H ca R m:=by
 obtain⟨kvs,h1,h2,h3,h4,h5⟩:=c.ex;refine⟨kvs,h1,by omega,fun f v hv=>?_,h4,h5⟩;obtain⟨l,ls,e,a,b,e1,e2⟩:=h3 f v hv;exact⟨l,ls,e,a,by omega,e1,e2⟩
theorem CaD.iff {R':Int→Int→Prop} (c:CaD Av H ca R n) (h:∀ f j,R f j↔R' f j):CaD Av H ca R' n:=by
 obtain⟨kvs,h1,h2,h3,h4,h5⟩:=c.ex;refine⟨kvs,h1,h2,fun f v hv=>?_,fun f e j z=>h4 f e j ((h f j).mpr z),h5⟩;obtain⟨l,ls,e,a,b,e1,e2⟩:=h3 f v hv;exact⟨l,ls,e,a,b,e1,fun j=>(e2 j).trans (h f j)⟩
theorem CaD.add {f j:Int} {p:Addr} (c:CaD Av H ca R n) (hn:n<sizeLine) (hp:H p=none) (hpa:¬ Av p) {Q:VK} {kvs0:List (Key×V)} (h0:H ca=some (.dK kvs0))
 (q:∀ (l:Addr) (ls:List Int) (H2:Hp),H2 l=some (.lst (ls.map V.int))→ls.length≤n→(l≠ca∧¬ Av l∧(∀ a u,H a=some u→a≠ca→H2 a=some u)∧(∃ kvs,H2 ca=some (.dK kvs))∧(H l=none∨∃ ys,H l=some (.lst ys))∧CaD Av (upd H2 l (.lst (ls.map V.int++[V.int j]))) ca (fun f' j'=>R f' j'∨(f'=f∧j'=j)) (n+1))→Q (.ref l) H2) :
 rJ ca (.int f) (.ref p) (upd H p (.lst [])) Q:=by
 obtain⟨kvs,h1,h2,h3,h4,h5⟩:=c.ex;have pc:ca≠p:=af h1 hp;have k0:=smu (o:=HO.lst []) hp;refine⟨kvs,.inl f,k0 _ _ h1,rfl,by omega,fun v hv=>?_,fun hv=>?_⟩
 · obtain⟨l,ls,rfl,a,b,e1,e2⟩:=h3 f v hv;have lc:l≠ca:=fun z=>by rw[z,h1] at a;cases a
   refine q l ls _ (k0 _ _ a) b ⟨lc,e1,fun a u e _=>k0 _ _ e,⟨kvs,k0 _ _ h1⟩,.inr ⟨_,a⟩,?_⟩;refine⟨kvs,by rw[ad (Ne.symm lc)];exact k0 _ _ h1,by omega,fun f' v' hv'=>?_,fun f' e j' z=>?_,h5⟩
   · by_cases ef:f'=f
     · subst ef;rw[hv] at hv';cases hv';refine⟨l,ls++[j],rfl,by rw[pE,List.map_append];rfl,by simp;omega,e1,fun m=>?_⟩;rw[mAp,mSg,e2];exact or_congr Iff.rfl ⟨fun z=>⟨rfl,z⟩,fun z=>z.2⟩
     · obtain⟨l',ls',rfl,a',b',e1',e2'⟩:=h3 f' v' hv';have:l'≠l:=fun z=>ef (h5 f' f l (by rw[← z];exact hv') hv);refine⟨l',ls',rfl,by rw[ad this];exact k0 _ _ a',by omega,e1',fun m=>?_⟩;rw[e2'];exact⟨.inl,fun z=>z.resolve_right fun y=>ef y.1⟩
   · rcases z with z | ⟨z,_⟩
     · exact h4 f' e j' z
     · rw[z,hv] at e;cases e
 · refine q p [] _ (by rw[ad (Ne.symm pc)];exact pE) (Nat.zero_le _) ⟨Ne.symm pc,hpa,fun a u e ha=>by rw[ad ha];exact k0 _ _ e,⟨_,pE⟩,.inl hp,?_⟩;refine⟨bT kvs (.inl f) (.ref p),by rw[ad pc];exact pE,by have:=bM kvs (.inl f) (.ref p);omega,fun f' v' hv'=>?_,fun f' e j' z=>?_,fun f1 f2 l e1 e2=>?_⟩
   · rw[ig] at hv';by_cases ef:f'=f
     · subst ef;rw[if_pos rfl] at hv';cases hv';refine⟨p,[j],rfl,pE,by show 1≤_;omega,hpa,fun m=>?_⟩;rw[mSg];exact⟨fun z=>.inr ⟨rfl,z⟩,fun z=>z.elim (fun y=>absurd y (h4 f' hv m)) fun y=>y.2⟩
     · rw[if_neg (fun z=>ef (Sum.inl.inj z))] at hv';obtain⟨l',ls',rfl,a',b',e1',e2'⟩:=h3 f' v' hv';have n1:l'≠p:=af a' hp;have n2:l'≠ca:=fun z=>by rw[z,h1] at a';cases a'
       refine⟨l',ls',rfl,by rw[ad n1,ad n2];exact k0 _ _ a',by omega,e1',fun m=>?_⟩;rw[e2'];exact⟨.inl,fun z=>z.resolve_right fun y=>ef y.1⟩
   · rw[ig] at e;by_cases ef:f'=f
     · rw[ef,if_pos rfl] at e;cases e
     · rw[if_neg (fun z=>ef (Sum.inl.inj z))] at e
       rcases z with z | ⟨z,_⟩
       · exact h4 f' e j' z
       · exact ef z
   · rw[ig] at e1 e2;have nw:∀ g,bj kvs (.inl g)≠some (.ref p):=fun g z=>by
      obtain⟨l',ls',e,a',_⟩:=h3 g _ z;cases e;rw[hp] at a';cases a'
     by_cases a1:f1=f <;> by_cases a2:f2=f
     · rw[a1,a2]
     · rw[if_pos (by rw[a1])] at e1;rw[if_neg (fun z=>a2 (Sum.inl.inj z))] at e2;cases e1;exact absurd e2 (nw f2)
     · rw[if_pos (by rw[a2])] at e2;rw[if_neg (fun z=>a1 (Sum.inl.inj z))] at e1;cases e2;exact absurd e1 (nw f1)
     · rw[if_neg (fun z=>a1 (Sum.inl.inj z))] at e1;rw[if_neg (fun z=>a2 (Sum.inl.inj z))] at e2;exact h5 f1 f2 l e1 e2
end
section
variable {P:Program} {w:World} {K:Fg} {mg:SOV} {base:Heap}
def rP (gs:PDs):Prop:=∀ g∈gs,∃ h c d,g=fnD h c d∧WFd 9 d∧(bq 9 d).length≤900000
theorem mR {gs:PDs} {i:Int} (h:Rl gs i):∃ n:Nat,i=((n:Nat):Int)∧n<gs.length:=by
 cases h with
 | loc h=>obtain⟨n,_,_,_,e,g,_⟩:=h;exact⟨n,e,(gES.mp g).1⟩
 | cal h r=>obtain⟨n,_,_,_,e,g,_⟩:=h;exact⟨n,e,(gES.mp g).1⟩
theorem jH {ks:List Int} {n:Nat} (nd:ks.Nodup) (h:∀ i∈ks,∃ m:Nat,i=((m:Nat):Int)∧m<n):ks.length≤n:=by
 have:=cw nd (B:=(List.range n).map fun (m:Nat)=>((m:Nat):Int)) fun i hi=>by
  obtain⟨m,e,hm⟩:=h i hi;exact List.mem_map.mpr ⟨m,List.mem_range.mpr hm,e.symm⟩
 rw[lMp,List.length_range] at this;exact this
theorem CaD.av {Av:Addr→Prop} {H:Hp} {ca wa:Addr} {R:Int→Int→Prop} {n:Nat} (c:CaD Av H ca R n) (hw:H wa=none):CaD (fun x=>Av x∨x=wa) H ca R n:=by
 obtain⟨kvs,h1,h2,h3,h4,h5⟩:=c.ex;refine⟨kvs,h1,h2,fun f v hv=>?_,h4,h5⟩;obtain⟨l,ls,e,a,b,e1,e2⟩:=h3 f v hv;exact⟨l,ls,e,a,b,fun z=>z.elim e1 (af a hw),e2⟩
theorem CaD.less {Av Av':Addr→Prop} {H:Hp} {ca:Addr} {R:Int→Int→Prop} {n:Nat} (c:CaD Av H ca R n) (h:∀ x,Av' x→Av x):CaD Av' H ca R n:=by
 obtain⟨kvs,h1,h2,h3,h4,h5⟩:=c.ex;refine⟨kvs,h1,h2,fun f v hv=>?_,h4,h5⟩;obtain⟨l,ls,e,a,b,e1,e2⟩:=h3 f v hv;exact⟨l,ls,e,a,b,fun z=>e1 (h l z),e2⟩
theorem fR {gs:PDs} {i:Nat} {h:Str} {c:Nat} {d:PyData} (hg:gs[i]?=some (fnD h c d)) (f:Int):Calls gs f ((i:Nat):Int)↔∃ x∈bq 9 d,∃ r,x=.tuple (.str "call"::.int f::r):=by
 constructor
 · rintro⟨n,h',c',d',e,g,z⟩;have:n=i:=by omega
   rw[this,hg] at g;cases g;exact z
 · exact fun z=>⟨i,h,c,d,rfl,hg,z⟩
theorem fu {gs:PDs} {i:Nat} {h:Str} {c:Nat} {d:PyData} (hg:gs[i]?=some (fnD h c d)):Loc gs ((i:Nat):Int)↔(h="deep"∨(bq 9 d).any (aJ [])=true):=by
 constructor
 · rintro⟨n,h',c',d',e,g,z⟩;have:n=i:=by omega
   rw[this,hg] at g;cases g;exact z
 · exact fun z=>⟨i,h,c,d,rfl,hg,z⟩
abbrev sRf:Stmt:=top 15
inductive v9 (K:Fg) (vs:List V) (H:Hp) (Q:VK):Prop
  | mk (ga:Addr) (gs:PDs) (h0:vs=[.ref ga]) (h1:TD K H (.ref ga) (.tuple gs)) (h2:rP gs) (h3:gs.length≤10) (q:∀ a H' ks,ai H H'→H a=none→H' a=some (.dK (sd ks))→(∀ i,i∈ks↔Rl gs i)→Q (.ref a) H'):v9 K vs H Q
def yz (K:Fg):Sp:=fun vs H Q _=>v9 K vs H Q
abbrev nRf:List Str:=["functions","restless","callers","number","head","count","body","met","node","waiting","callee","caller"]
theorem yS:am nRf ["functions"] (a0 sRf):=fsM
theorem zL (D:Def K mg "restless_functions" sRf) (T:Blt mg) (hany:mg "any"=none) (hen:mg "enumerate"=none) (cM:Fn P w K mg base "outside_funs" 2 ["e"] (wt K)) (jZ:Fn P w K mg base "stirs" 1 ["e","restless"] (wo K)):Fn P w K mg base "restless_functions" 3 ["functions"] (yz K):=by
 refine D.fn yS (fun vs H Q E h=>?_) (fun _ _ _ _ _ _ us hl=>by obtain⟨a,rfl⟩:=iF hl;rfl) (fun f' cdv A outer s' H vs Q E hr h=>?_)
 · obtain⟨ga,gs,rfl,_⟩:=h;rfl
 · obtain⟨ga,gs,rfl,tg,fk,gl,q⟩:=h;have nd:=yS.nd;have hu:=eY hr;have hz0:(12000000:Nat)<sizeLine:=by decide
   obtain⟨_,xs,e0,hga,hxs⟩:=tg.tup_of;cases e0;have xl:=hxs.length;obtain⟨t3,h3,r3⟩:∃ t,PSs (be CX0 P w K mg base nRf "restless_functions" (a0 sRf) f' cdv A outer s' H E).nox ((ak sRf).drop 3) t ∧
    ∀ (H1:Hp) (ra ca:Addr) (ks:List Int) (Av:Addr→Prop) (n:Nat) (x3 x4 x5 x6 x7 x8 x9 x10 x11:Option V),ai H H1→H ra=none→ra≠ca→Av ra→(∀ a u,H a=some u→Av a)→H1 ra=some (.dK (sd ks))→ks.Nodup→(∀ i,i∈ks↔Loc gs i)→CaD Av H1 ca (Calls gs) n→n<12000000→t {nx:=fun _ H'=>Q .non H',rt:=Q} [some (.ref ga),some (.ref ra),some (.ref ca),x3,x4,x5,x6,x7,x8,x9,x10,x11] H1:=by
    refine⟨_,(pD (pL (i:=9) nd rfl (Or.inl rfl) (uA T.list (pA (pv 1) pB)))
 (pD (ix PassesOwn.never (iw (pv 9) (by intro _;rfl))
 (pD (pL (i:=10) nd rfl (Or.inl rfl) (mw (pv 9)))
 (pG (bF PassesOwn.never rfl (bi (qF hu (pv 2) (pv 10) (aM pB) ⟨rfl,rfl,rfl,rfl⟩)) (aw (i:=11) nd rfl (Or.inl rfl))
 (pG (az (lH (jc hu (pv 11) (pv 1))) (pD (hV hu (pv 1) (pv 11) bD rfl)
 (pG (bY (cr (pv 9) (pA (pv 11) pB))))) ah))))))
 (pG (ae (pv 1))))),fun H1 ra ca ks Av n x3 x4 x5 x6 x7 x8 x9 x10 x11 s1 raN rc avr avH hra knd kl cd hn=>?_⟩
    dsimp only[bd];refine aq fun tR kN=>?_;refine⟨_,rfl,ra,_,rfl,hra,fun wa hwa=>?_⟩;have k0:=smu (o:=HO.lst ((sd ks).map fun p=>kV p.1)) hwa;have ek:((sd ks).map fun p=>kV p.1)=ks.map V.int:=by
     unfold sd;rw[List.map_map];rfl
    rw[ek] at k0 ⊢;have waH:=cA s1 hwa;have raw:ra≠wa:=af hra hwa;obtain⟨kvsC,hcaC,_⟩:=cd.ex;have caw:wa≠ca:=Ne.symm (af hcaC hwa);have cd1:=(cd.av hwa).same k0;have hra1:=k0 _ _ hra;have hwa1:(upd H1 wa (.lst (ks.map V.int))) wa=some (.lst (ks.map V.int)):=pE;have s1':=s1.trans k0;generalize upd H1 wa (.lst (ks.map V.int))=H2 at s1' cd1 hra1 hwa1 ⊢;refine kN _ _ (aq fun BO xw=>?_);refine ic (fun σ Hi=>ai H Hi∧∃ (ks ws:List Int) (x10 x11:Option V),σ=[some (.ref ga),some (.ref ra),some (.ref ca),x3,x4,x5,x6,x7,x8,some (.ref wa),x10,x11]∧Hi ra=some (.dK (sd ks))∧Hi wa=some (.lst (ws.map V.int))∧CaD (fun x=>Av x∨x=wa) Hi ca (Calls gs) n∧ks.Nodup∧ws.Nodup∧(∀ i∈ks,Rl gs i)∧(∀ i,Loc gs i→i∈ks)∧(∀ i∈ws,i∈ks)∧∀ f∈ks,f∉ws→∀ j,Calls gs f j→j∈ks)
     (fun _ Hi=>match Hi ra,Hi wa with | some (.dK kvs),some (.lst ws)=>2*(gs.length-kvs.length)+ws.length | _,_=>0)
     ⟨s1',ks,ks,_,_,rfl,hra1,hwa1,cd1,knd,knd,fun i hi=>.loc ((kl i).mp hi),fun i hi=>(kl i).mpr hi,fun i hi=>hi,fun f h1 h2=>absurd h1 h2⟩ ?_
    rintro σ Hi ⟨si,ks,ws,y10,y11,rfl,hrai,hwai,ci,knd,wnd,so,ini,sub,clo⟩;refine⟨_,rfl,_,.inl ⟨ws.map V.int,SqL.of hwai,rfl⟩,?_⟩
    rcases List.eq_nil_or_concat ws with rfl | ⟨ws',f,rfl⟩
    · refine pI (by decide) ?_;refine xw _ _ ⟨_,rfl,q ra Hi ks si raN hrai fun i=>⟨so i,fun h=>?_⟩⟩
      induction h with
      | loc h=>exact ini _ h
      | cal h _ ih=>exact clo _ ih (by simp) _ h
    rw[List.concat_eq_append] at hwai wnd sub clo;have fk':f∈ks:=sub f (List.mem_append_right _ (mSg.mpr rfl));obtain⟨wn1,_,wn2⟩:=List.nodup_append.mp wnd;have wl:(ws'++[f]).length≤gs.length:=jH wnd fun i hi=>mR (so i (sub i hi));rw[lAp] at wl;refine pJ (by rw[List.concat_eq_append];cases ws' <;> rfl) ?_;rw[List.map_append] at hwai;refine⟨fun σ' H'=>(ai H H'∧∃ (ks ws:List Int) (x10 x11:Option V),σ'=[some (.ref ga),some (.ref ra),some (.ref ca),x3,x4,x5,x6,x7,x8,some (.ref wa),x10,x11]∧H' ra=some (.dK (sd ks))∧H' wa=some (.lst (ws.map V.int))∧CaD (fun x=>Av x∨x=wa) H' ca (Calls gs) n∧ks.Nodup∧ws.Nodup∧(∀ i∈ks,Rl gs i)∧(∀ i,Loc gs i→i∈ks)∧(∀ i∈ws,i∈ks)∧∀ f∈ks,f∉ws→∀ j,Calls gs f j→j∈ks)∧∃ ks2 ws2:List Int,H' ra=some (.dK (sd ks2))∧H' wa=some (.lst (ws2.map V.int))∧2*(gs.length-ks2.length)+ws2.length≤2*(gs.length-ks.length)+ws'.length,?_,?_⟩
    · rintro σ' H' ⟨pv,ks2,ws2,a1,a2,a3⟩;refine⟨_,?_,rfl,pv⟩;rw[a1,a2,hrai,hwai];show 2*(gs.length-(sd ks2).length)+(ws2.map V.int).length<2*(gs.length-(sd ks).length)+(ws'.map V.int++[V.int f]).length;rw[gh,gh,lMp,lAp,lMp];show _<_+(ws'.length+1);omega
    refine aq fun AY u9=>?_;refine⟨_,rfl,.inl ⟨rfl,_,SqL.of hwai⟩,wa,ws'.map V.int++[V.int f],V.int f,rfl,rfl,hwai,by simp,?_⟩;rw[List.dropLast_concat];refine u9 _ _ ?_;have s3:ai H (upd Hi wa (.lst (ws'.map V.int))):=dL si waH;have hra3:(upd Hi wa (.lst (ws'.map V.int))) ra=some (.dK (sd ks)):=by rw[ad raw];exact hrai
    have hwa3:(upd Hi wa (.lst (ws'.map V.int))) wa=some (.lst (ws'.map V.int)):=pE;have c3:CaD (fun x=>Av x∨x=wa) (upd Hi wa (.lst (ws'.map V.int))) ca (Calls gs) n:=ci.put (.inr rfl) caw;generalize upd Hi wa (.lst (ws'.map V.int))=H3 at s3 hra3 hwa3 c3 ⊢;obtain⟨kvs,d1,d2,d3,d4,d5⟩:=c3.ex;refine⟨_,rfl,ca,rfl,.inl ⟨kvs,.inl d1⟩,_,rfl,lm,fun p hp=>?_⟩;have kp:=smu (o:=HO.lst []) hp;refine⟨bj kvs (.inl f),bP.k (k:=.inl f) (kp _ _ d1),?_⟩;obtain⟨l,ls,eo,hl,hm,ll,lw,lr⟩:∃ (l:Addr) (ls:List Int),(bj kvs (.inl f)).getD (.ref p)=.ref l∧(upd H3 p (.lst [])) l=some (.lst (ls.map V.int))∧(∀ j,j∈ls↔Calls gs f j)∧ls.length≤n∧l≠wa∧l≠ra:=by
     cases e:bj kvs (.inl f) with
     | none=>exact⟨p,[],rfl,pE,fun j=>⟨fun z=>(by cases z),fun z=>absurd z (d4 f e j)⟩,Nat.zero_le _,Ne.symm (af hwa3 hp),Ne.symm (af hra3 hp)⟩
     | some v =>
      obtain⟨l,ls,rfl,a,b,e1,e2⟩:=d3 f v e;exact⟨l,ls,rfl,kp _ _ a,e2,b,fun z=>e1 (.inr z),fun z=>e1 (.inl (by rw[z];exact avr))⟩
    rw[eo];have s4:=s3.trans kp;have hra4:=kp _ _ hra3;have hwa4:=kp _ _ hwa3;have c4:=c3.same kp;generalize upd H3 p (.lst [])=H4 at s4 hra4 hwa4 c4 hl ⊢;refine⟨l,rfl,⟨_,SqL.of hl⟩,?_⟩;show aA _ _ _ _ _ _;refine aA.by (aI (xs:=ls.map V.int)) (fun k σ Hk=>ai H Hk∧Hk l=some (.lst (ls.map V.int))∧∃ (ks2 ws2:List Int) (x11:Option V),σ=[some (.ref ga),some (.ref ra),some (.ref ca),x3,x4,x5,x6,x7,x8,some (.ref wa),some (.int f),x11]∧Hk ra=some (.dK (sd ks2))∧Hk wa=some (.lst (ws2.map V.int))∧CaD (fun x=>Av x∨x=wa) Hk ca (Calls gs) n∧ks2.Nodup∧ws2.Nodup∧(∀ i∈ks2,Rl gs i)∧(∀ i,Loc gs i→i∈ks2)∧(∀ i∈ws2,i∈ks2)∧(∀ g∈ks2,g∉ws2→g≠f→∀ j,Calls gs g j→j∈ks2)∧f∈ks2∧(∀ j∈ls.take k,j∈ks2)∧2*(gs.length-ks2.length)+ws2.length≤2*(gs.length-ks.length)+ws'.length)
     ⟨s4,hl,ks,ws',_,rfl,hra4,hwa4,c4,knd,wn1,so,ini,fun i hi=>sub i (List.mem_append_left _ hi),fun g h1 h2 h3=>clo g h1 (fun z=>by rcases mAp.mp z with z | z;exact h2 z;exact h3 (mSg.mp z)),fk',fun j hj=>by simp at hj,Nat.le_refl _⟩ (fun i σ Hk _ h=>SqL.of h.2.1) ?_ ?_
    · rintro k u σ Hk huk ⟨sk,hlk,ks2,ws2,z11,rfl,hrak,hwak,ck,kn2,wn2,so2,ini2,sub2,clo2,fk2,dn2,me2⟩;rw[gEM] at huk;obtain⟨j,hj,rfl⟩:=oMS.mp huk;have cj:Calls gs f j:=(hm j).mp (mGE hj);have tk1:∀ {l2:List Int},(∀ m∈ls.take k,m∈l2)→j∈l2→∀ m∈ls.take (k+1),m∈l2:=fun {l2} a b m hm2=>by
       rw[tAO,hj,mAp] at hm2
       rcases hm2 with z | z
       · exact a m z
       · rw[show m=j by simpa using z];exact b
      refine⟨_,rfl,_,rfl,ra,_,rfl,bP.k (k:=.inl j) hrak,_,rfl,?_⟩;rw[gg];by_cases hjk:j∈ks2
      · rw[if_pos hjk];exact pI (by decide) ⟨sk,hlk,ks2,ws2,_,rfl,hrak,hwak,ck,kn2,wn2,so2,ini2,sub2,clo2,fk2,tk1 dn2 hjk,me2⟩
      · rw[if_neg hjk];refine pJ (by decide) ?_;have ei:cN ks2 j=ks2++[j]:=by unfold cN;rw[if_neg hjk]
        have kn3:(cN ks2 j).Nodup:=qZ kn2;have so3:∀ i∈cN ks2 j,Rl gs i:=fun i hi=>by
         rcases bK.mp hi with z | rfl
         · exact so2 i z
         · exact .cal cj (so2 f fk2)
        have kl3:=jH kn3 fun i hi=>mR (so3 i hi);have kl2:(cN ks2 j).length=ks2.length+1:=by rw[ei];simp
        have wl2:=jH wn2 fun i hi=>mR (so2 i (sub2 i hi));refine⟨_,rfl,_,rfl,ra,_,rfl,lj.k (k:=.inl j) hrak (by rw[gh];omega),?_⟩;rw[jy];have s5:ai H (upd Hk ra (.dK (sd (cN ks2 j)))):=dL sk raN;have hwa5:(upd Hk ra (.dK (sd (cN ks2 j)))) wa=some (.lst (ws2.map V.int)):=by rw[ad (Ne.symm raw)];exact hwak
        have hra5:(upd Hk ra (.dK (sd (cN ks2 j)))) ra=some (.dK (sd (cN ks2 j))):=pE;have hl5:(upd Hk ra (.dK (sd (cN ks2 j)))) l=some (.lst (ls.map V.int)):=by rw[ad lr];exact hlk
        have c5:CaD (fun x=>Av x∨x=wa) (upd Hk ra (.dK (sd (cN ks2 j)))) ca (Calls gs) n:=ck.put (.inl avr) rc;generalize upd Hk ra (.dK (sd (cN ks2 j)))=H5 at s5 hwa5 hra5 hl5 c5 ⊢;refine⟨_,rfl,.inl ⟨rfl,_,SqL.of hwa5⟩,_,rfl,wa,_,_,rfl,rfl,hwa5,by rw[lMp];omega,?_⟩;refine⟨dL s5 waH,by rw[ad lw];exact hl5,cN ks2 j,ws2++[j],_,rfl,by rw[ad raw];exact hra5,by rw[pE,List.map_append];rfl,c5.put (.inr rfl) caw,kn3,?_,so3,fun i hi=>bK.mpr (.inl (ini2 i hi)),fun i hi=>?_,fun g h1 h2 h3 m h4=>?_,bK.mpr (.inl fk2),tk1 (fun m hm2=>bK.mpr (.inl (dn2 m hm2))) (bK.mpr (.inr rfl)),by rw[kl2,lAp];show _+(ws2.length+1)≤_;omega⟩
        · rw[List.nodup_append];exact⟨wn2,by simp,fun a ha b hb=>by rw[mSg] at hb;rw[hb];exact fun e=>hjk (sub2 j (e▸ha))⟩
        · rcases mAp.mp hi with z | z
          · exact bK.mpr (.inl (sub2 i z))
          · exact bK.mpr (.inr (mSg.mp z))
        · rcases bK.mp h1 with z | z
          · exact bK.mpr (.inl (clo2 g z (fun y=>h2 (List.mem_append_left _ y)) h3 m h4))
          · exact absurd (List.mem_append_right _ (mSg.mpr z)) h2
    · rintro σ Hk ⟨sk,hlk,ks2,ws2,z11,rfl,hrak,hwak,ck,kn2,wn2,so2,ini2,sub2,clo2,fk2,dn2,me2⟩;rw[lMp,List.take_length] at dn2;refine⟨⟨sk,ks2,ws2,_,_,rfl,hrak,hwak,ck,kn2,wn2,so2,ini2,sub2,fun g h1 h2 m h3=>?_⟩,ks2,ws2,hrak,hwak,me2⟩;by_cases e:g=f
      · rw[e] at h3;exact dn2 m ((hm m).mpr h3)
      · exact clo2 g h1 h2 e m h3
   refine⟨_,(pD (pL (i:=1) nd rfl (Or.inl rfl) iy)
 (pD (pL (i:=2) nd rfl (Or.inl rfl) iy)
 (pD (bF PassesOwn.never rfl (qB rfl hen (pA (pv 0) pB)) (jC rfl (bQ (aw (i:=3) nd rfl (Or.inl rfl)) (bQ (jC rfl (bQ (aw (i:=4) nd rfl (Or.inl rfl)) (bQ (aw (i:=5) nd rfl (Or.inl rfl)) (bQ (aw (i:=6) nd rfl (Or.inl rfl)) hZ)))) hZ)))
 (pD (pL (i:=7) nd rfl (Or.inl rfl) (ab cM (hr.mono (by decide)) rfl (pA (pv 6) pB)))
 (pD (az (PW.pt (dO (pM aH (pv 4) pC (pN _)) (cY (dP (vQ hany (pA (dW (own:=["node"]) (outs:=[]) rfl (aB.of (a0 sRf) nRf) (bi (pv 7)) (fun _ _ _ _=>⟨(aw (i:=0) Ao rfl (Or.inl rfl)),cf,(ab jZ (hr.mono (by decide)) rfl (pA (pv 0) (pA iy pB)))⟩)) pB)))))) (pG (hV hu (pv 1) (pv 3) bD rfl)) ah)
 (pG (bF PassesOwn.never rfl (bi (pv 7)) (aw (i:=8) nd rfl (Or.inl rfl))
 (pG (az (pM aH (aa a9 (pv 8) pF (fun _ _=>rfl)) pC (pN _)) (pG (bY (cr (qE (pv 2) (aa a9 (pv 8) pF (fun _ _=>rfl)) (aM pB) ⟨rfl,rfl,rfl,rfl⟩) (pA (pv 3) pB)))) ah))))))) h3))),?_⟩
   dsimp only[bd];refine fun ra hra=>?_;have k1:=smu (o:=HO.dK []) hra;refine fun ca hca=>?_;have k2:=smu (o:=HO.dK []) hca;have rc:ra≠ca:=af pE hca;have raH:=hra;have caH:=cA k1 hca;have s2:=k1.trans k2;have hra2:(upd (upd H ra (.dK [])) ca (.dK [])) ra=some (.dK (sd [])):=k2 _ _ pE;have hca2:(upd (upd H ra (.dK [])) ca (.dK [])) ca=some (.dK []):=pE;generalize upd (upd H ra (.dK [])) ca (.dK [])=H2 at s2 hra2 hca2 ⊢;refine⟨_,rfl,ga,xs,rfl,hga.tk s2.tk,?_⟩;show aA _ _ _ _ _ _;refine aA.enumT (xs:=xs) (fun i σ Hi=>ai H Hi∧(∃ ks,Hi ra=some (.dK (sd ks))∧ks.Nodup∧ks.length≤i∧∀ j,j∈ks↔∃ m:Nat,m<i∧j=((m:Nat):Int)∧Loc gs j)∧CaD (fun x=>(∃ u,H x=some u)∨x=ra) Hi ca (fun f j=>∃ m:Nat,m<i∧j=((m:Nat):Int)∧Calls gs f j) (900000*i)∧∃ x3 x4 x5 x6 x7 x8 x9 x10 x11,σ=[some (.ref ga),some (.ref ra),some (.ref ca),x3,x4,x5,x6,x7,x8,x9,x10,x11]) ⟨s2,⟨[],hra2,List.nodup_nil,Nat.le_refl _,fun j=>⟨fun z=>(by cases z),fun ⟨m,z,_⟩=>absurd z (Nat.not_lt_zero _)⟩⟩,⟨[],hca2,Nat.zero_le _,fun f v hv=>(by cases hv),fun f _ j ⟨m,z,_⟩=>absurd z (Nat.not_lt_zero _),fun f f' l e=>by cases e⟩,_,_,_,_,_,_,_,_,_,rfl⟩ (fun i σ Hi _ h=>hga.tk h.1.tk) ?_ ?_
   · rintro i x σ Hi t hx ⟨si,⟨ks,hrai,knd,kl,km⟩,cai,x3,x4,x5,x6,x7,x8,x9,x10,x11,rfl⟩ ht;have hi:i<xs.length:=(gES.mp hx).1;obtain⟨g,hg,tg'⟩:=hxs.get hx;obtain⟨h,c,d,rfl,wf,hsz⟩:=fk g (mGE hg);obtain⟨ta,us,rfl,hta,hus⟩:=(show TD K H x (.tuple [.str h,.int ((c:Nat):Int),d]) from tg').tup_of;obtain⟨u1,u2,vb,rfl,a1,a2,tb⟩:=jr hus;have e1:=a1.str_of;have e2:=a2.int_of;subst e1 e2;have kt:=smu (o:=HO.tup [V.int ((i:Nat):Int),V.ref ta]) ht;have s3:=si.trans kt;have hra3:=kt _ _ hrai;have c3:=cai.same kt;refine⟨t,_,rfl,SqT.of pE,rfl,_,_,rfl,_,_,rfl,ta,_,rfl,hta.tk s3.tk,rfl,_,_,rfl,_,_,rfl,_,_,rfl,rfl,rfl,?_⟩;generalize upd Hi t (.tup [V.int ((i:Nat):Int),V.ref ta])=H3 at s3 hra3 c3 ⊢;refine aq fun nA_ hA_=>?_;refine⟨_,rfl,vb,d,9,rfl,tb.same s3,wf,hsz,fun L H4 zs s4 hL hz tz=>?_⟩;have zl:=tz.length;have s4':=s3.trans s4;have hra4:=s4 _ _ hra3;have c4:=(c3.av hL).same s4;have LH:=cA s3 hL;have Lr:L≠ra:=Ne.symm (af hra3 hL);obtain⟨kvs3,hca3,_⟩:=c3.ex;have Lc:L≠ca:=Ne.symm (af hca3 hL);refine hA_ _ _ (aq fun Ar Au=>?_);have join:∀ (H5:Hp) (ks5:List Int),ai H H5→H5 ra=some (.dK (sd ks5))→H5 L=some (.lst zs)→TDs K H5 zs (bq 9 d)→CaD (fun x=>((∃ u,H x=some u)∨x=ra)∨x=L) H5 ca (fun f j=>∃ m:Nat,m<i∧j=((m:Nat):Int)∧Calls gs f j) (900000*i)→ks5.Nodup→ks5.length≤i+1→(∀ j,j∈ks5↔∃ m:Nat,m<i+1∧j=((m:Nat):Int)∧Loc gs j)→Ar [some (.ref ga),some (.ref ra),some (.ref ca),some (.int ((i:Nat):Int)),some (.str h),some (.int ((c:Nat):Int)),some vb,some (.ref L),x8,x9,x10,x11] H5:=fun H5 ks5 s5 hra5 hL5 tz5 c5 kn5 kl5 km5=>by
      refine Au _ _ ?_;refine⟨_,rfl,L,rfl,⟨zs,SqL.of hL5⟩,?_⟩;show aA _ _ _ _ _ _;refine aA.by (aI (xs:=zs)) (fun k σ Hk=>ai H Hk∧Hk ra=some (.dK (sd ks5))∧Hk L=some (.lst zs)∧TDs K Hk zs (bq 9 d)∧CaD (fun x=>((∃ u,H x=some u)∨x=ra)∨x=L) Hk ca (fun f j=>(∃ m:Nat,m<i∧j=((m:Nat):Int)∧Calls gs f j)∨(j=((i:Nat):Int)∧∃ x∈(bq 9 d).take k,∃ r,x=.tuple (.str "call"::.int f::r))) (900000*i+k)∧∃ x8,σ=[some (.ref ga),some (.ref ra),some (.ref ca),some (.int ((i:Nat):Int)),some (.str h),some (.int ((c:Nat):Int)),some vb,some (.ref L),x8,x9,x10,x11])
       ⟨s5,hra5,hL5,tz5,?_,_,rfl⟩ (fun k σ Hk _ h=>SqL.of h.2.2.1) ?_ ?_
      · exact (c5.wide (Nat.le_refl _)).iff fun f j=>⟨.inl,fun z=>z.elim id (fun ⟨_,x,hx,_⟩=>by simp at hx)⟩
      · rintro k u σ Hk huk ⟨sk,hrak,hLk,tzk,ck,y8,rfl⟩;have hk:k<zs.length:=(gES.mp huk).1;obtain⟨y,hy,ty⟩:=tzk.get huk;obtain⟨hh,sl,ps,ndy⟩:=gn wf (mGE hy);obtain⟨a,vs,rfl,ha,hvs⟩:=bR ty ndy;refine⟨_,rfl,a,_,_,_,rfl,rfl,ha,pH (j:=0) rfl,rfl,_,rfl,?_⟩;have tk1:∀ (f:Int),(∃ x∈(bq 9 d).take (k+1),∃ r,x=.tuple (.str "call"::.int f::r))↔(∃ x∈(bq 9 d).take k,∃ r,x=.tuple (.str "call"::.int f::r))∨∃ r,y=.tuple (.str "call"::.int f::r):=fun f=>by
         rw[tAO,hy];simp only[Option.toList_some,mAp,mSg];constructor
         · rintro⟨z,z1 | rfl,z2⟩
           · exact .inl ⟨z,z1,z2⟩
           · exact .inr z2
         · rintro (⟨z,z1,z2⟩ | z2)
           · exact⟨z,.inl z1,z2⟩
           · exact⟨y,.inr rfl,z2⟩
        by_cases hcl:hh="call"
        · refine pJ (by simp[hcl]) ?_;subst hcl;obtain⟨p,r,rfl,_,p2⟩:=iD ndy;obtain⟨f,rfl⟩:=p2 rfl;obtain⟨vp,vr,rfl,tp,tr⟩:∃ vp vr,vs=vp::vr∧TD K Hk vp (.int f)∧TDs K Hk vr r:=by
           cases hvs with
           | cons a b=>exact⟨_,_,rfl,a,b⟩
          rw[tp.int_of] at ha;have ey:=ndy.eq;obtain⟨kvs,hcak,_⟩:=ck.ex;refine⟨_,rfl,ca,rfl,.inl ⟨kvs,.inl hcak⟩,_,rfl,a,_,_,_,rfl,rfl,ha,pH (j:=1) rfl,lm,fun p hp=>?_⟩;have hpa:¬ (((∃ u,H p=some u)∨p=ra)∨p=L):=by
           rintro ((⟨u,z⟩ | z) | z)
           · rw[sk _ _ z] at hp;cases hp
           · rw[z,hrak] at hp;cases hp
           · rw[z,hLk] at hp;cases hp
          refine ck.add (j:=((i:Nat):Int)) (by omega) hp hpa hcak fun l ls H6 hl ll z=>?_;obtain⟨lc,lav,kp6,⟨kv6,hca6⟩,hlo,c6⟩:=z;have l1:l≠ra:=fun e=>lav (.inl (.inr e));have l2:l≠L:=fun e=>lav (.inr e);have tk6:Tk Hk (upd H6 l (.lst (ls.map V.int++[V.int ((i:Nat):Int)]))):=fun b ys z=>by
           have nb:b≠ca:=fun e=>by rw[e] at z;rcases z with z | ⟨_,z⟩ <;> rw[hcak] at z <;> cases z
           have nl:b≠l:=fun e=>by
            rw[e] at z
            rcases hlo with hlo | ⟨ys,hlo⟩ <;> rcases z with z | ⟨_,z⟩ <;> rw[hlo] at z <;> cases z
           rcases z with z | ⟨o,z⟩
           · exact .inl (by rw[ad nl];exact kp6 _ _ z nb)
           · exact .inr ⟨o,by rw[ad nl];exact kp6 _ _ z nb⟩
          refine⟨.inl ⟨rfl,_,SqL.of hl⟩,_,rfl,l,_,_,rfl,rfl,hl,by rw[lMp];omega,?_⟩;refine⟨fun b u hb=>?_,by rw[ad (Ne.symm l1)];exact kp6 _ _ hrak rc,by rw[ad (Ne.symm l2)];exact kp6 _ _ hLk Lc,tzk.tk tk6,c6.iff fun f' j'=>?_,_,rfl⟩
          · have nl:b≠l:=fun e=>lav (.inl (.inl ⟨u,e▸hb⟩));rw[ad nl];exact kp6 _ _ (sk _ _ hb) (fun e=>by rw[e,caH] at hb;cases hb)
          · rw[tk1,or_assoc];refine or_congr Iff.rfl ?_;constructor
            · rintro (⟨z1,z2⟩ | ⟨z1,z2⟩)
              · exact⟨z1,.inl z2⟩
              · exact⟨z2,.inr ⟨r,by rw[ey,z1]⟩⟩
            · rintro⟨z1,z2 | ⟨r',z2⟩⟩
              · exact .inl ⟨z1,z2⟩
              · rw[ey] at z2;cases z2;exact .inr ⟨rfl,z1⟩
        · refine pI (by simpa using hcl) ⟨sk,hrak,hLk,tzk,(ck.wide (by omega)).iff fun f' j'=>?_,_,rfl⟩;refine or_congr Iff.rfl (and_congr Iff.rfl ?_);rw[tk1];exact⟨.inl,fun z=>z.elim id fun ⟨r,e⟩=>absurd (by rw[ndy.eq] at e;cases e;rfl) hcl⟩
      · rintro σ Hk ⟨sk,hrak,hLk,tzk,ck,y8,rfl⟩;refine⟨sk,⟨ks5,hrak,kn5,kl5,km5⟩,((ck.less fun x z=>.inl z).wide (by omega)).iff fun f j=>?_,_,_,_,_,_,_,_,_,_,rfl⟩;rw[zl,List.take_length];constructor
        · rintro (⟨m,z1,z2⟩ | ⟨rfl,z⟩)
          · exact⟨m,by omega,z2⟩
          · exact⟨i,by omega,rfl,(fR hg f).mpr z⟩
        · rintro⟨m,z1,z2,z3⟩
          rcases Nat.lt_or_ge m i with z | z
          · exact .inl ⟨m,z,z2,z3⟩
          · have:m=i:=by omega
            subst this;rw[z2] at z3;exact .inr ⟨z2,(fR hg f).mp z3⟩
     have skip:∀ H5,ai H4 H5→¬ Loc gs ((i:Nat):Int)→Ar [some (.ref ga),some (.ref ra),some (.ref ca),some (.int ((i:Nat):Int)),some (.str h),some (.int ((c:Nat):Int)),some vb,some (.ref L),x8,x9,x10,x11] H5:=fun H5 s5 hn=>join H5 ks (s4'.trans s5) (s5 _ _ hra4) (s5 _ _ hz) (tz.same s5) (c4.same s5) knd (by omega) fun j=>by
      rw[km];constructor
      · rintro⟨m,z1,z2⟩;exact⟨m,by omega,z2⟩
      · rintro⟨m,z1,z2,z3⟩;refine⟨m,?_,z2,z3⟩
        rcases Nat.lt_or_ge m i with z | z
        · exact z
        · have:m=i:=by omega
          subst this;exact absurd (z2▸z3) hn
     have addI:∀ H5,ai H4 H5→Loc gs ((i:Nat):Int)→uL (aQ 1) (aQ 3) (tC (.bl true)) {nx:=Ar,rt:=Q} [some (.ref ga),some (.ref ra),some (.ref ca),some (.int ((i:Nat):Int)),some (.str h),some (.int ((c:Nat):Int)),some vb,some (.ref L),x8,x9,x10,x11] H5:=fun H5 s5 hloc=>by
      refine⟨_,rfl,_,rfl,ra,_,rfl,lj.k (k:=.inl ((i:Nat):Int)) (s5 _ _ hra4) (by rw[gh];omega),?_⟩;rw[jy];refine join _ (cN ks ((i:Nat):Int)) (dL (s4'.trans s5) raH) pE (by rw[ad Lr];exact s5 _ _ hz) ((tz.same s5).tk (uC (s5 _ _ hra4))) ((c4.same s5).put (.inl (.inr rfl)) rc) (qZ knd) (by have:=jN ks ((i:Nat):Int);omega) fun j=>?_;rw[bK,km];constructor
      · rintro (⟨m,z1,z2⟩ | rfl)
        · exact⟨m,by omega,z2⟩
        · exact⟨i,by omega,rfl,hloc⟩
      · rintro⟨m,z1,z2,z3⟩
        rcases Nat.lt_or_ge m i with z | z
        · exact .inl ⟨m,z,z2,z3⟩
        · exact .inr (by rw[z2];congr 1;omega)
     refine⟨_,rfl,rfl,_,rfl,?_⟩;by_cases hdp:h="deep"
     · refine pJ (by simp[hdp]) ?_;refine cB ?_;exact addI H4 (ai.refl H4) ((fu hg).mpr (.inl hdp))
     refine pI (by simpa using hdp) ?_;rw[zk,iu,dr,dC];refine⟨_,rfl,L,rfl,⟨zs,SqL.of hz⟩,fun G hG=>?_⟩;have k0:=smu (o:=HO.lst []) hG;refine bt.by (aI (xs:=zs)) (fun k σ Hk=>ai H4 Hk∧Hk G=some (.lst ((((bq 9 d).take k).map (aJ [])).map V.bl))∧∃ y,σ=[y]) ⟨k0,pE,_,rfl⟩ (fun k σ Hk _ h=>SqL.of (h.1 _ _ hz)) ?_ ?_
     · rintro k u σ Hk huk ⟨sk,hGk,y,rfl⟩;have hk:k<zs.length:=(gES.mp huk).1;obtain⟨y',hy,ty⟩:=tz.get huk;obtain⟨hh,sl,ps,ndy⟩:=gn wf (mGE hy);rw[bh,dM];refine cB ⟨_,rfl,fun p hp=>?_⟩;have kp:=smu (o:=HO.dK []) hp;refine⟨u,p,y',hh,sl,ps,[],rfl,(ty.same sk).same kp,ndy,pE,_,kp _ _ hGk,?_,cy (H:=H) (sk.trans kp) hG,?_,_,rfl⟩
       · rw[lMp,lMp,lTk];omega
       · rw[pE,tAO,hy,List.map_append,List.map_append];rfl
     · rintro σ Hk ⟨sk,hGk,y,rfl⟩;rw[zl,List.take_length] at hGk;refine⟨G,_,rfl,SqL.of hGk,_,rfl,?_⟩;rw[List.any_map,show (id∘aJ [])=aJ [] from rfl];by_cases hst:(bq 9 d).any (aJ [])=true
       · rw[hst];refine cB ?_;exact addI Hk sk ((fu hg).mpr (.inr hst))
       · rw[show (bq 9 d).any (aJ [])=false by simpa using hst];refine fw ?_;exact skip Hk sk fun z=>((fu hg).mp z).elim hdp hst
   · rintro σ Hi ⟨si,⟨ks,hrai,knd,kl,km⟩,cai,x3,x4,x5,x6,x7,x8,x9,x10,x11,rfl⟩;refine r3 Hi ra ca ks _ (900000*xs.length) _ _ _ _ _ _ _ _ _ si raH rc (.inr rfl) (fun a u e=>.inl ⟨u,e⟩) hrai knd (fun j=>?_) (cai.iff fun f j=>?_) (by omega)
     · rw[km];constructor
       · rintro⟨m,_,_,z⟩;exact z
       · intro z;obtain⟨m,h',c',d',e,g,w'⟩:=z;exact⟨m,by rw[xl];exact (gES.mp g).1,e,⟨m,h',c',d',e,g,w'⟩⟩
     · constructor
       · rintro⟨m,_,_,z⟩;exact z
       · intro z;obtain⟨m,h',c',d',e,g,w'⟩:=z;exact⟨m,by rw[xl];exact (gES.mp g).1,e,⟨m,h',c',d',e,g,w'⟩⟩
end
section
variable {P:Program} {w:World} {K:Fg} {mg:SOV} {base:Heap}
theorem fQ {H:Hp} {v:V} {fs:PDs} {rs:List Nat} {os:List (Str×Nat)} (h:TD K H v (gM fs rs os)):∃ a b c e xs zs,v=.ref a∧SqT K H a [.ref b,.ref c,.ref e]∧SqT K H b xs∧TDs K H xs fs∧TD K H (.ref b) (.tuple fs)∧TD K H (.ref c) (dN rs)∧SqT K H e zs∧TDs K H zs (os.map dH):=by
 obtain⟨a,ys,rfl,ha,hy⟩:=h.tup_of;obtain⟨x,y,z,rfl,t1,t2,t3⟩:=jr hy;obtain⟨b,xs,rfl,hb,hx⟩:=t1.tup_of;obtain⟨c,us,rfl,hc,hu⟩:=(show TD K H y (.tuple _) from t2).tup_of;obtain⟨e,zs,rfl,he,hz⟩:=t3.tup_of;exact⟨a,b,c,e,xs,zs,rfl,ha,hb,hx,t1,t2,he,hz⟩
end
end K23
namespace L2
open PySem PySem.Spec PyProof.Rows
structure MFn (P:Program) (w:World) (K:Fg) (mg:SOV) (base:Heap) (C:Addr) (m:Str) (k:Nat) (ps:List Str) (sp:Sp):Prop where
  ex:∃ (f:Addr) (fd:FuncData),fB P w K mg base CX0 k f fd ps sp∧uv K C m f∧eC K fd ps []
def gW (K:Fg) (C:Addr) (m q:Str) (st:Stmt):Prop:=∃ (f:Addr) (fd:FuncData),Fun K m q st f fd∧uv K C m f
structure IFn (P:Program) (w:World) (K:Fg) (mg:SOV) (base:Heap) (C:Addr) (k:Nat) (ps:List Str) (sp:Sp):Prop where
  ex:∃ (f:Addr) (fd:FuncData),fB P w K mg base CX0 k f fd ps sp∧Mk K C f∧eC K fd ps []
def ux (K:Fg) (C:Addr) (q:Str) (st:Stmt):Prop:=∃ (f:Addr) (fd:FuncData),Fun K "__init__" q st f fd∧Mk K C f
section
variable {P:Program} {w:World} {K:Fg} {mg:SOV} {base:Heap} {C:Addr}
theorem gW.fn {m q:Str} {st:Stmt} {N ps:List Str} {k:Nat} {sp:Sp} (D:gW K C m q st) (S:am N ps (a0 st)) (len:∀ vs H Q E,sp vs H Q E→vs.length=ps.length)
 (hb:∀ (kV doc pm:Value) (an:Option Addr) (cdv ct:Value) (us:List Value),us.length=ps.length→bindArgs (PySem.W.fnOf m q (bL st) (ak st) (a0 st) .none kV doc pm an cdv ct) ⟨us,[]⟩=pure (ps.zip us))
 (hbody:∀ (f:Addr) (cdv:Value) (A:Around) (outer:List Env) (s:Shared) (H:Hp) (vs:List V) (Q:VK) (E:XK),bO k (A.deeper (envOfC q (a0 st) s.heap.objs.size f cdv))→sp vs H Q E →
   ∃ t,PSs (be CX0 P w K mg base N q (a0 st) f cdv A outer s H E).nox (ak st) t∧t {nx:=fun _ H'=>Q .non H',rt:=Q} (dB N vs) H):MFn P w K mg base C m (k+1) ps sp:=by
 obtain⟨f,fd,F,hm⟩:=D;exact⟨f,fd,F.ok S len (hbody f),hm,F.binds hb⟩
theorem ux.fn {q:Str} {st:Stmt} {N ps:List Str} {k:Nat} {sp:Sp} (D:ux K C q st) (S:am N ps (a0 st)) (len:∀ vs H Q E,sp vs H Q E→vs.length=ps.length)
 (hb:∀ (kV doc pm:Value) (an:Option Addr) (cdv ct:Value) (us:List Value),us.length=ps.length→bindArgs (PySem.W.fnOf "__init__" q (bL st) (ak st) (a0 st) .none kV doc pm an cdv ct) ⟨us,[]⟩=pure (ps.zip us))
 (hbody:∀ (f:Addr) (cdv:Value) (A:Around) (outer:List Env) (s:Shared) (H:Hp) (vs:List V) (Q:VK) (E:XK),bO k (A.deeper (envOfC q (a0 st) s.heap.objs.size f cdv))→sp vs H Q E →
   ∃ t,PSs (be CX0 P w K mg base N q (a0 st) f cdv A outer s H E).nox (ak st) t∧t {nx:=fun _ H'=>Q .non H',rt:=Q} (dB N vs) H):IFn P w K mg base C (k+1) ps sp:=by
 obtain⟨f,fd,F,hm⟩:=D;exact⟨f,fd,F.ok S len (hbody f),hm,F.binds hb⟩
end
section
variable {X:Cx} {x m:Str} {p pos apos:Pos} {o e a:Expr} {es:List Expr} {ta:TE} {t:TA} {k:Nat} {ps:List Str} {sp:Sp} {C:Addr}
theorem dU {pl:Sem Bool} (he:PE X o ta) (c:Cls X.K C) (M:MFn X.prog X.w X.K X.mg X.base C m k ps sp) (hr:bO k X.A) (ha:PA X (e::es) t)
 (hst:starEach (e::es) X.env=(false,eval e X.env)::starEach es X.env:=by rfl) (hpl:(backTo pos (starEach es X.env)).any (·.1)=false:=by rfl)
 (ht:eval (.Call (.Attribute o m apos) (e::es) [] pos) X.env=(do
   let ov ← eval o X.env
   standAt apos.atName
   let (f,first) ← holding [ov] (getMethod ov m pl)
   callWith pos f first (backTo pos (starEach (e::es) X.env)) (backToKw pos (keywordEach [] X.env))):=by rfl) :
 PE X (.Call (.Attribute o m apos) (e::es) [] pos) (uG C m sp [] E0 ta t):=by
 obtain⟨f,fd,G,hm,hb⟩:=M.ex;exact tE (pl:=pl) he c hm G hr hb .nil qH ha (hst:=hst) (hpl:=hpl) (ht:=ht)
theorem wU (M:IFn X.prog X.w X.K X.mg X.base C k ps sp) (hr:bO (k+1) X.A) (hg:Gl X x) (hm:X.mg x=some (.ref C)) (ha:PA X (e::es) t) (hdb:(x==("__debug__":Str))=false:=by decide)
 (he:starEach (e::es) X.env=(false,eval e X.env)::starEach es X.env:=by rfl) (hpl:(backTo pos (starEach es X.env)).any (·.1)=false:=by rfl):PE X (.Call (.Name x p) (e::es) [] pos) (uH C sp [] E0 t):=by
 obtain⟨f,fd,G,hk,hb⟩:=M.ex;exact tG hk G hr hg hm hb .nil qH ha (hdb:=hdb) (he:=he) (hpl:=hpl)
def uE (K:Fg) (ta:TE):TE:=fun σ H Q=>ta σ H fun x H1=>∃ k,ut K x H1 k∧Q (.bl (!k)) H1
theorem tD (ha:PE X a ta):PE X (.UnaryOp .Not a pos) (uE X.K ta):=by
 intro pins s σ H Q I h;refine UnaryOp_ (thn (ha pins s σ H _ I h) fun v s1 z=>?_);obtain⟨x,H1,I1,r1,k,tv,q⟩:=z;refine not_of (thn (pr pins s1 σ H1 x v (fun c H2=>Q (.bl (!c)) H2) I1 r1 ⟨k,tv,q⟩) fun c s2 z2=>?_);obtain⟨H2,I2,q2⟩:=z2;exact⟨.bl (!c),H2,I2,rfl,q2⟩
end
end L2
namespace K23
open PySem L2 P10
theorem jO (i:Int) (is:List Int):inV (V.int i) (is.map V.int)=decide (i∈is):=by
 unfold inV;rw[List.any_map]
 induction is with
 | nil=>rfl
 | cons j r ih =>
  rw[List.any_cons,ih];by_cases e:j=i
  · subst e;rw[decide_eq_true (mCS)];have:((fun y=>eqV y (V.int j))∘V.int) j=true:=by show eqV (V.int j) (V.int j)=true;simp[eqV]
    rw[this];rfl
  · have:((fun y=>eqV y (V.int i))∘V.int) j=false:=by show eqV (V.int j) (V.int i)=false;simp[eqV,e]
    rw[this,Bool.false_or];exact decide_eq_decide.mpr ⟨fun z=>mCM _ z,fun z=>by rcases List.mem_cons.mp z with z | z;exact absurd z.symm e;exact z⟩
theorem gA (is:List Int):(is.map V.int).all eZ=true:=by
 rw[List.all_map,List.all_eq_true];intro x _;rfl
structure GC (K:Fg) (mg:SOV) (C:Addr):Prop where
  cls:Cls K C
  nv:d9 K C "variables"
  nr:d9 K C "restless"
  mc:mg "Ground"=some (.ref C)
def gF (va ra:Addr):List (Str×V):=[("variables",.ref va),("restless",.ref ra)]
def GV (H:Hp) (C g:Addr) (ks rs:List Int):Prop:=∃ dx va ra,H g=some (.ins C dx (gF va ra))∧H va=some (.dK (sd ks))∧H ra=some (.dK (sd rs))
theorem GV.same {H H':Hp} {C g:Addr} {ks rs:List Int} (h:GV H C g ks rs) (s:ai H H'):GV H' C g ks rs:=by
 obtain⟨dx,va,ra,a,b,c⟩:=h;exact⟨dx,va,ra,s _ _ a,s _ _ b,s _ _ c⟩
section
variable {P:Program} {w:World} {K:Fg} {mg:SOV} {base:Heap} {C:Addr}
inductive vB (C:Addr) (vs:List V) (H:Hp) (Q:VK):Prop
  | mk (x dx va ra:Addr) (h0:vs=[.ref x,.ref va,.ref ra]) (h1:H x=some (.ins C dx [])) (q:∀ H',(∀ a u,a≠x→H a=some u→H' a=some u)→H' x=some (.ins C dx (gF va ra))→Q .non H'):vB C vs H Q
def yI (C:Addr):Sp:=fun vs H Q _=>vB C vs H Q
theorem Bf:am ["self","variables","restless"] ["self","variables","restless"] (a0 (sG 0)):=fsM
theorem A2 (D:ux K C "Ground.__init__" (sG 0)) (gc:GC K mg C):IFn P w K mg base C 1 ["self","variables","restless"] (yI C):=by
 refine D.fn Bf (fun vs H Q E h=>?_) (fun _ _ _ _ _ _ us hl=>by obtain⟨a,b,c,rfl⟩:=ou hl;rfl) (fun f' cdv A outer s' H vs Q E hr h=>?_)
 · obtain⟨x,dx,va,ra,rfl,_⟩:=h;rfl
 · obtain⟨x,dx,va,ra,rfl,hx,q⟩:=h;refine⟨_,(pD (qu (pv 0) (pv 1) rfl) (pG (qu (pv 0) (pv 2) rfl))),?_⟩;dsimp only[bd];refine⟨_,rfl,_,rfl,x,C,dx,[],rfl,hx,gc.cls,gc.nv,by decide,?_⟩;refine⟨_,rfl,_,rfl,x,C,dx,_,rfl,pE,gc.cls,gc.nr,by show 1<1000;decide,?_⟩;exact q _ (fun a u ha e=>by rw[ad ha,ad ha];exact e) pE
inductive v4 (K:Fg) (C:Addr) (wd:Str) (vs:List V) (H:Hp) (Q:VK):Prop
  | mk (g:Addr) (v:V) (d:PyData) (n:Nat) (ks rs B:List Int) (h0:vs=[.ref g,v]) (hg:GV H C g ks rs) (h1:TD K H v d) (h2:WFd n d) (h3:(ax n d).length≤900000) (h6:∀ i,fh n d wd ks i→i∈B) (h7:B.length<64)
    (q:∀ a H' (ys:List Int),ai H H'→H a=none→H' a=some (.lst (ys.map V.int))→ys.Nodup→ys.Pairwise (·≤·)→(∀ i,i∈ys↔fh n d wd ks i)→Q (.ref a) H'):v4 K C wd vs H Q
def sC (K:Fg) (C:Addr) (wd:Str):Sp:=fun vs H Q _=>v4 K C wd vs H Q
theorem Bj:am ["self","e"] ["self","e"] (a0 (sG 1)):=fsM
theorem Bi:am ["self","e"] ["self","e"] (a0 (sG 2)):=fsM
theorem Bh:am ["self","e"] ["self","e"] (a0 (sG 3)):=fsM
theorem A7 (D:gW K C "read_in" "Ground.read_in" (sG 1)) (gc:GC K mg C) (dA:Fn P w K mg base "outer_vars" 3 ["e","variables","word"] (wq K)):MFn P w K mg base C "read_in" 4 ["self","e"] (sC K C "name"):=by
 refine D.fn Bj (fun vs H Q E h=>?_) (fun _ _ _ _ _ _ us hl=>by obtain⟨a,b,rfl⟩:=dl hl;rfl) (fun f' cdv A outer s' H vs Q E hr h=>?_)
 · obtain⟨g,v,d,n,ks,rs,B,rfl,_⟩:=h;rfl
 · obtain⟨g,v,d,n,ks,rs,B,rfl,⟨dx,va,ra,hg,hva,hra⟩,td,wf,hsz,hB,hB6,q⟩:=h;refine⟨_,(pG (ae (ab dA (hr.mono (by decide)) rfl (pA (pv 1) (pA (lK (pv 0) rfl) (pA pC pB)))))),?_⟩;dsimp only[bd];exact⟨_,rfl,_,rfl,g,C,dx,_,_,rfl,hg,gc.cls,gc.nv,rfl,v,va,_,d,n,ks,B,rfl,td,wf,hsz,hva,by decide +kernel,hB,hB6,q⟩
theorem A6 (D:gW K C "set_in" "Ground.set_in" (sG 2)) (gc:GC K mg C) (dA:Fn P w K mg base "outer_vars" 3 ["e","variables","word"] (wq K)):MFn P w K mg base C "set_in" 4 ["self","e"] (sC K C "set"):=by
 refine D.fn Bi (fun vs H Q E h=>?_) (fun _ _ _ _ _ _ us hl=>by obtain⟨a,b,rfl⟩:=dl hl;rfl) (fun f' cdv A outer s' H vs Q E hr h=>?_)
 · obtain⟨g,v,d,n,ks,rs,B,rfl,_⟩:=h;rfl
 · obtain⟨g,v,d,n,ks,rs,B,rfl,⟨dx,va,ra,hg,hva,hra⟩,td,wf,hsz,hB,hB6,q⟩:=h;refine⟨_,(pG (ae (ab dA (hr.mono (by decide)) rfl (pA (pv 1) (pA (lK (pv 0) rfl) (pA pC pB)))))),?_⟩;dsimp only[bd];exact⟨_,rfl,_,rfl,g,C,dx,_,_,rfl,hg,gc.cls,gc.nv,rfl,v,va,_,d,n,ks,B,rfl,td,wf,hsz,hva,by decide +kernel,hB,hB6,q⟩
inductive vd (K:Fg) (C:Addr) (vs:List V) (H:Hp) (Q:VK):Prop
  | mk (g:Addr) (v:V) (d:PyData) (n:Nat) (ks rs:List Int) (h0:vs=[.ref g,v]) (hg:GV H C g ks rs) (h1:TD K H v d) (h2:WFd n d) (h3:(bq n d).length≤900000)
    (q:∀ H',ai H H'→Q (.bl (!(bq n d).any (aJ rs))) H'):vd K C vs H Q
def yA (K:Fg) (C:Addr):Sp:=fun vs H Q _=>vd K C vs H Q
theorem A5 (D:gW K C "quiet" "Ground.quiet" (sG 3)) (gc:GC K mg C) (mE:Fn P w K mg base "is_still" 3 ["e","restless"] (yG K)):MFn P w K mg base C "quiet" 4 ["self","e"] (yA K C):=by
 refine D.fn Bh (fun vs H Q E h=>?_) (fun _ _ _ _ _ _ us hl=>by obtain⟨a,b,rfl⟩:=dl hl;rfl) (fun f' cdv A outer s' H vs Q E hr h=>?_)
 · obtain⟨g,v,d,n,ks,rs,rfl,_⟩:=h;rfl
 · obtain⟨g,v,d,n,ks,rs,rfl,⟨dx,va,ra,hg,hva,hra⟩,td,wf,hsz,q⟩:=h;refine⟨_,(pG (ae (ab mE (hr.mono (by decide)) rfl (pA (pv 1) (pA (lK (pv 0) rfl) pB))))),?_⟩;dsimp only[bd];exact⟨_,rfl,_,rfl,g,C,dx,_,_,rfl,hg,gc.cls,gc.nr,rfl,v,ra,d,n,rs,rfl,td,wf,hsz,hra,q⟩
abbrev nG6:List Str:=["self","e","other","met"]
theorem z8:am nG6 ["self","e","other"] (a0 (sG 6)):=fsM
theorem Bg:am ["self","e","other"] ["self","e","other"] (a0 (sG 7)):=fsM
theorem BK:(["number","met"]:List Str).Nodup:=by decide +kernel
theorem gr {H1:Hp} {L m:Addr} {xs ys:List Int} {Q:VK} (hL:H1 L=some (.lst (xs.map V.int))) (hm:H1 m=some (.lst (ys.map V.int))) (hl:xs.length≤900000) {G:Addr} (hG:H1 G=none) {σ0:St} (h0:∃ y,σ0=[y,some (.ref m)])
 (q:∀ H' (os:List Int),ai H1 H'→H' G=some (.lst (os.map V.int))→os.length≤xs.length→(∀ i,i∈os↔i∈xs∧i∈ys)→Q (.ref G) H'):bt (Itl K L) (dD 0) (bU (tOp (rIn K false) (aQ 0) (aQ 1))) (aQ 0) Q σ0 H1 G:=by
 have hz0:(4000000:Nat)<sizeLine:=by decide
 have k0:=smu (o:=HO.lst []) hG;refine bt.by (aI (xs:=xs.map V.int)) (fun i σ Hi=>ai H1 Hi∧(∃ os:List Int,Hi G=some (.lst (os.map V.int))∧os.length≤i∧∀ j,j∈os↔j∈xs.take i∧j∈ys)∧∃ y,σ=[y,some (.ref m)]) ⟨k0,⟨[],pE,Nat.le_refl _,fun j=>by simp⟩,h0⟩ (fun i σ Hi _ h=>SqL.of (h.1 _ _ hL)) ?_ ?_
 · rintro i u σ Hi hui ⟨si,⟨os,hGi,ol,om⟩,y,rfl⟩;rw[gEM] at hui;obtain⟨j,hj,rfl⟩:=oMS.mp hui;have hi:i<xs.length:=(gES.mp hj).1;have tk1:∀ m,m∈xs.take (i+1)↔m∈xs.take i∨m=j:=fun m=>by
    rw[tAO,hj,mAp];simp
   rw[bh];refine⟨_,rfl,_,rfl,m,_,rfl,.inl (SqL.of (si _ _ hm)),rfl,gA ys,_,rfl,?_⟩;rw[if_neg Bool.false_ne_true,jO];by_cases a1:j∈ys
   · refine pJ (by simpa using a1) ⟨_,rfl,_,hGi,by rw[lMp];omega,cy (H:=H1) si hG,⟨os++[j],by rw[pE,List.map_append];rfl,by simp;omega,fun m=>?_⟩,_,rfl⟩;rw[mAp,om,tk1,mSg];constructor
     · rintro (⟨a,b⟩ | rfl)
       · exact⟨.inl a,b⟩
       · exact⟨.inr rfl,a1⟩
     · rintro⟨a | rfl,b⟩
       · exact .inl ⟨a,b⟩
       · exact .inr rfl
   · refine pI (by simpa using a1) ⟨si,⟨os,hGi,by omega,fun m=>?_⟩,_,rfl⟩;rw[om,tk1];constructor
     · rintro⟨a,b⟩;exact⟨.inl a,b⟩
     · rintro⟨a | rfl,b⟩
       · exact⟨a,b⟩
       · exact absurd b a1
 · rintro σ Hi ⟨si,⟨os,hGi,ol,om⟩,y,rfl⟩;rw[lMp] at ol om;exact q Hi os si hGi ol fun j=>by rw[om,List.take_length]
def LvP (ks:List Int) (n:Nat) (d:PyData) (m:Nat) (e:PyData):Prop:=∀ i,fh n d "set" ks i→¬ fh m e "name" ks i∧¬ fh m e "set" ks i
structure mt (K:Fg) (H:Hp) (v:V) (d:PyData) (n:Nat) (ks B:List Int):Prop where
  td:TD K H v d
  wf:WFd n d
  sz:(ax n d).length≤900000
  hB:∀ wd i,fh n d wd ks i→i∈B
  hl:B.length<64
theorem mt.same {K:Fg} {H H':Hp} {v:V} {d:PyData} {n:Nat} {ks B:List Int} (p:mt K H v d n ks B) (s:ai H H'):mt K H' v d n ks B:=⟨p.td.same s,p.wf,p.sz,p.hB,p.hl⟩
inductive vt (K:Fg) (C:Addr) (vs:List V) (H:Hp) (Q:VK):Prop
  | mk (g:Addr) (v u:V) (d e:PyData) (n m:Nat) (ks rs B B':List Int) (h0:vs=[.ref g,v,u]) (hg:GV H C g ks rs) (h1:mt K H v d n ks B) (h2:mt K H u e m ks B')
    (q:∀ b H',ai H H'→(b=true↔LvP ks n d m e)→Q (.bl b) H'):vt K C vs H Q
def yE (K:Fg) (C:Addr):Sp:=fun vs H Q _=>vt K C vs H Q
theorem A4 (D:gW K C "leaves" "Ground.leaves" (sG 6)) (gc:GC K mg C) (M_read_in:MFn P w K mg base C "read_in" 4 ["self","e"] (sC K C "name")) (M_set_in:MFn P w K mg base C "set_in" 4 ["self","e"] (sC K C "set")):MFn P w K mg base C "leaves" 5 ["self","e","other"] (yE K C):=by
 refine D.fn z8 (fun vs H Q E h=>?_) (fun _ _ _ _ _ _ us hl=>by obtain⟨a,b,c,rfl⟩:=ou hl;rfl) (fun f' cdv A outer s' H vs Q E hr h=>?_)
 · obtain⟨g,v,u,d,e,n,m,ks,rs,B,B',rfl,_⟩:=h;rfl
 · obtain⟨g,v,u,d,e,n,m,ks,rs,B,B',rfl,hgv,p1,p2,q⟩:=h;have nd:=z8.nd;have hz0:(4000000:Nat)<sizeLine:=by decide
   refine⟨_,(pD (pL (i:=3) nd rfl (Or.inr rfl) (aC cz (dU (pv 0) gc.cls M_read_in (hr.mono (by decide)) (pA (pv 2) pB)) (dU (pv 0) gc.cls M_set_in (hr.mono (by decide)) (pA (pv 2) pB))))
 (pG (ae (tD (dW (own:=["number"]) (outs:=[(3,"met")]) (tc:=bU (tOp (rIn K false) (aQ 0) (aQ 1))) rfl (aB.of (a0 (sG 6)) nG6) (bi (dU (pv 0) gc.cls M_set_in (hr.mono (by decide)) (pA (pv 1) pB))) (fun _ _ _ _=>⟨(aw (i:=0) BK rfl (Or.inl rfl)),(bG (pM aY (pv 0) (pv 1) (by with_unfolding_all rfl))),(pv 0)⟩)))))),?_⟩
   dsimp only[bd];refine aq fun tR kN=>?_;obtain⟨dx,va,ra,hg,hva,hra⟩:=id hgv;refine⟨_,rfl,g,dx,_,rfl,hg,rfl,_,rfl,g,u,e,m,ks,rs,B',rfl,hgv,p2.td,p2.wf,p2.sz,p2.hB _,p2.hl,fun a1 H1 ys1 s1 ha1 hy1 nd1 so1 hm1=>?_⟩;have hg1:=hgv.same s1;obtain⟨dx1,va1,ra1,hgg1,_,_⟩:=id hg1;have q2:=p2.same s1;refine⟨_,rfl,g,dx1,_,rfl,hgg1,rfl,_,rfl,g,u,e,m,ks,rs,B',rfl,hg1,q2.td,q2.wf,q2.sz,q2.hB _,q2.hl,fun a2 H2 ys2 s2 ha2 hy2 nd2 so2 hm2=>?_⟩;have l1:=cw nd1 fun i hi=>p2.hB _ i ((hm1 i).mp hi);have l2:=cw nd2 fun i hi=>p2.hB _ i ((hm2 i).mp hi);have l3:=p2.hl;refine⟨a1,a2,_,_,rfl,rfl,SqL.of (s2 _ _ hy1),SqL.of hy2,by rw[lMp,lMp];omega,fun M hM=>?_⟩;rw[← List.map_append];have k3:=smu (o:=HO.lst ((ys1++ys2).map V.int)) hM;have hM3:(upd H2 M (.lst ((ys1++ys2).map V.int))) M=some (.lst ((ys1++ys2).map V.int)):=pE;refine kN _ _ ?_;generalize upd H2 M (.lst ((ys1++ys2).map V.int))=H3 at k3 hM3 ⊢;have S3:=(s1.trans s2).trans k3;have hg3:=hgv.same S3;obtain⟨dx3,va3,ra3,hgg3,_,_⟩:=id hg3;have q1:=p1.same S3;show uE _ _ _ _ _;refine⟨_,rfl,g,dx3,_,rfl,hgg3,rfl,_,rfl,g,v,d,n,ks,rs,B,rfl,hg3,q1.td,q1.wf,q1.sz,q1.hB _,q1.hl,fun a4 H4 ys4 s4 ha4 hy4 nd4 so4 hm4=>?_⟩;refine⟨a4,rfl,⟨_,SqL.of hy4⟩,fun G hG=>?_⟩;have l4:=cw nd4 fun i hi=>p1.hB _ i ((hm4 i).mp hi);have l5:=p1.hl;show bt (Itl K a4) (dD 0) (bU (tOp (rIn K false) (aQ 0) (aQ 1))) (aQ 0) (fun x H1=>∃ k,ut K x H1 k∧Q (.bl (!k)) H1) [none,some (.ref M)] H4 G;refine gr hy4 (s4 _ _ hM3) (by omega) hG ⟨_,rfl⟩ fun H5 os s5 hos _ om=>?_;refine⟨_,.inl ⟨_,SqL.of hos,rfl⟩,q _ H5 ((S3.trans s4).trans s5) ?_⟩;have key:∀ i,i∈os↔fh n d "set" ks i∧(fh m e "name" ks i∨fh m e "set" ks i):=fun i=>by rw[om,hm4,mAp,hm1,hm2]
   have nb:(!!(os.map V.int).isEmpty)=true↔∀ i,i∉os:=by
    cases os with
    | nil=>exact⟨fun _ i z=>(by cases z),fun _=>rfl⟩
    | cons y r=>exact⟨fun z=>(by cases z),fun z=>absurd mCS (z y)⟩
   rw[nb];constructor
   · exact fun z i hi=>⟨fun y=>z i ((key i).mpr ⟨hi,.inl y⟩),fun y=>z i ((key i).mpr ⟨hi,.inr y⟩)⟩
   · exact fun z i hi=>by
      obtain⟨a,b⟩:=(key i).mp hi;exact b.elim (z i a).1 (z i a).2
inductive vH (K:Fg) (C:Addr) (vs:List V) (H:Hp) (Q:VK):Prop
  | mk (g:Addr) (v u:V) (d e:PyData) (n m:Nat) (ks rs B B':List Int) (h0:vs=[.ref g,v,u]) (hg:GV H C g ks rs) (h1:mt K H v d n ks B) (h2:mt K H u e m ks B')
    (q:∀ b H',ai H H'→(b=true↔LvP ks n d m e∧LvP ks m e n d∧((bq n d).any (aJ rs)=false∨(bq m e).any (aJ rs)=false))→Q (.bl b) H'):vH K C vs H Q
def yL (K:Fg) (C:Addr):Sp:=fun vs H Q _=>vH K C vs H Q
theorem A3 (D:gW K C "apart" "Ground.apart" (sG 7)) (gc:GC K mg C) (M_leaves:MFn P w K mg base C "leaves" 5 ["self","e","other"] (yE K C)) (M_quiet:MFn P w K mg base C "quiet" 4 ["self","e"] (yA K C)):MFn P w K mg base C "apart" 6 ["self","e","other"] (yL K C):=by
 refine D.fn Bg (fun vs H Q E h=>?_) (fun _ _ _ _ _ _ us hl=>by obtain⟨a,b,c,rfl⟩:=ou hl;rfl) (fun f' cdv A outer s' H vs Q E hr h=>?_)
 · obtain⟨g,v,u,d,e,n,m,ks,rs,B,B',rfl,_⟩:=h;rfl
 · obtain⟨g,v,u,d,e,n,m,ks,rs,B,B',rfl,hgv,p1,p2,q⟩:=h;refine⟨_,(pD (az (PW.pt (dO (fg (dP (dU (pv 0) gc.cls M_leaves (hr.mono (by decide)) (pA (pv 1) (pA (pv 2) pB))))) (cY (fg (dP (dU (pv 0) gc.cls M_leaves (hr.mono (by decide)) (pA (pv 2) (pA (pv 1) pB)))))))) (pG (ae bD)) ah)
 (pG (ae (zB (dU (pv 0) gc.cls M_quiet (hr.mono (by decide)) (pA (pv 1) pB)) (wS (dU (pv 0) gc.cls M_quiet (hr.mono (by decide)) (pA (pv 2) pB))))))),?_⟩
   refine aq fun tR kN=>?_;obtain⟨dx,va,ra,hg,hva,hra⟩:=id hgv;refine⟨_,rfl,g,dx,_,rfl,hg,rfl,_,rfl,_,rfl,g,v,u,d,e,n,m,ks,rs,B,B',rfl,hgv,p1,p2,fun b1 H1 s1 hb1=>⟨_,rfl,?_⟩⟩;have hg1:=hgv.same s1;obtain⟨dx1,va1,ra1,hgg1,_,_⟩:=id hg1;cases b1 with
   | false=>exact cB (cB (q false H1 s1 ⟨fun z=>(by cases z),fun z=>by have:=hb1.mpr z.1;cases this⟩))
   | true =>
    refine fw ?_;refine⟨_,rfl,g,dx1,_,rfl,hgg1,rfl,_,rfl,_,rfl,g,u,v,e,d,m,n,ks,rs,B',B,rfl,hg1,p2.same s1,p1.same s1,fun b2 H2 s2 hb2=>⟨_,rfl,?_⟩⟩;have S2:=s1.trans s2;cases b2 with
    | false=>exact cB (q false H2 S2 ⟨fun z=>(by cases z),fun z=>by have:=hb2.mpr z.2.1;cases this⟩)
    | true =>
     refine fw (kN _ _ ?_);have hg2:=hgv.same S2;obtain⟨dx2,va2,ra2,hgg2,_,_⟩:=id hg2;have q1:=p1.same S2;refine⟨_,rfl,g,dx2,_,rfl,hgg2,rfl,_,rfl,g,v,d,n,ks,rs,rfl,hg2,q1.td,q1.wf,Nat.le_trans (iB n d) q1.sz,fun H3 s3=>⟨_,rfl,?_⟩⟩;have S3:=S2.trans s3;cases e1:(bq n d).any (aJ rs) with
     | false=>exact cB (q true H3 S3 ⟨fun _=>⟨hb1.mp rfl,hb2.mp rfl,.inl e1⟩,fun _=>rfl⟩)
     | true =>
      refine fw ?_;have hg3:=hgv.same S3;obtain⟨dx3,va3,ra3,hgg3,_,_⟩:=id hg3;have q2:=p2.same S3;refine⟨_,rfl,g,dx3,_,rfl,hgg3,rfl,_,rfl,g,u,e,m,ks,rs,rfl,hg3,q2.td,q2.wf,Nat.le_trans (iB m e) q2.sz,fun H4 s4=>?_⟩;refine q _ H4 (S3.trans s4) ?_;rw[Bool.not_eq_true'];constructor
      · exact fun z=>⟨hb1.mp rfl,hb2.mp rfl,.inr z⟩
      · rintro⟨_,_,z | z⟩
        · rw[e1] at z;cases z
        · exact z
end
structure iX (K:Fg) (H:Hp) (vc:V) (gs:PDs) (fi:Nat) (d:PyData):Prop where
  tc:∃ rs os,TD K H vc (gM gs rs os)
  gf:∃ h c,gs[fi]?=some (fnD h c d)
  fk:rP gs
  gl:gs.length≤10
  sz:(ax 9 d).length≤900000
theorem iX.same {K:Fg} {H H':Hp} {vc:V} {gs:PDs} {fi:Nat} {d:PyData} (A:iX K H vc gs fi d) (s:ai H H'):iX K H' vc gs fi d:=by
 obtain⟨rs,os,t⟩:=A.tc;exact⟨⟨rs,os,t.same s⟩,A.gf,A.fk,A.gl,A.sz⟩
theorem iX.wf {K:Fg} {H:Hp} {vc:V} {gs:PDs} {fi:Nat} {d:PyData} (A:iX K H vc gs fi d):WFd 9 d:=by
 obtain⟨h,c,g⟩:=A.gf;obtain⟨h',c',d',e,w,_⟩:=A.fk _ (mGE g);cases e;exact w
theorem iX.body {K:Fg} {H:Hp} {vc:V} {gs:PDs} {fi:Nat} {d:PyData} (A:iX K H vc gs fi d):∃ a b r xs ta vb r2,vc=.ref a∧SqT K H a (.ref b::r)∧SqT K H b xs∧TD K H (.ref b) (.tuple gs)∧xs[fi]?=some (.ref ta)∧SqT K H ta (r2++[vb])∧r2.length=2∧TD K H vb d:=by
 obtain⟨rs,os,t⟩:=A.tc;obtain⟨h,c,g⟩:=A.gf;obtain⟨a,b,c',e,xs,zs,rfl,ha,hb,hx,tb,_⟩:=fQ t;obtain⟨x,hxi,tx⟩:=hx.at g;obtain⟨ta,us,rfl,hta,hus⟩:=(show TD K H x (.tuple [.str h,.int ((c:Nat):Int),d]) from tx).tup_of;obtain⟨u1,u2,vb,rfl,a1,a2,t3⟩:=jr hus;exact⟨a,b,_,xs,ta,vb,[u1,u2],rfl,ha,hb,tb,hxi,hta,rfl,t3⟩
theorem mh {r2:List V} {vb:V} (h:r2.length=2):atI (r2++[vb]) 2=some vb:=pH (j:=2) (by rw[List.getElem?_append_right (by omega),h];rfl)
section
variable {P:Program} {w:World} {K:Fg} {mg:SOV} {base:Heap} {C:Addr}
abbrev sGo:Stmt:=top 17
inductive vA (K:Fg) (C:Addr) (vs:List V) (H:Hp) (Q:VK):Prop
  | mk (vc:V) (gs:PDs) (fi:Nat) (d:PyData) (h0:vs=[vc,.int ((fi:Nat):Int)]) (h1:iX K H vc gs fi d) (q:∀ g H' ks rs,ai H H'→GV H' C g ks rs→(∀ i,i∈ks↔i∈eR 9 d)→(∀ i,i∈rs↔Rl gs i)→Q (.ref g) H'):vA K C vs H Q
def yH (K:Fg) (C:Addr):Sp:=fun vs H Q _=>vA K C vs H Q
theorem Be:am ["core","function"] ["core","function"] (a0 sGo):=fsM
theorem zZ (D:Def K mg "ground_of" sGo) (gc:GC K mg C) (oS:Fn P w K mg base "vars_of" 3 ["body"] (yx K)) (et:Fn P w K mg base "restless_functions" 3 ["functions"] (yz K)) (I_Ground:IFn P w K mg base C 1 ["self","variables","restless"] (yI C)):Fn P w K mg base "ground_of" 4 ["core","function"] (yH K C):=by
 refine D.fn Be (fun vs H Q E h=>?_) (fun _ _ _ _ _ _ us hl=>by obtain⟨a,b,rfl⟩:=dl hl;rfl) (fun f' cdv A outer s' H vs Q E hr h=>?_)
 · obtain⟨vc,gs,fi,d,rfl,_⟩:=h;rfl
 · obtain⟨vc,gs,fi,d,rfl,ac,q⟩:=h;obtain⟨a,b,r,xs,ta,vb,r2,rfl,ha,hb,tb,hx,hta,r2l,tv⟩:=ac.body;refine⟨_,(pG (ae (wU I_Ground (hr.mono (by decide)) rfl gc.mc (pA (ab oS (hr.mono (by decide)) rfl (pA (aa a9 (aa a9 (aa a9 (pv 0) pF (fun _ _=>rfl)) (pv 1) (fun _ _=>rfl)) pF (fun _ _=>rfl)) pB)) (pA (ab et (hr.mono (by decide)) rfl (pA (aa a9 (pv 0) pF (fun _ _=>rfl)) pB)) pB))))),?_⟩;dsimp only[bd];refine⟨_,rfl,a,_,_,_,rfl,rfl,ha,pH (j:=0) rfl,_,rfl,b,_,_,_,rfl,rfl,hb,pH hx,ta,_,_,_,rfl,rfl,hta,mh r2l,vb,d,9,rfl,tv,ac.wf,ac.sz,fun va H1 ks s1 hva hk1 km=>?_⟩;refine⟨_,rfl,a,_,_,_,rfl,rfl,ha.tk s1.tk,pH (j:=0) rfl,b,gs,rfl,tb.same s1,ac.fk,ac.gl,fun ra H2 rs s2 hra hk2 rm=>?_⟩;refine fun x dx hx0 hdx ne=>?_;have k3:=smu (o:=HO.own x) hdx;have hx1:(upd H2 dx (.own x)) x=none:=by rw[ad (Ne.symm ne)];exact hx0
   have k4:=smu (o:=HO.ins C dx []) hx1;have k34:=k3.trans k4;refine⟨x,dx,va,ra,rfl,pE,fun H3 kp h3=>⟨rfl,?_⟩⟩;have s3:ai H2 H3:=fun b u e=>kp b u (af e hx0) (k34 _ _ e);exact q x H3 ks rs ((s1.trans s2).trans s3) ⟨dx,va,ra,h3,s3 _ _ (s2 _ _ hk1),s3 _ _ hk2⟩ km rm
def kH (m:Nat) (e:PyData) (wd:Str) (d:PyData) (i:Int):Prop:=(∃ x∈ax m e,hdO x=wd∧du x=some (.int i))∧i∈eR 9 d∧i∉iA m e
theorem dX {m:Nat} {e d:PyData} {wd:Str} {ks:List Int} (h:∀ i,i∈ks↔i∈eR 9 d) (i:Int):fh m e wd ks i↔kH m e wd d i:=by
 unfold fh kH;rw[h]
theorem ju {n m:Nat} {d e:PyData} (h:Sub n d m e):(ax m e).length≤(ax n d).length:=by
 induction h with
 | here=>exact Nat.le_refl _
 | @kid n m d x f hx _ ih =>
  show _≤(d::((aj d).map (ax n)).flatten).length;have:∀ {l:PDs},x∈l→(ax n x).length≤((l.map (ax n)).flatten).length:=fun {l} hl=>by
   induction l with
   | nil=>cases hl
   | cons y r ih =>
    rw[List.map_cons,List.flatten_cons,lAp]
    rcases List.mem_cons.mp hl with rfl | hl
    · omega
    · have:=ih hl;omega
  have:=this hx;rw[List.length_cons];omega
structure Plc (K:Fg) (H:Hp) (vp:V) (d e:PyData) (m:Nat) (B:List Int):Prop where
  tp:∃ path,TD K H vp (dN path)∧atD d path=some e
  wf:WFd m e
  sz:(ax m e).length≤900000
  hB:∀ wd i,kH m e wd d i→i∈B
  hl:B.length<64
def LvD (d e e':PyData):Prop:=∀ i,kH 9 e "set" d i→¬ kH 9 e' "name" d i∧¬ kH 9 e' "set" d i
theorem qP {ks:List Int} {d e e':PyData} (h:∀ i,i∈ks↔i∈eR 9 d):LvP ks 9 e 9 e'↔LvD d e e':=by
 unfold LvP LvD;exact forall_congr' fun i=>by rw[dX h,dX h,dX h]
abbrev sAa:Stmt:=top 18
inductive vI (K:Fg) (vs:List V) (H:Hp) (Q:VK):Prop
  | mk (vc vp vo:V) (gs:PDs) (fi:Nat) (d e e':PyData) (B B':List Int) (h0:vs=[vc,.int ((fi:Nat):Int),vp,vo]) (h1:iX K H vc gs fi d) (h2:Plc K H vp d e 9 B) (h3:Plc K H vo d e' 9 B')
    (q:∀ rs b H',ai H H'→(∀ i,i∈rs↔Rl gs i)→(b=true↔LvD d e e'∧LvD d e' e∧((bq 9 e).any (aJ rs)=false∨(bq 9 e').any (aJ rs)=false))→Q (.bl b) H'):vI K vs H Q
def yM (K:Fg):Sp:=fun vs H Q _=>vI K vs H Q
abbrev nAa:List Str:=["core","function","path","other","body"]
theorem zi:am nAa ["core","function","path","other"] (a0 sAa):=fsM
theorem Ak (D:Def K mg "are_apart" sAa) (gc:GC K mg C) (lg:Fn P w K mg base "ground_of" 4 ["core","function"] (yH K C)) (jp:Fn P w K mg base "at_path" 2 ["e","path"] (yK K)) (M:MFn P w K mg base C "apart" 6 ["self","e","other"] (yL K C)):Fn P w K mg base "are_apart" 7 ["core","function","path","other"] (yM K):=by
 refine D.fn zi (fun vs H Q E h=>?_) (fun _ _ _ _ _ _ us hl=>by obtain⟨a,b,c,d,rfl⟩:=j4 hl;rfl) (fun f' cdv A outer s' H vs Q E hr h=>?_)
 · obtain⟨vc,vp,vo,gs,fi,d,e,e',B,B',rfl,_⟩:=h;rfl
 · obtain⟨vc,vp,vo,gs,fi,d,e,e',B,B',rfl,ac,pl,pm,q⟩:=h;have nd:=zi.nd;refine⟨_,(pD (pL (i:=4) nd rfl (Or.inl rfl) (aa a9 (aa a9 (aa a9 (pv 0) pF (fun _ _=>rfl)) (pv 1) (fun _ _=>rfl)) pF (fun _ _=>rfl)))
 (pG (ae (dU (ab lg (hr.mono (by decide)) rfl (pA (pv 0) (pA (pv 1) pB))) gc.cls M (hr.mono (by decide)) (pA (ab jp (hr.mono (by decide)) rfl (pA (pv 4) (pA (pv 2) pB))) (pA (ab jp (hr.mono (by decide)) rfl (pA (pv 4) (pA (pv 3) pB))) pB)))))),?_⟩
   dsimp only[bd];refine aq fun tR kN=>?_;obtain⟨a,b,r,xs,ta,vb,r2,rfl,ha,hb,tb,hx,hta,r2l,tv⟩:=ac.body;refine⟨_,rfl,a,_,_,_,rfl,rfl,ha,pH (j:=0) rfl,_,rfl,b,_,_,_,rfl,rfl,hb,pH hx,ta,_,_,_,rfl,rfl,hta,mh r2l,?_⟩;refine kN _ _ ?_;refine⟨_,rfl,_,rfl,.ref a,gs,fi,d,rfl,ac,fun g H1 ks rs s1 hgv km rm=>?_⟩;obtain⟨dx,va,ra,hg,hva,hra⟩:=id hgv;obtain⟨path,tp,hat⟩:=pl.tp;obtain⟨path',tp',hat'⟩:=pm.tp;refine⟨g,dx,_,rfl,hg,rfl,_,rfl,_,rfl,vb,vp,9,d,path,rfl,tv.same s1,ac.wf,tp.same s1,fun v' H2 s2 av=>?_⟩;rw[hat] at av;have S:=s1.trans s2;refine⟨_,rfl,_,rfl,vb,vo,9,d,path',rfl,tv.same S,ac.wf,tp'.same S,fun u' H3 s3 au=>?_⟩;rw[hat'] at au;have S3:=S.trans s3;have av':TD K H2 v' e:=av;have au':TD K H3 u' e':=au;refine⟨g,v',u',e,e',9,9,ks,rs,B,B',rfl,hgv.same (s2.trans s3),⟨av'.same s3,pl.wf,pl.sz,fun wd i z=>pl.hB wd i ((dX km i).mp z),pl.hl⟩,⟨au',pm.wf,pm.sz,fun wd i z=>pm.hB wd i ((dX km i).mp z),pm.hl⟩,fun b4 H4 s4 hb4=>?_⟩;exact q rs b4 H4 (S3.trans s4) rm (by rw[hb4,qP km,qP km])
end
end K23
namespace P10
open PySem L2
def wB:List Str:=["do","op","new","call"]
theorem kdB {h:Str} {sl:List Str} (m:(h,sl)∈tbl) (e:aU h wB=true):sl=(["many"]:List Str)∨sl=(["op","many"]:List Str)∨sl=(["place","many"]:List Str):=by
 have:∀ p∈tbl,aU p.1 wB=true→p.2=(["many"]:List Str)∨p.2=(["op","many"]:List Str)∨p.2=(["place","many"]:List Str):=by decide +kernel
 exact this _ m e
theorem kdE {h:Str} {sl:List Str} (m:(h,sl)∈tbl) (e:h="if"∨h="while"):sl=(["one","one","one"]:List Str)∨sl=(["one","one"]:List Str):=by
 have:∀ p∈tbl,p.1="if"∨p.1="while"→p.2=(["one","one","one"]:List Str)∨p.2=(["one","one"]:List Str):=by decide +kernel
 exact this _ m e
theorem kdF {h:Str} {sl:List Str} (m:(h,sl)∈tbl) (e1:aU h w1=false) (e2:aU h wB=false) (e3:h≠"apply") (e4:aU h w2=false) (e5:¬ (h="if"∨h="while")):sl=(["meant","one"]:List Str)∨sl=(["one"]:List Str)∨sl=(["place","place","one"]:List Str)∨sl=(["bounds","one"]:List Str):=by
 have:∀ p∈tbl,aU p.1 w1=false→aU p.1 wB=false→p.1≠"apply"→aU p.1 w2=false→¬ (p.1="if"∨p.1="while")→p.2=(["meant","one"]:List Str)∨p.2=(["one"]:List Str)∨p.2=(["place","place","one"]:List Str)∨p.2=(["bounds","one"]:List Str):=by decide +kernel
 exact this _ m e1 e2 e3 e4 e5
theorem nJ {xs:List V} {v:V}:atI (xs++[v]) ((((xs++[v]).length:Nat):Int)-1)=some v:=by
 have e:((((xs++[v]).length:Nat):Int)-1)=((xs.length:Nat):Int):=by rw[lAp];show ((xs.length+1:Nat):Int)-1=_;omega
 rw[e];exact pH (by rw[List.getElem?_append_right (Nat.le_refl _),Nat.sub_self];rfl)
end P10
namespace K23
open PySem L2 P10
section
variable {P:Program} {w:World} {K:Fg} {mg:SOV} {base:Heap}
abbrev sLc:Stmt:=top 32
theorem Bc:am ["_law_e_here"] ["_law_e_here"] (a0 sLc):=fsM
theorem zW (D:Def K mg "_law_children" sLc) (T:Blt mg):Fn P w K mg base "_law_children" 1 ["_law_e_here"] (gP K):=by
 refine D.fn Bc (fun vs H Q E h=>?_) (fun _ _ _ _ _ _ us hl=>by obtain⟨a,rfl⟩:=iF hl;rfl) (fun f cdv A outer s' H vs Q E hr h=>?_)
 · obtain⟨v,d,h',sl,ps,rfl,_⟩:=h;rfl
 · obtain⟨v,d,hd,sl,ps,rfl,td,nd',q⟩:=h;obtain⟨a,vs,rfl,ha,hvs⟩:=bR td nd';obtain⟨rfl,hm,hshp,hfew⟩:=nd';have hz0:(100:Nat)<sizeLine:=by decide
   have at0:∀ {x:V} {r:List V},atI (x::r) 0=some x:=fun {x r}=>pH (j:=0) rfl;have at1:∀ {x y:V} {r:List V},atI (x::y::r) 1=some y:=fun {x y r}=>pH (j:=1) rfl;have at2:∀ {x y z:V} {r:List V},atI (x::y::z::r) 2=some z:=fun {x y z r}=>pH (j:=2) rfl;refine⟨_,(pD (az (pM aY (aa a9 (pv 0) pF (fun _ _=>rfl)) (@ag _ _ _ _ _ (@pA _ _ _ _ _ pC (@pA _ _ _ _ _ pC (@pA _ _ _ _ _ pC pB (by rfl)) (by rfl)) (by rfl))) (by with_unfolding_all rfl)) (pG (ae (ag pB))) ah)
 (pD (az (pM aY (aa a9 (pv 0) pF (fun _ _=>rfl)) (@ag _ _ _ _ _ (@pA _ _ _ _ _ pC (@pA _ _ _ _ _ pC (@pA _ _ _ _ _ pC (@pA _ _ _ _ _ pC pB (by rfl)) (by rfl)) (by rfl)) (by rfl))) (by with_unfolding_all rfl)) (pG (ae (aa a9 (pv 0) (aC d0 (bJ T.len (pA (pv 0) pB)) pF) (fun _ _=>rfl)))) ah)
 (pD (az (pM aH (aa a9 (pv 0) pF (fun _ _=>rfl)) pC (pN _)) (pG (ae (aC eM (ag (pA (aa a9 (pv 0) pF (fun _ _=>rfl)) pB)) (aa a9 (pv 0) pF (fun _ _=>rfl))))) ah)
 (pD (az (pM aY (aa a9 (pv 0) pF (fun _ _=>rfl)) (@ag _ _ _ _ _ (@pA _ _ _ _ _ pC (@pA _ _ _ _ _ pC (@pA _ _ _ _ _ pC pB (by rfl)) (by rfl)) (by rfl))) (by with_unfolding_all rfl)) (pG (ae (dS hU (pv 0) (eJ pF) fH))) ah)
 (pD (az (PW.pt (dO (pM aH (aa a9 (pv 0) pF (fun _ _=>rfl)) pC (pN _)) (cY (pM aH (aa a9 (pv 0) pF (fun _ _=>rfl)) pC (pN _))))) (pG (ae (dS hU (pv 0) (eJ pF) fH))) ah)
 (pG (ae (ag (pA (aa a9 (pv 0) (aC d0 (bJ T.len (pA (pv 0) pB)) pF) (fun _ _=>rfl)) pB))))))))),?_⟩
   dsimp only[bd];refine⟨_,rfl,a,_,0,.str hd,rfl,rfl,ha,at0,fX,fun t1 ht1=>?_⟩;have k1:=smu (o:=HO.tup (w1.map V.str)) ht1;refine⟨t1,w1.map V.str,rfl,.inr (SqT.of pE),rfl,br _,_,rfl,?_⟩;rw[bH];have tvs1:=hvs.same k1;have ha1:=ha.tk k1.tk;have S1:ai H (upd H t1 (.tup [V.str "number",V.str "name",V.str "fault"])):=k1;have step:∀ (H':Hp),ai H H'→SqT K H' a (.str hd::vs)∧TDs K H' vs ps:=fun H' s=>⟨ha.tk s.tk,hvs.same s⟩;clear tvs1 ha1 k1;generalize upd H t1 (.tup [V.str "number",V.str "name",V.str "fault"])=H1 at S1 ⊢;by_cases e1:aU hd w1=true
   · refine pJ e1 ?_;refine⟨lm,fun t ht=>?_⟩;have kt:=smu (o:=HO.tup []) ht;have ek:aX sl ps=[]:=by
      have hk:sl.length=1∧∀ s∈sl,s≠"one"∧s≠"many":=by
       rcases uR hm e1 with rfl | rfl | rfl <;> decide +kernel
      rcases uR hm e1 with rfl | rfl | rfl <;> obtain⟨p,rfl,_⟩:=i6 hshp <;> rfl
     rw[ek] at q;exact q _ _ (S1.trans kt) (.tup (SqT.of pE) .nil)
   have e1':aU hd w1=false:=by simpa using e1
   refine pI e1 ?_;obtain⟨ha1,tv1⟩:=step H1 S1;refine⟨_,rfl,a,_,0,.str hd,rfl,rfl,ha1,at0,rR,fun t2 ht2=>?_⟩;have k2:=smu (o:=HO.tup (wB.map V.str)) ht2;refine⟨t2,wB.map V.str,rfl,.inr (SqT.of pE),rfl,br _,_,rfl,?_⟩;rw[bH];have S2:ai H (upd H1 t2 (.tup [V.str "do",V.str "op",V.str "new",V.str "call"])):=S1.trans k2;generalize upd H1 t2 (.tup [V.str "do",V.str "op",V.str "new",V.str "call"])=H2 at S2 ⊢;obtain⟨ha2,tv2⟩:=step H2 S2;by_cases e2:aU hd wB=true
   · refine pJ e2 ?_;obtain⟨pre,vl,l,rfl,tl,ek⟩:∃ pre vl l,vs=pre++[vl]∧TD K H2 vl (.tuple l)∧aX sl ps=l:=by
      rcases kdB hm e2 with rfl | rfl | rfl
      · obtain⟨p,rfl,s1⟩:=i6 hshp;obtain⟨l,rfl⟩:=s1.1 rfl;obtain⟨x,rfl,tx⟩:=vT tv2;exact⟨[],x,l,rfl,tx,by show l++[]=l;simp⟩
      · obtain⟨p,p2,rfl,_,s2⟩:=cQ hshp;obtain⟨l,rfl⟩:=s2.1 rfl;obtain⟨x,y,rfl,_,ty⟩:=lC tv2;exact⟨[x],y,l,rfl,ty,by show []++(l++[])=l;simp⟩
      · obtain⟨p,p2,rfl,_,s2⟩:=cQ hshp;obtain⟨l,rfl⟩:=s2.1 rfl;obtain⟨x,y,rfl,_,ty⟩:=lC tv2;exact⟨[x],y,l,rfl,ty,by show []++(l++[])=l;simp⟩
     rw[ek] at q;exact⟨_,rfl,_,rfl,a,_,rfl,.inr ha2,_,_,rfl,rfl,a,_,_,_,rfl,rfl,ha2,nJ (xs:=.str hd::pre),q _ _ S2 tl⟩
   have e2':aU hd wB=false:=by simpa using e2
   refine pI e2 ?_;refine⟨_,rfl,a,_,_,_,rfl,rfl,ha2,at0,rfl,_,rfl,?_⟩;by_cases e3:hd="apply"
   · refine pJ (by simp[e3]) ?_;subst e3;have:=xK hm;subst this;obtain⟨p,p2,rfl,_,s2⟩:=cQ hshp;obtain⟨l,rfl⟩:=s2.1 rfl;obtain⟨x,y,rfl,tx,ty⟩:=lC tv2;refine⟨_,rfl,a,_,_,_,rfl,rfl,ha2,at1,ke,fun t3 ht3=>?_⟩;have k3:=smu (o:=HO.tup [x]) ht3;have tt:TD K (upd H2 t3 (.tup [x])) (.ref t3) (.tuple [p]):=.tup (SqT.of pE) (.cons (tx.same k3) .nil);obtain⟨yb,ys,rfl,hyb,hys⟩:=(ty.same k3).tup_of;refine⟨_,rfl,a,_,_,_,rfl,rfl,ha2.tk k3.tk,at2,?_⟩;refine cS tt (ty.same k3) (by have:(aX ["one","many"] [p,.tuple l]).length≤8:=hfew;rw[show aX ["one","many"] [p,.tuple l]=[p]++(l++[]) from rfl] at this;simp at this ⊢;omega) fun p6 H6 k6 t6=>?_;have ek:aX ["one","many"] [p,.tuple l]=[p]++l:=by show [p]++(l++[])=_;simp
     rw[ek] at q;exact q _ _ ((S2.trans k3).trans k6) t6
   refine pI (by simpa using e3) ?_;refine⟨_,rfl,a,_,0,.str hd,rfl,rfl,ha2,at0,fX,fun t4 ht4=>?_⟩;have k4:=smu (o:=HO.tup (w2.map V.str)) ht4;refine⟨t4,w2.map V.str,rfl,.inr (SqT.of pE),rfl,br _,_,rfl,?_⟩;rw[bH];have S4:ai H (upd H2 t4 (.tup [V.str "let",V.str "var",V.str "each"])):=S2.trans k4;generalize upd H2 t4 (.tup [V.str "let",V.str "var",V.str "each"])=H4 at S4 ⊢;obtain⟨ha4,tv4⟩:=step H4 S4;by_cases e4:aU hd w2=true
   · refine pJ e4 ?_;have:=nG hm e4;subst this;obtain⟨p,p2,p3,rfl,s1,s2,s3⟩:=i5 hshp;obtain⟨x,y,z,rfl,tx,ty,tz⟩:=jr tv4;refine⟨_,rfl,2,rfl,a,_,rfl,ha4,fun z=>?_,fun p6 hp6=>?_⟩
     · have:=congrArg List.length z;rw[show (some (2:Int))=some (((2:Nat):Nat):Int) from rfl,eh] at this;simp at this
     · rw[show (some (2:Int))=some (((2:Nat):Nat):Int) from rfl,eh];have k6:=smu (o:=HO.tup [y,z]) hp6;have ek:aX ["bound","one","one"] [p,p2,p3]=[p2,p3]:=rfl;rw[ek] at q;exact q _ _ (S4.trans k6) (.tup (SqT.of pE) (.cons (ty.same k6) (.cons (tz.same k6) .nil)))
   have e4':aU hd w2=false:=by simpa using e4
   refine pI e4 ?_;have sl1:hd="if"∨hd="while"→tSl (qm K) (aQ 0) (pO (tC (.int 1))) js [some (.ref a)] H4 Q:=fun e5=>by
    have ek:aX sl ps=ps:=by
     rcases kdE hm e5 with rfl | rfl
     · obtain⟨p,p2,p3,rfl,_⟩:=i5 hshp;rfl
     · obtain⟨p,p2,rfl,_⟩:=cQ hshp;rfl
    rw[ek] at q;refine⟨_,rfl,1,rfl,a,_,rfl,ha4,fun z=>?_,fun p6 hp6=>?_⟩
    · have:=congrArg List.length z;rw[show (some (1:Int))=some (((1:Nat):Nat):Int) from rfl,eh] at this;simp at this
    · rw[show (some (1:Int))=some (((1:Nat):Nat):Int) from rfl,eh];have k6:=smu (o:=HO.tup vs) hp6;exact q _ _ (S4.trans k6) (.tup (SqT.of pE) (tv4.same k6))
   refine⟨_,rfl,a,_,_,_,rfl,rfl,ha4,at0,rfl,_,rfl,?_⟩;by_cases e5:hd="if"
   · refine pJ (by simp[e5]) ?_;exact cB (sl1 (.inl e5))
   refine pI (by simpa using e5) ?_;refine⟨_,rfl,a,_,_,_,rfl,rfl,ha4,at0,rfl,_,rfl,?_⟩;by_cases e6:hd="while"
   · exact pJ (by simp[e6]) (sl1 (.inr e6))
   refine pI (by simpa using e6) ?_;obtain⟨pre,vl,l,rfl,tl,ek⟩:∃ pre vl l,vs=pre++[vl]∧TD K H4 vl l∧aX sl ps=[l]:=by
    rcases kdF hm e1' e2' e3 e4' (by rintro (z | z);exact e5 z;exact e6 z) with rfl | rfl | rfl | rfl
    · obtain⟨p,p2,rfl,_⟩:=cQ hshp;obtain⟨x,y,rfl,_,ty⟩:=lC tv4;exact⟨[x],y,p2,rfl,ty,rfl⟩
    · obtain⟨p,rfl,_⟩:=i6 hshp;obtain⟨x,rfl,tx⟩:=vT tv4;exact⟨[],x,p,rfl,tx,rfl⟩
    · obtain⟨p,p2,p3,rfl,_⟩:=i5 hshp;obtain⟨x,y,z,rfl,_,_,tz⟩:=jr tv4;exact⟨[x,y],z,p3,rfl,tz,rfl⟩
    · obtain⟨p,p2,rfl,_⟩:=cQ hshp;obtain⟨x,y,rfl,_,ty⟩:=lC tv4;exact⟨[x],y,p2,rfl,ty,rfl⟩
   rw[ek] at q;refine⟨_,rfl,_,rfl,a,_,rfl,.inr ha4,_,_,rfl,rfl,a,_,_,_,rfl,rfl,ha4,nJ (xs:=.str hd::pre),ke,fun t7 ht7=>?_⟩;have k7:=smu (o:=HO.tup [vl]) ht7;exact q _ _ (S4.trans k7) (.tup (SqT.of pE) (.cons (tl.same k7) .nil))
end
end K23
namespace P10
open PySem L2
def eV (b:Bool) (n:Nat) (d:PyData):PDs:=if b=true then ax n d else cs n d
def fL (b:Bool) (d:PyData):PDs:=if b=true∨hdO d≠"fun" then aj d else []
theorem kq (b:Bool) (n:Nat) (d:PyData):eV b (n+1) d=d::((fL b d).map (eV b n)).flatten:=by
 cases b with
 | true =>
  have e:fL true d=aj d:=by unfold fL;rw[if_pos (.inl rfl)]
  rw[e];rfl
 | false =>
  have e:fL false d=cR d:=by
   unfold fL cR;by_cases h:hdO d="fun"
   · rw[if_pos h,if_neg (by rintro (z | z);cases z;exact z h)]
   · rw[if_neg h,if_pos (.inr h)]
  rw[e];exact eL n d
theorem nO (b:Bool) (n:Nat) (d:PyData):(eV b n d).length≤(ax n d).length:=by
 cases b with
 | true=>exact Nat.le_refl _
 | false=>exact kI n d
theorem oF {f:PyData→PDs} (l:PDs) (i:Nat):(((l.take i).map f).flatten).length≤((l.map f).flatten).length:=by
 conv=>rhs;rw[← List.take_append_drop i l,List.map_append,List.flatten_append,lAp]
 omega
def ff:Nat→PyData→List Nat→List (List Nat)
  | 0,_,_=>[]
  | n+1,d,p=>p::((List.range (aj d).length).map fun k=>ff n (((aj d)[k]?).getD .none) (p++[k])).flatten
theorem mU {n:Nat}:∀ {d:PyData} {p:List Nat},(ff n d p).length=(ax n d).length:=by
 induction n with
 | zero=>exact fun {d p}=>rfl
 | succ n ih =>
  intro d p;show (p::_).length=(d::((aj d).map (ax n)).flatten).length;rw[List.length_cons,List.length_cons];congr 1;have key:∀ (l:PDs) (i:Nat),i≤l.length→(((List.range i).map fun k=>ff n ((l[k]?).getD .none) (p++[k])).flatten).length=(((l.take i).map (ax n)).flatten).length:=by
   intro l i
   induction i with
   | zero=>exact fun _=>rfl
   | succ i ihi =>
    intro hi;have hx:l[i]?=some l[i]:=gEE hi;rw[List.range_succ,List.map_append,List.flatten_append,lAp,ihi (by omega),tAO,hx,List.map_append,List.flatten_append,lAp];congr 1;show (ff n ((l[i]?).getD .none) (p++[i])++[]).length=(ax n l[i]++[]).length;rw[hx,List.append_nil,List.append_nil];exact ih
  rw[key _ _ (Nat.le_refl _),List.take_length]
theorem wL {n:Nat}:∀ {d:PyData} {p q:List Nat},q∈ff n d p→∃ r e m,q=p++r∧atD d r=some e∧Sub n d m e∧r.length+1≤n:=by
 induction n with
 | zero=>exact fun {d p q} h=>by cases h
 | succ n ih =>
  intro d p q h
  rcases List.mem_cons.mp (show q∈p::_ from h) with rfl | h
  · exact⟨[],d,_,by simp,rfl,.here n d,by simp⟩
  · obtain⟨l,hl,hq⟩:=List.mem_flatten.mp h;obtain⟨k,hk,rfl⟩:=List.mem_map.mp hl;have hk':=List.mem_range.mp hk;have hx:(aj d)[k]?=some (aj d)[k]:=gEE hk';obtain⟨r,e,m,rfl,ha,hs,hr⟩:=ih hq;rw[hx] at ha hs;refine⟨k::r,e,m,by simp,?_,.kid (List.getElem_mem hk') hs,by simp;omega⟩;show (aj d)[k]?.bind _=_;rw[hx];exact ha
end P10
namespace K23
open PySem L2 P10
section
variable {P:Program} {w:World} {K:Fg} {mg:SOV} {base:Heap}
abbrev sLa:Stmt:=top 33
inductive vw (K:Fg) (n:Nat) (vs:List V) (H:Hp) (Q:VK):Prop
  | mk (v:V) (b:Bool) (d:PyData) (h0:vs=[v,.bl b]) (h1:TD K H v d) (h2:WFd n d) (h3:(ax n d).length≤900000) (q:∀ L H' zs,ai H H'→H L=none→H' L=some (.lst zs)→TDs K H' zs (eV b n d)→Q (.ref L) H'):vw K n vs H Q
def jw (K:Fg) (n:Nat):Sp:=fun vs H Q _=>vw K n vs H Q
abbrev nLa:List Str:=["_law_e_here","_law_with_funs","_law_found","_law_child"]
theorem wC:am nLa ["_law_e_here","_law_with_funs"] (a0 sLa):=fsM
theorem tZ {n:Nat} (D:Def K mg "_law_all" sLa) (aK:Fn P w K mg base "_law_children" 1 ["_law_e_here"] (gP K)) (b9:Fn P w K mg base "_law_all" (n+1) ["_law_e_here","_law_with_funs"] (jw K n)):Fn P w K mg base "_law_all" (n+2) ["_law_e_here","_law_with_funs"] (jw K (n+1)):=by
 refine D.fn wC (fun vs H Q E h=>?_) (fun _ _ _ _ _ _ us hl=>by obtain⟨a,b,rfl⟩:=dl hl;rfl) (fun f' cdv A outer s' H vs Q E hr h=>?_)
 · obtain⟨v,b,d,rfl,_⟩:=h;rfl
 · obtain⟨v,b,d,rfl,td,wf,hsz,q⟩:=h;have nd:=wC.nd;have hz0:(1000000:Nat)<sizeLine:=by decide
   have hsz':=nO b (n+1) d;rw[kq] at q;rw[kq,List.length_cons] at hsz';have wf':=wf;obtain⟨h,sl,ps,ndd,hk⟩:=wf';have hh:=gJ ndd;obtain⟨a,vs,rfl,ha,hvs⟩:=bR td ndd;refine⟨_,(pD (pL (i:=2) nd rfl (Or.inl rfl) (aM (pA (pv 0) pB)))
 (pD (az (PW.pt (dO (dP (pv 1)) (cY (pM qJ (aa a9 (pv 0) pF (fun _ _=>rfl)) pC (pN _))))) (pG (bF PassesOwn.never rfl (jB (ab aK (hr.mono (by omega)) rfl (pA (pv 0) pB))) (aw (i:=3) nd rfl (Or.inl rfl))
 (pG (pL (i:=2) nd rfl (Or.inl rfl) (aC cz (pv 2) (ab b9 (hr.mono (by omega)) rfl (pA (pv 3) (pA (pv 1) pB)))))))) ah)
 (pG (ae (pv 2))))),?_⟩
   dsimp only[bd];refine⟨_,rfl,ke,fun F hF=>?_⟩;have k1:=smu (o:=HO.lst [V.ref a]) hF;have e1:(upd H F (.lst [V.ref a])) F=some (.lst [V.ref a]):=pE;have t1:TDs K (upd H F (.lst [V.ref a])) [V.ref a] [d]:=.cons (td.same k1) .nil;generalize upd H F (.lst [V.ref a])=H1 at k1 e1 t1 ⊢;have join:b=true∨hdO d≠"fun"→vX (xu K (ij (gP K) [] E0 (cb (aQ 0) ii))) (dD 3) (nV (tOp (mS K) (aQ 2) (ij (jw K n) [] E0 (cb (aQ 3) (cb (aQ 1) ii)))) (dD 2)) {nx:=vV (aQ 2) {nx:=fun _ H'=>Q .non H',rt:=Q},rt:=Q} [some (.ref a),some (.bl b),some (.ref F),none] H1:=fun hb=>by
    have ekb:fL b d=aj d:=by unfold fL;rw[if_pos hb]
    rw[ekb] at q hsz';refine⟨_,rfl,.ref a,d,h,sl,ps,rfl,td.same k1,ndd,fun v' H2 s2 tv=>?_⟩;obtain⟨c,xs,rfl,hc,hx⟩:=tv.tup_of;rw[← ndd.kids] at hx;refine⟨c,rfl,⟨xs,hc⟩,?_⟩;show aA _ _ _ _ _ _;have xl:=hx.length;refine aA.by (dn (xs:=xs)) (fun i σ Hi=>ai H Hi∧SqT K Hi c xs∧TDs K Hi xs (aj d)∧∃ F zs x3,σ=[some (.ref a),some (.bl b),some (.ref F),x3]∧Hi F=some (.lst zs)∧TDs K Hi zs (d::(((aj d).take i).map (eV b n)).flatten)∧H F=none) ⟨k1.trans s2,hc,hx,F,_,_,rfl,s2 _ _ e1,by rw[List.take_zero];exact t1.same s2,hF⟩ (fun i σ Hi _ h=>h.2.1) ?_ ?_
    · rintro i u σ Hi hui ⟨si,hci,hxi,F',zs,x3,rfl,hF',tz,F'0⟩;obtain⟨x,hxx,tx⟩:=hxi.get hui;have xm:=mGE hxx;have zl:=tz.length;rw[List.length_cons] at zl;have ft:=oF (f:=eV b n) (aj d) (i+1);have tk:((((aj d).take (i+1)).map (eV b n)).flatten)=(((aj d).take i).map (eV b n)).flatten++eV b n x:=by
       rw[tAO,hxx,List.map_append,List.flatten_append];show _++(eV b n x++[])=_;rw[List.append_nil]
      rw[tk,lAp] at ft;have wx:WFd n x:=hk x (by rw[← ndd.kids];exact xm);have hpx:(ax n x).length≤900000:=Nat.le_trans (ju (.kid xm (by
        cases n with
        | zero=>exact wx.elim
        | succ n=>exact .here n x))) hsz
      refine⟨_,rfl,_,rfl,_,rfl,u,b,x,rfl,tx,wx,hpx,fun L H3 ws s3 hL hw tw=>?_⟩;have wl:=tw.length;refine⟨F',L,_,_,rfl,rfl,SqL.of (s3 _ _ hF'),SqL.of hw,by omega,fun p hp=>?_⟩;have kp:=smu (o:=HO.lst (zs++ws)) hp;have S:=si.trans (s3.trans kp);refine⟨S,hci.tk (s3.trans kp).tk,hxi.same (s3.trans kp),p,zs++ws,_,rfl,pE,?_,cA (si.trans s3) hp⟩;rw[tk];exact (tz.same (s3.trans kp)).app (tw.same kp)
    · rintro σ Hi ⟨si,hci,hxi,F',zs,x3,rfl,hF',tz,F'0⟩;rw[xl,List.take_length] at tz;exact⟨_,rfl,q F' Hi zs si F'0 hF' tz⟩
   refine⟨_,rfl,_,rfl,?_⟩;by_cases hb:b=true
   · refine pJ hb ?_;exact cB (join (.inl hb))
   refine pI hb ?_;refine⟨_,rfl,a,_,_,_,rfl,rfl,ha.tk k1.tk,pH (j:=0) rfl,rfl,_,rfl,?_⟩;by_cases hf:h="fun"
   · refine pI (by simp[hf]) ?_;have ekb:fL b d=[]:=by unfold fL;rw[if_neg (by rintro (z | z);exact hb z;exact z (hh.trans hf))]
     rw[ekb] at q;exact⟨_,rfl,q F H1 _ k1 hF e1 t1⟩
   · exact pJ (by simpa using hf) (join (.inr (by rw[hh];exact hf)))
theorem zX (D:Def K mg "_law_all" sLa) (aK:Fn P w K mg base "_law_children" 1 ["_law_e_here"] (gP K)) (n:Nat):Fn P w K mg base "_law_all" (n+1) ["_law_e_here","_law_with_funs"] (jw K n):=by
 induction n with
 | zero =>
  refine D.fn wC (fun vs H Q E h=>?_) (fun _ _ _ _ _ _ us hl=>by obtain⟨a,b,rfl⟩:=dl hl;rfl) (fun f' cdv A outer s' H vs Q E hr h=>?_)
  · obtain⟨v,b,d,rfl,_⟩:=h;rfl
  · obtain⟨v,b,d,rfl,td,wf,_⟩:=h;exact wf.elim
 | succ n ih=>exact tZ D aK ih
abbrev sLt:Stmt:=top 34
inductive vi (K:Fg) (vs:List V) (H:Hp) (Q:VK):Prop
  | mk (v p:V) (n:Nat) (d e:PyData) (path:List Nat) (h0:vs=[v,p]) (h1:TD K H v d) (h2:WFd n d) (h3:TD K H p (dN path)) (h4:atD d path=some e) (q:∀ v' H',ai H H'→TD K H' v' e→Q v' H'):vi K vs H Q
def yC (K:Fg):Sp:=fun vs H Q _=>vi K vs H Q
abbrev nLt:List Str:=["_law_e_here","_law_path","_law_k","_law_some"]
theorem yX:am nLt ["_law_e_here","_law_path"] (a0 sLt):=fsM
theorem zR (D:Def K mg "_law_at" sLt) (T:Blt mg) (aK:Fn P w K mg base "_law_children" 1 ["_law_e_here"] (gP K)):Fn P w K mg base "_law_at" 2 ["_law_e_here","_law_path"] (yC K):=by
 refine D.fn yX (fun vs H Q E h=>?_) (fun _ _ _ _ _ _ us hl=>by obtain⟨a,b,rfl⟩:=dl hl;rfl) (fun f' cdv A outer s' H vs Q E hr h=>?_)
 · obtain⟨v,p,n,d,e,path,rfl,_⟩:=h;rfl
 · obtain⟨v,p,n,d,e,path,rfl,td,wf,tp,hat,q⟩:=h;have nd:=yX.nd;obtain⟨pa,us,rfl,hpa,hus⟩:=(show TD K H p (.tuple _) from tp).tup_of;have eu:=TDs.ints hus;subst eu;refine⟨_,(pD (bF PassesOwn.never rfl (jB (pv 1)) (aw (i:=2) nd rfl (Or.inl rfl))
 (pD (pL (i:=3) nd rfl (Or.inl rfl) (ab aK (hr.mono (by decide)) rfl (pA (pv 0) pB)))
 (pD (az (pM uP (pv 2) (bJ T.len (pA (pv 3) pB)) (pN _)) (pG (ae qD)) ah)
 (pG (pL (i:=0) nd rfl (Or.inl rfl) (aa a9 (pv 3) (pv 2) (fun _ _=>rfl)))))))
 (pG (ae (pv 0)))),?_⟩
   dsimp only[bd];refine⟨_,rfl,pa,rfl,⟨_,hpa⟩,?_⟩;show aA _ _ _ _ _ _;refine aA.by (dn (xs:=path.map fun n=>V.int ((n:Nat):Int))) (fun i σ Hi=>ai H Hi∧∃ v x m x2 x3,σ=[some v,some (.ref pa),x2,x3]∧TD K Hi v x∧WFd m x∧atD x (path.drop i)=some e) ⟨ai.refl H,v,d,n,_,_,rfl,td,wf,hat⟩ (fun i σ Hi _ h=>hpa.tk h.1.tk) ?_ ?_
   · rintro i u σ Hi hui ⟨si,v,x,m,x2,x3,rfl,tv,wx,hx⟩;rw[gEM] at hui;obtain⟨k,hk,rfl⟩:=oMS.mp hui;have ed:path.drop i=k::path.drop (i+1):=by
      obtain⟨hi,e2⟩:=gES.mp hk;rw[← e2,List.getElem_cons_drop]
     rw[ed] at hx;obtain⟨y,hy,hx2⟩:∃ y,(aj x)[k]?=some y∧atD y (path.drop (i+1))=some e:=Option.bind_eq_some_iff.mp (show (aj x)[k]?.bind _=some e from hx);cases m with
     | zero=>exact wx.elim
     | succ m =>
      have wy:=wx.kid (mGE hy);obtain⟨h,sl,ps,ndx,hkk⟩:=wx;refine⟨_,rfl,v,x,h,sl,ps,rfl,tv,ndx,fun v' H2 s2 tv2=>?_⟩;rw[← ndx.kids] at tv2;obtain⟨c,zs,rfl,hc,hz⟩:=tv2.tup_of;obtain⟨z,hzk,tz⟩:=hz.at hy;have kl:k<zs.length:=(gES.mp hzk).1;refine⟨_,rfl,_,rfl,c,_,rfl,.inr hc,_,_,rfl,rfl,_,rfl,?_⟩;refine pI (by simp;omega) ?_;refine⟨_,rfl,_,rfl,c,_,_,_,rfl,rfl,hc,pH hzk,?_⟩;exact⟨si.trans s2,z,y,m,_,_,rfl,tz,wy,hx2⟩
   · rintro σ Hi ⟨si,v,x,m,x2,x3,rfl,tv,wx,hx⟩;rw[lMp,List.drop_length] at hx;cases hx;exact⟨_,rfl,q _ _ si tv⟩
end
section
variable {P:Program} {w:World} {K:Fg} {mg:SOV} {base:Heap}
abbrev sLp:Stmt:=top 35
inductive vm (K:Fg) (n:Nat) (vs:List V) (H:Hp) (Q:VK):Prop
  | mk (v vp:V) (d:PyData) (p:List Nat) (h0:vs=[v,vp]) (h1:TD K H v d) (h2:WFd n d) (h3:(ax n d).length≤900000) (h4:TD K H vp (dN p)) (h5:p.length+n≤30) (q:∀ L H' zs,ai H H'→H L=none→H' L=some (.lst zs)→TDs K H' zs ((ff n d p).map dN)→Q (.ref L) H'):vm K n vs H Q
def sD (K:Fg) (n:Nat):Sp:=fun vs H Q _=>vm K n vs H Q
abbrev nLp:List Str:=["_law_e_here","_law_path","_law_found","_law_some","_law_k"]
theorem wA:am nLp ["_law_e_here","_law_path"] (a0 sLp):=fsM
theorem qq {n:Nat} {d:PyData} {p:List Nat} (i:Nat) (hi:i≤(aj d).length):(((List.range i).map fun k=>ff n (((aj d)[k]?).getD .none) (p++[k])).flatten).length+1≤(ff (n+1) d p).length:=by
 show _≤(p::((List.range (aj d).length).map fun k=>ff n (((aj d)[k]?).getD .none) (p++[k])).flatten).length;rw[List.length_cons];have:∀ (a:Nat) (f:Nat→List (List Nat)),(((List.range i).map f).flatten).length≤(((List.range (i+a)).map f).flatten).length:=fun a f=>by
  rw[List.range_add,List.map_append,List.flatten_append,lAp];omega
 have h2:=this ((aj d).length-i) (fun k=>ff n (((aj d)[k]?).getD .none) (p++[k]));rw[show i+((aj d).length-i)=(aj d).length by omega] at h2;omega
theorem tW {n:Nat} (D:Def K mg "_law_paths" sLp) (T:Blt mg) (aK:Fn P w K mg base "_law_children" 1 ["_law_e_here"] (gP K)) (eA:Fn P w K mg base "_law_paths" (n+1) ["_law_e_here","_law_path"] (sD K n)):Fn P w K mg base "_law_paths" (n+2) ["_law_e_here","_law_path"] (sD K (n+1)):=by
 refine D.fn wA (fun vs H Q E h=>?_) (fun _ _ _ _ _ _ us hl=>by obtain⟨a,b,rfl⟩:=dl hl;rfl) (fun f' cdv A outer s' H vs Q E hr h=>?_)
 · obtain⟨v,vp,d,p,rfl,_⟩:=h;rfl
 · obtain⟨v,vp,d,p,rfl,td,wf,hsz,tp,hpl,q⟩:=h;have nd:=wA.nd;have hz0:(1000000:Nat)<sizeLine:=by decide
   have wf':=wf;obtain⟨h,sl,ps,ndd,hk⟩:=wf';have pl:=mU (n:=n+1) (d:=d) (p:=p);refine⟨_,(pD (pL (i:=2) nd rfl (Or.inl rfl) (aM (pA (pv 1) pB)))
 (pD (pL (i:=3) nd rfl (Or.inl rfl) (ab aK (hr.mono (by omega)) rfl (pA (pv 0) pB)))
 (pD (bF PassesOwn.never rfl (bo rfl T.range (pA (bJ T.len (pA (pv 3) pB)) pB)) (aw (i:=4) nd rfl (Or.inl rfl))
 (pG (pL (i:=2) nd rfl (Or.inl rfl) (aC cz (pv 2) (ab eA (hr.mono (by omega)) rfl (pA (aa a9 (pv 3) (pv 4) (fun _ _=>rfl)) (pA (aC eM (pv 1) (ag (pA (pv 4) pB))) pB)))))))
 (pG (ae (pv 2)))))),?_⟩
   dsimp only[bd];obtain⟨pa,pus,rfl,hpa,hpus⟩:=(show TD K H vp (.tuple _) from tp).tup_of;refine⟨_,rfl,ke,fun F hF=>?_⟩;have k1:=smu (o:=HO.lst [V.ref pa]) hF;have e1:(upd H F (.lst [V.ref pa])) F=some (.lst [V.ref pa]):=pE;have t1:TDs K (upd H F (.lst [V.ref pa])) [V.ref pa] [dN p]:=.cons (tp.same k1) .nil;generalize upd H F (.lst [V.ref pa])=H1 at k1 e1 t1 ⊢;refine⟨_,rfl,v,d,h,sl,ps,rfl,td.same k1,ndd,fun v' H2 s2 tv=>?_⟩;obtain⟨c,xs,rfl,hc,hx⟩:=tv.tup_of;rw[← ndd.kids] at hx;have xl:=hx.length;have few:=ndd.few;rw[← ndd.kids] at few;refine⟨_,rfl,c,_,rfl,.inr hc,_,rfl,by omega,by omega,?_⟩;show aA _ _ _ _ _ _;rw[show ((xs.length:Nat):Int).toNat=xs.length from Int.toNat_natCast _];refine aA.by (ba (n:=xs.length)) (fun i σ Hi=>ai H2 Hi∧∃ F zs x4,σ=[some v,some (.ref pa),some (.ref F),some (.ref c),x4]∧Hi F=some (.lst zs)∧TDs K Hi zs ((p::((List.range i).map fun k=>ff n (((aj d)[k]?).getD .none) (p++[k])).flatten).map dN)∧H F=none) ⟨ai.refl _,F,_,_,rfl,s2 _ _ e1,t1.same s2,hF⟩ (fun _ _ _ _ _=>trivial) ?_ ?_
   · rintro i u σ Hi hui ⟨si,F',zs,x4,rfl,hF',tz,F'0⟩;have hi:i<xs.length:=by have:=(gES.mp hui).1;rwa [aV] at this
     obtain rfl:=eF hui;have hik:i<(aj d).length:=by omega
     have hx0:(aj d)[i]?=some (aj d)[i]:=gEE hik;obtain⟨y,hy,ty⟩:=hx.at hx0;have xm:(aj d)[i]∈aj d:=List.getElem_mem hik;have wx:WFd n (aj d)[i]:=hk _ (by rw[← ndd.kids];exact xm);have hpx:(ax n (aj d)[i]).length≤900000:=Nat.le_trans (ju (.kid xm (by
       cases n with
       | zero=>exact wx.elim
       | succ n=>exact .here n _))) hsz
     have S:=k1.trans (s2.trans si);refine⟨_,rfl,_,rfl,_,rfl,c,_,_,_,rfl,rfl,hc.tk si.tk,pH hy,_,rfl,_,rfl,ke,fun t ht=>?_⟩;have kt:=smu (o:=HO.tup [V.int ((i:Nat):Int)]) ht;refine cS ((tp.same S).same kt) (.tup (SqT.of pE) (.cons (.int _) .nil):TD K _ (.ref t) (.tuple [.int ((i:Nat):Int)])) (by simp;omega) fun pp H3 s3 tp3=>?_;have e3:(p.map fun n=>PyData.int ((n:Nat):Int))++[PyData.int ((i:Nat):Int)]=(p++[i]).map fun n=>PyData.int ((n:Nat):Int):=by rw[List.map_append];rfl
     rw[e3] at tp3;refine⟨y,.ref pp,(aj d)[i],p++[i],rfl,((ty.same si).same kt).same s3,wx,hpx,tp3,by simp;omega,fun L H4 ws s4 hL hw tw=>?_⟩;have S4:=(kt.trans s3).trans s4;have zl:=tz.length;have wl:=tw.length;rw[lMp,List.length_cons] at zl;rw[lMp] at wl;have pt:=qq (n:=n) (d:=d) (p:=p) (i+1) hik;have rg:((List.range (i+1)).map fun k=>ff n (((aj d)[k]?).getD .none) (p++[k])).flatten=((List.range i).map fun k=>ff n (((aj d)[k]?).getD .none) (p++[k])).flatten++ff n (aj d)[i] (p++[i]):=by
      rw[List.range_succ,List.map_append,List.flatten_append];show _++(ff n (((aj d)[i]?).getD .none) (p++[i])++[])=_;rw[hx0,List.append_nil];rfl
     rw[rg,lAp] at pt;refine⟨F',L,_,_,rfl,rfl,SqL.of (S4 _ _ hF'),SqL.of hw,by omega,fun g hg=>?_⟩;have kg:=smu (o:=HO.lst (zs++ws)) hg;refine⟨si.trans (S4.trans kg),g,zs++ws,_,rfl,pE,?_,cA (S.trans S4) hg⟩;rw[rg,← List.cons_append,List.map_append];exact (tz.same (S4.trans kg)).app (tw.same kg)
   · rintro σ Hi ⟨si,F',zs,x4,rfl,hF',tz,F'0⟩;rw[aV,xl] at tz;exact⟨_,rfl,q F' Hi zs (k1.trans (s2.trans si)) F'0 hF' tz⟩
theorem zT (D:Def K mg "_law_paths" sLp) (T:Blt mg) (aK:Fn P w K mg base "_law_children" 1 ["_law_e_here"] (gP K)) (n:Nat):Fn P w K mg base "_law_paths" (n+1) ["_law_e_here","_law_path"] (sD K n):=by
 induction n with
 | zero =>
  refine D.fn wA (fun vs H Q E h=>?_) (fun _ _ _ _ _ _ us hl=>by obtain⟨a,b,rfl⟩:=dl hl;rfl) (fun f' cdv A outer s' H vs Q E hr h=>?_)
  · obtain⟨v,vp,d,p,rfl,_⟩:=h;rfl
  · obtain⟨v,vp,d,p,rfl,td,wf,_⟩:=h;exact wf.elim
 | succ n ih=>exact tW D T aK ih
abbrev sLv:Stmt:=top 37
inductive vh (K:Fg) (vs:List V) (H:Hp) (Q:VK):Prop
  | mk (vc:V) (gs:PDs) (fi:Nat) (d:PyData) (h0:vs=[vc,.int ((fi:Nat):Int)]) (h1:iX K H vc gs fi d) (q:∀ a H' (is:List Int),ai H H'→H a=none→H' a=some (.lst (is.map V.int))→(∀ i,i∈is↔i∈eR 9 d)→Q (.ref a) H'):vh K vs H Q
def yB (K:Fg):Sp:=fun vs H Q _=>vh K vs H Q
theorem B9:am ["_law_core_here","_law_f"] ["_law_core_here","_law_f"] (a0 sLv):=fsM
theorem Aq:(["_law_one"]:List Str).Nodup:=by decide +kernel
theorem gY {l:PDs} {i:Nat} {x:PyData} (hx:l[i]?=some x) (p:PyData→Prop):(∃ z∈l.take (i+1),p z)↔(∃ z∈l.take i,p z)∨p x:=by
 rw[tAO,hx];simp only[Option.toList_some,mAp,mSg];constructor
 · rintro⟨z,z1 | rfl,z2⟩
   · exact .inl ⟨z,z1,z2⟩
   · exact .inr z2
 · rintro (⟨z,z1,z2⟩ | z2)
   · exact⟨z,.inl z1,z2⟩
   · exact⟨x,.inr rfl,z2⟩
theorem j8 {H1:Hp} {L:Addr} {zs:List V} {n:Nat} {d:PyData} {Q:VK} (wf:WFd n d) (hsz:(ax n d).length≤900000) (hz:H1 L=some (.lst zs)) (tz:TDs K H1 zs (ax n d)) {G:Addr} (hG:H1 G=none) {σ0:St} (h0:∃ y,σ0=[y])
 (q:∀ H' (is:List Int),ai H1 H'→H' G=some (.lst (is.map V.int))→(∀ i,i∈is↔i∈eR n d)→Q (.ref G) H'):bt (Itl K L) (dD 0) (bU (tOp rEq (tOp (dG K) (aQ 0) (tC (.int 0))) (tC (.str "var")))) (tOp (dG K) (aQ 0) (tC (.int 1))) Q σ0 H1 G:=by
 have hz0:(4000000:Nat)<sizeLine:=by decide
 have k0:=smu (o:=HO.lst []) hG;have zl:=tz.length;refine bt.by (aI (xs:=zs)) (fun i σ Hi=>ai H1 Hi∧(∃ is:List Int,Hi G=some (.lst (is.map V.int))∧is.length≤i∧∀ j,j∈is↔∃ x∈(ax n d).take i,j∈dJ x)∧∃ y,σ=[y]) ⟨k0,⟨[],pE,Nat.le_refl _,fun j=>by simp⟩,h0⟩ (fun i σ Hi _ h=>SqL.of (h.1 _ _ hz)) ?_ ?_
 · rintro i u σ Hi hui ⟨si,⟨is,hGi,il,im⟩,y,rfl⟩;have hi:i<zs.length:=(gES.mp hui).1;obtain⟨x,hx,tx⟩:=tz.get hui;obtain⟨h,sl,ps,nd⟩:=dQ wf (mGE hx);obtain⟨p,vs,rfl,hp,hvs⟩:=bR (tx.same si) nd;have hh:=gJ nd;rw[bh];refine⟨_,rfl,p,_,_,_,rfl,rfl,hp,pH (j:=0) rfl,rfl,_,rfl,?_⟩;by_cases hv:h="var"
   · refine pJ (by simp[hv]) ?_;subst hv;obtain⟨j,r,rfl,hid⟩:=kr nd;cases hvs with
     | cons b1 b2 =>
      rw[b1.int_of] at hp;refine⟨_,rfl,p,_,_,_,rfl,rfl,hp,pH (j:=1) rfl,_,hGi,by rw[lMp];omega,cy (H:=H1) si hG,⟨is++[j],by rw[pE,List.map_append];rfl,by simp;omega,fun m=>?_⟩,_,rfl⟩;rw[mAp,im,mSg,gY hx];have:dJ x=[j]:=by unfold dJ;rw[if_pos hh,hid]
      rw[this,mSg]
   · refine pI (by simpa using hv) ⟨si,⟨is,hGi,by omega,fun m=>?_⟩,_,rfl⟩;rw[im,gY hx];have:dJ x=[]:=by unfold dJ;rw[if_neg (by rw[hh];exact hv)]
     rw[this];simp
 · rintro σ Hi ⟨si,⟨is,hGi,il,im⟩,y,rfl⟩;refine q Hi is si hGi fun j=>?_;rw[im,zl,List.take_length];exact aT.symm
theorem zQ (D:Def K mg "_law_vars" sLv) (b9:Fn P w K mg base "_law_all" 10 ["_law_e_here","_law_with_funs"] (jw K 9)):Fn P w K mg base "_law_vars" 11 ["_law_core_here","_law_f"] (yB K):=by
 refine D.fn B9 (fun vs H Q E h=>?_) (fun _ _ _ _ _ _ us hl=>by obtain⟨a,b,rfl⟩:=dl hl;rfl) (fun f' cdv A outer s' H vs Q E hr h=>?_)
 · obtain⟨vc,gs,fi,d,rfl,_⟩:=h;rfl
 · obtain⟨vc,gs,fi,d,rfl,ac,q⟩:=h;obtain⟨a,b,r,xs,ta,vb,r2,rfl,ha,hb,tb,hx,hta,r2l,tv⟩:=ac.body;refine⟨_,(pG (ae (dW (own:=["_law_one"]) (outs:=[]) (tc:=bU (tOp rEq (tOp (dG K) (aQ 0) (tC (.int 0))) (tC (.str "var")))) (te:=tOp (dG K) (aQ 0) (tC (.int 1))) rfl (aB.of (a0 sLv) ["_law_core_here","_law_f"]) (bi (ab b9 (hr.mono (by decide)) rfl (pA (aa a9 (aa a9 (aa a9 (pv 0) pF (fun _ _=>rfl)) (pv 1) (fun _ _=>rfl)) pF (fun _ _=>rfl)) (pA bD pB)))) (fun _ _ _ _=>⟨(aw (i:=0) Aq rfl (Or.inl rfl)),(bG (pM aH (aa a9 (pv 0) pF (fun _ _=>rfl)) pC (pN _))),(aa a9 (pv 0) pF (fun _ _=>rfl))⟩)))),?_⟩;dsimp only[bd];rw[jA,dC];refine⟨_,rfl,a,_,_,_,rfl,rfl,ha,pH (j:=0) rfl,_,rfl,b,_,_,_,rfl,rfl,hb,pH hx,ta,_,_,_,rfl,rfl,hta,mh r2l,vb,true,d,rfl,tv,ac.wf,ac.sz,fun L H1 zs s1 hL hz tz=>⟨L,rfl,⟨zs,SqL.of hz⟩,fun G hG=>?_⟩⟩;exact j8 ac.wf ac.sz hz tz hG ⟨_,rfl⟩ fun H' is s' h1 h2=>q G H' is (s1.trans s') (cA s1 hG) h1 h2
end
def inQ (e:PyData) (wd:Str) (d:PyData) (i:Int):Prop:=(∃ x∈cs 9 e,hdO x=wd∧du x=some (.int i))∧i∈eR 9 d∧i∉eR 9 e
section
variable {P:Program} {w:World} {K:Fg} {mg:SOV} {base:Heap}
abbrev sLo:Stmt:=top 36
inductive vn (K:Fg) (vs:List V) (H:Hp) (Q:VK):Prop
  | mk (va:Addr) (v:V) (wd:Str) (d e:PyData) (is B:List Int) (h0:vs=[.ref va,v,.str wd]) (h1:H va=some (.lst (is.map V.int))) (h2:∀ i,i∈is↔i∈eR 9 d) (h3:TD K H v e) (h4:WFd 9 e) (h5:(ax 9 e).length≤900000) (h8:aU wd w8=true) (h6:∀ i,inQ e wd d i→i∈B) (h7:B.length<64)
    (q:∀ a H' (ys:List Int),ai H H'→H a=none→H' a=some (.lst (ys.map V.int))→ys.Nodup→ys.Pairwise (·≤·)→(∀ i,i∈ys↔inQ e wd d i)→Q (.ref a) H'):vn K vs H Q
def yD (K:Fg):Sp:=fun vs H Q _=>vn K vs H Q
abbrev nLo:List Str:=["_law_all_vars","_law_e_here","_law_kind","_law_inner","_law_some"]
theorem yY:am nLo ["_law_all_vars","_law_e_here","_law_kind"] (a0 sLo):=fsM
theorem BG:(["_law_one","_law_kind"]:List Str).Nodup:=by decide +kernel
theorem BH:(["_law_one","_law_all_vars","_law_inner"]:List Str).Nodup:=by decide +kernel
theorem zU (D:Def K mg "_law_outer" sLo) (T:Blt mg) (hset:mg "set"=none) (b9:Fn P w K mg base "_law_all" 10 ["_law_e_here","_law_with_funs"] (jw K 9)):Fn P w K mg base "_law_outer" 11 ["_law_all_vars","_law_e_here","_law_kind"] (yD K):=by
 refine D.fn yY (fun vs H Q E h=>?_) (fun _ _ _ _ _ _ us hl=>by obtain⟨a,b,c,rfl⟩:=ou hl;rfl) (fun f' cdv A outer s' H vs Q E hr h=>?_)
 · obtain⟨va,v,wd,d,e,is,B,rfl,_⟩:=h;rfl
 · obtain⟨va,v,wd,d,e,is,B,rfl,hva,him,tv,wf,hsz,hw8,hB,hB6,q⟩:=h;have nd:=yY.nd;have hz0:(4000000:Nat)<sizeLine:=by decide
   obtain⟨t2,h2,r2⟩:∃ t,PSs (be CX0 P w K mg base nLo "_law_outer" (a0 sLo) f' cdv A outer s' H E).nox ((ak sLo).drop 2) t ∧
    ∀ (H1:Hp) (na ma:Addr) (ns ms:List Int),ai H H1→H1 na=some (.lst (ns.map V.int))→H1 ma=some (.lst (ms.map V.int))→(∀ i,i∈ns↔i∈eR 9 e)→(∀ i,i∈ms↔∃ x∈cs 9 e,hdO x=wd∧du x=some (.int i))→ms.length≤900000→t {nx:=fun _ H'=>Q .non H',rt:=Q} [some (.ref va),some v,some (.str wd),some (.ref na),some (.ref ma)] H1:=by
    refine⟨_,(pG (ae (xV T.sorted hset (dW (own:=["_law_one"]) (outs:=[(0,"_law_all_vars"),(3,"_law_inner")]) (tc:=wj (bU (tOp (rIn K false) (aQ 0) (aQ 1))) (bU (tOp (rIn K true) (aQ 0) (aQ 2)))) rfl (aB.of (a0 sLo) nLo) (bi (pv 4)) (fun _ _ _ _=>⟨(aw (i:=0) BH rfl (Or.inl rfl)),(bG (PW.pt (cZ (pM aY (pv 0) (pv 1) (by with_unfolding_all rfl)) (bX (pM jF (pv 0) (pv 2) (by with_unfolding_all rfl)))))),(pv 0)⟩))))),fun H1 na ma ns ms s1 hna hma nm mm ml=>?_⟩;dsimp only[bd];rw[jA,iu,dr,dC];refine⟨_,rfl,ma,rfl,⟨_,SqL.of hma⟩,fun G hG=>?_⟩;have k0:=smu (o:=HO.lst []) hG;refine bt.by (aI (xs:=ms.map V.int)) (fun i σ Hi=>ai H1 Hi∧(∃ os:List Int,Hi G=some (.lst (os.map V.int))∧os.length≤i∧∀ j,j∈os↔j∈ms.take i∧j∈is∧j∉ns)∧∃ y,σ=[y,some (.ref va),some (.ref na)]) ⟨k0,⟨[],pE,Nat.le_refl _,fun j=>by simp⟩,_,rfl⟩ (fun i σ Hi _ h=>SqL.of (h.1 _ _ hma)) ?_ ?_
    · rintro i u σ Hi hui ⟨si,⟨os,hGi,ol,om⟩,y,rfl⟩;rw[gEM] at hui;obtain⟨j,hj,rfl⟩:=oMS.mp hui;have hi:i<ms.length:=(gES.mp hj).1;have tk1:∀ m,m∈ms.take (i+1)↔m∈ms.take i∨m=j:=fun m=>by
       rw[tAO,hj,mAp];simp
      have skip:¬ (j∈is∧j∉ns)→(ai H1 Hi∧(∃ os:List Int,Hi G=some (.lst (os.map V.int))∧os.length≤i+1∧∀ j,j∈os↔j∈ms.take (i+1)∧j∈is∧j∉ns)∧∃ y,[some (V.int j),some (V.ref va),some (V.ref na)]=[y,some (.ref va),some (.ref na)]):=fun hn=>⟨si,⟨os,hGi,by omega,fun m=>by
        rw[om,tk1];constructor
        · rintro⟨a,b⟩;exact⟨.inl a,b⟩
        · rintro⟨a | rfl,b⟩
          · exact⟨a,b⟩
          · exact absurd b hn⟩,_,rfl⟩
      rw[bh];refine⟨_,rfl,_,rfl,va,_,rfl,.inl (SqL.of (si _ _ (s1 _ _ hva))),rfl,gA is,_,rfl,?_⟩;rw[if_neg Bool.false_ne_true,jO];by_cases a1:j∈is
      · refine pJ (by simpa using a1) ?_;refine⟨_,rfl,_,rfl,na,_,rfl,.inl (SqL.of (si _ _ hna)),rfl,gA ns,_,rfl,?_⟩;rw[if_pos rfl,jO];by_cases a2:j∈ns
        · exact pI (by simpa using a2) (skip fun z=>z.2 a2)
        · refine pJ (by simpa using a2) ⟨_,rfl,_,hGi,by rw[lMp];omega,cy (H:=H) si hG,⟨os++[j],by rw[pE,List.map_append];rfl,by simp;omega,fun m=>?_⟩,_,rfl⟩;rw[mAp,om,tk1,mSg];constructor
          · rintro (⟨a,b⟩ | rfl)
            · exact⟨.inl a,b⟩
            · exact⟨.inr rfl,a1,a2⟩
          · rintro⟨a | rfl,b⟩
            · exact .inl ⟨a,b⟩
            · exact .inr rfl
      · refine pI (by simpa using a1) ?_;exact pI (by decide) (skip fun z=>a1 z.1)
    · rintro σ Hi ⟨si,⟨os,hGi,ol,om⟩,y,rfl⟩;rw[lMp] at ol om;rw[List.take_length] at om;have oq:∀ j,j∈os↔inQ e wd d j:=fun j=>by
       rw[om,mm,him,nm];rfl
      refine⟨G,os,B,rfl,SqL.of hGi,fun j hj=>hB j ((oq j).mp hj),hB6,fun l ys hl ynd yso ym=>?_⟩;exact q l _ ys (s1.trans (si.trans (smu hl))) (cA (s1.trans si) hl) pE ynd yso fun j=>(ym j).trans (oq j)
   obtain⟨t1,h1,r1⟩:∃ t,PSs (be CX0 P w K mg base nLo "_law_outer" (a0 sLo) f' cdv A outer s' H E).nox ((ak sLo).drop 1) t ∧
    ∀ (H1:Hp) (na:Addr) (ns:List Int) (x4:Option V),ai H H1→H1 na=some (.lst (ns.map V.int))→(∀ i,i∈ns↔i∈eR 9 e)→t {nx:=fun _ H'=>Q .non H',rt:=Q} [some (.ref va),some v,some (.str wd),some (.ref na),x4] H1:=by
    refine⟨_,(pD (qt (i0:=4) (own:=["_law_one"]) (outs:=[(2,"_law_kind")]) (tc:=bU (tOp rEq (tOp (dG K) (aQ 0) (tC (.int 0))) (aQ 1))) (te:=tOp (dG K) (aQ 0) (tC (.int 1))) rfl (aB.of (a0 sLo) nLo) (bi (ab b9 (hr.mono (by decide)) rfl (pA (pv 1) (pA bD pB)))) (fun _ _ _ _=>⟨(aw (i:=0) BG rfl (Or.inl rfl)),(bG (pM aH (aa a9 (pv 0) pF (fun _ _=>rfl)) (pv 1) (pN _))),(aa a9 (pv 0) pF (fun _ _=>rfl))⟩) nd rfl rfl) h2),fun H1 na ns x4 s1 hna nm=>?_⟩;dsimp only[bd];rw[ir,gi,dC];refine⟨_,rfl,v,false,e,rfl,tv.same s1,wf,hsz,fun L H2 zs s2 hL hz tz=>⟨L,rfl,⟨zs,SqL.of hz⟩,fun G hG=>?_⟩⟩;have tz':TDs K H2 zs (cs 9 e):=tz;have k0:=smu (o:=HO.lst []) hG;have zl:=tz'.length;have ol9:=kI 9 e;refine bt.by (aI (xs:=zs)) (fun i σ Hi=>ai H2 Hi∧(∃ ms:List Int,Hi G=some (.lst (ms.map V.int))∧ms.length≤i∧∀ j,j∈ms↔∃ x∈(cs 9 e).take i,hdO x=wd∧du x=some (.int j))∧∃ y,σ=[y,some (.str wd)]) ⟨k0,⟨[],pE,Nat.le_refl _,fun j=>by simp⟩,_,rfl⟩ (fun i σ Hi _ h=>SqL.of (h.1 _ _ hz)) ?_ ?_
    · rintro i u σ Hi hui ⟨si,⟨ms,hGi,ml,mm⟩,y,rfl⟩;have hi:i<zs.length:=(gES.mp hui).1;obtain⟨x,hx,tx⟩:=tz'.get hui;obtain⟨h,sl,ps,ndx⟩:=dQ wf (cI (mGE hx));obtain⟨p,vs,rfl,hp,hvs⟩:=bR (tx.same si) ndx;have hh:=gJ ndx;rw[bh];refine⟨_,rfl,p,_,_,_,rfl,rfl,hp,pH (j:=0) rfl,_,rfl,rfl,_,rfl,?_⟩;by_cases hv:h=wd
      · refine pJ (by simp[hv]) ?_;subst hv;obtain⟨j,r,rfl,hid⟩:=kL ndx hw8;cases hvs with
        | cons b1 b2 =>
         rw[b1.int_of] at hp;refine⟨_,rfl,p,_,_,_,rfl,rfl,hp,pH (j:=1) rfl,_,hGi,by rw[lMp];omega,cy (H:=H) si hG,⟨ms++[j],by rw[pE,List.map_append];rfl,by simp;omega,fun m=>?_⟩,_,rfl⟩;rw[mAp,mm,mSg,gY hx (fun z=>hdO z=h∧du z=some (.int m))];constructor
         · rintro (z | rfl)
           · exact .inl z
           · exact .inr ⟨hh,hid⟩
         · rintro (z | ⟨_,z⟩)
           · exact .inl z
           · rw[hid] at z;cases z;exact .inr rfl
      · refine pI (by simpa using hv) ⟨si,⟨ms,hGi,by omega,fun m=>?_⟩,_,rfl⟩;rw[mm,gY hx (fun z=>hdO z=wd∧du z=some (.int m))];constructor
        · exact .inl
        · rintro (z | ⟨z,_⟩)
          · exact z
          · exact absurd (hh.symm.trans z) hv
    · rintro σ Hi ⟨si,⟨ms,hGi,ml,mm⟩,y,rfl⟩;rw[zl] at ml mm;rw[List.take_length] at mm;exact r2 Hi na G ns ms ((s1.trans s2).trans si) (si _ _ (s2 _ _ hna)) hGi nm mm (by omega)
   refine⟨_,(pD (pL (i:=3) nd rfl (Or.inr rfl) (dW (own:=["_law_one"]) (outs:=[]) (tc:=bU (tOp rEq (tOp (dG K) (aQ 0) (tC (.int 0))) (tC (.str "var")))) (te:=tOp (dG K) (aQ 0) (tC (.int 1))) rfl (aB.of (a0 sLo) nLo) (bi (ab b9 (hr.mono (by decide)) rfl (pA (pv 1) (pA bD pB)))) (fun _ _ _ _=>⟨(aw (i:=0) Aq rfl (Or.inl rfl)),(bG (pM aH (aa a9 (pv 0) pF (fun _ _=>rfl)) pC (pN _))),(aa a9 (pv 0) pF (fun _ _=>rfl))⟩))) h1),?_⟩;dsimp only[bd];rw[ir,gi,dC];refine⟨_,rfl,v,true,e,rfl,tv,wf,hsz,fun L H2 zs s2 hL hz tz=>⟨L,rfl,⟨zs,SqL.of hz⟩,fun G hG=>?_⟩⟩;exact j8 wf hsz hz tz hG ⟨_,rfl⟩ fun H' is2 s' h1 h2=>r1 H' G is2 _ (s2.trans s') h1 h2
end
theorem mL {h:Str} {s:Str} {r:PDs} (l:List Int) (e:h="op"):aJ l (.tuple (.str h::.str s::r))=aU s opW:=by
 subst e;show (if ("op":Str)="op" then aU s opW else if ("op":Str)="call" then false else aU "op" stW)=_;rw[if_pos rfl]
theorem gZ {h:Str} {f:Int} {r:PDs} (l:List Int) (e:h="call"):aJ l (.tuple (.str h::.int f::r))=decide (f∈l):=by
 subst e;show (if ("call":Str)="op" then false else if ("call":Str)="call" then decide (f∈l) else aU "call" stW)=_;rw[if_neg (by decide +kernel),if_pos rfl]
theorem fY {h:Str} {p:PyData} {r:PDs} (l:List Int) (e1:h≠"op") (e2:h≠"call"):aJ l (.tuple (.str h::p::r))=aU h stW:=by
 unfold aJ;simp only[if_neg e1,if_neg e2]
theorem fc (ks:List Int) {x:PyData} {h:Str} {sl:List Str} {ps:PDs} (nd:Nd x h sl ps):aJ ks x=true↔aJ [] x=true∨∃ f r,x=.tuple (.str "call"::.int f::r)∧f∈ks:=by
 obtain⟨p,r,rfl,p1,p2⟩:=iD nd;rw[nd.eq];by_cases e1:h="op"
 · obtain⟨s,rfl⟩:=p1 e1;rw[mL _ e1,mL _ e1];exact⟨.inl,fun z=>z.elim id fun ⟨f,r',e,_⟩=>by cases e⟩
 by_cases e2:h="call"
 · obtain⟨f,rfl⟩:=p2 e2;rw[gZ _ e2,gZ _ e2];constructor
   · exact fun z=>.inr ⟨f,r,by rw[e2],by simpa using z⟩
   · rintro (z | ⟨f',r',e,z⟩)
     · simp at z
     · cases e;simpa using z
 · rw[fY _ e1 e2,fY _ e1 e2];exact⟨.inl,fun z=>z.elim id fun ⟨f,r',e,_⟩=>by cases e;exact absurd rfl e2⟩
theorem iq {ks ks':List Int} (h:∀ i,i∈ks↔i∈ks') (x:PyData):aJ ks x=aJ ks' x:=by
 unfold aJ;split
 · split
   · rfl
   · split
     · split
       · exact decide_eq_decide.mpr (h _)
       · rfl
     · rfl
 · rfl
theorem wG {gs:PDs} {rs:List Int} (hrs:∀ i,i∈rs↔Rl gs i) {g:Nat} {h:Str} {c:Nat} {d:PyData} (hg:gs[g]?=some (fnD h c d)) (wf:WFd 9 d) (hd:h≠"deep"):Rl gs ((g:Nat):Int)↔∃ x∈cs 9 d,aJ rs x=true:=by
 constructor
 · intro z;cases z with
   | loc z =>
    rcases (fu hg).mp z with z | z
    · exact absurd z hd
    · obtain⟨x,hx,e⟩:=List.any_eq_true.mp z;obtain⟨h',sl,ps,nd⟩:=gn wf hx;exact⟨x,(eN 9).mp hx,(fc rs nd).mpr (.inl e)⟩
   | cal z r =>
    obtain⟨x,hx,r',e⟩:=(fR hg _).mp z;obtain⟨h',sl,ps,nd⟩:=gn wf hx;exact⟨x,(eN 9).mp hx,(fc rs nd).mpr (.inr ⟨_,r',e,(hrs _).mpr r⟩)⟩
 · rintro⟨x,hx,e⟩;have hx':=(eN 9).mpr hx;obtain⟨h',sl,ps,nd⟩:=gn wf hx'
   rcases (fc rs nd).mp e with z | ⟨f,r',e2,z⟩
   · exact .loc ((fu hg).mpr (.inr (List.any_eq_true.mpr ⟨x,hx',z⟩)))
   · exact .cal ((fR hg f).mpr ⟨x,hx',r',e2⟩) ((hrs f).mp z)
def j7 (gs:PDs) (rk:Nat→Nat) (r:Nat) (e:PyData):Prop:=∀ x∈cs 9 e,hdO x="call"→∃ (g:Nat) (h:Str) (c:Nat) (d:PyData) (t:PDs),x=.tuple (.str "call"::.int ((g:Nat):Int)::t)∧gs[g]?=some (fnD h c d)∧(h="deep"∨rk g<r)
structure xP (gs:PDs) (rk:Nat→Nat):Prop where
  rk:∀ g h c d,gs[g]?=some (fnD h c d)→h≠"deep"→WFd 9 d∧(ax 9 d).length≤900000∧j7 gs rk (rk g) d
theorem j7.up {gs:PDs} {rk:Nat→Nat} {r r':Nat} {e:PyData} (b:j7 gs rk r e) (h:r≤r'):j7 gs rk r' e:=fun x hx hc=>by
 obtain⟨g,h',c,d,t,a1,a2,a3⟩:=b x hx hc;exact⟨g,h',c,d,t,a1,a2,a3.elim .inl fun z=>.inr (by omega)⟩
section
variable {P:Program} {w:World} {K:Fg} {mg:SOV} {base:Heap}
def yo:TT:=fun _ _ _=>False
theorem wK {X:Cx} {e:Expr}:PW X e yo:=fun _ _ _ _ _ _ _ h=>h.elim
abbrev sLs:Stmt:=top 38
inductive vj (K:Fg) (r:Nat) (vs:List V) (H:Hp) (Q:VK):Prop
  | mk (vc v:V) (gs:PDs) (rk:Nat→Nat) (rs:List Int) (e:PyData) (h0:vs=[vc,v]) (h1:∃ rs os,TD K H vc (gM gs rs os)) (h2:xP gs rk) (h3:∀ i,i∈rs↔Rl gs i) (h4:TD K H v e) (h5:WFd 9 e) (h6:(ax 9 e).length≤900000) (h7:j7 gs rk r e)
    (q:∀ b H',ai H H'→(b=true↔∀ x∈cs 9 e,aJ rs x=false)→Q (.bl b) H'):vj K r vs H Q
def pW (K:Fg) (r:Nat):Sp:=fun vs H Q _=>vj K r vs H Q
abbrev nLs:List Str:=["_law_core_here","_law_e_here","_law_one"]
theorem sO:am nLs ["_law_core_here","_law_e_here"] (a0 sLs):=fsM
theorem ib {h:Str} (e:aU h stW=true):h≠"op"∧h≠"call":=by
 have:∀ s∈stW,s≠"op"∧s≠"call":=by decide +kernel
 unfold aU at e;obtain⟨s,hs,e2⟩:=List.any_eq_true.mp e;have:s=h:=by simpa using e2
 subst this;exact ‹∀ s∈stW,s≠"op"∧s≠"call"› s hs
theorem tU (D:Def K mg "_law_still" sLs) (b9:Fn P w K mg base "_law_all" 10 ["_law_e_here","_law_with_funs"] (jw K 9)):Fn P w K mg base "_law_still" 11 ["_law_core_here","_law_e_here"] (pW K 0):=by
 refine D.fn sO (fun vs H Q E h=>?_) (fun _ _ _ _ _ _ us hl=>by obtain⟨a,b,rfl⟩:=dl hl;rfl) (fun f' cdv A outer s' H vs Q E hr h=>?_)
 · obtain⟨vc,v,gs,rk,rs,e,rfl,_⟩:=h;rfl
 · obtain⟨vc,v,gs,rk,rs,e,rfl,tc,rko,hrs,tv,wf,hsz,bel,q⟩:=h;have nd:=sO.nd;refine⟨_,(pD (bF PassesOwn.never rfl (bi (ab b9 (hr.mono (by omega)) rfl (pA (pv 1) (pA bD pB)))) (aw (i:=2) nd rfl (Or.inl rfl))
 (pD (az (pM aY (aa a9 (pv 2) pF (fun _ _=>rfl)) (@ag _ _ _ _ _ (@pA _ _ _ _ _ pC (@pA _ _ _ _ _ pC (@pA _ _ _ _ _ pC (@pA _ _ _ _ _ pC (@pA _ _ _ _ _ pC pB (by rfl)) (by rfl)) (by rfl)) (by rfl)) (by rfl))) (by with_unfolding_all rfl)) (pG (ae bD)) ah)
 (pD (az (PW.pt (cZ (pM aH (aa a9 (pv 2) pF (fun _ _=>rfl)) pC (pN _)) (bX (pM aY (aa a9 (pv 2) pF (fun _ _=>rfl)) (ag (pA pC (pA pC pB))) (by with_unfolding_all rfl))))) (pG (ae bD)) ah)
 (pG (az (pM aH (aa a9 (pv 2) pF (fun _ _=>rfl)) pC (pN _)) (pG (az (PW.pt (dO (pM aH (aa a9 (aa a9 (aa a9 (pv 0) pF (fun _ _=>rfl)) (aa a9 (pv 2) pF (fun _ _=>rfl)) (fun _ _=>rfl)) pF (fun _ _=>rfl)) pC (pN _)) wK)) (pG (ae bD)) ah)) ah)))))
 (pG (ae bD))),?_⟩
   dsimp only[bd];refine⟨_,rfl,v,false,e,rfl,tv,wf,hsz,fun L H1 zs s1 hL hz tz=>⟨L,rfl,⟨zs,SqL.of hz⟩,?_⟩⟩;have tz':TDs K H1 zs (cs 9 e):=tz;have zl:=tz'.length;show aA _ _ _ _ _ _;refine aA.by (aI (xs:=zs)) (fun i σ Hi=>ai H1 Hi∧(∀ x∈(cs 9 e).take i,aJ rs x=false)∧∃ x2,σ=[some vc,some v,x2]) ⟨ai.refl _,fun x hx=>(by simp at hx),_,rfl⟩ (fun i σ Hi _ h=>SqL.of (h.1 _ _ hz)) ?_ ?_
   · rintro i u σ Hi hui ⟨si,hn,x2,rfl⟩;obtain⟨x,hx,tx⟩:=tz'.get hui;have xm:=mGE hx;obtain⟨h,sl,ps,ndx⟩:=dQ wf (cI xm);obtain⟨p,vs,rfl,hp,hvs⟩:=bR (tx.same si) ndx;have hh:=gJ ndx;obtain⟨p0,r0,rfl,p1,p2⟩:=iD ndx;obtain⟨vp,vr,rfl,tp,tr⟩:∃ vp vr,vs=vp::vr∧TD K Hi vp p0∧TDs K Hi vr r0:=by
      cases hvs with
      | cons a b=>exact⟨_,_,rfl,a,b⟩
     have at0:∀ {x:V} {r:List V},atI (x::r) 0=some x:=fun {x r}=>pH (j:=0) rfl;have at1:∀ {x y:V} {r:List V},atI (x::y::r) 1=some y:=fun {x y r}=>pH (j:=1) rfl;have bad:∀ H2,ai Hi H2→aJ rs x=true→Q (.bl false) H2:=fun H2 s2 z=>q false H2 (s1.trans (si.trans s2)) ⟨fun y=>(by cases y),fun y=>by rw[y x xm] at z;cases z⟩;have good:∀ H2,ai Hi H2→aJ rs x=false→(ai H1 H2∧(∀ x∈(cs 9 e).take (i+1),aJ rs x=false)∧∃ x2,[some vc,some v,some (V.ref p)]=[some vc,some v,x2]):=fun H2 s2 z=>⟨si.trans s2,fun y hy=>by
       rw[tAO,hx,mAp] at hy
       rcases hy with hy | hy
       · exact hn y hy
       · rw[show y=x by simpa using hy];exact z,_,rfl⟩
     refine aq fun nA hA=>?_;refine⟨_,rfl,p,_,_,_,rfl,rfl,hp,at0,B0,fun t1 ht1=>?_⟩;have k1:=smu (o:=HO.tup (stW.map V.str)) ht1;refine⟨t1,stW.map V.str,rfl,.inr (SqT.of pE),rfl,br _,_,rfl,?_⟩;rw[bH];have S1:ai Hi (upd Hi t1 (.tup [V.str "say",V.str "fault",V.str "while",V.str "apply",V.str "get"])):=k1;clear k1;generalize upd Hi t1 (.tup [V.str "say",V.str "fault",V.str "while",V.str "apply",V.str "get"])=H2 at S1 ⊢;have eqx:=ndx.eq;by_cases e1:aU h stW=true
     · refine pJ e1 (bad H2 S1 ?_);rw[eqx,fY _ (ib e1).1 (ib e1).2];exact e1
     refine pI e1 (hA _ _ (aq fun nB hB=>?_));have hp2:=hp.tk S1.tk;refine⟨_,rfl,p,_,_,_,rfl,rfl,hp2,at0,rfl,_,rfl,?_⟩;by_cases eo:h="op"
     · refine pJ (by simp[eo]) ?_;obtain⟨s,rfl⟩:=p1 eo;rw[tp.str_of] at hp2 hp;refine⟨_,rfl,p,_,_,_,rfl,rfl,hp2,at1,cE,fun t2 ht2=>?_⟩;have k2:=smu (o:=HO.tup (opW.map V.str)) ht2;refine⟨t2,opW.map V.str,rfl,.inr (SqT.of pE),rfl,br _,_,rfl,?_⟩;rw[bH];have S2:ai Hi (upd H2 t2 (.tup [V.str "div",V.str "at"])):=S1.trans k2;clear k2;generalize upd H2 t2 (.tup [V.str "div",V.str "at"])=H3 at S2 ⊢;have stx:aJ rs x=aU s opW:=by
        rw[eqx,mL _ eo]
       by_cases e4:aU s opW=true
       · exact pJ e4 (bad H3 S2 (by rw[stx];exact e4))
       · refine pI e4 (hB _ _ ?_);refine⟨_,rfl,p,_,_,_,rfl,rfl,hp.tk S2.tk,at0,rfl,_,rfl,?_⟩;refine pI (by rw[eo];decide +kernel) (good H3 S2 (by rw[stx];simpa using e4))
     · refine pI (by simpa using eo) ?_;refine fw (hB _ _ ?_);refine⟨_,rfl,p,_,_,_,rfl,rfl,hp2,at0,rfl,_,rfl,?_⟩;by_cases e2:h="call"
       · refine pJ (by simp[e2]) ?_;obtain⟨g,h',c',d',t',ex,hg,hrk⟩:=bel x xm (by rw[hh];exact e2);rw[eqx] at ex;cases ex;have ip:=tp.int_of;subst ip;obtain⟨rs0,os0,tc0⟩:=tc;obtain⟨a,b,c0,e0,xs,zs0,rfl,ha,hb,hxs,tb,_⟩:=fQ (tc0.same (s1.trans (si.trans S1)));obtain⟨y,hy,ty⟩:=hxs.at hg;obtain⟨ta,us,rfl,hta,hus⟩:=(show TD K H2 y (.tuple [.str h',.int ((c':Nat):Int),d']) from ty).tup_of;obtain⟨u1,u2,vb,rfl,a1,a2,t3⟩:=jr hus;have e1':=a1.str_of;have e2':=a2.int_of;subst e1' e2';have stx:aJ rs x=decide (((g:Nat):Int)∈rs):=by
          rw[eqx,gZ _ rfl]
         refine⟨_,rfl,a,_,_,_,rfl,rfl,ha,at0,_,rfl,p,_,_,_,rfl,rfl,hp2,at1,b,_,_,_,rfl,rfl,hb,pH hy,ta,_,_,_,rfl,rfl,hta,at0,rfl,_,rfl,?_⟩;by_cases e3:h'="deep"
         · refine pJ (by simp[e3]) ?_;refine cB ?_;refine bad H2 S1 ?_;rw[stx,decide_eq_true ((hrs _).mpr (.loc ((fu hg).mpr (.inl e3))))]
         refine pI (by simpa using e3) ?_;exact absurd (hrk.resolve_left e3) (Nat.not_lt_zero _)
       · refine pI (by simpa using e2) (good H2 S1 ?_);rw[eqx,fY _ eo e2]
         simpa using e1
   · rintro σ Hi ⟨si,hn,x2,rfl⟩;rw[zl,List.take_length] at hn;exact q true Hi (s1.trans si) ⟨fun _=>hn,fun _=>rfl⟩
theorem tV {r:Nat} (D:Def K mg "_law_still" sLs) (b9:Fn P w K mg base "_law_all" 10 ["_law_e_here","_law_with_funs"] (jw K 9)) (cU:Fn P w K mg base "_law_still" (r+11) ["_law_core_here","_law_e_here"] (pW K r)):Fn P w K mg base "_law_still" (r+12) ["_law_core_here","_law_e_here"] (pW K (r+1)):=by
 refine D.fn sO (fun vs H Q E h=>?_) (fun _ _ _ _ _ _ us hl=>by obtain⟨a,b,rfl⟩:=dl hl;rfl) (fun f' cdv A outer s' H vs Q E hr h=>?_)
 · obtain⟨vc,v,gs,rk,rs,e,rfl,_⟩:=h;rfl
 · obtain⟨vc,v,gs,rk,rs,e,rfl,tc,rko,hrs,tv,wf,hsz,bel,q⟩:=h;have nd:=sO.nd;refine⟨_,(pD (bF PassesOwn.never rfl (bi (ab b9 (hr.mono (by omega)) rfl (pA (pv 1) (pA bD pB)))) (aw (i:=2) nd rfl (Or.inl rfl))
 (pD (az (pM aY (aa a9 (pv 2) pF (fun _ _=>rfl)) (@ag _ _ _ _ _ (@pA _ _ _ _ _ pC (@pA _ _ _ _ _ pC (@pA _ _ _ _ _ pC (@pA _ _ _ _ _ pC (@pA _ _ _ _ _ pC pB (by rfl)) (by rfl)) (by rfl)) (by rfl)) (by rfl))) (by with_unfolding_all rfl)) (pG (ae bD)) ah)
 (pD (az (PW.pt (cZ (pM aH (aa a9 (pv 2) pF (fun _ _=>rfl)) pC (pN _)) (bX (pM aY (aa a9 (pv 2) pF (fun _ _=>rfl)) (ag (pA pC (pA pC pB))) (by with_unfolding_all rfl))))) (pG (ae bD)) ah)
 (pG (az (pM aH (aa a9 (pv 2) pF (fun _ _=>rfl)) pC (pN _)) (pG (az (PW.pt (dO (pM aH (aa a9 (aa a9 (aa a9 (pv 0) pF (fun _ _=>rfl)) (aa a9 (pv 2) pF (fun _ _=>rfl)) (fun _ _=>rfl)) pF (fun _ _=>rfl)) pC (pN _)) (cY (fg (dP (ab cU (hr.mono (by omega)) rfl (pA (pv 0) (pA (aa a9 (aa a9 (aa a9 (pv 0) pF (fun _ _=>rfl)) (aa a9 (pv 2) pF (fun _ _=>rfl)) (fun _ _=>rfl)) pF (fun _ _=>rfl)) pB)))))))) (pG (ae bD)) ah)) ah)))))
 (pG (ae bD))),?_⟩
   dsimp only[bd];refine⟨_,rfl,v,false,e,rfl,tv,wf,hsz,fun L H1 zs s1 hL hz tz=>⟨L,rfl,⟨zs,SqL.of hz⟩,?_⟩⟩;have tz':TDs K H1 zs (cs 9 e):=tz;have zl:=tz'.length;show aA _ _ _ _ _ _;refine aA.by (aI (xs:=zs)) (fun i σ Hi=>ai H1 Hi∧(∀ x∈(cs 9 e).take i,aJ rs x=false)∧∃ x2,σ=[some vc,some v,x2]) ⟨ai.refl _,fun x hx=>(by simp at hx),_,rfl⟩ (fun i σ Hi _ h=>SqL.of (h.1 _ _ hz)) ?_ ?_
   · rintro i u σ Hi hui ⟨si,hn,x2,rfl⟩;obtain⟨x,hx,tx⟩:=tz'.get hui;have xm:=mGE hx;obtain⟨h,sl,ps,ndx⟩:=dQ wf (cI xm);obtain⟨p,vs,rfl,hp,hvs⟩:=bR (tx.same si) ndx;have hh:=gJ ndx;obtain⟨p0,r0,rfl,p1,p2⟩:=iD ndx;obtain⟨vp,vr,rfl,tp,tr⟩:∃ vp vr,vs=vp::vr∧TD K Hi vp p0∧TDs K Hi vr r0:=by
      cases hvs with
      | cons a b=>exact⟨_,_,rfl,a,b⟩
     have at0:∀ {x:V} {r:List V},atI (x::r) 0=some x:=fun {x r}=>pH (j:=0) rfl;have at1:∀ {x y:V} {r:List V},atI (x::y::r) 1=some y:=fun {x y r}=>pH (j:=1) rfl;have bad:∀ H2,ai Hi H2→aJ rs x=true→Q (.bl false) H2:=fun H2 s2 z=>q false H2 (s1.trans (si.trans s2)) ⟨fun y=>(by cases y),fun y=>by rw[y x xm] at z;cases z⟩;have good:∀ H2,ai Hi H2→aJ rs x=false→(ai H1 H2∧(∀ x∈(cs 9 e).take (i+1),aJ rs x=false)∧∃ x2,[some vc,some v,some (V.ref p)]=[some vc,some v,x2]):=fun H2 s2 z=>⟨si.trans s2,fun y hy=>by
       rw[tAO,hx,mAp] at hy
       rcases hy with hy | hy
       · exact hn y hy
       · rw[show y=x by simpa using hy];exact z,_,rfl⟩
     refine aq fun nA hA=>?_;refine⟨_,rfl,p,_,_,_,rfl,rfl,hp,at0,B0,fun t1 ht1=>?_⟩;have k1:=smu (o:=HO.tup (stW.map V.str)) ht1;refine⟨t1,stW.map V.str,rfl,.inr (SqT.of pE),rfl,br _,_,rfl,?_⟩;rw[bH];have S1:ai Hi (upd Hi t1 (.tup [V.str "say",V.str "fault",V.str "while",V.str "apply",V.str "get"])):=k1;clear k1;generalize upd Hi t1 (.tup [V.str "say",V.str "fault",V.str "while",V.str "apply",V.str "get"])=H2 at S1 ⊢;have eqx:=ndx.eq;by_cases e1:aU h stW=true
     · refine pJ e1 (bad H2 S1 ?_);rw[eqx,fY _ (ib e1).1 (ib e1).2];exact e1
     refine pI e1 (hA _ _ (aq fun nB hB=>?_));have hp2:=hp.tk S1.tk;refine⟨_,rfl,p,_,_,_,rfl,rfl,hp2,at0,rfl,_,rfl,?_⟩;by_cases eo:h="op"
     · refine pJ (by simp[eo]) ?_;obtain⟨s,rfl⟩:=p1 eo;rw[tp.str_of] at hp2 hp;refine⟨_,rfl,p,_,_,_,rfl,rfl,hp2,at1,cE,fun t2 ht2=>?_⟩;have k2:=smu (o:=HO.tup (opW.map V.str)) ht2;refine⟨t2,opW.map V.str,rfl,.inr (SqT.of pE),rfl,br _,_,rfl,?_⟩;rw[bH];have S2:ai Hi (upd H2 t2 (.tup [V.str "div",V.str "at"])):=S1.trans k2;clear k2;generalize upd H2 t2 (.tup [V.str "div",V.str "at"])=H3 at S2 ⊢;have stx:aJ rs x=aU s opW:=by
        rw[eqx,mL _ eo]
       by_cases e4:aU s opW=true
       · exact pJ e4 (bad H3 S2 (by rw[stx];exact e4))
       · refine pI e4 (hB _ _ ?_);refine⟨_,rfl,p,_,_,_,rfl,rfl,hp.tk S2.tk,at0,rfl,_,rfl,?_⟩;refine pI (by rw[eo];decide +kernel) (good H3 S2 (by rw[stx];simpa using e4))
     · refine pI (by simpa using eo) ?_;refine fw (hB _ _ ?_);refine⟨_,rfl,p,_,_,_,rfl,rfl,hp2,at0,rfl,_,rfl,?_⟩;by_cases e2:h="call"
       · refine pJ (by simp[e2]) ?_;obtain⟨g,h',c',d',t',ex,hg,hrk⟩:=bel x xm (by rw[hh];exact e2);rw[eqx] at ex;cases ex;have ip:=tp.int_of;subst ip;obtain⟨rs0,os0,tc0⟩:=tc;obtain⟨a,b,c0,e0,xs,zs0,rfl,ha,hb,hxs,tb,_⟩:=fQ (tc0.same (s1.trans (si.trans S1)));obtain⟨y,hy,ty⟩:=hxs.at hg;obtain⟨ta,us,rfl,hta,hus⟩:=(show TD K H2 y (.tuple [.str h',.int ((c':Nat):Int),d']) from ty).tup_of;obtain⟨u1,u2,vb,rfl,a1,a2,t3⟩:=jr hus;have e1':=a1.str_of;have e2':=a2.int_of;subst e1' e2';have stx:aJ rs x=decide (((g:Nat):Int)∈rs):=by
          rw[eqx,gZ _ rfl]
         refine⟨_,rfl,a,_,_,_,rfl,rfl,ha,at0,_,rfl,p,_,_,_,rfl,rfl,hp2,at1,b,_,_,_,rfl,rfl,hb,pH hy,ta,_,_,_,rfl,rfl,hta,at0,rfl,_,rfl,?_⟩;by_cases e3:h'="deep"
         · refine pJ (by simp[e3]) ?_;refine cB ?_;refine bad H2 S1 ?_;rw[stx,decide_eq_true ((hrs _).mpr (.loc ((fu hg).mpr (.inl e3))))]
         refine pI (by simpa using e3) ?_;obtain⟨w1',w2',w3'⟩:=rko.rk g h' c' d' hg e3;have hlt:=hrk.resolve_left e3;refine⟨_,rfl,_,rfl,a,_,_,_,rfl,rfl,ha,at0,_,rfl,p,_,_,_,rfl,rfl,hp2,at1,b,_,_,_,rfl,rfl,hb,pH hy,ta,_,_,_,rfl,rfl,hta,pH (j:=2) rfl,.ref a,vb,gs,rk,rs,d',rfl,⟨rs0,os0,tc0.same (s1.trans (si.trans S1))⟩,rko,hrs,t3,w1',w2',w3'.up (by omega),fun b4 H4 s4 hb4=>⟨_,rfl,?_⟩⟩;have riff:=wG hrs hg w1' e3;cases b4 with
         | false =>
          refine cB ?_;refine bad H4 (S1.trans s4) ?_;rw[stx];refine decide_eq_true ((hrs _).mpr (riff.mpr ?_));refine Classical.byContradiction fun hno=>?_;have:=hb4.mpr fun y hy=>by
           cases ey:aJ rs y with
           | false=>rfl
           | true=>exact absurd ⟨y,hy,ey⟩ hno
          cases this
         | true =>
          refine fw ?_;refine good H4 (S1.trans s4) ?_;rw[stx];refine decide_eq_false fun z=>?_;obtain⟨y,hy,ey⟩:=riff.mp ((hrs _).mp z);rw[hb4.mp rfl y hy] at ey;cases ey
       · refine pI (by simpa using e2) (good H2 S1 ?_);rw[eqx,fY _ eo e2]
         simpa using e1
   · rintro σ Hi ⟨si,hn,x2,rfl⟩;rw[zl,List.take_length] at hn;exact q true Hi (s1.trans si) ⟨fun _=>hn,fun _=>rfl⟩
theorem zS (D:Def K mg "_law_still" sLs) (b9:Fn P w K mg base "_law_all" 10 ["_law_e_here","_law_with_funs"] (jw K 9)) (r:Nat):Fn P w K mg base "_law_still" (r+11) ["_law_core_here","_law_e_here"] (pW K r):=by
 induction r with
 | zero=>exact tU D b9
 | succ r ih=>exact tV D b9 ih
end
end K23
namespace P10
open PySem L2
def iT (i j:Int) (l:PDs):Prop:=i≤j∧(∀ y∈l,∀ v∈cK y,i≤v∧v<j)∧∀ y∈l,∀ z∈l,∀ v,v∈cK y→v∈cK z→hdO y=hdO z
theorem iT.app {i l j:Int} {a b:PDs} (h:iT i l a) (g:iT l j b):iT i j (a++b):=by
 obtain⟨a1,a2,a3⟩:=h;obtain⟨b1,b2,b3⟩:=g;refine⟨by omega,fun y hy v hv=>?_,fun y hy z hz v hv hw=>?_⟩
 · rcases mAp.mp hy with hy | hy
   · have:=a2 y hy v hv;omega
   · have:=b2 y hy v hv;omega
 · rcases mAp.mp hy with hy | hy <;> rcases mAp.mp hz with hz | hz
   · exact a3 y hy z hz v hv hw
   · have:=a2 y hy v hv;have:=b2 z hz v hw;omega
   · have:=b2 y hy v hv;have:=a2 z hz v hw;omega
   · exact b3 y hy z hz v hv hw
theorem xF {n:Nat}:∀ {d:PyData} {i j:Int},CnD n i d j→iT i j (ax n d):=by
 induction n with
 | zero=>exact fun h=>h.elim
 | succ n ih =>
  rintro d i j ⟨k,hb,hk⟩;have one:iT i (i+((k:Nat):Int)) [d]:=by
   refine⟨by omega,fun y hy v hv=>?_,fun y hy z hz v _ _=>by rw[mSg.mp hy,mSg.mp hz]⟩;rw[mSg.mp hy,jK,hb] at hv;obtain⟨w,hw,e⟩:=List.mem_map.mp hv;cases e;obtain⟨t,ht,rfl⟩:=List.mem_map.mp hw;have:=List.mem_range.mp ht;omega
  have many:∀ {ks:PDs} {i j:Int},CnL (CnD n) i ks j→iT i j ((ks.map (ax n)).flatten):=by
   intro ks
   induction ks with
   | nil=>intro i j h;cases (show j=i from h);exact⟨Int.le_refl _,fun y hy=>by simp at hy,fun y hy=>by simp at hy⟩
   | cons x r ihr =>
    rintro i j ⟨l,h1,h2⟩;rw[List.map_cons,List.flatten_cons];exact (ih h1).app (ihr h2)
  exact one.app (many hk)
theorem sZ {n:Nat}:∀ {e x:PyData},x∈ax n e→x∈cs n e∨∃ m f,Sub n e m f∧hdO f="fun"∧x∈ax m f:=by
 induction n with
 | zero=>intro e x h;cases h
 | succ n ih =>
  intro e x h;by_cases hf:hdO e="fun"
  · exact .inr ⟨n+1,e,.here n e,hf,h⟩
  · rcases i8 h with rfl | ⟨y,hy,hx⟩
    · exact .inl (by rw[eL];exact mCS)
    · rcases ih hx with z | ⟨m,f,s,h1,h2⟩
      · refine .inl ?_;rw[eL];refine mCM _ (List.mem_flatten.mpr ⟨_,List.mem_map_of_mem ?_,z⟩);unfold cR;rw[if_neg hf];exact hy
      · exact .inr ⟨m,f,.kid hy s,h1,h2⟩
theorem qI {n m:Nat} (h:n≤m):∀ {e x:PyData},x∈cs n e→x∈cs m e:=by
 induction n generalizing m with
 | zero=>intro e x h;cases h
 | succ n ih =>
  intro e x hx;obtain⟨m,rfl⟩:∃ m',m=m'+1:=⟨m-1,by omega⟩;rw[eL] at hx ⊢
  rcases List.mem_cons.mp hx with rfl | hx
  · exact mCS
  · obtain⟨l,hl,hx⟩:=List.mem_flatten.mp hx;obtain⟨y,hy,rfl⟩:=List.mem_map.mp hl;exact mCM _ (List.mem_flatten.mpr ⟨_,List.mem_map_of_mem hy,ih (by omega) hx⟩)
theorem wm {n m:Nat} {d e:PyData} (h:Sub n d m e) (wf:WFd n d):∃ A:List Int,A.length+3*m≤3*n∧∀ i,FrD m e i→FrD n d i∨i∈A:=by
 induction h with
 | here n d=>exact⟨[],by simp,fun i z=>.inl z⟩
 | @kid n m d x f hx _ ih =>
  obtain⟨A,h1,h2⟩:=ih (wf.kid hx);obtain⟨h',sl,ps,nd⟩:=wf.node;refine⟨A++cK d,by have:=(nF nd).2;rw[lAp];omega,fun i z=>?_⟩
  rcases h2 i z with z | z
  · by_cases hi:i∈cK d
    · exact .inr (List.mem_append_right _ hi)
    · obtain⟨k,hk⟩:=List.getElem?_of_mem hx;exact .inl (.inr ⟨k,x,hk,z,fun _ y=>hi (jK.mpr y)⟩)
  · exact .inr (List.mem_append_left _ z)
theorem wO {n:Nat}:∀ {d:PyData} {w:Nat},WFd n d→Sz w d→(ax n d).length≤w+1:=by
 induction n with
 | zero=>intro d w wf;exact wf.elim
 | succ n ih =>
  intro d w wf hw;obtain⟨h,sl,ps,nd,hk⟩:=wf;have many:∀ {l:PDs} {a:Nat},(∀ x∈l,WFd n x)→SzL a l→((l.map (ax n)).flatten).length≤a:=by
   intro l
   induction l with
   | nil=>intro a _ _;exact Nat.zero_le _
   | cons x r ihr =>
    intro a hx hs;cases hs with
    | cons p q hw =>
     have e1:=ih (hx x mCS) p;have e2:=ihr (fun y hy=>hx y (mCM _ hy)) q;rw[List.map_cons,List.flatten_cons,lAp];omega
  have slots:∀ {ps:PDs} {sl:List Str} {b:Nat},(∀ x∈aX sl ps,WFd n x)→SzL b ps→(((aX sl ps).map (ax n)).flatten).length≤b:=by
   intro ps
   induction ps with
   | nil=>intro sl b _ _;cases sl <;> exact Nat.zero_le _
   | cons p r ihr =>
    intro sl b hx hs;cases sl with
    | nil=>exact Nat.zero_le _
    | cons s sl =>
     cases hs with
     | @cons _ a b' _ _ hp hq hw =>
      have ek:aX (s::sl) (p::r)=fM s p++aX sl r:=rfl;rw[ek] at hx ⊢;rw[List.map_append,List.flatten_append,lAp];have e2:=ihr (fun y hy=>hx y (List.mem_append_right _ hy)) hq;have e1:(((fM s p).map (ax n)).flatten).length≤a+1:=by
       have hx1:∀ y∈fM s p,WFd n y:=fun y hy=>hx y (List.mem_append_left _ hy);unfold fM at hx1 ⊢;split
       · rename_i es
         rw[if_pos es] at hx1;have:=ih (hx1 p (mSg.mpr rfl)) hp
         simpa using this
       · rename_i es
         rw[if_neg es] at hx1;split
         · rename_i em
           rw[if_pos em] at hx1;cases hp with
           | tup z=>exact Nat.le_trans (many hx1 z) (Nat.le_succ _)
           | int=>exact Nat.zero_le _
           | str=>exact Nat.zero_le _
         · exact Nat.zero_le _
      omega
  have ed:=nd.eq;subst ed;cases hw with
  | tup hw =>
   cases hw with
   | cons p q hw =>
    have:=slots hk q;show (_::((aj _).map (ax n)).flatten).length≤_;rw[List.length_cons,nd.kids];omega
end P10
namespace K23
open PySem L2 P10
structure LdF (d:PyData) (c:Nat):Prop where
  wf:WFd 9 d
  sz:(ax 9 d).length≤900000
  c2:c≤2
  cn:∃ c',CnD 9 ((c:Nat):Int) d c'
  fo:bV (rgI 0 c) 9 d
  fr:∀ i,FrD 9 d i→i∈rgI 0 c
theorem wb9:wb 9=234040:=by decide
theorem LdF.of {Γ:Gam} {c:Nat} {d:PyData} {c':Int} (x:XE Γ (rgI 0 c) [] 9 ((c:Nat):Int) d c') (hc:c≤2):LdF d c:=by
 have e9:=wb9;have s:=x.li (fun i hi=>by
   rw[List.append_nil] at hi;obtain⟨t,ht,rfl⟩:=List.mem_map.mp hi;have:=List.mem_range.mp ht;exact⟨by omega,by omega⟩) (by omega) (by rw[e9];omega)
 have wf:=x.ok.wf;refine⟨wf,?_,hc,⟨c',x.cn⟩,x.fo,fun i z=>by have:=x.ok.cl i z;rw[List.append_nil] at this;exact this⟩;have:=wO wf s;omega
section
variable {d e:PyData} {c m:Nat}
theorem LdF.apart (l:LdF d c) {i:Int} (h:i∈eR 9 d):i∉rgI 0 c∧i∉qS 9 d:=by
 obtain⟨c',hc⟩:=l.cn;obtain⟨_,a2,a3⟩:=xF hc;obtain⟨y,hy,hv⟩:=aT.mp h;have hy1:hdO y="var"∧i∈cK y:=by
  unfold dJ at hv;by_cases e1:hdO y="var"
  · rw[if_pos e1] at hv;exact⟨e1,hv⟩
  · rw[if_neg e1] at hv;cases hv
 refine⟨fun z=>?_,fun z=>?_⟩
 · obtain⟨t,ht,rfl⟩:=List.mem_map.mp z;have:=List.mem_range.mp ht;have:=(a2 y hy _ hy1.2).1;omega
 · obtain⟨x,hx,hl⟩:=aT.mp z;unfold iE at hl;by_cases e1:hdO x="var"
   · rw[if_pos e1] at hl;cases hl
   · rw[if_neg e1] at hl;exact e1 ((a3 x hx y hy i hl hy1.2).trans hy1.1)
theorem jd {n:Nat} {i:Int}:i∈iA n e↔i∈eR n e∨i∈qS n e:=by
 unfold iA eR qS;rw[aT,aT,aT];constructor
 · rintro⟨y,hy,h⟩;by_cases e1:hdO y="var"
   · exact .inl ⟨y,hy,by unfold dJ;rw[if_pos e1];exact h⟩
   · exact .inr ⟨y,hy,by unfold iE;rw[if_neg e1];exact h⟩
 · rintro (⟨y,hy,h⟩ | ⟨y,hy,h⟩)
   · unfold dJ at h;by_cases e1:hdO y="var"
     · rw[if_pos e1] at h;exact⟨y,hy,h⟩
     · rw[if_neg e1] at h;cases h
   · unfold iE at h;by_cases e1:hdO y="var"
     · rw[if_pos e1] at h;cases h
     · rw[if_neg e1] at h;exact⟨y,hy,h⟩
theorem LdF.pre (l:LdF d c) (s:Sub 9 d m e):WFd 9 e∧ax 9 e=ax m e∧(ax 9 e).length≤900000:=by
 have w:=s.wf l.wf;have e1:=cH w s.le;exact⟨w.more s.le,e1,by rw[e1];exact Nat.le_trans (ju s) l.sz⟩
theorem LdF.q (l:LdF d c) (s:Sub 9 d m e) (wd:Str) (i:Int):kH 9 e wd d i↔inQ e wd d i:=by
 obtain⟨w9,ep,_⟩:=l.pre s;constructor
 · rintro⟨⟨x,hx,h1,h2⟩,hv,hn⟩;refine⟨⟨x,?_,h1,h2⟩,hv,fun z=>hn (jd.mpr (.inl z))⟩;rw[ep] at hx
   rcases sZ hx with z | ⟨k,f,sf,hf,hxf⟩
   · exact qI s.le z
   · exfalso;have ap:=l.apart hv
     rcases l.fo k f (s.trans sf) hf x hxf i h2 with z | z | z
     · refine hn ?_;obtain⟨y,hy,hi⟩:=aT.mp z;exact aT.mpr ⟨y,by rw[ep];exact sf.pre y hy,hi⟩
     · exact ap.1 z
     · exact ap.2 z
 · rintro⟨⟨x,hx,h1,h2⟩,hv,hn⟩;refine⟨⟨x,cI hx,h1,h2⟩,hv,fun z=>?_⟩
   rcases jd.mp z with z | z
   · exact hn z
   · refine (l.apart hv).2 ?_;obtain⟨y,hy,hi⟩:=aT.mp z;rw[ep] at hy;exact aT.mpr ⟨y,s.pre y hy,hi⟩
theorem LdF.b (l:LdF d c) (s:Sub 9 d m e):∃ B:List Int,B.length<64∧∀ wd i,kH 9 e wd d i→i∈B:=by
 obtain⟨w9,ep,_⟩:=l.pre s;obtain⟨A,h1,h2⟩:=wm s l.wf;refine⟨rgI 0 c++A,by rw[lAp,cO];have:=l.c2;omega,fun wd i h=>?_⟩;obtain⟨⟨x,hx,_,hm⟩,_,hn⟩:=h;rw[ep] at hx;have hn':i∉iA m e:=fun z=>hn (by unfold iA at z ⊢;rw[ep];exact z)
 rcases h2 i ((qx hx hm).resolve_right hn') with z | z
 · exact List.mem_append_left _ (l.fr i z)
 · exact List.mem_append_right _ z
end
def gE (gs:PDs) (rk:Nat→Nat) (r:Nat) (e:PyData):Prop:=∀ x∈ax 9 e,hdO x="call"→∃ (g:Nat) (h:Str) (c:Nat) (d:PyData) (t:PDs),x=.tuple (.str "call"::.int ((g:Nat):Int)::t)∧gs[g]?=some (fnD h c d)∧(h="deep"∨rk g<r)
theorem gE.out {gs:PDs} {rk:Nat→Nat} {r:Nat} {e:PyData} (b:gE gs rk r e):j7 gs rk r e:=fun x hx=>b x (cI hx)
theorem gE.up {gs:PDs} {rk:Nat→Nat} {r r':Nat} {e:PyData} (b:gE gs rk r e) (h:r≤r'):gE gs rk r' e:=fun x hx hc=>by
 obtain⟨g,h',c,d,t,a1,a2,a3⟩:=b x hx hc;exact⟨g,h',c,d,t,a1,a2,a3.elim .inl fun z=>.inr (by omega)⟩
theorem gE.sub {gs:PDs} {rk:Nat→Nat} {r m:Nat} {d e:PyData} (b:gE gs rk r d) (wf:WFd 9 d) (s:Sub 9 d m e):j7 gs rk r e:=fun x hx=>b x (by
 have:=cI hx;rw[cH (s.wf wf) s.le] at this;exact s.pre x this)
structure LdC (gs:PDs) (rk:Nat→Nat):Prop where
  gl:gs.length≤5
  gf:∀ g<gs.length,∃ h c d,gs[g]?=some (fnD h c d)∧LdF d c∧gE gs rk 10 d
  rk:xP gs rk
theorem LdC.fns {gs:PDs} {rk:Nat→Nat} (l:LdC gs rk):rP gs:=fun g hg=>by
 obtain⟨i,hi⟩:=List.getElem?_of_mem hg;obtain⟨h,c,d,e,f,_⟩:=l.gf i (gES.mp hi).1;rw[hi] at e;cases e;exact⟨h,c,d,rfl,f.wf,Nat.le_trans (iB 9 d) f.sz⟩
theorem xh {hs:List (Str×Nat)} {rs:List Nat} {fs:PDs} {os:List (Str×Nat)} (co:AN hs rs fs os):∃ rk,LdC fs rk∧fs.length≤4:=by
 have hl:=co.hl;have fl:=co.fl;have hc2:∀ (k:Nat) (h:Str) (c:Nat),hs[k]?=some (h,c)→c≤2∧h∈hw3:=fun k h c e=>co.hh (h,c) (mGE e)
 let rk:Nat→Nat:=fun g=>if ((hs[g]?).map (·.1)).getD ("":Str)=("function":Str) then 4-g else 9
 have bel:∀ (k:Nat) (h:Str) (c:Nat) (d:PyData) (c':Int),hs[k]?=some (h,c)→XE ⟨hs,k,rs⟩ (rgI 0 c) [] 9 ((c:Nat):Int) d c'→∀ r,(h≠"deep"→r=rk k)→(h="deep"→9≤r)→gE fs rk r d:=by
  intro k h c d c' hh x r hr1 hr2 y hy hcall;obtain⟨f,h',c2,as,rfl,hf,_,hor⟩:=x.an y hy hcall;have hf3:f<hs.length:=(gES.mp hf).1;have hff:fs[f]?=some fs[f]:=gEE (by omega);obtain⟨h3,c3,d3,c3',a1,a2,a3⟩:=co.fo f fs[f] hff;rw[a2] at hff;have hf':hs[f]?=some (h',c2):=hf;rw[a1] at hf';cases hf';refine⟨f,h',c2,d3,_,rfl,hff,?_⟩
  rcases hor with z | ⟨z,z2⟩
  · exact .inl z
  · refine .inr ?_;have rj:rk f=4-f:=by
     show (if ((hs[f]?).map (·.1)).getD ("":Str)=("function":Str) then 4-f else 9)=_;rw[a1];show (if h'="function" then 4-f else 9)=_;rw[if_pos z]
    rw[rj];by_cases hd:h="deep"
    · have:=hr2 hd;omega
    · rw[hr1 hd];show _<(if ((hs[k]?).map (·.1)).getD ("":Str)=("function":Str) then 4-k else 9);rw[hh];show _<(if h="function" then 4-k else 9);have oh:(Gam.oh ⟨hs,k,rs⟩)=h:=by
       show ((hs[k]?).map (·.1)).getD ("":Str)=h;rw[hh];rfl
      by_cases hfn:h="function"
      · rw[if_pos hfn]
        rcases z2 with z2 | z2
        · have:k<f:=z2;omega
        · exact absurd (oh.trans hfn) z2
      · rw[if_neg hfn];omega
 have rk9:∀ g,rk g≤9:=fun g=>by
  show (if ((hs[g]?).map (·.1)).getD ("":Str)=("function":Str) then 4-g else 9)≤9;split <;> omega
 have all:∀ g<fs.length,∃ h c d,fs[g]?=some (fnD h c d)∧LdF d c∧gE fs rk 10 d∧(h≠"deep"→gE fs rk (rk g) d):=fun g hg=>by
  have e0:fs[g]?=some fs[g]:=gEE hg;obtain⟨h,c,d,c',e2,e3,x⟩:=co.fo g fs[g] e0;rw[e3] at e0;obtain⟨z1,z2⟩:=hc2 g h c e2;refine⟨h,c,d,e0,LdF.of x z1,?_,fun hd=>bel g h c d c' e2 x (rk g) (fun _=>rfl) fun y=>absurd y hd⟩;by_cases hd:h="deep"
  · exact bel g h c d c' e2 x 10 (fun y=>absurd hd y) (fun _=>by omega)
  · exact (bel g h c d c' e2 x (rk g) (fun _=>rfl) fun y=>absurd y hd).up (by have:=rk9 g;omega)
 refine⟨rk,⟨by omega,fun g hg=>?_,⟨fun g h c d hg hd=>?_⟩⟩,by omega⟩
 · obtain⟨h,c,d,e,a,b,_⟩:=all g hg;exact⟨h,c,d,e,a,b⟩
 · obtain⟨h',c',d',e,a,b,b2⟩:=all g (gES.mp hg).1;rw[hg] at e;cases e;exact⟨a.wf,a.sz,(b2 hd).out⟩
theorem LdC.more {gs:PDs} {rk:Nat→Nat} {d:PyData} {c:Nat} (l:LdC gs rk) (hl:gs.length≤4) (f:LdF d c) (nc:∀ x∈ax 9 d,hdO x≠"call"):LdC (gs++[fnD "deep" c d]) rk:=by
 have up:∀ {r:Nat} {e:PyData},gE gs rk r e→gE (gs++[fnD "deep" c d]) rk r e:=fun {r e} b x hx hc=>by
  obtain⟨g,h',c',d',t,a1,a2,a3⟩:=b x hx hc;exact⟨g,h',c',d',t,a1,by rw[List.getElem?_append_left (gES.mp a2).1];exact a2,a3⟩
 have upo:∀ {r:Nat} {e:PyData},j7 gs rk r e→j7 (gs++[fnD "deep" c d]) rk r e:=fun {r e} b x hx hc=>by
  obtain⟨g,h',c',d',t,a1,a2,a3⟩:=b x hx hc;exact⟨g,h',c',d',t,a1,by rw[List.getElem?_append_left (gES.mp a2).1];exact a2,a3⟩
 refine⟨by rw[lAp];show gs.length+1≤5;omega,fun g hg=>?_,⟨fun g h' c' d' hg hd=>?_⟩⟩
 · rcases Nat.lt_or_ge g gs.length with z | z
   · obtain⟨h',c',d',e,a,b⟩:=l.gf g z;exact⟨h',c',d',by rw[List.getElem?_append_left z];exact e,a,up b⟩
   · rw[lAp] at hg;have:g=gs.length:=by have:g<gs.length+1:=hg;omega
     subst this;exact⟨"deep",c,d,by rw[List.getElem?_append_right (Nat.le_refl _),Nat.sub_self];rfl,f,fun x hx hc=>absurd hc (nc x hx)⟩
 · rcases Nat.lt_or_ge g gs.length with z | z
   · rw[List.getElem?_append_left z] at hg;obtain⟨a,b,e⟩:=l.rk.rk g h' c' d' hg hd;exact⟨a,b,upo e⟩
   · rw[List.getElem?_append_right z] at hg;cases e:g-gs.length with
     | zero =>
      rw[e] at hg;cases hg;exact absurd rfl hd
     | succ m =>
      rw[e] at hg;cases hg
def LvI (d e e':PyData):Prop:=∀ i,inQ e "set" d i→¬ inQ e' "name" d i∧¬ inQ e' "set" d i
def StI (rs:List Int) (e:PyData):Prop:=∀ x∈cs 9 e,aJ rs x=false
structure PtQ (K:Fg) (H:Hp) (v:V) (gs:PDs) (rk:Nat→Nat) (d e:PyData) (B:List Int):Prop where
  td:TD K H v e
  wf:WFd 9 e
  sz:(ax 9 e).length≤900000
  bel:j7 gs rk 10 e
  hB:∀ wd i,inQ e wd d i→i∈B
  hl:B.length<64
theorem PtQ.same {K:Fg} {H H':Hp} {v:V} {gs:PDs} {rk:Nat→Nat} {d e:PyData} {B:List Int} (p:PtQ K H v gs rk d e B) (s:ai H H'):PtQ K H' v gs rk d e B:=⟨p.td.same s,p.wf,p.sz,p.bel,p.hB,p.hl⟩
section
variable {P:Program} {w:World} {K:Fg} {mg:SOV} {base:Heap}
abbrev sLA:Stmt:=top 39
inductive vy (K:Fg) (vs:List V) (H:Hp) (Q:VK):Prop
  | mk (vc:V) (va:Addr) (v u:V) (gs:PDs) (rk:Nat→Nat) (rs is:List Int) (d e e':PyData) (B B':List Int) (h0:vs=[vc,.ref va,v,u]) (h1:∃ rs os,TD K H vc (gM gs rs os)) (h2:xP gs rk) (h3:∀ i,i∈rs↔Rl gs i) (h4:H va=some (.lst (is.map V.int))) (h5:∀ i,i∈is↔i∈eR 9 d) (h6:PtQ K H v gs rk d e B) (h7:PtQ K H u gs rk d e' B')
    (q:∀ b H',ai H H'→(b=true↔(StI rs e∨StI rs e')∧LvI d e e'∧LvI d e' e)→Q (.bl b) H'):vy K vs H Q
def yF (K:Fg):Sp:=fun vs H Q _=>vy K vs H Q
abbrev nLA:List Str:=["_law_core_here","_law_all_vars","_law_one","_law_other","_law_first","_law_second","_law_touched"]
abbrev wN:List Str:=["_law_core_here","_law_all_vars","_law_one","_law_other"]
theorem z7:am nLA wN (a0 sLA):=fsM
theorem BD:(["_law_x","_law_touched"]:List Str).Nodup:=by decide +kernel
theorem Al (D:Def K mg "_law_apart" sLA) (T:Blt mg) (eB:Fn P w K mg base "_law_outer" 11 ["_law_all_vars","_law_e_here","_law_kind"] (yD K)) (cU:Fn P w K mg base "_law_still" 21 ["_law_core_here","_law_e_here"] (pW K 10)):Fn P w K mg base "_law_apart" 22 wN (yF K):=by
 refine D.fn z7 (fun vs H Q E h=>?_) (fun _ _ _ _ _ _ us hl=>by obtain⟨a,b,c,d,rfl⟩:=j4 hl;rfl) (fun f' cdv A outer s' H vs Q E hr h=>?_)
 · obtain⟨vc,va,v,u,gs,rk,rs,is,d,e,e',B,B',rfl,_⟩:=h;rfl
 · obtain⟨vc,va,v,u,gs,rk,rs,is,d,e,e',B,B',rfl,⟨rs0,os0,tc⟩,rko,hrs,hva,his,p1,p2,q⟩:=h;have nd:=z7.nd;have hz0:(4000000:Nat)<sizeLine:=by decide
   obtain⟨t1,h1,r1⟩:∃ t,PSs (be CX0 P w K mg base nLA "_law_apart" (a0 sLA) f' cdv A outer s' H E).nox ((ak sLA).drop 1) t ∧
    ∀ (H1:Hp) (x4 x5 x6:Option V),ai H H1→(StI rs e∨StI rs e')→t {nx:=fun _ H'=>Q .non H',rt:=Q} [some vc,some (.ref va),some v,some u,x4,x5,x6] H1:=by
    refine⟨_,(pD (bF PassesOwn.never rfl (bi (aM (pA (ag (pA (pv 2) (pA (pv 3) pB))) (pA (ag (pA (pv 3) (pA (pv 2) pB))) pB)))) (jC rfl (bQ (aw (i:=4) nd rfl (Or.inl rfl)) (bQ (aw (i:=5) nd rfl (Or.inl rfl)) hZ)))
 (pD (pL (i:=6) nd rfl (Or.inr rfl) (aC cz (ab eB (hr.mono (by decide)) rfl (pA (pv 1) (pA (pv 5) (pA pC pB)))) (ab eB (hr.mono (by decide)) rfl (pA (pv 1) (pA (pv 5) (pA pC pB))))))
 (pG (az (pM gH (bJ T.len (pA (dW (own:=["_law_x"]) (outs:=[(6,"_law_touched")]) (tc:=bU (tOp (rIn K false) (aQ 0) (aQ 1))) rfl (aB.of (a0 sLA) nLA) (bi (ab eB (hr.mono (by decide)) rfl (pA (pv 1) (pA (pv 4) (pA pC pB))))) (fun _ _ _ _=>⟨(aw (i:=0) BD rfl (Or.inl rfl)),(bG (pM aY (pv 0) (pv 1) (by with_unfolding_all rfl))),(pv 0)⟩)) pB)) pF (pN _)) (pG (ae bD)) ah))))
 (pG (ae bD))),fun H1 x4 x5 x6 s1 hst=>?_⟩
    dsimp only[bd];refine⟨_,rfl,_,rfl,cE,fun ta hta=>?_⟩;have k1:=smu (o:=HO.tup [v,u]) hta;refine⟨_,rfl,_,rfl,cE,fun tb htb=>?_⟩;have k2:=smu (o:=HO.tup [u,v]) htb;refine⟨cE,fun L hL=>?_⟩;have k3:=smu (o:=HO.lst [.ref ta,.ref tb]) hL;refine⟨L,rfl,⟨_,SqL.of pE⟩,?_⟩;have hL3:(upd (upd (upd H1 ta (.tup [v,u])) tb (.tup [u,v])) L (.lst [.ref ta,.ref tb])) L=some (.lst [.ref ta,.ref tb]):=pE;have hta3:(upd (upd (upd H1 ta (.tup [v,u])) tb (.tup [u,v])) L (.lst [.ref ta,.ref tb])) ta=some (.tup [v,u]):=k3 _ _ (k2 _ _ pE);have htb3:(upd (upd (upd H1 ta (.tup [v,u])) tb (.tup [u,v])) L (.lst [.ref ta,.ref tb])) tb=some (.tup [u,v]):=k3 _ _ pE;have s3:=s1.trans ((k1.trans k2).trans k3);generalize upd (upd (upd H1 ta (.tup [v,u])) tb (.tup [u,v])) L (.lst [.ref ta,.ref tb])=H3 at hL3 hta3 htb3 s3 ⊢;clear k1 k2 k3;show aA _ _ _ _ _ _;refine aA.byN (aI (xs:=[V.ref ta,V.ref tb])) (fun i σ Hi=>ai H3 Hi∧(1≤i→LvI d e e')∧(2≤i→LvI d e' e)∧∃ x4 x5 x6,σ=[some vc,some (.ref va),some v,some u,x4,x5,x6]) ⟨ai.refl _,fun z=>(by omega),fun z=>(by omega),_,_,_,rfl⟩ (fun _ _ _ _ z=>SqL.of (z.1 _ _ hL3)) ?_ ?_
    · rintro i x σ Hi N_ B_ hN_ hB_ hx ⟨si,l1,l2,x4,x5,x6,rfl⟩;have SI:=s3.trans si
      match i,hx with
      | 0,hx =>
       cases hx;refine⟨ta,_,rfl,SqT.of (si _ _ hta3),rfl,_,_,rfl,_,_,rfl,rfl,?_⟩;refine aq fun As g2_=>?_;have f1:=p1.same SI;have f2:=p2.same SI;refine⟨_,rfl,_,rfl,va,u,"name",d,e',is,B',rfl,SI _ _ hva,his,f2.td,f2.wf,f2.sz,by decide +kernel,fun i z=>f2.hB _ i z,f2.hl,fun a1 J1 y1 t1 ha1 hy1 nd1 so1 m1=>?_⟩;refine⟨_,rfl,_,rfl,va,u,"set",d,e',is,B',rfl,t1 _ _ (SI _ _ hva),his,f2.td.same t1,f2.wf,f2.sz,by decide +kernel,fun i z=>f2.hB _ i z,f2.hl,fun a2 J2 y2 t2 ha2 hy2 nd2 so2 m2=>?_⟩;have l1':=cw nd1 fun i hi=>f2.hB _ i ((m1 i).mp hi);have l2':=cw nd2 fun i hi=>f2.hB _ i ((m2 i).mp hi);have l3':=f2.hl;refine⟨a1,a2,_,_,rfl,rfl,SqL.of (t2 _ _ hy1),SqL.of hy2,by rw[lMp,lMp];omega,fun M hM=>?_⟩;rw[← List.map_append];have k3:=smu (o:=HO.lst ((y1++y2).map V.int)) hM;have hM3:(upd J2 M (.lst ((y1++y2).map V.int))) M=some (.lst ((y1++y2).map V.int)):=pE;refine g2_ _ _ ?_;generalize upd J2 M (.lst ((y1++y2).map V.int))=J3 at k3 hM3 ⊢;have T3:=(t1.trans t2).trans k3;refine⟨_,rfl,_,rfl,va,v,"set",d,e,is,B,rfl,T3 _ _ (SI _ _ hva),his,f1.td.same T3,f1.wf,f1.sz,by decide +kernel,fun i z=>f1.hB _ i z,f1.hl,fun a4 J4 y4 t4 ha4 hy4 nd4 so4 m4=>?_⟩;refine⟨a4,rfl,⟨_,SqL.of hy4⟩,fun G hG=>?_⟩;have l4':=cw nd4 fun i hi=>f1.hB _ i ((m4 i).mp hi);have l5':=f1.hl;show bt (Itl K a4) (dD 0) (bU (tOp (rIn K false) (aQ 0) (aQ 1))) (aQ 0) (fun x H1=>sX K [x] H1 fun x H1=>rI0 (fun i j=>V.bl (decide (j<i))) x (.int 0) H1 fun x H'=>BlR x H' fun b H1=>if b=true then Q (.bl false) H1 else N_ [some vc,some (.ref va),some v,some u,some v,some u,some (.ref M)] H1) [none,some (.ref M)] J4 G;refine gr hy4 (t4 _ _ hM3) (by omega) hG ⟨_,rfl⟩ fun J5 os t5 hos _ om=>?_;refine⟨G,_,rfl,.inl (SqL.of hos),_,_,rfl,rfl,_,rfl,?_⟩;have S5:ai Hi J5:=(T3.trans t4).trans t5;have key:∀ i,i∈os↔inQ e "set" d i∧(inQ e' "name" d i∨inQ e' "set" d i):=fun i=>by rw[om,m4,mAp,m1,m2]
       cases os with
       | nil =>
        have lv:LvI d e e':=fun i hi=>⟨fun y=>(by have:=(key i).mpr ⟨hi,.inl y⟩;cases this),fun y=>(by have:=(key i).mpr ⟨hi,.inr y⟩;cases this)⟩;exact fw (hN_ _ _ ⟨si.trans S5,fun _=>lv,fun z=>(by omega),_,_,_,rfl⟩)
       | cons y r =>
        obtain⟨ka,kb⟩:=(key y).mp mCS;refine pJ (by rw[lMp,List.length_cons];simp) (q false J5 (SI.trans S5) ⟨fun z=>(by cases z),fun z=>?_⟩);exact (kb.elim (z.2.1 y ka).1 (z.2.1 y ka).2).elim
      | 1,hx =>
       cases hx;refine⟨tb,_,rfl,SqT.of (si _ _ htb3),rfl,_,_,rfl,_,_,rfl,rfl,?_⟩;refine aq fun As g2_=>?_;have f1:=p2.same SI;have f2:=p1.same SI;refine⟨_,rfl,_,rfl,va,v,"name",d,e,is,B,rfl,SI _ _ hva,his,f2.td,f2.wf,f2.sz,by decide +kernel,fun i z=>f2.hB _ i z,f2.hl,fun a1 J1 y1 t1 ha1 hy1 nd1 so1 m1=>?_⟩;refine⟨_,rfl,_,rfl,va,v,"set",d,e,is,B,rfl,t1 _ _ (SI _ _ hva),his,f2.td.same t1,f2.wf,f2.sz,by decide +kernel,fun i z=>f2.hB _ i z,f2.hl,fun a2 J2 y2 t2 ha2 hy2 nd2 so2 m2=>?_⟩;have l1':=cw nd1 fun i hi=>f2.hB _ i ((m1 i).mp hi);have l2':=cw nd2 fun i hi=>f2.hB _ i ((m2 i).mp hi);have l3':=f2.hl;refine⟨a1,a2,_,_,rfl,rfl,SqL.of (t2 _ _ hy1),SqL.of hy2,by rw[lMp,lMp];omega,fun M hM=>?_⟩;rw[← List.map_append];have k3:=smu (o:=HO.lst ((y1++y2).map V.int)) hM;have hM3:(upd J2 M (.lst ((y1++y2).map V.int))) M=some (.lst ((y1++y2).map V.int)):=pE;refine g2_ _ _ ?_;generalize upd J2 M (.lst ((y1++y2).map V.int))=J3 at k3 hM3 ⊢;have T3:=(t1.trans t2).trans k3;refine⟨_,rfl,_,rfl,va,u,"set",d,e',is,B',rfl,T3 _ _ (SI _ _ hva),his,f1.td.same T3,f1.wf,f1.sz,by decide +kernel,fun i z=>f1.hB _ i z,f1.hl,fun a4 J4 y4 t4 ha4 hy4 nd4 so4 m4=>?_⟩;refine⟨a4,rfl,⟨_,SqL.of hy4⟩,fun G hG=>?_⟩;have l4':=cw nd4 fun i hi=>f1.hB _ i ((m4 i).mp hi);have l5':=f1.hl;show bt (Itl K a4) (dD 0) (bU (tOp (rIn K false) (aQ 0) (aQ 1))) (aQ 0) (fun x H1=>sX K [x] H1 fun x H1=>rI0 (fun i j=>V.bl (decide (j<i))) x (.int 0) H1 fun x H'=>BlR x H' fun b H1=>if b=true then Q (.bl false) H1 else N_ [some vc,some (.ref va),some v,some u,some u,some v,some (.ref M)] H1) [none,some (.ref M)] J4 G;refine gr hy4 (t4 _ _ hM3) (by omega) hG ⟨_,rfl⟩ fun J5 os t5 hos _ om=>?_;refine⟨G,_,rfl,.inl (SqL.of hos),_,_,rfl,rfl,_,rfl,?_⟩;have S5:ai Hi J5:=(T3.trans t4).trans t5;have key:∀ i,i∈os↔inQ e' "set" d i∧(inQ e "name" d i∨inQ e "set" d i):=fun i=>by rw[om,m4,mAp,m1,m2]
       cases os with
       | nil =>
        have lv:LvI d e' e:=fun i hi=>⟨fun y=>(by have:=(key i).mpr ⟨hi,.inl y⟩;cases this),fun y=>(by have:=(key i).mpr ⟨hi,.inr y⟩;cases this)⟩;exact fw (hN_ _ _ ⟨si.trans S5,fun _=>l1 (by decide),fun _=>lv,_,_,_,rfl⟩)
       | cons y r =>
        obtain⟨ka,kb⟩:=(key y).mp mCS;refine pJ (by rw[lMp,List.length_cons];simp) (q false J5 (SI.trans S5) ⟨fun z=>(by cases z),fun z=>?_⟩);exact (kb.elim (z.2.2 y ka).1 (z.2.2 y ka).2).elim
      | i+2,hx=>cases hx
    · rintro σ Hi ⟨si,l1,l2,x4,x5,x6,rfl⟩;exact q true Hi (s3.trans si) ⟨fun _=>⟨hst,l1 (by show 1≤2;decide),l2 (by show 2≤2;decide)⟩,fun _=>rfl⟩
   refine⟨_,(pD (az (PW.pt (cZ (fg (dP (ab cU (hr.mono (by decide)) rfl (pA (pv 0) (pA (pv 2) pB))))) (bX (fg (dP (ab cU (hr.mono (by decide)) rfl (pA (pv 0) (pA (pv 3) pB)))))))) (pG (ae bD)) ah) h1),?_⟩;refine aq fun tR g1_=>?_;refine⟨_,rfl,_,rfl,vc,v,gs,rk,rs,e,rfl,⟨rs0,os0,tc⟩,rko,hrs,p1.td,p1.wf,p1.sz,p1.bel,fun b1 H1 s1 hb1=>⟨_,rfl,?_⟩⟩;cases b1 with
   | true=>exact fw (fw (g1_ _ _ (r1 H1 _ _ _ s1 (.inl (hb1.mp rfl)))))
   | false =>
    refine cB ?_;have q2:=p2.same s1;refine⟨_,rfl,_,rfl,vc,u,gs,rk,rs,e',rfl,⟨rs0,os0,tc.same s1⟩,rko,hrs,q2.td,q2.wf,q2.sz,q2.bel,fun b2 H2 s2 hb2=>⟨_,rfl,?_⟩⟩;cases b2 with
    | true=>exact fw (g1_ _ _ (r1 H2 _ _ _ (s1.trans s2) (.inr (hb2.mp rfl))))
    | false=>exact cB (q false H2 (s1.trans s2) ⟨fun z=>(by cases z),fun z=>z.1.elim (fun y=>by have:=hb1.mpr y;cases this) fun y=>by have:=hb2.mpr y;cases this⟩)
end
def Γ0:Gam:=⟨[],0,[]⟩
def ThX (d:PyData):Prop:=XE Γ0 (rgI 0 1) [1,2] 4 3 d 3
theorem fb {i:Int} (h:sh i) {n:Nat}:XE Γ0 (rgI 0 1) [1,2] (n+1) 3 (.tuple [.str "number",.int i]) 3:=fC h
theorem eE {i:Int} (h:i∈([1,2]:List Int)) {n:Nat}:XE Γ0 (rgI 0 1) [1,2] (n+1) 3 (.tuple [.str "name",.int i]) 3:=ln (List.mem_append_right _ h)
theorem lB {i:Int} {d:PyData} (h:i∈([1,2]:List Int)) {n:Nat} (x:XE Γ0 (rgI 0 1) [1,2] n 3 d 3):XE Γ0 (rgI 0 1) [1,2] (n+1) 3 (.tuple [.str "set",.int i,d]) 3:=uB h x
theorem xt {r:Int} (h0:0≤r) (h1:r<2):1+r∈([1,2]:List Int):=by
 have:r=0∨r=1:=by omega
 rcases this with rfl | rfl <;> decide
theorem t1 {i:Int} (h:i∈([1,2]:List Int)) {d:PyData} (x:∀ n,XE Γ0 (rgI 0 1) [1,2] (n+1) 3 d 3):ThX (.tuple [.str "set",.int i,d]):=lB (n:=3) h (x 2)
theorem t2 {i:Int} (h:i∈([1,2]:List Int)):ThX (.tuple [.str "say",.tuple [.str "name",.int i]]):=oW (n:=3) (eE h)
theorem t3 {i:Int} (h:i∈([1,2]:List Int)):ThX (.tuple [.str "op",.str "add",.tuple [.tuple [.str "name",.int i],.tuple [.str "number",.int 1]]]):=oX (n:=3) (by decide +kernel) ⟨3,eE h,3,fb (by decide),rfl⟩ (by show 2≤3;decide)
theorem t4 {i:Int} {s:Str} (hs:s∈(["div","at","sub"]:List Str)) (h:i∈([1,2]:List Int)):ThX (.tuple [.str "op",.str s,.tuple [.tuple [.str "number",.int 7],.tuple [.str "name",.int i]]]):=by
 have:∀ s∈(["div","at","sub"]:List Str),wOk s:=by decide +kernel
 exact oX (n:=3) (this s hs) ⟨3,fb (by decide),3,eE h,rfl⟩ (by show 2≤3;decide)
theorem t5:ThX (.tuple [.str "do",.tuple [.tuple [.str "set",.int 1,.tuple [.str "number",.int 3]],.tuple [.str "say",.tuple [.str "number",.int 2]]]]):=vR (n:=3) ⟨3,lB (n:=2) (by decide) (fb (by decide)),3,oW (n:=2) (fb (by decide)),rfl⟩ (by show 2≤4;decide)
theorem t6:ThX (.tuple [.str "number",.int 9]):=fb (n:=3) (by decide)
theorem t7 {i:Int} (h:i∈([1,2]:List Int)):ThX (.tuple [.str "if",.tuple [.str "name",.int i],.tuple [.str "set",.int 2,.tuple [.str "name",.int i]],.tuple [.str "number",.int 0]]):=ye (n:=3) (eE h) (lB (n:=2) (by decide) (eE h)) (fb (by decide))
def bdV (ts:PDs):PyData:=.tuple [.str "var",.int 1,.tuple [.str "name",.int 0],.tuple [.str "var",.int 2,.tuple [.str "number",.int 5],.tuple [.str "do",.tuple ts]]]
theorem ths {ts:PDs} (h:∀ d∈ts,ThX d):XEs Γ0 (rgI 0 1) [1,2] 4 3 ts 3:=by
 induction ts with
 | nil=>exact rfl
 | cons d r ih=>exact⟨3,h d mCS,ih fun x hx=>h x (mCM _ hx)⟩
theorem uU {ts:PDs} (h:∀ d∈ts,ThX d) (hl:ts.length=6):XE Γ0 (rgI 0 1) [] 9 ((1:Nat):Int) (bdV ts) 3:=by
 have z:=ths h;have e4:wb 4=1800:=by decide
 have e7:wb 7=29240:=by decide
 have d7:XE Γ0 (rgI 0 1) [1,2] 7 3 (.tuple [.str "do",.tuple ts]) 3:=by
  refine XE.plainG (n:=6) (ds:=ts) (sl:=["many"]) (by decide +kernel) (.cons nX .nil) (by show ts++[]=ts;exact List.append_nil _) (by omega) (fun p hp=>?_) (z.more (by decide)) (bE (by decide +kernel)) ⟨Int.le_refl _,by omega⟩ (fun a b c=>.tup ?_)
  · rw[mSg.mp hp];exact gj (z.more (by decide:4≤6))
  · have:=z.li a b (by rw[hl,e4];decide);rw[hl,e4] at this;exact sS (sM this s0 (Nat.le_refl _)) (by rw[e7];decide)
 exact oV (n:=8) (ln (n:=7) (by decide)) (oV (n:=7) (W:=[1]) (fC (n:=6) (by decide)) d7)
theorem AB {ts:PDs} (h:∀ d∈ts,ThX d) (hl:ts.length=6):∀ x∈ax 9 (bdV ts),hdO x≠"call":=fun x hx hc=>by
 obtain⟨f,h',c,as,_,hf,_⟩:=(uU h hl).an x hx hc;cases hf
structure Tg (H Hi:Hp) (b:Addr) (k:Int):Prop where
  kp:∀ a u,a≠b→H a=some u→Hi a=some u
  bx:fV Hi b k
section
variable {P:Program} {w:World} {K:Fg} {mg:SOV} {base:Heap}
theorem Tg.took {H Hi H':Hp} {b:Addr} {k:Int} (c:Tg H Hi b k) (mo:Mo Hi b H') (bx:fV H' b (k+1)):Tg H H' b (k+1):=⟨fun a u n h=>(mo a n).trans (c.kp a u n h),bx⟩
theorem Tg.same {H Hi H':Hp} {b:Addr} {k:Int} (c:Tg H Hi b k) (s:ai Hi H'):Tg H H' b k:=by
 obtain⟨n,x,h,h0⟩:=c.bx;exact⟨fun a u n h=>s _ _ (c.kp a u n h),⟨n,x,s _ _ h,h0⟩⟩
theorem Tg.tk {H Hi H':Hp} {b:Addr} {k:Int} (c:Tg H Hi b k) (mo:Mo Hi b H'):Tk Hi H':=fun a xs h=>by
 obtain⟨n,x,hb,_⟩:=c.bx;have n1:a≠b:=fun e=>by
  rw[e] at h
  rcases h with h | ⟨_,h⟩ <;> rw[hb] at h <;> cases h
 rcases h with h | ⟨o,h⟩
 · exact .inl ((mo _ n1).trans h)
 · exact .inr ⟨o,(mo _ n1).trans h⟩
abbrev sTg:Stmt:=top 40
inductive uZ (K:Fg) (vs:List V) (H:Hp) (Q:VK):Prop
  | mk (b:Addr) (k:Int) (h0:vs=[.ref b]) (h1:fV H b k) (h2:k≤1000) (q:∀ v d H' k',Tg H H' b k'→k'≤k+3→TD K H' v d→ThX d→Q v H'):uZ K vs H Q
def yy (K:Fg):Sp:=fun vs H Q _=>uZ K vs H Q
abbrev nTg:List Str:=["_law_box_here","_law_x","_law_way"]
theorem yR:am nTg ["_law_box_here"] (a0 sTg):=fsM
theorem td2 {H:Hp} {p:Addr} {a b:V} {da db:PyData} (ha:TD K H a da) (hb:TD K H b db) (hp:H p=none):TD K (upd H p (.tup [a,b])) (.ref p) (.tuple [da,db]):=.tup (SqT.of pE) (.cons (ha.same (smu hp)) (.cons (hb.same (smu hp)) .nil))
theorem td3 {H:Hp} {p:Addr} {a b c:V} {da db dc:PyData} (ha:TD K H a da) (hb:TD K H b db) (hc:TD K H c dc) (hp:H p=none):TD K (upd H p (.tup [a,b,c])) (.ref p) (.tuple [da,db,dc]):=.tup (SqT.of pE) (.cons (ha.same (smu hp)) (.cons (hb.same (smu hp)) (.cons (hc.same (smu hp)) .nil)))
theorem td4 {H:Hp} {p:Addr} {a b c e:V} {da db dc de:PyData} (ha:TD K H a da) (hb:TD K H b db) (hc:TD K H c dc) (he:TD K H e de) (hp:H p=none):TD K (upd H p (.tup [a,b,c,e])) (.ref p) (.tuple [da,db,dc,de]):=.tup (SqT.of pE) (.cons (ha.same (smu hp)) (.cons (hb.same (smu hp)) (.cons (hc.same (smu hp)) (.cons (he.same (smu hp)) .nil))))
theorem zJ (D:Def K mg "_law_thing" sTg) (a7:Fn P w K mg base "_law_take" 1 ["_law_box_here","_law_many_here"] fZ):Fn P w K mg base "_law_thing" 2 ["_law_box_here"] (yy K):=by
 refine D.fn yR (fun vs H Q E h=>?_) (fun _ _ _ _ _ _ us hl=>by obtain⟨a,rfl⟩:=iF hl;rfl) (fun f' cdv A outer s' H vs Q E hr h=>?_)
 · obtain⟨b,k,rfl,_⟩:=h;rfl
 · obtain⟨b,k,rfl,hbx,hk,q⟩:=h;have nd:=yR.nd;obtain⟨t6,h6,r6⟩:∃ t,PSs (be CX0 P w K mg base nTg "_law_thing" (a0 sTg) f' cdv A outer s' H E).nox ((ak sTg).drop 6) t ∧
    ∀ (H3:Hp) (p:Addr) (r y:Int),Tg H H3 b (k+1+1)→TD K H3 (.ref p) (.tuple [.str "name",.int (1+r)])→1+r∈([1,2]:List Int)→0≤y→y<8→t {nx:=fun _ H'=>Q .non H',rt:=Q} [some (.ref b),some (.ref p),some (.int y)] H3:=by
    refine⟨_,(@pD _ _ _ _ _ (@az _ _ _ _ _ _ _ _ (@pM _ _ _ _ _ _ _ _ aH (pv 2) pF (pN _)) (@pG _ _ _ (@ae _ _ _ _ (@ag _ _ _ _ _ (@pA _ _ _ _ _ pC (@pA _ _ _ _ _ (@ag _ _ _ _ _ (@pA _ _ _ _ _ (@ag _ _ _ _ _ (@pA _ _ _ _ _ pC (@pA _ _ _ _ _ pF (@pA _ _ _ _ _ (@ag _ _ _ _ _ (@pA _ _ _ _ _ pC (@pA _ _ _ _ _ pF pB (by rfl)) (by rfl))) pB (by rfl)) (by rfl)) (by rfl))) (@pA _ _ _ _ _ (@ag _ _ _ _ _ (@pA _ _ _ _ _ pC (@pA _ _ _ _ _ (@ag _ _ _ _ _ (@pA _ _ _ _ _ pC (@pA _ _ _ _ _ pF pB (by rfl)) (by rfl))) pB (by rfl)) (by rfl))) pB (by rfl)) (by rfl))) pB (by rfl)) (by rfl))))) ah) (@pG _ _ _ (@ae _ _ _ _ (@kG _ _ _ _ _ _ _ _ (@pM _ _ _ _ _ _ _ _ aH (pv 2) pF (pN _)) (@ag _ _ _ _ _ (@pA _ _ _ _ _ pC (@pA _ _ _ _ _ pF pB (by rfl)) (by rfl))) (@ag _ _ _ _ _ (@pA _ _ _ _ _ pC (@pA _ _ _ _ _ (pv 1) (@pA _ _ _ _ _ (@ag _ _ _ _ _ (@pA _ _ _ _ _ pC (@pA _ _ _ _ _ pF (@pA _ _ _ _ _ (pv 1) pB (by rfl)) (by rfl)) (by rfl))) (@pA _ _ _ _ _ (@ag _ _ _ _ _ (@pA _ _ _ _ _ pC (@pA _ _ _ _ _ pF pB (by rfl)) (by rfl))) pB (by rfl)) (by rfl)) (by rfl)) (by rfl))))))),fun H3 p r y g3 tp3 h12 y0 y8=>?_⟩;refine aq fun Cr BX=>?_;refine⟨_,rfl,rfl,_,rfl,?_⟩;by_cases e6:y=5
    · refine pJ (by simp[e6]) ?_;refine⟨cE,fun p4 hp4=>⟨fX,fun p5 hp5=>⟨cE,fun p6 hp6=>⟨cE,fun p7 hp7=>⟨cE,fun p8 hp8=>⟨cE,fun p9 hp9=>?_⟩⟩⟩⟩⟩⟩;exact q _ _ _ _ ((((((g3.same (smu hp4)).same (smu hp5)).same (smu hp6)).same (smu hp7)).same (smu hp8)).same (smu hp9)) (by omega) (td2 (.str _) (td2 (((td3 (.str _) (.int _) (td2 (.str _) (.int _) hp4) hp5).same (smu hp6)).same (smu hp7)) (td2 (.str _) (td2 (.str _) (.int _) hp6) hp7) hp8) hp9) t5
    refine pI (by simpa using e6) (BX _ _ ?_);refine⟨_,rfl,rfl,_,rfl,?_⟩;by_cases e7:y=6
    · refine pJ (by simp[e7]) ⟨cE,fun p4 hp4=>?_⟩;exact q _ _ _ _ (g3.same (smu hp4)) (by omega) (td2 (.str _) (.int _) hp4) t6
    · refine pI (by simpa using e7) ⟨_,rfl,_,rfl,fX,fun p4 hp4=>⟨cE,fun p5 hp5=>⟨rR,fun p6 hp6=>?_⟩⟩⟩;have k4:=smu (o:=HO.tup [V.str "set",V.int 2,V.ref p]) hp4;have k5:=smu (o:=HO.tup [V.str "number",V.int 0]) hp5;exact q _ _ _ _ (((g3.same k4).same k5).same (smu hp6)) (by omega) (td4 (.str _) (tp3.same (k4.trans k5)) ((td3 (.str _) (.int _) tp3 hp4).same k5) (td2 (.str _) (.int _) hp5) hp6) (t7 h12)
   obtain⟨t5,h5,r5⟩:∃ t,PSs (be CX0 P w K mg base nTg "_law_thing" (a0 sTg) f' cdv A outer s' H E).nox ((ak sTg).drop 5) t ∧
    ∀ (H3:Hp) (p:Addr) (r y:Int),Tg H H3 b (k+1+1)→TD K H3 (.ref p) (.tuple [.str "name",.int (1+r)])→1+r∈([1,2]:List Int)→0≤y→y<8→t {nx:=fun _ H'=>Q .non H',rt:=Q} [some (.ref b),some (.ref p),some (.int y)] H3:=by
    refine⟨_,(@pD _ _ _ _ _ (@az _ _ _ _ _ _ _ _ (@pM _ _ _ _ _ _ _ _ aH (pv 2) pF (pN _)) (@pG _ _ _ (@ae _ _ _ _ (@ag _ _ _ _ _ (@pA _ _ _ _ _ pC (@pA _ _ _ _ _ (@aa _ _ _ _ _ _ _ aF (@aM _ _ _ _ (@pA _ _ _ _ _ pC (@pA _ _ _ _ _ pC (@pA _ _ _ _ _ pC pB (by rfl)) (by rfl)) (by rfl))) (@ab _ _ _ _ _ _ _ _ _ _ a7 (hr.mono (by decide)) rfl (@pA _ _ _ _ _ (pv 0) (@pA _ _ _ _ _ pF pB (by rfl)) (by rfl)) (by decide) (by rfl) (by rfl)) (fun _ _=>rfl)) (@pA _ _ _ _ _ (@ag _ _ _ _ _ (@pA _ _ _ _ _ (@ag _ _ _ _ _ (@pA _ _ _ _ _ pC (@pA _ _ _ _ _ pF pB (by rfl)) (by rfl))) (@pA _ _ _ _ _ (pv 1) pB (by rfl)) (by rfl))) pB (by rfl)) (by rfl)) (by rfl))))) ah) h6),fun H3 p r y g3 tp3 h12 y0 y8=>?_⟩;dsimp only[bd];refine aq fun Ar Au=>?_;refine⟨_,rfl,rfl,_,rfl,?_⟩;by_cases e5:y=4
    · refine pJ (by simp[e5]) ?_;refine⟨fX,fun L hL=>?_⟩;have k4:=smu (o:=HO.lst [V.str "div",V.str "at",V.str "sub"]) hL;have hL4:(upd H3 L (.lst [V.str "div",V.str "at",V.str "sub"])) L=some (.lst [V.str "div",V.str "at",V.str "sub"]):=pE;have nL:L≠b:=fun e=>by obtain⟨_,_,hb,_⟩:=g3.bx;rw[e,hb] at hL;cases hL
      have g4:=g3.same k4;have tp4:=tp3.same k4;generalize upd H3 L (.lst [V.str "div",V.str "at",V.str "sub"])=H4 at k4 hL4 g4 tp4 ⊢;refine⟨_,rfl,b,_,3,rfl,g4.bx,by omega,by decide,by decide,fun z H5 z0 z1 mo5 bx5=>?_⟩;have g5:=g4.took mo5 bx5;have tp5:=tp4.tk (g4.tk mo5);have hL5:=(mo5 L nL).trans hL4;have fin:∀ s∈(["div","at","sub"]:List Str),∀ p4,H5 p4=none→∀ p5,(upd H5 p4 (.tup [V.str "number",V.int 7])) p5=none→∀ p6,(upd (upd H5 p4 (.tup [V.str "number",V.int 7])) p5 (.tup [V.ref p4,V.ref p])) p6=none→Q (.ref p6) (upd (upd (upd H5 p4 (.tup [V.str "number",V.int 7])) p5 (.tup [V.ref p4,V.ref p])) p6 (.tup [V.str "op",V.str s,V.ref p5])):=fun s hs p4 hp4 p5 hp5 p6 hp6 =>
       q _ _ _ _ (((g5.same (smu hp4)).same (smu hp5)).same (smu hp6)) (by omega) (td3 (.str _) (.str _) (td2 (td2 (.str _) (.int _) hp4) (tp5.same (smu hp4)) hp5) hp6) (t4 hs h12)
      have hz:z=0∨z=1∨z=2:=by omega
      rcases hz with rfl | rfl | rfl
      · exact⟨L,_,_,_,rfl,rfl,SqL.of hL5,pH (j:=0) rfl,cE,fun p4 hp4=>⟨_,rfl,cE,fun p5 hp5=>⟨fX,fun p6 hp6=>fin "div" (by decide +kernel) p4 hp4 p5 hp5 p6 hp6⟩⟩⟩
      · exact⟨L,_,_,_,rfl,rfl,SqL.of hL5,pH (j:=1) rfl,cE,fun p4 hp4=>⟨_,rfl,cE,fun p5 hp5=>⟨fX,fun p6 hp6=>fin "at" (by decide +kernel) p4 hp4 p5 hp5 p6 hp6⟩⟩⟩
      · exact⟨L,_,_,_,rfl,rfl,SqL.of hL5,pH (j:=2) rfl,cE,fun p4 hp4=>⟨_,rfl,cE,fun p5 hp5=>⟨fX,fun p6 hp6=>fin "sub" (by decide +kernel) p4 hp4 p5 hp5 p6 hp6⟩⟩⟩
    exact pI (by simpa using e5) (Au _ _ (r6 H3 p r y g3 tp3 h12 y0 y8))
   obtain⟨t2,h2,r2⟩:∃ t,PSs (be CX0 P w K mg base nTg "_law_thing" (a0 sTg) f' cdv A outer s' H E).nox ((ak sTg).drop 2) t ∧
    ∀ (H3:Hp) (p:Addr) (r y:Int),Tg H H3 b (k+1+1)→TD K H3 (.ref p) (.tuple [.str "name",.int (1+r)])→1+r∈([1,2]:List Int)→0≤y→y<8→t {nx:=fun _ H'=>Q .non H',rt:=Q} [some (.ref b),some (.ref p),some (.int y)] H3:=by
    refine⟨_,(@pD _ _ _ _ _ (@az _ _ _ _ _ _ _ _ (@pM _ _ _ _ _ _ _ _ iC (pv 2) pF (pN _)) (@pG _ _ _ (@ae _ _ _ _ (@ag _ _ _ _ _ (@pA _ _ _ _ _ pC (@pA _ _ _ _ _ (@aC _ _ _ _ _ _ _ _ cu pF (@ab _ _ _ _ _ _ _ _ _ _ a7 (hr.mono (by decide)) rfl (@pA _ _ _ _ _ (pv 0) (@pA _ _ _ _ _ pF pB (by rfl)) (by rfl)) (by decide) (by rfl) (by rfl))) (@pA _ _ _ _ _ (@aa _ _ _ _ _ _ _ aF (@aM _ _ _ _ (@pA _ _ _ _ _ (@ag _ _ _ _ _ (@pA _ _ _ _ _ pC (@pA _ _ _ _ _ pF pB (by rfl)) (by rfl))) (@pA _ _ _ _ _ (pv 1) pB (by rfl)) (by rfl))) (pv 2) (fun _ _=>rfl)) pB (by rfl)) (by rfl)) (by rfl))))) ah) (@pD _ _ _ _ _ (@az _ _ _ _ _ _ _ _ (@pM _ _ _ _ _ _ _ _ aH (pv 2) pF (pN _)) (@pG _ _ _ (@ae _ _ _ _ (@ag _ _ _ _ _ (@pA _ _ _ _ _ pC (@pA _ _ _ _ _ (pv 1) pB (by rfl)) (by rfl))))) ah) (@pD _ _ _ _ _ (@az _ _ _ _ _ _ _ _ (@pM _ _ _ _ _ _ _ _ aH (pv 2) pF (pN _)) (@pG _ _ _ (@ae _ _ _ _ (@ag _ _ _ _ _ (@pA _ _ _ _ _ pC (@pA _ _ _ _ _ pC (@pA _ _ _ _ _ (@ag _ _ _ _ _ (@pA _ _ _ _ _ (pv 1) (@pA _ _ _ _ _ (@ag _ _ _ _ _ (@pA _ _ _ _ _ pC (@pA _ _ _ _ _ pF pB (by rfl)) (by rfl))) pB (by rfl)) (by rfl))) pB (by rfl)) (by rfl)) (by rfl))))) ah) h5))),fun H3 p r y g3 tp3 h12 y0 y8=>?_⟩;dsimp only[bd];refine aq fun AZ xx=>?_;refine⟨_,rfl,_,_,rfl,rfl,_,rfl,?_⟩;by_cases e2:y<2
    · refine pJ (by simpa using e2) ?_;refine⟨_,rfl,b,_,2,rfl,g3.bx,by omega,by decide,by decide,fun z H4 z0 z1 mo4 bx4=>⟨_,_,rfl,rfl,cE,fun pa hpa=>⟨_,rfl,cE,fun L hL=>?_⟩⟩⟩;have g4:=g3.took mo4 bx4;have tp4:=tp3.tk (g3.tk mo4);have ta:TD K (upd H4 pa (.tup [V.str "number",V.int 4])) (.ref pa) (.tuple [.str "number",.int 4]):=td2 (.str _) (.int _) hpa;have k5:=smu (o:=HO.tup [V.str "number",V.int 4]) hpa;have k6:=smu (o:=HO.lst [V.ref pa,V.ref p]) hL;have hy:y=0∨y=1:=by omega
      rcases hy with rfl | rfl
      · refine⟨_,rfl,L,_,_,_,rfl,rfl,SqL.of pE,pH (j:=0) rfl,fX,fun p7 hp7=>?_⟩;exact q _ _ _ _ ((g4.same (k5.trans k6)).same (smu hp7)) (by omega) (td3 (.str _) (.int _) (ta.same k6) hp7) (t1 (xt z0 z1) fun n=>fb (by decide))
      · refine⟨_,rfl,L,_,_,_,rfl,rfl,SqL.of pE,pH (j:=1) rfl,fX,fun p7 hp7=>?_⟩;exact q _ _ _ _ ((g4.same (k5.trans k6)).same (smu hp7)) (by omega) (td3 (.str _) (.int _) (tp4.same (k5.trans k6)) hp7) (t1 (xt z0 z1) fun n=>eE h12)
    refine pI (by simpa using e2) (xx _ _ (aq fun AY u9=>?_));refine⟨_,rfl,rfl,_,rfl,?_⟩;by_cases e3:y=2
    · refine pJ (by simp[e3]) ?_;refine⟨_,rfl,cE,fun p4 hp4=>?_⟩;exact q _ _ _ _ (g3.same (smu hp4)) (by omega) (td2 (.str _) tp3 hp4) (t2 h12)
    refine pI (by simpa using e3) (u9 _ _ (aq fun BO xw=>?_));refine⟨_,rfl,rfl,_,rfl,?_⟩;by_cases e4:y=3
    · refine pJ (by simp[e4]) ?_;refine⟨_,rfl,cE,fun p4 hp4=>⟨cE,fun p5 hp5=>⟨fX,fun p6 hp6=>?_⟩⟩⟩;exact q _ _ _ _ (((g3.same (smu hp4)).same (smu hp5)).same (smu hp6)) (by omega) (td3 (.str _) (.str _) (td2 (tp3.same (smu hp4)) (td2 (.str _) (.int _) hp4) hp5) hp6) (t3 h12)
    exact pI (by simpa using e4) (xw _ _ (r5 H3 p r y g3 tp3 h12 y0 y8))
   refine⟨_,(@pD _ _ _ _ _ (@pL _ _ 1 _ _ _ _ nd rfl (Or.inl rfl) (@ag _ _ _ _ _ (@pA _ _ _ _ _ pC (@pA _ _ _ _ _ (@aC _ _ _ _ _ _ _ _ cu pF (@ab _ _ _ _ _ _ _ _ _ _ a7 (hr.mono (by decide)) rfl (@pA _ _ _ _ _ (pv 0) (@pA _ _ _ _ _ pF pB (by rfl)) (by rfl)) (by decide) (by rfl) (by rfl))) pB (by rfl)) (by rfl))) (by rfl) (by exact Or.inl rfl)) (@pD _ _ _ _ _ (@pL _ _ 2 _ _ _ _ nd rfl (Or.inl rfl) (@ab _ _ _ _ _ _ _ _ _ _ a7 (hr.mono (by decide)) rfl (@pA _ _ _ _ _ (pv 0) (@pA _ _ _ _ _ pF pB (by rfl)) (by rfl)) (by decide) (by rfl) (by rfl)) (by rfl) (by exact Or.inl rfl)) h2)),?_⟩;have g0:Tg H H b k:=⟨fun _ _ _ h=>h,hbx⟩;refine aq fun tR kN=>?_;refine⟨_,rfl,b,k,2,rfl,hbx,by omega,by decide,by decide,fun r H1 r0 r1 mo1 bx1=>⟨_,_,rfl,rfl,cE,fun p hp=>?_⟩⟩;have g1:=(g0.took mo1 bx1).same (smu (o:=HO.tup [V.str "name",V.int (1+r)]) hp);have tp:TD K (upd H1 p (.tup [V.str "name",V.int (1+r)])) (.ref p) (.tuple [.str "name",.int (1+r)]):=td2 (.str _) (.int _) hp;refine kN _ _ (aq fun As xz=>?_);generalize upd H1 p (.tup [V.str "name",V.int (1+r)])=H2 at g1 tp ⊢;have h12:=xt r0 r1;refine⟨_,rfl,b,k+1,8,rfl,g1.bx,by omega,by decide,by decide,fun y H3 y0 y8 mo3 bx3=>?_⟩;have g3:=g1.took mo3 bx3;have tp3:=tp.tk (g1.tk mo3);exact xz _ _ (r2 H3 p r y g3 tp3 h12 y0 y8)
end
end K23
set_option maxHeartbeats 1000000
namespace K23
open PySem L2 P10
theorem Tg.trans {H H1 H2:Hp} {b:Addr} {k k2:Int} (c:Tg H H1 b k) (e:Tg H1 H2 b k2):Tg H H2 b k2:=⟨fun a u n h=>e.kp a u n (c.kp a u n h),e.bx⟩
theorem Tg.tks {H H1:Hp} {b:Addr} {k k2:Int} (c:Tg H H1 b k) (hb:fV H b k2):Tk H H1:=fun a xs h=>by
 obtain⟨n,x,hb,_⟩:=hb;have n1:a≠b:=fun e=>by
  rw[e] at h
  rcases h with h | ⟨_,h⟩ <;> rw[hb] at h <;> cases h
 rcases h with h | ⟨o,h⟩
 · exact .inl (c.kp _ _ n1 h)
 · exact .inr ⟨o,c.kp _ _ n1 h⟩
theorem Tg.put {H H2:Hp} {b G:Addr} {k:Int} {o:HO} (c:Tg H H2 b k) (hG:H G=none) (nb:G≠b):Tg H (upd H2 G o) b k:=by
 obtain⟨n,x,h,h0⟩:=c.bx;exact⟨fun a u n h=>by rw[ad (af h hG)];exact c.kp a u n h,⟨n,x,by rw[ad (Ne.symm nb)];exact h,h0⟩⟩
section
variable {P:Program} {w:World} {K:Fg} {mg:SOV} {base:Heap}
abbrev sWv:Stmt:=top 41
inductive uW (K:Fg) (vs:List V) (H:Hp) (Q:VK):Prop
  | mk (v:V) (b:Addr) (k:Int) (fs:PDs) (rs:List Nat) (os:List (Str×Nat)) (h0:vs=[v,.ref b]) (h1:TD K H v (gM fs rs os)) (h2:fs.length≤4) (h3:fV H b k) (h4:k≤900)
    (q:∀ v' ts H' k',Tg H H' b k'→k'≤k+18→TD K H' v' (gM (fs++[fnD "deep" 1 (bdV ts)]) rs os)→(∀ d∈ts,ThX d)→ts.length=6→Q v' H'):uW K vs H Q
def yw (K:Fg):Sp:=fun vs H Q _=>uW K vs H Q
abbrev wM:List Str:=["_law_core_here","_law_box_here"]
abbrev nWv:List Str:=["_law_core_here","_law_box_here","_law_things","_law_body"]
theorem yO:am nWv wM (a0 sWv):=fsM
theorem BE:(["_law_k","_law_box_here"]:List Str).Nodup:=by decide +kernel
theorem zF (D:Def K mg "_law_with_vars" sWv) (T:Blt mg) (l8:Fn P w K mg base "_law_thing" 2 ["_law_box_here"] (yy K)):Fn P w K mg base "_law_with_vars" 3 wM (yw K):=by
 refine D.fn yO (fun vs H Q E h=>?_) (fun _ _ _ _ _ _ us hl=>by obtain⟨a,b,rfl⟩:=dl hl;rfl) (fun f' cdv A outer s' H vs Q E hr h=>?_)
 · obtain⟨v,b,k,fs,rs,os,rfl,_⟩:=h;rfl
 · obtain⟨v,b,k,fs,rs,os,rfl,tv,hfl,hbx,hk,q⟩:=h;have nd:=yO.nd;have hz0:(100000:Nat)<sizeLine:=by decide
   refine⟨_,(@pD _ _ _ _ _ (@pL _ _ 2 _ _ _ _ nd rfl (Or.inl rfl) (cW T.tuple (pA (dW (own:=["_law_k"]) (outs:=[(1,"_law_box_here")]) rfl (aB.of (a0 sWv) nWv) (bo rfl T.range (pA pF pB)) (fun _ _ _ _=>⟨(aw (i:=0) BE rfl (Or.inl rfl)),cf,(ab l8 (hr.mono (by decide)) rfl (pA (pv 1) pB))⟩)) pB)) (by rfl) (by exact Or.inl rfl)) (@pD _ _ _ _ _ (@pL _ _ 3 _ _ _ _ nd rfl (Or.inl rfl) (@ag _ _ _ _ _ (@pA _ _ _ _ _ pC (@pA _ _ _ _ _ pF (@pA _ _ _ _ _ (@ag _ _ _ _ _ (@pA _ _ _ _ _ pC (@pA _ _ _ _ _ pF pB (by rfl)) (by rfl))) (@pA _ _ _ _ _ (@ag _ _ _ _ _ (@pA _ _ _ _ _ pC (@pA _ _ _ _ _ pF (@pA _ _ _ _ _ (@ag _ _ _ _ _ (@pA _ _ _ _ _ pC (@pA _ _ _ _ _ pF pB (by rfl)) (by rfl))) (@pA _ _ _ _ _ (@ag _ _ _ _ _ (@pA _ _ _ _ _ pC (@pA _ _ _ _ _ (pv 2) pB (by rfl)) (by rfl))) pB (by rfl)) (by rfl)) (by rfl)) (by rfl))) pB (by rfl)) (by rfl)) (by rfl)) (by rfl))) (by rfl) (by exact Or.inl rfl)) (@pG _ _ _ (@ae _ _ _ _ (@ag _ _ _ _ _ (@pA _ _ _ _ _ (@aC _ _ _ _ _ _ _ _ eM (@aa _ _ _ _ _ _ _ a9 (pv 0) pF (fun _ _=>rfl)) (@ag _ _ _ _ _ (@pA _ _ _ _ _ (@ag _ _ _ _ _ (@pA _ _ _ _ _ pC (@pA _ _ _ _ _ pF (@pA _ _ _ _ _ (pv 3) pB (by rfl)) (by rfl)) (by rfl))) pB (by rfl)))) (@pA _ _ _ _ _ (@aa _ _ _ _ _ _ _ a9 (pv 0) pF (fun _ _=>rfl)) (@pA _ _ _ _ _ (@aa _ _ _ _ _ _ _ a9 (pv 0) pF (fun _ _=>rfl)) pB (by rfl)) (by rfl)) (by rfl))))))),?_⟩;refine aq fun Cu Cy=>?_;have r1:∀ (H1:Hp) (k1:Int) (p:Addr) (ts:PDs) (x3:Option V),Tg H H1 b k1→k1≤k+18→TD K H1 (.ref p) (.tuple ts)→(∀ d∈ts,ThX d)→ts.length=6→Cu [some v,some (.ref b),some (.ref p),x3] H1:=fun H1 k1 p ts x3 g1 hk1 tp hts hl=>by
    refine Cy _ _ (aq fun tR kN=>?_);refine⟨cE,fun p1 hp1=>⟨cE,fun p2 hp2=>⟨_,rfl,cE,fun p3 hp3=>⟨rR,fun p4 hp4=>⟨rR,fun p5 hp5=>?_⟩⟩⟩⟩⟩;have ta:=td2 (K:=K) (.str "name") (.int 0) hp1;have tb:=td2 (K:=K) (.str "number") (.int 5) hp2;have te:=td2 (.str "do") ((tp.same (smu hp1)).same (smu hp2)) hp3;have tg:=td4 (.str "var") (.int 2) (tb.same (smu hp3)) te hp4;have tz:=td4 (.str "var") (.int 1) (((ta.same (smu hp2)).same (smu hp3)).same (smu hp4)) tg hp5;have g5:=((((g1.same (smu (o:=HO.tup [V.str "name",V.int 0]) hp1)).same (smu (o:=HO.tup [V.str "number",V.int 5]) hp2)).same (smu (o:=HO.tup [V.str "do",V.ref p]) hp3)).same (smu (o:=HO.tup [V.str "var",V.int 2,V.ref p2,V.ref p3]) hp4)).same (smu (o:=HO.tup [V.str "var",V.int 1,V.ref p1,V.ref p4]) hp5);refine kN _ _ ?_;have tz':TD K _ (.ref p5) (bdV ts):=tz;generalize upd _ p5 _=H5 at tz' g5 ⊢;clear tz tg te tb ta;have tv5:=tv.tk (g5.tks hbx);obtain⟨a,e,c,f,xs,zs,rfl,ha,he,hx,tb,tc,hf,hz⟩:=fQ tv5;have at0:atI [V.ref e,V.ref c,V.ref f] 0=some (.ref e):=pH (j:=0) rfl;refine⟨_,rfl,a,_,_,_,rfl,rfl,ha,at0,_,rfl,fX,fun p6 hp6=>⟨ke,fun p7 hp7=>?_⟩⟩;have k6:=smu (o:=HO.tup [.str "deep",.int 1,.ref p5]) hp6;have t6:TD K _ (.ref p6) (fnD "deep" 1 (bdV ts)):=td3 (.str "deep") (.int 1) tz' hp6;have k7:=smu (o:=HO.tup [.ref p6]) hp7;have t7:TD K _ (.ref p7) (.tuple [fnD "deep" 1 (bdV ts)]):=.tup (SqT.of pE) (.cons (t6.same k7) .nil);have k67:=k6.trans k7;generalize upd _ p7 _=H7 at t7 k67 ⊢;clear k6 k7 t6;refine cS (tb.same k67) t7 (by show fs.length+1≤100000;omega) fun p8 H8 s8 t8=>?_;have S:=k67.trans s8;refine⟨_,rfl,a,_,_,_,rfl,rfl,ha.tk S.tk,pH (j:=1) rfl,_,rfl,a,_,_,_,rfl,rfl,ha.tk S.tk,pH (j:=2) rfl,fX,fun p9 hp9=>?_⟩;exact q _ ts _ k1 ((g5.same S).same (smu hp9)) hk1 (td3 t8 (tc.same S) ((show TD K H5 (.ref f) (.tuple (os.map dH)) from .tup hf hz).same S) hp9) hts hl
   rw[gi,iu,dr,dC];refine⟨_,rfl,by decide,by decide,fun G hG=>?_⟩;rw[show (6:Int).toNat=6 from rfl];have nb:G≠b:=fun e=>by obtain⟨_,_,hb,_⟩:=hbx;rw[e,hb] at hG;cases hG
   have k0:=smu (o:=HO.lst []) hG;have g0:Tg H H b k:=⟨fun _ _ _ h=>h,hbx⟩;refine bt.by (ba (n:=6)) (fun j σ Hj=>(∃ ys ds k',Tg H Hj b k'∧k'≤k+3*((j:Nat):Int)∧Hj G=some (.lst ys)∧TDs K Hj ys ds∧ds.length=j∧∀ d∈ds,ThX d)∧∃ y,σ=[y,some (.ref b)])
    ⟨⟨[],[],k,g0.same k0,by omega,pE,.nil,rfl,fun _ h=>(by cases h)⟩,_,rfl⟩ (fun _ _ _ _ _=>trivial) ?_ ?_
   · rintro j u σ Hj hu ⟨⟨ys,ds,k1,g1,hk1,hGj,hts,hdl,hx⟩,y,rfl⟩;have hj:j<6:=by have:=(gES.mp hu).1;rwa [aV] at this
     rw[bh,dM];refine cB ⟨_,rfl,b,k1,rfl,g1.bx,by omega,fun v' d H2 k2 g2 hk2 tv2 th=>?_⟩;have hG2:=g2.kp _ _ nb hGj;have yl:=hts.length;refine⟨ys,hG2,by omega,⟨_,ds++[d],k2,(g1.trans g2).put hG nb,by omega,pE,((hts.tk (g2.tks g1.bx)).snoc tv2).tk (bu (.inr ⟨_,hG2⟩)),by simp[hdl],fun z hz=>?_⟩,_,rfl⟩
     rcases mAp.mp hz with hz | hz
     · exact hx z hz
     · rw[mSg.mp hz];exact th
   · rintro σ Hj ⟨⟨ys,ds,k1,g1,hk1,hGj,hts,hdl,hx⟩,y,rfl⟩;rw[aV] at hk1 hdl;refine⟨G,_,rfl,.inl ⟨SqL.of hGj,fun F hF=>?_⟩⟩;have k5:=smu (o:=HO.tup ys) hF;exact (r1 _ k1 F ds _ (g1.same k5) (by omega) (.tup (SqT.of pE) (hts.same k5)) hx hdl)
end
end K23
set_option maxHeartbeats 4000000
namespace L2
open PySem PySem.Spec PyProof.Rows
inductive TyT (K:Fg) (H:Hp):V→String→Prop
  | bl (b:Bool):TyT K H (.bl b) "bool"
  | int (i:Int):TyT K H (.int i) "int"
  | str (x:Str):TyT K H (.str x) "str"
  | tup {a:Addr} {ys:List V} (h:SqT K H a ys):TyT K H (.ref a) "tuple"
inductive AK (K:Fg) (xs:List V) (H:Hp) (Q:VK):Prop
  | mk (x:V) (n T:String) (b:Bool) (h1:xs=[x,.ty T]) (h2:TyT K H x n) (h3:PySem.W.kitOne K (.type n) (.type T)=some b) (q:Q (.bl b) H):AK K xs H Q
def zx (K:Fg):List V→Hp→VK→Prop:=fun xs H Q=>AK K xs H Q
theorem oN {X:Cx}:fU X (.builtin "isinstance") (zx X.K):=by
 intro pins s σ H xs us Q I rv h;obtain⟨x,n,T,b,rfl,hx,hk,q⟩:=h;obtain⟨u,w',rfl,ru,rw'⟩:=rv.two;cases (show w'=Value.type T from rw');cases hx with
 | bl c=>exact gy I ru (.bl c) hk fun tk=>⟨.bl b,H,I.tok _,rfl,q⟩
 | int i=>exact gy I ru (.int i) hk fun tk=>⟨.bl b,H,I.tok _,rfl,q⟩
 | str y=>exact gy I ru (.str y) hk fun tk=>⟨.bl b,H,I.tok _,rfl,q⟩
 | @tup a ys hs =>
  cases (show u=Value.ref a from ru);obtain⟨its,_,⟨o,h1,h2,_⟩,_⟩:=I.tuple hs;exact PySem.W.kia_one PySem.W.kitx_tuple I.kIn ⟨o,h1,h2⟩ hk (fun z=>nomatch z) fun tk=>⟨.bl b,H,I.tok _,rfl,q⟩
theorem xY {X:Cx} {p pos:Pos} {e:Expr} {es:List Expr} {t:TA} (hm:X.mg "isinstance"=none) (ha:PA X (e::es) t) (hg:Gl X "isinstance":=by rfl)
 (he:starEach (e::es) X.env=(false,eval e X.env)::starEach es X.env:=by rfl) (hpl:(backTo pos (starEach es X.env)).any (·.1)=false:=by rfl) :
 PE X (.Call (.Name "isinstance" p) (e::es) [] pos) (tCB (zx X.K) t):=iz oN hg hm gR ha (he:=he) (hpl:=hpl)
theorem xi {K:Fg} {n:String}:PySem.W.kitOne K (.type n) (.type n)=some true:=by unfold PySem.W.kitOne;rw[if_pos (by simp)]
end L2
namespace K23
open PySem L2 P10
theorem sQ (gs:PDs):∃ rs:List Int,∀ i,i∈rs↔Rl gs i:=by
 classical
 refine⟨((List.range gs.length).map fun n=>((n:Nat):Int)).filter fun i=>decide (Rl gs i),fun i=>?_⟩;rw[List.mem_filter,decide_eq_true_eq];refine⟨fun h=>h.2,fun h=>⟨?_,h⟩⟩;obtain⟨n,rfl,hn⟩:=mR h;exact List.mem_map.mpr ⟨n,List.mem_range.mpr hn,rfl⟩
theorem nH {t:Nat}:∀ {r:List Nat} {d:PyData},atD d (r++[t])=(atD d r).bind fun x=>(aj x)[t]?:=by
 intro r
 induction r with
 | nil =>
  intro d;show ((aj d)[t]?.bind fun x=>some x)=(aj d)[t]?;cases (aj d)[t]? <;> rfl
 | cons i r ih =>
  intro d;show ((aj d)[i]?.bind fun x=>atD x (r++[t]))=(((aj d)[i]?.bind fun x=>atD x r).bind fun x=>(aj x)[t]?);cases (aj d)[i]? with
  | none=>rfl
  | some x=>exact ih
theorem lE:∀ {r:List Nat} {n:Nat} {d e:PyData},atD d r=some e→r.length+1≤n→∃ m,Sub n d m e:=by
 intro r
 induction r with
 | nil =>
  intro n d e h hn;cases n with
  | zero=>exact absurd hn (by show ¬ 1≤0;decide)
  | succ n=>cases h;exact⟨_,.here n d⟩
 | cons i r ih =>
  intro n d e h hn;rw[List.length_cons] at hn;cases n with
  | zero=>omega
  | succ n =>
   have h':((aj d)[i]?.bind fun x=>atD x r)=some e:=h;cases hx:(aj d)[i]? with
   | none=>rw[hx] at h';cases h'
   | some x =>
    rw[hx] at h';obtain⟨m,s⟩:=ih (n:=n) h' (by omega);exact⟨m,.kid (mGE hx) s⟩
theorem uj {K:Fg} {H:Hp}:∀ {p:List Nat} {xs:List V},TDs K H xs (p.map fun n=>.int ((n:Nat):Int))→xs=p.map fun n=>V.int ((n:Nat):Int):=by
 intro p
 induction p with
 | nil=>intro xs h;cases h;rfl
 | cons i r ih =>
  intro xs h;cases h with
  | cons h1 h2=>cases h1;rw[ih h2];rfl
theorem AA {K:Fg} {H:Hp} {a:Addr} {p:List Nat} (h:SqT K H a (p.map fun n=>V.int ((n:Nat):Int))):TD K H (.ref a) (dN p):=by
 refine .tup h ?_;clear h
 induction p with
 | nil=>exact .nil
 | cons i r ih=>exact .cons (.int _) ih
theorem rq {xs:List V} {x:V}:iL (xs++[x]) none (some (-1))=xs:=by
 have e:HT.sIx (xs++[x]).length (xs++[x]).length (some (-1))=xs.length:=by
  show (if (-1:Int)<0 then ((-1:Int)+(((xs++[x]).length:Nat):Int)).toNat else min (-1:Int).toNat (xs++[x]).length)=_;rw[if_pos (by decide),lAp];show ((-1:Int)+((xs.length+1:Nat):Int)).toNat=_;omega
 unfold iL;rw[e,HT.kC,List.drop_zero,Nat.sub_zero,List.take_left]
theorem eI {rs rs':List Int} (h:∀ i,i∈rs'↔i∈rs) {e:PyData}:(bq 9 e).any (aJ rs')=false↔StI rs e:=by
 rw[List.any_eq_false];constructor
 · intro z x hx;rw[iq (fun i=>(h i).symm) x]
   simpa using z x ((eN 9).mpr hx)
 · intro z x hx;rw[iq h x,z x ((eN 9).mp hx)]
   decide
theorem tT {d e e':PyData} {c m m':Nat} (l:LdF d c) (s:Sub 9 d m e) (s':Sub 9 d m' e'):LvD d e e'↔LvI d e e':=by
 unfold LvD LvI;exact forall_congr' fun i=>by rw[l.q s,l.q s',l.q s']
structure PlO (d e:PyData) (path:List Nat):Prop where
  hat:atD d path=some e
  hl:path.length+1≤9
section
variable {K:Fg} {H:Hp} {Q:VK}
theorem tQ {x y:V} {d:PyData} (h1:fT K H x d) (h2:fT K H y d) (hs:SeqAt.shaped d=true) (q:Q (.bl false) H):wI K x y H Q:=⟨d,d,h1,h2,hs,hs,by rw[SeqAt.eqv_refl _ (SeqAt.canLay_of_shaped hs)];exact q⟩
theorem qN {a b:Addr} {x y:Bool} (h1:H a=some (.lst [.bl x,.bl y])) (h2:H b=some (.lst [.bl x,.bl y])) (q:Q (.bl false) H):wI K (.ref a) (.ref b) H Q :=
 tQ (d:=.list [.bool x,.bool y]) (.lst (SqL.of h1) (.cons (.bl x) (.cons (.bl y) .nil))) (.lst (SqL.of h2) (.cons (.bl x) (.cons (.bl y) .nil))) (by rfl) q
theorem mP {v:V} {r:List Nat} {t:Nat} (td:TD K H v (dN (r++[t]))) (q:∀ p H',ai H H'→TD K H' (.ref p) (dN r)→Q (.ref p) H'):qm K v none (some (-1)) H Q:=by
 obtain⟨a,xs,rfl,hs,hx⟩:=(show TD K H v (.tuple ((r++[t]).map fun n=>.int ((n:Nat):Int))) from td).tup_of;have e:=uj hx;rw[List.map_append] at e;subst e;have e2:=@rq (r.map fun n=>V.int ((n:Nat):Int)) (V.int ((t:Nat):Int));refine⟨a,_,rfl,hs,fun z=>?_,fun p hp=>?_⟩
 · exfalso;have:=e2.symm.trans z;have:=congrArg List.length this;rw[lAp] at this;have:(r.map fun n=>V.int ((n:Nat):Int)).length=(r.map fun n=>V.int ((n:Nat):Int)).length+1:=this;omega
 · refine q p _ (smu hp) (AA (SqT.of ?_));rw[pE];exact congrArg (fun z=>some (HO.tup z)) e2
end
abbrev jz:Stmt:=top 42
abbrev BN:List Str:=["_law_script","_law_core_here","_law_box_here","_law_f","_law_all_vars","_law_body","_law_paths_here","_law_k","_law_one","_law_other","_law_due","_law_found"]
inductive rK (K:Fg) (vs:List V) (H:Hp) (Q:VK):Prop
  | mk (a:Addr) (ns:List Int) (g0_:vs=[.ref a]) (g1_:SqL K H a (ns.map V.int)) (g2_:ns.length≤63) (g3_:∀ H',Q (.bl true) H'):rK K vs H Q
def mN (K:Fg):Sp:=fun vs H Q _=>rK K vs H Q
theorem uK:am BN ["_law_script"] (a0 jz):=fsM
section
variable {P:Program} {w:World} {K:Fg} {mg:SOV} {base:Heap}
theorem xf {f:Addr} {fd:FuncData} (F:Fun K "law" "law" jz f fd) (T:Blt mg) (hbool:mg "bool"=none)
 (mC:Fn P w K mg base "_law_core" 20 ["_law_script"] (yJ K)) (eQ:Fn P w K mg base "_law_box" 1 ["_law_script","_law_k"] (wv K)) (a7:Fn P w K mg base "_law_take" 1 ["_law_box_here","_law_many_here"] fZ) (gX:Fn P w K mg base "_law_with_vars" 3 wM (yw K))
 (mz:Fn P w K mg base "_law_vars" 11 ["_law_core_here","_law_f"] (yB K)) (eA:Fn P w K mg base "_law_paths" 10 ["_law_e_here","_law_path"] (sD K 9)) (iW:Fn P w K mg base "_law_at" 2 ["_law_e_here","_law_path"] (yC K)) (aK:Fn P w K mg base "_law_children" 1 ["_law_e_here"] (gP K))
 (l9:Fn P w K mg base "_law_apart" 22 wN (yF K)) (gO:Fn P w K mg base "are_apart" 7 ["core","function","path","other"] (yM K)):fB P w K mg base CX0 23 f fd ["_law_script"] (mN K):=by
 refine F.ok uK (fun vs H Q E h=>?_) (fun cdv A outer s0 H vs Q E hr h=>?_)
 · obtain⟨a,ns,rfl,_⟩:=h;rfl
 · obtain⟨a,ns,rfl,hS,hlen,q⟩:=h;have nd:=uK.nd;have hu:=eY hr;have hz0:(4000000:Nat)<sizeLine:=by decide
   have at0:∀ {x:V} {r:List V},atI (x::r) 0=some x:=fun {x r}=>pH (j:=0) rfl;refine⟨_,(pD (pL (i:=1) nd rfl (Or.inl rfl) (ab mC (hr.mono (by decide)) rfl (pA (pv 0) pB)))
 (pD (pL (i:=2) nd rfl (Or.inl rfl) (ab eQ (hr.mono (by decide)) rfl (pA (pv 0) (pA pF pB))))
 (pD (az (pM aH (ab a7 (hr.mono (by decide)) rfl (pA (pv 2) (pA pF pB))) pF (pN _)) (pG (pL (i:=1) nd rfl (Or.inl rfl) (ab gX (hr.mono (by decide)) rfl (pA (pv 1) (pA (pv 2) pB))))) ah)
 (pD (bF PassesOwn.never rfl (bo rfl T.range (pA (bJ T.len (pA (aa a9 (pv 1) pF (fun _ _=>rfl)) pB)) pB)) (aw (i:=3) nd rfl (Or.inl rfl))
 (pD (pL (i:=4) nd rfl (Or.inl rfl) (ab mz (hr.mono (by decide)) rfl (pA (pv 1) (pA (pv 3) pB))))
 (pD (pL (i:=5) nd rfl (Or.inl rfl) (aa a9 (aa a9 (aa a9 (pv 1) pF (fun _ _=>rfl)) (pv 3) (fun _ _=>rfl)) pF (fun _ _=>rfl)))
 (pD (pL (i:=6) nd rfl (Or.inl rfl) (ab eA (hr.mono (by decide)) rfl (pA (pv 5) (pA (ag pB) pB))))
 (pG (bF PassesOwn.never rfl (bo rfl T.range (pA pF pB)) (aw (i:=7) nd rfl (Or.inl rfl))
 (pD (pL (i:=8) nd rfl (Or.inl rfl) (aa aF (pv 6) (ab a7 (hr.mono (by decide)) rfl (pA (pv 2) (pA (bJ T.len (pA (pv 6) pB)) pB))) (fun _ _=>rfl)))
 (pD (pL (i:=9) nd rfl (Or.inl rfl) (aa aF (pv 6) (ab a7 (hr.mono (by decide)) rfl (pA (pv 2) (pA (bJ T.len (pA (pv 6) pB)) pB))) (fun _ _=>rfl)))
 (pD (az (PW.pt (cZ (pM aH (aa a9 (aa a9 (aa a9 (pv 1) pF (fun _ _=>rfl)) (pv 3) (fun _ _=>rfl)) pF (fun _ _=>rfl)) pC (pN _)) (bX (pM gH (bJ T.len (pA (pv 8) pB)) pF (pN _))))) (pG (pL (i:=9) nd rfl (Or.inl rfl) (aC eM (dS hU (pv 8) fH (eJ (mX jq pF))) (ag (pA (ab a7 (hr.mono (by decide)) rfl (pA (pv 2) (pA (bJ T.len (pA (ab aK (hr.mono (by decide)) rfl (pA (ab iW (hr.mono (by decide)) rfl (pA (pv 5) (pA (dS hU (pv 8) fH (eJ (mX jq pF))) pB))) pB)) pB)) pB))) pB))))) ah)
 (pD (pL (i:=10) nd rfl (Or.inl rfl) (ab l9 (hr.mono (by decide)) rfl (pA (pv 1) (pA (pv 4) (pA (ab iW (hr.mono (by decide)) rfl (pA (pv 5) (pA (pv 8) pB))) (pA (ab iW (hr.mono (by decide)) rfl (pA (pv 5) (pA (pv 9) pB))) pB))))))
 (pD (pL (i:=11) nd rfl (Or.inl rfl) (aM (pA (ab gO (hr.mono (by decide)) rfl (pA (pv 1) (pA (pv 3) (pA (pv 8) (pA (pv 9) pB))))) (pA (ab gO (hr.mono (by decide)) rfl (pA (pv 1) (pA (pv 3) (pA (pv 9) (pA (pv 8) pB))))) pB))))
 (pG (az (PW.pt (dO (pM (xb hr.units) (pv 11) (aM (pA (pv 10) (pA (pv 10) pB))) (pN _)) (cY (fg (dP (xY T.isinstance (pA (aa aF (pv 11) pF (fun _ _=>rfl)) (pA (tK (v:=.ty "bool") rfl hbool mf rfl) pB)))))))) (pG (ae bD)) ah)))))))))))))
 (pG (ae bD)))))),?_⟩
   dsimp only[bd,oK,oJ];refine aq fun tR kN=>?_;refine⟨_,rfl,a,ns,rfl,hS,hlen,fun v hs rs0 fs os0 H1 s1 tv co=>?_⟩;obtain⟨rk,L0,fl4⟩:=xh co;refine kN _ _ (aq fun As xz=>?_);refine⟨_,rfl,a,ns,_,rfl,hS.same s1,hlen,by decide,by decide,fun bx H2 s2 hb bv=>?_⟩;refine xz _ _ (aq fun AZ xx=>?_);have dk:∀ (H3:Hp) (vc:V) (gs:PDs) (k3:Int),TD K H3 vc (gM gs rs0 os0)→LdC gs rk→fV H3 bx k3→k3≤19→AZ [some (.ref a),some vc,some (.ref bx),none,none,none,none,none,none,none,none,none] H3:=fun H3 vc gs k3 tv3 L hb3 hk3=>by
    refine xx _ _ (aq fun AY u9=>?_);obtain⟨ga,gb,gc',ge,gxs,gzs,rfl,hga,hgb,hgxs,htb,_⟩:=fQ tv3;have gxl:=hgxs.length;have gl5:=L.gl;obtain⟨rs,hrs⟩:=sQ gs;have c3:Tg H3 H3 bx k3:=⟨fun _ _ _ h=>h,hb3⟩;refine⟨_,rfl,ga,_,_,_,rfl,rfl,hga,at0,gb,_,rfl,.inr hgb,_,rfl,by omega,by omega,?_⟩;show aA _ _ _ _ _ _;rw[show ((gxs.length:Nat):Int).toNat=gxs.length from Int.toNat_natCast _];refine aA.byN (ba (n:=gxs.length)) (fun i σ Hi=>(∃ k,Tg H3 Hi bx k∧k≤19+30*((i:Nat):Int))∧∃ x3 x4 x5 x6 x7 x8 x9 x10 x11,σ=[some (.ref a),some (.ref ga),some (.ref bx),x3,x4,x5,x6,x7,x8,x9,x10,x11]) ⟨⟨k3,c3,by omega⟩,_,_,_,_,_,_,_,_,_,rfl⟩ (fun _ _ _ _ _=>trivial) ?_ ?_
    · rintro i u σ Hi N_ B_ hN_ hB_ hui ⟨⟨ki,ci,hki⟩,x3,x4,x5,x6,x7,x8,x9,x10,x11,rfl⟩;have hil:i<gxs.length:=by
       have:=(gES.mp hui).1;rw[aV] at this;exact this
      have hu2:=eF hui;subst hu2;obtain⟨h,c,d,hg,lf,bel⟩:=L.gf i (by omega);have tci:=tv3.tk (ci.tks hb3);have ask:∀ {Hx:Hp},Tk H3 Hx→iX K Hx (.ref ga) gs i d:=fun {Hx} sx=>⟨⟨rs0,os0,tv3.tk sx⟩,⟨h,c,hg⟩,L.fns,by omega,lf.sz⟩;refine aq fun Ar Au=>?_;refine⟨_,rfl,_,rfl,.ref ga,gs,i,d,rfl,ask (ci.tks hb3),fun va H6 is s6 hva0 hva his=>?_⟩;refine Au _ _ (aq fun Cr BX=>?_);have c6:=ci.same s6;have K6:=c6.tks hb3;obtain⟨y,hy,ty⟩:=hgxs.at hg;obtain⟨ta,us,rfl,hta,hus⟩:=(show TD K H3 y (.tuple [.str h,.int ((c:Nat):Int),d]) from ty).tup_of;obtain⟨u1,u2,vb,rfl,a1,a2,tvb⟩:=jr hus;cases a1;refine⟨_,rfl,ga,_,_,_,rfl,rfl,hga.tk K6,at0,_,rfl,gb,_,_,_,rfl,rfl,hgb.tk K6,pH hy,ta,_,_,_,rfl,rfl,hta.tk K6,pH (j:=2) rfl,?_⟩;refine BX _ _ (aq fun CA Cw=>?_);refine⟨_,rfl,lm,fun t0 ht0=>?_⟩;have k0:=smu (o:=HO.tup []) ht0;have tt0:TD K (upd H6 t0 (.tup [])) (.ref t0) (dN []):=.tup (SqT.of pE) .nil;generalize upd H6 t0 (.tup [])=H7 at k0 tt0 ⊢;refine⟨vb,.ref t0,d,[],rfl,(tvb.tk K6).same k0,lf.wf,lf.sz,tt0,by decide,fun Lp H8 zs s8 hL0 hL tz=>?_⟩;refine Cw _ _ ?_;have c8:=c6.same (k0.trans s8);have c7:=c6.same k0;have nva:va≠bx:=fun e=>by obtain⟨_,_,hbi,_⟩:=ci.bx;rw[e,hbi] at hva0;cases hva0
      have nLp:Lp≠bx:=fun e=>by obtain⟨_,_,hbi,_⟩:=c7.bx;rw[e,hbi] at hL0;cases hL0
      have hva8:H8 va=some (.lst (is.map V.int)):=(k0.trans s8) _ _ hva;have zl:=tz.length;rw[lMp,mU] at zl;have lsz:=lf.sz;have zpos:0<zs.length:=by rw[zl];exact Nat.succ_pos _
      refine⟨_,rfl,by decide,by decide,?_⟩;show aA _ _ _ _ _ _;rw[show (10:Int).toNat=10 from rfl];refine aA.byN (ba (n:=10)) (fun j σ Hj=>(∃ k,Tg H8 Hj bx k∧k≤ki+3*((j:Nat):Int))∧∃ x7 x8 x9 x10 x11,σ=[some (.ref a),some (.ref ga),some (.ref bx),some (.int ((i:Nat):Int)),some (.ref va),some vb,some (.ref Lp),x7,x8,x9,x10,x11]) ⟨⟨ki,⟨fun _ _ _ h=>h,c8.bx⟩,by omega⟩,_,_,_,_,_,rfl⟩ (fun _ _ _ _ _=>trivial) ?_ ?_
      · rintro j u σ Hj M_ CG hM_ Cv huj ⟨⟨kj,cj,hkj⟩,x7,x8,x9,x10,x11,rfl⟩;have hj:j<10:=by have:=(gES.mp huj).1;rwa [aV] at this
        have hu3:=eF huj;subst hu3;have pick:∀ (r:Int),0≤r→r<((zs.length:Nat):Int)→∃ (k:Nat) (v:V) (path:List Nat) (e:PyData),r=((k:Nat):Int)∧zs[k]?=some v∧TD K H8 v (dN path)∧PlO d e path:=fun r r0 r1=>by
         obtain⟨k,rfl⟩:=Int.eq_ofNat_of_zero_le r0;have hk:k<zs.length:=by omega
         have hz:zs[k]?=some zs[k]:=gEE hk;obtain⟨pd,hpd,tp⟩:=tz.get hz;rw[gEM] at hpd;obtain⟨path,hpath,rfl⟩:=oMS.mp hpd;obtain⟨rr,e,m,epath,hat,_,hl9⟩:=wL (mGE hpath);rw[List.nil_append] at epath;subst epath;exact⟨k,_,path,e,rfl,hz,tp,⟨hat,hl9⟩⟩
        have tkj:=cj.tks c8.bx;have hLj:=cj.kp _ _ nLp hL;refine aq fun CF g1_=>?_;refine⟨_,rfl,_,rfl,_,rfl,Lp,_,rfl,.inl (SqL.of hLj),bx,kj,_,rfl,cj.bx,by omega,by omega,by omega,fun r1 J1 r10 r11 mo1 bx1=>?_⟩;obtain⟨k1,v1,path1,e1,rfl,hz1,tp1,pl1⟩:=pick r1 r10 r11;have c1:=cj.took mo1 bx1;have hL1:=c1.kp _ _ nLp hL;refine⟨Lp,_,_,_,rfl,rfl,SqL.of hL1,pH hz1,?_⟩;refine g1_ _ _ (aq fun CD g2_=>?_);refine⟨_,rfl,_,rfl,_,rfl,Lp,_,rfl,.inl (SqL.of hL1),bx,kj+1,_,rfl,c1.bx,by omega,by omega,by omega,fun r2 J2 r20 r21 mo2 bx2=>?_⟩;obtain⟨k2,v2,path2,e2,rfl,hz2,tp2,pl2⟩:=pick r2 r20 r21;have c2:=c1.took mo2 bx2;have hL2:=c2.kp _ _ nLp hL;refine⟨Lp,_,_,_,rfl,rfl,SqL.of hL2,pH hz2,?_⟩;refine g2_ _ _ (aq fun Cp g3_=>?_);have last:∀ (J3:Hp) (kk:Int) (vo:V) (path e':_) (x10 x11:Option V),Tg H8 J3 bx kk→kk≤kj+3→TD K J3 vo (dN path)→PlO d e' path→Cp [some (.ref a),some (.ref ga),some (.ref bx),some (.int ((i:Nat):Int)),some (.ref va),some vb,some (.ref Lp),some (.int ((j:Nat):Int)),some v1,some vo,x10,x11] J3:=fun J3 kk vo path e' x10 x11 c3' hkk tpo plo=>by
         have T83:=c3'.tks c8.bx;have T33:Tk H3 J3:=(c8.trans c3').tks hb3;have tp13:=tp1.tk T83;have tvb3:=tvb.tk T33;have hva3:=c3'.kp _ _ nva hva8;obtain⟨ma,suba⟩:=lE pl1.hat pl1.hl;obtain⟨mb,subb⟩:=lE plo.hat plo.hl;obtain⟨wa,_,sza⟩:=lf.pre suba;obtain⟨wb',_,szb⟩:=lf.pre subb;obtain⟨Ba,hBal,hBam⟩:=lf.b suba;obtain⟨Bb,hBbl,hBbm⟩:=lf.b subb;refine g3_ _ _ (aq fun CC g4_=>?_);refine⟨_,rfl,_,rfl,_,rfl,_,rfl,vb,v1,9,d,e1,path1,rfl,tvb3,lf.wf,tp13,pl1.hat,fun w1 J4 t4 te4=>?_⟩;refine⟨_,rfl,_,rfl,vb,vo,9,d,e',path,rfl,tvb3.same t4,lf.wf,tpo.same t4,plo.hat,fun w2 J5 t5 te5=>?_⟩;have T5:=t4.trans t5;refine⟨.ref ga,va,w1,w2,gs,rk,rs,is,d,e1,e',Ba,Bb,rfl,⟨rs0,os0,(tv3.tk T33).same T5⟩,L.rk,hrs,T5 _ _ hva3,his,⟨te4.same t5,wa,sza,bel.sub lf.wf suba,fun wd i z=>hBam _ i ((lf.q suba _ i).mpr z),hBal⟩,⟨te5,wb',szb,bel.sub lf.wf subb,fun wd i z=>hBbm _ i ((lf.q subb _ i).mpr z),hBbl⟩,fun due J6 t6 hdue=>?_⟩;have T6:=T5.trans t6;refine g4_ _ _ (aq fun CB Cz=>?_);have pla:∀ {Hx:Hp},ai J3 Hx→Plc K Hx v1 d e1 9 Ba:=fun {Hx} sx=>⟨⟨path1,tp13.same sx,pl1.hat⟩,wa,sza,hBam,hBal⟩;have plb:∀ {Hx:Hp},ai J3 Hx→Plc K Hx vo d e' 9 Bb:=fun {Hx} sx=>⟨⟨path,tpo.same sx,plo.hat⟩,wb',szb,hBbm,hBbl⟩;have ask3:=ask T33;refine⟨_,rfl,_,rfl,_,rfl,_,rfl,.ref ga,v1,vo,gs,i,d,e1,e',Ba,Bb,rfl,ask3.same T6,pla T6,plb T6,fun rs7 b7 J7 t7 hrs7 hb7=>?_⟩;have T7:=T6.trans t7;refine⟨_,rfl,_,rfl,_,rfl,_,rfl,.ref ga,vo,v1,gs,i,d,e',e1,Bb,Ba,rfl,ask3.same T7,plb T7,pla T7,fun rs8 b8 J8 t8 hrs8 hb8=>?_⟩;have T8:=T7.trans t8;have q7:b7=due:=by
          rw[Bool.eq_iff_iff,hb7,hdue,tT lf suba subb,tT lf subb suba,eI (rs:=rs) fun i=>(hrs7 i).trans (hrs i).symm,eI (rs:=rs) fun i=>(hrs7 i).trans (hrs i).symm];exact⟨fun z=>⟨z.2.2,z.1,z.2.1⟩,fun z=>⟨z.2.1,z.2.2,z.1⟩⟩
         have q8:b8=due:=by
          rw[Bool.eq_iff_iff,hb8,hdue,tT lf suba subb,tT lf subb suba,eI (rs:=rs) fun i=>(hrs8 i).trans (hrs i).symm,eI (rs:=rs) fun i=>(hrs8 i).trans (hrs i).symm];exact⟨fun z=>⟨z.2.2.symm,z.2.1,z.1⟩,fun z=>⟨z.2.2,z.2.1,z.1.symm⟩⟩
         rw[q7,q8];refine⟨cE,fun p8 hp8=>?_⟩;have k9:=smu (o:=HO.lst [.bl due,.bl due]) hp8;have hp8':(upd J8 p8 (.lst [.bl due,.bl due])) p8=some (.lst [.bl due,.bl due]):=pE;generalize upd J8 p8 (.lst [.bl due,.bl due])=J9 at k9 hp8' ⊢;refine Cz _ _ ?_;refine⟨_,rfl,_,rfl,_,rfl,cE,fun p9 hp9=>?_⟩;have k10:=smu (o:=HO.lst [.bl due,.bl due]) hp9;have T10:=(T8.trans k9).trans k10;refine qN (k10 _ _ hp8') pE ⟨_,rfl,fw ?_⟩;refine⟨_,rfl,p8,_,_,_,rfl,rfl,SqL.of (k10 _ _ hp8'),at0,_,"bool","bool",true,rfl,.bl _,xi,_,rfl,?_⟩;refine fw (hM_ _ _ ⟨⟨kk,c3'.same T10,by omega⟩,_,_,_,_,_,rfl⟩)
        have T2:Tk H3 J2:=(c8.trans c2).tks hb3;have tpo2:=tp2.tk (c2.tks c8.bx);have tp12:=tp1.tk (c2.tks c8.bx);have other:Cp [some (.ref a),some (.ref ga),some (.ref bx),some (.int ((i:Nat):Int)),some (.ref va),some vb,some (.ref Lp),some (.int ((j:Nat):Int)),some v1,some v2,x10,x11] J2:=last J2 _ v2 path2 e2 x10 x11 c2 (by omega) tpo2 pl2;refine⟨_,rfl,ga,_,_,_,rfl,rfl,hga.tk T2,at0,_,rfl,gb,_,_,_,rfl,rfl,hgb.tk T2,pH hy,ta,_,_,_,rfl,rfl,hta.tk T2,at0,rfl,_,rfl,?_⟩;refine bN (fun _=>?_) (fun _=>fw other);obtain⟨pa,xs1,rfl,hpa,hxs1⟩:=(show TD K J2 v1 (.tuple (path1.map fun n=>.int ((n:Nat):Int))) from tp12).tup_of;refine⟨_,rfl,pa,_,rfl,.inr hpa,_,_,rfl,rfl,_,rfl,?_⟩;refine bN (fun hpos=>?_) (fun _=>other);have xl:=hxs1.length;rw[lMp] at xl;have p1ne:path1≠[]:=fun e=>by
         rw[e] at xl;have:xs1.length=0:=xl;rw[this] at hpos;exact absurd hpos (by decide)
        obtain⟨r,t,rfl⟩:∃ r t,path1=r++[t]:=⟨path1.dropLast,path1.getLast p1ne,(List.dropLast_concat_getLast p1ne).symm⟩;have hat1:=pl1.hat;rw[nH] at hat1;obtain⟨ep,hep,hkt⟩:=Option.bind_eq_some_iff.mp hat1;have rl:=pl1.hl;rw[lAp] at rl;have rl':r.length+1+1≤9:=rl;obtain⟨mp,subp⟩:=lE (n:=9) hep (by omega);obtain⟨wp,_,_⟩:=lf.pre subp;refine⟨_,rfl,_,rfl,_,rfl,mP tp12 fun p3 J3 t3 tp3=>?_⟩;refine⟨_,rfl,_,rfl,_,rfl,_,rfl,_,rfl,mP (tp12.same t3) fun p4 J4 t4 tp4=>?_⟩;have T4:=t3.trans t4;refine⟨vb,.ref p4,9,d,ep,r,rfl,(tvb.tk T2).same T4,lf.wf,tp4,hep,fun w5 J5 t5 te5=>?_⟩;obtain⟨h',sl,ps,ndp,_⟩:=id wp;refine⟨w5,ep,h',sl,ps,rfl,te5,ndp,fun w6 J6 t6 te6=>?_⟩;obtain⟨pk,kvs,rfl,hpk,hkvs⟩:=te6.tup_of;have kl:=hkvs.length;have kf:=ndp.few;have kpos:0<kvs.length:=by
         rw[kl,← ndp.kids];have:=(gES.mp hkt).1;omega
        have T6:=(T4.trans t5).trans t6;have c6':=c2.same T6;refine⟨pk,_,rfl,.inr hpk,bx,_,_,rfl,c6'.bx,by omega,by omega,by omega,fun r7 J7 r70 r71 mo7 bx7=>?_⟩;obtain⟨t7,rfl⟩:=Int.eq_ofNat_of_zero_le r70;have c7':=c6'.took mo7 bx7;have tk7:=c6'.tk mo7;refine⟨ke,fun p8 hp8=>?_⟩;have k8:=smu (o:=HO.tup [.int ((t7:Nat):Int)]) hp8;have tp7:=((((tp3.same t4).same t5).same t6).tk tk7).same k8;have t8':TD K (upd J7 p8 (.tup [.int ((t7:Nat):Int)])) (.ref p8) (.tuple [.int ((t7:Nat):Int)]):=.tup (SqT.of pE) (.cons (.int _) .nil);refine cS tp7 t8' (by rw[lMp];show r.length+1≤100000;omega) fun p9 J9 t9 tp9=>?_;have ht7:t7<(aj ep).length:=by rw[ndp.kids,← kl];omega
        have pl9:PlO d (aj ep)[t7] (r++[t7]):=⟨by rw[nH,hep];exact gEE ht7,by rw[lAp];exact rl'⟩;refine last J9 _ (.ref p9) (r++[t7]) _ _ _ ((c7'.same k8).same t9) (by omega) ?_ pl9;show TD K J9 (.ref p9) (.tuple ((r++[t7]).map fun n=>.int ((n:Nat):Int)));rw[List.map_append];exact tp9
      · rintro σ Hj ⟨⟨kj,cj,hkj⟩,x7,x8,x9,x10,x11,rfl⟩;rw[aV] at hkj;exact hN_ _ _ ⟨⟨kj,c8.trans cj,by omega⟩,_,_,_,_,_,_,_,_,_,rfl⟩
    · rintro σ Hi ⟨⟨ki,ci,hki⟩,x3,x4,x5,x6,x7,x8,x9,x10,x11,rfl⟩;exact u9 _ _ (q _)
   refine⟨_,rfl,bx,0,2,rfl,bv,by decide,by decide,by decide,fun r H3 r0 r1 mo bx3=>?_⟩;have g2:Tg H2 H2 bx 0:=⟨fun _ _ _ h=>h,bv⟩;have g3:=g2.took mo bx3;have tv3:=(tv.same s2).tk (g3.tks bv);refine⟨rfl,_,rfl,?_⟩;refine bN (fun _=>?_) (fun _=>dk H3 v fs _ tv3 L0 bx3 (by decide));refine⟨_,rfl,_,rfl,v,bx,_,fs,rs0,os0,rfl,tv3,fl4,bx3,by decide,fun v' ts H4 k4 g4 hk4 tv4 hts htl=>?_⟩;exact dk H4 v' _ k4 tv4 (L0.more fl4 (LdF.of (uU hts htl) (by decide)) (AB hts htl)) g4.bx (by omega)
end
def uy (w:World) (es:List DictEntry) (vs:List (Key×Value)):Prop:=Paired (fun (e:DictEntry) (kv:Key×Value)=>∃ x t,kv.1=.inr x∧e.key=.str x t∧e.hash=hashStr w x∧e.val=kv.2) es vs
theorem m8 {P:Program} {w:World} {es:List DictEntry} {vs:List (Key×Value)} (h:uy w es vs):Pairs (ar P w) es vs:=by
 induction (show Paired _ es vs from h) with
 | nil=>exact .nil
 | cons z r ih =>
  obtain⟨x,t,e1,e2,e3,e4⟩:=z;exact .cons (by rw[e1,e2];exact dZ P w x t) e4 (ih r)
theorem oG {P:Program} {w:World} {es:List DictEntry} {vs:List (Key×Value)} (h:uy w es vs):∀ e∈es,∃ k,(ar P w).is k e.key=true∧e.hash=(ar P w).hash k:=by
 induction (show Paired _ es vs from h) with
 | nil=>exact fun e h=>by cases h
 | cons z r ih =>
  intro e h;obtain⟨x,t,e1,e2,e3,e4⟩:=z
  rcases List.mem_cons.mp h with rfl | h
  · exact⟨.inr x,by rw[e2];exact dZ P w x t,e3⟩
  · exact ih r e h
theorem isd {P:Program} {w:World} {es:List DictEntry} {vs:List (Key×Value)} {ep:Nat} (h:uy w es vs) (nd:(vs.map (·.1)).Nodup):Obj.IsDictOf (ar P w) {cls:=.type "dict",dict:=none,data:=.dict es.toArray ep,slots:=#[]} vs :=
 ⟨es.toArray,ep,⟨rfl,rfl,rfl⟩,rfl,fun e he=>oG h e (List.mem_toArray.mp he),m8 h,nd⟩
theorem ie {zs:List Str} {its:Array Value} (v:aD (zs.map V.str) its.toList) (h:zs.length≤50):its.size≤sizeLine:=by
 have e:=v.length;rw[lMp] at e;have e2:its.toList.length=its.size:=Array.length_toList;have:(50:Nat)≤sizeLine:=by decide
 lia
def y3 (K:Fg):List Row→Prop
  | []=>True
  | e::r=>K.lookup e.2.2.1=some (FT (e.2.2.2.map fun s=>.str s.1 s.2))∧y3 K r
def kvE (es:List Row):List (Key×V):=es.map fun e=>(.inr e.1,.ref e.2.2.1)
def vaE (es:List Row):List (Key×Value):=es.map fun e=>(.inr e.1,.ref e.2.2.1)
theorem fF:∀ (l:List (Str×Nat)),aD ((l.map Prod.fst).map V.str) (l.map fun s=>Value.str s.1 s.2):=by
 intro l
 induction l with
 | nil=>exact .nil
 | cons a r ih=>exact .cons ⟨a.2,rfl⟩ ih
theorem wE {K:Fg}:∀ {es:List Row},y3 K es→(es.map (·.1)).Nodup→∀ k sl,(k,sl)∈(es.map fun e=>(e.1,e.2.2.2.map Prod.fst))→∃ (r:Addr) (l:List (Str×Nat)),bj (kvE es) (.inr k)=some (.ref r)∧l.map Prod.fst=sl∧K.lookup r=some (FT (l.map fun s=>.str s.1 s.2)):=by
 intro es
 induction es with
 | nil=>exact fun _ _ k sl h=>absurd h nMN
 | cons e r ih =>
  intro ha nd k sl h;obtain⟨n1,n2⟩:=List.nodup_cons.mp nd
  rcases List.mem_cons.mp h with h | h
  · cases h;refine⟨e.2.2.1,e.2.2.2,?_,rfl,ha.1⟩;show (List.find? _ ((_,_)::_)).map _=_;rw[List.find?_cons_of_pos (by simp)];rfl
  · obtain⟨r',l,h1,h2,h3⟩:=ih ha.2 n2 k sl h;refine⟨r',l,?_,h2,h3⟩;have ne:e.1≠k:=fun c=>n1 (by
      obtain⟨e',he',q⟩:=List.mem_map.mp h;exact List.mem_map.mpr ⟨e',he',(congrArg Prod.fst q).trans c.symm⟩)
    show (List.find? _ ((_,_)::_)).map _=_;rw[List.find?_cons_of_neg (by simpa using ne)];exact h1
theorem sq {P:Program} {w:World} {K:Fg} {mg:SOV} {aR:Addr} {ep:Nat} (es:List Row) (hm:mg "SLOTS"=some (.ref aR)) (hR:K.lookup aR=some (FD w.params (es.map wF) ep)) (sR:(aR==sysModules)=false) (ht:y3 K es) (e0:(es.map fun e=>(e.1,e.2.2.2.map Prod.fst))=P10.tbl) (hn:(es.map (·.1)).Nodup) (hw:∀ e∈es,e.2.2.2.length≤50):Glb P w K mg:=by
 have en:∀ l:List Row,uy w ((l.map wF).map fun x=>(⟨PyData.keyHash w.params x.1,.str x.1 x.2.1,x.2.2⟩:DictEntry)) (vaE l):=by
  intro l
  induction l with
  | nil=>exact .nil
  | cons e r ih=>exact .cons ⟨e.1,e.2.1,rfl,rfl,rfl,rfl⟩ ih
 have ek:∀ l:List Row,KV (kvE l) (vaE l):=by
  intro l
  induction l with
  | nil=>exact .nil
  | cons e r ih=>exact .cons ⟨rfl,rfl⟩ ih
 have nv:((vaE es).map (·.1)).Nodup:=by
  unfold vaE;rw[List.map_map];show (es.map ((Sum.inr:Str→Key)∘fun e=>e.1)).Nodup;rw[← List.map_map];refine List.pairwise_map.mpr (hn.imp ?_);exact fun h c=>h (Sum.inr.inj c)
 refine⟨aR,kvE es,hm,⟨_,vaE es,hR,isd (en es) nv,ek es,sR⟩,fun k sl h=>?_⟩;rw[← e0] at h;obtain⟨r,l,h1,h2,h3⟩:=wE ht hn k sl h;have hl:l.length≤50:=by
  obtain⟨e,he,q⟩:=List.mem_map.mp h;have:=hw e he;have q2:=congrArg (List.length∘Prod.snd) q;have q3:=congrArg List.length h2;simp at q2 q3;omega
 refine⟨r,h1,fun H=>.inr ⟨_,_,0,h3,rfl,rfl,?_,?_⟩⟩
 · exact ie (zs:=l.map Prod.fst) (fF l) (by rw[lMp];exact hl)
 · rw[← h2];exact fF l
theorem mM {K:Fg} {a:Addr} (l:List (Str×Nat)) (h:K.lookup a=some (FT (l.map fun s=>.str s.1 s.2))) (hl:l.length≤50) (H:Hp):SqT K H a ((l.map Prod.fst).map V.str) :=
 .inr ⟨_,_,0,h,rfl,rfl,ie (zs:=l.map Prod.fst) (fF l) (by rw[lMp];exact hl),fF l⟩
theorem sB {K:Fg} {mg:SOV} {a b:Addr} (l m:List (Str×Nat)) (h1:mg "STIRRING"=some (.ref a)) (h2:mg "STIRRING_OPS"=some (.ref b)) (h3:K.lookup a=some (FT (l.map fun s=>.str s.1 s.2))) (h4:K.lookup b=some (FT (m.map fun s=>.str s.1 s.2))) (e1:l.map Prod.fst=stW) (e2:m.map Prod.fst=opW):xN K mg :=
 ⟨⟨a,h1,fun H=>by rw[← e1];exact mM l h3 (by have:=congrArg List.length e1;rw[lMp] at this;rw[this];decide) H⟩,⟨b,h2,fun H=>by rw[← e2];exact mM m h4 (by have:=congrArg List.length e2;rw[lMp] at this;rw[this];decide) H⟩⟩
theorem aL {K:Fg} {h:Heap} {mg:SOV} {x:Str} {st:Stmt} {f:Addr} {oc:Value} {od an:Option Addr} {osl:Array (Option Value)} {kV doc pm cdv ct:Value} (X:K.In h) (G:h.Ns mainGlobals mg)
 (l:K.lookup f=some ⟨oc,od,.func (PySem.W.fnOf x x (bL st) (ak st) (a0 st) .none kV doc pm an cdv ct),osl⟩) (a:PySem.W.nsIn K mainGlobals x=some (some (.ref f)):=by kernel_rfl)
 (c:PySem.W.codeIn K cdv x=true:=by kernel_rfl) (k:PySem.W.keepIn K (.ref f)=true:=by kernel_rfl):Def K mg x st:=⟨f,_,ee l c k,PySem.W.mg_of X G a⟩
theorem xL {l:PySem.W.OpenLaw} {w:World} {K:Fg} {h:Heap} {mg:SOV} {fa fl cG:Addr} (X:K.In h) (G:h.Ns mainGlobals mg) (hfa:mg "law"=some (.ref fa)) (C:Glb l.prog w K mg) (S:xN K mg) (T:Blt mg) (nAny:mg "any"=none) (nEn:mg "enumerate"=none) (nSet:mg "set"=none) (nInt:mg "int"=none) (nBo:mg "bool"=none) (gc:GC K mg cG) (i0:ux K cG "Ground.__init__" (sG 0))
 (m1:gW K cG "read_in" "Ground.read_in" (sG 1)) (m2:gW K cG "set_in" "Ground.set_in" (sG 2)) (m3:gW K cG "quiet" "Ground.quiet" (sG 3)) (m6:gW K cG "leaves" "Ground.leaves" (sG 6)) (m7:gW K cG "apart" "Ground.apart" (sG 7))
 (dCh:Def K mg "children_of" sCh) (dAt:Def K mg "at_path" sAt) (dBb:Def K mg "bound_by" sBb) (dWk:Def K mg "walked" sWk) (dVo:Def K mg "vars_of" sVo) (dOv:Def K mg "outer_vars" sOv) (dOf:Def K mg "outside_funs" sOf) (dSt:Def K mg "stirs" sSt) (dIs:Def K mg "is_still" sIs) (dRf:Def K mg "restless_functions" sRf) (dGo:Def K mg "ground_of" sGo) (dAa:Def K mg "are_apart" sAa) (dBx:Def K mg "_law_box" sBx) (dTk:Def K mg "_law_take" sTk) (dLf:Def K mg "_law_leaf" sLf) (dFr:Def K mg "_law_fresh" sFr) (dMn:Def K mg "_law_many" sMn) (dBd:Def K mg "_law_binder" sBd) (dOp:Def K mg "_law_op" sOp) (dRc:Def K mg "_law_record" sRc) (dCl:Def K mg "_law_call" sCl) (dFw:Def K mg "_law_flow" sFw) (dE:Def K mg "_law_e" sE) (dCo:Def K mg "_law_core" sCo) (dLc:Def K mg "_law_children" sLc) (dLa:Def K mg "_law_all" sLa) (dLt:Def K mg "_law_at" sLt) (dLp:Def K mg "_law_paths" sLp) (dLo:Def K mg "_law_outer" sLo) (dLv:Def K mg "_law_vars" sLv) (dLs:Def K mg "_law_still" sLs) (dLA:Def K mg "_law_apart" sLA) (dTg:Def K mg "_law_thing" sTg) (dWv:Def K mg "_law_with_vars" sWv)
 {od an:Option Addr} {osl:Array (Option Value)} {oc kV doc pm cdv ct:Value} (a1:PySem.W.nsIn K mainGlobals "law"=some (some (.ref fl))) (l1:K.lookup fl=some ⟨oc,od,.func (PySem.W.fnOf "law" "law" (bL jz) (ak jz) (a0 jz) .none kV doc pm an cdv ct),osl⟩) (e1:PySem.W.codeIn K cdv "law"=true) (k1:PySem.W.keepIn K (.ref fl)=true) :
 ∃ fd:FuncData,(∀ (s:Shared) (v:Value),BindsTo s fd ⟨[v],[]⟩ [("_law_script",v)])∧∀ base:Heap,K.In base→base.Ns mainGlobals mg→fB l.prog w K mg base CX0 23 fa fd ["_law_script"] (mN K):=by
 cases hfa.symm.trans (PySem.W.mg_of X G a1);have FL:=ee (st:=jz) l1 e1 k1;refine⟨PySem.W.fnOf "law" "law" (bL jz) (ak jz) (a0 jz) .none kV doc pm an cdv ct,fun s v=>.of_eq rfl,fun base _ _=>?_⟩;have fCh:=Af (P:=l.prog) (w:=w) (base:=base) dCh T C;have fAt:=Aj (P:=l.prog) (w:=w) (base:=base) dAt T fCh;have fWk:=zG (P:=l.prog) (w:=w) (base:=base) dWk fCh;have fOv:=zN (P:=l.prog) (w:=w) (base:=base) dOv T fWk (Ai dBb T);have fOf:=zP (P:=l.prog) (w:=w) (base:=base) dOf fCh;have fSt:=zK (P:=l.prog) (w:=w) (base:=base) dSt S;have g1:=A7 (P:=l.prog) (w:=w) (base:=base) m1 gc fOv;have g2:=A6 (P:=l.prog) (w:=w) (base:=base) m2 gc fOv;have g3:=A5 (P:=l.prog) (w:=w) (base:=base) m3 gc (zY dIs nAny fOf fSt);have g6:=A4 (P:=l.prog) (w:=w) (base:=base) m6 gc g1 g2;have g7:=A3 (P:=l.prog) (w:=w) (base:=base) m7 gc g6 g3;have fGo:=zZ (P:=l.prog) (w:=w) (base:=base) dGo gc (zH dVo fWk) (zL dRf T nAny nEn fOf fSt) (A2 i0 gc);have fTk:=zI (P:=l.prog) (w:=w) (base:=base) dTk;have fBx:=Ag (P:=l.prog) (w:=w) (base:=base) dBx T nInt;have fE:=Aa (P:=l.prog) (w:=w) (base:=base) T dE dMn dBd dOp dRc dCl dFw fTk (zV dLf T fTk) (A9 dFr) 4;have fLc:=zW (P:=l.prog) (w:=w) (base:=base) dLc T;have fLa:=zX (P:=l.prog) (w:=w) (base:=base) dLa fLc 9;exact xf FL T nBo (Ad dCo T fTk fBx fE) fBx fTk (zF dWv T (zJ dTg fTk)) (zQ dLv fLa) (zT dLp T fLc 9) (zR dLt T fLc) fLc (Al dLA T (zU dLo T nSet fLa) (zS dLs fLa 10)) (Ak dAa gc fGo fAt g7)
theorem B2 {l:PySem.W.OpenLaw} {q:Program} {loose:List Str} {XP:(Str→Option Value)→Heap→Prop} {YP:World→Heap→Prop} {d:DefRec} {K:Params→Fg} (hn:l.most=some 63) (hdf:d.params.defaults=[])
 (hY:∀ (w:World) (h:Heap),YP w h→(K w.params).In h)
 (F:∀ (w:World) (mg:SOV) (fa:Addr) (h:Heap),(K w.params).In h→h.Ns mainGlobals mg→mg d.name=some (.ref fa) →
   ∃ fd:FuncData,(∀ (s:Shared) (u:Value),BindsTo s fd ⟨[u],[]⟩ [("_law_script",u)])∧∀ base:Heap,(K w.params).In base→base.Ns mainGlobals mg→fB l.prog w (K w.params) mg base CX0 23 fa fd ["_law_script"] (mN (K w.params))) :
 PySem.W.WalkO q loose XP YP l.row.toRowW d [] (fun f vs=>PySem.call f vs) :=
 L2.mJ (n:=63) (k:=23) (x:="_law_script") (CX:=fun _=>CX0) (sp:=fun w=>mN (K w.params)) hn (by decide) hdf ⟨rfl,by decide,by decide,rfl⟩ hY F (fun _ _ a ns hl _ hS=>⟨a,ns,rfl,hS,hl,fun _=>rfl⟩) fun _ _ _ _ _ z=>z
theorem lk {K:Fg} {f:Addr} (x q:Str) (st:Stmt) (m:Value) (c:Nat) (h:K.lookup f=some (FF x q st m c):=by kernel_rfl):K.lookup f=some ⟨.type "function",none,.func (PySem.W.fnOf x q (bL st) (ak st) (a0 st) .none .none .none m none (.ref c) .none),#[]⟩:=h
end K23
open PySem PySem.W PyProof.Rows
set_option maxRecDepth 100000 in
set_option maxHeartbeats 0 in
theorem PySem.Challenge.cw_turnsame_k23_apart_holds : PySem.Challenge.rw_turnsame_k23_apart.Holds := by
 refine K23.preH fun d hdn hdd=>K23.B2 (l:=PySem.Challenge.rw_turnsame_k23_apart) rfl hdd (fun w h Y=>PySem.W.kIn_of Y) ?F
 case F =>
  intro w mg fa h X G hmg;rw[hdn] at hmg;have none_:∀ {x:Str},PySem.W.nsIn (K23.KF w.params) mainGlobals x=some none→mg x=none:=fun e=>PySem.W.mg_none_of X G e;have mo:∀ {x:Str} {v:Value},PySem.W.nsIn (K23.KF w.params) mainGlobals x=some (some v)→mg x=some v:=fun z=>PySem.W.mg_of X G z;refine K23.xL X G hmg (cG:=167) (K23.sq (ep:=17) K23.SL (mo (show _=some (some (Value.ref 22)) by kernel_rfl)) (by kernel_rfl) (by decide) (by repeat' (first | exact trivial | refine⟨by kernel_rfl,?_⟩)) (by kernel_rfl) (by decide +kernel) (by decide +kernel)) (K23.sB (a:=68) (b:=69) K23.LW K23.LO (mo (by kernel_rfl)) (mo (by kernel_rfl)) (by kernel_rfl) (by kernel_rfl) (by rfl) (by rfl)) ⟨none_ (by kernel_rfl),none_ (by kernel_rfl),none_ (by kernel_rfl),none_ (by kernel_rfl),none_ (by kernel_rfl),none_ (by kernel_rfl),none_ (by kernel_rfl),none_ (by kernel_rfl)⟩ (none_ (by kernel_rfl)) (none_ (by kernel_rfl)) (none_ (by kernel_rfl)) (none_ (by kernel_rfl)) (none_ (by kernel_rfl))
   ⟨⟨by kernel_rfl,by kernel_rfl,by kernel_rfl,by kernel_rfl⟩,(by unfold L2.d9;kernel_rfl),(by unfold L2.d9;kernel_rfl),mo (by kernel_rfl)⟩
   ⟨117,_,L2.ee (st:=K23.sG 0) (K23.lk "__init__" "Ground.__init__" (K23.sG 0) K23.M1 116) (by kernel_rfl) (by kernel_rfl),⟨by kernel_rfl,by kernel_rfl,by kernel_rfl,by kernel_rfl⟩⟩
   ⟨124,_,L2.ee (st:=K23.sG 1) (K23.lk "read_in" "Ground.read_in" (K23.sG 1) K23.M1 123) (by kernel_rfl) (by kernel_rfl),⟨by kernel_rfl,by kernel_rfl,by kernel_rfl⟩⟩
   ⟨131,_,L2.ee (st:=K23.sG 2) (K23.lk "set_in" "Ground.set_in" (K23.sG 2) K23.M1 130) (by kernel_rfl) (by kernel_rfl),⟨by kernel_rfl,by kernel_rfl,by kernel_rfl⟩⟩
   ⟨138,_,L2.ee (st:=K23.sG 3) (K23.lk "quiet" "Ground.quiet" (K23.sG 3) K23.M1 137) (by kernel_rfl) (by kernel_rfl),⟨by kernel_rfl,by kernel_rfl,by kernel_rfl⟩⟩
   ⟨157,_,L2.ee (st:=K23.sG 6) (K23.lk "leaves" "Ground.leaves" (K23.sG 6) K23.M1 156) (by kernel_rfl) (by kernel_rfl),⟨by kernel_rfl,by kernel_rfl,by kernel_rfl⟩⟩
   ⟨164,_,L2.ee (st:=K23.sG 7) (K23.lk "apart" "Ground.apart" (K23.sG 7) K23.M1 163) (by kernel_rfl) (by kernel_rfl),⟨by kernel_rfl,by kernel_rfl,by kernel_rfl⟩⟩
   (K23.aL (f:=46) X G (K23.lk "children_of" "children_of" (K23.top 3) K23.M0 45))
   (K23.aL (f:=53) X G (K23.lk "at_path" "at_path" (K23.top 4) K23.M0 52))
   (K23.aL (f:=60) X G (K23.lk "bound_by" "bound_by" (K23.top 5) K23.M0 59))
   (K23.aL (f:=67) X G (K23.lk "walked" "walked" (K23.top 6) K23.M0 66))
   (K23.aL (f:=74) X G (K23.lk "vars_of" "vars_of" (K23.top 10) K23.M1 73))
   (K23.aL (f:=79) X G (K23.lk "outer_vars" "outer_vars" (K23.top 11) K23.M1 78))
   (K23.aL (f:=86) X G (K23.lk "outside_funs" "outside_funs" (K23.top 12) K23.M1 85))
   (K23.aL (f:=93) X G (K23.lk "stirs" "stirs" (K23.top 13) K23.M1 92))
   (K23.aL (f:=98) X G (K23.lk "is_still" "is_still" (K23.top 14) K23.M1 97))
   (K23.aL (f:=103) X G (K23.lk "restless_functions" "restless_functions" (K23.top 15) K23.M1 102))
   (K23.aL (f:=178) X G (K23.lk "ground_of" "ground_of" (K23.top 17) K23.M1 177))
   (K23.aL (f:=185) X G (K23.lk "are_apart" "are_apart" (K23.top 18) K23.M1 184))
   (K23.aL (f:=192) X G (K23.lk "_law_box" "_law_box" (K23.top 20) K23.M2 191))
   (K23.aL (f:=199) X G (K23.lk "_law_take" "_law_take" (K23.top 21) K23.M2 198))
   (K23.aL (f:=206) X G (K23.lk "_law_leaf" "_law_leaf" (K23.top 22) K23.M2 205))
   (K23.aL (f:=213) X G (K23.lk "_law_fresh" "_law_fresh" (K23.top 23) K23.M2 212))
   (K23.aL (f:=218) X G (K23.lk "_law_many" "_law_many" (K23.top 24) K23.M2 217))
   (K23.aL (f:=223) X G (K23.lk "_law_binder" "_law_binder" (K23.top 25) K23.M2 222))
   (K23.aL (f:=230) X G (K23.lk "_law_op" "_law_op" (K23.top 26) K23.M2 229))
   (K23.aL (f:=237) X G (K23.lk "_law_record" "_law_record" (K23.top 27) K23.M2 236))
   (K23.aL (f:=242) X G (K23.lk "_law_call" "_law_call" (K23.top 28) K23.M2 241))
   (K23.aL (f:=249) X G (K23.lk "_law_flow" "_law_flow" (K23.top 29) K23.M2 248))
   (K23.aL (f:=256) X G (K23.lk "_law_e" "_law_e" (K23.top 30) K23.M2 255))
   (K23.aL (f:=261) X G (K23.lk "_law_core" "_law_core" (K23.top 31) K23.M2 260))
   (K23.aL (f:=268) X G (K23.lk "_law_children" "_law_children" (K23.top 32) K23.M2 267))
   (K23.aL (f:=275) X G (K23.lk "_law_all" "_law_all" (K23.top 33) K23.M2 274))
   (K23.aL (f:=282) X G (K23.lk "_law_at" "_law_at" (K23.top 34) K23.M2 281))
   (K23.aL (f:=289) X G (K23.lk "_law_paths" "_law_paths" (K23.top 35) K23.M2 288))
   (K23.aL (f:=294) X G (K23.lk "_law_outer" "_law_outer" (K23.top 36) K23.M2 293))
   (K23.aL (f:=299) X G (K23.lk "_law_vars" "_law_vars" (K23.top 37) K23.M2 298))
   (K23.aL (f:=306) X G (K23.lk "_law_still" "_law_still" (K23.top 38) K23.M2 305))
   (K23.aL (f:=311) X G (K23.lk "_law_apart" "_law_apart" (K23.top 39) K23.M2 310))
   (K23.aL (f:=318) X G (K23.lk "_law_thing" "_law_thing" (K23.top 40) K23.M2 317))
   (K23.aL (f:=323) X G (K23.lk "_law_with_vars" "_law_with_vars" (K23.top 41) K23.M2 322))
   (fl:=330) (by kernel_rfl) (K23.lk "law" "law" (K23.top 42) K23.M2 329) (by kernel_rfl) (by kernel_rfl)
