import PyProof.Rows.All
import KE.KDictOf
import KE.KFromBytes
import KE.KIntText
import KE.KIsAll
import KE.KItem
import KE.KRevSl
import PySem.Challenge.RW_turnsame_k20_ops
noncomputable section
abbrev Fg := PySem.W.Frag
abbrev VSP := PySem.Value → PySem.Shared → Prop
abbrev AOs := List (PySem.Addr × PySem.Obj)
abbrev SOV := PySem.Str → Option PySem.Value
abbrev PDs := List PySem.PyData
abbrev wB := @PySem.wpAny_bind
abbrev wP := @PySem.wpAny_pure
abbrev hpS := @PySem.Heap.get?_push_of_some
theorem lMp {α β:Type} {f:α→β} {l:List α}:(l.map f).length=l.length:=List.length_map ..
theorem gES {α:Type} {l:List α} {i:Nat} {a:α}:l[i]?=some a↔∃ h:i<l.length,l[i]=a:=List.getElem?_eq_some_iff
theorem gEE {α:Type} {l:List α} {i:Nat} (h:i<l.length):l[i]?=some l[i]:=List.getElem?_eq_getElem h
theorem gEM {α β:Type} {f:α→β} {l:List α} {i:Nat}:(l.map f)[i]?=Option.map f l[i]?:=List.getElem?_map ..
theorem mGE {α:Type} {l:List α} {i:Nat} {a:α} (h:l[i]?=some a):a∈l:=List.mem_of_getElem? h
theorem mCS {α:Type} {a:α} {l:List α}:a∈a::l:=List.mem_cons_self
theorem mCM {α:Type} (y:α) {a:α} {l:List α} (h:a∈l):a∈y::l:=List.mem_cons_of_mem y h
theorem mAp {α:Type} {a:α} {s t:List α}:a∈s++t↔a∈s∨a∈t:=List.mem_append
theorem mSg {α:Type} {a b:α}:a∈[b]↔a=b:=List.mem_singleton
theorem oMS {α β:Type} {f:α→β} {x:Option α} {b:β}:x.map f=some b↔∃ a,x=some a∧f a=b:=Option.map_eq_some_iff
theorem nMN {α:Type} {a:α}:a∉([]:List α):=List.not_mem_nil
theorem tAO {α:Type} {l:List α} {i:Nat}:l.take (i+1)=l.take i++l[i]?.toList:=List.take_add_one
theorem lAp {α:Type} {l m:List α}:(l++m).length=l.length+m.length:=List.length_append ..
theorem lTk {α:Type} {i:Nat} {l:List α}:(l.take i).length=min i l.length:=List.length_take ..
set_option compiler.extract_closed false
set_option Elab.async false
set_option linter.all false
set_option maxRecDepth 100000
namespace L2
open PySem PySem.Spec PyProof.Rows
theorem _root_.i7:0≤PySem.sizeLine:=by decide
theorem _root_.jd:1≤PySem.sizeLine:=by decide
theorem _root_.bA:2≤PySem.sizeLine:=by decide
theorem _root_.fN:3≤PySem.sizeLine:=by decide
theorem _root_.tS:4≤PySem.sizeLine:=by decide
theorem _root_.yj:5≤PySem.sizeLine:=by decide
theorem _root_.xZ:7≤PySem.sizeLine:=by decide
def aB (s:Stmt) (j:Nat):Stmt:=match s with
  | .ClassDef _ _ _ body _ _ _ _ _ _ _=>body.getD j (.Pass ⟨0,0,0,0⟩)
  | _=>.Pass ⟨0,0,0,0⟩
def bK (s:Stmt):Arguments:=match s with
  | .FunctionDef _ a _ _ _ _ _ _ _ _=>a
  | _=>{posonlyargs:=[],args:=[],vararg:=none,kwonlyargs:=[],kw_defaults:=[],kwarg:=none,defaults:=[]}
def b9 (s:Stmt):List Stmt:=match s with
  | .FunctionDef _ _ b _ _ _ _ _ _ _=>b
  | _=>[]
def ak (s:Stmt):Scope:=match s with
  | .FunctionDef _ _ _ _ _ _ sc _ _ _=>sc
  | _=>{kind:=.function,names:=[],isGenerator:=false,isCoroutine:=false}
end L2
namespace K20
open PySem L2
def top (i:Nat):Stmt:=PySem.Challenge.pw_turnsame_k20_ops.main.body.getD i (.Pass ⟨0,0,0,0⟩)
def FT (l:List Value):Obj:={cls:=.type "tuple",data:=.seq l.toArray}
def FC (l:List Value):Obj:={cls:=.type "code",data:=.fields l.toArray}
def Fe (x:Str) (t:Nat) (v:Value):Str×Nat×Value:=(x,t,v)
def FD (P:Params) (l:List (Str×Nat×Value)) (ep:Nat):Obj:={cls:=.type "dict",data:=.dict (l.map fun x=>(⟨PyData.keyHash P x.1,.str x.1 x.2.1,x.2.2⟩:DictEntry)).toArray ep}
abbrev Row:=Str×Nat×Addr×List (Str×Nat)
def rX (e:Row):Str×Nat×Value:=Fe e.1 e.2.1 (.ref e.2.2.1)
def rW (e:Str×Nat×Addr):Str×Nat×Value:=Fe e.1 e.2.1 (.ref e.2.2)
def M0:Value:=.str "turnsame.cores" 256
def M1:Value:=.str "turnsame.values" 304
def M2:Value:=.str "turnsame.running" 425
def M3:Value:=.str "law_turnsame_k20_ops" 790
def FF (x q:Str) (st:Stmt) (m:Value) (c:Nat):Obj:={cls:=.type "function",data:=.func {name:=x,qualname:=q,params:=bK st,body:=.stmts (b9 st),scope:=ak st,globals:=3,closure:=[],defaults:=.none,kwdefaults:=.none,pyModule:=m,code:=.ref c}}
def FR (x q:Str) (st:Stmt) (m:Value) (t l g a e:Nat) (b:Bool):Fg :=
  [(a+(if b=true then 5 else 3),FC ([.str x t,.str q (t+1),.str "/claim/cut.py" (t+2),.int l 0,.int g 0,.int 0 0,.int 0 0,.int 3 0,.ref a,.bool true,.int 181 0,.ref (a+1),.none]++(if b=true then [.ref (a+2),.ref (a+3),.ref (a+4)] else [.none,.none,.ref (a+2)])++[.int e 0,.int l 0,.str "/claim/cut.py" (e+1)])),
   (a+(if b=true then 6 else 4),FF x q st m (a+(if b=true then 5 else 3)))]
def FI:List (Str×Nat×Addr):=[("number",704,237),("name",706,244),("let",708,251),("var",710,251),("set",712,258),("do",714,265),("if",716,272),("while",718,279),("each",720,286),("say",722,293),("fault",724,300),("op",726,307),("new",728,314),("get",730,321),("fun",732,328),("apply",734,335),("call",736,342)]
def SL:List Row:=[("number",187,16,[("number",188)]),("name",190,17,[("meant",191)]),("let",193,18,[("bound",194),("one",195),("one",196)]),("var",198,19,[("bound",199),("one",200),("one",201)]),("set",203,20,[("meant",204),("one",205)]),("do",207,21,[("many",208)]),("if",210,22,[("one",211),("one",212),("one",213)]),("while",215,23,[("one",216),("one",217)]),("each",219,24,[("bound",220),("one",221),("one",222)]),("say",224,25,[("one",225)]),("fault",227,26,[("word",228)]),("op",230,27,[("op",231),("many",232)]),("new",234,28,[("place",235),("many",236)]),("get",238,29,[("place",239),("place",240),("one",241)]),("fun",243,30,[("bounds",244),("one",245)]),("apply",247,31,[("one",248),("many",249)]),("call",251,32,[("place",252),("many",253)])]
def GM:Obj:={cls:=.type "type",data:=.cls {name:="Made",bases:=[.type "object"],mro:=[.ref 81,.type "object"],ns:=80,qualname:="Made"},slots:=#[none,none,some (.str "Made" 310),some (.str "Made" 318),some (.builtin "object.__new__"),some (.bool true)]}
def GF:Obj:={cls:=.type "type",data:=.cls {name:="Fun",bases:=[.type "object"],mro:=[.ref 102,.type "object"],ns:=101,qualname:="Fun"},slots:=#[none,none,some (.str "Fun" 341),some (.str "Fun" 349),some (.builtin "object.__new__"),some (.bool true)]}
def GC:Obj:={cls:=.type "type",data:=.cls {name:="Machine",bases:=[.type "object"],mro:=[.ref 212,.type "object"],ns:=211,qualname:="Machine"},slots:=#[none,none,some (.str "Machine" 427),some (.str "Machine" 435),some (.builtin "object.__new__"),some (.bool true)]}
def KF:Params→Fg:=fun P=>[(3,FD P [Fe "__name__" 165 (.str "law_turnsame_k20_ops" 790),Fe "__doc__" 166 (.none),Fe "__package__" 167 (.none),Fe "__loader__" 168 (.builtin "__main__.__loader__#opaque"),Fe "__spec__" 169 (.none),Fe "__annotations__" 170 (.ref 6),Fe "__builtins__" 171 (.ref 4),Fe "__file__" 173 (.str "/claim/cut.py" 172),Fe "__cached__" 174 (.none),Fe "SLOTS" 255 (.ref 15),Fe "children_of" 267 (.ref 39),Fe "TurnError" 287 (.ref 49),Fe "NoOpen" 303 (.ref 62),Fe "HALF" 307 (.int 32768 306),Fe "WHOLE" 309 (.int 65536 308),Fe "Made" 340 (.ref 81),Fe "Fun" 373 (.ref 102),Fe "worth" 380 (.ref 113),Fe "look" 387 (.ref 120),Fe "row_of" 394 (.ref 127),Fe "taken_in" 401 (.ref 134),Fe "of_worths" 410 (.ref 141),Fe "op_fault" 418 (.ref 148),Fe "op_value" 424 (.ref 153),Fe "Machine" 514 (.ref 212),Fe "bound_names" 525 (.ref 223),Fe "box_of" 533 (.ref 230),Fe "finish_number" 543 (.ref 237),Fe "finish_name" 554 (.ref 244),Fe "finish_let" 564 (.ref 251),Fe "finish_set" 575 (.ref 258),Fe "finish_do" 585 (.ref 265),Fe "finish_if" 595 (.ref 272),Fe "finish_while" 605 (.ref 279),Fe "finish_each" 617 (.ref 286),Fe "finish_say" 627 (.ref 293),Fe "finish_fault" 637 (.ref 300),Fe "finish_op" 648 (.ref 307),Fe "finish_new" 658 (.ref 314),Fe "finish_get" 669 (.ref 321),Fe "finish_fun" 679 (.ref 328),Fe "finish_apply" 690 (.ref 335),Fe "finish_call" 703 (.ref 342),Fe "FINISHERS" 738 (.ref 343),Fe "first_things" 745 (.ref 350),Fe "do_next" 760 (.ref 357),Fe "opened" 774 (.ref 364),Fe "run" 789 (.ref 371),Fe "_law_box" 800 (.ref 378),Fe "_law_take" 810 (.ref 385),Fe "_law_number" 818 (.ref 392),Fe "_law_thing" 824 (.ref 397),Fe "_law_worth" 831 (.ref 404),Fe "_law_look" 837 (.ref 409),Fe "_law_in" 844 (.ref 416),Fe "_law_op" 855 (.ref 423),Fe "_law_children" 862 (.ref 430),Fe "_law_with" 871 (.ref 437),Fe "_law_binds" 878 (.ref 444),Fe "_law_canon" 884 (.ref 449),Fe "_law_function" 895 (.ref 456),Fe "_law_is_run" 905 (.ref 463),Fe "_law_row" 911 (.ref 468),Fe "_law_got" 919 (.ref 475),Fe "_law_applied" 930 (.ref 482),Fe "_law_flow" 936 (.ref 487),Fe "law" 952 (.ref 494)] 67),(15,FD P (SL.map rX) 17),(343,FD P (FI.map rW) 17),(81,GM),(80,FD P [Fe "__module__" 317 (.str "turnsame.values" 304),Fe "__firstlineno__" 321 (.int 19 320),Fe "__init__" 330 (.ref 78),Fe "__static_attributes__" 333 (.ref 79),Fe "__dict__" 335 (.ref 82),Fe "__weakref__" 337 (.ref 83),Fe "__doc__" 338 (.none)] 4),(102,GF),(101,FD P [Fe "__module__" 348 (.str "turnsame.values" 304),Fe "__firstlineno__" 352 (.int 24 351),Fe "__init__" 362 (.ref 99),Fe "__static_attributes__" 366 (.ref 100),Fe "__dict__" 368 (.ref 103),Fe "__weakref__" 370 (.ref 104),Fe "__doc__" 371 (.none)] 4),(212,GC),(211,FD P [Fe "__module__" 434 (.str "turnsame.running" 425),Fe "__firstlineno__" 438 (.int 67 437),Fe "__init__" 447 (.ref 167),Fe "wait" 458 (.ref 174),Fe "begin" 467 (.ref 181),Fe "tell" 475 (.ref 188),Fe "take" 485 (.ref 195),Fe "fault" 493 (.ref 202),Fe "tick" 500 (.ref 209),Fe "__static_attributes__" 507 (.ref 210),Fe "__dict__" 509 (.ref 213),Fe "__weakref__" 511 (.ref 214),Fe "__doc__" 512 (.none)] 4)]++SL.map (fun e=>(e.2.2.1,FT (e.2.2.2.map fun s=>.str s.1 s.2)))++(
  FR "children_of" "children_of" (top 2) M0 258 3 1 33 265 true ++
  FR "worth" "worth" (top 11) M1 374 30 1 107 378 true ++
  FR "look" "look" (top 12) M1 381 32 1 114 385 true ++
  FR "row_of" "row_of" (top 13) M1 388 34 1 121 392 true ++
  FR "taken_in" "taken_in" (top 14) M1 395 36 1 128 399 true ++
  FR "of_worths" "of_worths" (top 15) M1 402 38 3 135 408 true ++
  FR "op_fault" "op_fault" (top 16) M1 411 50 2 142 416 true ++
  FR "op_value" "op_value" (top 17) M1 419 56 2 149 422 false ++
  FR "bound_names" "bound_names" (top 20) M2 515 101 3 217 523 true ++
  FR "box_of" "box_of" (top 21) M2 526 105 2 224 531 true ++
  FR "finish_number" "finish_number" (top 22) M2 534 109 4 231 541 true ++
  FR "finish_name" "finish_name" (top 23) M2 544 111 4 238 552 true ++
  FR "finish_do" "finish_do" (top 26) M2 576 120 4 259 583 true ++
  FR "finish_if" "finish_if" (top 27) M2 586 122 4 266 593 true ++
  FR "finish_each" "finish_each" (top 29) M2 606 130 4 280 615 true ++
  FR "finish_say" "finish_say" (top 30) M2 618 135 4 287 625 true ++
  FR "finish_op" "finish_op" (top 32) M2 638 140 4 301 646 true ++
  FR "finish_new" "finish_new" (top 33) M2 649 146 4 308 656 true ++
  FR "finish_get" "finish_get" (top 34) M2 659 148 4 315 667 true ++
  FR "finish_fun" "finish_fun" (top 35) M2 670 154 4 322 677 true ++
  FR "finish_apply" "finish_apply" (top 36) M2 680 156 4 329 688 true ++
  FR "first_things" "first_things" (top 39) M2 739 167 1 344 743 true ++
  FR "do_next" "do_next" (top 40) M2 746 173 1 351 758 true ++
  FR "opened" "opened" (top 41) M2 761 188 3 358 772 true ++
  FR "run" "run" (top 42) M2 775 194 4 365 787 true ++
  FR "_law_box" "_law_box" (top 44) M3 792 205 2 372 798 true ++
  FR "_law_take" "_law_take" (top 45) M3 801 210 2 379 808 true ++
  FR "_law_number" "_law_number" (top 46) M3 811 219 1 386 816 true ++
  FR "_law_thing" "_law_thing" (top 47) M3 819 226 1 393 822 false ++
  FR "_law_worth" "_law_worth" (top 48) M3 825 236 1 398 829 true ++
  FR "_law_look" "_law_look" (top 49) M3 832 238 1 405 835 false ++
  FR "_law_in" "_law_in" (top 50) M3 838 242 1 410 842 true ++
  FR "_law_op" "_law_op" (top 51) M3 845 244 3 417 853 true ++
  FR "_law_children" "_law_children" (top 52) M3 856 260 1 424 860 true ++
  FR "_law_with" "_law_with" (top 53) M3 863 272 2 431 869 true ++
  FR "_law_binds" "_law_binds" (top 54) M3 872 283 1 438 876 true ++
  FR "_law_canon" "_law_canon" (top 55) M3 879 287 3 445 882 false ++
  FR "_law_function" "_law_function" (top 56) M3 885 302 3 450 893 true ++
  FR "_law_is_run" "_law_is_run" (top 57) M3 896 307 2 457 903 true ++
  FR "_law_row" "_law_row" (top 58) M3 906 313 3 464 909 false ++
  FR "_law_got" "_law_got" (top 59) M3 912 316 2 469 917 true ++
  FR "_law_applied" "_law_applied" (top 60) M3 920 320 3 476 928 true ++
  FR "_law_flow" "_law_flow" (top 61) M3 931 326 2 483 934 false ++
  FR "law" "law" (top 62) M3 937 332 1 488 950 true ++
  FR "__init__" "Made.__init__" (aB (top 9) 0) M1 322 21 3 72 328 true ++
  FR "__init__" "Fun.__init__" (aB (top 10) 0) M1 353 26 4 93 360 true ++
  FR "__init__" "Machine.__init__" (aB (top 19) 0) M2 439 69 3 161 445 true ++
  FR "wait" "Machine.wait" (aB (top 19) 1) M2 448 77 5 168 456 true ++
  FR "begin" "Machine.begin" (aB (top 19) 2) M2 459 80 3 175 465 true ++
  FR "tell" "Machine.tell" (aB (top 19) 3) M2 468 83 2 182 473 true ++
  FR "take" "Machine.take" (aB (top 19) 4) M2 476 86 2 189 483 true ++
  FR "fault" "Machine.fault" (aB (top 19) 5) M2 486 92 2 196 491 true ++
  FR "tick" "Machine.tick" (aB (top 19) 6) M2 494 95 1 203 498 true)
def KA:List Addr:=[3,15,343,81,80,102,101,212,211,16,17,18,19,20,21,22,23,24,25,26,27,28,29,30,31,32,38,39,112,113,119,120,126,127,133,134,140,141,147,148,152,153,222,223,229,230,236,237,243,244,264,265,271,272,285,286,292,293,306,307,313,314,320,321,327,328,334,335,349,350,356,357,363,364,370,371,377,378,384,385,391,392,396,397,403,404,408,409,415,416,422,423,429,430,436,437,443,444,448,449,455,456,462,463,467,468,474,475,481,482,486,487,493,494,77,78,98,99,166,167,173,174,180,181,187,188,194,195,201,202,208,209]
def QV:Program:=PySem.W.view PySem.Challenge.pw_turnsame_k20_ops [62]
def LZ:List Str:=List.map Str.ofString ["SLOTS","children_of","TurnError","NoOpen","HALF","WHOLE","Made","Fun","worth","look","row_of","taken_in","of_worths","op_fault","op_value","Machine","bound_names","box_of","finish_number","finish_name","finish_let","finish_set","finish_do","finish_if","finish_while","finish_each","finish_say","finish_fault","finish_op","finish_new","finish_get","finish_fun","finish_apply","finish_call","FINISHERS","first_things","do_next","opened","run","_law_box","_law_take","_law_number","_law_thing","_law_worth","_law_look","_law_in","_law_op","_law_children","_law_with","_law_binds","_law_canon","_law_function","_law_is_run","_law_row","_law_got","_law_applied","_law_flow"]
def HK:PySem.W.Hook:=PySem.W.kHook KF KA (fun _=>by kernel_rfl)
theorem kK {α β γ:Type} {o:Option α} {f:α→β} {g:α→γ} {b:β} {c:γ} (h1:o.map f=some b) (h2:o.map g=some c):o.map (fun s=>(f s,g s))=some (b,c):=by
 cases o with
 | none=>cases h1
 | some x=>rw[Option.map_some] at h1 h2 ⊢;cases h1;cases h2;rfl
def jk (N:Nat) (w:World) (b:Bool):Option Shared:=(PySem.W.fencedOpening treeTable PySem.Challenge.pw_turnsame_k20_ops w N).bind fun s₀=>PySem.W.topFrom treeTable PySem.Challenge.pw_turnsame_k20_ops (w.withFollow "special-get-raises" b) N s₀
theorem pi {q:Program} {loose:List Str} {Xt:Shared→Bool} {α:Type} {Yf:Shared→α} {Ya:World→α} {N:Nat} {g0:Bool}
 (h1:∀ (w:World) (b:Bool),(jk N w b).map (PySem.W.openSeen q loose (importedModules PySem.Challenge.pw_turnsame_k20_ops.main.body) Xt g0)=some (PySem.W.openGood q loose))
 (h2:∀ (w:World) (b:Bool),(jk N w b).map Yf=some (Ya (w.withFollow "special-get-raises" b))):PySem.W.LeftO PySem.Challenge.pw_turnsame_k20_ops q loose Xt Yf Ya N g0 :=
 PySem.W.LeftO.of_split "special-get-raises" fun w=>by
  have a:=kK (h1 w false) (h2 w false);have b:=kK (h1 w true) (h2 w true);unfold jk at a b;cases e:PySem.W.fencedOpening treeTable PySem.Challenge.pw_turnsame_k20_ops w N with
  | none=>rw[e] at a;cases a
  | some s₀ =>
   rw[e,Option.bind_some] at a b;rw[Option.map_some,a,b]
def XT (s:Shared):Bool:=PySem.W.xlAt QV [] s&&PySem.W.recOk (PySem.W.RowW.records (PySem.W.OpenRow.toRowW (PySem.W.OpenLaw.row PySem.Challenge.rw_turnsame_k20_ops))) s
set_option maxRecDepth 100000 in
theorem xD:∀ w:World,(jk 7056 w false).map (PySem.W.openSeen QV LZ (importedModules PySem.Challenge.pw_turnsame_k20_ops.main.body) XT true)=some (PySem.W.openGood QV LZ):=fun w=>by kernel_rfl
set_option maxRecDepth 100000 in
theorem xB:∀ w:World,(jk 7056 w false).map (PySem.W.Hook.obs HK)=some (PySem.W.Hook.val HK (w.withFollow "special-get-raises" false)):=fun w=>by kernel_rfl
set_option maxRecDepth 100000 in
theorem xC:∀ w:World,(jk 7056 w true).map (PySem.W.openSeen QV LZ (importedModules PySem.Challenge.pw_turnsame_k20_ops.main.body) XT true)=some (PySem.W.openGood QV LZ):=fun w=>by kernel_rfl
set_option maxRecDepth 100000 in
theorem xA:∀ w:World,(jk 7056 w true).map (PySem.W.Hook.obs HK)=some (PySem.W.Hook.val HK (w.withFollow "special-get-raises" true)):=fun w=>by kernel_rfl
end K20
section
open PySem PySem.W PyProof.Rows
set_option maxRecDepth 100000 in
set_option maxHeartbeats 0 in
theorem K20.preH (hc:∀ d:DefRec,d.name=Str.ofString "law"→d.params.defaults=[]→WalkO K20.QV K20.LZ (XL K20.QV []) (Hook.says K20.HK) (OpenRow.toRowW (OpenLaw.row PySem.Challenge.rw_turnsame_k20_ops)) d [] (fun f vs=>PySem.call f vs)):PySem.Challenge.rw_turnsame_k20_ops.Holds:=by
 w_on;o_law
 refine holds_open (q:=K20.QV) (loose:=K20.LZ) (Xt:=K20.XT) (XP:=XL K20.QV []) (Yf:=Hook.obs K20.HK) (Ya:=Hook.val K20.HK) (YP:=Hook.says K20.HK) (N:=7056) ?hl (Hook.of K20.HK) (Hook.keeps K20.HK) (fun s e=>xl_of s (Bool.and_eq_true_iff.mp e).1) XL.keeps (by rfl) (by rfl) (by rfl) (fun s e=>recFacts_of (Bool.and_eq_true_iff.mp e).2) (by rfl) (by first | assumption | decide +kernel) (by decide +kernel) ⟨rfl,rfl,rfl,rfl,rfl,by decide +kernel⟩ ?hw ?hc
 case hl=>exact K20.pi (fun w b=>by cases b;exact K20.xD w;exact K20.xC w) (fun w b=>by cases b;exact K20.xB w;exact K20.xA w)
 case hw=>w_witness2
 exact hc _ rfl rfl
end
namespace L2
open PySem PySem.Spec PyProof.Rows
abbrev Key:=Sum Int Str
def gY:Key→Value→Bool
  | .inl k,v=>Value.isInt k v
  | .inr x,v=>Value.isStrOf x v
def xv (w:World):Key→Int
  | .inl k=>hashInt k
  | .inr x=>hashStr w x
theorem b8:∀ {k:Key} {v:Value},gY k v=true→(∃ i t,k=Sum.inl i∧v=Value.int i t)∨(∃ x t,k=Sum.inr x∧v=Value.str x t)
 | .inl i,v,h=>by
  obtain⟨t,e⟩:=Value.isInt_shape (k:=i) (v:=v) h;exact .inl ⟨i,t,rfl,e⟩
 | .inr x,v,h=>by
  obtain⟨t,e⟩:=Value.isStrOf_shape (x:=x) (v:=v) h;exact .inr ⟨x,t,rfl,e⟩
theorem lx (i:Int) (t:Tok):gY (.inl i) (.int i t)=true:=by simp[gY,Value.isInt]
theorem lw (x:Str) (t:Tok):gY (.inr x) (.str x t)=true:=by simp[gY,Value.isStrOf]
theorem sW (a b:Int):decide ((Sum.inl a:Key)=Sum.inl b)=(a==b):=by
 by_cases e:a=b
 · subst e;simp
 · have h:¬ (Sum.inl a:Key)=Sum.inl b:=fun q=>e (Sum.inl.inj q);rw[decide_eq_false h];exact (beq_eq_false_iff_ne.mpr e).symm
theorem sT (a b:Str):decide ((Sum.inr a:Key)=Sum.inr b)=decide (a=b):=by
 by_cases e:a=b
 · subst e;simp
 · have h:¬ (Sum.inr a:Key)=Sum.inr b:=fun q=>e (Sum.inr.inj q);rw[decide_eq_false h,decide_eq_false e]
theorem sV (a:Int) (b:Str):decide ((Sum.inl a:Key)=Sum.inr b)=false:=decide_eq_false (fun q=>nomatch q)
theorem sU (a:Str) (b:Int):decide ((Sum.inr a:Key)=Sum.inl b)=false:=decide_eq_false (fun q=>nomatch q)
def aL (prog:Program) (w:World):PySem.KeyKind prog w Key where
  is:=gY
  hash:=xv w
  inj:=fun v a b ha hb=>by
    rcases b8 ha with ⟨i,t,rfl,rfl⟩ | ⟨x,t,rfl,rfl⟩
    · rcases b8 hb with ⟨j,u,rfl,e⟩ | ⟨y,u,rfl,e⟩
      · injection e with e1 _;rw[e1]
      · exact nomatch e
    · rcases b8 hb with ⟨j,u,rfl,e⟩ | ⟨y,u,rfl,e⟩
      · exact nomatch e
      · injection e with e1 _;rw[e1]
  byValue:=fun k v h=>by
    rcases b8 h with ⟨i,t,rfl,rfl⟩ | ⟨x,t,rfl,rfl⟩ <;> rfl
  pyHash:=fun hv h=>by
    rcases b8 hv with ⟨i,t,rfl,rfl⟩ | ⟨x,t,rfl,rfl⟩
    · exact wpAny_pyHash_int h
    · exact wpAny_pyHash_str h
  eqBool:=fun hu hv h=>by
    rcases b8 hu with ⟨i,t,rfl,rfl⟩ | ⟨x,t,rfl,rfl⟩
    · rcases b8 hv with ⟨j,u,rfl,rfl⟩ | ⟨y,u,rfl,rfl⟩
      · rw[sW] at h;exact wpAny_eqBool_int h
      · rw[sV] at h;exact SeqAt.EqAt.int_str i t y u _ _ _ _ h
    · rcases b8 hv with ⟨j,u,rfl,rfl⟩ | ⟨y,u,rfl,rfl⟩
      · rw[sU] at h;exact SeqAt.EqAt.str_int x t j u _ _ _ _ h
      · rw[sT] at h;exact wpAny_eqBool_str h
  «strs»:=fun k x t v h=>by
    rcases b8 h with ⟨i,u,rfl,e⟩ | ⟨y,u,rfl,e⟩
    · exact nomatch e
    · injection e with e1 _
      subst e1;cases v <;> rfl
theorem iS (prog:Program) (w:World) (i:Int) (t:Tok):(aL prog w).is (.inl i) (.int i t)=true:=lx i t
theorem dg (prog:Program) (w:World) (x:Str) (t:Tok):(aL prog w).is (.inr x) (.str x t)=true:=lw x t
inductive V where
  | non | bl (b:Bool) | int (i:Int) | str (x:Str) | byt (b:Array UInt8) | flt (b:UInt64) | ref (a:Addr) | ty (n:String)
  deriving DecidableEq
def aH:V→Value→Prop
  | .non,u=>u=Value.none
  | .bl b,u=>u=Value.bool b
  | .int i,u=>∃ t,u=Value.int i t
  | .str x,u=>∃ t,u=Value.str x t
  | .byt b,u=>∃ t,u=Value.bytes b t
  | .flt b,u=>∃ t,u=Value.float b t
  | .ref a,u=>u=Value.ref a
  | .ty n,u=>u=Value.type n
abbrev ax:List V→List Value→Prop:=Paired aH
theorem ax.length {xs:List V} {us:List Value} (r:ax xs us):xs.length=us.length:=Paired.length r
theorem ax.get:∀ {xs:List V} {us:List Value} {i:Nat} {x:V},ax xs us→xs[i]?=some x→∃ u,us[i]?=some u∧aH x u:=by
 intro xs us i x h
 induction h generalizing i with
 | nil=>intro e;simp at e
 | cons r t ih =>
  intro e;cases i with
  | zero=>cases e;exact⟨_,rfl,r⟩
  | succ i=>exact ih e
theorem ax.set {x:V} {u:Value} (r:aH x u):∀ {xs:List V} {us:List Value} (i:Nat),ax xs us→ax (xs.set i x) (us.set i u)
 | _,_,_,.nil=>.nil
 | _,_,0,.cons _ t=>.cons r t
 | _,_,i+1,.cons q t=>.cons q (ax.set r i t)
theorem ax.append:∀ {xs ys:List V} {us ws:List Value},ax xs us→ax ys ws→ax (xs++ys) (us++ws):=by
 intro xs ys us ws h z
 induction h with
 | nil=>exact z
 | cons r t ih=>exact .cons r ih
theorem ax.take:∀ {xs:List V} {us:List Value} (n:Nat),ax xs us→ax (xs.take n) (us.take n)
 | _,_,0,_=>.nil
 | _,_,_+1,.nil=>.nil
 | _,_,n+1,.cons r t=>.cons r (ax.take n t)
theorem ax.drop:∀ {xs:List V} {us:List Value} (n:Nat),ax xs us→ax (xs.drop n) (us.drop n)
 | _,_,0,r=>r
 | _,_,_+1,.nil=>.nil
 | _,_,n+1,.cons _ t=>ax.drop n t
def dn:Option V→Option Value→Prop
  | some v,some u=>aH v u
  | none,none=>True
  | _,_=>False
def KV {κ:Type}:List (κ×V)→List (κ×Value)→Prop:=Paired fun (p:κ×V) (q:κ×Value)=>p.1=q.1∧aH p.2 q.2
def kV:Key→V
  | .inl i=>.int i
  | .inr x=>.str x
inductive HO where
    | lst (xs:List V)
    | tup (xs:List V)
    | dK (kvs:List (Key×V)) | dT (kvs:List (List Key×V))
    | set (S:Int→Bool) (n:Nat)
    | ins (C dx:Addr) (fs:List (Str×V))
    | own (x:Addr)
    | xd (fs:List (Str×V))
    | met (f x:Addr)
    | rng (lo hi:Int)
    | frz (o:Obj) (u:HO)
    | tbl (ps:Array Value)
    | ext (φ:Heap→Prop)
abbrev Hp:=Addr→Option HO
def upd (H:Hp) (a:Addr) (o:HO):Hp:=fun b=>if b=a then some o else H b
theorem pE {H:Hp} {a:Addr} {o:HO}:upd H a o a=some o:=by unfold upd;rw[if_pos rfl]
theorem a0 {H:Hp} {a b:Addr} {o:HO} (h:b≠a):upd H a o b=H b:=by unfold upd;rw[if_neg h]
theorem vQ {H:Hp} {a b:Addr} {o u:HO} (h:H a=some o) (h':H b=some u) (d:o≠u):a≠b:=by
 intro e;subst e;rw[h] at h';exact d (Option.some.inj h')
theorem ah {H:Hp} {a b:Addr} {o:HO} (h:H a=some o) (h':H b=none):a≠b:=by
 intro e;subst e;rw[h] at h';cases h'
section
variable (P:Program) (w:World)
def be (H:Hp) (h:Heap) (a:Addr):HO→Prop
  | .lst xs=>xs.length≤sizeLine∧∃ (its:List Value) (n:Nat),ax xs its∧h.get? a=some {cls:=.type "list",data:=.seq its.toArray n}
  | .tup xs=>xs.length≤sizeLine∧∃ its:List Value,ax xs its∧IsTup h a its.toArray
  | .dK kvs=>kvs.length≤sizeLine∧(a==sysModules)=false∧∃ vs,KV kvs vs∧h.DictOf (aL P w) a vs
  | .dT kvs=>kvs.length≤sizeLine∧(a==sysModules)=false∧∃ xs:List (List Key×Addr×Value),
      Paired (fun (p:List Key×V) (q:List Key×Addr×Value)=>p.1=q.1∧H q.2.1=some (.tup (p.1.map kV))∧aH p.2 q.2.2) kvs xs ∧
      ∃ o es ep,h.get? a=some o∧o.ExactDict∧o.data=.dict es ep∧es.toList=xs.map (entryOfKey (tupleKind (aL P w)))∧(xs.map (·.1)).Nodup
  | .set S n=>h.SetOf (intKind P w) a S n
  | .ins C dx fs=>H dx=some (.own a)∧fs.length≤1000∧dx≠a∧h.get? a=some (PySem.W.instObj C dx) ∧
      ∃ mA,h.Ns1 dx mA∧(∀ f,dn (fs.lookup f) (mA f))∧PySem.Within mA (fs.map (·.1))
  | .own _=>∃ o,h.get? a=some o
  | .xd fs=>∃ mA,h.Ns1 a mA∧∀ f,dn (fs.lookup f) (mA f)
  | .rng lo hi=>∃ t u v,h.get? a=some {cls:=.type "range",data:=.fields #[.int lo t,.int hi u,.int 1 v]}
  | .frz o u=>h.get? a=some o∧be H h a u
  | .tbl ps=>h.get? a=some {cls:=.none,data:=.fields ps}
  | .met f x=>h.get? a=some (PySem.W.methodObj (.ref f) (.ref x))
  | .ext φ=>φ h∧(∃ o,h.get? a=some o)∧∀ h1 h2:Heap,φ h1→(∀ o,h1.get? a=some o→h2.get? a=some o)→φ h2
def HOk (H:Hp) (h:Heap):Prop:=∀ a o,H a=some o→be P w H h a o
end
section
variable {P:Program} {w:World} {H H':Hp} {h h':Heap} {a:Addr} {o:HO}
theorem be.lt (x:be P w H h a o):a<h.objs.size:=by
 cases o with
 | lst xs=>obtain⟨_,_,_,_,e⟩:=x;exact Heap.lt_size e
 | tup xs=>obtain⟨_,_,_,p⟩:=x;exact p.lt
 | dK kvs=>obtain⟨_,_,_,_,o,_,_,e,_⟩:=x;exact Heap.lt_size e
 | dT kvs=>obtain⟨_,_,_,_,o,_,_,e,_⟩:=x;exact Heap.lt_size e
 | set S n=>obtain⟨o,_,_,_,e,_⟩:=x;exact Heap.lt_size e
 | ins C dx fs=>obtain⟨_,_,_,e,_⟩:=x;exact Heap.lt_size e
 | own y=>obtain⟨_,e⟩:=x;exact Heap.lt_size e
 | xd fs=>obtain⟨_,⟨_,_,_,e,_⟩,_⟩:=x;exact Heap.lt_size e
 | rng lo hi=>obtain⟨_,_,_,e⟩:=x;exact Heap.lt_size e
 | frz ob u=>obtain⟨e,_⟩:=x;exact Heap.lt_size e
 | tbl ps=>exact Heap.lt_size (show h.get? a=some _ from x)
 | met f y=>exact Heap.lt_size (show h.get? a=some _ from x)
 | ext φ=>obtain⟨_,⟨_,e⟩,_⟩:=x;exact Heap.lt_size e
theorem Paired.mapP {α β:Type} {F G:α→β→Prop}:∀ {l₁:List α} {l₂:List β},Paired F l₁ l₂→(∀ a b,F a b→G a b)→Paired G l₁ l₂:=by
 intro l₁ l₂ h f
 induction h with
 | nil=>exact .nil
 | cons r t ih=>exact .cons (f _ _ r) ih
theorem be.stay (x:be P w H h a o) (k:∀ b u,(b=a∨H b=some (.own a))→h.get? b=some u→h'.get? b=some u)
 (ho:∀ b,H b=some (.own a)→H' b=some (.own a)) (ht:∀ b xs,H b=some (.tup xs)→H' b=some (.tup xs)):be P w H' h' a o:=by
 induction o with
 | lst xs=>obtain⟨z,its,n,r,e⟩:=x;exact⟨z,its,n,r,k _ _ (.inl rfl) e⟩
 | tup xs=>obtain⟨z,its,r,ob,e,c⟩:=x;exact⟨z,its,r,ob,k _ _ (.inl rfl) e,c⟩
 | dK kvs=>obtain⟨z,y,vs,r,ob,es,ep,e,c⟩:=x;exact⟨z,y,vs,r,ob,es,ep,k _ _ (.inl rfl) e,c⟩
 | dT kvs =>
  obtain⟨z,y,xs,r,ob,es,ep,e,c⟩:=x;exact⟨z,y,xs,Paired.mapP r fun p q z=>⟨z.1,ht _ _ z.2.1,z.2.2⟩,ob,es,ep,k _ _ (.inl rfl) e,c⟩
 | set S n=>obtain⟨ob,es,ep,t,e,c⟩:=x;exact⟨ob,es,ep,t,k _ _ (.inl rfl) e,c⟩
 | ins C dx fs =>
  obtain⟨d,z,ne,e,mA,⟨od,es,ep,e2,c⟩,r⟩:=x;exact⟨ho _ d,z,ne,k _ _ (.inl rfl) e,mA,⟨od,es,ep,k _ _ (.inr d) e2,c⟩,r⟩
 | own y=>obtain⟨ob,e⟩:=x;exact⟨ob,k _ _ (.inl rfl) e⟩
 | xd fs=>obtain⟨mA,⟨od,es,ep,e,c⟩,r⟩:=x;exact⟨mA,⟨od,es,ep,k _ _ (.inl rfl) e,c⟩,r⟩
 | rng lo hi=>obtain⟨t,u,v,e⟩:=x;exact⟨t,u,v,k _ _ (.inl rfl) e⟩
 | frz ob u ih=>obtain⟨e,q⟩:=x;exact⟨k _ _ (.inl rfl) e,ih q⟩
 | tbl ps =>
  have e:h.get? a=some {cls:=.none,data:=.fields ps}:=x;show h'.get? a=some {cls:=.none,data:=.fields ps};exact k a _ (.inl rfl) e
 | met f y =>
  have e:h.get? a=some (PySem.W.methodObj (.ref f) (.ref y)):=x;show h'.get? a=some (PySem.W.methodObj (.ref f) (.ref y));exact k a _ (.inl rfl) e
 | ext φ=>obtain⟨p,⟨o,e⟩,st⟩:=x;exact⟨st _ _ p fun o q=>k _ _ (.inl rfl) q,⟨o,k _ _ (.inl rfl) e⟩,st⟩
theorem HOk.lt (x:HOk P w H h) (e:H a=some o):a<h.objs.size:=(x a o e).lt
theorem HOk.fresh (x:HOk P w H h) (e:h.objs.size≤a):H a=none:=by
 cases q:H a with
 | none=>rfl
 | some u=>exact absurd (Nat.lt_of_lt_of_le (x.lt q) e) (Nat.lt_irrefl _)
theorem HOk.kept (x:HOk P w H h) (k:∀ b u,h.get? b=some u→h'.get? b=some u):HOk P w H h':=fun a o e =>
 (x a o e).stay (fun b u _ q=>k b u q) (fun _ q=>q) fun _ _ q=>q
theorem HOk.laid (x:HOk P w H h) (k:∀ b u,h.get? b=some u→h'.get? b=some u) (hp:h.objs.size≤a) (new:be P w (upd H a o) h' a o):HOk P w (upd H a o) h':=fun b u e=>by
 have hn:=x.fresh hp;by_cases hb:b=a
 · subst hb;rw[pE] at e;cases e;exact new
 · rw[a0 hb] at e;exact (x b u e).stay (fun c v _ q=>k c v q) (fun c q=>by rw[a0 (ah q hn)];exact q) fun c xs q=>by rw[a0 (ah q hn)];exact q
end
def Rd (H:Hp) (a:Addr) (u:HO):Prop:=H a=some u∨∃ o,H a=some (.frz o u)
theorem Rd.ok {P:Program} {w:World} {H:Hp} {h:Heap} {a:Addr} {u:HO} (r:Rd H a u) (x:HOk P w H h):be P w H h a u:=by
 rcases r with r | ⟨o,r⟩
 · exact x a u r
 · obtain⟨_,q⟩:=x a _ r;exact q
def Mut:Option HO→Prop
  | some (.lst _)=>True
  | some (.dK _)=>True
  | some (.dT _)=>True
  | some (.set _ _)=>True
  | some (.ins _ _ _)=>True
  | some (.ext _)=>True
  | _=>False
section
variable {P:Program} {w:World} {H:Hp} {h h':Heap} {x e:Addr} {o':HO}
theorem HOk.write (ok:HOk P w H h) (mu:Mut (H x)) (he:e=x∨H e=some (.own x)) (k:∀ b u,b≠e→h.get? b=some u→h'.get? b=some u) (heo:∃ u,h'.get? e=some u)
 (new:be P w (upd H x o') h' x o'):HOk P w (upd H x o') h':=fun b u q=>by
 have nown:∀ c y,H c=some (.own y)→c≠x:=fun c y r z=>by subst z;rw[r] at mu;exact mu
 have ntup:∀ c xs,H c=some (.tup xs)→c≠x:=fun c xs r z=>by subst z;rw[r] at mu;exact mu
 by_cases hb:b=x
 · subst hb;rw[pE] at q;cases q;exact new
 · rw[a0 hb] at q;by_cases hbe:b=e
   · have q':H b=some (.own x):=by
      rcases he with z | z
      · exact absurd (hbe.trans z) hb
      · rw[hbe];exact z
     rw[q] at q';cases q';obtain⟨v,hv⟩:=heo;exact⟨v,by rw[hbe];exact hv⟩
   · refine (ok b u q).stay (fun c v hc r=>k c v ?_ r) (fun c r=>by rw[a0 (nown c b r)];exact r) fun c xs r=>by rw[a0 (ntup c xs r)];exact r
     rcases hc with rfl | hc
     · exact hbe
     · rintro rfl
       rcases he with z | z
       · exact nown c b hc z
       · rw[hc] at z;cases z;exact hb rfl
end
structure Un (fs ex:List Addr) (H H':Hp) (h h':Heap):Prop where
  keep:∀ b o,h.get? b=some o→H b=none→b∉fs→b∉ex→h'.get? b=some o
  slot:∀ b o,h.get? b=some o→H b=none→b∈fs→b∉ex→∃ sl,h'.get? b=some {o with slots:=sl}
  free:∀ b o,h.get? b=some o→H b=none→b∉ex→H' b=none
  there:∀ b o,h.get? b=some o→b∉ex→∃ o',h'.get? b=some o'
  tups:∀ b xs,H b=some (.tup xs)→H' b=some (.tup xs)
  frzs:∀ b o u,H b=some (.frz o u)→H' b=some (.frz o u)
  tbls:∀ b ps,H b=some (.tbl ps)→∃ more,H' b=some (.tbl (ps++more))
section
variable {fs fs' ex ex':List Addr} {H H1 H2:Hp} {h h1 h2 h':Heap} {a x e:Addr} {o:HO}
theorem Un.any (u:Un fs ex H H1 h h1) {b:Addr} {ob:Obj} (q:h.get? b=some ob) (n:H b=none) (hx:b∉ex):∃ sl,h1.get? b=some {ob with slots:=sl}:=by
 by_cases hb:b∈fs
 · exact u.slot b ob q n hb hx
 · exact⟨ob.slots,u.keep b ob q n hb hx⟩
theorem Un.kept (k:∀ b u,h.get? b=some u→h'.get? b=some u):Un fs ex H H h h' :=
 ⟨fun b ob q _ _ _=>k b ob q,fun b ob q _ _ _=>⟨ob.slots,k b ob q⟩,fun _ _ _ n _=>n,fun b ob q _=>⟨ob,k b ob q⟩,fun _ _ q=>q,fun _ _ _ q=>q,fun _ ps q=>⟨#[],by rw[q];simp⟩⟩
theorem Un.refl:Un fs ex H H h h:=Un.kept fun _ _ q=>q
theorem Un.laid (k:∀ b u,h.get? b=some u→h'.get? b=some u) (hp:h.objs.size≤a) (hn:H a=none):Un fs ex H (upd H a o) h h' where
 keep:=fun b u q _ _ _=>k b u q
 slot:=fun b u q _ _ _=>⟨u.slots,k b u q⟩
 free:=fun b u q n _=>by rw[a0 (Nat.ne_of_lt (Nat.lt_of_lt_of_le (Heap.lt_size q) hp))];exact n
 there:=fun b u q _=>⟨u,k b u q⟩
 tups:=fun b xs q=>by rw[a0 (ah q hn)];exact q
 frzs:=fun b u xs q=>by rw[a0 (ah q hn)];exact q
 tbls:=fun b ps q=>⟨#[],by rw[a0 (ah q hn),q];simp⟩
theorem Un.write (mu:Mut (H x)) (he:e=x∨H e=some (.own x)) (k:∀ b u,b≠e→h.get? b=some u→h'.get? b=some u) (heo:∃ u,h'.get? e=some u):Un fs ex H (upd H x o) h h':=by
 have hx:∀ b,H b=none→b≠x:=fun b n z=>by subst z;rw[n] at mu;exact mu
 have hb:∀ b,H b=none→b≠e:=fun b n z=>by
  subst z
  rcases he with r | r
  · exact hx b n r
  · rw[n] at r;cases r
 have hm:∀ b u,H b=some u→¬ Mut (some u)→b≠x:=fun b u q nm z=>by subst z;rw[q] at mu;exact nm mu
 refine⟨fun b u q n _ _=>k b u (hb b n) q,fun b u q n _ _=>⟨u.slots,k b u (hb b n) q⟩,fun b u q n _=>by rw[a0 (hx b n)];exact n,fun b u q _=>?_,
   fun b xs q=>by rw[a0 (hm b _ q fun z=>z)];exact q,fun b u xs q=>by rw[a0 (hm b _ q fun z=>z)];exact q,fun b ps q=>⟨#[],by rw[a0 (hm b _ q fun z=>z),q];simp⟩⟩
 by_cases hbe:b=e
 · subst hbe;exact heo
 · exact⟨u,k b u hbe q⟩
end
def trk (h:Heap) (H:Hp):List Addr:=(List.range h.objs.size).filter fun a=>(H a).isSome
def io (h:Heap) (H:Hp):Heap:=PySem.W.hideAll h (trk h H)
theorem lB (h:Heap) (H:Hp):(io h H).objs.size=h.objs.size:=PySem.W.hideAll_size _ _
theorem nk {h:Heap} {H:Hp} {b:Addr} {o:Obj} (e:h.get? b=some o) (n:H b=none):(io h H).get? b=some o :=
 PySem.W.hideAll_get _ e fun hm=>by
  have q:(H b).isSome=true:=(List.mem_filter.mp hm).2;rw[n] at q;simp at q
theorem oW {h:Heap} {H:Hp} {b:Addr} {o:Obj} (e:(io h H).get? b=some o):h.get? b=some o∧H b=none:=by
 have e':h.get? b=some o:=PySem.W.of_hideAll (trk h H) e;refine⟨e',?_⟩;cases q:H b with
 | none=>rfl
 | some x =>
  have hm:b∈trk h H:=List.mem_filter.mpr ⟨List.mem_range.mpr (Heap.lt_size e'),by simp[q]⟩;have z:(io h H).get? b=none:=PySem.W.hideAll_none (trk h H) hm;rw[z] at e;cases e
def qf (g h:Heap) (L:Addr):AOs:=(List.range h.objs.size).filterMap fun a=>if a=L∨(g.get? a).isSome=true then none else (h.get? a).map fun o=>(a,o)
def bQ (g h:Heap) (L d:Addr):AOs:=(qf g h L).filter fun p=>decide (p.1≠d)
structure Mod (K:Fg) (mg:SOV) (base:Heap):Prop where
  kin:K.In base
  glob:base.Ns mainGlobals mg
  blt:∃ mb,base.Ns builtinsNs mb∧∀ x:Str,x≠"__name__"→mb x=bootBuiltins x
  nolimit:base.NoLimit
structure Cx where
  prog:Program
  w:World
  K:Fg
  mg:Str→Option Value
  base:Heap
  A:Around
  N:List Str
  s₀:Shared
  H₀:Hp
  env:Env
  outer:List Env
  stack:List Env
  ex:List Addr
  fn:Str→Bool
  calm:Bool
  pn:AOs
  xe:Value→Shared→Prop
def frs (l:List Env):List Addr:=l.filterMap (·.frame)
abbrev Cx.fs (X:Cx):List Addr:=frs X.outer
def Vis (sc:Scope) (x:Str):Prop:=sc.names.lookup x=some .local∨sc.names.lookup x=some .cell∨sc.names.lookup x=some .free
def Loc (sc:Scope) (x:Str):Prop:=sc.names.lookup x=some .local∨sc.names.lookup x=some .cell
def xV (env:Env) (h:Heap) (m:SOV) (x:Str) (u:Value):Prop :=
  (env.kindOf x=some .local∧m x=some u)∨((env.kindOf x=some .cell∨env.kindOf x=some .free)∧∃ c,env.cells.lookup x=some c∧h.IsCell c (some u))
structure Cx.Ok (X:Cx):Prop where
  mod:Mod X.K X.mg X.base
  kind:X.env.scope.kind=.function
  glob:X.env.globals=mainGlobals
  blt:X.env.builtins=builtinsNs
  above:X.s₀.heap.objs.size≤X.env.locals
  inj:∀ x y c,X.env.cells.lookup x=some c→X.env.cells.lookup y=some c→x=y
  has:∀ x,(X.env.kindOf x=some .cell∨X.env.kindOf x=some .free)→∃ c,X.env.cells.lookup x=some c
  cab:∀ x c,X.fn x=true→X.env.cells.lookup x=some c→X.s₀.heap.objs.size≤c
  hd:X.calm=true→X.A.handled=none
  frames:X.A.frames=some X.stack
  stk:X.stack=X.outer∨(X.stack=X.env::X.outer∧X.env.frame=some X.env.locals)
  exf:∀ b∈X.ex,b≠X.env.locals∧∀ x c,X.env.cells.lookup x=some c→c≠b
  bs:∀ b o,X.base.get? b=some o→X.s₀.heap.get? b=some o∧X.H₀ b=none
  bsz:X.base.objs.size≤X.s₀.heap.objs.size
  noex:∀ b o,X.base.get? b=some o→b∉X.ex
  exfs:∀ b∈X.ex,b∉X.fs
  funs:X.s₀.heap.FunFrames X.base X.outer
  frf:∀ b∈X.fs,X.H₀ b=none
structure Inv (X:Cx) (pins:AOs) (σ:List (Option V)) (H:Hp) (s:Shared):Prop where
  ok:X.Ok
  os:s.os=X.s₀.os
  bare:AllBare s.gens
  base:Un X.fs X.ex X.H₀ H X.s₀.heap s.heap
  loc:∃ m,s.heap.Ns X.env.locals m∧∀ (i:Nat) (x:Str) (v:V),X.N[i]?=some x→σ[i]?=some (some v)→Vis X.env.scope x→∃ u,aH v u∧xV X.env s.heap m x u
  cell:∀ x c,X.env.cells.lookup x=some c→∃ v,s.heap.IsCell c v
  free:H X.env.locals=none
  freeC:∀ x c,X.env.cells.lookup x=some c→H c=none
  pin:∀ p∈X.pn++pins,s.heap.get? p.1=some p.2∧H p.1=none∧p.1≠X.env.locals∧p.1∉X.fs∧∀ v,p.2.data≠.cell v
  hok:HOk X.prog X.w H s.heap
  len:σ.length=X.N.length
section
variable {X:Cx} {pins:AOs} {σ:List (Option V)} {H H':Hp} {s:Shared} {h':Heap}
theorem Cx.Ok.nofr (ok:X.Ok) {b:Addr} {o:Obj} (e:X.base.get? b=some o):b∉X.fs:=fun hb=>by
 have:=(ok.funs.mem hb).1;rw[e] at this;cases this
theorem Inv.bs (I:Inv X pins σ H s):∀ b o,X.base.get? b=some o→s.heap.get? b=some o∧H b=none:=fun b o e =>
 ⟨I.base.keep b o (I.ok.bs b o e).1 (I.ok.bs b o e).2 (I.ok.nofr e) (I.ok.noex b o e),I.base.free b o (I.ok.bs b o e).1 (I.ok.bs b o e).2 (I.ok.noex b o e)⟩
theorem Inv.bk (I:Inv X pins σ H s):∀ b o,X.base.get? b=some o→s.heap.get? b=some o:=fun b o e=>(I.bs b o e).1
theorem Inv.mod (I:Inv X pins σ H s):Mod X.K X.mg X.base:=I.ok.mod
theorem Inv.kIn (I:Inv X pins σ H s):X.K.In s.heap:=I.ok.mod.kin.keeps I.bk
theorem Inv.lt (I:Inv X pins σ H s):X.env.locals<s.heap.objs.size:=by
 obtain⟨_,hn,_⟩:=I.loc;exact hn.lt
theorem Inv.sz (I:Inv X pins σ H s):X.s₀.heap.objs.size≤s.heap.objs.size:=Nat.le_trans I.ok.above (Nat.le_of_lt I.lt)
theorem Inv.nofs (I:Inv X pins σ H s) {a:Addr} (h:s.heap.objs.size≤a):a∉X.fs:=fun hb=>by
 obtain⟨_,o,ho,_⟩:=I.ok.funs.mem hb;exact absurd (Nat.lt_of_lt_of_le (Heap.lt_size ho) (Nat.le_trans I.sz h)) (Nat.lt_irrefl _)
theorem Inv.cne (I:Inv X pins σ H s):∀ x c,X.env.cells.lookup x=some c→c≠X.env.locals:=fun x c e z=>by
 obtain⟨v,o,ho,hd⟩:=I.cell x c e;obtain⟨m,⟨o',es,ep,ho',hd',_⟩,_⟩:=I.loc;rw[z,ho'] at ho;cases ho;rw[hd'] at hd;cases hd
theorem Inv.funs (I:Inv X pins σ H s):s.heap.FunFrames X.base X.outer:=by
 have all:∀ (l:List Env),(∀ b∈frs l,b∈X.fs)→X.s₀.heap.FunFrames X.base l→s.heap.FunFrames X.base l:=by
  intro l
  induction l with
  | nil=>intro _ _;trivial
  | cons env r ih =>
   intro hs hl;obtain⟨hk,⟨L,o,hf,hn,ho,hd⟩,hr⟩:=hl;have hL:L∈X.fs:=hs L (by unfold frs;rw[List.filterMap_cons,hf];exact mCS);obtain⟨sl,e⟩:=I.base.slot L o ho (I.ok.frf L hL) hL fun z=>I.ok.exfs L z hL;exact⟨hk,⟨L,_,hf,hn,e,hd⟩,ih (fun b hb=>hs b (by unfold frs;rw[List.filterMap_cons,hf];exact mCM _ hb)) hr⟩
 exact all X.outer (fun _ hb=>hb) I.ok.funs
theorem Inv.stack (I:Inv X pins σ H s):s.heap.FunFrames X.base X.stack:=by
 rcases I.ok.stk with e | ⟨e,hf⟩
 · rw[e];exact I.funs
 · rw[e];obtain⟨m,hn,_⟩:=I.loc;refine .cons (by rw[I.ok.kind];decide) hf hn ?_ I.funs;exact Heap.get?_none_of_le (Nat.le_trans I.ok.bsz I.ok.above)
theorem Inv.stkSub (I:Inv X pins σ H s):∀ b∈frs X.stack,b∈X.env.locals::X.fs:=fun b hb=>by
 rcases I.ok.stk with e | ⟨e,hf⟩
 · rw[e] at hb;exact mCM _ hb
 · rw[e] at hb;unfold frs at hb;rw[List.filterMap_cons,hf] at hb;exact hb
theorem Inv.stkFree (I:Inv X pins σ H s):∀ b∈frs X.stack,H b=none:=fun b hb=>by
 rcases List.mem_cons.mp (I.stkSub b hb) with e | hb
 · rw[e];exact I.free
 · obtain⟨_,o,ho,_⟩:=I.ok.funs.mem hb;exact I.base.free b o ho (I.ok.frf b hb) fun z=>I.ok.exfs b z hb
theorem Inv.step {g':Array GenState} {t':Nat} {d':Drawn} {ch:List Addr} (I:Inv X pins σ H s)
 (hch:∀ b∈ch,(b∈X.ex∨X.s₀.heap.objs.size≤b)∧b≠X.env.locals∧(∀ x c,X.env.cells.lookup x=some c→c≠b)∧∀ p∈X.pn++pins,p.1≠b)
 (keep:∀ b o,b≠X.env.locals→b∉X.fs→b∉ch→s.heap.get? b=some o→H b=none→h'.get? b=some o)
 (slot:∀ b o,b≠X.env.locals→b∈X.fs→b∉ch→s.heap.get? b=some o→H b=none→∃ sl,h'.get? b=some {o with slots:=sl}) (free:∀ b o,b∉ch→s.heap.get? b=some o→H b=none→H' b=none)
 (there:∀ b o,b∉ch→s.heap.get? b=some o→∃ o',h'.get? b=some o')
 (tups:∀ b xs,H b=some (.tup xs)→H' b=some (.tup xs)) (frzs:∀ b o u,H b=some (.frz o u)→H' b=some (.frz o u)) (tbls:∀ b ps,H b=some (.tbl ps)→∃ more,H' b=some (.tbl (ps++more)))
 (ns:∀ m,s.heap.Ns X.env.locals m→h'.Ns X.env.locals m) (hok:HOk X.prog X.w H' h') (hg:AllBare g') :
 Inv X pins σ H' {s with heap:=h',gens:=g',drawn:=d',toks:=t'}:=by
 have neL:∀ b o,X.s₀.heap.get? b=some o→b≠X.env.locals:=fun b o e=>Nat.ne_of_lt (Nat.lt_of_lt_of_le (Heap.lt_size e) I.ok.above);have neC:∀ b o,X.s₀.heap.get? b=some o→b∉X.ex→b∉ch:=fun b o e hx hb=>by
  rcases (hch b hb).1 with z | z
  · exact hx z
  · exact absurd (Nat.lt_of_lt_of_le (Heap.lt_size e) z) (Nat.lt_irrefl _)
 have cellK:∀ x c,X.env.cells.lookup x=some c→∀ v,s.heap.IsCell c v→h'.IsCell c v:=fun x c e v ⟨o,ho,hd⟩=>by
  have nch:c∉ch:=fun z=>(hch c z).2.2.1 x c e rfl;by_cases hc:c∈X.fs
  · obtain⟨sl,q⟩:=slot c o (I.cne x c e) hc nch ho (I.freeC x c e);exact⟨_,q,hd⟩
  · exact⟨o,keep c o (I.cne x c e) hc nch ho (I.freeC x c e),hd⟩
 refine⟨I.ok,I.os,hg,⟨fun b o e n hb hx=>?_,fun b o e n hb hx=>?_,fun b o e n hx=>?_,fun b o e hx=>?_,fun b xs e=>tups b xs (I.base.tups b xs e),fun b o xs e=>frzs b o xs (I.base.frzs b o xs e),fun b ps e=>?_⟩,?_,fun x c e=>?_,?_,fun x c e=>?_,fun p hp=>?_,hok,I.len⟩
 · exact keep b o (neL b o e) hb (neC b o e hx) (I.base.keep b o e n hb hx) (I.base.free b o e n hx)
 · obtain⟨sl,e1⟩:=I.base.slot b o e n hb hx;obtain⟨sl',e2⟩:=slot b _ (neL b o e) hb (neC b o e hx) e1 (I.base.free b o e n hx);exact⟨sl',e2⟩
 · obtain⟨o',e1⟩:=I.base.there b o e hx;exact free b o' (neC b o e hx) e1 (I.base.free b o e n hx)
 · obtain⟨o',e1⟩:=I.base.there b o e hx;exact there b o' (neC b o e hx) e1
 · obtain⟨m1,e1⟩:=I.base.tbls b ps e;obtain⟨m2,e2⟩:=tbls b _ e1;exact⟨m1++m2,by rw[e2,Array.append_assoc]⟩
 · obtain⟨m,hn,hl⟩:=I.loc;refine⟨m,ns m hn,fun i x v e1 e2 e3=>?_⟩;obtain⟨u,r,l⟩:=hl i x v e1 e2 e3;refine⟨u,r,?_⟩
   rcases l with l | ⟨k,c,e,z⟩
   · exact .inl l
   · exact .inr ⟨k,c,e,cellK x c e _ z⟩
 · obtain⟨v,z⟩:=I.cell x c e;exact⟨v,cellK x c e v z⟩
 · obtain⟨m,⟨o,_,_,ho,_⟩,_⟩:=I.loc;exact free _ o (fun z=>(hch _ z).2.1 rfl) ho I.free
 · obtain⟨v,o,ho,hd⟩:=I.cell x c e;exact free c o (fun z=>(hch c z).2.2.1 x c e rfl) ho (I.freeC x c e)
 · obtain⟨e,n,ne,nf,d⟩:=I.pin p hp;have nch:p.1∉ch:=fun z=>(hch p.1 z).2.2.2 p hp rfl;exact⟨keep p.1 p.2 ne nf nch e n,free p.1 p.2 nch e n,ne,nf,d⟩
theorem Inv.un {t':Nat} (I:Inv X pins σ H s) (u:Un X.fs [] H H' s.heap h') (hok:HOk X.prog X.w H' h'):Inv X pins σ H' {s with heap:=h',toks:=t'}:=by
 obtain⟨m,⟨o,es,ep,ho,r⟩,_⟩:=id I.loc;obtain⟨sl,hL⟩:=u.any ho I.free (by simp);exact I.step (g':=s.gens) (d':=s.drawn) (ch:=[]) (fun _ z=>nomatch z) (fun b o _ hb _ e n=>u.keep b o e n hb (by simp)) (fun b o _ hb _ e n=>u.slot b o e n hb (by simp)) (fun b o _ e n=>u.free b o e n (by simp)) (fun b o _ e=>u.there b o e (by simp)) u.tups u.frzs u.tbls (fun m' hm=>by
   obtain⟨o',es',ep',ho',r'⟩:=hm;rw[ho] at ho';cases ho';exact⟨_,es',ep',hL,r'⟩) hok I.bare
theorem Inv.call {g':Array GenState} {t':Nat} {d':Drawn} {ch:List Addr} (I:Inv X pins σ H s) (u:Un (frs X.stack) ch H H' s.heap h') (hok:HOk X.prog X.w H' h') (hg:AllBare g')
 (hch:∀ b∈ch,(b∈X.ex∨X.s₀.heap.objs.size≤b)∧b≠X.env.locals∧(∀ x c,X.env.cells.lookup x=some c→c≠b)∧∀ p∈X.pn++pins,p.1≠b) :
 Inv X pins σ H' {s with heap:=h',gens:=g',drawn:=d',toks:=t'}:=by
 obtain⟨m,⟨o,es,ep,ho,r⟩,_⟩:=id I.loc;obtain⟨sl,hL⟩:=u.any ho I.free fun z=>(hch _ z).2.1 rfl;exact I.step (ch:=ch) hch (fun b o hL hb hc e n=>u.keep b o e n (fun z=>(List.mem_cons.mp (I.stkSub b z)).elim hL hb) hc) (fun b o _ _ hc e n=>u.any e n hc) (fun b o hc e n=>u.free b o e n hc) (fun b o hc e=>u.there b o e hc) u.tups u.frzs u.tbls (fun m' hm=>by
   obtain⟨o',es',ep',ho',r'⟩:=hm;rw[ho] at ho';cases ho';exact⟨_,es',ep',hL,r'⟩) hok hg
theorem Inv.turned {t':Nat} {it:Addr} (I:Inv X pins σ H s) (k:∀ b o,b≠it→s.heap.get? b=some o→h'.get? b=some o) (hn:H it=none) (hL:it≠X.env.locals)
 (h1:it∈X.ex∨X.s₀.heap.objs.size≤it) (h2:∀ x c,X.env.cells.lookup x=some c→c≠it) (h3:∀ p∈X.pn++pins,p.1≠it):Inv X pins σ H {s with heap:=h',toks:=t'}:=by
 have nit:∀ b u,H b=some u→b≠it:=fun b u e z=>by rw[z,hn] at e;cases e
 refine I.step (g':=s.gens) (d':=s.drawn) (ch:=[it]) (fun b hb=>?_) (fun b o _ _ hc e _=>k b o (fun z=>hc (by simp[z])) e) (fun b o _ _ hc e _=>⟨o.slots,k b o (fun z=>hc (by simp[z])) e⟩) (fun _ _ _ _ n=>n)
  (fun b o hc e=>⟨o,k b o (fun z=>hc (by simp[z])) e⟩) (fun _ _ e=>e) (fun _ _ _ e=>e) (fun b ps e=>⟨#[],by rw[e];simp⟩) (fun m hm=>?_) (fun b u e=>?_) I.bare
 · have e:b=it:=by simpa using hb
   subst e;exact⟨h1,hL,h2,h3⟩
 · obtain⟨o,es,ep,ho,r⟩:=hm;exact⟨o,es,ep,k _ o (Ne.symm hL) ho,r⟩
 · refine (I.hok b u e).stay (fun c v hc q=>k c v ?_ q) (fun _ q=>q) fun _ _ q=>q
   rcases hc with z | z
   · rw[z];exact nit b u e
   · exact nit c _ z
theorem Inv.tok (I:Inv X pins σ H s) (t:Nat):Inv X pins σ H {s with toks:=t}:=I.un (h':=s.heap) (t':=t) Un.refl I.hok
theorem Inv.kept {t':Nat} (I:Inv X pins σ H s) (k:∀ b u,s.heap.get? b=some u→h'.get? b=some u):Inv X pins σ H {s with heap:=h',toks:=t'}:=I.un (Un.kept k) (I.hok.kept k)
theorem Inv.laid {a:Addr} {o:HO} {t':Nat} (I:Inv X pins σ H s) (k:∀ b u,s.heap.get? b=some u→h'.get? b=some u) (hp:s.heap.objs.size≤a) (new:be X.prog X.w (upd H a o) h' a o) :
 Inv X pins σ (upd H a o) {s with heap:=h',toks:=t'}:=I.un (Un.laid k hp (I.hok.fresh hp)) (I.hok.laid k hp new)
theorem Inv.write {x e:Addr} {o:HO} {t':Nat} (I:Inv X pins σ H s) (mu:Mut (H x)) (he:e=x∨H e=some (.own x)) (k:∀ b u,b≠e→s.heap.get? b=some u→h'.get? b=some u) (heo:∃ u,h'.get? e=some u)
 (new:be X.prog X.w (upd H x o) h' x o):Inv X pins σ (upd H x o) {s with heap:=h',toks:=t'}:=I.un (Un.write mu he k heo) (I.hok.write mu he k heo new)
theorem Inv.pins_of {pins':AOs} (I:Inv X pins σ H s) (h:∀ p∈pins',s.heap.get? p.1=some p.2∧H p.1=none∧p.1≠X.env.locals∧p.1∉X.fs∧∀ v,p.2.data≠.cell v):Inv X pins' σ H s :=
 ⟨I.ok,I.os,I.bare,I.base,I.loc,I.cell,I.free,I.freeC,fun p hp=>(mAp.mp hp).elim (fun z=>I.pin p (List.mem_append_left _ z)) (h p),I.hok,I.len⟩
theorem iR {N:List Str} (hN:N.Nodup) {i j:Nat} {x:Str} (a:N[i]?=some x) (b:N[j]?=some x):i=j:=by
 obtain⟨h1,e1⟩:=gES.mp a;obtain⟨h2,e2⟩:=gES.mp b;exact (List.getElem_inj hN).mp (e1.trans e2.symm)
theorem ld {M:Model} {A:Around} {E:VSP} {i:Nat} {x:Str} {v:V} {u:Value} {Q:Unit→Shared→Prop} (I:Inv X pins σ H s) (hN:X.N.Nodup) (hi:X.N[i]?=some x) (hx:Loc X.env.scope x) (r:aH v u)
 (h:∀ s',Inv X pins (σ.set i (some v)) H s'→(∃ a,Heap.SameBut a s.heap s'.heap∧(a=X.env.locals∨X.env.cells.lookup x=some a))→Q () s') (hf:X.fn x=true∨X.env.scope.names.lookup x=some .local:=by first | exact .inl rfl | exact .inr rfl | assumption):wpAny M A (storeName X.env x u) Q E s:=by
 obtain⟨m,hn,hl⟩:=id I.loc;have hcls:(X.env.scope.kind==.class||(X.env.scope.kind==.module&&X.env.locals != X.env.globals))=false:=by rw[I.ok.kind];rfl
 have hiσ:i<σ.length:=by rw[I.len];exact (gES.mp hi).1
 have cne:=I.cne;have tracked:∀ {a:Addr} {h':Heap},(∃ o,s.heap.get? a=some o∧H a=none)→Heap.SameBut a s.heap h'→HOk X.prog X.w H h':=fun {a h'} ha hs b ob e=>by
  obtain⟨_,_,hfree⟩:=ha;refine (I.hok b ob e).stay (fun c w' hc q=>(hs.2 c ?_).trans q) (fun _ q=>q) fun _ _ q=>q;rintro rfl
  rcases hc with rfl | hc
  · rw[hfree] at e;cases e
  · rw[hfree] at hc;cases hc
 rcases hx with hk | hk
 · refine wpAny_storeName_local hk hn (fun h' hn' hs=>?_) hcls;obtain⟨oL,_,_,hoL,_⟩:=id hn;refine h _ ⟨I.ok,I.os,I.bare,⟨fun b o e n hb hx=>?_,fun b o e n hb hx=>?_,I.base.free,fun b o e hx=>?_,I.base.tups,I.base.frzs,I.base.tbls⟩,⟨_,hn',fun j y v' e1 e2 e3=>?_⟩,fun y c e=>?_,I.free,I.freeC,fun p hp=>?_,tracked ⟨oL,hoL,I.free⟩ hs,by simpa using I.len⟩ ⟨_,hs,.inl rfl⟩
   · exact (hs.2 b (Nat.ne_of_lt (Nat.lt_of_lt_of_le (Heap.lt_size e) I.ok.above))).trans (I.base.keep b o e n hb hx)
   · obtain⟨sl,e1⟩:=I.base.slot b o e n hb hx;exact⟨sl,(hs.2 b (Nat.ne_of_lt (Nat.lt_of_lt_of_le (Heap.lt_size e) I.ok.above))).trans e1⟩
   · obtain⟨o',e1⟩:=I.base.there b o e hx;exact⟨o',(hs.2 b (Nat.ne_of_lt (Nat.lt_of_lt_of_le (Heap.lt_size e) I.ok.above))).trans e1⟩
   · by_cases hj:j=i
     · subst hj;rw[hi] at e1;cases e1;rw[List.getElem?_set_self hiσ] at e2;cases e2;exact⟨u,r,.inl ⟨hk,by simp⟩⟩
     · rw[List.getElem?_set_ne (Ne.symm hj)] at e2;obtain⟨u',r',q⟩:=hl j y v' e1 e2 e3;refine⟨u',r',?_⟩
       rcases q with ⟨k,e⟩ | ⟨k,c,e,z⟩
       · refine .inl ⟨k,?_⟩;have:y≠x:=fun e=>hj (iR hN e1 (e▸hi));simp[this,e]
       · exact .inr ⟨k,c,e,z.sameBut hs (cne y c e)⟩
   · obtain⟨w',z⟩:=I.cell y c e;exact⟨w',z.sameBut hs (cne y c e)⟩
   · obtain⟨e,n,ne,nf,d⟩:=I.pin p hp;exact⟨(hs.2 p.1 ne).trans e,n,ne,nf,d⟩
 · have hfn:X.fn x=true:=by
    rcases hf with z | z
    · exact z
    · rw[z] at hk;cases hk
   obtain⟨c,hc⟩:=I.ok.has x (.inl hk);obtain⟨w',z⟩:=I.cell x c hc;refine wpAny_storeName_cell I.ok.kind hk hc z (fun h' hc' hs=>?_);obtain⟨oc,hoc,hocd⟩:=id z;refine h {s with heap:=h'} ⟨I.ok,I.os,I.bare,⟨fun b o e n hb hx=>?_,fun b o e n hb hx=>?_,I.base.free,fun b o e hx=>?_,I.base.tups,I.base.frzs,I.base.tbls⟩,⟨m,hn.sameBut hs (Ne.symm (cne x c hc)),fun j y v' e1 e2 e3=>?_⟩,fun y c' e=>?_,I.free,I.freeC,fun p hp=>?_,tracked ⟨oc,hoc,I.freeC x c hc⟩ hs,by simpa using I.len⟩ ⟨c,hs,.inr hc⟩
   · exact (hs.2 b (Nat.ne_of_lt (Nat.lt_of_lt_of_le (Heap.lt_size e) (I.ok.cab x c hfn hc)))).trans (I.base.keep b o e n hb hx)
   · obtain⟨sl,e1⟩:=I.base.slot b o e n hb hx;exact⟨sl,(hs.2 b (Nat.ne_of_lt (Nat.lt_of_lt_of_le (Heap.lt_size e) (I.ok.cab x c hfn hc)))).trans e1⟩
   · obtain⟨o',e1⟩:=I.base.there b o e hx;exact⟨o',(hs.2 b (Nat.ne_of_lt (Nat.lt_of_lt_of_le (Heap.lt_size e) (I.ok.cab x c hfn hc)))).trans e1⟩
   · by_cases hj:j=i
     · subst hj;rw[hi] at e1;cases e1;rw[List.getElem?_set_self hiσ] at e2;cases e2;exact⟨u,r,.inr ⟨.inl hk,c,hc,hc'⟩⟩
     · rw[List.getElem?_set_ne (Ne.symm hj)] at e2;obtain⟨u',r',q⟩:=hl j y v' e1 e2 e3;refine⟨u',r',?_⟩
       rcases q with q | ⟨k,c',e,z'⟩
       · exact .inl q
       · refine .inr ⟨k,c',e,z'.sameBut hs ?_⟩;rintro rfl;exact hj (iR hN e1 (I.ok.inj _ _ _ e hc▸hi))
   · by_cases hcc:c'=c
     · subst hcc;exact⟨_,hc'⟩
     · obtain⟨w2,z2⟩:=I.cell y c' e;exact⟨w2,z2.sameBut hs hcc⟩
   · obtain⟨e,n,ne,nf,d⟩:=I.pin p hp;refine⟨(hs.2 p.1 ?_).trans e,n,ne,nf,d⟩;intro q;rw[q,hoc] at e;have q':oc=p.2:=Option.some.inj e;exact d w' (by rw[← q'];exact hocd)
theorem fP {M:Model} {A:Around} {E:VSP} {i:Nat} {x:Str} {v:V} {u:Value} {Q:Unit→Shared→Prop} (I:Inv X pins σ H s) (hN:X.N.Nodup) (hi:X.N[i]?=some x) (hx:Loc X.env.scope x) (r:aH v u)
 (h:∀ s',Inv X pins (σ.set i (some v)) H s'→Q () s') (hf:X.fn x=true∨X.env.scope.names.lookup x=some .local:=by first | exact .inl rfl | exact .inr rfl | assumption):wpAny M A (storeName X.env x u) Q E s :=
 ld I hN hi hx r (fun s' I' _=>h s' I') hf
theorem Inv.call' {s':Shared} {ch:List Addr} (I:Inv X pins σ H s) (ho:s'.os=s.os) (u:Un (frs X.stack) ch H H' s.heap s'.heap) (hok:HOk X.prog X.w H' s'.heap) (hg:AllBare s'.gens)
 (hch:∀ b∈ch,(b∈X.ex∨X.s₀.heap.objs.size≤b)∧b≠X.env.locals∧(∀ x c,X.env.cells.lookup x=some c→c≠b)∧∀ p∈X.pn++pins,p.1≠b):Inv X pins σ H' s':=by
 obtain⟨h',g',d',t',o'⟩:=s';have e:o'=s.os:=ho;subst e;exact I.call (g':=g') (t':=t') (d':=d') u hok hg hch
end
abbrev XK:=Value→Option Addr→Hp→Prop
abbrev St:=List (Option V)
abbrev VK:=V→Hp→Prop
abbrev TE:=St→Hp→VK→Prop
abbrev TT:=St→Hp→(Bool→Hp→Prop)→Prop
abbrev TA:=St→Hp→(List V→Hp→Prop)→Prop
structure gq where
  nx:St→Hp→Prop
  rt:VK
  bk:St→Hp→Prop:=fun _ _=>False
  ct:St→Hp→Prop:=fun _ _=>False
abbrev TS:=gq→St→Hp→Prop
def EP (X:Cx) (pins:AOs) (σ:St) (Q:VK) (u:Value) (s':Shared):Prop:=∃ v H',Inv X pins σ H' s'∧aH v u∧Q v H'
def TP (X:Cx) (pins:AOs) (σ:St) (Q:Bool→Hp→Prop) (b:Bool) (s':Shared):Prop:=∃ H',Inv X pins σ H' s'∧Q b H'
def AP (X:Cx) (pins:AOs) (σ:St) (Q:List V→Hp→Prop) (us:List Value) (s':Shared):Prop:=∃ vs H',Inv X pins σ H' s'∧ax vs us∧Q vs H'
def SP (X:Cx) (pins:AOs) (D:gq) (f:Flow) (s':Shared):Prop :=
  match f with
  | .next=>∃ σ' H',Inv X pins σ' H' s'∧D.nx σ' H'
  | .brk=>∃ σ' H',Inv X pins σ' H' s'∧D.bk σ' H'
  | .cont=>∃ σ' H',Inv X pins σ' H' s'∧D.ct σ' H'
  | .ret u=>∃ v σ' H',Inv X pins σ' H' s'∧aH v u∧D.rt v H'
def PE (X:Cx) (e:Expr) (t:TE):Prop :=
  ∀ (pins:AOs) (s:Shared) (σ:St) (H:Hp) (Q:VK),Inv X pins σ H s→t σ H Q→wpAny (model X.prog X.w) X.A (eval e X.env) (EP X pins σ Q) X.xe s
def PT (X:Cx) (e:Expr) (t:TT):Prop :=
  ∀ (pins:AOs) (s:Shared) (σ:St) (H:Hp) (Q:Bool→Hp→Prop),Inv X pins σ H s→t σ H Q→wpAny (model X.prog X.w) X.A (isTrue e X.env (eval e X.env)) (TP X pins σ Q) X.xe s
def PW (X:Cx) (e:Expr) (t:TT):Prop :=
  ∀ (whole:Sem Value) (pins:AOs) (s:Shared) (σ:St) (H:Hp) (Q:Bool→Hp→Prop),Inv X pins σ H s→t σ H Q→wpAny (model X.prog X.w) X.A (isTrue e X.env whole) (TP X pins σ Q) X.xe s
theorem PW.pt {X:Cx} {e:Expr} {t:TT} (h:PW X e t):PT X e t:=h _
def PA (X:Cx) (es:List Expr) (t:TA):Prop :=
  ∀ (pos:Pos) (pins:AOs) (s:Shared) (σ:St) (H:Hp) (Q:List V→Hp→Prop),Inv X pins σ H s→t σ H Q→wpAny (model X.prog X.w) X.A (spliced (backTo pos (starEach es X.env))) (AP X pins σ Q) X.xe s
def PS (X:Cx) (st:Stmt) (t:TS):Prop :=
  ∀ (pins:AOs) (s:Shared) (σ:St) (H:Hp) (D:gq),Inv X pins σ H s→t D σ H→wpAny (model X.prog X.w) X.A (exec st X.env) (SP X pins D) X.xe s
def PSs (X:Cx) (st:List Stmt) (t:TS):Prop :=
  ∀ (pins:AOs) (s:Shared) (σ:St) (H:Hp) (D:gq),Inv X pins σ H s→t D σ H→wpAny (model X.prog X.w) X.A (execs st X.env) (SP X pins D) X.xe s
theorem thn {α:Type} {t:Sem α} {Q Q':α→Shared→Prop} {M:Model} {A:Around} {E:VSP} {s:Shared} (h:wpAny M A t Q E s) (hQ:∀ a s,Q a s→Q' a s):wpAny M A t Q' E s:=wpAny_mono h hQ fun _ _ x=>x
section
variable {X:Cx}
inductive wn (o:Option (Option V)) (H:Hp) (Q:VK):Prop
  | mk (v:V) (h:o=some (some v)) (q:Q v H):wn o H Q
inductive BlR (x:V) (H:Hp) (Q:Bool→Hp→Prop):Prop
  | mk (c:Bool) (h:x=.bl c) (q:Q c H):BlR x H Q
inductive tP (x:V) (H:Hp) (Q:Int→Hp→Prop):Prop
  | mk (i:Int) (h:x=.int i) (q:Q i H):tP x H Q
inductive rq (x y:V) (H:Hp) (C:Int→Int→Prop) (g:Int→Int→V) (Q:VK):Prop
  | mk (i j:Int) (h:x=.int i) (h':y=.int j) (c:C i j) (q:Q (g i j) H):rq x y H C g Q
inductive o7 (x y:V) (H:Hp) (g:Int→Int→V) (Q:VK):Prop
  | mk (i j:Int) (h:x=.int i) (h':y=.int j) (q:Q (g i j) H):o7 x y H g Q
def cu (i:Nat):TE:=fun σ H Q=>wn σ[i]? H Q
def tC (v:V):TE:=fun _ H Q=>Q v H
theorem sq {i:Nat} {x:Str} {pos:Pos} (hN:X.N[i]?=some x) (hv:Vis X.env.scope x) (hd:(x==("__debug__":Str))=false:=by decide) (hcd:(x==("__classdict__":Str))=false:=by decide):PE X (.Name x pos) (cu i):=by
 intro pins s σ H Q I h;obtain⟨v,e,h⟩:=h;obtain⟨m,hn,hl⟩:=I.loc;obtain⟨u,r,l⟩:=hl i x v hN e hv;have fin:EP X pins σ Q u s:=⟨v,H,I,r,h⟩
 rcases l with ⟨hk,hm⟩ | ⟨hk,c,hc,hcell⟩
 · exact wpAny_Name (wpAny_loadName_local I.ok.kind hk hn hm fin) hd
 · rcases hk with hk | hk
   · exact wpAny_Name (wpAny_loadName_cell I.ok.kind hk hc hcell fin) hd
   · exact wpAny_Name (wpAny_loadName_free I.ok.kind hk hc hcell fin hcd) hd
theorem pF {i j pos}:PE X (.Constant (.int i) j pos) (tC (.int i)):=fun _ _ _ H _ I h=>wpAny_Constant_int ⟨.int i,H,I.tok _,⟨_,rfl⟩,h⟩
theorem fY {b j pos}:PE X (.Constant (.bool b) j pos) (tC (.bl b)):=fun _ _ _ H _ I h=>Constant_bool ⟨.bl b,H,I,rfl,h⟩
theorem eZ {j pos}:PE X (.Constant .none j pos) (tC .non):=fun _ _ _ H _ I h=>Constant_none ⟨.non,H,I,rfl,h⟩
theorem pC {x j pos}:PE X (.Constant (.str x) j pos) (tC (.str x)):=fun _ _ _ H _ I h=>Calls.Constant_str ⟨.str x,H,I.tok _,⟨_,rfl⟩,h⟩
def Gl (X:Cx) (x:Str):Prop:=X.env.kindOf x=some .globalImplicit
theorem im {E:VSP} {pins:AOs} {s:Shared} {σ:St} {H:Hp} {x:Str} {u:Value} {pos:Pos} {Q:VSP} (I:Inv X pins σ H s) (hg:Gl X x) (hm:X.mg x=some u) (h:Q u s)
 (hd:(x==("__debug__":Str))=false:=by decide):wpAny (model X.prog X.w) X.A (eval (.Name x pos) X.env) Q E s :=
 Calls.Name_function_global I.ok.kind hg (Calls.loadGlobal_global (by rw[I.ok.glob];exact I.mod.glob.keeps I.bk) hm h) hd
theorem dk {E:VSP} {pins:AOs} {s:Shared} {σ:St} {H:Hp} {x:Str} {u:Value} {pos:Pos} {Q:VSP} (I:Inv X pins σ H s) (hg:Gl X x) (hm:X.mg x=none) (hv:bootBuiltins x=some u) (h:Q u s)
 (hn:x≠"__name__":=by decide) (hd:(x==("__debug__":Str))=false:=by decide):wpAny (model X.prog X.w) X.A (eval (.Name x pos) X.env) Q E s:=by
 obtain⟨mb,h1,h2⟩:=I.mod.blt;exact Calls.Name_function_global I.ok.kind hg (Calls.loadGlobal_builtin (by rw[I.ok.glob];exact I.mod.glob.keeps I.bk) hm (by rw[I.ok.blt];exact h1.keeps I.bk) ((h2 x hn).trans hv) h) hd
theorem cN {x:Str} {v:V} {u:Value} {pos:Pos} (hg:Gl X x) (hm:X.mg x=some u) (r:aH v u) (hd:(x==("__debug__":Str))=false:=by decide):PE X (.Name x pos) (tC v) :=
 fun _ _ _ H _ I h=>im I hg hm ⟨v,H,I,r,h⟩ hd
theorem dB {x:Str} {v:V} {u:Value} {pos:Pos} (hg:Gl X x) (hm:X.mg x=none) (hv:bootBuiltins x=some u) (r:aH v u) (hn:x≠"__name__":=by decide) (hd:(x==("__debug__":Str))=false:=by decide):PE X (.Name x pos) (tC v) :=
 fun _ _ _ H _ I h=>dk I hg hm hv ⟨v,H,I,r,h⟩ hn hd
variable {a b:Expr} {ta tb:TE} {pos:Pos}
def tB (t:TE):TT:=fun σ H Q=>t σ H fun x H1=>BlR x H1 Q
theorem cH {e:Expr} {t:TE} (h:PE X e t) (he:∀ whole,isTrue e X.env whole=(do let v ← whole;standAt e.pos;holding [v] (truthy v)):=by intro _;rfl):PT X e (tB t):=by
 intro pins s σ H Q I hw;refine isTrue_plain (thn (h pins s σ H _ I hw) fun v s1 zy6=>?_) (he _);obtain⟨x,H1,I1,r1,q1⟩:=zy6;obtain⟨d,rfl,q⟩:=q1;cases r1;exact wpAny_truthy_bool ⟨H1,I1,q⟩
variable {tA tB':TT} {bQ:List Expr}
def u9 (t u:TT):TT:=fun σ H Q=>t σ H fun c H1=>if c=true then u σ H1 Q else Q false H1
def tOr (t u:TT):TT:=fun σ H Q=>t σ H fun c H1=>if c=true then Q true H1 else u σ H1 Q
def tY (t:TT):TT:=fun σ H Q=>t σ H fun c H1=>Q (!c) H1
theorem cM (ha:PT X a tA):PW X (.BoolOp .And [a] pos) tA:=by
 intro wh pins s σ H Q I h;refine isTrue_and (thn (ha pins s σ H Q I h) fun c s1 e=>?_);cases c with
 | true=>exact isTrue_and_nil e
 | false=>exact e
theorem fV (ha:PT X a tA):PW X (.BoolOp .Or [a] pos) tA:=by
 intro wh pins s σ H Q I h;refine isTrue_or (thn (ha pins s σ H Q I h) fun c s1 e=>?_);cases c with
 | false=>exact isTrue_or_nil e
 | true=>exact e
theorem dP (ha:PT X a tA) (hb:PW X (.BoolOp .And (b::bQ) pos) tB'):PW X (.BoolOp .And (a::b::bQ) pos) (u9 tA tB'):=by
 intro wh pins s σ H Q I h;refine isTrue_and (thn (ha pins s σ H _ I h) fun c s1 zy7=>?_);obtain⟨H1,I1,q1⟩:=zy7;cases c with
 | true=>exact hb wh pins s1 σ H1 Q I1 q1
 | false=>exact⟨H1,I1,q1⟩
theorem gP (ha:PT X a tA) (hb:PW X (.BoolOp .Or (b::bQ) pos) tB'):PW X (.BoolOp .Or (a::b::bQ) pos) (tOr tA tB'):=by
 intro wh pins s σ H Q I h;refine isTrue_or (thn (ha pins s σ H _ I h) fun c s1 zy8=>?_);obtain⟨H1,I1,q1⟩:=zy8;cases c with
 | true=>exact⟨H1,I1,q1⟩
 | false=>exact hb wh pins s1 σ H1 Q I1 q1
theorem eY (ha:PT X a tA):PT X (.UnaryOp .Not a pos) (tY tA):=by
 intro pins s σ H Q I h;exact isTrue_not (ha pins s σ H (fun c H1=>Q (!c) H1) I h)
def u8 (ta tb:TE):TE:=fun σ H Q=>ta σ H fun x H1=>∃ c,x=.bl c∧if c=true then tb σ H1 Q else Q (.bl false) H1
def wT (ta tb:TE):TE:=fun σ H Q=>ta σ H fun x H1=>∃ c,x=.bl c∧if c=true then Q (.bl true) H1 else tb σ H1 Q
def ql (ta:TE):TE:=fun σ H Q=>ta σ H fun x H1=>∃ c,x=.bl c∧Q (.bl (!c)) H1
theorem sr (ha:PE X a ta):PE X (.UnaryOp .Not a pos) (ql ta):=by
 intro pins s σ H Q I h;refine UnaryOp_ (thn (ha pins s σ H _ I h) fun v s1 zy11=>?_);obtain⟨x,H1,I1,r1,q1⟩:=zy11;obtain⟨c,rfl,q1⟩:=q1;cases r1;exact not_of (wpAny_truthy_bool ⟨.bl (!c),H1,I1,rfl,q1⟩)
def tIf (t:TT) (ta tb:TE):TE:=fun σ H Q=>t σ H fun c H1=>if c=true then ta σ H1 Q else tb σ H1 Q
theorem aN {c:Expr} (hc:PT X c tA) (ha:PE X a ta) (hb:PE X b tb):PE X (.IfExp c a b pos) (tIf tA ta tb):=by
 intro pins s σ H Q I h;refine wpAny_IfExp (thn (hc pins s σ H _ I h) fun d s1 zy12=>?_);obtain⟨H1,I1,q1⟩:=zy12;cases d with
 | true=>exact ha pins s1 σ H1 Q I1 q1
 | false=>exact hb pins s1 σ H1 Q I1 q1
end
def SqL (K:Fg) (H:Hp) (a:Addr) (xs:List V):Prop :=
  Rd H a (.lst xs) ∨
    ∃ (o:Obj) (its:Array Value) (n:Nat),K.lookup a=some o∧o.cls=.type "list"∧o.dict=none∧o.data=.seq its n∧its.size≤sizeLine∧ax xs its.toList
def SqT (K:Fg) (H:Hp) (a:Addr) (xs:List V):Prop :=
  Rd H a (.tup xs) ∨
    ∃ (o:Obj) (its:Array Value) (n:Nat),K.lookup a=some o∧o.cls=.type "tuple"∧o.data=.seq its n∧its.size≤sizeLine∧ax xs its.toList
def xT:Value→Option V
  | .none=>some .non
  | .bool b=>some (.bl b)
  | .int i _=>some (.int i)
  | .str x _=>some (.str x)
  | .bytes b _=>some (.byt b)
  | .float b _=>some (.flt b)
  | .ref a=>some (.ref a)
  | .type n=>some (.ty n)
  | _=>none
theorem aH.abs {x:V} {u:Value} (r:aH x u):xT u=some x:=by
 cases x with
 | non=>cases r;rfl
 | bl _=>cases r;rfl
 | int _=>obtain⟨t,rfl⟩:=r;rfl
 | str _=>obtain⟨t,rfl⟩:=r;rfl
 | byt _=>obtain⟨t,rfl⟩:=r;rfl
 | flt _=>obtain⟨t,rfl⟩:=r;rfl
 | ref _=>cases r;rfl
 | ty _=>cases r;rfl
theorem aH.inj {x y:V} {u:Value} (r:aH x u) (q:aH y u):x=y:=Option.some.inj (r.abs.symm.trans q.abs)
theorem ax.inj:∀ {xs ys:List V} {us:List Value},ax xs us→ax ys us→xs=ys:=by
 intro xs ys us h
 induction h generalizing ys with
 | nil=>intro h';cases h';rfl
 | cons r t ih=>intro h';cases h' with | cons r' t'=>rw[r.inj r',ih t']
section
variable {X:Cx} {pins:AOs} {σ:St} {H:Hp} {s:Shared} {a:Addr} {xs ys:List V}
theorem SqL.of {K:Fg} (h:H a=some (.lst xs)):SqL K H a xs:=.inl (.inl h)
theorem SqT.of {K:Fg} (h:H a=some (.tup xs)):SqT K H a xs:=.inl (.inl h)
theorem Inv.list (I:Inv X pins σ H s) (h:SqL X.K H a xs):∃ its:List Value,ax xs its∧PlainL s.heap a its.toArray∧xs.length≤sizeLine:=by
 rcases h with h | ⟨o,its,n,hk,hc,hd,hs,hz,r⟩
 · obtain⟨z,its,n,r,e⟩:=h.ok I.hok;exact⟨its,r,⟨_,n,e,rfl,rfl,rfl⟩,z⟩
 · refine⟨its.toList,r,⟨o,n,I.kIn a o hk,hc,hd,by simpa using hs⟩,?_⟩;have e:=r.length;simp only[Array.length_toList] at e;lia
theorem Inv.tuple (I:Inv X pins σ H s) (h:SqT X.K H a xs):∃ its:List Value,ax xs its∧IsTup s.heap a its.toArray∧xs.length≤sizeLine:=by
 rcases h with h | ⟨o,its,n,hk,hc,hs,hz,r⟩
 · obtain⟨z,its,r,p⟩:=h.ok I.hok;exact⟨its,r,p,z⟩
 · refine⟨its.toList,r,⟨o,I.kIn a o hk,hc,n,by simpa using hs⟩,?_⟩;have e:=r.length;simp only[Array.length_toList] at e;lia
theorem Inv.list_inj (I:Inv X pins σ H s) (h:SqL X.K H a xs) (h':SqL X.K H a ys):xs=ys:=by
 obtain⟨its,r,⟨o,n,e,_,_,d⟩,_⟩:=I.list h;obtain⟨its',r',⟨o',n',e',_,_,d'⟩,_⟩:=I.list h';rw[e] at e';cases e';rw[d] at d'
 injection d' with d1 _
 have:its=its':=by simpa using congrArg Array.toList d1
 subst this;exact r.inj r'
theorem Inv.tuple_inj (I:Inv X pins σ H s) (h:SqT X.K H a xs) (h':SqT X.K H a ys):xs=ys:=by
 obtain⟨its,r,⟨o,e,_,n,d⟩,_⟩:=I.tuple h;obtain⟨its',r',⟨o',e',_,n',d'⟩,_⟩:=I.tuple h';rw[e] at e';cases e';rw[d] at d'
 injection d' with d1 _
 have:its=its':=by simpa using congrArg Array.toList d1
 subst this;exact r.inj r'
end
abbrev Cx.wish (X:Cx) (E:VSP):Cx:={X with xe:=E}
abbrev Cx.nox (X:Cx):Cx:=X.wish fun _ _=>False
theorem Cx.Ok.wish {X:Cx} (ok:X.Ok) (E:VSP):(X.wish E).Ok :=
 ⟨ok.mod,ok.kind,ok.glob,ok.blt,ok.above,ok.inj,ok.has,ok.cab,ok.hd,ok.frames,ok.stk,ok.exf,ok.bs,ok.bsz,ok.noex,ok.exfs,ok.funs,ok.frf⟩
theorem Cx.Ok.unwish {X:Cx} {E:VSP} (ok:(X.wish E).Ok):X.Ok :=
 ⟨ok.mod,ok.kind,ok.glob,ok.blt,ok.above,ok.inj,ok.has,ok.cab,ok.hd,ok.frames,ok.stk,ok.exf,ok.bs,ok.bsz,ok.noex,ok.exfs,ok.funs,ok.frf⟩
section
variable {X:Cx} {pins:AOs} {σ:St} {H:Hp} {s:Shared} {E:VSP}
theorem Inv.wish (I:Inv X pins σ H s) (E:VSP):Inv (X.wish E) pins σ H s:=⟨I.ok.wish E,I.os,I.bare,I.base,I.loc,I.cell,I.free,I.freeC,I.pin,I.hok,I.len⟩
theorem Inv.unwish (I:Inv (X.wish E) pins σ H s):Inv X pins σ H s:=⟨I.ok.unwish,I.os,I.bare,I.base,I.loc,I.cell,I.free,I.freeC,I.pin,I.hok,I.len⟩
theorem SP.unwish {D:gq} {f:Flow} {s':Shared} (h:SP (X.wish E) pins D f s'):SP X pins D f s':=by
 cases f with
 | next=>obtain⟨σ',H',I,q⟩:=h;exact⟨σ',H',I.unwish,q⟩
 | brk=>obtain⟨σ',H',I,q⟩:=h;exact⟨σ',H',I.unwish,q⟩
 | cont=>obtain⟨σ',H',I,q⟩:=h;exact⟨σ',H',I.unwish,q⟩
 | ret u=>obtain⟨v,σ',H',I,r,q⟩:=h;exact⟨v,σ',H',I.unwish,r,q⟩
theorem PSs.nox {st:List Stmt} {t:TS} (h:PSs X.nox st t):PSs X st t:=fun pins s σ H D I hw =>
 wpAny_mono (h pins s σ H D (I.wish _) hw) (fun _ _ q=>q.unwish) fun _ _ z=>False.elim z
end
section
variable {X:Cx} {st:Stmt} {bQ:List Stmt} {t u:TS} {e:Expr} {te:TE} {pos:Pos}
def qm:TS:=fun D σ H=>D.nx σ H
def rJ (t u:TS):TS:=fun D σ H=>t {D with nx:=u D} σ H
theorem aj:PSs X [] qm:=fun _ _ σ H _ I h=>wpAny_execs_nil ⟨σ,H,I,h⟩
theorem pD (h1:PS X st t) (h2:PSs X bQ u):PSs X (st::bQ) (rJ t u):=by
 intro pins s σ H D I h;refine wpAny_execs_cons (thn (h1 pins s σ H {D with nx:=u D} I h) fun f s1 q=>?_);cases f with
 | next =>
  obtain⟨σ',H',I',q⟩:=q;exact h2 pins s1 σ' H' D I' q
 | ret v=>exact q
 | brk=>exact q
 | cont=>exact q
theorem pG (h1:PS X st t):PSs X [st] t:=by
 intro pins s σ H D I h;refine wpAny_execs_cons (thn (h1 pins s σ H D I h) fun f s1 q=>?_);cases f with
 | next=>exact wpAny_execs_nil q
 | ret v=>exact q
 | brk=>exact q
 | cont=>exact q
theorem Inv.quiet {pins:AOs} {σ:St} {H:Hp} {s:Shared} (I:Inv X pins σ H s):interactive X.env=false:=by simp[interactive,I.ok.kind]
def qp (te:TE):TS:=fun D σ H=>te σ H fun _ H1=>D.nx σ H1
theorem aC (he:PE X e te) (hs:swapsWith e none pos.line X.env=pure false:=by rfl):PS X (.Expr e pos) (qp te):=by
 intro pins s σ H D I h;refine wpAny_Expr_any (thn (he pins s σ H _ I h) fun v s1 zy13=>?_) I.quiet hs;obtain⟨x,H1,I1,r1,q1⟩:=zy13;exact⟨σ,H1,I1,q1⟩
def ou (te:TE):TS:=fun D σ H=>te σ H D.rt
theorem af (he:PE X e te):PS X (.Return (some e) pos) (ou te):=by
 intro pins s σ H D I h;refine wpAny_Return_some (thn (he pins s σ H _ I h) fun v s1 zy14=>?_);obtain⟨x,H1,I1,r1,q1⟩:=zy14;exact⟨x,σ,H1,I1,r1,q1⟩
def u3 (c:TT) (t u:TS):TS:=fun D σ H=>c σ H fun b H1=>if b=true then t D σ H1 else u D σ H1
theorem aw {c:Expr} {a b:List Stmt} {tc:TT} (hc:PT X c tc) (ha:PSs X a t) (hb:PSs X b u):PS X (.If c a b pos) (u3 tc t u):=by
 intro pins s σ H D I h;refine wpAny_If (thn (hc pins s σ H _ I h) fun d s1 zy15=>?_);obtain⟨H1,I1,q1⟩:=zy15;cases d with
 | true=>exact ha pins s1 σ H1 D I1 q1
 | false=>exact hb pins s1 σ H1 D I1 q1
def rK:TS:=fun _ _ _=>False
theorem mE:PS X st rK:=fun _ _ _ _ _ _ h=>h.elim
end
abbrev TG:=V→St→Hp→(St→Hp→Prop)→Prop
abbrev TGs:=List V→St→Hp→(St→Hp→Prop)→Prop
def PG (X:Cx) (target:Expr) (t:TG):Prop :=
  ∀ (pins:AOs) (s:Shared) (σ:St) (H:Hp) (v:V) (u:Value) (Q:St→Hp→Prop),Inv X pins σ H s→aH v u→t v σ H Q →
    wpAny (model X.prog X.w) X.A (assign target X.env u) (fun _ s'=>∃ σ' H',Inv X pins σ' H' s'∧Q σ' H') X.xe s
def PGs (X:Cx) (ts:List Expr) (t:TGs):Prop :=
  ∀ (pins:AOs) (s:Shared) (σ:St) (H:Hp) (vs:List V) (us:List Value) (Q:St→Hp→Prop),Inv X pins σ H s→ax vs us→t vs σ H Q →
    wpAny (model X.prog X.w) X.A (assignInOrder ((assignEach ts X.env).map (·.2)) us) (fun _ s'=>∃ σ' H',Inv X pins σ' H' s'∧Q σ' H') X.xe s
abbrev tJ:=V→V→V→Hp→(Hp→Prop)→Prop
def wq (X:Cx) (t:tJ):Prop :=
  ∀ (pins:AOs) (s:Shared) (σ:St) (H:Hp) (o i v:V) (ov iv u:Value) (Q:Hp→Prop),Inv X pins σ H s→aH o ov→aH i iv→aH v u→t o i v H Q →
    wpAny (model X.prog X.w) X.A (setItem ov iv u) (fun _ s'=>∃ H',Inv X pins σ H' s'∧Q H') X.xe s
abbrev TIp:=V→V→Hp→VK→Prop
def PIp (X:Cx) (op:Operator) (t:TIp):Prop :=
  ∀ (pins:AOs) (s:Shared) (σ:St) (H:Hp) (x y:V) (v u:Value) (Q:VK),Inv X pins σ H s→aH x v→aH y u→t x y H Q →
    wpAny (model X.prog X.w) X.A (inplaceOp op v u) (EP X pins σ Q) X.xe s
section
variable {X:Cx} {pos:Pos}
def hI (i:Nat):TG:=fun v σ H Q=>Q (σ.set i (some v)) H
theorem ar {i:Nat} {x:Str} (hN:X.N.Nodup) (hi:X.N[i]?=some x) (hx:Loc X.env.scope x) (hf:X.fn x=true∨X.env.scope.names.lookup x=some .local:=by first | exact .inl rfl | exact .inr rfl | assumption):PG X (.Name x pos) (hI i):=by
 intro pins s σ H v u Q I r h;exact wpAny_assign_Name (fP I hN hi hx r (fun s' I'=>⟨_,H,I',h⟩) hf)
def xK:TGs:=fun vs σ H Q=>vs=[]∧Q σ H
inductive o8 (t:TG) (u:TGs) (vs:List V) (σ:St) (H:Hp) (Q:St→Hp→Prop):Prop
  | mk (v:V) (r:List V) (h:vs=v::r) (q:t v σ H fun σ' H'=>u r σ' H' Q):o8 t u vs σ H Q
def wc (t:TG) (u:TGs):TGs:=fun vs σ H Q=>o8 t u vs σ H Q
theorem cF:PGs X [] xK:=by
 intro pins s σ H vs us Q I r h;obtain⟨e,h⟩:=h;subst e;cases r;exact assignInOrder_nil ⟨σ,H,I,h⟩
theorem aK {e:Expr} {es:List Expr} {t:TG} {u:TGs} (h1:PG X e t) (h2:PGs X es u)
 (hs:(assignEach (e::es) X.env).map (·.2)=assign e X.env::(assignEach es X.env).map (·.2):=by rfl):PGs X (e::es) (wc t u):=by
 intro pins s σ H vs us Q I r h;obtain⟨v,vr,e1,h⟩:=h;subst e1;cases r with
 | cons r rr =>
  rw[hs];refine assignInOrder_cons (thn (h1 pins s σ H _ _ _ I r h) fun _ s1 zy16=>?_);obtain⟨σ1,H1,I1,q1⟩:=zy16;exact h2 pins s1 σ1 H1 _ _ Q I1 rr q1
inductive rA (K:Fg) (n:Nat) (t:TGs) (v:V) (σ:St) (H:Hp) (Q:St→Hp→Prop):Prop
  | mk (a:Addr) (xs:List V) (h:v=.ref a) (s:SqT K H a xs) (l:xs.length=n) (q:t xs σ H Q):rA K n t v σ H Q
def xI (K:Fg) (n:Nat) (t:TGs):TG:=fun v σ H Q=>rA K n t v σ H Q
theorem d9 {es:List Expr} {k:Nat} {t:TGs} {n:Nat} (hc:X.calm=true) (h:PGs X es t)
 (hn:(assignEach es X.env).length=n:=by rfl) (hst:(assignEach es X.env).findIdx? (·.1)=none:=by rfl):PG X (.Tuple es k pos) (xI X.K n t):=by
 intro pins s σ H v u Q I r hw;obtain⟨a,xs,e1,hq,hl,hw⟩:=hw;subst e1;cases r;obtain⟨its,rv,ht,hz⟩:=I.tuple hq;refine assign_Tuple_tuple (I.ok.hd hc) ht (by simp[hn,← hl,rv.length]) hst fun h' hx=>?_;have I1:Inv X pins σ H {s with heap:=h'}:=I.kept (t':=s.toks) fun b o e=>hx b o (Nat.ne_of_lt (Heap.lt_size e)) e;exact h pins _ σ H xs _ Q I1 (by simpa using rv) hw
def xJ (to ti:TE) (t:tJ):TG:=fun v σ H Q=>to σ H fun o H1=>ti σ H1 fun i H2=>t o i v H2 fun H3=>Q σ H3
theorem mK {o i:Expr} {to ti:TE} {t:tJ} (ho:PE X o to) (hi:PE X i ti) (hs:wq X t)
 (ha:∀ v,assign (.Subscript o i pos) X.env v=(do
   let ov ← holding [v] (eval o X.env)
   let iv ← holding [v,ov] (eval i X.env)
   standAt pos
   holding [v,ov,iv] (setItem ov iv v)
   release [v,ov,iv] []):=by intro _;rfl):PG X (.Subscript o i pos) (xJ to ti t):=by
 intro pins s σ H v u Q I r h;rw[ha];refine wB (wpAny_holding (thn (ho pins s σ H _ I h) fun ov s1 zy17=>?_));obtain⟨x,H1,I1,r1,q1⟩:=zy17;refine wB (wpAny_holding (thn (hi pins s1 σ H1 _ I1 q1) fun iv s2 zy18=>?_));obtain⟨y,H2,I2,r2,q2⟩:=zy18;refine wB (wpAny_standAt (wB (wpAny_holding (thn (hs pins s2 σ H2 x y v ov iv u _ I2 r1 r2 r q2) fun _ s3 zy19=>?_))));obtain⟨H3,I3,q3⟩:=zy19;exact wpAny_release ⟨σ,H3,I3,q3⟩
def rN (te:TE) (g:TG):TS:=fun D σ H=>te σ H fun x H1=>g x σ H1 D.nx
theorem fW {tg e:Expr} {te:TE} {g:TG} (he:PE X e te) (hg:PG X tg g) (hs:swapsWithSole [tg] e pos.line X.env=pure false:=by rfl) (hw:swappedStores [tg] e X.env=pure none:=by rfl)
 (h1:(assignEach [tg] X.env).map (·.2)=[assign tg X.env]:=by rfl):PS X (.Assign [tg] e pos) (rN te g):=by
 intro pins s σ H D I h;refine wpAny_Assign_stores (thn (he pins s σ H _ I h) fun v s1 zy20=>?_) hs hw;obtain⟨x,H1,I1,r1,q1⟩:=zy20;rw[h1];exact thn (hg pins s1 σ H1 x v _ I1 r1 q1) fun _ s2 q=>q
theorem pL {i:Nat} {x:Str} {e:Expr} {te:TE} {pos':Pos} (hN:X.N.Nodup) (hi:X.N[i]?=some x) (hx:Loc X.env.scope x) (he:PE X e te) (hs:swapsWith e (some (.Name x pos')) pos.line X.env=pure false:=by rfl) (hf:X.fn x=true∨X.env.scope.names.lookup x=some .local:=by first | exact .inl rfl | exact .inr rfl | assumption) :
 PS X (.Assign [.Name x pos'] e pos) (rN te (hI i)):=by
 intro pins s σ H D I h;refine wpAny_Assign_Name (thn (he pins s σ H _ I h) fun v s1 zy21=>?_) hs;obtain⟨y,H1,I1,r1,q1⟩:=zy21;exact fP I1 hN hi hx r1 (fun s2 I2=>⟨_,H1,I2,q1⟩) hf
def wV (i:Nat) (te:TE) (ti:TIp):TS:=fun D σ H=>∃ x,σ[i]?=some (some x)∧te σ H fun y H1=>ti x y H1 fun z H2=>D.nx (σ.set i (some z)) H2
theorem mG {i:Nat} {x:Str} {e:Expr} {te:TE} {op:Operator} {ti:TIp} {pos':Pos} (hN:X.N.Nodup) (hi:X.N[i]?=some x) (hx:Loc X.env.scope x) (he:PE X e te) (ho:PIp X op ti) (hf:X.fn x=true∨X.env.scope.names.lookup x=some .local:=by first | exact .inl rfl | exact .inr rfl | assumption) :
 PS X (.AugAssign (.Name x pos') op e pos) (wV i te ti):=by
 intro pins s σ H D I h;obtain⟨v,e1,h⟩:=h;obtain⟨m,hn,hl⟩:=I.loc;have vis:Vis X.env.scope x:=by rcases hx with k | k;exact .inl k;exact .inr (.inl k)
 obtain⟨u,r,l⟩:=hl i x v hi e1 vis;refine wpAny_AugAssign_Name ?_;have go:wpAny (model X.prog X.w) X.A (eval e X.env) (fun w s₂=>wpAny (model X.prog X.w) X.A (inplaceOp op u w) (fun r s₃=>wpAny (model X.prog X.w) X.A (storeName X.env x r) (fun _=>SP X pins D .next) X.xe s₃) X.xe s₂) X.xe s:=by
  refine thn (he pins s σ H _ I h) fun w s1 zy23=>?_;obtain⟨y,H1,I1,r1,q1⟩:=zy23;refine thn (ho pins s1 σ H1 v y u w _ I1 r r1 q1) fun z s2 zy24=>?_;obtain⟨zv,H2,I2,r2,q2⟩:=zy24;exact fP I2 hN hi hx r2 (fun s3 I3=>⟨_,H2,I3,q2⟩) hf
 rcases l with ⟨hk,hm⟩ | ⟨hk,c,hc,hcell⟩
 · exact wpAny_loadName_local I.ok.kind hk hn hm go
 · rcases hk with hk | hk
   · exact wpAny_loadName_cell I.ok.kind hk hc hcell go
   · rcases hx with k | k
     · have:X.env.scope.names.lookup x=some .free:=hk;rw[k] at this;cases this
     · have:X.env.scope.names.lookup x=some .free:=hk;rw[k] at this;cases this
end
section
variable {X:Cx} {pos:Pos}
def rH (c:TT) (tb:TS):TS:=fun D σ H=>∃ W:Nat→St→Hp→Prop,(∃ m,W m σ H)∧∀ m σ H,W m σ H →
  c σ H fun b H1=>if b=true then ∃ N:St→Hp→Prop,(∀ σ' H',N σ' H'→∃ m',m'<m∧W m' σ' H')∧tb {D with nx:=N,ct:=N,bk:=D.nx} σ H1 else D.nx σ H1
theorem iJ {c:Expr} {body:List Stmt} {tc:TT} {tb:TS} (hp:PassesOwn (model X.prog X.w) X.A X.env X.xe) (hc:PT X c tc) (hb:PSs X body tb):PS X (.While c body [] pos) (rH tc tb):=by
 intro pins s σ H D I h;obtain⟨W,⟨m0,w0⟩,turn⟩:=h;refine wpAny_While (codeAny_whileLoop (fun n s'=>∃ σ' H',Inv X pins σ' H' s'∧W n σ' H') ?_ m0 ⟨σ,H,I,w0⟩);rintro n s1 ⟨σ1,H1,I1,w1⟩;refine wpAny_passesOwn hp (thn (hc pins s1 σ1 H1 _ I1 (turn n σ1 H1 w1)) fun b s2 zy31=>?_);obtain⟨H2,I2,q2⟩:=zy31;cases b with
 | true =>
  obtain⟨N,hN,q2⟩:=q2;rw[if_pos rfl];refine wpAny_passesOwn hp (thn (hb pins s2 σ1 H2 _ I2 q2) fun f s3 q3=>?_);cases f with
  | next =>
   obtain⟨σ3,H3,I3,n3⟩:=q3;obtain⟨m',hm,w3⟩:=hN σ3 H3 n3;exact⟨m',hm,σ3,H3,I3,w3⟩
  | cont =>
   obtain⟨σ3,H3,I3,n3⟩:=q3;obtain⟨m',hm,w3⟩:=hN σ3 H3 n3;exact⟨m',hm,σ3,H3,I3,w3⟩
  | brk=>exact q3
  | ret v=>exact q3
 | false =>
  rw[if_neg Bool.false_ne_true];exact wpAny_execs_nil ⟨σ1,H2,I2,q2⟩
end
structure It where
  go:Nat→Hp→Prop
  yld:Nat→Hp→V→Hp→Prop
  stop:Nat→Hp→Prop
def gl (X:Cx) (pins:AOs) (H:Hp) (b:Addr):Prop :=
  H b=none∧b≠X.env.locals∧b∉X.fs∧(b∈X.ex∨X.s₀.heap.objs.size≤b)∧(∀ x c,X.env.cells.lookup x=some c→c≠b)∧∀ p∈X.pn++pins,p.1≠b
theorem Inv.fpOk {X:Cx} {pins:AOs} {σ:St} {H H':Hp} {s:Shared} {b:Addr} (I:Inv X pins σ H s) (hb:s.heap.objs.size≤b) (hn:H' b=none):gl X pins H' b:=by
 refine⟨hn,Nat.ne_of_gt (Nat.lt_of_lt_of_le I.lt hb),I.nofs hb,.inr (Nat.le_trans I.sz hb),fun x c e z=>?_,fun p hp z=>?_⟩
 · obtain⟨v,q⟩:=I.cell x c e;exact absurd (Nat.lt_of_lt_of_le q.lt (by rw[z];exact hb)) (Nat.lt_irrefl _)
 · exact absurd (Nat.lt_of_lt_of_le (Heap.lt_size (I.pin p hp).1) (by rw[z];exact hb)) (Nat.lt_irrefl _)
structure lN (P:Program) (w:World) (K:Fg) (tg:Expr) (J:It) (fp:List Addr) (it:Addr) (tn:Nat→Heap→Prop):Prop where
  mem:it∈fp
  obj:∀ i h,tn i h→∀ b∈fp,∃ o,h.get? b=some o∧∀ v,o.data≠.cell v
  keep:∀ i h h',tn i h→(∀ b∈fp,∀ o,h.get? b=some o→h'.get? b=some o)→tn i h'
  item:∀ (X:Cx),X.prog=P→X.w=w→X.K=K→X.calm=true→∀ (i:Nat) (pins:AOs) (s:Shared) (σ:St) (H:Hp) (E:VSP),Inv X pins σ H s→(∀ b∈fp,gl X pins H b)→tn i s.heap→J.go i H →
    wpAny (model P w) X.A (pyNext (.ref it)) (fun r s1=>∃ u,r=some u ∧
      wpAny (model P w) X.A (letOwnedTupleGo tg (.ref it) u) (fun _ s2=>∃ x H',Inv X pins σ H' s2∧aH x u∧J.yld i H x H'∧tn (i+1) s2.heap∧∀ b∈fp,H' b=none) E s1) E s
  done:∀ (X:Cx),X.prog=P→X.w=w→X.K=K→X.calm=true→∀ (i:Nat) (pins:AOs) (s:Shared) (σ:St) (H:Hp) (E:VSP),Inv X pins σ H s→(∀ b∈fp,gl X pins H b)→tn i s.heap→J.stop i H →
    wpAny (model P w) X.A (pyNext (.ref it)) (fun r s1=>r=none∧Inv X pins σ H s1) E s
  self:∀ (A:Around) (i:Nat) (s:Shared) (Q:VSP) (E:VSP),tn i s.heap→Q (.ref it) s→wpAny (model P w) A (pyIter (.ref it)) Q E s
abbrev TI:=St→Hp→(It→Hp→Prop)→Prop
def PIE (X:Cx) (pins:AOs) (σ:St) (tg:Expr) (R:It→Hp→Prop) (itv:Value) (s2:Shared):Prop :=
  ∃ (it:Addr) (fp:List Addr) (tn:Nat→Heap→Prop) (J:It) (H':Hp),itv=.ref it∧Inv X pins σ H' s2∧lN X.prog X.w X.K tg J fp it tn∧tn 0 s2.heap∧(∀ b∈fp,gl X pins H' b)∧R J H'
def PI (X:Cx) (tg iter:Expr) (wi:TI):Prop :=
  ∀ (pins:AOs) (s:Shared) (σ:St) (H:Hp) (R:It→Hp→Prop),Inv X pins σ H s→wi σ H R →
    wpAny (model X.prog X.w) X.A (eval iter X.env) (fun v s1=>wpAny (model X.prog X.w) X.A (pyIter v) (PIE X pins σ tg R) X.xe s1) X.xe s
theorem nw {M:Model} {A:Around} {E:VSP} {s:Shared} {tg:Expr} {it:Addr} {u:Value} {o:Obj} {n:String} {vs:Array Value} {Q:Unit→Shared→Prop} (ho:s.heap.get? it=some o) (hc:o.cls=.type n) (hd:o.data=.fields vs)
 (hn:["enumerate","zip","dict_itemiterator","dict_reverseitemiterator","odict_iterator","itertools.zip_longest","itertools.pairwise"].contains n=false) (hQ:Q () s):wpAny M A (letOwnedTupleGo tg (.ref it) u) Q E s:=by
 unfold letOwnedTupleGo;cases tg <;> first
  | exact wP hQ
  | (cases u <;> first
      | exact wP hQ
      | (refine wB (wpAny_load ho ?_)
         rw[hc,hd];show wpAny M A (if (["enumerate","zip","dict_itemiterator","dict_reverseitemiterator","odict_iterator","itertools.zip_longest","itertools.pairwise"].contains n&&vs[0]?==some (rawInt _))=true then _ else _) Q E s;rw[if_neg (by intro h;rw[hn,Bool.false_and] at h;cases h)];exact wP hQ))
def Itl (K:Fg) (a:Addr):It :=
  ⟨fun i H=>∃ xs x,SqL K H a xs∧xs[i]?=some x,fun i H x H'=>H'=H∧∀ xs,SqL K H a xs→xs[i]?=some x,fun i H=>∃ xs,SqL K H a xs∧xs.length≤i⟩
def Itt (K:Fg) (a:Addr):It :=
  ⟨fun i H=>∃ xs x,SqT K H a xs∧xs[i]?=some x,fun i H x H'=>H'=H∧∀ xs,SqT K H a xs→xs[i]?=some x,fun i H=>∃ xs,SqT K H a xs∧xs.length≤i⟩
def Itr (lo:Int) (n:Nat):It:=⟨fun i _=>i<n,fun i H x H'=>H'=H∧x=.int (lo+i),fun i _=>n≤i⟩
theorem l9 {P:Program} {w:World} {K:Fg} {tg:Expr} (a it:Addr):lN P w K tg (Itl K a) [it] it (fun i h=>h.IsListIter it a i) where
 mem:=by simp
 obj:=fun i h st b hb=>by
  have e:b=it:=by simpa using hb
  subst e;obtain⟨o,e,c,d⟩:=st;exact⟨o,e,fun v z=>by rw[d] at z;cases z⟩
 keep:=fun i h h' st k=>st.at fun o e=>k it (by simp) o e
 item:=by
  intro X hP hw hK hc i pins s σ H E I hf st hg;subst hP hw hK;obtain⟨xs,x,hq,hx⟩:=hg;obtain⟨its,rv,p,hz⟩:=I.list hq;obtain⟨u,hu,ru⟩:=rv.get hx;obtain⟨f0,f1,f2,f3,f4,f5⟩:=hf it (by simp);refine wpAny_pyNext_list_item st p.isList (x:=u) (by simpa using hu) fun h' st' sb=>?_;have I1:Inv X pins σ H {s with heap:=h'}:=I.turned (t':=s.toks) (fun b o hb e=>(sb.2 b hb).trans e) f0 f1 f3 f4 f5;obtain⟨o,e,c,d⟩:=id st';exact⟨u,rfl,nw (s:={s with heap:=h'}) e c d (by decide) ⟨x,H,I1,ru,⟨rfl,fun ys hy=>by rw[I.list_inj hy hq];exact hx⟩,st',fun b hb=>(hf b hb).1⟩⟩
 done:=by
  intro X hP hw hK hc i pins s σ H E I hf st hg;subst hP hw hK;obtain⟨xs,hq,hx⟩:=hg;obtain⟨its,rv,p,hz⟩:=I.list hq;obtain⟨f0,f1,f2,f3,f4,f5⟩:=hf it (by simp);have hl:=rv.length;exact wpAny_pyNext_list_end (I.ok.hd hc) st p.isList (by simp;lia) fun h' eb=>⟨rfl,I.turned (t':=s.toks) (fun b o hb e=>eb b o hb e) f0 f1 f3 f4 f5⟩
 self:=fun _ _ _ _ _ st h=>wpAny_pyIter_listiter st h
theorem jf {P:Program} {w:World} {K:Fg} {tg:Expr} (a it:Addr):lN P w K tg (Itt K a) [it] it (fun i h=>h.IsTupleIter it a i) where
 mem:=by simp
 obj:=fun i h st b hb=>by
  have e:b=it:=by simpa using hb
  subst e;obtain⟨o,e,c,d⟩:=st;exact⟨o,e,fun v z=>by rw[d] at z;cases z⟩
 keep:=fun i h h' st k=>st.at fun o e=>k it (by simp) o e
 item:=by
  intro X hP hw hK hc i pins s σ H E I hf st hg;subst hP hw hK;obtain⟨xs,x,hq,hx⟩:=hg;obtain⟨its,rv,p,hz⟩:=I.tuple hq;obtain⟨u,hu,ru⟩:=rv.get hx;obtain⟨f0,f1,f2,f3,f4,f5⟩:=hf it (by simp);refine wpAny_pyNext_tuple_item st (show s.heap.IsTuple a its.toArray from p) (x:=u) (by simpa using hu) fun h' st' sb=>?_;have I1:Inv X pins σ H {s with heap:=h'}:=I.turned (t':=s.toks) (fun b o hb e=>(sb.2 b hb).trans e) f0 f1 f3 f4 f5;obtain⟨o,e,c,d⟩:=id st';exact⟨u,rfl,nw (s:={s with heap:=h'}) e c d (by decide) ⟨x,H,I1,ru,⟨rfl,fun ys hy=>by rw[I.tuple_inj hy hq];exact hx⟩,st',fun b hb=>(hf b hb).1⟩⟩
 done:=by
  intro X hP hw hK hc i pins s σ H E I hf st hg;subst hP hw hK;obtain⟨xs,hq,hx⟩:=hg;obtain⟨its,rv,p,hz⟩:=I.tuple hq;obtain⟨f0,f1,f2,f3,f4,f5⟩:=hf it (by simp);have hl:=rv.length;exact wpAny_pyNext_tuple_end (I.ok.hd hc) st (show s.heap.IsTuple a its.toArray from p) (by simp;lia) fun h' eb=>⟨rfl,I.turned (t':=s.toks) (fun b o hb e=>eb b o hb e) f0 f1 f3 f4 f5⟩
 self:=fun _ _ _ _ _ st h=>wpAny_pyIter_tupleiter st h
theorem jg {P:Program} {w:World} {K:Fg} {tg:Expr} (it:Addr) (lo:Int) (n:Nat):lN P w K tg (Itr lo n) [it] it (fun i h=>IsRangeIter h it (lo+(i:Nat)*1) ((n:Int)-(i:Nat)) 1) where
 mem:=by simp
 obj:=fun i h st b hb=>by
  have e:b=it:=by simpa using hb
  subst e;exact⟨_,st,fun v z=>by
    have z':Data.fields _=Data.cell v:=z;cases z'⟩
 keep:=fun i h h' st k=>k it (by simp) _ st
 item:=by
  intro X hP hw hK hc i pins s σ H E I hf st hg;subst hP hw hK;obtain⟨f0,f1,f2,f3,f4,f5⟩:=hf it (by simp);have W:=Walks.range (prog:=X.prog) (w:=X.w) (I.ok.hd hc) it lo 1 n;refine W.item i s _ _ hg st fun v h' tk hv st' kk=>?_;obtain⟨t,rfl⟩:=hv;have I1:Inv X pins σ H {s with heap:=h',toks:=tk}:=I.turned (fun b o hb e=>kk b o (by simpa using hb) e) f0 f1 f3 f4 f5;refine⟨_,rfl,nw (s:={s with heap:=h',toks:=tk}) (n:="range_iterator") st' rfl rfl (by decide) ⟨.int (lo+i),H,I1,⟨t,?_⟩,⟨rfl,rfl⟩,st',fun b hb=>(hf b hb).1⟩⟩;rw[Int.mul_one]
 done:=by
  intro X hP hw hK hc i pins s σ H E I hf st hg;subst hP hw hK;obtain⟨f0,f1,f2,f3,f4,f5⟩:=hf it (by simp);exact wpAny_pyNext_range_end (I.ok.hd hc) st (by have:n≤i:=hg;lia) fun h' eb=>⟨rfl,I.turned (t':=s.toks) (fun b o hb e=>eb b o hb e) f0 f1 f3 f4 f5⟩
 self:=fun _ _ _ _ _ st h=>wpAny_pyIter_rangeiter st h
section
variable {X:Cx} {tg:Expr}
def qC (K:Fg) (tl:TE):TI:=fun σ H R=>tl σ H fun x H1=>∃ a,x=.ref a∧(∃ xs,SqL K H1 a xs)∧R (Itl K a) H1
def xz (K:Fg) (tl:TE):TI:=fun σ H R=>tl σ H fun x H1=>∃ a,x=.ref a∧(∃ xs,SqT K H1 a xs)∧R (Itt K a) H1
theorem eF {l:Expr} {tl:TE} (hl:PE X l tl):PI X tg l (qC X.K tl):=by
 intro pins s σ H R I h;refine thn (hl pins s σ H _ I h) fun v s1 zy32=>?_;obtain⟨x,H1,I1,r1,q1⟩:=zy32;obtain⟨a,e,⟨xs,hq⟩,q⟩:=q1;subst e;cases r1;obtain⟨its,rv,p,hz⟩:=I1.list hq;refine wpAny_pyIter_list p.isList ?_;refine⟨s1.heap.objs.size,[s1.heap.objs.size],_,_,H1,rfl,I1.kept (t':=s1.toks) fun b o e=>hpS _ e,l9 a _,⟨_,Heap.get?_push_size _ rfl,rfl,rfl⟩,fun b hb=>?_,q⟩;have e:b=s1.heap.objs.size:=by simpa using hb
 subst e;exact I1.fpOk (Nat.le_refl _) (I1.hok.fresh (Nat.le_refl _))
theorem d8 {l:Expr} {tl:TE} (hl:PE X l tl):PI X tg l (xz X.K tl):=by
 intro pins s σ H R I h;refine thn (hl pins s σ H _ I h) fun v s1 zy33=>?_;obtain⟨x,H1,I1,r1,q1⟩:=zy33;obtain⟨a,e,⟨xs,hq⟩,q⟩:=q1;subst e;cases r1;obtain⟨its,rv,p,hz⟩:=I1.tuple hq;refine wpAny_pyIter_tuple (show s1.heap.IsTuple a its.toArray from p) ?_;refine⟨s1.heap.objs.size,[s1.heap.objs.size],_,_,H1,rfl,I1.kept (t':=s1.toks) fun b o e=>hpS _ e,jf a _,⟨_,Heap.get?_push_size _ rfl,rfl,rfl⟩,fun b hb=>?_,q⟩;have e:b=s1.heap.objs.size:=by simpa using hb
 subst e;exact I1.fpOk (Nat.le_refl _) (I1.hok.fresh (Nat.le_refl _))
theorem my {pins:AOs} {σ:St} {H:Hp} {s:Shared} {R:It→Hp→Prop} {E:VSP} {lo hi:Int} {t u v:Tok} {tk:Nat} (I:Inv X pins σ H s) (h1:-(2 ^ 62)≤lo) (h2:lo<2 ^ 62) (h3:-(2 ^ 62)≤hi) (h4:hi<2 ^ 62)
 (q:R (Itr lo (hi-lo).toNat) H):wpAny (model X.prog X.w) X.A (pyIter (.ref s.heap.objs.size)) (PIE X pins σ tg R) E {s with heap:=s.heap.push {cls:=.type "range",data:=.fields #[.int lo t,.int hi u,.int 1 v]},toks:=tk}:=by
 refine wpAny_pyIter_range (IsRange.new ..) (small_one h1 h2 h3 h4) ?_;have I1:Inv X pins σ H {s with heap:=s.heap.push {cls:=.type "range",data:=.fields #[.int lo t,.int hi u,.int 1 v]},toks:=tk}:=I.kept fun b o e=>hpS _ e;refine⟨(s.heap.push {cls:=.type "range",data:=.fields #[.int lo t,.int hi u,.int 1 v]}).objs.size,[(s.heap.push {cls:=.type "range",data:=.fields #[.int lo t,.int hi u,.int 1 v]}).objs.size],_,_,H,rfl,
   I1.kept (t':=tk) fun b o e=>hpS _ e,jg _ lo (hi-lo).toNat,?_,fun b hb=>?_,q⟩
 · have e1:lo+((0:Nat):Int)*1=lo:=by simp
   have e2:(((hi-lo).toNat:Nat):Int)-((0:Nat):Int)=Builtin.Range.rangeSize lo hi 1:=by rw[rangeSize_one];split <;> lia
   show IsRangeIter _ _ (lo+((0:Nat):Int)*1) ((((hi-lo).toNat:Nat):Int)-((0:Nat):Int)) 1;rw[e1,e2];exact Heap.get?_push_size _ rfl
 · have e:b=(s.heap.push {cls:=.type "range",data:=.fields #[.int lo t,.int hi u,.int 1 v]}).objs.size:=by simpa using hb
   subst e;exact I1.fpOk (Nat.le_refl _) (I1.hok.fresh (Nat.le_refl _))
def qB (ta:TA):TI:=fun σ H R=>ta σ H fun vs H1=>∃ j:Int,vs=[.int j]∧-(2 ^ 62)≤j∧j<2 ^ 62∧R (Itr 0 j.toNat) H1
theorem bZ {a:Expr} {ta:TA} {p pos:Pos} (hg:Gl X "range") (hm:X.mg "range"=none) (ha:PA X [a] ta) (hs:starEach [a] X.env=[(false,eval a X.env)]:=by rfl):PI X tg (.Call (.Name "range" p) [a] [] pos) (qB ta):=by
 intro pins s σ H R I h;refine Call_ (dk I hg hm boot_range (PyProof.Rows.callWith_type1 (thn (ha pos pins s σ H _ I h) fun us s1 zy34=>?_) hs rfl));obtain⟨vs,H1,I1,r1,q1⟩:=zy34;obtain⟨j,e,q1,q2,q⟩:=q1;subst e;cases r1 with
 | cons r rr =>
  cases rr;obtain⟨t,rfl⟩:=r;exact call_range_1 (my I1 (by lia) (by lia) q1 q2 (by simpa using q))
def u4 (wi:TI) (g:TG) (tb:TS):TS:=fun D σ H=>wi σ H fun J H1=>∃ W:Nat→Nat→St→Hp→Prop,(∃ m,W 0 m σ H1)∧∀ i m σ H,W i m σ H →
  (J.stop i H∧D.nx σ H)∨(J.go i H∧∃ N:St→Hp→Prop,(∀ σ' H',N σ' H'→∃ m',m'<m∧W (i+1) m' σ' H')∧∀ x H',J.yld i H x H'→g x σ H' fun σ2 H2=>tb {D with nx:=N,ct:=N,bk:=D.nx} σ2 H2)
def fX (fp:List Addr) (h:Heap):AOs:=fp.filterMap fun b=>(h.get? b).map fun o=>(b,o)
theorem cS {fp:List Addr} {h:Heap} {b:Addr} {o:Obj} (hb:b∈fp) (e:h.get? b=some o):(b,o)∈fX fp h:=List.mem_filterMap.mpr ⟨b,hb,by rw[e];rfl⟩
theorem lp {fp:List Addr} {h:Heap} {p:Addr×Obj} (hp:p∈fX fp h):p.1∈fp∧h.get? p.1=some p.2:=by
 obtain⟨b,hb,e⟩:=List.mem_filterMap.mp hp;cases q:h.get? b with
 | none=>rw[q] at e;cases e
 | some o =>
  rw[q] at e;have e':(b,o)=p:=Option.some.inj e;subst e';exact⟨hb,q⟩
theorem Inv.pinned {pins:AOs} {σ:St} {H:Hp} {s:Shared} {fp:List Addr} (I:Inv X pins σ H s) (hf:∀ b∈fp,gl X pins H b) (ho:∀ b∈fp,∃ o,s.heap.get? b=some o∧∀ v,o.data≠.cell v):Inv X (pins++fX fp s.heap) σ H s :=
 I.pins_of fun p hp=>(mAp.mp hp).elim (fun z=>I.pin p (List.mem_append_right _ z)) fun z=>by
  obtain⟨hb,e⟩:=lp z;obtain⟨f0,f1,f2,_⟩:=hf p.1 hb;obtain⟨o,e',d⟩:=ho p.1 hb;rw[e] at e';cases e';exact⟨e,f0,f1,f2,d⟩
theorem Inv.unpinned {pins pl:AOs} {σ:St} {H:Hp} {s:Shared} (I:Inv X (pins++pl) σ H s):Inv X pins σ H s:=I.pins_of fun p hp=>I.pin p (List.mem_append_right _ (List.mem_append_left _ hp))
theorem bS {iter:Expr} {body:List Stmt} {wi:TI} {g:TG} {tb:TS} {pos:Pos} (hp:PassesOwn (model X.prog X.w) X.A X.env X.xe) (hc:X.calm=true) (hi:PI X tg iter wi) (hg:PG X tg g) (hb:PSs X body tb)
 (hs:∀ x,foldedSetIterable iter X.env x=pure x:=by intro _;rfl):PS X (.For tg iter body [] pos) (u4 wi g tb):=by
 intro pins s σ H D I h;refine wpAny_For (thn (hi pins s σ H _ I h) fun v s1 h1=>thn h1 fun itv s2 h2=>?_) hs;obtain⟨it,fp,tn,J,H2,e,I2,T,st2,f2,W,⟨m0,w0⟩,turn⟩:=h2;subst e;have stat:∀ {H':Hp},(∀ b∈fp,H' b=none)→∀ b∈fp,gl X pins H' b:=fun hn b hb=>⟨hn b hb,(f2 b hb).2⟩;refine codeAny_forLoop_any (fun n s'=>∃ i σ' H',Inv X pins σ' H' s'∧tn i s'.heap∧(∀ b∈fp,H' b=none)∧W i n σ' H') ?_ m0 ⟨0,σ,H2,I2,st2,fun b hb=>(f2 b hb).1,w0⟩;rintro n s3 ⟨i,σ3,H3,I3,st3,fr3,w3⟩
 rcases turn i n σ3 H3 w3 with ⟨stop,qn⟩ | ⟨go,N,hN,step⟩
 · refine wpAny_passesOwn hp (thn (T.done X rfl rfl rfl hc i pins s3 σ3 H3 X.xe I3 (stat fr3) st3 stop) fun r s4 zy36=>?_);obtain⟨hr,I4⟩:=zy36;subst hr;exact wpAny_execs_nil ⟨σ3,H3,I4,qn⟩
 · refine wpAny_passesOwn hp (thn (T.item X rfl rfl rfl hc i pins s3 σ3 H3 X.xe I3 (stat fr3) st3 go) fun r s4 zy37=>?_);obtain⟨u,hr,h4⟩:=zy37;subst hr;refine wpAny_passesOwn hp (thn h4 fun _ s5 zy38=>?_);obtain⟨x,H5,I5,r5,y5,st5,fr5⟩:=zy38;have I5':=I5.pinned (stat fr5) (T.obj _ _ st5);refine wpAny_passesOwn hp (thn (hg _ s5 σ3 H5 x u _ I5' r5 (step x H5 y5)) fun _ s6 zy39=>?_);obtain⟨σ6,H6,I6,q6⟩:=zy39;refine wpAny_passesOwn hp (thn (hb _ s6 σ6 H6 _ I6 q6) fun f s7 q7=>?_);have again:∀ {σ7:St} {H7:Hp},Inv X (pins++fX fp s5.heap) σ7 H7 s7→N σ7 H7→∃ m,m<n∧∃ i σ' H',Inv X pins σ' H' s7∧tn i s7.heap∧(∀ b∈fp,H' b=none)∧W i m σ' H':=fun {σ7 H7} I7 n7=>by
    obtain⟨m',hm,w7⟩:=hN σ7 H7 n7;refine⟨m',hm,i+1,σ7,H7,I7.unpinned,T.keep _ _ _ st5 fun b hb o e=>(I7.pin (b,o) (List.mem_append_right _ (List.mem_append_right _ (cS hb e)))).1,fun b hb=>?_,w7⟩;obtain⟨o,e,d⟩:=T.obj _ _ st5 b hb;exact (I7.pin (b,o) (List.mem_append_right _ (List.mem_append_right _ (cS hb e)))).2.1
   cases f with
   | next=>obtain⟨σ7,H7,I7,n7⟩:=q7;exact again I7 n7
   | cont=>obtain⟨σ7,H7,I7,n7⟩:=q7;exact again I7 n7
   | brk=>obtain⟨σ7,H7,I7,q7⟩:=q7;exact⟨σ7,H7,I7.unpinned,q7⟩
   | ret v=>obtain⟨x7,σ7,H7,I7,r7,q7⟩:=q7;exact⟨x7,σ7,H7,I7.unpinned,r7,q7⟩
end
abbrev R2:=V→V→Hp→VK→Prop
def OpR (X:Cx) (f:Value→Value→Sem Value) (r:R2):Prop :=
  ∀ (pins:AOs) (s:Shared) (σ:St) (H:Hp) (x y:V) (v u:Value) (Q:VK),Inv X pins σ H s→aH x v→aH y u→r x y H Q →
    wpAny (model X.prog X.w) X.A (f v u) (EP X pins σ Q) X.xe s
def UnR (X:Cx) (f:Value→Sem Value) (r:V→Hp→VK→Prop):Prop :=
  ∀ (pins:AOs) (s:Shared) (σ:St) (H:Hp) (x:V) (v:Value) (Q:VK),Inv X pins σ H s→aH x v→r x H Q →
    wpAny (model X.prog X.w) X.A (f v) (EP X pins σ Q) X.xe s
def gu (X:Cx) (f:Value) (r:List V→Hp→VK→Prop):Prop :=
  ∀ (pins:AOs) (s:Shared) (σ:St) (H:Hp) (xs:List V) (us:List Value) (Q:VK),Inv X pins σ H s→ax xs us→r xs H Q →
    wpAny (model X.prog X.w) X.A (call f us) (EP X pins σ Q) X.xe s
def xU (X:Cx) (r:V→Hp→(Bool→Hp→Prop)→Prop):Prop :=
  ∀ (pins:AOs) (s:Shared) (σ:St) (H:Hp) (x:V) (v:Value) (Q:Bool→Hp→Prop),Inv X pins σ H s→aH x v→r x H Q →
    wpAny (model X.prog X.w) X.A (truthy v) (TP X pins σ Q) X.xe s
def tOp (r:R2) (ta tb:TE):TE:=fun σ H Q=>ta σ H fun x H1=>tb σ H1 fun y H2=>r x y H2 Q
def tUn (r:V→Hp→VK→Prop) (ta:TE):TE:=fun σ H Q=>ta σ H fun x H1=>r x H1 Q
def rI (C:Int→Int→Prop) (g:Int→Int→V):R2:=fun x y H Q=>rq x y H C g Q
def rI0 (g:Int→Int→V):R2:=fun x y H Q=>o7 x y H g Q
def rU (g:Int→V):V→Hp→VK→Prop:=fun x H Q=>∃ i,x=.int i∧Q (g i) H
section
variable {X:Cx} {a b c:Expr} {ta tb tc:TE} {pos:Pos}
theorem tD (ha:PE X a ta) (hb:PE X b tb) {pins:AOs} {s:Shared} {σ:St} {H:Hp} {R:V→V→Hp→Prop} (I:Inv X pins σ H s)
 (h:ta σ H fun x H1=>tb σ H1 fun y H2=>R x y H2) {Q:VSP} {f:Value→Value→Sem Value}
 (hf:∀ v u s2 x y H2,Inv X pins σ H2 s2→aH x v→aH y u→R x y H2→wpAny (model X.prog X.w) X.A (f v u) Q X.xe s2) :
 wpAny (model X.prog X.w) X.A (eval a X.env) (fun v s₁=>wpAny (model X.prog X.w) X.A (eval b X.env) (fun u s₂=>wpAny (model X.prog X.w) X.A (f v u) Q X.xe s₂) X.xe s₁) X.xe s:=by
 refine thn (ha pins s σ H _ I h) fun v s1 zy41=>?_;obtain⟨x,H1,I1,r1,q1⟩:=zy41;refine thn (hb pins s1 σ H1 _ I1 q1) fun u s2 zy42=>?_;obtain⟨y,H2,I2,r2,q2⟩:=zy42;exact hf v u s2 x y H2 I2 r1 r2 q2
theorem au {op:Operator} {r:R2} (ho:OpR X (binaryOp op) r) (ha:PE X a ta) (hb:PE X b tb):PE X (.BinOp a op b pos) (tOp r ta tb):=by
 intro pins s σ H Q I h;exact wpAny_BinOp (tD ha hb I h fun v u s2 x y H2 I2 rx ry q=>ho pins s2 σ H2 x y v u Q I2 rx ry q)
theorem fo {op:UnaryOp} {r:V→Hp→VK→Prop} (ho:UnR X (unaryOp op) r) (ha:PE X a ta):PE X (.UnaryOp op a pos) (tUn r ta):=by
 intro pins s σ H Q I h;refine UnaryOp_ (thn (ha pins s σ H _ I h) fun v s1 zy43=>?_);obtain⟨x,H1,I1,r1,q1⟩:=zy43;exact ho pins s1 σ H1 x v Q I1 r1 q1
theorem opI {f:Value→Value→Sem Value} {C:Int→Int→Prop} {g:Int→Int→Int}
 (rule:∀ (i j:Int) (t u:Tok) (s:Shared) (Q:VSP) (E:VSP),C i j→Q (.int (g i j) s.toks) {s with toks:=s.toks+1}→wpAny (model X.prog X.w) X.A (f (.int i t) (.int j u)) Q E s) :
 OpR X f (rI C fun i j=>.int (g i j)):=by
 intro pins s σ H x y v u Q I rx ry h;obtain⟨i,j,rfl,rfl,hc,q⟩:=h;obtain⟨t,rfl⟩:=rx;obtain⟨t',rfl⟩:=ry;exact rule i j t t' s _ _ hc ⟨.int (g i j),H,I.tok _,⟨_,rfl⟩,q⟩
theorem uT {f:Value→Value→Sem Value} {g:Int→Int→Int}
 (rule:∀ (i j:Int) (t u:Tok) (s:Shared) (Q:VSP) (E:VSP),Q (.int (g i j) s.toks) {s with toks:=s.toks+1}→wpAny (model X.prog X.w) X.A (f (.int i t) (.int j u)) Q E s) :
 OpR X f (rI0 fun i j=>.int (g i j)):=by
 intro pins s σ H x y v u Q I rx ry h;obtain⟨i,j,rfl,rfl,q⟩:=h;obtain⟨t,rfl⟩:=rx;obtain⟨t',rfl⟩:=ry;exact rule i j t t' s _ _ ⟨.int (g i j),H,I.tok _,⟨_,rfl⟩,q⟩
theorem oV {f:Value→Value→Sem Value} {g:Int→Int→Bool}
 (rule:∀ (i j:Int) (t u:Tok) (s:Shared) (Q:VSP) (E:VSP),Q (.bool (g i j)) s→wpAny (model X.prog X.w) X.A (f (.int i t) (.int j u)) Q E s) :
 OpR X f (rI0 fun i j=>.bl (g i j)):=by
 intro pins s σ H x y v u Q I rx ry h;obtain⟨i,j,rfl,rfl,q⟩:=h;obtain⟨t,rfl⟩:=rx;obtain⟨t',rfl⟩:=ry;exact rule i j t t' s _ _ ⟨.bl (g i j),H,I,rfl,q⟩
def xY (i j:Int):Prop:=0<j∧j<1073741824
def wC (i j:Int):Prop:=j≠0∧j.natAbs<1073741824
def xX (i j:Int):Prop:=0≤j∧j≤1000000∧i.natAbs<2 ^ 64
def tQ (i j:Int):Prop:=(-(2 ^ 64)<i∧i<2 ^ 64)∨(-(2 ^ 64)<j∧j<2 ^ 64)
theorem tQ.ok {i j:Int} (h:tQ i j):IntMulOk i j:=by
 rcases h with ⟨h1,h2⟩ | ⟨h1,h2⟩
 · exact .of_left (intBits_le_64 h1 h2)
 · exact .of_right (intBits_le_64 h1 h2)
theorem cz:OpR X (binaryOp .Add) (rI0 fun i j=>.int (i+j)):=uT fun _ _ _ _ _ _ _ q=>add_int q
theorem c6:OpR X (binaryOp .Sub) (rI0 fun i j=>.int (i-j)):=uT fun _ _ _ _ _ _ _ q=>sub_int q
theorem cP:OpR X (binaryOp .Mult) (rI tQ fun i j=>.int (i*j)):=opI fun _ _ _ _ _ _ _ hc q=>mul_int q hc.ok
theorem fK:OpR X (binaryOp .FloorDiv) (rI xY fun i j=>.int (i / j)):=opI fun i j _ _ _ _ _ hc q=>by
 have h1:(0:Int)<j:=hc.1;have h2:j<1073741824:=hc.2;exact floordiv_int (by lia) (by rw[Int.fdiv_eq_ediv_of_nonneg i (by lia)];exact q) (.inl (PyProof.noPylong_small (by lia)))
theorem iQ:OpR X (binaryOp .FloorDiv) (rI wC fun i j=>.int (i.fdiv j)):=opI fun _ _ _ _ _ _ _ hc q=>floordiv_int hc.1 q (.inl (PyProof.noPylong_small hc.2))
theorem cQ:OpR X (binaryOp .Mod) (rI (fun _ j=>0<j) fun i j=>.int (i % j)):=opI fun i j _ _ _ _ _ hc q=>by
 have h1:(0:Int)<j:=hc;exact mod_int' (by lia) (by rw[Int.fmod_eq_emod_of_nonneg i (by lia)];exact q)
theorem oT:OpR X (binaryOp .Mod) (rI (fun _ j=>j≠0) fun i j=>.int (i.fmod j)):=opI fun _ _ _ _ _ _ _ hc q=>mod_int' hc q
theorem sw:OpR X (binaryOp .Pow) (rI xX fun i j=>.int (i ^ j.toNat)):=opI fun _ _ _ _ _ _ _ hc q=>pow_int_small hc.1 hc.2.1 hc.2.2 q
theorem unI {f:Value→Sem Value} {g:Int→Int}
 (rule:∀ (i:Int) (t:Tok) (s:Shared) (Q:VSP) (E:VSP),Q (.int (g i) s.toks) {s with toks:=s.toks+1}→wpAny (model X.prog X.w) X.A (f (.int i t)) Q E s) :
 UnR X f (rU fun i=>.int (g i)):=by
 intro pins s σ H x v Q I rx h;obtain⟨i,rfl,q⟩:=h;obtain⟨t,rfl⟩:=rx;exact rule i t s _ _ ⟨.int (g i),H,I.tok _,⟨_,rfl⟩,q⟩
theorem d3:UnR X (unaryOp .USub) (rU fun i=>.int (-i)):=unI fun _ _ _ _ _ q=>neg_int q
end
def oG:V→V→Bool
  | .non,.non=>true | .non,.int _=>true | .int _,.non=>true | .non,.bl _=>true | .bl _,.non=>true | .non,.str _=>true | .str _,.non=>true
  | .int _,.int _=>true | .bl _,.bl _=>true | .str _,.str _=>true | .byt _,.byt _=>true
  | .int _,.str _=>true | .str _,.int _=>true | .bl _,.str _=>true | .str _,.bl _=>true
  | _,_=>false
def rEq:R2:=fun x y H Q=>oG x y=true∧Q (.bl (decide (x=y))) H
def rNe:R2:=fun x y H Q=>oG x y=true∧Q (.bl (!decide (x=y))) H
theorem kR {i j:Int}:decide (V.int i=V.int j)=(i==j):=by
 rw[Bool.eq_iff_iff];simp
theorem nJ {i j:Bool}:decide (V.bl i=V.bl j)=(i==j):=by
 rw[Bool.eq_iff_iff];simp
theorem kQ {i j:Str}:decide (V.str i=V.str j)=(i==j):=by
 rw[Bool.eq_iff_iff];simp
theorem kS {i j:Array UInt8}:decide (V.byt i=V.byt j)=(i.toList==j.toList):=by
 rw[Bool.eq_iff_iff];cases i;cases j;simp
section
variable {X:Cx} {a b c:Expr} {ta tb tc:TE} {pos:Pos}
theorem aJ {pins:AOs} {σ:St} {H:Hp} {s:Shared} {Q:VK} {k k':Bool} (I:Inv X pins σ H s) (q:Q (.bl k) H) (e:k=k'):EP X pins σ Q (.bool k') s:=by
 subst e;exact⟨.bl k,H,I,rfl,q⟩
theorem aA:OpR X (compareOp .Eq) rEq:=by
 intro pins s σ H x y v u Q I rx ry h;obtain⟨hs,q⟩:=h;cases x with
 | non =>
  cases rx;cases y with
  | non=>cases ry;exact PySem.EqNone.eq_none_none (aJ I q (by simp))
  | bl j=>cases ry;exact PySem.EqNone.eq_none_bool (aJ I q (by simp))
  | int j=>obtain⟨t',rfl⟩:=ry;exact PySem.EqNone.eq_none_int (aJ I q (by simp))
  | str j=>obtain⟨t',rfl⟩:=ry;exact PySem.EqNone.eq_none_str (aJ I q (by simp))
  | _=>exact absurd (show false=true from hs) Bool.false_ne_true
 | bl i =>
  cases rx;cases y with
  | non=>cases ry;exact PySem.EqNone.eq_bool_none (aJ I q (by simp))
  | bl j=>cases ry;exact eq_bool (aJ I q nJ)
  | str j=>obtain⟨t',rfl⟩:=ry;exact PySem.EqMixed.eq_bool_str (aJ I q (by simp))
  | _=>exact absurd (show false=true from hs) Bool.false_ne_true
 | int i =>
  obtain⟨t,rfl⟩:=rx;cases y with
  | non=>cases ry;exact PySem.EqNone.eq_int_none (aJ I q (by simp))
  | int j=>obtain⟨t',rfl⟩:=ry;exact eq_int (aJ I q kR)
  | str j=>obtain⟨t',rfl⟩:=ry;exact PySem.EqMixed.eq_int_str (aJ I q (by simp))
  | _=>exact absurd (show false=true from hs) Bool.false_ne_true
 | str i =>
  obtain⟨t,rfl⟩:=rx;cases y with
  | non=>cases ry;exact PySem.EqNone.eq_str_none (aJ I q (by simp))
  | bl j=>cases ry;exact PySem.EqMixed.eq_str_bool (aJ I q (by simp))
  | int j=>obtain⟨t',rfl⟩:=ry;exact PySem.EqMixed.eq_str_int (aJ I q (by simp))
  | str j=>obtain⟨t',rfl⟩:=ry;exact eq_str (aJ I q kQ)
  | _=>exact absurd (show false=true from hs) Bool.false_ne_true
 | byt i =>
  obtain⟨t,rfl⟩:=rx;cases y with
  | byt j=>obtain⟨t',rfl⟩:=ry;exact PySem.W.eq_bytes (aJ I q kS)
  | _=>exact absurd (show false=true from hs) Bool.false_ne_true
 | _=>cases y <;> exact absurd (show false=true from hs) Bool.false_ne_true
theorem gR:OpR X (compareOp .NotEq) rNe:=by
 intro pins s σ H x y v u Q I rx ry h;obtain⟨hs,q⟩:=h;cases x with
 | non =>
  cases rx;cases y with
  | non=>cases ry;exact PySem.EqNone.ne_none_none (aJ I q (by simp))
  | bl j=>cases ry;exact PySem.EqNone.ne_none_bool (aJ I q (by simp))
  | int j=>obtain⟨t',rfl⟩:=ry;exact PySem.EqNone.ne_none_int (aJ I q (by simp))
  | str j=>obtain⟨t',rfl⟩:=ry;exact PySem.EqNone.ne_none_str (aJ I q (by simp))
  | _=>exact absurd (show false=true from hs) Bool.false_ne_true
 | bl i =>
  cases rx;cases y with
  | non=>cases ry;exact PySem.EqNone.ne_bool_none (aJ I q (by simp))
  | bl j=>cases ry;exact ne_bool (aJ I q (congrArg not nJ))
  | str j=>obtain⟨t',rfl⟩:=ry;exact PySem.EqMixed.ne_bool_str (aJ I q (by simp))
  | _=>exact absurd (show false=true from hs) Bool.false_ne_true
 | int i =>
  obtain⟨t,rfl⟩:=rx;cases y with
  | non=>cases ry;exact PySem.EqNone.ne_int_none (aJ I q (by simp))
  | int j=>obtain⟨t',rfl⟩:=ry;exact ne_int (aJ I q (congrArg not kR))
  | str j=>obtain⟨t',rfl⟩:=ry;exact PySem.EqMixed.ne_int_str (aJ I q (by simp))
  | _=>exact absurd (show false=true from hs) Bool.false_ne_true
 | str i =>
  obtain⟨t,rfl⟩:=rx;cases y with
  | non=>cases ry;exact PySem.EqNone.ne_str_none (aJ I q (by simp))
  | bl j=>cases ry;exact PySem.EqMixed.ne_str_bool (aJ I q (by simp))
  | int j=>obtain⟨t',rfl⟩:=ry;exact PySem.EqMixed.ne_str_int (aJ I q (by simp))
  | str j=>obtain⟨t',rfl⟩:=ry;exact ne_str (aJ I q (congrArg not kQ))
  | _=>exact absurd (show false=true from hs) Bool.false_ne_true
 | byt i =>
  obtain⟨t,rfl⟩:=rx;cases y with
  | byt j=>obtain⟨t',rfl⟩:=ry;exact PySem.W.ne_bytes (aJ I q (congrArg not kS))
  | _=>exact absurd (show false=true from hs) Bool.false_ne_true
 | _=>cases y <;> exact absurd (show false=true from hs) Bool.false_ne_true
theorem iP:OpR X (compareOp .Lt) (rI0 fun i j=>.bl (decide (i<j))):=oV fun _ _ _ _ _ _ _ q=>lt_int q
theorem uS:OpR X (compareOp .LtE) (rI0 fun i j=>.bl (decide (i≤j))):=oV fun _ _ _ _ _ _ _ q=>le_int q
theorem qx:OpR X (compareOp .Gt) (rI0 fun i j=>.bl (decide (j<i))):=oV fun _ _ _ _ _ _ _ q=>gt_int q
theorem qy:OpR X (compareOp .GtE) (rI0 fun i j=>.bl (decide (j≤i))):=oV fun _ _ _ _ _ _ _ q=>ge_int q
theorem jr:OpR X (compareOp .Is) (fun x y H Q=>y=.non∧Q (.bl (decide (x=.non))) H):=by
 intro pins s σ H x y v u Q I rx ry h;obtain⟨rfl,q⟩:=h;cases ry;refine is_none_gen (aJ I q ?_);cases x <;> first
  | (cases rx;rfl)
  | (obtain⟨t,rfl⟩:=rx;rfl)
theorem pN (b:Expr) {op:CmpOp} (h:op≠.In:=by decide) (h2:op≠.NotIn:=by decide):behindInMarks op b=false:=by
 have e1:(op==CmpOp.In)=false:=by cases op <;> first | rfl | exact absurd rfl h
 have e2:(op==CmpOp.NotIn)=false:=by cases op <;> first | rfl | exact absurd rfl h2
 cases b <;> simp[behindInMarks,e1,e2]
theorem fI {op:CmpOp} {r:R2} (ho:OpR X (compareOp op) r) (ha:PE X a ta) (hb:PE X b tb) (hm:behindInMarks op b=false):PE X (.Compare a [op] [b] pos) (tOp r ta tb):=by
 intro pins s σ H Q I h;exact wpAny_Compare1 (tD ha hb I h fun v u s2 x y H2 I2 rx ry q=>ho pins s2 σ H2 x y v u Q I2 rx ry q) hm
def lZ (t:TE):TT:=fun σ H Q=>t σ H fun x H'=>BlR x H' Q
theorem pM {op:CmpOp} {r:R2} (ho:OpR X (compareOp op) r) (ha:PE X a ta) (hb:PE X b tb) (hm:behindInMarks op b=false):PT X (.Compare a [op] [b] pos) (lZ (tOp r ta tb)):=by
 intro pins s σ H Q I h;refine wpAny_isTrue_Compare1 (thn (ha pins s σ H _ I h) fun v s1 zy44=>?_) hm;obtain⟨x,H1,I1,r1,q1⟩:=zy44;refine thn (hb pins s1 σ H1 _ I1 q1) fun u s2 zy45=>?_;obtain⟨y,H2,I2,r2,q2⟩:=zy45;refine thn (ho pins s2 σ H2 x y v u _ I2 r1 r2 q2) fun c s3 zy46=>?_;obtain⟨z,H3,I3,r3,k,e,q3⟩:=zy46;subst e;cases r3;exact wpAny_truthy_bool ⟨H3,I3,q3⟩
def ma (r r':R2) (ta tb tc:TE):TE:=fun σ H Q=>ta σ H fun x H1=>tb σ H1 fun y H2=>r x y H2 fun z H3=>∃ k,z=.bl k ∧
  (if k=true then tc σ H3 fun w' H4=>r' y w' H4 Q else Q (.bl false) H3)
theorem mD {op op':CmpOp} {r r':R2} (ho:OpR X (compareOp op) r) (ho':OpR X (compareOp op') r') (ha:PE X a ta) (hb:PE X b tb) (hc:PE X c tc)
 (hm:lastMarks [op,op'] [b,c]=false:=by with_unfolding_all rfl):PT X (.Compare a [op,op'] [b,c] pos) (lZ (ma r r' ta tb tc)):=by
 intro pins s σ H Q I h;refine isTrue_chain (thn (ha pins s σ H _ I h) fun v s1 zy51=>?_) hm;obtain⟨x,H1,I1,r1,q1⟩:=zy51;refine test_link (thn (hb pins s1 σ H1 _ I1 q1) fun u s2 zy52=>?_);obtain⟨y,H2,I2,r2,q2⟩:=zy52;refine thn (ho pins s2 σ H2 x y v u _ I2 r1 r2 q2) fun d s3 zy53=>?_;obtain⟨z,H3,I3,r3,k,e,q3⟩:=zy53;subst e;cases r3;refine wpAny_truthy_bool ?_;cases k with
 | false =>
  obtain⟨k',e',q'⟩:=q3;cases e';exact ite_ff ⟨H3,I3,q'⟩
 | true =>
  refine ite_tt (test_last (thn (hc pins s3 σ H3 _ I3 q3) fun w' s4 zy54=>?_));obtain⟨z',H4,I4,r4,q4⟩:=zy54;refine thn (ho' pins s4 σ H4 y z' u w' _ I4 r2 r4 q4) fun d' s5 zy55=>?_;obtain⟨z2,H5,I5,r5,k2,e2,q5⟩:=zy55;subst e2;cases r5;exact wpAny_truthy_bool ⟨H5,I5,q5⟩
def wo (K:Fg) (x:V) (H:Hp) (k:Bool):Prop :=
  match x with
  | .non=>k=false
  | .bl b=>k=b
  | .int i=>k=(i != 0)
  | .str y=>y.length≤sizeLine∧k=((y.length:Int) != 0)
  | .byt y=>y.size≤sizeLine∧k=((y.size:Int) != 0)
  | .ref p=>(∃ xs,SqL K H p xs∧k=!xs.isEmpty)∨(∃ xs,SqT K H p xs∧k=!xs.isEmpty)∨∃ kvs,H p=some (.dK kvs)∧k=!kvs.isEmpty
  | _=>False
theorem jE {κ:Type} {kvs:List (κ×V)} {vs:List (κ×Value)} (r:KV kvs vs):(!vs.isEmpty)=!kvs.isEmpty:=by
 cases r <;> rfl
theorem gc {xs:List V} {its:List Value} (r:ax xs its):(!its.toArray.isEmpty)=!xs.isEmpty:=by
 cases r <;> simp
theorem gb:(sizeLine:Nat)<2 ^ 63:=by rw[sizeLine_eq];decide
theorem rF:xU X (fun x H Q=>∃ k,wo X.K x H k∧Q k H):=by
 intro pins s σ H x v Q I rx h;obtain⟨k,e,q⟩:=h;have hl:=gb;have hs:sizeLine=16777216:=sizeLine_eq;cases x with
 | non =>
  cases rx;have e':k=false:=e;subst e';exact truthy_none ⟨H,I,q⟩
 | bl b =>
  cases rx;have e':k=b:=e;subst e';exact wpAny_truthy_bool ⟨H,I,q⟩
 | int i =>
  obtain⟨t,rfl⟩:=rx;have e':k=(i != 0):=e;subst e';exact PySem.P.truthy_int ⟨H,I,q⟩
 | str y =>
  obtain⟨t,rfl⟩:=rx;obtain⟨hy,e'⟩:y.length≤sizeLine∧k=((y.length:Int) != 0):=e;subst e';exact PySem.P.truthy_str (by lia) ⟨H,I.tok _,q⟩
 | byt y =>
  obtain⟨t,rfl⟩:=rx;obtain⟨hy,e'⟩:y.size≤sizeLine∧k=((y.size:Int) != 0):=e;subst e';exact PySem.W.truthy_bytes (by lia) ⟨H,I.tok _,q⟩
 | ref p =>
  cases rx;have e':(∃ xs,SqL X.K H p xs∧k=!xs.isEmpty)∨(∃ xs,SqT X.K H p xs∧k=!xs.isEmpty)∨∃ kvs,H p=some (.dK kvs)∧k=!kvs.isEmpty:=e
  rcases e' with ⟨xs,hx,e'⟩ | ⟨xs,hx,e'⟩ | ⟨kvs,hx,e'⟩
  · subst e';obtain⟨its,r,pl,hz⟩:=I.list hx;have hlen:=r.length;exact wpAny_truthy_list pl.isList (by simp only[List.size_toArray];lia) ⟨H,I.tok _,by rw[gc r];exact q⟩
  · subst e';obtain⟨its,r,pl,hz⟩:=I.tuple hx;have hlen:=r.length;exact truthy_tuple pl (by simp only[List.size_toArray];lia) ⟨H,I.tok _,by rw[gc r];exact q⟩
  · subst e';obtain⟨hz,hS,vs,r,m⟩:kvs.length≤sizeLine∧(p==sysModules)=false∧∃ vs,KV kvs vs∧s.heap.DictOf (aL X.prog X.w) p vs:=I.hok p _ hx;have hlen:kvs.length=vs.length:=Paired.length r;exact wpAny_truthy_dict hS m (by lia) ⟨H,I.tok _,by rw[jE r];exact q⟩
 | _=>exact (show False from e).elim
theorem mC (ha:PE X a ta) (he:∀ whole,isTrue a X.env whole=(do let v ← whole;standAt a.pos;holding [v] (truthy v))) :
 PT X a (fun σ H Q=>ta σ H fun x H'=>∃ k,wo X.K x H' k∧Q k H'):=by
 intro pins s σ H Q I h;refine isTrue_plain (thn (ha pins s σ H _ I h) fun v s1 zy56=>?_) (he _);obtain⟨x,H1,I1,r1,q1⟩:=zy56;exact rF pins s1 σ H1 x v Q I1 r1 q1
theorem ke {x:V} {us:List Value} (r:ax [x] us):∃ u,us=[u]∧aH x u:=by
 cases r with
 | cons r1 r2=>cases r2;exact⟨_,rfl,r1⟩
theorem lL:gu X (.type "int") (fun xs H Q=>(∃ i,xs=[.int i]∧Q (.int i) H)∨∃ k,xs=[.bl k]∧Q (.int (if k then 1 else 0)) H):=by
 intro pins s σ H xs us Q I r h
 rcases h with ⟨i,rfl,q⟩ | ⟨k,rfl,q⟩
 · obtain⟨u,rfl,t,rfl⟩:=ke r;exact call_int_int ⟨.int i,H,I,⟨_,rfl⟩,q⟩
 · obtain⟨u,rfl,r1⟩:=ke r;cases r1;exact call_int_bool ⟨.int (if k then 1 else 0),H,I.tok _,⟨_,rfl⟩,q⟩
end
structure jU (h:Heap) (x dx C:Addr) (mA:SOV):Prop where
  obj:h.get? x=some (PySem.W.instObj C dx)
  ns:h.Ns1 dx mA
  ne:dx≠x
theorem lu {h:Heap} {dx:Addr} {mA:SOV} (n:h.Ns1 dx mA):∃ od,h.get? dx=some od∧∀ name,PySem.W.lookIn name od=some (mA name):=by
 obtain⟨o,es,ep,ho,hd,hk,_,hm⟩:=n;refine⟨o,ho,fun name=>?_⟩;have e:=hm name;unfold nsFind findBy at e;rw[← Array.find?_toList] at e;unfold PySem.W.lookIn;rw[hd];dsimp only;split
 · rename_i y q
   rw[q] at e;exact congrArg some e
 · rename_i q
   rw[q] at e;have a:es.toList.any (·.refKey)=false:=by
    rw[List.any_eq_false];intro y hy;obtain⟨z,t,hkey⟩:=hk y (Array.mem_toList_iff.mp hy);simp[DictEntry.refKey,hkey]
   have a':¬ es.toList.any (·.refKey)=true:=by rw[a];exact Bool.false_ne_true
   rw[if_neg a'];exact congrArg some e
theorem jU.look {h:Heap} {x dx C:Addr} {mA:SOV} (I:jU h x dx C mA):∃ od,PySem.W.InstAt h x (PySem.W.instObj C dx) C (some od)∧∀ name,PySem.W.lookIn name od=some (mA name) :=
 let ⟨od,ho,hl⟩:=lu I.ns
 ⟨od,⟨I.obj,rfl,rfl,ho⟩,hl⟩
section
variable {prog:Program} {w:World} {A:Around} {E:VSP} {s:Shared} {K:Fg} {x dx C f:Addr} {mA:SOV} {name:Str} {v:Value}
theorem pQ {expr:Bool} {Q:VSP} (X:K.In s.heap) (I:jU s.heap x dx C mA) (hg:PySem.W.plainGet K C name=true) (hh:PySem.W.hasDictIn K C=true)
 (ha:PySem.W.findIn K (.ref C) name=some none) (hv:mA name=some v) (hv':PySem.W.handedIn v=true) (h:Q v {s with toks:=s.toks+1}) :
 wpAny (model prog w) A (getAttr (.ref x) name expr) Q E s:=by
 obtain⟨od,J,hl⟩:=I.look;exact PySem.W.get_value X J (PySem.W.plainGet_of hg).1 (PySem.W.findObj_own hh ha rfl (by rw[hl,hv])) hv' h
theorem ny {pl:Sem Bool} {Q:Value×List Value→Shared→Prop} (X:K.In s.heap) (I:jU s.heap x dx C mA) (hg:PySem.W.plainGet K C name=true)
 (hf:PySem.W.findIn K (.ref C) name=some (some (.ref f))) (ht:PySem.W.isFn K (.ref f)=true) (hv:mA name=none) (h:Q (.ref f,[.ref x]) s) :
 wpAny (model prog w) A (getMethod (.ref x) name pl) Q E s:=by
 obtain⟨od,J,hl⟩:=I.look;exact PySem.W.method_fn X J (PySem.W.plainGet_of hg).1 (PySem.W.plainGet_of hg).2 hf (beq_iff_eq.mp ht) (by show (PySem.W.lookIn name od).map (·.isSome)=some false;rw[hl,hv];rfl) h
theorem oF {ns:List Str} {Q:Unit→Shared→Prop} (X:K.In s.heap) (I:jU s.heap x dx C mA)
 (hs:PySem.W.findIn K (.ref C) "__setattr__"=some (some (.builtin "object.__setattr__"))) (hp:PySem.W.plainOver K C=true) (ht:PySem.W.takerIn K C name=some none) (hh:PySem.W.hasDictIn K C=true)
 (hw:PySem.Within mA ns) (hsz:ns.length≤sizeLine)
 (h:∀ h',jU h' x dx C (fun y=>if y=name then some v else mA y)→Heap.SameBut dx s.heap h'→Q () {s with heap:=h',toks:=s.toks+2}) :
 wpAny (model prog w) A (setAttr (.ref x) name v) Q E s:=by
 obtain⟨od,J,hl⟩:=I.look;refine PySem.W.set_plain X J hs (PySem.W.osa_open (s:={s with toks:=s.toks+1}) (r:=none) X J hp ht fun b=>?_);obtain⟨cd,hc,hd'⟩:=PySem.W.any_some hh;have hx:s.heap.get? x=some ⟨.ref C,some dx,.plain,#[]⟩:=I.obj;refine wB (wP (wB (wB (wpAny_loadPart hx (wB (PySem.W.Looks.here (s:={s with toks:=s.toks+1}) (PySem.W.looks_clsIn X hc) ?_))))));rw[hd'];refine wP (a:=some dx) (wB (wP (wB ?_)));refine wpAny_nsSet1 (s:={s with toks:=s.toks+1}) I.ns fun h' hn2 hs2=>?_;obtain⟨oD,esD,epD,hoD,hdD,hcD⟩:=hn2.count (PySem.Within.cons name v hw);refine wB (wpAny_lookBehind hoD (by rw[hdD];exact pastItsLine_dict (Nat.le_trans hcD (by rw[List.length_cons];lia))) ?_);exact wP (h _ ⟨(hs2.2 _ (Ne.symm I.ne)).trans I.obj,hn2,I.ne⟩ hs2)
theorem mX {R:Result→Shared→Prop} {vs:List Value} {kw:List (Str×Value)} (X:K.In s.heap) (hm:PySem.W.makesIn K C=true)
 (hi:PySem.W.findIn K (.ref C) "__init__"=some (some (.ref f))) (hf:PySem.W.typeIn K (.ref f)=some (.type "function"))
 (h:codeAny (model prog w) (A.under (.builtin "type.__call__" ⟨.ref C::vs,kw⟩)) (.call (.ref f) ⟨.ref (s.heap.objs.size+1)::vs,kw⟩) (PySem.W.InitBack (s.heap.objs.size+1) R)
   {s with heap:=(s.heap.push PySem.W.emptyDict).push (PySem.W.instObj C s.heap.objs.size)}) :
 codeAny (model prog w) A (.call (.ref C) ⟨vs,kw⟩) R s:=by
 obtain⟨hh,g,d,t,os⟩:=s;exact PySem.W.make_core (PySem.W.makes_of X hm) (PySem.W.looks_findIn X hi) (fun self=>PySem.W.bind_fn X self hf) (.inl rfl) h
end
def bR (f:Str) (v:V):List (Str×V)→List (Str×V)
  | []=>[(f,v)]
  | (g,x)::r=>if g=f then (g,v)::r else (g,x)::bR f v r
theorem ft (f g:Str) (v:V):∀ fs:List (Str×V),(bR f v fs).lookup g=if g=f then some v else fs.lookup g
 | []=>by
  show List.lookup g [(f,v)]=_;by_cases h:g=f
  · have hb:(g==f)=true:=beq_iff_eq.mpr h;simp only[List.lookup,hb,if_pos h]
  · have hb:(g==f)=false:=beq_eq_false_iff_ne.mpr h;simp only[List.lookup,hb,if_neg h]
 | (k,x)::r=>by
  have ih:=ft f g v r;rw[show bR f v ((k,x)::r)=(if k=f then (k,v)::r else (k,x)::bR f v r) from rfl];by_cases hk:k=f
  · rw[if_pos hk];by_cases h:g=k
    · have hb:(g==k)=true:=beq_iff_eq.mpr h;simp only[List.lookup,hb,if_pos (h.trans hk)]
    · have hb:(g==k)=false:=beq_eq_false_iff_ne.mpr h;simp only[List.lookup,hb,if_neg (fun e:g=f=>h (e.trans hk.symm))]
  · rw[if_neg hk];by_cases h:g=k
    · have hb:(g==k)=true:=beq_iff_eq.mpr h;simp only[List.lookup,hb,if_neg (fun e:g=f=>hk (h.symm.trans e))]
    · have hb:(g==k)=false:=beq_eq_false_iff_ne.mpr h;simp only[List.lookup,hb];exact ih
theorem fc (f:Str) (v:V):∀ fs:List (Str×V),f∈(bR f v fs).map (·.1)∧∀ g,g∈fs.map (·.1)→g∈(bR f v fs).map (·.1)
 | []=>⟨by simp[bR],fun g h=>by simp at h⟩
 | (k,x)::r=>by
  obtain⟨i1,i2⟩:=fc f v r;rw[show bR f v ((k,x)::r)=(if k=f then (k,v)::r else (k,x)::bR f v r) from rfl];by_cases hk:k=f
  · rw[if_pos hk];subst hk;exact⟨by simp,fun g h=>by simpa using h⟩
  · rw[if_neg hk];refine⟨?_,fun g h=>?_⟩
    · rw[List.map_cons];exact mCM _ i1
    · rw[List.map_cons] at h ⊢
      rcases List.mem_cons.mp h with e | e
      · exact List.mem_cons.mpr (.inl e)
      · exact mCM _ (i2 g e)
theorem fu (f:Str) (v:V):∀ fs:List (Str×V),(bR f v fs).length≤fs.length+1
 | []=>by simp[bR]
 | (k,x)::r=>by
  have ih:=fu f v r;rw[show bR f v ((k,x)::r)=(if k=f then (k,v)::r else (k,x)::bR f v r) from rfl];by_cases hk:k=f
  · rw[if_pos hk,List.length_cons,List.length_cons];lia
  · rw[if_neg hk,List.length_cons,List.length_cons];lia
theorem dn.some_of {v:V} {o:Option Value} (r:dn (some v) o):∃ u,o=some u∧aH v u:=by
 cases o with
 | none=>exact (show False from r).elim
 | some u=>exact⟨u,rfl,r⟩
theorem dn.none_of {o:Option Value} (r:dn none o):o=none:=by
 cases o with
 | none=>rfl
 | some u=>exact (show False from r).elim
theorem lC {v:V} {u:Value} (r:aH v u):PySem.W.handedIn u=true:=by
 cases v with
 | non=>cases (show u=Value.none from r);rfl
 | bl b=>cases (show u=Value.bool b from r);rfl
 | int i=>obtain⟨t,e⟩:=(show ∃ t,u=Value.int i t from r);cases e;rfl
 | str x=>obtain⟨t,e⟩:=(show ∃ t,u=Value.str x t from r);cases e;rfl
 | byt b=>obtain⟨t,e⟩:=(show ∃ t,u=Value.bytes b t from r);cases e;rfl
 | flt b=>obtain⟨t,e⟩:=(show ∃ t,u=Value.float b t from r);cases e;rfl
 | ref a=>cases (show u=Value.ref a from r);rfl
 | ty n=>cases (show u=Value.type n from r);rfl
section
variable {P:Program} {w:World} {H H':Hp} {h h':Heap} {a C dx:Addr} {fs fs':List (Str×V)}
theorem eK (hok:HOk P w H h) (e:H a=some (.ins C dx fs)):∃ mA,jU h a dx C mA∧(∀ f,dn (fs.lookup f) (mA f))∧PySem.Within mA (fs.map (·.1))∧fs.length≤1000∧H dx=some (.own a):=by
 obtain⟨d,z,ne,ob,mA,n,r,q⟩:=(show be P w H h a (.ins C dx fs) from hok a _ e);exact⟨mA,⟨ob,n,ne⟩,r,q,z,d⟩
end
structure Cls (K:Fg) (C:Addr):Prop where
  pg:PySem.W.plainGet K C Str.empty=true
  hd:PySem.W.hasDictIn K C=true
  po:PySem.W.plainOver K C=true
  sa:PySem.W.findIn K (.ref C) "__setattr__"=some (some (.builtin "object.__setattr__"))
theorem Cls.get {K:Fg} {C:Addr} (c:Cls K C) (f:Str):PySem.W.plainGet K C f=true:=c.pg
def aM (K:Fg) (C:Addr) (f:Str):Prop:=PySem.W.findIn K (.ref C) f=some none
theorem aM.taker {K:Fg} {C:Addr} {f:Str} (n:aM K C f):PySem.W.takerIn K C f=some none:=by
 unfold PySem.W.takerIn;rw[show PySem.W.findIn K (.ref C) f=some none from n];rfl
structure o0 (K:Fg) (C:Addr) (m:Str) (f:Addr):Prop where
  at_:PySem.W.findIn K (.ref C) m=some (some (.ref f))
  fn:PySem.W.isFn K (.ref f)=true
  kp:PySem.W.keepIn K (.ref f)=true
section
variable {X:Cx} {pins:AOs} {σ:St} {H:Hp} {s:Shared} {a C dx:Addr} {fs:List (Str×V)} {f:Str} {v:V} {A:Around} {E:VSP}
theorem gg {b:Bool} {Q:VSP} (I:Inv X pins σ H s) (e:H a=some (.ins C dx fs)) (c:Cls X.K C) (n:aM X.K C f) (l:fs.lookup f=some v)
 (h:∀ u s',Inv X pins σ H s'→aH v u→Q u s'):wpAny (model X.prog X.w) A (getAttr (.ref a) f b) Q E s:=by
 obtain⟨mA,O,r,_,_,_⟩:=eK I.hok e;obtain⟨u,hu,ru⟩:=dn.some_of (v:=v) (o:=mA f) (by rw[← l];exact r f);exact pQ I.kIn O (c.get f) c.hd n hu (lC ru) (h u _ (I.tok _) ru)
theorem gf {m:Str} {g:Addr} {pl:Sem Bool} {Q:Value×List Value→Shared→Prop} (I:Inv X pins σ H s) (e:H a=some (.ins C dx fs)) (c:Cls X.K C) (k:o0 X.K C m g) (l:fs.lookup m=none)
 (h:Q (.ref g,[.ref a]) s):wpAny (model X.prog X.w) A (getMethod (.ref a) m pl) Q E s:=by
 obtain⟨mA,O,r,_,_,_⟩:=eK I.hok e;have hn:mA m=none:=dn.none_of (by rw[← l];exact r m);exact ny I.kIn O (c.get m) k.at_ k.fn hn h
theorem fR {y:V} {u:Value} {Q:Unit→Shared→Prop} (I:Inv X pins σ H s) (e:H a=some (.ins C dx fs)) (c:Cls X.K C) (n:aM X.K C f) (hl:fs.length<1000) (ry:aH y u)
 (h:∀ s',Inv X pins σ (upd H a (.ins C dx (bR f y fs))) s'→Q () s'):wpAny (model X.prog X.w) A (setAttr (.ref a) f u) Q E s:=by
 obtain⟨mA,O,r,wi,_,ho⟩:=eK I.hok e;have hz:(fs.map (·.1)).length≤sizeLine:=by rw[lMp,sizeLine_eq];lia
 refine oF I.kIn O c.sa c.po n.taker c.hd wi hz fun h' O' sb=>h _ ?_;have hd:∃ o,h'.get? dx=some o:=let ⟨o,_,_,e',_⟩:=O'.ns;⟨o,e'⟩;refine I.write (x:=a) (e:=dx) (by rw[e];exact True.intro) (.inr ho) (fun b q hb z=>(sb.2 b hb).trans z) hd ?_;refine⟨by rw[a0 O.ne];exact ho,?_,O.ne,O'.obj,_,O'.ns,fun g=>?_,fun g hg=>?_⟩
 · have:=fu f y fs;lia
 · show dn ((bR f y fs).lookup g) (if g=f then some u else mA g);rw[ft];by_cases q:g=f
   · rw[if_pos q,if_pos q];exact ry
   · rw[if_neg q,if_neg q];exact r g
 · by_cases q:g=f
   · rw[q];exact (fc f y fs).1
   · refine (fc f y fs).2 g (wi g fun z=>hg ?_);show (if g=f then some u else mA g)=none;rw[if_neg q];exact z
theorem Inv.made (I:Inv X pins σ H s):Inv X pins σ (upd (upd H s.heap.objs.size (.own (s.heap.objs.size+1))) (s.heap.objs.size+1) (.ins C s.heap.objs.size []))
 {s with heap:=(s.heap.push PySem.W.emptyDict).push (PySem.W.instObj C s.heap.objs.size)}:=by
 have e1:(s.heap.push PySem.W.emptyDict).get? s.heap.objs.size=some PySem.W.emptyDict:=Heap.get?_push_size s.heap rfl;have e2:((s.heap.push PySem.W.emptyDict).push (PySem.W.instObj C s.heap.objs.size)).get? (s.heap.objs.size+1)=some (PySem.W.instObj C s.heap.objs.size):=by
  have:=Heap.get?_push_size (s.heap.push PySem.W.emptyDict) (o:=PySem.W.instObj C s.heap.objs.size) rfl
  rwa [Heap.size_push] at this
 have e3:(s.heap.push PySem.W.emptyDict).Ns s.heap.objs.size (fun _=>none):=⟨PySem.W.emptyDict,#[],_,e1,rfl,(fun e he=>absurd he (by simp)),fun _=>rfl⟩;have I1:=I.laid (a:=s.heap.objs.size) (o:=.own (s.heap.objs.size+1)) (h':=s.heap.push PySem.W.emptyDict) (t':=s.toks) (fun b u q=>hpS _ q) (Nat.le_refl _) ⟨_,e1⟩;refine I1.laid (a:=s.heap.objs.size+1) (o:=.ins C s.heap.objs.size []) (t':=s.toks) (fun b u q=>hpS _ q) (Nat.le_of_eq (Heap.size_push _ _)) ?_;have ne:s.heap.objs.size≠s.heap.objs.size+1:=Nat.ne_of_lt (Nat.lt_succ_self _);refine⟨by rw[a0 ne,pE],Nat.zero_le _,ne,e2,fun _=>none,(Heap.Ns1.of_empty e3).at fun o q=>hpS _ q,fun _=>True.intro,fun y hy=>absurd rfl hy⟩
theorem qe {prog:Program} {w:World} {env:Env} {e:Expr} {f:Str} {pos:Pos} {s:Shared} {Q:VSP} (hb:attributeBase e f env (eval e env)=eval e env)
 (h:wpAny (model prog w) A (eval e env) (fun o s₁=>wpAny (model prog w) A (getAttr o f true) Q E s₁) E s):wpAny (model prog w) A (eval (.Attribute e f pos) env) Q E s :=
 Attribute_any_ h (by rw[arm_eval_Attribute,hb])
end
def wU (K:Fg) (ta:TE) (f:Str):TE:=fun σ H Q=>ta σ H fun x H1=>∃ a C dx fs v,x=.ref a∧H1 a=some (.ins C dx fs)∧Cls K C∧aM K C f∧fs.lookup f=some v∧Q v H1
def wY (K:Fg) (ta tv:TE) (f:Str):TS:=fun D σ H=>tv σ H fun y H1=>ta σ H1 fun x H2=>∃ a C dx fs,x=.ref a∧H2 a=some (.ins C dx fs)∧Cls K C∧aM K C f∧fs.length<1000 ∧
  D.nx σ (upd H2 a (.ins C dx (bR f y fs)))
def wy (X:Cx) (op:Operator) (rd:V→V→Hp→VK→Prop):Prop :=
  ∀ (pins:AOs) (s:Shared) (σ:St) (H:Hp) (x y:V) (u v:Value) (Q:VK),Inv X pins σ H s→aH x u→aH y v→rd x y H Q→wpAny (model X.prog X.w) X.A (inplaceOp op u v) (EP X pins σ Q) X.xe s
def oI (K:Fg) (ta tv:TE) (rd:V→V→Hp→VK→Prop) (f:Str):TS:=fun D σ H=>ta σ H fun x H1=>∃ a C dx fs v,x=.ref a∧H1 a=some (.ins C dx fs)∧Cls K C∧aM K C f∧fs.lookup f=some v ∧
  tv σ H1 fun y H2=>rd v y H2 fun z H3=>∃ dx' fs',H3 a=some (.ins C dx' fs')∧fs'.length<1000∧D.nx σ (upd H3 a (.ins C dx' (bR f z fs')))
section
variable {X:Cx} {o e value:Expr} {f:Str} {pos pos' tpos:Pos} {ta tv:TE}
theorem bq (he:PE X e ta) (hb:attributeBase e f X.env (eval e X.env)=eval e X.env):PE X (.Attribute e f pos) (wU X.K ta f):=by
 intro pins s σ H Q I h;refine qe hb (thn (he pins s σ H _ I h) fun u s1 zy57=>?_);obtain⟨x,H1,I1,rx,a,C,dx,fs,v,ex,ea,c,n,l,q⟩:=zy57;subst ex;obtain rfl:u=Value.ref a:=rx;exact gg I1 ea c n l fun u' s2 I2 ru=>⟨v,H1,I2,ru,q⟩
theorem bY (ha:PE X o ta) (hv:PE X value tv) (hs:swapsWith value (some (.Attribute o f pos')) pos.line X.env=pure false):PS X (.Assign [.Attribute o f pos'] value pos) (wY X.K ta tv f):=by
 intro pins s σ H D I h;refine plainObj_wpAny_Assign_Attribute (thn (hv pins s σ H _ I h) fun u s1 zy59=>?_) hs;obtain⟨y,H1,I1,ry,q⟩:=zy59;refine thn (ha pins s1 σ H1 _ I1 q) fun ov s2 zy60=>?_;obtain⟨x,H2,I2,rx,a,C,dx,fs,ex,ea,c,n,l,q2⟩:=zy60;subst ex;obtain rfl:ov=Value.ref a:=rx;exact fR I2 ea c n l ry fun s3 I3=>⟨σ,_,I3,q2⟩
theorem ll {op:Operator} {rd:V→V→Hp→VK→Prop} (ha:PE X o ta) (hv:PE X value tv) (hop:wy X op rd):PS X (.AugAssign (.Attribute o f tpos) op value pos) (oI X.K ta tv rd f):=by
 intro pins s σ H D I h;refine wpAny_AugAssign_AttributeAny (thn (ha pins s σ H _ I h) fun ov s1 zy61=>?_);obtain⟨x,H1,I1,rx,a,C,dx,fs,v,ex,ea,c,n,l,q⟩:=zy61;subst ex;obtain rfl:ov=Value.ref a:=rx;refine gg I1 ea c n l fun u s2 I2 ru=>thn (hv pins s2 σ H1 _ I2 q) fun w3 s3 zy62=>?_;obtain⟨y,H2,I3,ry,q3⟩:=zy62;refine thn (hop pins s3 σ H2 v y u w3 _ I3 ru ry q3) fun w4 s4 zy63=>?_;obtain⟨z,H3,I4,rz,dx',fs',ea',l',q4⟩:=zy63;exact fR I4 ea' c n l' rz fun s5 I5=>⟨σ,_,I5,q4⟩
def xk:V→V→Hp→VK→Prop:=fun x y H Q=>∃ i j,x=.int i∧y=.int j∧Q (.int (i-j)) H
theorem sY:wy X .Sub xk:=by
 rintro pins s σ H x y u v Q I rx ry ⟨i,j,rfl,rfl,q⟩;obtain⟨t,rfl⟩:=(show ∃ t,u=Value.int i t from rx);obtain⟨t',rfl⟩:=(show ∃ t',v=Value.int j t' from ry);exact PyProof.Rows.isub_int ⟨.int (i-j),H,I.tok _,⟨_,rfl⟩,q⟩
end
section
variable {X:Cx} {pins:AOs} {σ:St} {H:Hp} {s:Shared} {A:Around} {E:VSP} {Q:VSP} {c:Value} {b:Bool}
inductive fE (K:Fg) (H:Hp):V→Value→Prop where
  | non:fE K H .non (.type "NoneType")
  | bl (x:Bool):fE K H (.bl x) (.type "bool")
  | int (i:Int):fE K H (.int i) (.type "int")
  | str (x:Str):fE K H (.str x) (.type "str")
  | flt (x:UInt64):fE K H (.flt x) (.type "float")
  | lst {a:Addr} {xs:List V} (e:H a=some (.lst xs)):fE K H (.ref a) (.type "list")
  | frz {a:Addr} {o:Obj} {xs:List V} (e:H a=some (.frz o (.lst xs))):fE K H (.ref a) (.type "list")
  | tup {a:Addr} {xs:List V} (e:H a=some (.tup xs)):fE K H (.ref a) (.type "tuple")
  | dK {a:Addr} {kvs:List (Key×V)} (e:H a=some (.dK kvs)):fE K H (.ref a) (.type "dict")
  | dT {a:Addr} {kvs:List (List Key×V)} (e:H a=some (.dT kvs)):fE K H (.ref a) (.type "dict")
  | ins {a C dx:Addr} {fs:List (Str×V)} (e:H a=some (.ins C dx fs)) (cl:Cls K C) (ha:PySem.W.findIn K (.ref C) "__class__"=some (some (.builtin "object.__class__")))
      (hn:PySem.W.specialIn K (.builtin "object.__class__") "__get__"=some (some (.builtin "getset_descriptor.__get__"))) (htk:PySem.W.takesIn K (.builtin "object.__class__")=some true)
      (hm:PySem.W.mroIn K C (.type "object")=some true):fE K H (.ref a) (.ref C)
theorem dC {x:V} {u t:Value} (I:Inv X pins σ H s) (rx:aH x u) (ty:fE X.K H x t) (e:PySem.W.kitOne X.K t c=some b) (h:∀ tk,Q (.bool b) {s with toks:=tk}) :
 wpAny (model X.prog X.w) A (call (.builtin "isinstance") [u,c]) Q E s:=by
 cases ty with
 | non=>cases (show u=Value.none from rx);exact PySem.W.kia_one PySem.W.kitx_none I.kIn True.intro e (fun z=>nomatch z) h
 | bl y=>cases (show u=Value.bool y from rx);exact PySem.W.kia_one PySem.W.kitx_bool I.kIn True.intro e (fun z=>nomatch z) h
 | int i=>obtain⟨t,q⟩:=(show ∃ t,u=Value.int i t from rx);cases q;exact PySem.W.kia_one PySem.W.kitx_int I.kIn True.intro e (fun z=>nomatch z) h
 | str y=>obtain⟨t,q⟩:=(show ∃ t,u=Value.str y t from rx);cases q;exact PySem.W.kia_one PySem.W.kitx_str I.kIn True.intro e (fun z=>nomatch z) h
 | flt y=>obtain⟨t,q⟩:=(show ∃ t,u=Value.float y t from rx);cases q;exact PySem.W.kia_one PySem.W.kitx_float I.kIn True.intro e (fun z=>nomatch z) h
 | @lst a xs ea =>
  cases (show u=Value.ref a from rx);obtain⟨_,_,n,_,h1⟩:=(show be X.prog X.w H s.heap a (.lst xs) from I.hok a _ ea);exact PySem.W.kia_one PySem.W.kitx_list I.kIn ⟨_,h1,rfl⟩ e (fun z=>nomatch z) h
 | @frz a ob xs ea =>
  cases (show u=Value.ref a from rx);obtain⟨_,_,_,n,_,h1⟩:=(show be X.prog X.w H s.heap a (.frz ob (.lst xs)) from I.hok a _ ea);exact PySem.W.kia_one PySem.W.kitx_list I.kIn ⟨_,h1,rfl⟩ e (fun z=>nomatch z) h
 | @tup a xs ea =>
  cases (show u=Value.ref a from rx);obtain⟨_,_,_,p⟩:=(show be X.prog X.w H s.heap a (.tup xs) from I.hok a _ ea);obtain⟨o,h1,h2,_⟩:=p;exact PySem.W.kia_one PySem.W.kitx_tuple I.kIn ⟨o,h1,h2⟩ e (fun z=>nomatch z) h
 | @dK a kvs ea =>
  cases (show u=Value.ref a from rx);obtain⟨_,_,vs,_,p⟩:=(show be X.prog X.w H s.heap a (.dK kvs) from I.hok a _ ea);obtain⟨o,es,ep,h1,h2,_⟩:=p;exact PySem.W.kia_one PySem.W.kitx_dict I.kIn ⟨o,h1,h2.1⟩ e (fun z=>nomatch z) h
 | @dT a kvs ea =>
  cases (show u=Value.ref a from rx);obtain⟨_,_,xs,_,o,es,ep,h1,h2,_⟩:=(show be X.prog X.w H s.heap a (.dT kvs) from I.hok a _ ea);exact PySem.W.kia_one PySem.W.kitx_dict I.kIn ⟨o,h1,h2.1⟩ e (fun z=>nomatch z) h
 | @ins a C dx fs ea cl ha hn htk hm =>
  cases (show u=Value.ref a from rx);obtain⟨mA,O,_⟩:=eK I.hok ea;obtain⟨od,J,_⟩:=O.look;exact PySem.W.kia_one (PySem.W.kitx_own (cl.get _) cl.hd ha hn htk hm) I.kIn J e (fun z=>nomatch z) h
end
structure bG (k:Nat) (A:Around):Prop where
  hd:A.handled=none
  dp:A.depth+3*k+5<recursionLimit
  un:A.units+16*k+200<cLine
  gd:A.guards=some []
theorem bG.mono {j k:Nat} {A:Around} (r:bG k A) (h:j≤k):bG j A:=⟨r.hd,by have:=r.dp;lia,by have:=r.un;lia,r.gd⟩
theorem bG.deeper {k:Nat} {A:Around} (r:bG (k+1) A) (env:Env):bG k (A.deeper env) :=
 ⟨r.hd,by have:=r.dp;show A.depth+1+3*k+5<_;lia,by have:=r.un;show A.units+3+16*k+200<_;lia,r.gd⟩
theorem jB {A:Around} {C:Addr} {us:List Value} {kw:List (Str×Value)}:(A.under (.builtin "type.__call__" ⟨.ref C::us,kw⟩)).depth=A.depth+1:=by
 first | rfl | simp[Around.under,Code.weight,Code.isCreation,Code.isGuard,Code.isCaller,Code.frames,Code.isFrame,guardIds]
theorem jA {A:Around} {C:Addr} {us:List Value} {kw:List (Str×Value)}:(A.under (.builtin "type.__call__" ⟨.ref C::us,kw⟩)).units=A.units+1:=by
 first | rfl | simp[Around.under,Code.cUnits,Code.frames,Code.isFrame]
theorem bG.make {k:Nat} {A:Around} (r:bG (k+1) A) (C:Addr) (us:List Value) (kw:List (Str×Value)):bG k (A.under (.builtin "type.__call__" ⟨.ref C::us,kw⟩)) :=
 ⟨r.hd,by have:=r.dp;rw[jB];lia,by have:=r.un;rw[jA];lia,by first | exact r.gd | (show pushGuards _ A.guards=_;rw[r.gd];rfl)⟩
theorem bG.depth {k:Nat} {A:Around} (r:bG k A):A.depth<recursionLimit:=by have:=r.dp;lia
theorem bG.units {k:Nat} {A:Around} (r:bG k A):A.units+64<cLine:=by have:=r.un;lia
def gx:TA:=fun _ H Q=>Q [] H
def dI (ta:TE) (tr:TA):TA:=fun σ H Q=>ta σ H fun x H1=>tr σ H1 fun xs H2=>Q (x::xs) H2
section
variable {X:Cx} {e:Expr} {es:List Expr} {te:TE} {t:TA} {pos:Pos}
theorem pB:PA X [] gx:=fun _ _ _ _ H Q I h=>Calls.spliced_nil ⟨[],H,I,.nil,h⟩
theorem pA (ha:PE X e te) (hr:PA X es t) (hs:starEach (e::es) X.env=(false,eval e X.env)::starEach es X.env:=by rfl):PA X (e::es) (dI te t):=by
 intro pos pins s σ H Q I h;rw[hs];show wpAny _ _ (spliced ((false,eval e X.env)::backTo pos (starEach es X.env))) _ _ s;refine Calls.spliced_cons (thn (ha pins s σ H _ I h) fun u s1 zy65=>?_);obtain⟨x,H1,I1,r1,q1⟩:=zy65;refine thn (hr pos pins s1 σ H1 _ I1 q1) fun us s2 zy66=>?_;obtain⟨xs,H2,I2,r2,q2⟩:=zy66;exact⟨x::xs,H2,I2,.cons r1 r2,q2⟩
def lc (t:TA):TE:=fun σ H Q=>t σ H fun xs H1=>xs.length≤sizeLine∧∀ p,H1 p=none→Q (.ref p) (upd H1 p (.tup xs))
def rL (t:TA):TE:=fun σ H Q=>t σ H fun xs H1=>xs.length≤sizeLine∧∀ p,H1 p=none→Q (.ref p) (upd H1 p (.lst xs))
theorem aa {x1} (h:PA X es t):PE X (.Tuple es x1 pos) (lc t):=by
 intro pins s σ H Q I hq;refine wpAny_Tuple_spliced (thn (h pos pins s σ H _ I hq) fun us s1 ⟨xs,H1,I1,r,z,q⟩=>⟨by rw[← r.length];exact z,?_⟩);have hf:H1 s1.heap.objs.size=none:=I1.hok.fresh (Nat.le_refl _);refine⟨.ref s1.heap.objs.size,upd H1 s1.heap.objs.size (.tup xs),I1.laid (t':=s1.toks) (fun b u e=>hpS _ e) (Nat.le_refl _) ?_,rfl,q _ hf⟩;exact⟨z,us,r,⟨_,Heap.get?_push_size _ rfl,rfl,_,rfl⟩⟩
theorem aU (h:PA X es t):PE X (.List es pos) (rL t):=by
 intro pins s σ H Q I hq;refine wpAny_List_spliced (thn (h pos pins s σ H _ I hq) fun us s1 ⟨xs,H1,I1,r,z,q⟩=>⟨by rw[← r.length];exact z,?_⟩);have hf:H1 s1.heap.objs.size=none:=I1.hok.fresh (Nat.le_refl _);refine⟨.ref s1.heap.objs.size,upd H1 s1.heap.objs.size (.lst xs),I1.laid (t':=s1.toks) (fun b u e=>hpS _ e) (Nat.le_refl _) ?_,rfl,q _ hf⟩;exact⟨z,us,0,r,Heap.get?_push_size _ rfl⟩
end
abbrev Sp:=List V→Hp→VK→XK→Prop
abbrev CXT:=List Env→Hp→Shared→XK→Value→Shared→Prop
structure jZ (P:Program) (w:World) (K:Fg) (mg:SOV) (base:Heap) (A:Around) (outer:List Env) (s:Shared) (H:Hp):Prop where
  frames:A.frames=some outer
  mod:Mod K mg base
  bs:∀ b o,base.get? b=some o→s.heap.get? b=some o∧H b=none
  bsz:base.objs.size≤s.heap.objs.size
  funs:s.heap.FunFrames base outer
  frf:∀ b∈frs outer,H b=none
  hok:HOk P w H s.heap
  bare:AllBare s.gens
def CE (outer:List Env) (P:Program) (w:World) (H:Hp) (s:Shared) (Q:VK) (u:Value) (s':Shared):Prop :=
  ∃ v H',s'.os=s.os∧AllBare s'.gens∧Un (frs outer) [] H H' s.heap s'.heap∧HOk P w H' s'.heap∧aH v u∧Q v H'
def CR (CX:CXT) (outer:List Env) (P:Program) (w:World) (H:Hp) (s:Shared) (Q:VK) (E:XK) (r:Result) (s':Shared):Prop :=
  match r with
  | .ok (.ret u)=>CE outer P w H s Q u s'
  | .ok _=>False
  | .error e=>CX outer H s E e s'
structure d0 (P:Program) (w:World) (K:Fg) (mg:SOV) (base:Heap) (CX:CXT) (k:Nat) (f:Addr) (fd:FuncData) (ps:List Str) (sp:Sp):Prop where
  len:∀ vs H Q E,sp vs H Q E→vs.length=ps.length
  run:∀ (A:Around) (outer:List Env) (s:Shared) (H:Hp) (args:Args) (us:List Value) (vs:List V) (Q:VK) (E:XK),bG k A→jZ P w K mg base A outer s H→BindsTo s fd args (ps.zip us)→ax vs us→sp vs H Q E →
    codeAny (model P w) A (.call (.ref f) args) (CR CX outer P w H s Q E) s
theorem jZ.make {P:Program} {w:World} {K:Fg} {mg:SOV} {base:Heap} {A:Around} {outer:List Env} {s:Shared} {H:Hp} (e:jZ P w K mg base A outer s H) (C:Addr) (us:List Value) (kw:List (Str×Value)) :
 jZ P w K mg base (A.under (.builtin "type.__call__" ⟨.ref C::us,kw⟩)) outer s H:=⟨by first | exact e.frames | (simpa [Around.under,Code.envs,Code.isFrame,pushEnvs] using e.frames),e.mod,e.bs,e.bsz,e.funs,e.frf,e.hok,e.bare⟩
section
variable {X:Cx} {pins:AOs} {σ:St} {H:Hp} {s s':Shared}
theorem Inv.env0 (I:Inv X pins σ H s):jZ X.prog X.w X.K X.mg X.base X.A X.stack s H :=
 ⟨I.ok.frames,I.ok.mod,I.bs,Nat.le_trans I.ok.bsz I.sz,I.stack,I.stkFree,I.hok,I.bare⟩
theorem Inv.after {Q:VK} {u:Value} (I:Inv X pins σ H s) (h:CE X.stack X.prog X.w H s Q u s'):EP X pins σ Q u s':=by
 obtain⟨v,H',os,bare,un,hok,r,q⟩:=h;obtain⟨hh,g,d,t,os'⟩:=s';obtain rfl:os'=s.os:=os;exact⟨v,H',I.call (h':=hh) (g':=g) (d':=d) (t':=t) (ch:=[]) un hok bare (fun b z=>absurd z (by simp)),r,q⟩
end
def kh (sp:Sp) (dvs:List V) (E:XK) (t:TA):TE:=fun σ H Q=>t σ H fun vs H1=>sp (vs++dvs) H1 Q E
def kf (C:Addr) (m:Str) (sp:Sp) (dvs:List V) (E:XK) (ta:TE) (t:TA):TE:=fun σ H Q=>ta σ H fun x H1=>∃ a dx fs,x=.ref a∧H1 a=some (.ins C dx fs)∧fs.lookup m=none ∧
  t σ H1 fun vs H2=>sp (x::(vs++dvs)) H2 Q E
def qo (C:Addr) (sp:Sp) (dvs:List V) (E:XK) (t:TA):TE:=fun σ H Q=>t σ H fun vs H1=>∀ x dx,H1 x=none→H1 dx=none→dx≠x →
  sp (.ref x::(vs++dvs)) (upd (upd H1 dx (.own x)) x (.ins C dx [])) (fun v H2=>v=.non∧Q (.ref x) H2) E
def cG (K:Fg) (fd:FuncData) (ps:List Str) (ds:List Value):Prop :=
  ∀ (s:Shared) (us:List Value),K.In s.heap→(us++ds).length=ps.length→BindsTo s fd ⟨us,[]⟩ (ps.zip (us++ds))
theorem cG.all {K:Fg} {fd:FuncData} {ps:List Str} (h:∀ us:List Value,us.length=ps.length→bindArgs fd ⟨us,[]⟩=pure (ps.zip us)):cG K fd ps []:=fun s us _ hl=>by
 rw[List.append_nil] at hl ⊢;exact .of_eq (h us hl)
def e8 (CX:CXT) (X:Cx) (E:XK):Prop:=∀ (pins:AOs) (σ:St) (H:Hp) (s:Shared) (e:Value) (s':Shared),Inv X pins σ H s→CX X.stack H s E e s'→X.xe e s'
section
variable {X:Cx} {CX:CXT} {k:Nat} {f C:Addr} {fd:FuncData} {ps:List Str} {sp:Sp} {dvs:List V} {ds:List Value} {E:XK} {x m:Str} {p pos apos:Pos} {e o:Expr} {es:List Expr} {ta:TE} {t:TA}
theorem ic {pins:AOs} {σ:St} {H:Hp} {s:Shared} {Q:VK} {us:List Value} {vs:List V} (F:d0 X.prog X.w X.K X.mg X.base CX k f fd ps sp) (hr:bG k X.A) (hb:cG X.K fd ps ds) (hd:ax dvs ds) (hx:e8 CX X E)
 (I:Inv X pins σ H s) (r:ax vs us) (h:sp (vs++dvs) H Q E):wpAny (model X.prog X.w) X.A (call (.ref f) us) (EP X pins σ Q) X.xe s:=by
 have r2:ax (vs++dvs) (us++ds):=r.append hd;have hl:(us++ds).length=ps.length:=by rw[← r2.length];exact F.len _ _ _ _ h
 refine wpAny_call (codeAny_mono (F.run X.A X.stack s H ⟨us,[]⟩ (us++ds) (vs++dvs) Q E hr I.env0 (hb s us I.kIn hl) r2 h) fun r s' hq=>?_);cases r with
 | error e=>exact hx pins σ H s e s' I hq
 | ok fl =>
  cases fl with
  | ret u=>exact I.after hq
  | next=>exact False.elim hq
  | brk=>exact False.elim hq
  | cont=>exact False.elim hq
theorem oQ (F:d0 X.prog X.w X.K X.mg X.base CX k f fd ps sp) (hr:bG k X.A) (hg:Gl X x) (hm:X.mg x=some (.ref f)) (hk:PySem.W.keepIn X.K (.ref f)=true) (hb:cG X.K fd ps ds) (hd:ax dvs ds) (hx:e8 CX X E)
 (ha:PA X (e::es) t) (hdb:(x==("__debug__":Str))=false:=by decide) (he:starEach (e::es) X.env=(false,eval e X.env)::starEach es X.env:=by rfl) (hpl:(backTo pos (starEach es X.env)).any (·.1)=false:=by rfl) :
 PE X (.Call (.Name x p) (e::es) [] pos) (kh sp dvs E t):=by
 intro pins s σ H Q I h;refine wpAny_Call_Name_kw (im I hg hm ?_ hdb);refine PySem.W.callWith_K (h₀:=X.base) I.ok.mod.kin hk (thn (ha pos pins s σ H _ I h) fun us s1 zy67=>?_) he hpl;obtain⟨vs,H1,I1,r,q⟩:=zy67;refine⟨I1.kIn,?_⟩;exact ic F hr hb hd hx I1 r q
theorem oO {pl:Sem Bool} (he:PE X o ta) (c:Cls X.K C) (hm:o0 X.K C m f) (F:d0 X.prog X.w X.K X.mg X.base CX k f fd ps sp) (hr:bG k X.A) (hb:cG X.K fd ps ds) (hd:ax dvs ds) (hx:e8 CX X E) (ha:PA X (e::es) t)
 (hst:starEach (e::es) X.env=(false,eval e X.env)::starEach es X.env:=by rfl) (hpl:(backTo pos (starEach es X.env)).any (·.1)=false:=by rfl)
 (ht:eval (.Call (.Attribute o m apos) (e::es) [] pos) X.env=(do
   let ov ← eval o X.env
   standAt apos.atName
   let (f,first) ← holding [ov] (getMethod ov m pl)
   callWith pos f first (backTo pos (starEach (e::es) X.env)) (backToKw pos (keywordEach [] X.env))):=by rfl) :
 PE X (.Call (.Attribute o m apos) (e::es) [] pos) (kf C m sp dvs E ta t):=by
 intro pins s σ H Q I h;refine PySem.W.methodCall_KW (pl:=pl) (thn (he pins s σ H _ I h) fun u s1 zy68=>?_) ht;obtain⟨x,H1,I1,rx,a,dx,fs,ex,ea,l,q⟩:=zy68;subst ex;obtain rfl:u=Value.ref a:=rx;refine gf I1 ea c hm l ?_;refine PySem.W.callWith_K (first:=[.ref a]) (h₀:=X.base) I.ok.mod.kin hm.kp (thn (ha pos pins s1 σ H1 _ I1 q) fun us s2 zy69=>?_) hst hpl;obtain⟨vs,H2,I2,r,q2⟩:=zy69;refine⟨I2.kIn,?_⟩;exact ic (us:=.ref a::us) (vs:=.ref a::vs) F hr hb hd hx I2 (.cons rfl r) q2
theorem mL {pl:Sem Bool} (he:PE X o ta) (c:Cls X.K C) (hm:o0 X.K C m f) (F:d0 X.prog X.w X.K X.mg X.base CX k f fd ps sp) (hr:bG k X.A) (hb:cG X.K fd ps ds) (hd:ax dvs ds) (hx:e8 CX X E)
 (ht:eval (.Call (.Attribute o m apos) [] [] pos) X.env=(do
   let ov ← eval o X.env
   standAt apos.atName
   let (f,first) ← holding [ov] (getMethod ov m pl)
   callWith pos f first (backTo pos (starEach [] X.env)) (backToKw pos (keywordEach [] X.env))):=by rfl) :
 PE X (.Call (.Attribute o m apos) [] [] pos) (kf C m sp dvs E ta gx):=by
 intro pins s σ H Q I h;refine PySem.W.methodCall_KW (pl:=pl) (thn (he pins s σ H _ I h) fun u s1 zy70=>?_) ht;obtain⟨x,H1,I1,rx,a,dx,fs,ex,ea,l,q⟩:=zy70;subst ex;obtain rfl:u=Value.ref a:=rx;refine gf I1 ea c hm l ?_;exact PySem.W.callWith_K0 (first:=[.ref a]) I1.kIn hm.kp (ic (us:=[.ref a]) (vs:=[.ref a]) F hr hb hd hx I1 (.cons rfl .nil) q)
structure Mk (K:Fg) (C f:Addr):Prop where
  makes:PySem.W.makesIn K C=true
  init:PySem.W.findIn K (.ref C) "__init__"=some (some (.ref f))
  fn:PySem.W.isFn K (.ref f)=true
  kp:PySem.W.keepIn K (.ref C)=true
theorem mr {pins:AOs} {σ:St} {H:Hp} {s:Shared} {Q:VK} {us:List Value} {vs:List V} (M:Mk X.K C f) (F:d0 X.prog X.w X.K X.mg X.base CX k f fd ps sp) (hr:bG (k+1) X.A) (hb:cG X.K fd ps ds) (hd:ax dvs ds)
 (hx:e8 CX X E) (I:Inv X pins σ H s) (r:ax vs us)
 (h:∀ x dx,H x=none→H dx=none→dx≠x→sp (.ref x::(vs++dvs)) (upd (upd H dx (.own x)) x (.ins C dx [])) (fun v H2=>v=.non∧Q (.ref x) H2) E) :
 wpAny (model X.prog X.w) X.A (call (.ref C) us) (EP X pins σ Q) X.xe s:=by
 have hq:=h (s.heap.objs.size+1) s.heap.objs.size (I.hok.fresh (Nat.le_succ _)) (I.hok.fresh (Nat.le_refl _)) (Nat.ne_of_lt (Nat.lt_succ_self _));have I2:=Inv.made (C:=C) I;have r2:ax (V.ref (s.heap.objs.size+1)::(vs++dvs)) (Value.ref (s.heap.objs.size+1)::(us++ds)):=.cons rfl (r.append hd);have hl:(Value.ref (s.heap.objs.size+1)::us++ds).length=ps.length:=by
  have e:=r2.length;rw[F.len _ _ _ _ hq] at e;exact e.symm
 refine wpAny_call (mX (f:=f) I.kIn M.makes M.init (beq_iff_eq.mp M.fn) (codeAny_mono (F.run _ X.stack _ _ ⟨Value.ref (s.heap.objs.size+1)::us,[]⟩ (Value.ref (s.heap.objs.size+1)::(us++ds)) _ _ E (hr.make C us [])
   (I2.env0.make C us []) (hb _ (Value.ref (s.heap.objs.size+1)::us) I2.kIn hl) r2 hq) fun r s' hq'=>?_))
 cases r with
 | error e=>exact hx pins σ _ _ e s' I2 hq'
 | ok fl =>
  cases fl with
  | ret u =>
   obtain⟨v,H',I3,rv,ev,q3⟩:=I2.after hq';subst ev;exact⟨rv,⟨V.ref (s.heap.objs.size+1),H',I3,rfl,q3⟩⟩
  | next=>exact False.elim hq'
  | brk=>exact False.elim hq'
  | cont=>exact False.elim hq'
theorem oP (M:Mk X.K C f) (F:d0 X.prog X.w X.K X.mg X.base CX k f fd ps sp) (hr:bG (k+1) X.A) (hg:Gl X x) (hm:X.mg x=some (.ref C)) (hb:cG X.K fd ps ds) (hd:ax dvs ds) (hx:e8 CX X E)
 (ha:PA X (e::es) t) (hdb:(x==("__debug__":Str))=false:=by decide) (he:starEach (e::es) X.env=(false,eval e X.env)::starEach es X.env:=by rfl) (hpl:(backTo pos (starEach es X.env)).any (·.1)=false:=by rfl) :
 PE X (.Call (.Name x p) (e::es) [] pos) (qo C sp dvs E t):=by
 intro pins s σ H Q I h;refine wpAny_Call_Name_kw (im I hg hm ?_ hdb);refine PySem.W.callWith_K (h₀:=X.base) I.ok.mod.kin M.kp (thn (ha pos pins s σ H _ I h) fun us s1 zy71=>?_) he hpl;obtain⟨vs,H1,I1,r,q⟩:=zy71;refine⟨I1.kIn,?_⟩;exact mr M F hr hb hd hx I1 r q
end
section
variable {X:Cx} {CX:CXT} {k:Nat} {f C:Addr} {fd:FuncData} {ps ks:List Str} {sp:Sp} {E:XK} {x m:Str} {p pos apos kpos:Pos} {e o:Expr} {es:List Expr} {kws:List Keyword} {te ta:TE} {t tk:TA} {nm:Option Str}
variable {g:List Value→List Value→List Value} {gV:List V→List V→List V}
end
structure bF (N P:List Str) (sc:Scope):Prop where
  kind:sc.kind=.function
  co:sc.isCoroutine=false
  gen:sc.isGenerator=false
  nd:N.Nodup
  pre:N.take P.length=P
  par:∀ x∈P,sc.names.lookup x=some .local∨sc.names.lookup x=some .cell
  nofree:∀ y∈sc.names,y.2≠.free
theorem fsM {N P:List Str} {sc:Scope} (a:sc.kind=.function:=by rfl) (b:sc.isCoroutine=false:=by rfl) (c:sc.isGenerator=false:=by rfl) (d:N.Nodup:=by decide +kernel) (e:N.take P.length=P:=by rfl) (f:∀ x∈P,sc.names.lookup x=some .local∨sc.names.lookup x=some .cell:=by decide +kernel) (g:∀ y∈sc.names,y.2≠.free:=by decide +kernel):bF N P sc:=⟨a,b,c,d,e,f,g⟩
theorem hZ {kindOf:Str→Option NameKind} {x:Str}:∀ {binds:List (Str×Value)} {m:SOV},(∀ v,(x,v)∉binds)→bindL kindOf binds m x=m x
 | [],_,_=>rfl
 | (n,v)::r,m,h=>by
  unfold bindL;rw[hZ fun w hw=>h w (mCM _ hw)];split
  · have:x≠n:=by rintro rfl;exact h v mCS
    simp[this]
  · rfl
theorem i5 {kindOf:Str→Option NameKind} {x:Str}:∀ {binds:List (Str×Value)} {m:SOV},(∀ v,(x,v)∉binds)→bindC kindOf binds m x=m x
 | [],_,_=>rfl
 | (n,v)::r,m,h=>by
  unfold bindC;rw[i5 fun w hw=>h w (mCM _ hw)];split
  · rfl
  · have:x≠n:=by rintro rfl;exact h v mCS
    simp[this]
theorem i4 {kindOf:Str→Option NameKind} {x:Str} {v:Value}:∀ {P:List Str} {vs:List Value} {i:Nat} {m:SOV},P.Nodup→P[i]?=some x→vs[i]?=some v→kindOf x=some .local →
 bindL kindOf (P.zip vs) m x=some v
 | [],_,_,_,_,h,_,_=>by simp at h
 | _::_,[],_,_,_,_,h,_=>by simp at h
 | p::P,w::vs,0,m,nd,h1,h2,hk=>by
  simp at h1 h2;subst h1;subst h2;show bindL kindOf ((p,w)::P.zip vs) m p=_;unfold bindL;rw[hZ fun v hv=>(List.nodup_cons.mp nd).1 (List.of_mem_zip hv).1,if_pos hk];simp
 | p::P,w::vs,i+1,m,nd,h1,h2,hk=>by
  show bindL kindOf ((p,w)::P.zip vs) m x=_;unfold bindL;exact i4 (i:=i) (List.nodup_cons.mp nd).2 (by simpa using h1) (by simpa using h2) hk
theorem i6 {kindOf:Str→Option NameKind} {x:Str} {v:Value}:∀ {P:List Str} {vs:List Value} {i:Nat} {m:SOV},P.Nodup→P[i]?=some x→vs[i]?=some v→kindOf x≠some .local →
 bindC kindOf (P.zip vs) m x=some v
 | [],_,_,_,_,h,_,_=>by simp at h
 | _::_,[],_,_,_,_,h,_=>by simp at h
 | p::P,w::vs,0,m,nd,h1,h2,hk=>by
  simp at h1 h2;subst h1;subst h2;show bindC kindOf ((p,w)::P.zip vs) m p=_;unfold bindC;rw[i5 fun v hv=>(List.nodup_cons.mp nd).1 (List.of_mem_zip hv).1,if_neg hk];simp
 | p::P,w::vs,i+1,m,nd,h1,h2,hk=>by
  show bindC kindOf ((p,w)::P.zip vs) m x=_;unfold bindC;exact i6 (i:=i) (List.nodup_cons.mp nd).2 (by simpa using h1) (by simpa using h2) hk
def cr (N:List Str) (vs:List V):St:=vs.map some++List.replicate (N.length-vs.length) none
def eP (CX:CXT) (P:Program) (w:World) (K:Fg) (mg:SOV) (base:Heap) (N:List Str) (qual:Str) (scope:Scope) (f:Addr) (cd:Value) (A:Around) (outer:List Env) (s:Shared) (H:Hp) (E:XK):Cx where
  prog:=P
  w:=w
  K:=K
  mg:=mg
  base:=base
  A:=A.deeper (envOfC qual scope s.heap.objs.size f cd)
  N:=N
  s₀:=s
  H₀:=H
  env:=envOfC qual scope s.heap.objs.size f cd
  outer:=outer
  stack:=envOfC qual scope s.heap.objs.size f cd::outer
  ex:=[]
  calm:=true
  fn:=fun _=>true
  pn:=[]
  xe:=fun e s'=>wpAny (model P w) (A.deeper (envOfC qual scope s.heap.objs.size f cd)) (leaving (envOfC qual scope s.heap.objs.size f cd) e) (fun _ s''=>CX outer H s E e s'') (fun e' s''=>CX outer H s E e' s'') s'
theorem j6 {sc:Scope} {n:Nat} {x:Str} (h:sc.names.lookup x=some .cell):∃ c,(cellsFrom n sc.names []).lookup x=some c:=by
 have q:=PySem.W.cellsFrom_some sc.names n [] (.inl h);exact Option.isSome_iff_exists.mp q
theorem lA {CX:CXT} {P:Program} {w:World} {K:Fg} {mg:SOV} {base:Heap} {N ps:List Str} {qual:Str} {scope:Scope} {f:Addr} {cd:Value} {A:Around} {outer:List Env} {s s1:Shared} {H:Hp} {E:XK} {us:List Value} {vs:List V}
 (S:bF N ps scope) (hd:A.handled=none) (e0:jZ P w K mg base A outer s H) (hl:vs.length=ps.length) (r:ax vs us)
 (x:InCallC s s.heap.objs.size (bindL (envOfC qual scope s.heap.objs.size f cd).kindOf (ps.zip us) fun _=>none) (cellsFrom (s.heap.objs.size+1) scope.names []) (bindC (envOfC qual scope s.heap.objs.size f cd).kindOf (ps.zip us) fun _=>none) s1) :
 Inv (eP CX P w K mg base N qual scope f cd A outer s H E) [] (cr N vs) H s1:=by
 have hpl:ps.length≤N.length:=by have:=congrArg List.length S.pre;rw[lTk] at this;lia
 obtain⟨h1,tk,rfl,hk⟩:=x.done;have noA:∀ b:Addr,b∉(eP CX P w K mg base N qual scope f cd A outer s H E).ex:=fun b z=>absurd (show b∈([]:List Addr) from z) (by simp);refine⟨⟨e0.mod,S.kind,rfl,rfl,Nat.le_refl _,fun y z c h1 h2=>?_,fun y hy=>?_,fun y c _ h=>?_,fun _=>hd,Around.frames_deeper e0.frames,.inr ⟨rfl,rfl⟩,fun b z=>absurd z (noA b),e0.bs,e0.bsz,fun b _ _=>noA b,fun b z=>absurd z (noA b),e0.funs,e0.frf⟩,
   rfl,e0.bare,Un.kept hk,⟨_,x.toInCall.ns,fun i y v h1 h2 h3=>?_⟩,fun y c h=>⟨_,x.cell y c h⟩,e0.hok.fresh (Nat.le_refl _),fun y c h=>?_,fun p hp=>absurd (show p∈([]:AOs) from hp) (by simp),e0.hok.kept hk,?_⟩
 · exact name_of_addr x.apart (PySem.mem_of_lookup h1) (PySem.mem_of_lookup h2)
 · have hy:scope.names.lookup y=some .cell∨scope.names.lookup y=some .free:=hy
   rcases hy with hy | hy
   · exact j6 hy
   · exact absurd rfl (S.nofree _ (PySem.mem_of_lookup hy))
 · exact Nat.le_of_lt (x.above y c (PySem.mem_of_lookup h))
 · have hi:i<vs.length:=by
    unfold cr at h2;by_cases hi:i<vs.length
    · exact hi
    · rw[List.getElem?_append_right (by simpa using hi)] at h2;rw[List.getElem?_replicate] at h2;split at h2 <;> cases h2
   have ha:vs[i]?=some v:=by
    unfold cr at h2;rw[List.getElem?_append_left (by simpa using hi),gEM] at h2;cases e:vs[i]? with
    | none=>rw[e] at h2;cases h2
    | some a=>rw[e] at h2;cases h2;rfl
   obtain⟨u,hu,rv⟩:=r.get ha;have hp:ps[i]?=some y:=by
    rw[← S.pre,List.getElem?_take_of_lt (by lia)];exact h1
   have ndP:ps.Nodup:=by rw[← S.pre];exact S.nd.sublist (List.take_sublist _ _)
   refine⟨u,rv,?_⟩
   rcases S.par y (mGE hp) with k | k
   · exact .inl ⟨k,i4 ndP hp hu k⟩
   · obtain⟨c,e⟩:=j6 (n:=s.heap.objs.size+1) k;refine .inr ⟨.inl k,c,e,?_⟩;have q:=x.cell y c e;rw[i6 ndP hp hu (by show scope.names.lookup y≠_;rw[k];decide)] at q;exact q
 · exact e0.hok.fresh (Nat.le_of_lt (x.above y c (PySem.mem_of_lookup h)))
 · unfold cr;show _=N.length;rw[lAp,lMp,List.length_replicate];lia
theorem we {CX:CXT} {P:Program} {w:World} {K:Fg} {mg:SOV} {base:Heap} {k:Nat} {f:Addr} {name qual:Str} {params:Arguments} {body:List Stmt} {scope:Scope} {dV kV doc pm cdv ct oc:Value} {an od:Option Addr}
 {osl:Array (Option Value)} {N ps:List Str} {sp:Sp} (lk:K.lookup f=some ⟨oc,od,.func (PySem.W.fnOf name qual params body scope dV kV doc pm an cdv ct),osl⟩) (hcd:PySem.W.codeIn K cdv qual=true) (S:bF N ps scope)
 (len:∀ vs H Q E,sp vs H Q E→vs.length=ps.length)
 (hbody:∀ (A:Around) (outer:List Env) (s:Shared) (H:Hp) (vs:List V) (Q:VK) (E:XK),bG k (A.deeper (envOfC qual scope s.heap.objs.size f cdv))→sp vs H Q E →
   ∃ t,PSs (eP CX P w K mg base N qual scope f cdv A outer s H E) body t∧t {nx:=fun _ H'=>Q .non H',rt:=Q} (cr N vs) H) :
 d0 P w K mg base CX (k+1) f (PySem.W.fnOf name qual params body scope dV kV doc pm an cdv ct) ps sp:=by
 refine⟨len,fun A outer s H args us vs Q E hr e0 hb r hsp=>?_⟩;have hl:=len _ _ _ _ hsp;have KX:K.In s.heap:=e0.mod.kin.keeps fun b o e=>(e0.bs b o e).1;have lim:s.heap.NoLimit:=e0.mod.nolimit.keeps fun b o e=>(e0.bs b o e).1;have hkind:∀ y∈ps.zip us,scope.names.lookup y.1=some .local∨(scope.names.lookup y.1=some .cell∧((cellsFrom (s.heap.objs.size+1) scope.names []).lookup y.1).isSome=true):=fun ⟨n,v⟩ hy=>by
  rcases S.par n (List.of_mem_zip hy).1 with q | q
  · exact .inl q
  · exact .inr ⟨q,PySem.W.cellsFrom_some _ _ _ (.inl q)⟩
 refine codeAny_call_function hr.depth (KX _ _ lk) rfl S.co S.gen rfl (PySem.W.codeRec_of KX hcd) (hb _ _ _ _ ?_);refine wpAny_newFunctionEnv_cells S.kind hkind fun env he s1 x=>?_;subst he;refine⟨lim.keeps x.toInCall.keep,codeAny_func ?_⟩;obtain⟨t,ht,hq⟩:=hbody A outer s H vs Q E (hr.deeper _) hsp;have I:Inv (eP CX P w K mg base N qual scope f cdv A outer s H E) [] (cr N vs) H s1:=lA S hr.hd e0 hl r x;refine wpAny_mono (ht [] s1 (cr N vs) H _ I hq) (fun fl s' hs=>?_) fun e s' hs=>hs;have fin:∀ {σ':St} {H':Hp} {v:V} {u:Value},Inv (eP CX P w K mg base N qual scope f cdv A outer s H E) [] σ' H' s'→aH v u→Q v H'→CE outer P w H s Q u s' :=
  fun {σ' H' v u} J rv q=>⟨v,H',J.os,J.bare,J.base,J.hok,rv,q⟩
 cases fl with
 | ret u =>
  obtain⟨v,σ',H',J,rv,q⟩:=hs;exact fin J rv q
 | next =>
  obtain⟨σ',H',J,q⟩:=hs;exact fin (v:=V.non) (u:=Value.none) J rfl q
 | brk =>
  obtain⟨_,_,_,q⟩:=hs;exact False.elim q
 | cont =>
  obtain⟨_,_,_,q⟩:=hs;exact False.elim q
section
variable {X:Cx} {x:Str} {p pos:Pos} {e:Expr} {es:List Expr} {t:TA} {id T:String} {r:List V→Hp→VK→Prop}
def tCB (r:List V→Hp→VK→Prop) (t:TA):TE:=fun σ H Q=>t σ H fun vs H1=>r vs H1 Q
theorem iK (hc:gu X (.builtin id) r) (hg:Gl X x) (hm:X.mg x=none) (hv:bootBuiltins x=some (.builtin id)) (ha:PA X (e::es) t) (hn:x≠"__name__":=by decide) (hdb:(x==("__debug__":Str))=false:=by decide)
 (he:starEach (e::es) X.env=(false,eval e X.env)::starEach es X.env:=by rfl) (hpl:(backTo pos (starEach es X.env)).any (·.1)=false:=by rfl):PE X (.Call (.Name x p) (e::es) [] pos) (tCB r t):=by
 intro pins s σ H Q I h;refine wpAny_Call_Name_kw (dk I hg hm hv ?_ hn hdb);refine PyProof.Rows.callWith_builtin1 (thn (ha pos pins s σ H _ I h) fun us s1 zy76=>?_) he hpl;obtain⟨vs,H1,I1,r1,q1⟩:=zy76;exact hc pins s1 σ H1 vs us Q I1 r1 q1
theorem f9 (hc:gu X (.type T) r) (hg:Gl X x) (hm:X.mg x=none) (hv:bootBuiltins x=some (.type T)) (ha:PA X (e::es) t) (hn:x≠"__name__":=by decide) (hdb:(x==("__debug__":Str))=false:=by decide)
 (he:starEach (e::es) X.env=(false,eval e X.env)::starEach es X.env:=by rfl) (hpl:(backTo pos (starEach es X.env)).any (·.1)=false:=by rfl):PE X (.Call (.Name x p) (e::es) [] pos) (tCB r t):=by
 intro pins s σ H Q I h;refine wpAny_Call_Name_kw (dk I hg hm hv ?_ hn hdb);refine PyProof.Rows.callWith_type1 (thn (ha pos pins s σ H _ I h) fun us s1 zy77=>?_) he hpl;obtain⟨vs,H1,I1,r1,q1⟩:=zy77;exact hc pins s1 σ H1 vs us Q I1 r1 q1
end
end L2
namespace HT
open PySem PyProof.Rows
section
open PySem.SeqAt
open PySem.AutoSeq1 (wpAny_loadPart')
open PySem.MeetsSeq PySem.MeetsSeq2 PySem.MeetsSeq3
end
section
variable {prog:Program} {w:World} {A:Around} {E:VSP} {s:Shared}
theorem qd {t b:Addr} {vs ws:List Value} {Q:VSP} (ht:IsTup s.heap t vs.toArray) (hb:IsTup s.heap b ws.toArray) (hv:vs≠[])
 (h1:ws=[]→Q (.ref t) s) (h2:ws≠[]→Q (.ref s.heap.objs.size) {s with heap:=s.heap.push {cls:=.type "tuple",data:=.seq (vs++ws).toArray}})
 (hsz:vs.length+ws.length≤sizeLine):wpAny (model prog w) A (binaryOp .Add (.ref t) (.ref b)) Q E s:=by
 obtain⟨⟨cls,dd,data,sl⟩,ho,hc,n,hd⟩:=id ht;obtain⟨⟨cls2,dd2,data2,sl2⟩,ho2,hc2,n2,hd2⟩:=id hb;simp only at hc hd hc2 hd2;subst hc hd hc2 hd2;have e:vs.toArray++ws.toArray=(vs++ws).toArray:=by simp
 by_cases hw:ws=[]
 · exact concat_meets ⟨_,ho,rfl⟩ ⟨_,ho2,rfl⟩ noFill_tuple_add seq_tuple_add PySem.F.slot_tuple_add PySem.F.entry_tuple_add (PySem.F.args_tuple_add_2 _ _)
    (tuple_addW1 t b vs.toArray ws.toArray n n2 dd dd2 sl sl2 (by simpa using hv) (by simp[hw])) ⟨ho,ho2,h1 hw⟩
 · refine concat_meets ⟨_,ho,rfl⟩ ⟨_,ho2,rfl⟩ noFill_tuple_add seq_tuple_add PySem.F.slot_tuple_add PySem.F.entry_tuple_add (PySem.F.args_tuple_add_2 _ _)
    (tuple_addW2 t b vs.toArray ws.toArray n n2 dd dd2 sl sl2 (by simpa using hv) (by simpa using hw) (by rw[List.size_toArray,List.size_toArray];exact hsz)) ⟨ho,ho2,?_⟩
   rw[e];exact h2 hw
def sIx (n d:Nat):Option Int→Nat
  | none=>d
  | some v=>if v<0 then (v+(n:Int)).toNat else min v.toNat n
theorem d6 (n d:Nat):sIx n d none=d:=rfl
theorem fH (n d k:Nat):sIx n d (some (k:Int))=min k n:=by
 show (if (k:Int)<0 then ((k:Int)+(n:Int)).toNat else min (k:Int).toNat n)=min k n;rw[if_neg (by lia),Int.toNat_natCast]
theorem rT (n d:Nat) (hd:d≤n) (o:Option Int):sIx n d o≤n:=by
 cases o with
 | none=>exact hd
 | some v =>
  show (if v<0 then (v+(n:Int)).toNat else min v.toNat n)≤n;by_cases hv:v<0
  · rw[if_pos hv];lia
  · rw[if_neg hv];exact Nat.min_le_right _ _
theorem j0 (v:Int) (n:Nat) (h:¬ v<0):min v (n:Int)=((min v.toNat n:Nat):Int):=by
 obtain⟨k,rfl⟩:=Int.eq_ofNat_of_zero_le (Int.not_lt.mp h);show min (k:Int) (n:Int)=((min k n:Nat):Int)
 rcases Nat.le_total k n with z | z
 · rw[Nat.min_eq_left z,Int.min_eq_left (Int.ofNat_le.mpr z)]
 · rw[Nat.min_eq_right z,Int.min_eq_right (Int.ofNat_le.mpr z)]
theorem kU (v:Int) (n d:Nat):(if v<0 then max (v+(n:Int)) 0 else min v (n:Int))=((sIx n d (some v):Nat):Int):=by
 show (if v<0 then max (v+(n:Int)) 0 else min v (n:Int))=(((if v<0 then (v+(n:Int)).toNat else min v.toNat n):Nat):Int);by_cases hv:v<0
 · simp only[if_pos hv];exact (Int.ofNat_toNat _).symm
 · simp only[if_neg hv];exact j0 v n hv
theorem jT (lo hi:Option Int) (n:Nat):Builtin.Slice.sliceAdjust lo hi 1 (n:Int)=(((sIx n 0 lo:Nat):Int),((sIx n n hi:Nat):Int)):=by
 have h1:¬ ((1:Int)<0):=by lia
 unfold Builtin.Slice.sliceAdjust;simp only[h1,if_false];refine Prod.ext ?_ ?_
 · cases lo with
   | none=>rfl
   | some v=>exact kU v n 0
 · cases hi with
   | none=>rfl
   | some v=>exact kU v n n
theorem jp (i j:Nat):Builtin.Slice.slicePlaces (i:Int) (j:Int) 1=j-i:=by
 unfold Builtin.Slice.slicePlaces;have h1:(1:Int)>0:=by lia
 simp only[h1,if_true,Int.ediv_one];split <;> lia
theorem dO {v:Value} {o:Option Int} {Q:Option Int→Shared→Prop} (p:IsPart v o) (h:Q o s):wpAny (model prog w) A (Builtin.Slice.slicePartIndex v) Q E s:=by
 cases p with
 | none=>exact slicePart_none h
 | int i t=>exact slicePart_int h
theorem cJ {sl:Addr} {vl vu:Value} {lo hi:Option Int} {n:Nat} {Q:Int×Int×Nat→Shared→Prop} (hs:s.heap.IsSliceOf sl vl vu .none) (pl:IsPart vl lo) (pu:IsPart vu hi)
 (h:Q (((sIx n 0 lo:Nat):Int),1,sIx n n hi-sIx n 0 lo) s):wpAny (model prog w) A (Builtin.Slice.sliceApplied (.ref sl) (pure (n:Int))) Q E s:=by
 obtain⟨os,hos,hcs,hds⟩:=id hs;unfold Builtin.Slice.sliceApplied Builtin.Slice.sliceFields;refine wB (wB (wpAny_field hos hds (x:=vl) rfl (wB (wpAny_field hos hds (x:=vu) rfl (wB (wpAny_field hos hds (x:=.none) rfl (wP ?_)))))));refine wB (slicePart_none ?_);show wpAny _ _ (if ((1:Int)==0)=true then _ else _) _ _ s;rw[if_neg (by decide)];refine wB (dO pl (wB (dO pu (wB (wP ?_)))));show wpAny _ _ (match Builtin.Slice.sliceAdjust lo hi 1 (n:Int) with | (lo,hi)=>pure (lo,(1:Int),Builtin.Slice.slicePlaces lo hi 1)) _ _ s;rw[jT lo hi n];show wpAny _ _ (pure (((sIx n 0 lo:Nat):Int),(1:Int),Builtin.Slice.slicePlaces ((sIx n 0 lo:Nat):Int) ((sIx n n hi:Nat):Int) 1)) _ _ s;rw[jp];exact wP h
theorem mJ (xs:Array Value) (i k:Nat):((List.range k).filterMap fun (m:Nat)=>xs[((i:Int)+(m:Int)*1).toNat]?).toArray=((xs.toList.drop i).take k).toArray:=by
 have e:(fun (m:Nat)=>xs[((i:Int)+(m:Int)*1).toNat]?)=fun m=>xs[i+m]?:=by
  funext m
  have:((i:Int)+(m:Int)*1).toNat=i+m:=by lia
  rw[this]
 rw[e];have:=pick_run xs i k;rw[List.filterMap_map] at this;have e2:((fun x=>xs[x]?)∘fun x=>i+x)=fun m=>xs[i+m]?:=rfl;rw[e2] at this;rw[this]
theorem eM {t sl:Addr} {am:Array Value} {vl vu:Value} {lo hi:Option Int} {Q:VSP} (ht:IsTup s.heap t am) (hs:s.heap.IsSliceOf sl vl vu .none) (pl:IsPart vl lo) (pu:IsPart vu hi)
 (hw:¬ (sIx am.size 0 lo=0∧sIx am.size am.size hi=am.size))
 (h:Q (.ref s.heap.objs.size) {s with heap:=s.heap.push {cls:=.type "tuple",data:=.seq ((am.toList.drop (sIx am.size 0 lo)).take (sIx am.size am.size hi-sIx am.size 0 lo)).toArray}})
 (hsz:am.size≤sizeLine):wpAny (model prog w) A (getItem (.ref t) (.ref sl)) Q E s:=by
 have htake:sizeOk (.seq ((am.toList.drop (sIx am.size 0 lo)).take (sIx am.size am.size hi-sIx am.size 0 lo)).toArray):=by
  show ((am.toList.drop (sIx am.size 0 lo)).take (sIx am.size am.size hi-sIx am.size 0 lo)).toArray.size≤sizeLine;rw[List.size_toArray,lTk,List.length_drop,Array.length_toList];exact Nat.le_trans (Nat.min_le_right _ _) (Nat.le_trans (Nat.sub_le _ _) hsz)
 have hj:sIx am.size am.size hi≤am.size:=rT _ _ (Nat.le_refl _) hi;obtain⟨os,hos,hcs,hds⟩:=id hs;have hTs:s.TypeIs (.ref sl) "slice":=⟨os,hos,hcs⟩;unfold getItem
 try with_reducible refine wpAny_holding ?_
 first | refine wB (wP ?_) | skip
 refine wB (wpAny_sequenceKey ht.typeIs (by decide) ?_);refine wB (wpAny_callSpecial?_slot (name:=Str.ofString "__getitem__") ht.typeIs PyProof.Rows.slot_tuple_getitem
   (wpAny_call_entry PyProof.Rows.slot_tuple_getitem ht.typeIs entry_tuple_getitem ?_ (args_tuple_getitem _ _)))
 show wpAny _ _ (Builtin.Tuple.tupleItemsOf (.ref t)>>=_) _ _ s;refine wB (tupleItemsOf_ ht ?_);refine wB (wpAny_typeOf hTs ?_);rw[if_pos (by decide)];refine wB (cJ hs pl pu ?_);have hno:¬ ((((sIx am.size 0 lo:Nat):Int)==0&&(1:Int)==1&&(sIx am.size am.size hi-sIx am.size 0 lo)==am.size)=true):=by
  intro q;rw[Bool.and_eq_true,Bool.and_eq_true] at q;have q1:((sIx am.size 0 lo:Nat):Int)=0:=eq_of_beq q.1.1;have q2:sIx am.size am.size hi-sIx am.size 0 lo=am.size:=eq_of_beq q.2;exact hw ⟨by lia,by lia⟩
 show wpAny _ _ (if (((sIx am.size 0 lo:Nat):Int)==0&&(1:Int)==1&&(sIx am.size am.size hi-sIx am.size 0 lo)==am.size)=true then _ else _) _ _ s;rw[if_neg hno,mJ]
 first
  | exact wB (m:=Builtin.Tuple.tupleExact _) (wpAny_newObj_type (wP ⟨_,rfl,wP h⟩) htake)
  | exact wB (m:=Builtin.Tuple.tupleExact _) (wpAny_newObj_type (wB (wP (wP ⟨_,rfl,wP h⟩))) htake)
  | exact wB (wB (m:=Builtin.Tuple.tupleExact _) (wpAny_newObj_type (wP (wP ⟨_,rfl,wP h⟩)) htake))
  | exact wB (wB (m:=Builtin.Tuple.tupleExact _) (wpAny_newObj_type (wP ⟨_,rfl,wP h⟩) htake))
end
end HT
namespace L2
open PySem PySem.Spec PyProof.Rows
abbrev TO:=St→Hp→(Option Int→Hp→Prop)→Prop
def PO (X:Cx) (e:Option Expr) (t:TO):Prop :=
  ∀ (pins:AOs) (s:Shared) (σ:St) (H:Hp) (Q:Option Int→Hp→Prop),Inv X pins σ H s→t σ H Q →
    wpAny (model X.prog X.w) X.A (evalPart e X.env) (fun u s'=>∃ o H',Inv X pins σ H' s'∧IsPart u o∧Q o H') X.xe s
def dz:TO:=fun _ H Q=>Q none H
def gL (t:TE):TO:=fun σ H Q=>t σ H fun x H1=>tP x H1 fun i H2=>Q (some i) H2
section
variable {X:Cx} {e:Expr} {te:TE} {lo hi:Option Expr} {tl th:TO} {pos p2:Pos}
theorem bD:PO X none dz:=by
 intro pins s σ H Q I h;rw[evalPart_none];exact wP ⟨none,H,I,.none,h⟩
theorem bf (h:PE X e te):PO X (some e) (gL te):=by
 intro pins s σ H Q I hw;rw[evalPart_some];refine thn (h pins s σ H _ I hw) fun u s1 zy78=>?_;obtain⟨x,H1,I1,r1,q1⟩:=zy78;obtain⟨i,rfl,q⟩:=q1;obtain⟨t,rfl⟩:=r1;exact⟨some i,H1,I1,.int i t,q⟩
def SlR (X:Cx) (r:V→Option Int→Option Int→Hp→VK→Prop):Prop :=
  ∀ (pins:AOs) (s:Shared) (σ:St) (H:Hp) (x:V) (v vl vu:Value) (lo hi:Option Int) (sl:Addr) (Q:VK),Inv X pins σ H s→aH x v→s.heap.IsSliceOf sl vl vu .none→IsPart vl lo→IsPart vu hi→r x lo hi H Q →
    ∃ T id,typeLookup (.type T) "__getitem__"=pure (some (.builtin id))∧s.TypeIs v T∧wpAny (model X.prog X.w) X.A (getItem v (.ref sl)) (EP X pins σ Q) X.xe s
def tSl (r:V→Option Int→Option Int→Hp→VK→Prop) (te:TE) (tl th:TO):TE:=fun σ H Q=>te σ H fun x H1=>tl σ H1 fun l H2=>th σ H2 fun u H3=>r x l u H3 Q
theorem bj {r:V→Option Int→Option Int→Hp→VK→Prop} (hr:SlR X r) (he:PE X e te) (hl:PO X lo tl) (hu:PO X hi th):PE X (.Subscript e (.Slice lo hi none p2) pos) (tSl r te tl th):=by
 intro pins s σ H Q I h;refine Subscript_ (thn (he pins s σ H _ I h) fun v s1 zy79=>?_);obtain⟨x,H1,I1,r1,q1⟩:=zy79;refine wpAny_Slice (thn (hl pins s1 σ H1 _ I1 q1) fun vl s2 zy80=>?_);obtain⟨l,H2,I2,pl,q2⟩:=zy80;refine thn (hu pins s2 σ H2 _ I2 q2) fun vu s3 zy81=>?_;obtain⟨u,H3,I3,pu,q3⟩:=zy81;rw[evalPart_none];refine wP ?_;have I4:Inv X pins σ H3 {s3 with heap:=s3.heap.push {cls:=.type "slice",data:=.fields #[vl,vu,.none]}}:=I3.kept (t':=s3.toks) fun b ob q=>hpS _ q;obtain⟨T,id,hT,ht,hg⟩:=hr pins {s3 with heap:=s3.heap.push {cls:=.type "slice",data:=.fields #[vl,vu,.none]}} σ H3 x v vl vu l u s3.heap.objs.size Q I4 r1 (Heap.IsSliceOf.new ..) pl pu q3;show wpAny (model X.prog X.w) X.A (subscriptTail e (.Slice lo hi none p2) v (.ref s3.heap.objs.size)) (EP X pins σ Q) X.xe {s3 with heap:=s3.heap.push {cls:=.type "slice",data:=.fields #[vl,vu,.none]}};exact tail_any (ops:=[.ref s3.heap.objs.size,v]) ht hT hg (by with_unfolding_all rfl)
def cx (xs:List V) (lo hi:Option Int):List V:=(xs.drop (HT.sIx xs.length 0 lo)).take (HT.sIx xs.length xs.length hi-HT.sIx xs.length 0 lo)
theorem fv (xs:List V) (lo hi:Option Int):(cx xs lo hi).length≤xs.length:=by
 unfold cx;rw[lTk,List.length_drop];exact Nat.le_trans (Nat.min_le_right _ _) (Nat.sub_le _ _)
def xl (K:Fg):V→Option Int→Option Int→Hp→VK→Prop:=fun x lo hi H Q=>∃ a xs,x=.ref a∧SqT K H a xs ∧
  ¬ (HT.sIx xs.length 0 lo=0∧HT.sIx xs.length xs.length hi=xs.length)∧∀ p,H p=none→Q (.ref p) (upd H p (.tup (cx xs lo hi)))
theorem mm:SlR X (xl X.K):=by
 intro pins s σ H x v vl vu lo hi sl Q I rx hs pl pu h;obtain⟨a,xs,rfl,hx,hw,q⟩:=h;cases rx;obtain⟨its,r,ht,hz⟩:=I.tuple hx;have hlen:its.toArray.size=xs.length:=by rw[List.size_toArray];exact r.length.symm
 refine⟨"tuple",_,PyProof.Rows.slot_tuple_getitem.lookup,ht.typeIs,?_⟩;refine HT.eM ht hs pl pu (by rw[hlen];exact hw) ?_ (by rw[hlen];exact hz);rw[hlen];refine⟨.ref s.heap.objs.size,_,I.laid (t':=s.toks) (o:=.tup (cx xs lo hi)) (fun b ob q=>hpS _ q) (Nat.le_refl _) ?_,rfl,q _ (I.hok.fresh (Nat.le_refl _))⟩;exact⟨Nat.le_trans (fv xs lo hi) hz,_,(r.drop (HT.sIx xs.length 0 lo)).take (HT.sIx xs.length xs.length hi-HT.sIx xs.length 0 lo),IsTup.new _ _⟩
def uQ (K:Fg):R2:=fun x y H Q=>∃ a b xs ys,x=.ref a∧y=.ref b∧SqT K H a xs∧SqT K H b ys∧xs≠[]∧xs.length+ys.length≤sizeLine ∧
  (ys=[]→Q (.ref a) H)∧(ys≠[]→∀ p,H p=none→Q (.ref p) (upd H p (.tup (xs++ys))))
theorem ax.nil_iff {xs:List V} {us:List Value} (r:ax xs us):us=[]↔xs=[]:=by
 cases r with
 | nil=>simp
 | cons _ _=>simp
theorem oU:OpR X (binaryOp .Add) (uQ X.K):=by
 intro pins s σ H x y v u Q I rx ry h;obtain⟨a,b,xs,ys,rfl,rfl,ha,hb,hx,hz,q1,q2⟩:=h;cases rx;cases ry;obtain⟨its,r1,p1,_⟩:=I.tuple ha;obtain⟨its2,r2,p2,_⟩:=I.tuple hb;refine HT.qd p1 p2 (fun z=>hx (r1.nil_iff.mp z)) (fun z=>⟨.ref a,H,I,rfl,q1 (r2.nil_iff.mp z)⟩) (fun z=>?_) (by rw[← r1.length,← r2.length];exact hz);refine⟨.ref s.heap.objs.size,_,I.laid (t':=s.toks) (o:=.tup (xs++ys)) (fun b ob q=>hpS _ q) (Nat.le_refl _) ?_,rfl,q2 (fun w=>z (r2.nil_iff.mpr w)) _ (I.hok.fresh (Nat.le_refl _))⟩;exact⟨by rw[lAp];exact hz,_,r1.append r2,IsTup.new _ _⟩
end
def ixN (n:Nat) (i:Int):Option Nat:=if 0≤i then (if i<n then some i.toNat else none) else if -(n:Int)≤i then some (i+n).toNat else none
def atI {α:Type} (xs:List α) (i:Int):Option α:=(ixN xs.length i).bind fun j=>xs[j]?
theorem kL {n:Nat} {i:Int} {j:Nat} (h:ixN n i=some j):seqIndex? i n=some j∧j<n∧-(n:Int)≤i∧i<n:=by
 unfold ixN at h;by_cases h0:0≤i
 · rw[if_pos h0] at h;by_cases h1:i<n
   · rw[if_pos h1] at h;have e:i.toNat=j:=Option.some.inj h;exact⟨by rw[seqIndex_of h0 h1,e],by lia,by lia,h1⟩
   · rw[if_neg h1] at h;cases h
 · rw[if_neg h0] at h;by_cases h1:-(n:Int)≤i
   · rw[if_pos h1] at h;have e:(i+n).toNat=j:=Option.some.inj h;exact⟨by rw[seqIndex_neg (by lia) h1,e],by lia,h1,by lia⟩
   · rw[if_neg h1] at h;cases h
theorem kX {α:Type} {xs:List α} {i:Int} {v:α} (h:atI xs i=some v):∃ j,seqIndex? i xs.length=some j∧xs[j]?=some v∧j<xs.length∧-(xs.length:Int)≤i∧i<xs.length:=by
 unfold atI at h;cases e:ixN xs.length i with
 | none=>rw[e] at h;cases h
 | some j =>
  rw[e] at h;obtain⟨h1,h2,h3,h4⟩:=kL e;exact⟨j,h1,h,h2,h3,h4⟩
theorem pH {α:Type} {xs:List α} {j:Nat} {v:α} (h:xs[j]?=some v):atI xs (j:Int)=some v:=by
 have hj:j<xs.length:=(gES.mp h).1;have e:ixN xs.length (j:Int)=some j:=by
  unfold ixN;rw[if_pos (by lia),if_pos (by lia)];simp
 unfold atI;rw[e];exact h
theorem nP {α:Type} (xs:List α) (v:α):atI (xs++[v]) (-1)=some v:=by
 have hl:(xs++[v]).length=xs.length+1:=by simp
 have e:ixN (xs++[v]).length (-1)=some xs.length:=by
  unfold ixN;rw[hl,if_neg (by decide),if_pos (by lia)];congr 1;lia
 unfold atI;rw[e];show (xs++[v])[xs.length]?=some v;simp
def qg (b:Expr):Prop:=∀ o i,subscripted b false o i=operate [o,i] (getItem o i)
def IxR (X:Cx) (r:R2):Prop :=
  ∀ (value slice:Expr) (pins:AOs) (s:Shared) (σ:St) (H:Hp) (x y:V) (v u:Value) (Q:VK),Inv X pins σ H s→aH x v→aH y u→r x y H Q →
    subscripted slice false v u=operate [v,u] (getItem v u)→wpAny (model X.prog X.w) X.A (subscriptTail value slice v u) (EP X pins σ Q) X.xe s
def MtR (X:Cx) (id:String) (r:V→List V→Hp→VK→Prop):Prop :=
  ∀ (pins:AOs) (s:Shared) (σ:St) (H:Hp) (x:V) (xs:List V) (v:Value) (us:List Value) (Q:VK),Inv X pins σ H s→aH x v→ax xs us→r x xs H Q →
    wpAny (model X.prog X.w) X.A (call (.builtin id) (v::us)) (EP X pins σ Q) X.xe s
inductive wu (K:Fg) (xs:List V) (H:Hp) (Q:VK):Prop
  | mk (p:Addr) (ys:List V) (h1:xs=[.ref p]) (h2:SqL K H p ys∨SqT K H p ys) (q:Q (.int ys.length) H):wu K xs H Q
def uO (K:Fg):List V→Hp→VK→Prop:=fun xs H Q=>wu K xs H Q
inductive nQ (K:Fg) (xs:List V) (H:Hp) (Q:VK):Prop
  | mk (p:Addr) (ys:List V) (h1:xs=[.ref p]) (h2:(SqL K H p ys∧∀ l,H l=none→Q (.ref l) (upd H l (.tup ys)))∨(SqT K H p ys∧Q (.ref p) H)):nQ K xs H Q
def mz (K:Fg):List V→Hp→VK→Prop:=fun xs H Q=>nQ K xs H Q
section
variable {X:Cx} {a b:Expr} {ta tb:TE} {pos:Pos}
theorem ab {r:R2} (hr:IxR X r) (ha:PE X a ta) (hb:PE X b tb) (hs:qg b):PE X (.Subscript a b pos) (tOp r ta tb):=by
 intro pins s σ H Q I h;exact Subscript_ (tD ha hb I h fun v u s2 x y H2 I2 rx ry q=>hr a b pins s2 σ H2 x y v u Q I2 rx ry q (hs _ _))
inductive ww (K:Fg) (x y:V) (H:Hp) (Q:VK):Prop
  | mk (p:Addr) (xs:List V) (i:Int) (v:V) (h:x=.ref p) (h':y=.int i) (s:SqL K H p xs) (a:atI xs i=some v) (q:Q v H):ww K x y H Q
inductive wv (K:Fg) (x y:V) (H:Hp) (Q:VK):Prop
  | mk (p:Addr) (xs:List V) (i:Int) (v:V) (h:x=.ref p) (h':y=.int i) (s:SqT K H p xs) (a:atI xs i=some v) (q:Q v H):wv K x y H Q
def sg (K:Fg):R2:=fun x y H Q=>ww K x y H Q
def lj (K:Fg):R2:=fun x y H Q=>wv K x y H Q
def xo:R2:=fun x y H Q=>∃ z i c,x=.str z∧y=.int i∧z.length≤sizeLine∧atI z.cps.toList i=some c∧Q (.str ⟨#[c]⟩) H
theorem aE:IxR X (sg X.K):=by
 intro value slice pins s σ H x y v u Q I rx ry h hs;obtain⟨p,xs,i,z,rfl,rfl,hq,he,q⟩:=h;cases rx;obtain⟨t,rfl⟩:=ry;obtain⟨its,r,pl,hz⟩:=I.list hq;obtain⟨j,h1,h2,h3,h4,h5⟩:=kX he;obtain⟨w,ew,rw'⟩:=r.get h2;have hl:=r.length;have hn:=gb;have fin:EP X pins σ Q w s:=⟨z,H,I,rw',q⟩;by_cases h0:0≤i
 · have hj:i.toNat=j:=by
    rw[seqIndex_of h0 h5] at h1;exact Option.some.inj h1
   exact item_listR pl.isList h0 (by lia) (by rw[hj];simpa using ew) fin hs
 · have hj:(i+(its.toArray.size:Int)).toNat=j:=by
    rw[seqIndex_neg (by lia) h4] at h1;rw[List.size_toArray,← hl];exact Option.some.inj h1
   exact subscriptTail_builtinR (x:=w) pl.isList.typeIs slot_list_getitem.lookup
    (wpAny_getItem_list_neg (Q:=fun r s'=>r=w∧EP X pins σ Q r s') pl.isList (by lia) (by rw[List.size_toArray] <;> lia) (by lia) (by rw[hj];simpa using ew) ⟨rfl,fin⟩) hs
theorem ae:IxR X (lj X.K):=by
 intro value slice pins s σ H x y v u Q I rx ry h hs;obtain⟨p,xs,i,z,rfl,rfl,hq,he,q⟩:=h;cases rx;obtain⟨t,rfl⟩:=ry;obtain⟨its,r,pl,hz⟩:=I.tuple hq;obtain⟨j,h1,h2,h3,h4,h5⟩:=kX he;obtain⟨w,ew,rw'⟩:=r.get h2;have hl:=r.length;have hn:=gb;have fin:EP X pins σ Q w s:=⟨z,H,I,rw',q⟩;exact subscriptTail_builtinR (x:=w) pl.typeIs slot_tuple_getitem.lookup
  (getItem_tuple (j:=j) (Q:=fun r s'=>r=w∧EP X pins σ Q r s') pl (by lia) (by lia) (by rw[List.size_toArray,← hl];exact h1) (by simpa using ew) ⟨rfl,fin⟩) hs
theorem jz (its:List Value) (n j:Nat) (u:Value):Obj.mapSeq (·.setIfInBounds j u) {cls:=.type "list",data:=.seq its.toArray n}={cls:=.type "list",data:=.seq (its.set j u).toArray n}:=by
 simp[Obj.mapSeq]
theorem Inv.lst {pins:AOs} {σ:St} {H:Hp} {s:Shared} {p:Addr} {xs:List V} (I:Inv X pins σ H s) (h:H p=some (.lst xs)) :
 ∃ (its:List Value) (n:Nat),ax xs its∧s.heap.get? p=some {cls:=.type "list",data:=.seq its.toArray n}∧xs.length≤sizeLine:=by
 obtain⟨z,its,n,r,e⟩:=I.hok p _ h;exact⟨its,n,r,e,z⟩
theorem Inv.lstUpd {pins:AOs} {σ:St} {H:Hp} {s:Shared} {p:Addr} {xs ys:List V} {its its':List Value} {n n':Nat} {f:Obj→Obj} (I:Inv X pins σ H s) (h:H p=some (.lst xs))
 (ho:s.heap.get? p=some {cls:=.type "list",data:=.seq its.toArray n}) (hf:f {cls:=.type "list",data:=.seq its.toArray n}={cls:=.type "list",data:=.seq its'.toArray n'}) (r:ax ys its') (hz:ys.length≤sizeLine) (t:Nat) :
 Inv X pins σ (upd H p (.lst ys)) {s with heap:=s.heap.update p f,toks:=t}:=by
 have e:(s.heap.update p f).get? p=some {cls:=.type "list",data:=.seq its'.toArray n'}:=by
  rw[Heap.get?_update_self f ho (by rw[hf] <;> rfl),hf]
 refine I.write (x:=p) (e:=p) (by rw[h];trivial) (.inl rfl) (fun b u hb q=>(Heap.get?_update_other _ _ (Ne.symm hb)).trans q) ⟨_,e⟩ ?_;exact⟨hz,its',n',r,e⟩
def uK:V→V→V→Hp→(Hp→Prop)→Prop:=fun o i v H Q=>∃ p xs k j,o=.ref p∧i=.int k∧H p=some (.lst xs)∧ixN xs.length k=some j∧Q (upd H p (.lst (xs.set j v)))
theorem iI:wq X uK:=by
 intro pins s σ H o i v ov iv u Q I ro ri rv h;obtain⟨p,xs,k,j,rfl,rfl,hp,hj,q⟩:=h;cases ro;obtain⟨t,rfl⟩:=ri;obtain⟨its,n,r,ho,hz⟩:=I.lst hp;obtain⟨h1,h2,h3,h4⟩:=kL hj;have hl:=r.length;have hn:=gb;have I':Inv X pins σ (upd H p (.lst (xs.set j v))) {s with heap:=s.heap.update p (Obj.mapSeq (·.setIfInBounds j u))} :=
  I.lstUpd hp ho (jz its n j u) (r.set rv j) (by rw[List.length_set];exact hz) s.toks
 by_cases h0:0≤k
 · have hk:k.toNat=j:=by
    rw[seqIndex_of h0 h4] at h1;exact Option.some.inj h1
   exact PySem.W.ki_setAt ho h0 (by lia) (by rw[List.size_toArray,← hl];exact h4) (by rw[hk];exact⟨_,I',q⟩)
 · have hk:(k+(its.toArray.size:Int)).toNat=j:=by
    rw[seqIndex_neg (by lia) h3] at h1;rw[List.size_toArray,← hl];exact Option.some.inj h1
   exact PySem.W.ki_setBack ho (by lia) (by rw[List.size_toArray,← hl];exact h3) (by lia) (by rw[hk];exact⟨_,I',q⟩)
theorem mq {i:Int} {n:Nat} (h:i<0):max 0 (min (i+(n:Int)) (n:Int))=((i+(n:Int)).toNat:Int):=by
 rw[Int.min_eq_left (by lia),Int.ofNat_toNat,Int.max_comm]
theorem mn {i:Int} {n:Nat} (h:¬ i<0):max 0 (min i (n:Int))=((min i.toNat n:Nat):Int):=by
 rw[HT.j0 i n h];exact Int.max_eq_right (Int.natCast_nonneg _)
theorem ia (lo hi:Option Int) (n:Nat):(sliceBounds lo hi none n).1=((HT.sIx n 0 lo:Nat):Int)∧(sliceBounds lo hi none n).2.1=((HT.sIx n n hi:Nat):Int)∧(sliceBounds lo hi none n).2.2=1:=by
 refine⟨?_,?_,rfl⟩
 · cases lo with
   | none=>simp[sliceBounds,HT.sIx]
   | some i =>
    simp only[sliceBounds,HT.sIx,Option.getD_none,show (1:Int)>0 by decide,if_true];by_cases h:i<0
    · simp only[h,if_true];exact mq h
    · simp only[h,if_false];exact mn h
 · cases hi with
   | none=>simp[sliceBounds,HT.sIx]
   | some i =>
    simp only[sliceBounds,HT.sIx,Option.getD_none,show (1:Int)>0 by decide,if_true];by_cases h:i<0
    · simp only[h,if_true];exact mq h
    · simp only[h,if_false];exact mn h
theorem gz (its:List Value) (lo hi:Option Int):slicePick its.toArray lo hi none=((its.drop (HT.sIx its.length 0 lo)).take (HT.sIx its.length its.length hi-HT.sIx its.length 0 lo)).toArray:=by
 obtain⟨h1,h2,h3⟩:=ia lo hi its.toArray.size;unfold slicePick;rw[h1,h2,h3];simp only[sliceRange_one,pick_run,List.size_toArray] <;> rfl
def xm (K:Fg):V→Option Int→Option Int→Hp→VK→Prop:=fun x lo hi H Q=>∃ a xs,x=.ref a∧SqL K H a xs∧∀ p,H p=none→Q (.ref p) (upd H p (.lst (cx xs lo hi)))
theorem kq:SlR X (xm X.K):=by
 intro pins s σ H x v vl vu lo hi sl Q I rx hs pl pu h;obtain⟨a,xs,rfl,hx,q⟩:=h;cases rx;obtain⟨its,r,ht,hz⟩:=I.list hx;have hlen:=r.length;refine⟨"list",_,slot_list_getitem.lookup,ht.isList.typeIs,?_⟩;refine wpAny_getItem_list_slice ht.isList hs pl pu .none (by simp) ?_ (by rw[List.size_toArray] <;> lia);rw[gz,← hlen];refine⟨.ref s.heap.objs.size,_,I.laid (t':=s.toks) (o:=.lst (cx xs lo hi)) (fun b ob q=>hpS _ q) (Nat.le_refl _) ?_,rfl,q _ (I.hok.fresh (Nat.le_refl _))⟩;exact⟨Nat.le_trans (fv xs lo hi) hz,_,0,(r.drop (HT.sIx xs.length 0 lo)).take (HT.sIx xs.length xs.length hi-HT.sIx xs.length 0 lo),Heap.get?_push_size _ rfl⟩
def eN:V→Bool
  | .non=>true
  | .bl _=>true
  | .int _=>true
  | .str _=>true
  | _=>false
def eqV:V→V→Bool
  | .non,.non=>true
  | .bl a,.bl b=>a==b
  | .bl a,.int b=>(if a then 1 else 0)==b
  | .int a,.bl b=>a==(if b then 1 else 0)
  | .int a,.int b=>a==b
  | .str a,.str b=>a==b
  | _,_=>false
theorem tw {A:Around} {s:Shared} {y x:V} {u v:Value} (ry:aH y u) (rx:aH x v) (fy:eN y=true) (fx:eN x=true):SeqAt.EqAt A s u v (eqV y x):=by
 cases y with
 | non =>
  cases ry;cases x with
  | non=>cases rx;exact SeqAt.EqAt.same _
  | bl b=>cases rx;exact SeqAt.EqAt.none_bool b
  | int b=>obtain⟨t,rfl⟩:=rx;exact SeqAt.EqAt.none_int b t
  | str b=>obtain⟨t,rfl⟩:=rx;exact SeqAt.EqAt.none_str b t
  | _=>exact absurd (show false=true from fx) Bool.false_ne_true
 | bl a =>
  cases ry;cases x with
  | non=>cases rx;exact SeqAt.EqAt.bool_none a
  | bl b=>cases rx;exact SeqAt.EqAt.bool_bool a b
  | int b=>obtain⟨t,rfl⟩:=rx;exact SeqAt.EqAt.bool_int a b t
  | str b=>obtain⟨t,rfl⟩:=rx;exact SeqAt.EqAt.bool_str a b t
  | _=>exact absurd (show false=true from fx) Bool.false_ne_true
 | int a =>
  obtain⟨t',rfl⟩:=ry;cases x with
  | non=>cases rx;exact SeqAt.EqAt.int_none a t'
  | bl b=>cases rx;exact SeqAt.EqAt.int_bool a t' b
  | int b=>obtain⟨t,rfl⟩:=rx;exact SeqAt.EqAt.int_int a t' b t
  | str b=>obtain⟨t,rfl⟩:=rx;exact SeqAt.EqAt.int_str a t' b t
  | _=>exact absurd (show false=true from fx) Bool.false_ne_true
 | str a =>
  obtain⟨t',rfl⟩:=ry;cases x with
  | non=>cases rx;exact SeqAt.EqAt.str_none a t'
  | bl b=>cases rx;exact SeqAt.EqAt.str_bool a t' b
  | int b=>obtain⟨t,rfl⟩:=rx;exact SeqAt.EqAt.str_int a t' b t
  | str b=>obtain⟨t,rfl⟩:=rx;exact SeqAt.EqAt.str_str a t' b t
  | _=>exact absurd (show false=true from fx) Bool.false_ne_true
 | _=>exact absurd (show false=true from fy) Bool.false_ne_true
def eqU (x:V) (u:Value):Bool:=match u with
  | .none=>eqV .non x
  | .bool b=>eqV (.bl b) x
  | .int i _=>eqV (.int i) x
  | .str z _=>eqV (.str z) x
  | _=>false
theorem nF {x y:V} {u:Value} (r:aH y u) (f:eN y=true):eqU x u=eqV y x:=by
 cases y with
 | non=>cases r;rfl
 | bl b=>cases r;rfl
 | int i=>obtain⟨t,rfl⟩:=r;rfl
 | str z=>obtain⟨t,rfl⟩:=r;rfl
 | _=>exact absurd (show false=true from f) Bool.false_ne_true
theorem kY {x:V}:∀ {xs:List V} {us:List Value},ax xs us→xs.all eN=true→us.any (eqU x)=xs.any fun y=>eqV y x:=by
 intro xs us h
 induction h with
 | nil=>intro _;rfl
 | cons r t ih =>
  intro f;rw[List.all_cons,Bool.and_eq_true] at f;rw[List.any_cons,List.any_cons,nF r f.1,ih f.2]
theorem iT {A:Around} {s:Shared} {x:V} {v:Value} (rx:aH x v) (fx:eN x=true):∀ {xs:List V} {us:List Value},ax xs us→xs.all eN=true→∀ u∈us,SeqAt.EqAt A s u v (eqU x u):=by
 intro xs us h
 induction h with
 | nil=>intro _ u hu;cases hu
 | cons r t ih =>
  intro f u hu;rw[List.all_cons,Bool.and_eq_true] at f
  rcases List.mem_cons.mp hu with rfl | hu
  · rw[nF r f.1];exact tw r rx f.1 fx
  · exact ih f.2 u hu
def inV (x:V) (xs:List V):Bool:=xs.any fun y=>eqV y x
def rIn (K:Fg) (neg:Bool):R2:=fun x y H Q=>∃ p xs,y=.ref p∧(SqL K H p xs∨SqT K H p xs)∧eN x=true∧xs.all eN=true∧Q (.bl (if neg then !inV x xs else inV x xs)) H
theorem bu:OpR X (compareOp .In) (rIn X.K false):=by
 intro pins s σ H x y v u Q I rx ry h;obtain⟨p,xs,rfl,hq,fx,fs,q⟩:=h;cases ry
 rcases hq with hq | hq
 · obtain⟨its,r,pl,hz⟩:=I.list hq;refine SeqAt.in_listAt (eqU x) pl.isList (fun w hw=>iT rx fx r fs w (by simpa using hw)) ⟨.bl _,H,I,rfl,?_⟩;rw[show its.toArray.any (eqU x)=its.any (eqU x) by simp,kY r fs];exact q
 · obtain⟨its,r,pl,hz⟩:=I.tuple hq;refine SeqAt.in_tupleAt (eqU x) pl (fun w hw=>iT rx fx r fs w (by simpa using hw)) ⟨.bl _,H,I,rfl,?_⟩;rw[show its.toArray.any (eqU x)=its.any (eqU x) by simp,kY r fs];exact q
theorem iy:gu X (.builtin "len") (uO X.K):=by
 intro pins s σ H xs us Q I r h;obtain⟨p,ys,rfl,hq,q⟩:=h;obtain⟨u,rfl,rx⟩:=ke r;cases rx;have hn:=gb
 rcases hq with hq | hq
 · obtain⟨its,r',pl,hz⟩:=I.list hq;have hlen:=r'.length;exact Calls.call_len_list pl.isList (by simp only[List.size_toArray] <;> lia) ⟨.int ys.length,H,I.tok _,⟨s.toks+1,by rw[List.size_toArray,hlen]⟩,q⟩
 · obtain⟨its,r',pl,hz⟩:=I.tuple hq;have hlen:=r'.length;exact len_tuple pl (by simp only[List.size_toArray] <;> lia) ⟨.int ys.length,H,I.tok _,⟨s.toks+1,by rw[List.size_toArray,hlen]⟩,q⟩
theorem gD:gu X (.type "tuple") (mz X.K):=by
 intro pins s σ H xs us Q I r h;obtain⟨p,ys,rfl,h⟩:=h;obtain⟨u,rfl,rx⟩:=ke r;cases rx
 rcases h with ⟨hq,q⟩ | ⟨hq,q⟩
 · obtain⟨its,r',pl,hz⟩:=I.list hq;have hlen:=r'.length;refine call_tuple_list pl.isList (fun h' kp=>?_) (by simp only[List.size_toArray] <;> lia);have I1:Inv X pins σ H {s with heap:=h'}:=I.kept (t':=s.toks) kp;have I2:Inv X pins σ (upd H h'.objs.size (.tup ys)) {s with heap:=h'.push {cls:=.type "tuple",data:=.seq its.toArray}} :=
    I1.laid (t':=s.toks) (fun b o e=>hpS _ e) (Nat.le_refl _) (show be X.prog X.w _ _ _ (.tup ys) from ⟨hz,its,r',IsTup.new _ _⟩)
   exact⟨.ref h'.objs.size,_,I2,rfl,q _ (I1.hok.fresh (Nat.le_refl _))⟩
 · obtain⟨its,r',pl,hz⟩:=I.tuple hq;exact call_tuple_same pl ⟨.ref p,H,I,rfl,q⟩
def tyV (K:Fg) (T:String) (x:V) (H:Hp):Prop:=match x with
  | .str _=>T="str"
  | .int _=>T="int"
  | .ref p=>(T="list"∧∃ xs,SqL K H p xs)∨(T="tuple"∧∃ o,K.lookup p=some o∧o.cls=.type "tuple"∧o.dict=none) ∨
      (T="dict"∧((∃ kvs,H p=some (.dK kvs))∨∃ kvs,H p=some (.dT kvs)))∨(T="set"∧∃ S n,H p=some (.set S n))
  | _=>False
theorem lV {pins:AOs} {σ:St} {H:Hp} {s:Shared} {T:String} {x:V} {v:Value} (I:Inv X pins σ H s) (r:aH x v) (ty:tyV X.K T x H) :
 s.TypeIs v T∧∀ a,v=.ref a→∃ ob,s.heap.get? a=some ob∧ob.dict=none:=by
 cases x with
 | str z =>
  obtain⟨t,rfl⟩:=r;cases (show T="str" from ty);exact⟨typeIs_str s z t,fun _ e=>nomatch e⟩
 | int i =>
  obtain⟨t,rfl⟩:=r;cases (show T="int" from ty);exact⟨typeIs_int s i t,fun _ e=>nomatch e⟩
 | ref p =>
  cases r
  rcases ty with ⟨rfl,xs,hq⟩ | ⟨rfl,o,hk,hc,hd⟩ | ⟨rfl,hk⟩ | ⟨rfl,S,n,hk⟩
  · obtain⟨its,_,pl,_⟩:=I.list hq;refine⟨pl.isList.typeIs,fun a e=>?_⟩;cases e;obtain⟨o,n,e,c,hd,_⟩:=pl;exact⟨o,e,hd⟩
  · refine⟨⟨o,I.kIn p o hk,hc⟩,fun a e=>?_⟩;cases e;exact⟨o,I.kIn _ o hk,hd⟩
  · have z:∃ o,s.heap.get? p=some o∧o.ExactDict:=by
     rcases hk with ⟨kvs,hk⟩ | ⟨kvs,hk⟩
     · obtain⟨_,_,_,_,o,_,_,e,ex,_⟩:=I.hok p _ hk;exact⟨o,e,ex⟩
     · obtain⟨_,_,_,_,o,_,_,e,ex,_⟩:=I.hok p _ hk;exact⟨o,e,ex⟩
    obtain⟨o,e,ex⟩:=z;refine⟨⟨o,e,ex.1⟩,fun a e2=>?_⟩;cases e2;exact⟨o,e,ex.2.1⟩
  · obtain⟨o,_,_,_,e,ex,_⟩:=I.hok p _ hk;refine⟨⟨o,e,ex.1⟩,fun a e2=>?_⟩;cases e2;exact⟨o,e,ex.2.1⟩
 | _=>exact False.elim ty
def u7 (K:Fg) (T:String) (r:V→List V→Hp→VK→Prop) (to:TE):TE:=fun σ H Q=>to σ H fun x H1=>tyV K T x H1∧r x [] H1 Q
def tBM (K:Fg) (T:String) (r:V→List V→Hp→VK→Prop) (to:TE) (t:TA):TE:=fun σ H Q=>to σ H fun x H1=>tyV K T x H1∧t σ H1 fun xs H2=>r x xs H2 Q
variable {o e:Expr} {es:List Expr} {to:TE} {t:TA} {name:Str} {apos cpos:Pos} {T id:String} {r:V→List V→Hp→VK→Prop}
theorem ss (pa:PlainAttrs T) (slot:Slot T name id) (hty:typeOf (.builtin id)=pure (.type "method_descriptor")) (hm:MtR X id r) (ho:PE X o to)
 (hbase:attributeBase o name X.env (eval o X.env)=eval o X.env:=by rfl) (hline:(apos.endLine==cpos.line)=true:=by rfl):PE X (.Call (.Attribute o name apos) [] [] cpos) (u7 X.K T r to):=by
 intro pins s σ H Q I h;refine wpAny_Call_method0_late hbase hline (thn (ho pins s σ H _ I h) fun v s1 zy82=>?_);obtain⟨x,H1,I1,r1,ty,q1⟩:=zy82;obtain⟨h1,h2⟩:=lV I1 r1 ty;exact⟨T,id,pa,slot,hty,h1,h2,Calls.callWith_builtin rfl (PySem.evalArgs_none (hm pins s1 σ H1 x [] v [] Q I1 r1 .nil q1))⟩
theorem uR (pa:PlainAttrs T) (slot:Slot T name id) (hty:typeOf (.builtin id)=pure (.type "method_descriptor")) (hm:MtR X id r) (ho:PE X o to) (ha:PA X (e::es) t)
 (hbase:attributeBase o name X.env (eval o X.env)=eval o X.env:=by rfl)
 (hfew:((backTo cpos (starEach (e::es) X.env)).all (fun x=>!x.1)&&(backToKw cpos (keywordEach [] X.env)).all (fun x=>x.1.isSome)
   && decide ((e::es).length+([]:List Keyword).length+(if ([]:List Keyword).isEmpty then 0 else 1)<30))=true:=by rfl)
 (hline:(apos.endLine==cpos.line)=true:=by rfl) (hs:starEach (e::es) X.env=(false,eval e X.env)::starEach es X.env:=by rfl) (hplain:(backTo cpos (starEach es X.env)).any (·.1)=false:=by rfl) :
 PE X (.Call (.Attribute o name apos) (e::es) [] cpos) (tBM X.K T r to t):=by
 intro pins s σ H Q I h;refine wpAny_Call_method_late hbase hfew hline rfl (thn (ho pins s σ H _ I h) fun v s1 zy83=>?_);obtain⟨x,H1,I1,r1,ty,q1⟩:=zy83;obtain⟨h1,h2⟩:=lV I1 r1 ty;refine⟨T,id,pa,slot,hty,h1,h2,?_⟩;have hA:=ha cpos pins s1 σ H1 _ I1 q1;rw[hs] at hA ⊢;refine Calls.callWith_builtin (by show (false||(backTo cpos (starEach es X.env)).any (·.1))=false;rw[hplain] <;> rfl) (Calls.evalArgs_plain ?_);refine thn hA fun us s2 zy84=>?_;obtain⟨vs,H2,I2,r2,q2⟩:=zy84;exact hm pins s2 σ H2 x vs v us Q I2 r1 r2 q2
/- xs.append(e),list.index on a module's tuple .. are MtR facts of 06m -/
end
def MtM (X:Cx) (id:String) (r:V→List V→Hp→VK→Prop):Prop :=
  ∀ (pins:AOs) (s:Shared) (σ:St) (H:Hp) (x:V) (xs:List V) (v:Value) (us:List Value) (Q:VK),Inv X pins σ H s→aH x v→ax xs us→r x xs H Q →
    wpAny (model X.prog X.w) X.A (call (.builtin id) (v::us)) (EP X pins σ Q) X.xe s
theorem ax.one:∀ {x:V} {us:List Value},ax [x] us→∃ u,us=[u]∧aH x u:=by
 intro x us h;cases h with
 | cons r t=>cases t;exact⟨_,rfl,r⟩
theorem ax.two:∀ {x y:V} {us:List Value},ax [x,y] us→∃ u v,us=[u,v]∧aH x u∧aH y v:=by
 intro x y us h;cases h with
 | cons r t=>obtain⟨u,rfl,q⟩:=ax.one t;exact⟨_,_,rfl,r,q⟩
theorem ax.zero:∀ {us:List Value},ax [] us→us=[]
 | _,.nil=>rfl
theorem ax.dropLast {xs:List V} {us:List Value} (h:ax xs us):ax xs.dropLast us.dropLast:=by
 induction h with
 | nil=>exact .nil
 | cons r t ih =>
  cases t with
  | nil=>exact .nil
  | cons q t'=>exact .cons r ih
theorem ax.rep {xs:List V} {us:List Value} (h:ax xs us):∀ k:Nat,ax (List.replicate k xs).flatten (List.replicate k us).flatten
 | 0=>.nil
 | k+1=>by
  rw[List.replicate_succ,List.replicate_succ,List.flatten_cons,List.flatten_cons];exact ax.append h (ax.rep h k)
theorem jH {α:Type} (l:List α):l.eraseIdx (l.length-1)=l.dropLast:=by
 induction l with
 | nil=>rfl
 | cons a r ih =>
  cases r with
  | nil=>rfl
  | cons b r =>
   have e:(a::b::r).length-1=((b::r).length-1)+1:=by
    have h1:(a::b::r).length=r.length+2:=rfl;have h2:(b::r).length=r.length+1:=rfl;lia
   rw[e,List.eraseIdx_cons_succ,ih]
   all_goals rfl
theorem hU (its:List Value):∀ (k:Nat) (acc:List Value),
 List.foldl (fun x1 x2=>x1++x2) acc.toArray (List.replicate k its.toArray)=(acc++(List.replicate k its).flatten).toArray
 | 0,acc=>by simp
 | k+1,acc=>by
  have e:acc.toArray++its.toArray=(acc++its).toArray:=by simp
  have e2:(acc++its)++(List.replicate k its).flatten=acc++(List.replicate (k+1) its).flatten:=by
   rw[List.replicate_succ,List.flatten_cons,List.append_assoc]
  rw[← e2,← hU its k (acc++its),← e,List.replicate_succ,List.foldl_cons]
section
variable {X:Cx} {pins:AOs} {σ:St} {H:Hp} {s:Shared} {l b:Addr} {xs ys zs:List V}
theorem Inv.lset {its its':List Value} {n:Nat} {f:Array Value→Array Value} {t':Nat} (I:Inv X pins σ H s) (hH:H l=some (.lst xs))
 (e:s.heap.get? l=some {cls:=.type "list",data:=.seq its.toArray n}) (hf:f its.toArray=its'.toArray) (hv:ax ys its') (hz:ys.length≤sizeLine) :
 Inv X pins σ (upd H l (.lst ys)) {s with heap:=s.heap.update l (Obj.mapSeq f),toks:=t'}:=by
 have q:=PySem.IsL.update e f;rw[hf] at q;refine I.write (x:=l) (e:=l) (by rw[hH];exact trivial) (.inl rfl) (fun b' u hb hu=>(Heap.get?_update_other s.heap (Obj.mapSeq f) (Ne.symm hb)).trans hu) ⟨_,q⟩ ?_;exact⟨hz,its',_,hv,q⟩
theorem Inv.lnew {its:List Value} {t':Nat} (I:Inv X pins σ H s) (hv:ax ys its) (hz:ys.length≤sizeLine) :
 Inv X pins σ (upd H s.heap.objs.size (.lst ys)) {s with heap:=s.heap.push {cls:=.type "list",data:=.seq its.toArray},toks:=t'} :=
 I.laid (fun _ _ q=>hpS _ q) (Nat.le_refl _) ⟨hz,its,0,hv,Heap.get?_push_size _ rfl⟩
theorem Inv.fresh (I:Inv X pins σ H s):H s.heap.objs.size=none:=I.hok.fresh (Nat.le_refl _)
theorem Inv.lstM (I:Inv X pins σ H s) (hH:H l=some (.lst xs)):xs.length≤sizeLine∧∃ (its:List Value) (n:Nat),ax xs its∧xs.length=its.length∧s.heap.get? l=some {cls:=.type "list",data:=.seq its.toArray n}:=by
 obtain⟨z,its,n,r,e⟩:=I.hok l _ hH;exact⟨z,its,n,r,r.length,e⟩
theorem mT {n:Nat} (h:n≤sizeLine):Builtin.List.listTooLong n=false:=by
 unfold Builtin.List.listTooLong;exact decide_eq_false (by lia)
end
section
variable {X:Cx}
inductive wD (x:V) (vs:List V) (H:Hp) (Q:VK):Prop
  | mk (l:Addr) (xs:List V) (y:V) (h1:x=.ref l) (h2:vs=[y]) (h3:H l=some (.lst xs)) (h4:xs.length<sizeLine) (q:Q .non (upd H l (.lst (xs++[y])))):wD x vs H Q
def ku:V→List V→Hp→VK→Prop:=fun x vs H Q=>wD x vs H Q
theorem gX:MtM X "list.append" ku:=by
 intro pins s σ H x vs v us Q I rx rv h;obtain⟨l,xs,y,rfl,rfl,hH,hz,q⟩:=h;cases rx;obtain⟨u,rfl,ru⟩:=rv.one;obtain⟨z,its,n,r,hl,e⟩:=I.lstM hH;refine call_meets F.slot_list_append ⟨_,e,rfl⟩ F.entry_list_append (F.args_list_append_2 _ _) (PySem.list_append l its.toArray n u (by rw[List.size_toArray];lia)) ⟨e,?_⟩;refine⟨.non,_,I.lset (its':=its++[u]) hH e (by simp) (r.append (.cons ru .nil)) ?_,rfl,q⟩;rw[lAp,List.length_singleton];lia
def uM:V→List V→Hp→VK→Prop:=fun x vs H Q=>∃ l xs y,x=.ref l∧vs=[]∧H l=some (.lst xs)∧xs[xs.length-1]?=some y∧Q y (upd H l (.lst xs.dropLast))
theorem sS:MtM X "list.pop" uM:=by
 intro pins s σ H x vs v us Q I rx rv h;obtain⟨l,xs,y,rfl,rfl,hH,hy,q⟩:=h;cases rx;have hus:=rv.zero;subst hus;obtain⟨z,its,n,r,hl,e⟩:=I.lstM hH;obtain⟨u,hu,ru⟩:=r.get hy;have hy':its.toArray[its.toArray.size-1]?=some u:=by
  show its.toArray[its.length-1]?=some u;rw[← Array.getElem?_toList,← hl];exact hu
 refine call_meets F.slot_list_pop ⟨_,e,rfl⟩ F.entry_list_pop (F.args_list_pop_1 _) (MeetsSeq.list_pop_last l its.toArray n u hy' (by rw[List.size_toArray];lia)) ⟨e,?_⟩;refine⟨y,_,I.lset (its':=its.dropLast) hH e ?_ r.dropLast ?_,ru,q⟩
 · show its.toArray.eraseIdxIfInBounds (its.toArray.size-1)=its.dropLast.toArray;rw[List.size_toArray,List.eraseIdxIfInBounds_toArray,jH]
 · rw[List.length_dropLast];lia
def xn:R2:=fun x y H Q=>∃ l k xs,x=.ref l∧y=.int k∧H l=some (.lst xs)∧-(2 ^ 63)≤k∧k<2 ^ 63∧xs.length*k.toNat≤sizeLine ∧
  ∀ p,H p=none→Q (.ref p) (upd H p (.lst (List.replicate k.toNat xs).flatten))
theorem ph {α:Type} (xs:List α) (k:Nat):(List.replicate k xs).flatten.length=k*xs.length:=by
 induction k with
 | zero=>simp
 | succ k ih=>rw[List.replicate_succ,List.flatten_cons,lAp,ih,Nat.succ_mul,Nat.add_comm]
theorem su:OpR X (binaryOp .Mult) xn:=by
 intro pins s σ H x y v u Q I rx ry h;obtain⟨l,k,xs,rfl,rfl,hH,h1,h2,hz,q⟩:=h;cases rx;obtain⟨t,rfl⟩:=ry;obtain⟨z,its,n,r,hl,e⟩:=I.lstM hH;have hlen:its.toArray.size*k.toNat≤sizeLine:=by rw[List.size_toArray,← hl];exact hz
 have hcap:¬ its.toArray.size*k.toNat>(2 ^ 63-1) / 8:=by
  have:(sizeLine:Nat)≤(2 ^ 63-1) / 8:=by decide
  lia
 have hfit:¬ (!Builtin.List.listFitsIndex k)=true:=by
  rw[fitsIndex_both h1 h2];exact Bool.false_ne_true
 have hlong:¬ Builtin.List.listTooLong (its.toArray.size*k.toNat)=true:=by
  rw[mT hlen];exact Bool.false_ne_true
 have hnew:List.foldl (fun x1 x2=>x1++x2) #[] (List.replicate (if its.toArray.isEmpty=true then 0 else k.toNat) its.toArray)=(List.replicate k.toNat its).flatten.toArray:=by
  have f0:∀ m:Nat,List.foldl (fun x1 x2=>x1++x2) #[] (List.replicate m its.toArray)=(List.replicate m its).flatten.toArray:=fun m=>by
   have:=hU its m [];rw[List.nil_append] at this;exact this
  rw[f0];cases its with
  | nil=>simp
  | cons a r'=>rw[if_neg (by simp)]
 refine wpAny_binaryOp_repeat_ref (T:="list") (U:="int") (by decide) ⟨_,e,rfl⟩ (fun s'=>typeIs_int s' k t) noFill_list_mul F.fills_int_mul F.slot_int_rmul repeat_list F.slot_int_index.lookup
  (call_meets F.slot_int_rmul (typeIs_int s k t) F.entry_int_rmul (F.args_int_rmul_2 _ _) (int___rmul___int_list k t l its.toArray n)
    ⟨e,rfl,⟨_,e,rfl⟩,call_meets F.slot_list_mul ⟨_,e,rfl⟩ F.entry_list_mul (F.args_list_mul_2 _ _) (AutoListH.list___mul___list_int_3 l its.toArray n k t hfit hcap hlong) ⟨e,?_⟩⟩)
 rw[hnew];exact⟨.ref _,_,I.lnew (t':=s.toks) (r.rep k.toNat) (by rw[ph,Nat.mul_comm];exact hz),rfl,q _ I.fresh⟩
end
section
variable {prog:Program} {w:World} {A:Around} {E:VSP} {s:Shared}
set_option maxRecDepth 100000 in
end
section
variable {X:Cx}
end
end L2
namespace Att
open PySem PySem.W PySem.Calls PyProof.Rows
theorem fB {P:Params} {h:Heap}:∀ (ns:List Int) (vs:List Value),WellAll P h vs (ns.map WData.int)→IntsAre vs ns:=by
 intro ns
 induction ns with
 | nil =>
  intro vs w;rw[List.map_nil] at w;cases w;exact .nil
 | cons n ns ih =>
  intro vs w;rw[List.map_cons] at w;cases w with
  | cons a b =>
   cases a;exact .cons _ _ (ih _ b)
theorem lh {l:OpenLaw} {n:Nat} (hn:l.most=some n) {P:Params} {h:Heap} {args:List WData} {vals:List Value}
 (hpre:l.row.toRowW.claim.pre args=true) (hwl:WellAll P h vals args) :
 ∃ a vs ns,vals=[Value.ref a]∧args=[WData.list (ns.map WData.int)]∧h.get? a=some {cls:=.type "list",data:=.seq vs.toArray}∧IntsAre vs ns∧ns.length≤n:=by
 have hsh:WShape.hasAll [] args [.list .int]=true:=(pre_splitW hpre).1;have hc:l.pre.holds [] {args:=args}=true:=(pre_splitW hpre).2;obtain⟨d,r,rfl,h1,h2⟩:=hasAllW_cons hsh;obtain rfl:=hasAllW_nil h2;obtain⟨xs,rfl,h3⟩:=hasW_list h1;obtain⟨ns,rfl⟩:=items_int h3;have hlen:ns.length≤n:=by
  unfold OpenLaw.pre at hc;have h4:(WTm.not (.lt (.lit (.int (n:Int))) (.len (.arg 0)))).holds [] {args:=[.list (ns.map .int)]}=true:=by
   have h4:=(holds_andW hc).1;rw[hn] at h4;exact h4
  have h5:=condW_of h4 (w_not (w_lt w_lit (w_len_list (w_arg rfl))));rw[lMp] at h5;refine Nat.le_of_not_lt fun q=>?_;have q':(n:Int)<((ns.length:Nat):Int):=by lia
  first
   | (rw[decide_eq_true q'] at h5;exact absurd h5 (by decide))
   | (simp at h5;lia)
 cases hwl with
 | cons w1 w2 =>
  cases w2;cases w1 with
  | list ho hall=>exact⟨_,_,ns,rfl,rfl,ho,fB ns _ hall,hlen⟩
theorem ln (l:OpenLaw) (args:List WData):l.row.toRowW.claim.post args (.bool true) args=true :=
 postW_of (r:=l.row.toRowW) (X:=(true==true))
  (show WShape.has [] (.bool true) .bool=true by first | rfl | decide | simp[WShape.has,WShape.arms,WShape.armsAll])
  (show (WTm.eq .res (.lit (.bool true))).value [] {args:=args,res:=some (.bool true),after:=args}=some (.bool (true==true)) from w_eq_bool (w_res rfl) w_lit) rfl
theorem attach_call {l:OpenLaw} {n:Nat} {q:Program} {loose:List Str} {XP:(Str→Option Value)→Heap→Prop} {YP:World→Heap→Prop} {d:DefRec}
 (hn:l.most=some n) (hdf:d.params.defaults=[])
 (call:∀ (w:World) (s₀ s₁:Shared) (mg mb:SOV) (fa:Addr) (o:Obj) (pm cd doc:Value) (a:Addr) (vs:List Value) (ns:List Int),
   Ground q loose [] XP w s₀ mg mb s₁.heap→YP w s₁.heap →
   s₁.heap.get? fa=some o→o.data=.func (docDef d.name d.params d.body d.scope pm cd doc)→s₁.heap.CodeRec cd d.name→mg d.name=some (.ref fa) →
   s₁.heap.get? a=some {cls:=.type "list",data:=.seq vs.toArray}→IntsAre vs ns→ns.length≤n→s₁.gens=#[] →
   codeAny (model l.prog w) callerA (.call (.ref fa) ⟨[.ref a],[]⟩) (fun r s'=>r=.ok (.ret (.bool true))∧OldK s₁.heap s'.heap∧s'.os=s₁.os∧AllBare s'.gens) s₁) :
 WalkO q loose XP YP l.row.toRowW d [] (fun f vs=>PySem.call f vs):=by
 intro w s₀ s₁ mg mb G Y fa o pm cd doc dV kV ho hd hcd hD hmg hg args vals as hpre hlay hrd hwl hlo;obtain rfl:dV=.none:=Dflts.none hD hdf;obtain rfl:kV=.none:=Dflts.noKw hD;obtain⟨a,vs,ns,rfl,rfl,hobj,hints,hlen⟩:=lh hn hpre hwl;refine enter_call (codeAny_mono (call w s₀ s₁ mg mb fa o pm cd doc a vs ns G Y ho (fd_plain hd) hcd hmg hobj hints hlen hg) fun r s' hq=>?_);obtain⟨rfl,h2,h3,h4⟩:=hq;exact⟨.inl ⟨.bool true,.bool true,[],rfl,fun _=>rfl,.bool true,ln l _,fun _=>⟨List.Pairwise.nil,fun _ hm=>(nomatch hm)⟩⟩,h2,h3,h4⟩
section
variable {prog:Program} {w:World} {A:Around} {E:VSP} {s:Shared} {K:Frag}
end
end Att
namespace L2
open PySem PySem.Spec PyProof.Rows
theorem l4:∀ {vs:List Value} {ns:List Int},IntsAre vs ns→ax (ns.map V.int) vs:=by
 intro vs ns h
 induction h with
 | nil=>exact .nil
 | cons n t h ih=>exact .cons ⟨t,rfl⟩ ih
def tL (H:Hp):Prop:=∀ b,H b=none∨∃ o xs,H b=some (.frz o (.lst xs))
theorem n0 {P:Program} {w:World} {K:Fg} {mg mb:SOV} {CX:CXT} {k:Nat} {fa a:Addr} {fd:FuncData} {x:Str} {sp:Sp} {s₁:Shared} {vs:List Value} {ns:List Int}
 (KX:K.In s₁.heap) (hns:s₁.heap.Ns mainGlobals mg) (hb:s₁.heap.Ns builtinsNs mb) (hbb:∀ x:Str,x≠"__name__"→mb x=bootBuiltins x) (hlim:s₁.heap.NoLimit) (hg:s₁.gens=#[])
 (ha:s₁.heap.get? a=some {cls:=.type "list",data:=.seq vs.toArray}) (hi:IntsAre vs ns) (hl:ns.length≤sizeLine) (hr:bG k callerA)
 (F:∀ base:Heap,K.In base→base.Ns mainGlobals mg→d0 P w K mg base CX k fa fd [x] sp) (hbind:∀ (s:Shared) (u:Value),BindsTo s fd ⟨[u],[]⟩ [(x,u)])
 (hsp:∀ H:Hp,tL H→SqL K H a (ns.map V.int)→sp [.ref a] H (fun v _=>v=.bl true) fun _ _ _=>False)
 (hCX:∀ H e s',CX [] H s₁ (fun _ _ _=>False) e s'→False) :
 codeAny (model P w) callerA (.call (.ref fa) ⟨[.ref a],[]⟩) (fun r s'=>r=.ok (.ret (.bool true))∧OldK s₁.heap s'.heap∧s'.os=s₁.os∧AllBare s'.gens) s₁:=by
 have rv:=l4 hi;have lenV:=hi.length;have core:∀ H:Hp,tL H→SqL K H a (ns.map V.int)→HOk P w H s₁.heap→(∀ b,H b≠none→b=a)→(H a≠none→K.lookup a=none) →
  codeAny (model P w) callerA (.call (.ref fa) ⟨[.ref a],[]⟩) (fun r s'=>r=.ok (.ret (.bool true))∧OldK s₁.heap s'.heap∧s'.os=s₁.os∧AllBare s'.gens) s₁:=by
  intro H hO hS hok hA hK;have base_of:∀ {b:Addr} {o:Obj},s₁.heap.get? b=some o→H b=none→(io s₁.heap H).get? b=some o:=fun e n=>nk e n;have noA:∀ {b:Addr} {o:Obj} {es:Array DictEntry} {ep:Nat},s₁.heap.get? b=some o→o.data=.dict es ep→H b=none:=fun {b o es ep} e d=>by
   cases q:H b with
   | none=>rfl
   | some u =>
    have e':b=a:=hA b (by rw[q];simp);subst e';rw[ha] at e;cases e;have d':Data.seq vs.toArray _=Data.dict es ep:=d;cases d'
  have nsK:∀ {b:Addr} {m:SOV},s₁.heap.Ns b m→(io s₁.heap H).Ns b m:=fun {b m} ⟨o,es,ep,e,d,r⟩=>⟨o,es,ep,base_of e (noA e d),d,r⟩;have hKb:K.In (io s₁.heap H):=fun b o e=>base_of (KX b o e) (by
    cases q:H b with
    | none=>rfl
    | some u =>
      have e':b=a:=hA b (by rw[q];simp);subst e';rw[hK (by rw[q];simp)] at e;cases e)
  have hM:Mod K mg (io s₁.heap H):=⟨hKb,nsK hns,⟨mb,nsK hb,hbb⟩,let ⟨mc,h1,h2⟩:=hlim;⟨mc,nsK h1,h2⟩⟩;have e0:jZ P w K mg (io s₁.heap H) callerA [] s₁ H:=⟨rfl,hM,fun b o e=>oW e,Nat.le_of_eq (lB _ _),trivial,fun b hb=>absurd (show b∈([]:List Addr) from hb) (by simp),hok,.of_eq hg⟩;refine codeAny_mono ((F _ hKb (nsK hns)).run callerA [] s₁ H ⟨[.ref a],[]⟩ [.ref a] [.ref a] _ _ hr e0 (hbind s₁ (.ref a)) (.cons rfl .nil) (hsp H hO hS)) fun r s' h=>?_;cases r with
  | error e=>exact (hCX H e s' h).elim
  | ok fl =>
   cases fl with
   | next=>exact False.elim h
   | brk=>exact False.elim h
   | cont=>exact False.elim h
   | ret u =>
    obtain⟨v,H',os,bare,un,hok',r',q⟩:=h;have q':v=.bl true:=q;subst q';obtain rfl:u=Value.bool true:=r';refine⟨rfl,OldK.of_keep fun b o e=>?_,os,bare⟩;cases q:H b with
    | none=>exact un.keep b o e q (by intro z;exact absurd (show b∈([]:List Addr) from z) (by simp)) (by simp)
    | some u =>
     rcases hO b with z | ⟨ob,xs,z⟩
     · rw[q] at z;cases z
     · have z2:=un.frzs b ob _ z;obtain⟨e1,_⟩:=hok b _ z;obtain⟨e2,_⟩:=hok' b _ z2;rw[e] at e1;cases e1;exact e2
 cases hk:K.lookup a with
 | some o =>
  have e:=KX a o hk;rw[ha] at e;cases e;refine core (fun _=>none) (fun _=>.inl rfl) (.inr ⟨_,vs.toArray,_,hk,rfl,rfl,rfl,by rw[List.size_toArray,lenV];exact hl,by simpa using rv⟩) (fun b u z=>by have z':(none:Option HO)=some u:=z;cases z') (fun b z=>absurd rfl z) fun z=>absurd rfl z
 | none =>
  refine core (fun b=>if b=a then some (.frz {cls:=.type "list",data:=.seq vs.toArray} (.lst (ns.map V.int))) else none) (fun b=>?_) (.inl (.inr ⟨{cls:=.type "list",data:=.seq vs.toArray},if_pos rfl⟩)) (fun b u z=>?_) (fun b z=>?_) fun _=>hk
  · by_cases hb:b=a
    · exact .inr ⟨_,_,if_pos hb⟩
    · exact .inl (if_neg hb)
  · by_cases hb:b=a
    · have z':=(if_pos hb).symm.trans z;cases z';subst hb;exact⟨ha,by rw[lMp];exact hl,vs,_,rv,ha⟩
    · have z':=(if_neg hb).symm.trans z;cases z'
  · by_cases hb:b=a
    · exact hb
    · exact absurd (if_neg hb) z
abbrev KOf {K:Fg} {h:Heap} (_:K.In h):Fg:=K
theorem kc {l:PySem.W.OpenLaw} {n k:Nat} {q:Program} {loose:List Str} {XP:(Str→Option Value)→Heap→Prop} {YP:World→Heap→Prop} {d:DefRec} {K:Params→Fg} {CX:World→CXT} {sp:World→Sp} {x:Str}
 (hn:l.most=some n) (hn2:n≤sizeLine) (hdf:d.params.defaults=[]) (hr:bG k callerA)
 (hY:∀ (w:World) (h:Heap),YP w h→(K w.params).In h)
 (F:∀ (w:World) (mg:SOV) (fa:Addr) (h:Heap),(K w.params).In h→h.Ns mainGlobals mg→mg d.name=some (.ref fa) →
   ∃ fd:FuncData,(∀ (s:Shared) (u:Value),BindsTo s fd ⟨[u],[]⟩ [(x,u)]) ∧
     ∀ base:Heap,(K w.params).In base→base.Ns mainGlobals mg→d0 l.prog w (K w.params) mg base (CX w) k fa fd [x] (sp w))
 (hsp:∀ (w:World) (H:Hp) (a:Addr) (ns:List Int),ns.length≤n→tL H→SqL (K w.params) H a (ns.map V.int)→sp w [.ref a] H (fun v _=>v=.bl true) fun _ _ _=>False)
 (hCX:∀ (w:World) (H:Hp) (s:Shared) (e:Value) (s':Shared),CX w [] H s (fun _ _ _=>False) e s'→False) :
 PySem.W.WalkO q loose XP YP l.row.toRowW d [] (fun f vs=>PySem.call f vs):=by
 refine Att.attach_call hn hdf fun w s₀ s₁ mg mb fa o pm cd doc a vs ns G Y ho hd hcd hmg hobj hints hlen hg=>?_;have KX:=hY w _ Y;obtain⟨fd,hb,hF⟩:=F w mg fa _ KX G.T.g hmg;exact n0 KX G.T.g G.T.b G.T.builtins G.T.nolimit hg hobj hints (Nat.le_trans hlen hn2) hr hF hb (fun H hO hS=>hsp w H a ns hlen hO hS) fun H e s'=>hCX w H s₁ e s'
end L2
/- THE LAST THEOREM (shape;LID,My.* are yours):
   My.Adr: a structure of the addresses that your layer names (classes,functions);My.Txt K t: a structure (Prop) of the equations over K;
   My.txt_mk:{K} {implicit addresses ..} (e1:nsIn K mainGlobals "law"=some (some (.ref f))) (e2:K.lookup f=some ⟨oc,od,.func (fnOf "law" "law" params body scope dV kV doc pm an cdv ct),sl⟩) (e3:codeIn K cdv "law"=true) ..:∃ t,My.Txt K t
set_option maxRecDepth 100000 in
set_option maxHeartbeats 0 in
theorem PySem.Challenge.cw_LID_holds:PySem.Challenge.rw_LID.Holds:=by
 w_on;o_law;k_head;(case hw=>w_witness2)
 k_fill
 refine L2.kc (l:=PySem.Challenge.rw_LID) (n:=63) (k:=40) (x:="script") (CX:=fun w=>..) (sp:=fun _=>My.sp_law) rfl (by decide) rfl ⟨rfl,by decide,by decide⟩ (fun w h Y=>PySem.W.kIn_of Y) ?F ?S ?C
 case F =>
  intro w mg fa h KX G hmg;have T:∃ t,My.Txt (L2.KOf KX) t:=by
   dsimp only[L2.KOf]                          -- K must stand as «<heap const> w.params» for k_is;refine' My.txt_mk ?e1 ?e2 ?e3 ..
   (case e1=>PySem.W.k_is)                    -- in the order: a name -> its address -> its object -> its parts
   (case e2=>PySem.W.k_is)
   ..
  obtain⟨t,T⟩:=T;have e0:=hmg.symm.trans (PySem.W.mg_of KX G T.law);cases e0                                       -- fa is the law's own address;exact⟨_,fun s u=>.of_eq rfl,fun base kb nb=>My.law_fn T kb nb⟩     -- if «.of_eq rfl» comes too early: refine' ⟨_,?b,fun base kb nb=>My.law_fn T kb nb⟩;exact fun s u=>.of_eq rfl
 case S=>exact fun w H a ns hl hO hS=>..
 case C=>exact ..
(the tactic k_is has no namespace: write k_is) -/
namespace L2
open PySem PySem.Spec PyProof.Rows
abbrev CX0:CXT:=fun _ _ _ _ _ _=>False
abbrev E0:XK:=fun _ _ _=>False
theorem iL {X:Cx}:e8 CX0 X E0:=fun _ _ _ _ _ _ _ h=>h.elim
structure Fun (K:Fg) (x qual:Str) (st:Stmt) (f:Addr) (fd:FuncData):Prop where
  ex:∃ (oc:Value) (od:Option Addr) (kV doc pm:Value) (an:Option Addr) (cdv ct:Value) (osl:Array (Option Value)),
    fd=PySem.W.fnOf x qual (bK st) (b9 st) (ak st) .none kV doc pm an cdv ct∧K.lookup f=some ⟨oc,od,.func fd,osl⟩∧PySem.W.codeIn K cdv qual=true
  kp:PySem.W.keepIn K (.ref f)=true
section
variable {P:Program} {w:World} {K:Fg} {mg:SOV} {base:Heap}
theorem Fun.ok {x qual:Str} {st:Stmt} {f:Addr} {fd:FuncData} {N ps:List Str} {k:Nat} {sp:Sp} (F:Fun K x qual st f fd) (S:bF N ps (ak st)) (len:∀ vs H Q E,sp vs H Q E→vs.length=ps.length)
 (hbody:∀ (cdv:Value) (A:Around) (outer:List Env) (s:Shared) (H:Hp) (vs:List V) (Q:VK) (E:XK),bG k (A.deeper (envOfC qual (ak st) s.heap.objs.size f cdv))→sp vs H Q E →
   ∃ t,PSs (eP CX0 P w K mg base N qual (ak st) f cdv A outer s H E).nox (b9 st) t∧t {nx:=fun _ H'=>Q .non H',rt:=Q} (cr N vs) H):d0 P w K mg base CX0 (k+1) f fd ps sp:=by
 obtain⟨oc,od,kV,doc,pm,an,cdv,ct,osl,rfl,lk,hcd⟩:=F.ex;refine we lk hcd S len fun A outer s H vs Q E hr hsp=>?_;obtain⟨t,h,q⟩:=hbody cdv A outer s H vs Q E hr hsp;exact⟨t,h.nox,q⟩
theorem Fun.binds {x qual:Str} {st:Stmt} {f:Addr} {fd:FuncData} {ps:List Str} (F:Fun K x qual st f fd)
 (h:∀ (kV doc pm:Value) (an:Option Addr) (cdv ct:Value) (us:List Value),us.length=ps.length→bindArgs (PySem.W.fnOf x qual (bK st) (b9 st) (ak st) .none kV doc pm an cdv ct) ⟨us,[]⟩=pure (ps.zip us)):cG K fd ps []:=by
 obtain⟨oc,od,kV,doc,pm,an,cdv,ct,osl,rfl,lk,hcd⟩:=F.ex;exact .all (h kV doc pm an cdv ct)
theorem cA {x qual:Str} {st:Stmt} {f:Addr} {oc:Value} {od an:Option Addr} {osl:Array (Option Value)} {kV doc pm cdv ct:Value} (l:K.lookup f=some ⟨oc,od,.func (PySem.W.fnOf x qual (bK st) (b9 st) (ak st) .none kV doc pm an cdv ct),osl⟩)
 (c:PySem.W.codeIn K cdv qual=true) (k:PySem.W.keepIn K (.ref f)=true):Fun K x qual st f (PySem.W.fnOf x qual (bK st) (b9 st) (ak st) .none kV doc pm an cdv ct):=⟨⟨oc,od,kV,doc,pm,an,cdv,ct,osl,rfl,l,c⟩,k⟩
end
theorem nj {A:Around} {k:Nat} (hr:bG k A):A.units+1<cLine:=Nat.lt_of_le_of_lt (Nat.add_le_add_left (by decide:1≤64) _) hr.units
section
variable {X:Cx}
theorem pv (i:Nat) {x:Str} {pos:Pos} (hN:X.N[i]?=some x:=by rfl) (hv:Vis X.env.scope x:=by first | exact Or.inl rfl | exact Or.inr (Or.inl rfl) | exact Or.inr (Or.inr rfl)) (hd:(x==("__debug__":Str))=false:=by decide)
 (hcd:(x==("__classdict__":Str))=false:=by decide):PE X (.Name x pos) (cu i):=sq hN hv hd hcd
end
theorem aP {A B:Prop} (h:B):if false=true then A else B:=by
 rw[if_neg Bool.false_ne_true];exact h
theorem aW {A B:Prop} (h:A):if true=true then A else B:=by
 rw[if_pos rfl];exact h
theorem xw {c A B:Prop} [Decidable c] (h1:c→A) (h2:¬ c→B):if c then A else B:=by
 by_cases h:c
 · rw[if_pos h];exact h1 h
 · rw[if_neg h];exact h2 h
def ai (H H':Hp):Prop:=∀ b o,H b=some o→H' b=some o
theorem ai.refl (H:Hp):ai H H:=fun _ _ h=>h
theorem ai.trans {H H1 H2:Hp} (a:ai H H1) (b:ai H1 H2):ai H H2:=fun c o h=>b c o (a c o h)
theorem ai.seq {K:Fg} {H H':Hp} {a:Addr} {xs:List V} (e:ai H H') (h:SqL K H a xs):SqL K H' a xs:=by
 rcases h with (h | ⟨o,h⟩) | h
 · exact .inl (.inl (e _ _ h))
 · exact .inl (.inr ⟨o,e _ _ h⟩)
 · exact .inr h
end L2
theorem eG {P:Prop} (h:∀ G:Prop,(P→G)→G):P:=h P id
set_option maxHeartbeats 4000000
namespace L2
open PySem PySem.Spec PyProof.Rows
def blk (X:Cx) (sc:Scope) (cl:List (Str×Addr)) (N':List Str) (fp:List Addr) (pins:AOs) (s:Shared) (H:Hp):Cx where
  prog:=X.prog
  w:=X.w
  K:=X.K
  mg:=X.mg
  base:=X.base
  A:=X.A
  N:=N'
  s₀:=s
  H₀:=H
  env:=compEnvC sc cl s.heap.objs.size X.env
  outer:=X.stack
  stack:=X.stack
  ex:=fp
  fn:=fun _=>false
  calm:=X.calm
  pn:=X.pn++pins
  xe:=fun _ _=>False
def cC (cells:List (Str×Addr)):List (Str×NameKind)→List (Str×Addr)→List (Str×Addr)
  | [],acc=>acc
  | (n,k)::r,acc=>cC cells r (if k==.free then (match cells.lookup n with | some c=>(n,c)::acc | none=>acc) else acc)
theorem j4 (cells:List (Str×Addr)):∀ (ns:List (Str×NameKind)) (acc:List (Str×Addr)),(∀ x c,(x,c)∈acc→cells.lookup x=some c)→∀ x c,(x,c)∈cC cells ns acc→cells.lookup x=some c
 | [],acc,h,x,c,m=>h x c m
 | (n,k)::r,acc,h,x,c,m=>by
  unfold cC at m;refine j4 cells r _ (fun y d q=>?_) x c m;split at q
  · split at q
    · rename_i c' e
      rcases List.mem_cons.mp q with z | z
      · cases z;exact e
      · exact h y d z
    · exact h y d q
  · exact h y d q
theorem j5 (cells:List (Str×Addr)):∀ (ns:List (Str×NameKind)) (acc:List (Str×Addr)) (x:Str) (c:Addr),(x,c)∈acc→∃ d,(x,d)∈cC cells ns acc
 | [],acc,x,c,m=>⟨c,m⟩
 | (n,k)::r,acc,x,c,m=>by
  unfold cC;refine j5 cells r _ x c ?_;split
  · split
    · exact mCM _ m
    · exact m
  · exact m
theorem gj (cells:List (Str×Addr)):∀ (ns:List (Str×NameKind)) (acc:List (Str×Addr)) (x:Str) (c:Addr),(x,NameKind.free)∈ns→cells.lookup x=some c→∃ d,(x,d)∈cC cells ns acc
 | [],acc,x,c,m,e=>by cases m
 | (n,k)::r,acc,x,c,m,e=>by
  rcases List.mem_cons.mp m with z | z
  · cases z;unfold cC;refine j5 cells r _ n c ?_;rw[if_pos (by decide),e];exact mCS
  · unfold cC;exact gj cells r _ x c z e
theorem dR:∀ {l:List (Str×Addr)} {x:Str} {c:Addr},(x,c)∈l→∃ d,l.lookup x=some d
 | (y,d)::r,x,c,m=>by
  by_cases h:x=y
  · subst h;exact⟨d,by simp[List.lookup_cons]⟩
  · rcases List.mem_cons.mp m with z | z
    · cases z;exact absurd rfl h
    · obtain⟨d',e⟩:=dR z;refine⟨d',?_⟩;have:(x==y)=false:=by simpa using h
      simp[List.lookup_cons,this,e]
theorem fw (env:Env):∀ (ns:List (Str×NameKind)) (acc:List (Str×Addr)),(∀ y∈ns,y.2=.free→∃ c,env.cells.lookup y.1=some c) →
 (forIn (m:=Sem) ns acc fun (x:Str×NameKind) r=>if (x.2==.free)=true then (do let a ← cellOf env x.1;pure (ForInStep.yield ((x.1,a)::r))) else pure (ForInStep.yield r))=pure (cC env.cells ns acc)
 | [],acc,_=>rfl
 | (n,k)::r,acc,h=>by
  rw[List.forIn_cons];have ih:=fun acc=>fw env r acc fun y hy=>h y (mCM _ hy);unfold cC;by_cases hk:k=.free
  · subst hk;obtain⟨c,e⟩:=h (n,.free) mCS rfl;have e':env.cells.lookup n=some c:=e;simp only[cellOf,e',beq_self_eq_true,if_true,pure_bind];exact ih _
  · have hb:(k==NameKind.free)=false:=by simpa using hk
    simp only[hb,Bool.false_eq_true,if_false,pure_bind];exact ih _
theorem jN {env:Env} {sc:Scope} (h:∀ y∈sc.names,y.2=.free→∃ c,env.cells.lookup y.1=some c):closureFor sc env=pure (cC env.cells sc.names []):=by
 have q:=fw env sc.names [] h;unfold closureFor
 first
  | (rw[show (forIn (m:=Sem) sc.names ([]:List (Str×Addr)) _)=_ from q];rfl)
  | (simp only[bind_pure];exact q)
  | exact q
section
variable {X:Cx} {pins:AOs} {σ:St} {H:Hp} {s:Shared}
theorem dY {sc:Scope} {x:Str} {c:Addr} (e:(cC X.env.cells sc.names []).lookup x=some c):X.env.cells.lookup x=some c :=
 j4 _ _ _ (fun _ _ m=>by cases m) x c (PySem.mem_of_lookup e)
def eQ (k:Nat) (outs:List (Nat×Str)) (σ:St):St:=List.replicate k none++outs.map fun p=>(σ[p.1]?).getD none
def fD (own:List Str) (outs:List (Nat×Str)):List Str:=own++outs.map (·.2)
structure bb (X:Cx) (sc:Scope) (own:List Str) (outs:List (Nat×Str)):Prop where
  kind:sc.kind=.function
  nocell:∀ y∈sc.names,y.2≠.cell
  loc:∀ y∈sc.names,y.2=.local→sc.names.lookup y.1=some .local
  fr:∀ y∈sc.names,y.2=.free→X.env.kindOf y.1=some .cell∨X.env.kindOf y.1=some .free
  outNo:∀ p∈outs,(relabel sc X.env).names.lookup p.2≠some .local
  outN:∀ p∈outs,X.N[p.1]?=some p.2∧(X.env.scope.names.lookup p.2=some .cell∨X.env.scope.names.lookup p.2=some .free)
theorem dS {α:Type}:∀ {l:List (Str×α)} {x:Str} {k:α},l.lookup x=some k→(x,k)∈l
 | (y,d)::r,x,k,e=>by
  by_cases h:x=y
  · subst h;simp[List.lookup_cons] at e;subst e;exact mCS
  · have:(x==y)=false:=by simpa using h
    simp[List.lookup_cons,this] at e;exact mCM _ (dS e)
 | [],x,k,e=>by simp at e
theorem cE {sc:Scope} {env:Env} {x:Str} {k:NameKind} (nc:∀ y∈sc.names,y.2≠.cell) (hk:k=.cell∨k=.free) (e:(relabel sc env).names.lookup x=some k):(x,NameKind.free)∈sc.names:=by
 have m:=dS e;unfold relabel at m;obtain⟨⟨n,k'⟩,m1,m2⟩:=List.mem_map.mp m;by_cases c:(k'==NameKind.free&&env.scope.kind==.function&&env.kindOf n==some .cell)=true
 · dsimp only at m2;rw[if_pos c] at m2;cases m2;have:k'=.free:=by
    have:=(Bool.and_eq_true_iff.mp (Bool.and_eq_true_iff.mp c).1).1
    simpa using this
   subst this;exact m1
 · dsimp only at m2;rw[if_neg c] at m2;cases m2
   rcases hk with z | z
   · subst z;exact absurd rfl (nc _ m1)
   · subst z;exact m1
theorem pp {sc:Scope} {own:List Str} {outs:List (Nat×Str)} {fp:List Addr} {h':Heap} {t':Nat} (I:Inv X pins σ H s) (S:bb X sc own outs) (hf:∀ b∈fp,gl X pins H b) (hfo:∀ b∈fp,b<s.heap.objs.size)
 (hn:h'.Ns s.heap.objs.size fun _=>none) (hk:∀ b o,s.heap.get? b=some o→h'.get? b=some o) :
 Inv (blk X sc (cC X.env.cells sc.names []) (fD own outs) fp pins s H) [] (eQ own.length outs σ) H {s with heap:=h',toks:=t'}:=by
 have hcells:∀ y∈sc.names,y.2=.free→∃ c,X.env.cells.lookup y.1=some c:=fun y hy e=>I.ok.has y.1 (S.fr y hy e);have ltL:∀ b,b<s.heap.objs.size→b≠s.heap.objs.size:=fun b hb=>Nat.ne_of_lt hb;refine⟨⟨I.mod,?_,I.ok.glob,I.ok.blt,Nat.le_refl _,fun x y c e1 e2=>I.ok.inj x y c (dY e1) (dY e2),fun x hx=>?_,fun x c z _=>absurd z Bool.false_ne_true,I.ok.hd,I.ok.frames,.inl rfl,fun b hb=>⟨ltL b (hfo b hb),fun x c e=>(hf b hb).2.2.2.2.1 x c (dY e)⟩,I.bs,
     Nat.le_trans I.ok.bsz I.sz,fun b o e hb=>?_,fun b hb z=>?_,I.stack,I.stkFree⟩,rfl,I.bare,Un.kept hk,⟨_,hn,fun i x v e1 e2 e3=>?_⟩,fun x c e=>?_,I.hok.fresh (Nat.le_refl _),fun x c e=>I.freeC x c (dY e),fun p hp=>?_,I.hok.kept hk,?_⟩
 · exact S.kind
 · have hm:(x,NameKind.free)∈sc.names:=by
    rcases hx with e | e
    · exact cE S.nocell (.inl rfl) e
    · exact cE S.nocell (.inr rfl) e
   obtain⟨c,e⟩:=hcells (x,.free) hm rfl;obtain⟨d,m⟩:=gj X.env.cells sc.names [] x c hm e;exact dR m
 · rcases (hf b hb).2.2.2.1 with z | z
   · exact I.ok.noex b o e z
   · exact absurd (Nat.lt_of_lt_of_le (Heap.lt_size e) (Nat.le_trans I.ok.bsz z)) (Nat.lt_irrefl _)
 · rcases List.mem_cons.mp (I.stkSub b z) with e | e
   · exact (hf b hb).2.1 e
   · exact (hf b hb).2.2.1 e
 · -- a name that is seen
   have e2':i<(eQ own.length outs σ).length:=(gES.mp e2).1;by_cases hi:i<own.length
   · unfold eQ at e2;rw[List.getElem?_append_left (by simpa using hi),List.getElem?_replicate] at e2;split at e2 <;> cases e2
   · have hi':own.length≤i:=Nat.not_lt.mp hi;unfold eQ at e2;rw[List.getElem?_append_right (by simpa using hi'),List.length_replicate,gEM] at e2;have e1':(fD own outs)[i]?=some x:=e1;unfold fD at e1';rw[List.getElem?_append_right hi',gEM] at e1';cases q:outs[i-own.length]? with
     | none=>rw[q] at e1';cases e1'
     | some p =>
      rw[q] at e1' e2;have ex:p.2=x:=Option.some.inj e1';have ev:(σ[p.1]?).getD none=some v:=Option.some.inj e2;have hσ:σ[p.1]?=some (some v):=by
       cases z:σ[p.1]? with
       | none=>rw[z] at ev;cases ev
       | some o=>rw[z] at ev;exact congrArg some ev
      obtain⟨hN,hkd⟩:=S.outN p (mGE q);rw[ex] at hN hkd;obtain⟨m,_,hl⟩:=I.loc;obtain⟨u,r,l⟩:=hl p.1 x v hN hσ (hkd.elim (fun z=>.inr (.inl z)) fun z=>.inr (.inr z));refine⟨u,r,?_⟩
      rcases l with ⟨k,_⟩ | ⟨_,c,ec,z⟩
      · have k':X.env.scope.names.lookup x=some .local:=k
        rcases hkd with y | y <;> (rw[k'] at y;cases y)
      · have hloc:(relabel sc X.env).names.lookup x=some .local∨(relabel sc X.env).names.lookup x=some .cell∨(relabel sc X.env).names.lookup x=some .free:=e3;have zc:h'.IsCell c (some u):=by
         obtain⟨o,ho,hd⟩:=z;exact⟨o,hk c o ho,hd⟩
        rcases hloc with y | y
        · -- the block binds the name itself: then the slot is not the outer one's;excluded by the caller
          exact absurd y (fun y=>S.outNo p (mGE q) (by rw[ex];exact y))
        · have hm:(x,NameKind.free)∈sc.names:=by
           rcases y with e | e
           · exact cE S.nocell (.inl rfl) e
           · exact cE S.nocell (.inr rfl) e
          obtain⟨d,md⟩:=gj X.env.cells sc.names [] x c hm ec;obtain⟨d',ed⟩:=dR md;have e0:=dY (X:=X) (sc:=sc) ed;rw[ec] at e0;have e0':c=d':=Option.some.inj e0;subst e0';exact .inr ⟨y,c,ed,zc⟩
 · obtain⟨v,o,ho,hd⟩:=I.cell x c (dY e);exact⟨v,o,hk c o ho,hd⟩
 · have hp':p∈X.pn++pins:=by
    rcases mAp.mp hp with z | z
    · exact z
    · cases z
   obtain⟨e,n,ne,nf,d⟩:=I.pin p hp';refine⟨hk p.1 p.2 e,n,ltL p.1 (Heap.lt_size e),fun z=>?_,d⟩
   rcases List.mem_cons.mp (I.stkSub p.1 z) with y | y
   · exact ne y
   · exact nf y
 · show (eQ own.length outs σ).length=(fD own outs).length;unfold eQ fD;simp
end
abbrev nh (ifs:List Expr) (env:Env):Sem Bool :=
  forIn ifs true fun c r=>if r=true then do let ok ← isTrue c env (eval c env);pure (ForInStep.yield ok) else pure (ForInStep.yield r)
def tK (X:Cx) (ifs:List Expr) (t:TT):Prop :=
  ∀ (pins:AOs) (s:Shared) (σ:St) (H:Hp) (Q:Bool→Hp→Prop),Inv X pins σ H s→t σ H Q→wpAny (model X.prog X.w) X.A (nh ifs X.env) (TP X pins σ Q) X.xe s
def lY:TT:=fun _ H Q=>Q true H
theorem bU {X:Cx}:tK X [] lY:=fun pins s σ H Q I h=>wpAny_tests_nil ⟨H,I,h⟩
theorem mZ {prog:Program} {w:World} {A:Around} {R:Result→Shared→Prop} {s:Shared} {elt tg iter:Expr} {ifs:List Expr} {sc:Scope} {pos:Pos} {it acc:Value} {env:Env} (J:Nat→Shared→Prop)
 (turn:∀ n s,J n s→wpAny (model prog w) A (pyNext it) (fun r s1=>(r=none∧R (.ok .next) s1)∨∃ v,r=some v ∧
   wpAny (model prog w) A (letOwnedTupleGo tg it v) (fun _ s2=>wpAny (model prog w) A (assign tg env v) (fun _ s3=>wpAny (model prog w) A (nh ifs env) (fun ok s4 =>
     (ok=false∧∃ m,m<n∧J m s4)∨(ok=true∧wpAny (model prog w) A (eval elt env) (fun x s5=>wpAny (model prog w) A (call (.builtin "list.append") [acc,x]) (fun _ s6=>∃ m,m<n∧J m s6) (fun _ _=>False) s5) (fun _ _=>False) s4))
     (fun _ _=>False) s3) (fun _ _=>False) s2) (fun _ _=>False) s1) (fun _ _=>False) s)
 (n:Nat) (h:J n s):codeAny (model prog w) A (.compLoop (.ListComp elt [⟨tg,iter,ifs,0⟩] sc pos) 0 it acc env) R s:=by
 refine codeAny_loop rfl J (fun n s hJ=>?_) n h;show wpAny _ _ (Sem.onRaise (compTurn (.ListComp elt [⟨tg,iter,ifs,0⟩] sc pos) 0 it acc env) (fun x=>do noteFrame x env;theTreesLotGoes x)) _ _ s;refine wpAny_noted ?_;rw[compTurn_list];refine wB (wpAny_standAt (wB (wpAny_mono (turn n s hJ) (fun r s1 h1=>?_) fun _ _ f=>f.elim)))
 rcases h1 with ⟨hr,h1⟩ | ⟨v,hr,h1⟩
 · subst hr;exact wP h1
 · subst hr;refine wB (wpAny_mono h1 (fun _ s2 h2=>?_) fun _ _ f=>f.elim);refine wB (wpAny_mono h2 (fun _ s3 h3=>?_) fun _ _ f=>f.elim);refine wB (wpAny_mono h3 (fun ok s4 h4=>?_) fun _ _ f=>f.elim)
   rcases h4 with ⟨e,h4⟩ | ⟨e,h4⟩
   · subst e;exact wP ⟨rfl,h4⟩
   · subst e;refine wB (wB (wpAny_mono h4 (fun x s5 h5=>?_) fun _ _ f=>f.elim));exact wB (wpAny_mono h5 (fun _ s6 h6=>wP (wP ⟨rfl,h6⟩)) fun _ _ f=>f.elim)
def tLC (wi:TI) (k:Nat) (outs:List (Nat×Str)) (g:TG) (tc:TT) (te:TE):TE:=fun σ H Q=>wi σ H fun J H1=>∀ D,H1 D=none →
  ∃ W:Nat→Nat→St→Hp→Prop,(∃ m,W 0 m (eQ k outs σ) (upd H1 D (.lst [])))∧∀ i m σ' H',W i m σ' H' →
    (J.stop i H'∧Q (.ref D) H')∨(J.go i H'∧∃ N:St→Hp→Prop,(∀ σ2 H2,N σ2 H2→∃ m',m'<m∧W (i+1) m' σ2 H2)∧∀ x H2,J.yld i H' x H2→g x σ' H2 fun σ3 H3=>tc σ3 H3 fun b H4 =>
      if b=true then te σ3 H4 fun v H5=>∃ ys,H5 D=some (.lst ys)∧ys.length<sizeLine∧N σ3 (upd H5 D (.lst (ys++[v]))) else N σ3 H4)
set_option maxHeartbeats 8000000 in
theorem pj {X:Cx} {elt tg iter:Expr} {ifs:List Expr} {sc:Scope} {pos cpos:Pos} {wi:TI} {g:TG} {tc:TT} {te:TE} {own:List Str} {outs:List (Nat×Str)} {use:Option (Value→Sem Unit)} {PQ:VSP} {pins:AOs} {s:Shared} {σ:St} {H:Hp} {Q:VK} (hc:X.calm=true) (S:bb X sc own outs) (hi:PI X tg iter wi)
 (hb:∀ (fp:List Addr) (pins:AOs) (s:Shared) (H:Hp),PG (blk X sc (cC X.env.cells sc.names []) (fD own outs) fp pins s H) tg g ∧
   tK (blk X sc (cC X.env.cells sc.names []) (fD own outs) fp pins s H) ifs tc∧PE (blk X sc (cC X.env.cells sc.names []) (fD own outs) fp pins s H) elt te)
 (hs:∀ x,foldedSetIterable iter X.env x=pure x) (I:Inv X pins σ H s) (h:tLC wi own.length outs g tc te σ H Q)
 (fin:∀ (D c:Addr) (m6:SOV) (H5:Hp) (s6:Shared),Inv X pins σ H5 s6→s6.heap.Ns c m6→H5 c=none→X.env.locals≠c→X.s₀.heap.objs.size≤c→(∀ x c',X.env.cells.lookup x=some c'→c'≠c)→(∀ p∈X.pn++pins,p.1≠c)→Q (.ref D) H5 →
   compPost (model X.prog X.w) X.A X.xe use PQ (.ref D) c (.ok .next) s6) :
 wpAny (model X.prog X.w) X.A (comprehension (.ListComp elt [⟨tg,iter,ifs,0⟩] sc pos) sc X.env cpos (newList []) false (eval iter X.env) use) PQ X.xe s:=by
 have hcl:closureFor sc X.env=pure (cC X.env.cells sc.names []):=jN fun y hy e=>I.ok.has y.1 (S.fr y hy e);refine wpAny_comprehension_free (use:=use) rfl hs hcl S.kind S.loc (thn (hi pins s σ H _ I h) fun v s1 h1=>thn h1 fun itv s2 h2=>?_);obtain⟨it,fp,tn,J,H2,e,I2,T,st2,f2,h2⟩:=h2;subst e;refine wpAny_newObj_type ?_;generalize hD:s2.heap.objs.size=D;have fr:H2 D=none:=by rw[← hD];exact I2.fresh
 obtain⟨W,⟨m0,w0⟩,turn⟩:=h2 D fr;have I3:Inv X pins σ (upd H2 D (.lst [])) {s2 with heap:=s2.heap.push {cls:=.type "list",data:=.seq ([]:List Value).toArray}}:=by
  have q:=I2.lnew (t':=s2.toks) (ys:=[]) (its:=[]) .nil (Nat.zero_le _);rw[hD] at q;exact q
 have hfp:∀ b∈fp,b<s2.heap.objs.size:=fun b hb=>by
  obtain⟨o,e,_⟩:=T.obj _ _ st2 b hb;exact Heap.lt_size e
 have f3:∀ b∈fp,gl X pins (upd H2 D (.lst [])) b:=fun b hb=>⟨by rw[a0 (by rw[← hD];exact Nat.ne_of_lt (hfp b hb))];exact (f2 b hb).1,(f2 b hb).2⟩;generalize hS:({s2 with heap:=s2.heap.push {cls:=.type "list",data:=.seq ([]:List Value).toArray}}:Shared)=s3 at I3;have k3:∀ b o,s2.heap.get? b=some o→s3.heap.get? b=some o:=fun b o e=>by rw[← hS];exact hpS _ e
 have z3:s2.heap.objs.size≤s3.heap.objs.size:=by rw[← hS];show _≤(s2.heap.push _).objs.size;rw[Heap.size_push];exact Nat.le_succ _
 have st3:tn 0 s3.heap:=T.keep _ _ _ st2 fun b _ o e=>k3 b o e;refine wpAny_newFunctionEnv S.nocell (fun y hy=>by cases hy) (fun h4 hn4 sb4=>?_) S.kind;have k4:∀ b o,s3.heap.get? b=some o→h4.get? b=some o:=fun b o e=>sb4.extBut b o (Nat.ne_of_lt (Heap.lt_size e)) (hpS _ e);have hn4':h4.Ns s3.heap.objs.size fun _=>none:=by
  have q:=hn4;simp only[List.reverse_nil,List.lookup_nil] at q;exact q
 have I4:=pp (t':=s3.toks+([]:List (Str×Value)).length) I3 S f3 (fun b hb=>Nat.lt_of_lt_of_le (hfp b hb) z3) hn4' k4;have st4:tn 0 h4:=T.keep _ _ _ st3 fun b _ o e=>k4 b o e;obtain⟨hg,hif,he⟩:=hb fp pins s3 (upd H2 D (.lst []));generalize hY:blk X sc (cC X.env.cells sc.names []) (fD own outs) fp pins s3 (upd H2 D (.lst []))=Y at I4 hg hif he;have yenv:Y.env=compEnvC sc (cC X.env.cells sc.names []) s3.heap.objs.size X.env:=by rw[← hY];rfl
 have statY:∀ {H':Hp},(∀ b∈fp,H' b=none)→∀ b∈fp,gl Y [] H' b:=fun {H'} hn b hb=>by
  subst hY;obtain⟨_,a1,a2,a3,a4,a5⟩:=f3 b hb;refine⟨hn b hb,Nat.ne_of_lt (Nat.lt_of_lt_of_le (hfp b hb) z3),fun z=>?_,.inl hb,fun x c e=>a4 x c (dY e),fun p hp=>?_⟩
  · rcases List.mem_cons.mp (I3.stkSub b z) with y | y
    · exact a1 y
    · exact a2 y
  · rcases mAp.mp hp with z | z
    · exact a5 p z
    · cases z
 have loop:codeAny (model X.prog X.w) X.A (.compLoop (.ListComp elt [⟨tg,iter,ifs,0⟩] sc pos) 0 (.ref it) (.ref D) Y.env) (compPost (model X.prog X.w) X.A X.xe use PQ (.ref D) s3.heap.objs.size)
  {s3 with heap:=h4,toks:=s3.toks+([]:List (Str×Value)).length}:=by
  have hP:Y.prog=X.prog:=by rw[← hY];rfl
  have hw:Y.w=X.w:=by rw[← hY];rfl
  have hA:Y.A=X.A:=by rw[← hY];rfl
  have hK:Y.K=X.K:=by rw[← hY];rfl
  have hxe:Y.xe=fun _ _=>False:=by rw[← hY];rfl
  have hcm:Y.calm=true:=by rw[← hY];exact hc
  rw[← hP,← hw,← hA];rw[← hP,← hw,← hK] at T;refine mZ (fun n s'=>∃ i σ' H',Inv Y [] σ' H' s'∧tn i s'.heap∧(∀ b∈fp,H' b=none)∧W i n σ' H') ?_ m0 ⟨0,_,_,I4,st4,fun b hb=>(f3 b hb).1,w0⟩;rintro n s5 ⟨i,σ5,H5,I5,st5,fr5,w5⟩
  rcases turn i n σ5 H5 w5 with ⟨stop,q⟩ | ⟨go,N,hN,step⟩
  · refine thn (T.done Y rfl rfl rfl hcm i [] s5 σ5 H5 _ I5 (statY fr5) st5 stop) fun r s6 zz97=>?_;obtain⟨hr,I6⟩:=zz97;refine .inl ⟨hr,?_⟩;obtain⟨m6,hn6,_⟩:=I6.loc;have yl:Y.env.locals=s3.heap.objs.size:=by rw[yenv];rfl
    have u6:Un (frs X.stack) fp (upd H2 D (.lst [])) H5 s3.heap s6.heap:=by
     have q:=I6.base;subst hY;exact q
    have I7:Inv X pins σ H5 s6:=by
     refine I3.call' (s':=s6) (ch:=fp) ?_ u6 ?_ I6.bare fun b hb=>?_
     · have q:=I6.os;subst hY;exact q
     · intro a o e;have q:=I6.hok a o e;subst hY;exact q
     · obtain⟨_,a1,a2,a3,a4,a5⟩:=f3 b hb;exact⟨a3,a1,a4,a5⟩
    rw[hP,hw,hA];refine fin D s3.heap.objs.size m6 H5 s6 I7 (by rw[← yl];exact hn6) (by rw[← yl];exact I6.free) (Nat.ne_of_lt I3.lt) I3.sz (fun x c e=>?_) (fun p hp=>Nat.ne_of_lt (Heap.lt_size (I3.pin p hp).1)) q;obtain⟨v,o,z,_⟩:=I3.cell x c e;exact Nat.ne_of_lt (Heap.lt_size z)
  · refine thn (T.item Y rfl rfl rfl hcm i [] s5 σ5 H5 _ I5 (statY fr5) st5 go) fun r s6 zz98=>?_;obtain⟨u,hr,h6⟩:=zz98;refine .inr ⟨u,hr,?_⟩;refine thn h6 fun _ s7 zz99=>?_;obtain⟨x,H7,I7,r7,y7,st7,fr7⟩:=zz99;have I7':=I7.pinned (statY fr7) (T.obj _ _ st7);have pinsOk:∀ {σ8:St} {H8:Hp} {s8:Shared},Inv Y ([]++fX fp s7.heap) σ8 H8 s8→N σ8 H8→∃ m,m<n∧∃ i σ' H',Inv Y [] σ' H' s8∧tn i s8.heap∧(∀ b∈fp,H' b=none)∧W i m σ' H':=fun {σ8 H8 s8} I8 n8=>by
     obtain⟨m',hm,w8⟩:=hN σ8 H8 n8;refine⟨m',hm,i+1,σ8,H8,I8.unpinned,T.keep _ _ _ st7 fun b hb o e=>(I8.pin (b,o) (List.mem_append_right _ (List.mem_append_right _ (cS hb e)))).1,fun b hb=>?_,w8⟩;obtain⟨o,e,d⟩:=T.obj _ _ st7 b hb;exact (I8.pin (b,o) (List.mem_append_right _ (List.mem_append_right _ (cS hb e)))).2.1
    have toF:∀ {α:Type} {t:Sem α} {Q':α→Shared→Prop} {s':Shared},wpAny (model Y.prog Y.w) Y.A t Q' Y.xe s'→wpAny (model Y.prog Y.w) Y.A t Q' (fun _ _=>False) s':=fun {α t Q' s'} z=>wpAny_mono z (fun _ _ a=>a) fun _ _ a=>by rw[hxe] at a;exact a
    refine toF (thn (hg _ s7 σ5 H7 x u _ I7' r7 (step x H7 y7)) fun _ s8 zz100=>?_);obtain⟨σ8,H8,I8,q8⟩:=zz100;refine toF (thn (hif _ s8 σ8 H8 _ I8 q8) fun ok s9 zz101=>?_);obtain⟨H9,I9,q9⟩:=zz101;cases ok with
    | false =>
     rw[if_neg Bool.false_ne_true] at q9;exact .inl ⟨rfl,pinsOk I9 q9⟩
    | true =>
     rw[if_pos rfl] at q9;refine .inr ⟨rfl,toF (thn (he _ s9 σ8 H9 _ I9 q9) fun y s10 zz102=>?_)⟩;obtain⟨v,H10,I10,r10,ys,hy,hz,n10⟩:=zz102;have ap:=gX (X:=Y) _ s10 σ8 H10 (.ref D) [v] (.ref D) [y] (fun _ H'=>N σ8 H') I10 rfl (.cons r10 .nil) ⟨D,ys,v,rfl,rfl,hy,hz,n10⟩;refine toF (thn ap fun _ s11 zz103=>?_);obtain⟨_,H11,I11,_,n11⟩:=zz103;exact pinsOk I11 n11
 rw[yenv] at loop;refine codeAny_compStart_list ?_ (T.self _ 0 _ _ _ st4 ?_)
 · exact loop
 · exact loop
theorem eI {X:Cx} {elt tg iter:Expr} {ifs:List Expr} {sc:Scope} {pos:Pos} {wi:TI} {g:TG} {tc:TT} {te:TE} {own:List Str} {outs:List (Nat×Str)} (hc:X.calm=true) (S:bb X sc own outs) (hi:PI X tg iter wi)
 (hb:∀ (fp:List Addr) (pins:AOs) (s:Shared) (H:Hp),PG (blk X sc (cC X.env.cells sc.names []) (fD own outs) fp pins s H) tg g ∧
   tK (blk X sc (cC X.env.cells sc.names []) (fD own outs) fp pins s H) ifs tc∧PE (blk X sc (cC X.env.cells sc.names []) (fD own outs) fp pins s H) elt te)
 (hs:∀ x,foldedSetIterable iter X.env x=pure x:=by intro _;rfl):PE X (.ListComp elt [⟨tg,iter,ifs,0⟩] sc pos) (tLC wi own.length outs g tc te):=by
 intro pins s σ H Q I h;rw[eval_ListComp];exact pj hc S hi hb hs I h fun D c m6 H5 s6 I6 n6 f6 cl sz cc cp q=>⟨m6,n6,fun h7 sb7=>⟨.ref D,H5,I6.turned (t':=s6.toks) (fun b o hb e=>(sb7.2 b hb).trans e) f6 cl.symm (.inr sz) cc cp,rfl,q⟩⟩
def Itx (x:Str):It:=⟨fun i _=>i<x.cps.size,fun i H v H'=>H'=H∧∃ c,x.cps.toList[i]?=some c∧v=.str ⟨#[c]⟩,fun i _=>x.cps.size≤i⟩
def xx (tl:TE):TI:=fun σ H R=>tl σ H fun v H1=>∃ x,v=.str x∧R (Itx x) H1
structure dZ (J:It) (xs:List V) (Ok:Hp→Prop):Prop where
  go:∀ i H,Ok H→i<xs.length→J.go i H
  yld:∀ i H x H',J.go i H→Ok H→J.yld i H x H'→H'=H∧xs[i]?=some x
  stop:∀ i H,Ok H→xs.length≤i→J.stop i H
theorem ce {K:Fg} {a:Addr} {xs:List V}:dZ (Itl K a) xs (fun H=>SqL K H a xs) :=
 ⟨fun i H q hi=>⟨xs,xs[i],q,by simp[hi]⟩,fun i H x H' _ q y=>⟨y.1,y.2 xs q⟩,fun i H q hi=>⟨xs,q,hi⟩⟩
theorem bL {K:Fg} {a:Addr} {xs:List V}:dZ (Itt K a) xs (fun H=>SqT K H a xs) :=
 ⟨fun i H q hi=>⟨xs,xs[i],q,by simp[hi]⟩,fun i H x H' _ q y=>⟨y.1,y.2 xs q⟩,fun i H q hi=>⟨xs,q,hi⟩⟩
def ci (lo:Int) (n:Nat):List V:=(List.range n).map fun (i:Nat)=>V.int (lo+(i:Int))
theorem bN {lo:Int} {n:Nat}:dZ (Itr lo n) (ci lo n) (fun _=>True) :=
 ⟨fun i H _ hi=>by show i<n;simpa [ci] using hi,fun i H v H' hg _ y=>by
   obtain⟨e,h⟩:=y;refine⟨e,?_⟩;have hi:i<n:=hg;rw[h];simp[ci,hi],fun i H _ hi=>by show n≤i;simpa [ci] using hi⟩
theorem t0 {J:It} {xs:List V} {Ok:Hp→Prop} (Y:dZ J xs Ok) {g:TG} {tb:TS} {D:gq} {σ:St} {H:Hp} (Pv:Nat→St→Hp→Prop) (h0:Pv 0 σ H) (hl:∀ i σ H,i≤xs.length→Pv i σ H→Ok H)
 (hs:∀ i x σ H,xs[i]?=some x→Pv i σ H→g x σ H fun σ2 H2=>tb {D with nx:=Pv (i+1),ct:=Pv (i+1),bk:=D.nx} σ2 H2) (hd:∀ σ H,Pv xs.length σ H→D.nx σ H) :
 ∃ W:Nat→Nat→St→Hp→Prop,(∃ m,W 0 m σ H)∧∀ i m σ H,W i m σ H →
  (J.stop i H∧D.nx σ H)∨(J.go i H∧∃ N:St→Hp→Prop,(∀ σ' H',N σ' H'→∃ m',m'<m∧W (i+1) m' σ' H')∧∀ x H',J.yld i H x H'→g x σ H' fun σ2 H2=>tb {D with nx:=N,ct:=N,bk:=D.nx} σ2 H2):=by
 refine⟨fun i m σ H=>m=xs.length-i∧i≤xs.length∧Pv i σ H,⟨xs.length,by simp,Nat.zero_le _,h0⟩,?_⟩;rintro i m σ H ⟨rfl,hi,p⟩;have q:=hl i σ H hi p;by_cases hlt:i<xs.length
 · refine .inr ⟨Y.go i H q hlt,Pv (i+1),fun σ' H' p'=>⟨xs.length-(i+1),Nat.sub_succ_lt_self _ _ hlt,rfl,hlt,p'⟩,fun x H' y=>?_⟩;obtain⟨e,y2⟩:=Y.yld i H x H' (Y.go i H q hlt) q y;subst e;exact hs i x σ _ y2 p
 · have e:i=xs.length:=by lia
   subst e;exact .inl ⟨Y.stop _ H q (Nat.le_refl _),hd σ H p⟩
section
variable {X:Cx}
end
theorem cY {α:Type}:∀ {l:List α},l.length=1→∃ a,l=[a]:=by
 intro l h;cases l with
 | nil=>cases h
 | cons a r=>cases List.eq_nil_of_length_eq_zero (Nat.succ.inj h);exact⟨a,rfl⟩
theorem dW {α:Type}:∀ {l:List α},l.length=2→∃ a b,l=[a,b]:=by
 intro l h;cases l with
 | nil=>cases h
 | cons a r=>obtain⟨b,rfl⟩:=cY (Nat.succ.inj h);exact⟨a,b,rfl⟩
theorem dU {α:Type}:∀ {l:List α},l.length=3→∃ a b c,l=[a,b,c]:=by
 intro l h;cases l with
 | nil=>cases h
 | cons a r=>obtain⟨b,c,rfl⟩:=dW (Nat.succ.inj h);exact⟨a,b,c,rfl⟩
theorem eJ {α:Type}:∀ {l:List α},l.length=4→∃ a b c d,l=[a,b,c,d]:=by
 intro l h;cases l with
 | nil=>cases h
 | cons a r=>obtain⟨b,c,d,rfl⟩:=dU (Nat.succ.inj h);exact⟨a,b,c,d,rfl⟩
section
variable {CX:CXT} {P:Program} {w:World} {K:Fg} {mg:SOV} {base:Heap} {N:List Str} {q:Str} {sc:Scope} {f:Addr} {cd:Value} {A:Around} {outer:List Env} {s:Shared} {H:Hp} {E:XK}
theorem bE:(eP CX P w K mg base N q sc f cd A outer s H E).nox.K=K:=rfl
end
structure Fn (P:Program) (w:World) (K:Fg) (mg:SOV) (base:Heap) (x:Str) (k:Nat) (ps:List Str) (sp:Sp):Prop where
  ex:∃ (f:Addr) (fd:FuncData),d0 P w K mg base CX0 k f fd ps sp∧mg x=some (.ref f)∧PySem.W.keepIn K (.ref f)=true∧cG K fd ps []
def Def (K:Fg) (mg:SOV) (x:Str) (st:Stmt):Prop:=∃ (f:Addr) (fd:FuncData),Fun K x x st f fd∧mg x=some (.ref f)
section
variable {X:Cx} {x:Str} {p pos:Pos} {e:Expr} {es:List Expr} {t:TA} {k:Nat} {ps:List Str} {sp:Sp}
theorem ao (F:Fn X.prog X.w X.K X.mg X.base x k ps sp) (hr:bG k X.A) (hg:Gl X x) (ha:PA X (e::es) t) (hdb:(x==("__debug__":Str))=false:=by decide)
 (he:starEach (e::es) X.env=(false,eval e X.env)::starEach es X.env:=by rfl) (hpl:(backTo pos (starEach es X.env)).any (·.1)=false:=by rfl):PE X (.Call (.Name x p) (e::es) [] pos) (kh sp [] E0 t):=by
 obtain⟨f,fd,G,hm,hk,hb⟩:=F.ex;exact oQ G hr hg hm hk hb .nil iL ha (hdb:=hdb) (he:=he) (hpl:=hpl)
end
section
variable {P:Program} {w:World} {K:Fg} {mg:SOV} {base:Heap}
theorem Def.fn {x:Str} {st:Stmt} {N ps:List Str} {k:Nat} {sp:Sp} (D:Def K mg x st) (S:bF N ps (ak st)) (len:∀ vs H Q E,sp vs H Q E→vs.length=ps.length)
 (hb:∀ (kV doc pm:Value) (an:Option Addr) (cdv ct:Value) (us:List Value),us.length=ps.length→bindArgs (PySem.W.fnOf x x (bK st) (b9 st) (ak st) .none kV doc pm an cdv ct) ⟨us,[]⟩=pure (ps.zip us))
 (hbody:∀ (f:Addr) (cdv:Value) (A:Around) (outer:List Env) (s:Shared) (H:Hp) (vs:List V) (Q:VK) (E:XK),bG k (A.deeper (envOfC x (ak st) s.heap.objs.size f cdv))→sp vs H Q E →
   ∃ t,PSs (eP CX0 P w K mg base N x (ak st) f cdv A outer s H E).nox (b9 st) t∧t {nx:=fun _ H'=>Q .non H',rt:=Q} (cr N vs) H):Fn P w K mg base x (k+1) ps sp:=by
 obtain⟨f,fd,F,hm⟩:=D;exact⟨f,fd,F.ok S len (hbody f),hm,F.kp,F.binds hb⟩
end
section
variable {X:Cx} {p pos:Pos} {e:Expr} {es:List Expr} {t:TA}
theorem bX (hm:X.mg "len"=none) (ha:PA X (e::es) t) (hg:Gl X "len":=by rfl)
 (he:starEach (e::es) X.env=(false,eval e X.env)::starEach es X.env:=by rfl) (hpl:(backTo pos (starEach es X.env)).any (·.1)=false:=by rfl):PE X (.Call (.Name "len" p) (e::es) [] pos) (tCB (uO X.K) t):=iK iy hg hm PySem.boot_len ha (he:=he) (hpl:=hpl)
theorem fg:bootBuiltins "int"=some (.type "int"):=by decide +kernel
theorem jQ:bootBuiltins "bool"=some (.type "bool"):=by decide +kernel
theorem fC:bootBuiltins "isinstance"=some (.builtin "isinstance"):=by decide +kernel
theorem k8 (hm:X.mg "int"=none) (ha:PA X (e::es) t) (hg:Gl X "int":=by rfl)
 (he:starEach (e::es) X.env=(false,eval e X.env)::starEach es X.env:=by rfl) (hpl:(backTo pos (starEach es X.env)).any (·.1)=false:=by rfl) :
 PE X (.Call (.Name "int" p) (e::es) [] pos) (tCB (fun xs H Q=>(∃ i,xs=[.int i]∧Q (.int i) H)∨∃ k,xs=[.bl k]∧Q (.int (if k then 1 else 0)) H) t):=f9 lL hg hm fg ha (he:=he) (hpl:=hpl)
variable {o:Expr} {to:TE} {apos cpos:Pos}
theorem cj (ho:PE X o to) (ha:PA X [e] t) (hbase:attributeBase o "append" X.env (eval o X.env)=eval o X.env:=by rfl) (hline:(apos.endLine==cpos.line)=true:=by rfl)
 (hfew:((backTo cpos (starEach [e] X.env)).all (fun x=>!x.1)&&(backToKw cpos (keywordEach [] X.env)).all (fun x=>x.1.isSome)&&decide ([e].length+([]:List Keyword).length+(if ([]:List Keyword).isEmpty then 0 else 1)<30))=true:=by rfl)
 (hs:starEach [e] X.env=(false,eval e X.env)::starEach [] X.env:=by rfl) (hplain:(backTo cpos (starEach [] X.env)).any (·.1)=false:=by rfl) :
 PE X (.Call (.Attribute o "append" apos) [e] [] cpos) (tBM X.K "list" ku to t):=uR PySem.F.plainAttrs_list PySem.F.slot_list_append PySem.F.type_list_append gX ho ha hbase hfew hline hs hplain
end
def az (J:It) (g:TG) (a:TS) (D:gq) (σ:St) (H1:Hp):Prop:=∃ W:Nat→Nat→St→Hp→Prop,(∃ m,W 0 m σ H1)∧∀ i m σ H,W i m σ H →
  (J.stop i H∧D.nx σ H)∨(J.go i H∧∃ N:St→Hp→Prop,(∀ σ' H',N σ' H'→∃ m',m'<m∧W (i+1) m' σ' H')∧∀ x H',J.yld i H x H'→g x σ H' fun σ2 H2=>a {D with nx:=N,ct:=N,bk:=D.nx} σ2 H2)
theorem nO {x:V} {H:Hp} {R:Bool→Hp→Prop}:BlR x H R=∃ k,x=.bl k∧R k H:=propext ⟨fun h=>by obtain⟨v,a,b⟩:=h;exact⟨v,a,b⟩,fun h=>by obtain⟨v,a,b⟩:=h;exact⟨v,a,b⟩⟩
theorem pq {x:V} {H:Hp} {R:Int→Hp→Prop}:tP x H R=∃ k,x=.int k∧R k H:=propext ⟨fun h=>by obtain⟨v,a,b⟩:=h;exact⟨v,a,b⟩,fun h=>by obtain⟨v,a,b⟩:=h;exact⟨v,a,b⟩⟩
@[simp] theorem xi {wi:TI} {g:TG} {a:TS} {D:gq} {σ:St} {H:Hp}:u4 wi g a D σ H=wi σ H fun J H1=>az J g a D σ H1:=rfl
theorem az.by {J:It} {xs:List V} {Ok:Hp→Prop} (Y:dZ J xs Ok) {g:TG} {tb:TS} {D:gq} {σ:St} {H:Hp} (Pv:Nat→St→Hp→Prop) (h0:Pv 0 σ H) (hl:∀ i σ H,i≤xs.length→Pv i σ H→Ok H)
 (hs:∀ i x σ H,xs[i]?=some x→Pv i σ H→g x σ H fun σ2 H2=>tb {D with nx:=Pv (i+1),ct:=Pv (i+1),bk:=D.nx} σ2 H2) (hd:∀ σ H,Pv xs.length σ H→D.nx σ H):az J g tb D σ H:=t0 Y Pv h0 hl hs hd
def bW (J:It) (g:TG) (tc:TT) (te:TE) (Q:VK) (σ0:St) (H1:Hp) (L:Addr):Prop :=
  ∃ W:Nat→Nat→St→Hp→Prop,(∃ m,W 0 m σ0 (upd H1 L (.lst [])))∧∀ i m σ' H',W i m σ' H' →
    (J.stop i H'∧Q (.ref L) H')∨(J.go i H'∧∃ N:St→Hp→Prop,(∀ σ2 H2,N σ2 H2→∃ m',m'<m∧W (i+1) m' σ2 H2)∧∀ x H2,J.yld i H' x H2→g x σ' H2 fun σ3 H3=>tc σ3 H3 fun b H4 =>
      if b=true then te σ3 H4 fun v H5=>∃ ys,H5 L=some (.lst ys)∧ys.length<sizeLine∧N σ3 (upd H5 L (.lst (ys++[v]))) else N σ3 H4)
@[simp] theorem eC {wi:TI} {k:Nat} {outs:List (Nat×Str)} {g:TG} {tc:TT} {te:TE} {σ:St} {H:Hp} {Q:VK}:tLC wi k outs g tc te σ H Q=wi σ H fun J H1=>∀ L,H1 L=none→bW J g tc te Q (eQ k outs σ) H1 L:=rfl
@[simp] theorem uJ {k:Nat} {outs:List (Nat×Str)} {σ:St}:eQ k outs σ=List.replicate k none++outs.map fun p=>(σ[p.1]?).getD none:=rfl
section
variable {D:gq} {σ:St} {H:Hp} {Q:VK} {R:Bool→Hp→Prop} {ta tb tc te:TE} {t u v:TT} {a b:TS} {x y:V} {i:Nat} {g:TG} {al:TA} {S:List V→Hp→Prop} {r r':R2}
@[simp] theorem wZ:rJ a b D σ H=a {D with nx:=b D} σ H:=rfl
@[simp] theorem wK:qm D σ H=D.nx σ H:=rfl
@[simp] theorem jn:rN te g D σ H=te σ H fun x H1=>g x σ H1 D.nx:=rfl
@[simp] theorem cg {N:St→Hp→Prop}:hI i x σ H N=N (σ.set i (some x)) H:=rfl
@[simp] theorem fS:ou te D σ H=te σ H D.rt:=rfl
@[simp] theorem wM:qp te D σ H=te σ H fun _ H1=>D.nx σ H1:=rfl
@[simp] theorem xh:u3 t a b D σ H=t σ H fun k H1=>if k=true then a D σ H1 else b D σ H1:=rfl
@[simp] theorem jm:cu i σ H Q=∃ v,σ[i]?=some (some v)∧Q v H:=propext ⟨fun h=>by obtain⟨v,a,b⟩:=h;exact⟨v,a,b⟩,fun h=>by obtain⟨v,a,b⟩:=h;exact⟨v,a,b⟩⟩
@[simp] theorem li:tC x σ H Q=Q x H:=rfl
@[simp] theorem yd:tOp r ta tb σ H Q=ta σ H fun x H1=>tb σ H1 fun y H2=>r x y H2 Q:=rfl
@[simp] theorem uH:tIf t ta tb σ H Q=t σ H fun c H1=>if c=true then ta σ H1 Q else tb σ H1 Q:=rfl
@[simp] theorem wE:lZ te σ H R=te σ H fun x H'=>∃ k,x=.bl k∧R k H':=congrArg (te σ H) (funext fun x=>funext fun H1=>nO)
@[simp] theorem y6:tB te σ H R=te σ H fun x H'=>∃ k,x=.bl k∧R k H':=congrArg (te σ H) (funext fun x=>funext fun H1=>nO)
@[simp] theorem uI:ma r r' ta tb tc σ H Q=ta σ H fun x H1=>tb σ H1 fun y H2=>r x y H2 fun z H3=>∃ k,z=.bl k∧(if k=true then tc σ H3 fun w' H4=>r' y w' H4 Q else Q (.bl false) H3):=rfl
@[simp] theorem xc:tY t σ H R=t σ H fun c H1=>R (!c) H1:=rfl
@[simp] theorem xj:u9 t u σ H R=t σ H fun c H1=>if c=true then u σ H1 R else R false H1:=rfl
@[simp] theorem yc:tOr t u σ H R=t σ H fun c H1=>if c=true then R true H1 else u σ H1 R:=rfl
@[simp] theorem wO:u8 ta tb σ H Q=ta σ H fun x H1=>∃ c,x=.bl c∧if c=true then tb σ H1 Q else Q (.bl false) H1:=rfl
@[simp] theorem xb:wT ta tb σ H Q=ta σ H fun x H1=>∃ c,x=.bl c∧if c=true then Q (.bl true) H1 else tb σ H1 Q:=rfl
@[simp] theorem wH:ql ta σ H Q=ta σ H fun x H1=>∃ c,x=.bl c∧Q (.bl (!c)) H1:=rfl
@[simp] theorem rZ:gx σ H S=S [] H:=rfl
@[simp] theorem aG:dI te al σ H S=te σ H fun x H1=>al σ H1 fun xs H2=>S (x::xs) H2:=rfl
@[simp] theorem fT {rr:List V→Hp→VK→Prop}:tCB rr al σ H Q=al σ H fun vs H1=>rr vs H1 Q:=rfl
@[simp] theorem wN {sp:Sp} {dvs:List V} {E:XK}:kh sp dvs E al σ H Q=al σ H fun vs H1=>sp (vs++dvs) H1 Q E:=rfl
@[simp] theorem cL:lc al σ H Q=al σ H fun xs H1=>xs.length≤sizeLine∧∀ p,H1 p=none→Q (.ref p) (upd H1 p (.tup xs)):=rfl
@[simp] theorem mx:rL al σ H Q=al σ H fun xs H1=>xs.length≤sizeLine∧∀ p,H1 p=none→Q (.ref p) (upd H1 p (.lst xs)):=rfl
@[simp] theorem yg {K:Fg} {T:String} {rr:V→List V→Hp→VK→Prop}:tBM K T rr te al σ H Q=te σ H fun x H1=>tyV K T x H1∧al σ H1 fun xs H2=>rr x xs H2 Q:=rfl
@[simp] theorem y8 {rr:V→Option Int→Option Int→Hp→VK→Prop} {tl th:TO}:tSl rr te tl th σ H Q=te σ H fun x H1=>tl σ H1 fun l H2=>th σ H2 fun u H3=>rr x l u H3 Q:=rfl
@[simp] theorem gN {O:Option Int→Hp→Prop}:dz σ H O=O none H:=rfl
@[simp] theorem wG {O:Option Int→Hp→Prop}:gL te σ H O=te σ H fun x H1=>∃ i,x=.int i∧O (some i) H1:=congrArg (te σ H) (funext fun x=>funext fun H1=>pq)
@[simp] theorem ya {C:Int→Int→Prop} {f:Int→Int→V}:rI C f x y H Q=∃ i j,x=.int i∧y=.int j∧C i j∧Q (f i j) H:=propext ⟨fun h=>by obtain⟨i,j,a,b,c,d⟩:=h;exact⟨i,j,a,b,c,d⟩,fun h=>by obtain⟨i,j,a,b,c,d⟩:=h;exact⟨i,j,a,b,c,d⟩⟩
@[simp] theorem xa {f:Int→Int→V}:rI0 f x y H Q=∃ i j,x=.int i∧y=.int j∧Q (f i j) H:=propext ⟨fun h=>by obtain⟨i,j,a,b,c⟩:=h;exact⟨i,j,a,b,c⟩,fun h=>by obtain⟨i,j,a,b,c⟩:=h;exact⟨i,j,a,b,c⟩⟩
@[simp] theorem yf:rEq x y H Q=(oG x y=true∧Q (.bl (decide (x=y))) H):=rfl
@[simp] theorem ye:rNe x y H Q=(oG x y=true∧Q (.bl (!decide (x=y))) H):=rfl
@[simp] theorem xg {K:Fg}:sg K x y H Q=∃ p xs i v,x=.ref p∧y=.int i∧SqL K H p xs∧atI xs i=some v∧Q v H:=propext ⟨fun h=>by obtain⟨p,xs,i,v,a,b,c,d,e⟩:=h;exact⟨p,xs,i,v,a,b,c,d,e⟩,fun h=>by obtain⟨p,xs,i,v,a,b,c,d,e⟩:=h;exact⟨p,xs,i,v,a,b,c,d,e⟩⟩
@[simp] theorem xf:xo x y H Q=∃ z i c,x=.str z∧y=.int i∧z.length≤sizeLine∧atI z.cps.toList i=some c∧Q (.str ⟨#[c]⟩) H:=rfl
@[simp] theorem d7:lY σ H R=R true H:=rfl
@[simp] theorem uF {N:List Str} {vs:List V}:cr N vs=vs.map some++List.replicate (N.length-vs.length) none:=rfl
@[simp] theorem wF {RR:It→Hp→Prop}:qB al σ H RR=al σ H fun vs H1=>∃ j:Int,vs=[.int j]∧-(2 ^ 62)≤j∧j<2 ^ 62∧RR (Itr 0 j.toNat) H1:=rfl
@[simp] theorem uG {K:Fg} {RR:It→Hp→Prop}:qC K te σ H RR=te σ H fun x H1=>∃ a,x=.ref a∧(∃ xs,SqL K H1 a xs)∧RR (Itl K a) H1:=rfl
@[simp] theorem wL {RR:It→Hp→Prop}:xx te σ H RR=te σ H fun v H1=>∃ x,v=.str x∧RR (Itx x) H1:=rfl
end
end L2
namespace L2
open PySem PySem.Spec PyProof.Rows PySem.SeqAt
mutual
inductive c8 (K:Fg) (H:Hp):V→PyData→Prop
  | non:c8 K H .non .none
  | bl (b:Bool):c8 K H (.bl b) (.bool b)
  | int (i:Int):c8 K H (.int i) (.int i)
  | str (x:Str):c8 K H (.str x) (.str x)
  | lst {a:Addr} {xs:List V} {ds:PDs}:SqL K H a xs→eV K H xs ds→c8 K H (.ref a) (.list ds)
  | tup {a:Addr} {xs:List V} {ds:PDs}:SqT K H a xs→eV K H xs ds→c8 K H (.ref a) (.tuple ds)
inductive eV (K:Fg) (H:Hp):List V→PDs→Prop
  | nil:eV K H [] []
  | cons {x:V} {d:PyData} {xs:List V} {ds:PDs}:c8 K H x d→eV K H xs ds→eV K H (x::xs) (d::ds)
end
section
variable {X:Cx} {pins:AOs} {σ:St} {H:Hp} {s:Shared}
theorem c8.reads (I:Inv X pins σ H s) {v:V} {d:PyData} (h:c8 X.K H v d):∀ {u:Value},aH v u→∃ as,Reads s.heap u d as:=by
 refine c8.rec (motive_1:=fun v d _=>∀ {u:Value},aH v u→∃ as,Reads s.heap u d as) (motive_2:=fun xs ds _=>∀ {us:List Value},ax xs us→∃ as,ReadsAll s.heap us ds as) ?_ ?_ ?_ ?_ ?_ ?_ ?_ ?_ h
 · intro u r;cases (show u=Value.none from r);exact⟨_,.none⟩
 · intro b u r;cases (show u=Value.bool b from r);exact⟨_,.bool b⟩
 · intro i u r;obtain⟨t,e⟩:=(show ∃ t,u=Value.int i t from r);rw[e];exact⟨_,.int i t⟩
 · intro x u r;obtain⟨t,e⟩:=(show ∃ t,u=Value.str x t from r);rw[e];exact⟨_,.str x t⟩
 · intro a xs ds hq hd ih u r;cases r;obtain⟨its,rv,p,hz⟩:=I.list hq;obtain⟨as,ra⟩:=ih rv;obtain⟨o,ho,hc,n,hdt⟩:=p.isList;exact⟨_,.list ho hc hdt (by simpa using ra)⟩
 · intro a xs ds hq hd ih u r;cases r;obtain⟨its,rv,p,hz⟩:=I.tuple hq;obtain⟨as,ra⟩:=ih rv;obtain⟨o,ho,hc,n,hdt⟩:=p;exact⟨_,.tuple ho hc hdt (by simpa using ra)⟩
 · intro us r;cases r;exact⟨_,.nil⟩
 · intro x d xs ds a b ih1 ih2 us r;cases r with
   | cons r t =>
    obtain⟨as,x⟩:=ih1 r;obtain⟨bs,y⟩:=ih2 t;exact⟨_,.cons x y⟩
inductive wr (K:Fg) (x y:V) (H:Hp) (Q:VK):Prop
  | mk (d e:PyData) (h1:c8 K H x d) (h2:c8 K H y e) (h3:shaped d=true) (h4:shaped e=true) (q:Q (.bl (!PyData.eqv d e)) H):wr K x y H Q
def uN (K:Fg):R2:=fun x y H Q=>wr K x y H Q
theorem sA (hu:X.A.units+64<cLine):OpR X (compareOp .NotEq) (uN X.K):=by
 intro pins s σ H x y v u Q I rx ry h;obtain⟨d,e,hd,he,sd,se,q⟩:=h;obtain⟨as,ra⟩:=hd.reads I rx;obtain⟨bs,rb⟩:=he.reads I ry;exact ne_dataH ra rb sd se hu ⟨.bl _,H,I,rfl,q⟩
end
section
variable {K:Fg} {H H':Hp}
theorem ai.seqT {a:Addr} {xs:List V} (e:ai H H') (h:SqT K H a xs):SqT K H' a xs:=by
 rcases h with (h | ⟨o,h⟩) | h
 · exact .inl (.inl (e _ _ h))
 · exact .inl (.inr ⟨o,e _ _ h⟩)
 · exact .inr h
theorem c8.same (e:ai H H') {v:V} {d:PyData} (h:c8 K H v d):c8 K H' v d :=
 c8.rec (motive_1:=fun v d _=>c8 K H' v d) (motive_2:=fun xs ds _=>eV K H' xs ds) .non .bl .int .str (fun hq _ ih=>.lst (e.seq hq) ih) (fun hq _ ih=>.tup (e.seqT hq) ih) .nil (fun _ _ a b=>.cons a b) h
end
end L2
namespace L2
open PySem PySem.Spec PyProof.Rows
section
variable {X:Cx} {p pos:Pos} {e:Expr} {t:TA} {o:Expr} {to:TE} {apos cpos:Pos}
theorem fz:bootBuiltins "tuple"=some (.type "tuple"):=by decide +kernel
end
@[simp] theorem sX:∀ ys:List Str,(Txt.join ("":Str) ys).cps.toList=(ys.map fun y=>y.cps.toList).flatten:=by
 intro ys;have e:("":Str)=Str.empty:=by decide +kernel
 rw[e];have key:∀ ys:List Str,(Str.join Str.empty ys).cps.toList=(ys.map fun y=>y.cps.toList).flatten:=by
  intro ys
  induction ys with
  | nil=>rfl
  | cons y r ih =>
   cases r with
   | nil=>simp[Str.join]
   | cons y2 r2 =>
    show ((y++Str.empty++Str.join Str.empty (y2::r2):Str)).cps.toList=_;rw[Str.append_empty,Str.cps_append,Array.toList_append,ih];rfl
 rw[show Txt.join Str.empty ys=Str.join Str.empty ys from StrLaws.glued_eq_join _ _];exact key ys
theorem bW.by {J:It} {xs:List V} {Ok:Hp→Prop} (Y:dZ J xs Ok) {g:TG} {tc:TT} {te:TE} {Q:VK} {σ0:St} {H1:Hp} {L:Addr} (Pv:Nat→St→Hp→Prop) (h0:Pv 0 σ0 (upd H1 L (.lst []))) (hl:∀ i σ H,i≤xs.length→Pv i σ H→Ok H)
 (hs:∀ i x σ H,xs[i]?=some x→Pv i σ H→g x σ H fun σ3 H3=>tc σ3 H3 fun b H4=>if b=true then te σ3 H4 fun v H5=>∃ ys,H5 L=some (.lst ys)∧ys.length<sizeLine∧Pv (i+1) σ3 (upd H5 L (.lst (ys++[v]))) else Pv (i+1) σ3 H4)
 (hd:∀ σ H,Pv xs.length σ H→Q (.ref L) H):bW J g tc te Q σ0 H1 L:=by
 refine⟨fun i m σ H=>m=xs.length-i∧i≤xs.length∧Pv i σ H,⟨xs.length,by simp,Nat.zero_le _,h0⟩,?_⟩;rintro i m σ H ⟨rfl,hi,p⟩;have q:=hl i σ H hi p;by_cases hlt:i<xs.length
 · refine .inr ⟨Y.go i H q hlt,Pv (i+1),fun σ' H' p'=>⟨xs.length-(i+1),Nat.sub_succ_lt_self _ _ hlt,rfl,hlt,p'⟩,fun x H' y=>?_⟩;obtain⟨e,y2⟩:=Y.yld i H x H' (Y.go i H q hlt) q y;subst e;exact hs i x σ _ y2 p
 · have e:i=xs.length:=by lia
   subst e;exact .inl ⟨Y.stop _ H q (Nat.le_refl _),hd σ H p⟩
theorem bb.of {X:Cx} {sc:Scope} {own:List Str} {outs:List (Nat×Str)} (fsc:Scope) (N:List Str) (hX:X.env.scope=fsc:=by rfl) (hN:X.N=N:=by rfl) (k:sc.kind=.function:=by rfl) (nc:∀ y∈sc.names,y.2≠.cell:=by decide +kernel) (l:∀ y∈sc.names,y.2=.local→sc.names.lookup y.1=some .local:=by decide +kernel)
 (fr:∀ y∈sc.names,y.2=.free→fsc.names.lookup y.1=some .cell∨fsc.names.lookup y.1=some .free:=by decide +kernel)
 (no:∀ p∈outs,sc.names.lookup p.2≠some .local:=by decide +kernel) (hn:∀ p∈outs,N[p.1]?=some p.2∧(fsc.names.lookup p.2=some .cell∨fsc.names.lookup p.2=some .free):=by decide +kernel):bb X sc own outs:=by
 subst hX hN;refine⟨k,nc,l,fr,fun p hp e=>no p hp ?_,hn⟩;have m:=dS e;unfold relabel at m;obtain⟨⟨n,k'⟩,m1,m2⟩:=List.mem_map.mp m;dsimp only at m2;split at m2
 · cases m2
 · cases m2;exact l _ m1 rfl
section
variable {X:Cx}
end
section
variable {X:Cx} {e:Expr} {t:TA} {o:Expr} {to:TE} {apos cpos:Pos}
variable {p pos:Pos} {es:List Expr}
end
section
variable {κ:Type} [DecidableEq κ]
def aY (kvs:List (κ×V)) (k:κ):Option V:=(kvs.find? fun kv=>decide (kv.1=k)).map (·.2)
def bp (kvs:List (κ×V)) (k:κ) (v:V):List (κ×V) :=
  if (kvs.any fun kv=>decide (kv.1=k))=true then kvs.map (fun kv=>if kv.1=k then (kv.1,v) else kv) else kvs++[(k,v)]
theorem bB {p:κ×V} {r:List (κ×V)} {k:κ} (e:p.1=k):aY (p::r) k=some p.2:=by simp[aY,List.find?_cons,e]
theorem bC {p:κ×V} {r:List (κ×V)} {k:κ} (e:¬ p.1=k):aY (p::r) k=aY r k:=by simp[aY,List.find?_cons,e]
theorem eg (k:κ):∀ kvs:List (κ×V),(kvs.any fun kv=>decide (kv.1=k))=(aY kvs k).isSome
 | []=>rfl
 | p::r=>by
  rw[List.any_cons];by_cases e:p.1=k
  · simp only[bB e,decide_eq_true e,Bool.true_or,Option.isSome_some]
  · rw[bC e,decide_eq_false e,Bool.false_or];exact eg k r
theorem iE (k j:κ) (y:V):∀ kvs:List (κ×V),aY (kvs.map fun kv=>if kv.1=k then (kv.1,y) else kv) j=(aY kvs j).map fun x=>if j=k then y else x
 | []=>rfl
 | p::r=>by
  have ih:=iE k j y r;rw[List.map_cons];by_cases h:p.1=k
  · rw[if_pos h];by_cases e:p.1=j
    · rw[bB (p:=(p.1,y)) e,bB e,Option.map_some,if_pos (e.symm.trans h)]
    · rw[bC (p:=(p.1,y)) e,bC e,ih]
  · rw[if_neg h];by_cases e:p.1=j
    · rw[bB (p:=p) e,bB e,Option.map_some,if_neg (fun z=>h (e.trans z))]
    · rw[bC (p:=p) e,bC e,ih]
theorem gK (k j:κ) (y:V):∀ kvs:List (κ×V),aY kvs k=none→aY (kvs++[(k,y)]) j=if j=k then some y else aY kvs j
 | [],_=>by
  by_cases e:k=j
  · rw[if_pos e.symm];exact bB (p:=(k,y)) e
  · rw[if_neg (fun z=>e z.symm)];exact bC (p:=(k,y)) e
 | p::r,hn=>by
  rw[List.cons_append];have hk:¬ p.1=k:=fun z=>by rw[bB z] at hn;cases hn
  rw[bC hk] at hn;have ih:=gK k j y r hn;by_cases e:p.1=j
  · rw[bB e,bB e,if_neg (fun z=>hk (e.trans z))]
  · rw[bC e,bC e,ih]
theorem iD (kvs:List (κ×V)) (k j:κ) (y:V):aY (bp kvs k y) j=if j=k then some y else aY kvs j:=by
 unfold bp;by_cases a:(kvs.any fun kv=>decide (kv.1=k))=true
 · rw[if_pos a,iE];rw[eg] at a;by_cases e:j=k
   · obtain⟨x,hx⟩:=Option.isSome_iff_exists.mp a;rw[if_pos e,e,hx,Option.map_some,if_pos rfl]
   · rw[if_neg e];cases aY kvs j with
     | none=>rfl
     | some x=>rw[Option.map_some,if_neg e]
 · rw[if_neg a];refine gK k j y kvs ?_;rw[eg] at a;cases q:aY kvs k with
   | none=>rfl
   | some x=>rw[q] at a;exact (a rfl).elim
theorem dj (kvs:List (κ×V)) (k:κ) (v:V):(bp kvs k v).length≤kvs.length+1:=by
 unfold bp;split
 · rw[lMp];lia
 · rw[lAp,List.length_cons,List.length_nil];lia
theorem dn.isSome_eq {o:Option V} {u:Option Value} (r:dn o u):o.isSome=u.isSome:=by
 cases o with
 | none=>cases u with
  | none=>rfl
  | some _=>exact (show False from r).elim
 | some _=>cases u with
  | none=>exact (show False from r).elim
  | some _=>rfl
theorem KV.val {kvs:List (κ×V)} {vs:List (κ×Value)} (r:KV kvs vs) (k:κ):dn (aY kvs k) (valueAt vs k):=by
 unfold KV at r
 induction r with
 | nil=>exact True.intro
 | @cons p q ps qs h t ih =>
  obtain⟨h1,h2⟩:=h;by_cases e:p.1=k
  · have e':q.1=k:=h1.symm.trans e;have b:valueAt (q::qs) k=some q.2:=by simp[valueAt,List.find?_cons,e']
    rw[bB e,b];exact h2
  · have e':¬ q.1=k:=fun z=>e (h1.trans z);have b:valueAt (q::qs) k=valueAt qs k:=by simp[valueAt,List.find?_cons,e']
    rw[bC e,b];exact ih
theorem KV.any {kvs:List (κ×V)} {vs:List (κ×Value)} (r:KV kvs vs) (k:κ):(kvs.any fun kv=>decide (kv.1=k))=vs.any fun kv=>decide (kv.1=k):=by
 unfold KV at r
 induction r with
 | nil=>rfl
 | cons h t ih=>rw[List.any_cons,List.any_cons,ih,h.1]
theorem KV.repl {kvs:List (κ×V)} {vs:List (κ×Value)} (r:KV kvs vs) (k:κ) {y:V} {u:Value} (ry:aH y u) :
 KV (kvs.map fun kv=>if kv.1=k then (kv.1,y) else kv) (vs.map fun kv=>if kv.1=k then (kv.1,u) else kv):=by
 unfold KV at r ⊢
 induction r with
 | nil=>exact .nil
 | @cons p q ps qs h t ih =>
  rw[List.map_cons,List.map_cons];refine .cons ?_ ih;obtain⟨h1,h2⟩:=h;by_cases e:p.1=k
  · rw[if_pos e,if_pos (h1.symm.trans e)];exact⟨h1,ry⟩
  · rw[if_neg e,if_neg (fun z=>e (h1.trans z))];exact⟨h1,h2⟩
theorem KV.put {kvs:List (κ×V)} {vs:List (κ×Value)} (r:KV kvs vs) (k:κ) {y:V} {u:Value} (ry:aH y u):KV (bp kvs k y) (stored vs k u):=by
 unfold bp stored;rw[r.any k];by_cases e:(vs.any fun kv=>decide (kv.1=k))=true
 · rw[if_pos e,if_pos e];exact r.repl k ry
 · rw[if_neg e,if_neg e];exact Paired.snoc r ⟨rfl,ry⟩
theorem KV.length {kvs:List (κ×V)} {vs:List (κ×Value)} (r:KV kvs vs):kvs.length=vs.length:=Paired.length r
end
theorem iV {P:Program} {w:World} {k:Key} {u:Value} (r:aH (kV k) u):(aL P w).is k u=true:=by
 cases k with
 | inl i=>obtain⟨t,e⟩:=(show ∃ t,u=Value.int i t from r);subst e;exact iS P w i t
 | inr x=>obtain⟨t,e⟩:=(show ∃ t,u=Value.str x t from r);subst e;exact dg P w x t
theorem gZ {P:Program} {w:World}:∀ {ks:List Key} {us:List Value},ax (ks.map kV) us→ItemsAre (aL P w) ks us
 | [],_,r=>by rw[List.map_nil] at r;cases r;exact .nil
 | k::ks,_,r=>by
  rw[List.map_cons] at r;cases r with
  | cons h t=>exact .cons (iV h) (gZ t)
abbrev KT (H:Hp):List (List Key×V)→List (List Key×Addr×Value)→Prop:=Paired fun p q=>p.1=q.1∧H q.2.1=some (.tup (p.1.map kV))∧aH p.2 q.2.2
theorem KT.val {H:Hp} {kvs:List (List Key×V)} {xs:List (List Key×Addr×Value)} (r:KT H kvs xs) (k:List Key):dn (aY kvs k) ((atKey xs k).map (·.2)):=by
 induction r with
 | nil=>exact True.intro
 | @cons p q ps qs h t ih =>
  obtain⟨h1,_,h2⟩:=h;by_cases e:p.1=k
  · have e':q.1=k:=h1.symm.trans e;have b:atKey (q::qs) k=some q.2:=by simp[atKey,List.find?_cons,e']
    rw[bB e,b];exact h2
  · have e':¬ q.1=k:=fun z=>e (h1.trans z);have b:atKey (q::qs) k=atKey qs k:=by simp[atKey,List.find?_cons,e']
    rw[bC e,b];exact ih
theorem KT.repl {H:Hp} {kvs:List (List Key×V)} {xs:List (List Key×Addr×Value)} (r:KT H kvs xs) (k:List Key) {y:V} {u:Value} (ry:aH y u) :
 KT H (kvs.map fun kv=>if kv.1=k then (kv.1,y) else kv) (xs.map (putAt k u)):=by
 induction r with
 | nil=>exact .nil
 | @cons p q ps qs h t ih =>
  rw[List.map_cons,List.map_cons];refine .cons ?_ ih;obtain⟨h1,h2,h3⟩:=h;unfold putAt;by_cases e:p.1=k
  · rw[if_pos e,if_pos (h1.symm.trans e)];exact⟨h1,h2,ry⟩
  · rw[if_neg e,if_neg (fun z=>e (h1.trans z))];exact⟨h1,h2,h3⟩
theorem KT.put {H:Hp} {kvs:List (List Key×V)} {xs:List (List Key×Addr×Value)} (r:KT H kvs xs) (k:List Key) {b:Addr} {y:V} {u:Value} (hb:H b=some (.tup (k.map kV))) (ry:aH y u) :
 KT H (bp kvs k y) (storedH xs k b u):=by
 have e:(kvs.any fun kv=>decide (kv.1=k))=(atKey xs k).isSome:=by
  rw[eg,(r.val k).isSome_eq,Option.isSome_map]
 unfold bp storedH;rw[e];by_cases q:(atKey xs k).isSome=true
 · rw[if_pos q,if_pos q];exact r.repl k ry
 · rw[if_neg q,if_neg q];exact Paired.snoc r ⟨rfl,hb,ry⟩
theorem KT.keeps {H H':Hp} {kvs:List (List Key×V)} {xs:List (List Key×Addr×Value)} (r:KT H kvs xs) (ht:∀ b ys,H b=some (.tup ys)→H' b=some (.tup ys)):KT H' kvs xs :=
 Paired.mapP r fun _ _ z=>⟨z.1,ht _ _ z.2.1,z.2.2⟩
section
variable {P:Program} {w:World} {H:Hp} {h:Heap} {a:Addr}
theorem qw {u:HO} (ok:HOk P w H h) (e:Rd H a u):be P w H h a u:=e.ok ok
theorem nH {kvs:List (Key×V)} (ok:HOk P w H h) (e:Rd H a (.dK kvs)):kvs.length≤sizeLine∧(a==sysModules)=false∧∃ vs,KV kvs vs∧h.DictOf (aL P w) a vs :=
 show be P w H h a (.dK kvs) from qw ok e
theorem nI {kvs:List (Key×V)} (ok:HOk P w H h) (e:H a=some (.dK kvs)):kvs.length≤sizeLine∧(a==sysModules)=false∧∃ vs,KV kvs vs∧h.DictOf (aL P w) a vs:=nH ok (.inl e)
theorem jD {ks:List Key} (ok:HOk P w H h) (e:H a=some (.tup (ks.map kV))):(tupleKind (aL P w)).is h ks a:=by
 obtain⟨_,its,r,o,h1,h2,n,h3⟩:=(show be P w H h a (.tup (ks.map kV)) from ok a _ e);exact⟨o,its.toArray,n,h1,h2,h3,by simpa using gZ r⟩
theorem nG {kvs:List (List Key×V)} (ok:HOk P w H h) (e:Rd H a (.dT kvs)):kvs.length≤sizeLine∧(a==sysModules)=false ∧
 ∃ xs,KT H kvs xs∧h.DictOfH (tupleKind (aL P w)) a xs:=by
 obtain⟨z,y,xs,r,o,es,ep,h1,h2,h3,h4,h5⟩:=(show be P w H h a (.dT kvs) from qw ok e);refine⟨z,y,xs,r,o,es,ep,h1,h2,h3,h4,fun x hx=>?_,h5⟩;have all:∀ {l:List (List Key×V)} {m:List (List Key×Addr×Value)},KT H l m→∀ x∈m,(tupleKind (aL P w)).is h x.1 x.2.1:=by
  intro l m q
  induction q with
  | nil=>intro x hx;exact nomatch hx
  | @cons p q ps qs hq t ih =>
   intro x hx
   rcases List.mem_cons.mp hx with e | hx
   · subst e;exact jD ok (by rw[← hq.1];exact hq.2.1)
   · exact ih x hx
 exact all r x hx
theorem wf {kvs:List (List Key×V)} (ok:HOk P w H h) (e:H a=some (.dT kvs)):kvs.length≤sizeLine∧(a==sysModules)=false ∧
 ∃ xs,KT H kvs xs∧h.DictOfH (tupleKind (aL P w)) a xs:=nG ok (.inl e)
end
def fG (H:Hp) (a:Addr) (y:V) (r:Option V):Prop :=
  (∃ kvs k,Rd H a (.dK kvs)∧y=kV k∧r=aY kvs k)∨∃ kvs k b,Rd H a (.dT kvs)∧y=.ref b∧H b=some (.tup (k.map kV))∧r=aY kvs k
def lS (H:Hp) (a:Addr) (y v:V) (H':Hp):Prop :=
  (∃ kvs k,H a=some (.dK kvs)∧y=kV k∧kvs.length<sizeLine∧H'=upd H a (.dK (bp kvs k v))) ∨
  ∃ kvs k b,H a=some (.dT kvs)∧y=.ref b∧H b=some (.tup (k.map kV))∧kvs.length<sizeLine∧H'=upd H a (.dT (bp kvs k v))
theorem fG.k {H:Hp} {a:Addr} {kvs:List (Key×V)} {k:Key} (e:H a=some (.dK kvs)):fG H a (kV k) (aY kvs k):=.inl ⟨kvs,k,.inl e,rfl,rfl⟩
theorem lS.k {H:Hp} {a:Addr} {kvs:List (Key×V)} {k:Key} {v:V} (e:H a=some (.dK kvs)) (hl:kvs.length<sizeLine):lS H a (kV k) v (upd H a (.dK (bp kvs k v))):=.inl ⟨kvs,k,e,rfl,hl,rfl⟩
section
variable {X:Cx} {pins:AOs} {σ:St} {H:Hp} {s:Shared} {a:Addr} {y v:V} {u r:Value} {o:Option V} {A:Around} {E:VSP}
theorem Inv.big (I:Inv X pins σ H s):sysModules<s.heap.objs.size:=by
 have h:mainGlobals<s.heap.objs.size:=(I.mod.glob.keeps I.bk).lt;exact Nat.lt_trans (by decide) h
theorem lI {Q:VSP} (hu:A.units+1<cLine) (I:Inv X pins σ H s) (g:fG H a y (some v)) (ry:aH y u) (h:∀ w' s',Inv X pins σ H s'→aH v w'→Q w' s') :
 wpAny (model X.prog X.w) A (getItem (.ref a) u) Q E s:=by
 rcases g with ⟨kvs,k,e,ey,l⟩ | ⟨kvs,k,b,e,ey,eb,l⟩
 · subst ey;obtain⟨z,hd,vs,rel,dd⟩:=nH I.hok e;obtain⟨w',hw,rw'⟩:=dn.some_of (v:=v) (o:=valueAt vs k) (by rw[l];exact rel.val k);exact wpAny_getItem_of (iV ry) dd.mapOf hw (h w' _ (I.tok _) rw')
 · subst ey;cases (show u=Value.ref b from ry);obtain⟨z,hd,xs,rel,dd⟩:=nG I.hok e;obtain⟨w',hw,rw'⟩:=dn.some_of (v:=v) (o:=(atKey xs k).map (·.2)) (by rw[l];exact rel.val k);obtain⟨p,hp,hp2⟩:=oMS.mp hw;refine wpAny_getItem_heap (tupleKind_room_in1 hu) (jD I.hok eb) dd hp ?_;rw[hp2];exact h w' _ (I.tok _) rw'
theorem iu {h':Heap} {t':Nat} {ob:HO} (I:Inv X pins σ H s) (mu:Mut (H a)) (hs:Heap.SameBut a s.heap h') (he:∃ q,h'.get? a=some q) (new:be X.prog X.w (upd H a ob) h' a ob) :
 Inv X pins σ (upd H a ob) {s with heap:=h',toks:=t'} :=
 I.write (x:=a) (e:=a) mu (.inl rfl) (fun b q hb z=>(hs.2 b hb).trans z) he new
theorem jJ {P:Program} {w:World} {H':Hp} {h':Heap} {kvs:List (Key×V)} {vs:List (Key×Value)} (z:kvs.length≤sizeLine) (hd:(a==sysModules)=false) (rel:KV kvs vs) (dd:h'.DictOf (aL P w) a vs) :
 be P w H' h' a (.dK kvs):=⟨z,hd,vs,rel,dd⟩
theorem lH {H':Hp} {Q:Unit→Shared→Prop} (hu:A.units+1<cLine) (I:Inv X pins σ H s) (g:lS H a y v H') (ry:aH y u) (rv:aH v r) (h:∀ s',Inv X pins σ H' s'→Q () s') :
 wpAny (model X.prog X.w) A (setItem (.ref a) u r) Q E s:=by
 rcases g with ⟨kvs,k,e,ey,l,eH⟩ | ⟨kvs,k,b,e,ey,eb,l,eH⟩
 · subst ey eH;obtain⟨z,hd,vs,rel,dd⟩:=nI I.hok e;have hz:vs.length≤sizeLine:=by rw[← rel.length];exact z
   have hl:(bp kvs k v).length≤sizeLine:=by have:=dj kvs k v;lia
   refine wpAny_setItem_pairs (hsz:=hz) (iV ry) dd fun h' dd' hs=>h _ ?_;have he:∃ q,h'.get? a=some q:=let ⟨q,_,_,hq,_⟩:=dd';⟨q,hq⟩;exact iu I (by rw[e];exact True.intro) hs he (jJ hl hd (rel.put k rv) dd')
 · subst ey eH;cases (show u=Value.ref b from ry);obtain⟨z,hd,xs,rel,dd⟩:=wf I.hok e;have hz:xs.length≤sizeLine:=by rw[← Paired.length rel];exact z
   have hl:(bp kvs k v).length≤sizeLine:=by have:=dj kvs k v;lia
   refine wpAny_setItem_heap (hsz:=hz) (tupleKind_room_in1 hu) (jD I.hok eb) dd fun h' dd' hs=>h _ ?_;obtain⟨q,es,ep,hq,h2,h3,h4,_,h5⟩:=dd';refine iu I (by rw[e];exact True.intro) hs ⟨q,hq⟩ ⟨hl,hd,_,(rel.put k eb rv).keeps fun c ys ec=>?_,q,es,ep,hq,h2,h3,h4,h5⟩;rw[a0 (vQ ec e (fun z=>nomatch z))];exact ec
end
section
variable {X:Cx} {pins:AOs} {σ:St} {H:Hp} {s:Shared} {a:Addr} {kvs:List (Key×V)} {k:Key} {u:Value} {A:Around} {E:VSP}
end
def tM (i:Expr):Prop:=∀ ov iv,subscripted i false ov iv=operate [ov,iv] (getItem ov iv)
theorem ki {prog:Program} {w:World} {A:Around} {E:VSP} {s:Shared} {env:Env} {value slice:Expr} {pos:Pos} {T id:String} {Q:VSP}
 (hl:typeLookup (.type T) "__getitem__"=pure (some (.builtin id))) (hs:tM slice)
 (h:wpAny (model prog w) A (eval value env) (fun o s₁=>wpAny (model prog w) A (eval slice env) (fun i s₂=>s₂.TypeIs o T∧wpAny (model prog w) A (getItem o i) Q E s₂) E s₁) E s) :
 wpAny (model prog w) A (eval (.Subscript value slice pos) env) Q E s:=by
 refine Subscript_ (wpAny_mono h (fun o s₁ h₁=>wpAny_mono h₁ (fun i s₂ h₂=>?_) fun _ _ x=>x) fun _ _ x=>x);obtain⟨hT,h₂⟩:=h₂;unfold subscriptTail;refine wB ?_;rw[getitemInPython_of_ne hT.not_modules];refine wB (wpAny_specialOf hT hl ?_);have fin:wpAny (model prog w) A (subscripted slice false o i) (fun r s₃=>wpAny (model prog w) A (letTemporaryGo value o r>>=fun _=>pure r) Q E s₃) E s₂:=by
  rw[hs o i];exact wpAny_operating (wpAny_mono h₂ (fun r s₃ h₃=>wB (wpAny_letTemporaryGo (wP h₃))) fun _ _ x=>x)
 first
  | exact wP (wB fin)
  | exact wB (wP (wB fin))
  | exact wB fin
theorem iY {X:Cx} {pins:AOs} {σ:St} {H:Hp} {s:Shared} {a:Addr} {y:V} {o:Option V} (I:Inv X pins σ H s) (g:fG H a y o):s.TypeIs (.ref a) "dict":=by
 rcases g with ⟨kvs,k,e,_,_⟩ | ⟨kvs,k,b,e,_,_,_⟩
 · obtain⟨_,_,vs,_,dd⟩:=nH I.hok e;exact dd.typeIs
 · obtain⟨_,_,xs,_,dd⟩:=nG I.hok e;exact dd.typeIs
inductive rD (x y:V) (H:Hp) (Q:VK):Prop
  | mk (a:Addr) (v:V) (h:x=.ref a) (g:fG H a y (some v)) (q:Q v H):rD x y H Q
def kg (td ty:TE):TE:=fun σ H Q=>td σ H fun x H1=>ty σ H1 fun y H2=>rD x y H2 Q
inductive rC (x y v:V) (H:Hp) (N:Hp→Prop):Prop
  | mk (a:Addr) (H4:Hp) (h:x=.ref a) (g:lS H a y v H4) (q:N H4):rC x y v H N
def uD (td ty tv:TE):TS:=fun D σ H=>tv σ H fun v H1=>td σ H1 fun x H2=>ty σ H2 fun y H3=>rC x y v H3 (D.nx σ)
section
variable {X:Cx} {o i e value:Expr} {pos pos' tpos:Pos} {td ty tv:TE}
theorem pK (hu:X.A.units+1<cLine) (ho:PE X o td) (hi:PE X i ty) (hs:tM i):PE X (.Subscript o i pos) (kg td ty):=by
 intro pins s σ H Q I h;refine ki PySem.F.slot_dict_getitem.lookup hs (thn (ho pins s σ H _ I h) fun u s1 zy85=>?_);obtain⟨x,H1,I1,rx,q1⟩:=zy85;refine thn (hi pins s1 σ H1 _ I1 q1) fun iv s2 zy86=>?_;obtain⟨y,H2,I2,ry,a,v,ex,g,q2⟩:=zy86;subst ex;obtain rfl:u=Value.ref a:=rx;exact⟨iY I2 g,lI hu I2 g ry fun w' s3 I3 rw'=>⟨v,H2,I3,rw',q2⟩⟩
theorem ig (hu:X.A.units+1<cLine) (ho:PE X o td) (hi:PE X i ty) (hv:PE X value tv) (hs:swapsWith value (some (.Subscript o i pos')) pos.line X.env=pure false) :
 PS X (.Assign [.Subscript o i pos'] value pos) (uD td ty tv):=by
 intro pins s σ H D I h;refine wpAny_Assign_Subscript (thn (hv pins s σ H _ I h) fun r s1 zy91=>?_) hs;obtain⟨v,H1,I1,rv,q1⟩:=zy91;refine thn (ho pins s1 σ H1 _ I1 q1) fun u s2 zy92=>?_;obtain⟨x,H2,I2,rx,q2⟩:=zy92;refine thn (hi pins s2 σ H2 _ I2 q2) fun iv s3 zy93=>?_;obtain⟨y,H3,I3,ry,a,H4,ex,g,q3⟩:=zy93;subst ex;obtain rfl:u=Value.ref a:=rx;exact lH hu I3 g ry rv fun s4 I4=>⟨σ,H4,I4,q3⟩
end
theorem iX {P:Program} {w:World} {H:Hp} (h:Heap) (hb:sysModules<h.objs.size):be P w H (h.push {cls:=.type "dict",data:=.dict #[]}) h.objs.size (.dK []) :=
 ⟨Nat.zero_le _,beq_eq_false_iff_ne.mpr (Ne.symm (Nat.ne_of_lt hb)),[],.nil,Heap.DictOf.new h⟩
def rM:TE:=fun _ H Q=>∀ p,H p=none→Q (.ref p) (upd H p (.dK []))
section
variable {X:Cx} {pos:Pos}
theorem mM:PE X (.Dict [] [] pos) rM:=fun pins s σ H Q I h =>
 wpAny_Dict_empty ⟨.ref s.heap.objs.size,_,I.laid (a:=s.heap.objs.size) (o:=.dK []) (t':=s.toks) (fun _ _ q=>hpS _ q) (Nat.le_refl _) (iX s.heap I.big),rfl,h _ (I.hok.fresh (Nat.le_refl _))⟩
end
def ji:List (TE×TE)→St→Hp→(List (V×V)→Hp→Prop)→Prop
  | [],_,H,Q=>Q [] H
  | (tk,tv)::r,σ,H,Q=>tk σ H fun x H1=>tv σ H1 fun y H2=>ji r σ H2 fun ps H3=>Q ((x,y)::ps) H3
abbrev VV:List (V×V)→List (Value×Value)→Prop:=Paired fun p q=>aH p.1 q.1∧aH p.2 q.2
def PPs (X:Cx) (pos:Pos) (keys:List (Option Expr)) (values:List Expr) (trs:List (TE×TE)):Prop :=
  ∀ (pins:AOs) (s:Shared) (σ:St) (H:Hp) (Q:List (V×V)→Hp→Prop),Inv X pins σ H s→ji trs σ H Q →
    wpAny (model X.prog X.w) X.A (evalPairs (pairTrees keys values X.env pos)) (fun vs s'=>∃ ps H',Inv X pins σ H' s'∧VV ps vs∧Q ps H') X.xe s
theorem ky {X:Cx} {pos:Pos}:PPs X pos [] [] []:=fun pins s σ H Q I h=>pairTrees_nil_walk ⟨[],H,I,.nil,h⟩
theorem eE {X:Cx} {pos:Pos} {k v:Expr} {ks:List (Option Expr)} {vs:List Expr} {tk tv:TE} {trs:List (TE×TE)} (hk:PE X k tk) (hv:PE X v tv) (hr:PPs X pos ks vs trs) :
 PPs X pos (some k::ks) (v::vs) ((tk,tv)::trs):=fun pins s σ H Q I h =>
 pairTrees_cons_walk (thn (hk pins s σ H _ I h) fun u s1 ⟨x,H1,I1,rx,q1⟩=>thn (hv pins s1 σ H1 _ I1 q1) fun w2 s2 ⟨y,H2,I2,ry,q2⟩ =>
   thn (hr pins s2 σ H2 _ I2 q2) fun ws s3 ⟨ps,H3,I3,rel,q3⟩=>⟨(x,y)::ps,H3,I3,.cons ⟨rx,ry⟩ rel,q3⟩)
def dh (kvs more:List (Key×V)):List (Key×V):=more.foldl (fun acc kv=>bp acc kv.1 kv.2) kvs
theorem KV.merge:∀ {more:List (Key×V)} {rs:List (Key×Value)} {kvs:List (Key×V)} {vs:List (Key×Value)},KV more rs→KV kvs vs→KV (dh kvs more) (merged vs rs):=by
 intro more rs kvs vs r;unfold KV at r
 induction r generalizing kvs vs with
 | nil=>intro q;exact q
 | @cons p q ps qs h t ih =>
  intro r0;have e:KV (bp kvs p.1 p.2) (stored vs q.1 q.2):=by
   have:=r0.put p.1 h.2;rw[← h.1];exact this
  exact ih e
theorem dJ:∀ (more kvs:List (Key×V)),(dh kvs more).length≤kvs.length+more.length
 | [],kvs=>by show kvs.length≤kvs.length+0;lia
 | p::r,kvs=>by
  have h1:=dJ r (bp kvs p.1 p.2);have h2:=dj kvs p.1 p.2;show (dh (bp kvs p.1 p.2) r).length≤_;rw[List.length_cons];lia
theorem gk {P:Program} {w:World}:∀ {kvs:List (Key×V)} {ws:List (Value×Value)},VV (kvs.map fun kv=>(kV kv.1,kv.2)) ws→∃ rs,Carries (aL P w) ws rs∧KV kvs rs
 | [],_,r=>by rw[List.map_nil] at r;cases r;exact⟨[],True.intro,.nil⟩
 | p::kvs,_,r=>by
  rw[List.map_cons] at r;cases r with
  | @cons a b as bs h t =>
   obtain⟨rs,c,q⟩:=gk (P:=P) (w:=w) t;obtain⟨b1,b2⟩:=b;exact⟨(p.1,b2)::rs,⟨iV h.1,rfl,c⟩,.cons ⟨rfl,h.2⟩ q⟩
def u5 (trs:List (TE×TE)):TE:=fun σ H Q=>∀ p,H p=none→ji trs σ (upd H p (.dK [])) fun ps H2=>H2 p=some (.dK [])∧∃ kvs:List (Key×V),ps=kvs.map (fun kv=>(kV kv.1,kv.2))∧kvs.length≤15∧Q (.ref p) (upd H2 p (.dK (dh [] kvs)))
theorem kD {X:Cx} {pos:Pos} {keys:List (Option Expr)} {values:List Expr} {trs:List (TE×TE)} (h:PPs X pos keys values trs) (hall:keys.all (·.isSome)=true) (hl:keys.length=values.length) (h0:keys≠[])
 (h15:keys.length≤15):PE X (.Dict keys values pos) (u5 trs):=by
 intro pins s σ H Q I q;have hn:=I.hok.fresh (Nat.le_refl s.heap.objs.size);have I1:=I.laid (a:=s.heap.objs.size) (o:=.dK []) (h':=s.heap.push {cls:=.type "dict",data:=.dict #[]}) (t':=s.toks) (fun _ _ q=>hpS _ q) (Nat.le_refl _) (iX s.heap I.big);refine wpAny_Dict_walk (knd:=aL X.prog X.w) hall hl h0 h15 (thn (h pins _ σ _ _ I1 (q _ hn)) fun ws s2 zy100=>?_);obtain⟨ps,H2,I2,rel,e,kvs,ep,lk,q2⟩:=zy100;subst ep;obtain⟨rs,c,rk⟩:=gk (P:=X.prog) (w:=X.w) rel;obtain⟨z,hd,vs0,r0,dd⟩:=nI I2.hok e;cases r0;refine⟨rs,c,dd,fun h' dd' hs=>⟨.ref s.heap.objs.size,_,?_,rfl,q2⟩⟩;have hz:(dh [] kvs).length≤sizeLine:=by
  have h1:=dJ kvs [];rw[List.length_nil] at h1;rw[sizeLine_eq];lia
 have he:∃ q,h'.get? s.heap.objs.size=some q:=let ⟨q,_,_,hq,_⟩:=dd';⟨q,hq⟩;exact iu I2 (by rw[e];exact True.intro) hs he (jJ hz hd (rk.merge .nil) dd')
structure M1 (X:Cx) (o:Expr) (m:Str) (apos:Pos) (e:Expr) (cpos:Pos):Prop where
  base:attributeBase o m X.env (eval o X.env)=eval o X.env
  few:((backTo cpos (starEach [e] X.env)).all (fun x=>!x.1)&&(backToKw cpos (keywordEach [] X.env)).all (fun x=>x.1.isSome)
    && decide (([e]:List Expr).length+([]:List Keyword).length+(if ([]:List Keyword).isEmpty then 0 else 1)<30))=true
  line:(apos.endLine==cpos.line)=true
  trees:backTo cpos (starEach [e] X.env)=[(false,eval e X.env)]
structure M2 (X:Cx) (o:Expr) (m:Str) (apos:Pos) (e f:Expr) (cpos:Pos):Prop where
  base:attributeBase o m X.env (eval o X.env)=eval o X.env
  few:((backTo cpos (starEach [e,f] X.env)).all (fun x=>!x.1)&&(backToKw cpos (keywordEach [] X.env)).all (fun x=>x.1.isSome)
    && decide (([e,f]:List Expr).length+([]:List Keyword).length+(if ([]:List Keyword).isEmpty then 0 else 1)<30))=true
  line:(apos.endLine==cpos.line)=true
  trees:backTo cpos (starEach [e,f] X.env)=[(false,eval e X.env),(false,eval f X.env)]
section
variable {X:Cx} {pins:AOs} {σ:St} {H:Hp} {s:Shared} {a:Addr} {y d:V} {u r:Value} {o:Option V} {A:Around} {E:VSP}
end
section
variable {X:Cx} {o e f:Expr} {apos cpos:Pos} {td ty tx:TE}
end
section
variable {X:Cx} {pins:AOs} {σ:St} {H:Hp} {s:Shared} {a:Addr} {kvs:List (Key×V)} {A:Around} {E:VSP}
end
section
variable {X:Cx} {pins:AOs} {σ:St} {H:Hp} {s:Shared} {a:Addr} {y:V} {u:Value} {A:Around} {E:VSP}
end
section
variable {X:Cx}
def gO (K:Fg):R2:=fun x y H Q=>∃ a b xs ys,x=.ref a∧y=.ref b∧SqT K H a xs∧SqT K H b ys∧xs.length+ys.length≤sizeLine ∧
  (xs=[]→Q (.ref b) H)∧(xs≠[]→ys=[]→Q (.ref a) H)∧(xs≠[]→ys≠[]→∀ p,H p=none→Q (.ref p) (upd H p (.tup (xs++ys))))
theorem cR:OpR X (binaryOp .Add) (gO X.K):=by
 intro pins s σ H x y v u Q I rx ry h;obtain⟨a,b,xs,ys,rfl,rfl,ha,hb,hz,q0,q1,q2⟩:=h;by_cases hx:xs=[]
 · cases rx;cases ry;obtain⟨its,r1,p1,_⟩:=I.tuple ha;obtain⟨its2,r2,p2,_⟩:=I.tuple hb;have e0:its=[]:=r1.nil_iff.mpr hx;subst e0;obtain⟨⟨c1,d1,t1,s1⟩,ho,hc,n,hd⟩:=p1;obtain⟨⟨c2,d2,t2,s2⟩,ho2,hc2,n2,hd2⟩:=p2;simp only at hc hd hc2 hd2;subst hc hd hc2 hd2;exact concat_meets ⟨_,ho,rfl⟩ ⟨_,ho2,rfl⟩ noFill_tuple_add seq_tuple_add PySem.F.slot_tuple_add PySem.F.entry_tuple_add (PySem.F.args_tuple_add_2 _ _) (tuple_addW0 a b _ _ n n2 d1 d2 s1 s2 (by simp)) ⟨ho,ho2,⟨.ref b,H,I,rfl,q0 hx⟩⟩
 · exact oU pins s σ H _ _ v u Q I rx ry ⟨a,b,xs,ys,rfl,rfl,ha,hb,hx,hz,q1 hx,q2 hx⟩
def jc (P:Program) (w:World) (K:Fg) (a:Addr) (kvs:List (Key×V)):Prop:=∃ (o:Obj) (vs:List (Key×Value)),K.lookup a=some o∧o.IsDictOf (aL P w) vs∧KV kvs vs∧(a==sysModules)=false
theorem jc.of {pins:AOs} {σ:St} {H:Hp} {s:Shared} {a:Addr} {kvs:List (Key×V)} (I:Inv X pins σ H s) (h:jc X.prog X.w X.K a kvs):(a==sysModules)=false∧∃ vs,KV kvs vs∧s.heap.DictOf (aL X.prog X.w) a vs:=by
 obtain⟨o,vs,h1,h2,h3,h4⟩:=h;exact⟨h4,vs,h3,Heap.dictOf_iff.mpr ⟨o,I.kIn a o h1,h2⟩⟩
variable {o i:Expr} {pos:Pos} {td ty:TE}
def tZ (P:Program) (w:World) (K:Fg) (td ty:TE):TE:=fun σ H Q=>td σ H fun x H1=>ty σ H1 fun y H2=>∃ a kvs k v,x=.ref a∧jc P w K a kvs∧y=kV k∧aY kvs k=some v∧Q v H2
theorem kC (ho:PE X o td) (hi:PE X i ty) (hs:tM i):PE X (.Subscript o i pos) (tZ X.prog X.w X.K td ty):=by
 intro pins s σ H Q I h;refine ki PySem.F.slot_dict_getitem.lookup hs (thn (ho pins s σ H _ I h) fun u s1 zz116=>?_);obtain⟨x,H1,I1,rx,q1⟩:=zz116;refine thn (hi pins s1 σ H1 _ I1 q1) fun iv s2 zz117=>?_;obtain⟨y,H2,I2,ry,a,kvs,k,v,ex,g,ey,l,q2⟩:=zz117;subst ex ey;obtain rfl:u=Value.ref a:=rx;obtain⟨hd,vs,rel,dd⟩:=g.of I2;obtain⟨w',hw,rw'⟩:=dn.some_of (v:=v) (o:=valueAt vs k) (by rw[← l];exact rel.val k);exact⟨dd.typeIs,wpAny_getItem_of (iV ry) dd.mapOf hw ⟨v,H2,I2.tok _,rw',q2⟩⟩
end
mutual
inductive TD (K:Fg) (H:Hp):V→PyData→Prop
  | bl (b:Bool):TD K H (.bl b) (.bool b)
  | int (i:Int):TD K H (.int i) (.int i)
  | str (x:Str):TD K H (.str x) (.str x)
  | tup {a:Addr} {xs:List V} {ds:PDs}:SqT K H a xs→TDs K H xs ds→TD K H (.ref a) (.tuple ds)
inductive TDs (K:Fg) (H:Hp):List V→PDs→Prop
  | nil:TDs K H [] []
  | cons {x:V} {d:PyData} {xs:List V} {ds:PDs}:TD K H x d→TDs K H xs ds→TDs K H (x::xs) (d::ds)
end
def Tk (H H':Hp):Prop:=∀ b xs,Rd H b (.tup xs)→Rd H' b (.tup xs)
section
variable {K:Fg} {H H' H2:Hp}
theorem ai.tk (e:ai H H'):Tk H H':=fun b xs h=>by
 rcases h with h | ⟨o,h⟩
 · exact .inl (e _ _ h)
 · exact .inr ⟨o,e _ _ h⟩
theorem i8 {L:Addr} {o:HO} (h:H L=none∨∃ ys,H L=some (.lst ys)):Tk H (upd H L o):=fun b xs z=>by
 have ne:b≠L:=fun e=>by
  rw[e] at z
  rcases z with z | ⟨_,z⟩ <;> rcases h with h | ⟨ys,h⟩ <;> rw[h] at z <;> cases z
 rcases z with z | ⟨o',z⟩
 · exact .inl (by rw[a0 ne];exact z)
 · exact .inr ⟨o',by rw[a0 ne];exact z⟩
theorem SqT.tk {a:Addr} {xs:List V} (e:Tk H H') (h:SqT K H a xs):SqT K H' a xs:=by
 rcases h with h | h
 · exact .inl (e _ _ h)
 · exact .inr h
theorem TD.tk (e:Tk H H') {v:V} {d:PyData} (h:TD K H v d):TD K H' v d :=
 TD.rec (motive_1:=fun v d _=>TD K H' v d) (motive_2:=fun xs ds _=>TDs K H' xs ds) (fun b=>.bl b) (fun i=>.int i) (fun x=>.str x) (fun hq _ ih=>.tup (hq.tk e) ih) .nil (fun _ _ a b=>.cons a b) h
theorem TDs.tk (e:Tk H H') {xs:List V} {ds:PDs} (h:TDs K H xs ds):TDs K H' xs ds :=
 TDs.rec (motive_1:=fun v d _=>TD K H' v d) (motive_2:=fun xs ds _=>TDs K H' xs ds) (fun b=>.bl b) (fun i=>.int i) (fun x=>.str x) (fun hq _ ih=>.tup (hq.tk e) ih) .nil (fun _ _ a b=>.cons a b) h
theorem TD.dat {v:V} {d:PyData} (h:TD K H v d):c8 K H v d :=
 TD.rec (motive_1:=fun v d _=>c8 K H v d) (motive_2:=fun xs ds _=>eV K H xs ds) (fun b=>.bl b) (fun i=>.int i) (fun x=>.str x) (fun hq _ ih=>.tup hq ih) .nil (fun _ _ a b=>.cons a b) h
theorem TD.same {v:V} {d:PyData} (e:ai H H') (h:TD K H v d):TD K H' v d:=h.tk e.tk
theorem TDs.same {v:List V} {d:PDs} (e:ai H H') (h:TDs K H v d):TDs K H' v d:=h.tk e.tk
theorem TDs.length {xs:List V} {ds:PDs} (h:TDs K H xs ds):xs.length=ds.length:=by
 induction xs generalizing ds with
 | nil=>cases h;rfl
 | cons x r ih=>cases h with | cons a b=>rw[List.length_cons,List.length_cons,ih b]
theorem TDs.get {xs:List V} {ds:PDs} (h:TDs K H xs ds):∀ {i:Nat} {x:V},xs[i]?=some x→∃ d,ds[i]?=some d∧TD K H x d:=by
 induction xs generalizing ds with
 | nil=>intro i x z;simp at z
 | cons y r ih =>
  cases h with
  | cons a b =>
   intro i x z;cases i with
   | zero=>cases z;exact⟨_,rfl,a⟩
   | succ i=>exact ih b z
theorem TDs.snoc {xs:List V} {ds:PDs} {v:V} {d:PyData} (h:TDs K H xs ds) (hv:TD K H v d):TDs K H (xs++[v]) (ds++[d]):=by
 induction xs generalizing ds with
 | nil=>cases h;exact .cons hv .nil
 | cons y r ih=>cases h with | cons a b=>exact .cons a (ih b)
theorem TDs.app {xs ys:List V} {ds es:PDs} (h:TDs K H xs ds) (h2:TDs K H ys es):TDs K H (xs++ys) (ds++es):=by
 induction xs generalizing ds with
 | nil=>cases h;exact h2
 | cons y r ih=>cases h with | cons a b=>exact .cons a (ih b)
theorem TD.str_of {v:V} {x:Str} (h:TD K H v (.str x)):v=.str x:=by cases h;rfl
theorem TD.tup_of {v:V} {ds:PDs} (h:TD K H v (.tuple ds)):∃ a xs,v=.ref a∧SqT K H a xs∧TDs K H xs ds:=by
 cases h with
 | tup hq hd=>exact⟨_,_,rfl,hq,hd⟩
end
theorem smu {H:Hp} {L:Addr} {o:HO} (h:H L=none):ai H (upd H L o):=fun b u e=>by rw[a0 (ah e h)];exact e
section
variable {X:Cx} {p pos apos cpos:Pos} {e:Expr} {es:List Expr} {t:TA} {o:Expr} {to:TE}
end
end L2
namespace L2
open PySem PySem.Spec PyProof.Rows
theorem gA:typeLookup (.type "tuple") (dunderI "add")=pure none:=by rw[typeLookup_type];kernel_rfl
section
variable {X:Cx}
theorem kN:PIp X .Add (gO X.K):=by
 intro pins s σ H x y v u Q I rx ry h;obtain⟨a,b,xs,ys,rfl,rfl,ha,hb,hz,q0,q1,q2⟩:=h;cases rx;cases ry;obtain⟨its,r1,p1,_⟩:=I.tuple ha;obtain⟨its2,r2,p2,_⟩:=I.tuple hb;obtain⟨⟨c1,d1,t1,s1⟩,ho,hc,n,hd⟩:=p1;obtain⟨⟨c2,d2,t2,s2⟩,ho2,hc2,n2,hd2⟩:=p2;simp only at hc hd hc2 hd2;subst hc hd hc2 hd2;have hsz:its.length+its2.length≤sizeLine:=by rw[← r1.length,← r2.length];exact hz
 have ht:s.TypeIs (.ref a) "tuple":=⟨_,ho,rfl⟩;have ht2:s.TypeIs (.ref b) "tuple":=⟨_,ho2,rfl⟩;refine wpAny_inplaceOp_concat ht ht2 gA noFill_tuple_add seq_tuple_add ?_;by_cases hx:its=[]
 · exact call_meets PySem.F.slot_tuple_add ht PySem.F.entry_tuple_add (PySem.F.args_tuple_add_2 _ _) (tuple_addW0 a b _ _ n n2 d1 d2 s1 s2 (by simp[hx])) ⟨ho,ho2,⟨.ref b,H,I,rfl,q0 (r1.nil_iff.mp hx)⟩⟩
 · by_cases hy:its2=[]
   · exact call_meets PySem.F.slot_tuple_add ht PySem.F.entry_tuple_add (PySem.F.args_tuple_add_2 _ _) (tuple_addW1 a b _ _ n n2 d1 d2 s1 s2 (by simpa using hx) (by simp[hy])) ⟨ho,ho2,⟨.ref a,H,I,rfl,q1 (fun z=>hx (r1.nil_iff.mpr z)) (r2.nil_iff.mp hy)⟩⟩
   · refine call_meets PySem.F.slot_tuple_add ht PySem.F.entry_tuple_add (PySem.F.args_tuple_add_2 _ _) (tuple_addW2 a b _ _ n n2 d1 d2 s1 s2 (by simpa using hx) (by simpa using hy) (by rw[List.size_toArray,List.size_toArray];exact hsz)) ⟨ho,ho2,?_⟩;have e:its.toArray++its2.toArray=(its++its2).toArray:=by simp
     rw[e];refine⟨.ref s.heap.objs.size,_,I.laid (t':=s.toks) (o:=.tup (xs++ys)) (fun b ob q=>hpS _ q) (Nat.le_refl _) ?_,rfl,q2 (fun z=>hx (r1.nil_iff.mpr z)) (fun z=>hy (r2.nil_iff.mpr z)) _ (I.hok.fresh (Nat.le_refl _))⟩;exact⟨by rw[lAp];exact hz,_,r1.append r2,IsTup.new _ _⟩
end
structure Drw (prog:Program) (w:World) (i src:Addr) (xs:Array Value) (J:Nat→Heap→Prop):Prop where
  ext:∀ k h h',J k h→(∀ o,h.get? i=some o→h'.get? i=some o)→(∀ o,h.get? src=some o→h'.get? src=some o)→J k h'
  item:∀ (A:Around) (E:VSP) (s:Shared) (k:Nat) (x:Value) (Q:VSP),J k s.heap→xs[k]?=some x→(∀ h',J (k+1) h'→Heap.SameBut i s.heap h'→Q x {s with heap:=h'}) →
    wpAny (model prog w) A (Builtin.SmallTypes.nextOf (.ref i)) Q E s
  stop:∀ (A:Around) (E:VSP) (s:Shared) (k:Nat) (Q:VSP),A.handled=none→J k s.heap→xs[k]?=none→(∀ h' e,Heap.ExtBut i s.heap h'→(∃ o,h'.get? e=some o∧o.cls=.type "StopIteration")→E (.ref e) {s with heap:=h'}) →
    wpAny (model prog w) A (Builtin.SmallTypes.nextOf (.ref i)) Q E s
theorem dE {prog:Program} {w:World} (i t:Addr) (hne:t≠i) (xs:Array Value):Drw prog w i t xs (fun k h=>h.IsTupleIter i t k∧h.IsTuple t xs) where
 ext:=fun k h h' ⟨⟨o,a,r⟩,o2,a2,r2⟩ e1 e2=>⟨⟨o,e1 o a,r⟩,o2,e2 o2 a2,r2⟩
 item:=by
  rintro A E s k x Q ⟨st,ht⟩ hx q;obtain⟨o,ho,hc,hd⟩:=id st;obtain⟨ot,hot,ct,nt,dt⟩:=id ht;unfold Builtin.SmallTypes.nextOf;refine wB (wpAny_callSpecial?_slot (name:=Str.ofString "__next__") st.typeIs F.slot_tuple_iterator_next (wpAny_call_entry F.slot_tuple_iterator_next st.typeIs F.entry_tuple_iterator_next ?_ (F.args_tuple_iterator_next_1 _)));show wpAny _ _ (field (.ref i) 0>>=_) _ _ s;refine wB (wpAny_field ho hd (x:=.ref t) rfl ?_);show wpAny _ _ (if (Value.ref t==Value.none)=true then _ else _) _ _ s;rw[if_neg (fun z=>Bool.false_ne_true (show (Value.ref t==Value.none)=true from z))];show wpAny _ _ (field (.ref i) 1>>=_) _ _ s;refine wB (wpAny_field ho hd (x:=.int k 0) rfl ?_);show wpAny _ _ (seqItems? (.ref t)>>=_) _ _ s;refine wB (wpAny_seqItems hot dt ?_);simp only[Int.toNat_natCast,hx];refine wB (wpAny_setField ho hd (by simp) (wP ⟨x,rfl,wP (q _ ⟨?_,ht.extBut (Heap.SameBut.update ..).extBut hne⟩ (Heap.SameBut.update ..))⟩));exact⟨_,Heap.get?_update_self _ ho (Obj.isFreed_of_fields (Obj.data_mapFields hd _)),(Obj.cls_mapFields ..).trans hc,by rw[Obj.data_mapFields hd];simp[rawInt]⟩
 stop:=by
  rintro A E s k Q hh ⟨st,ht⟩ hx q;obtain⟨o,ho,hc,hd⟩:=id st;obtain⟨ot,hot,ct,nt,dt⟩:=id ht;unfold Builtin.SmallTypes.nextOf;refine wB (wpAny_callSpecial?_slot (name:=Str.ofString "__next__") st.typeIs F.slot_tuple_iterator_next (wpAny_call_entry F.slot_tuple_iterator_next st.typeIs F.entry_tuple_iterator_next ?_ (F.args_tuple_iterator_next_1 _)));show wpAny _ _ (field (.ref i) 0>>=_) _ _ s;refine wB (wpAny_field ho hd (x:=.ref t) rfl ?_);show wpAny _ _ (if (Value.ref t==Value.none)=true then _ else _) _ _ s;rw[if_neg (fun z=>Bool.false_ne_true (show (Value.ref t==Value.none)=true from z))];show wpAny _ _ (field (.ref i) 1>>=_) _ _ s;refine wB (wpAny_field ho hd (x:=.int k 0) rfl ?_);show wpAny _ _ (seqItems? (.ref t)>>=_) _ _ s;refine wB (wpAny_seqItems hot dt ?_);simp only[Int.toNat_natCast,hx];refine wB (wpAny_rule (wB (wpAny_setField ho hd (by simp) ?_)));show wpAny _ _ (newExc (.type "StopIteration") []>>=_) _ _ _;refine wB ?_;simp only[newExc,newTuple];refine wB (wpAny_newObj_type ?_ (by size_fits));refine wB (m:=firstArgMember _ _) (wpAny_of_eq (a:=Value.none) (by first | rfl | (simp only[firstArgMember];rfl)) ?_);refine wpAny_newObj_type ?_ (by size_fits);simp only[raiseNew];refine wB (wpAny_handled ?_);first | rw[show A.in1.handled=none from hh] | rw[hh]
  refine wB (wP (wpAny_throw ?_));exact q _ _ (((Heap.SameBut.update ..).extBut.push _).push _) ⟨_,Heap.get?_push_size _ rfl,rfl⟩
theorem kP {prog:Program} {w:World} (i t:Addr) (hne:t≠i) (xs:Array Value):Drw prog w i t xs (fun k h=>h.IsListIter i t k∧h.IsList t xs) where
 ext:=fun k h h' z e1 e2=>by
  obtain⟨⟨o,a,r⟩,o2,a2,r2⟩:=z;exact⟨⟨o,e1 o a,r⟩,o2,e2 o2 a2,r2⟩
 item:=by
  rintro A E s k x Q ⟨st,ht⟩ hx q;exact wpAny_nextOf_list_item st ht hx fun h' it' sb=>q h' ⟨it',ht.extBut sb.extBut hne⟩ sb
 stop:=by
  rintro A E s k Q hh ⟨st,ht⟩ hx q;exact wpAny_nextOf_list_end hh st ht hx q
section
variable {prog:Program} {w:World} {A:Around} {E:VSP} {s:Shared} {z TI TO i1 i2 l1 l2:Addr} {k:Nat} {xs ys:Array Value} {J1 J2:Nat→Heap→Prop} {a b x y:Value}
structure ZAp (z TI TO i1 i2 l1 l2:Addr):Prop where
  z_:TI≠z∧TO≠z∧i1≠z∧i2≠z∧l1≠z∧l2≠z
  o_:TI≠TO∧i1≠TO∧i2≠TO∧l1≠TO∧l2≠TO
  i_:TI≠i1∧TI≠i2∧i1≠i2
  l_:l1≠i1∧l1≠i2∧l2≠i1∧l2≠i2
theorem aD {c:Addr} {h h':Heap} {b:Addr} {o:Obj} (e:Heap.SameBut b h h') (n:c≠b) (g:h.get? c=some o):h'.get? c=some o:=(e.2 c n).trans g
theorem kZ {Q:VSP} (D:ZAp z TI TO i1 i2 l1 l2) (R1:Drw prog w i1 l1 xs J1) (R2:Drw prog w i2 l2 ys J2) (hz:IsZip s.heap z TI TO .none) (hTI:IsPair s.heap TI (.ref i1) (.ref i2)) (hTO:IsPair s.heap TO a b)
 (h1:J1 k s.heap) (h2:J2 k s.heap) (hx:xs[k]?=some x) (hy:ys[k]?=some y)
 (hQ:∀ h',IsZip h' z TI TO (rawInt s.heap.objs.size)→IsPair h' TO x y→J1 (k+1) h'→J2 (k+1) h'→IsPair h' s.heap.objs.size x y→(∀ c o,c≠z→c≠TO→c≠i1→c≠i2→s.heap.get? c=some o→h'.get? c=some o)→Q (.ref s.heap.objs.size) {s with heap:=h'}) :
 wpAny (model prog w) A (Builtin.«zip.__next__» ⟨[.ref z],[]⟩) (fun fin s'=>∃ v,fin=.done (.ret v)∧Q v s') E s:=by
 obtain⟨z1,z2,z3,z4,z5,z6⟩:=D.z_;obtain⟨o1,o2,o3,o4,o5⟩:=D.o_;obtain⟨j1,j2,j3⟩:=D.i_;obtain⟨m1,m2,m3,m4⟩:=D.l_;show wpAny _ _ (field (.ref z) 2>>=_) _ _ _;refine wB (wpAny_field hz rfl (x:=.bool false) rfl ?_);show wpAny _ _ (field (.ref z) 3>>=_) _ _ _;refine wB (wpAny_field hz rfl (x:=.ref TI) rfl ?_);refine wB (wpAny_seqItems hTI rfl ?_);show wpAny _ _ (Builtin.SmallTypes.ownedTupleIsFree (.ref z)>>=_) _ _ _;refine wB ?_;unfold Builtin.SmallTypes.ownedTupleIsFree;refine wB (wpAny_field hz rfl (x:=.none) rfl (wP ?_));simp only[if_true];refine wB (wpAny_rule ?_);refine wB (wpAny_field hz rfl (x:=.ref TO) rfl ?_);refine wB (wpAny_setField_rec hz (by simp) fun g1 gz1 gs1=>?_);have gz1':IsZip g1 z TI TO .ellipsis:=gz1;refine wB ?_;simp only[List.zipIdx_cons,List.zipIdx_nil,List.forIn_cons,List.forIn_nil];refine wB (wB (wpAny_onRaise ?_));show wpAny _ _ (Builtin.SmallTypes.nextOf (.ref i1)>>=_) _ _ _;have J11:J1 k g1:=R1.ext k _ _ h1 (fun o e=>aD gs1 z3 e) (fun o e=>aD gs1 z5 e);refine wB (R1.item _ _ {s with heap:=g1} k x _ J11 hx fun g2 J12 gs2=>wP ?_);have t2:IsPair g2 TO a b:=aD gs2 (Ne.symm o2) (aD gs1 z2 hTO);refine wB (wpAny_seqItems t2 rfl ?_);refine wB (wpAny_updateSeq_pair t2 fun g3 t3 gs3=>?_);have t3':IsPair g3 TO x b:=t3;refine wB (wpAny_letGo (wP ?_));refine wB (wB (wpAny_onRaise ?_));show wpAny _ _ (Builtin.SmallTypes.nextOf (.ref i2)>>=_) _ _ _;have J23:J2 k g3:=R2.ext k _ _ h2 (fun o e=>aD gs3 o3 (aD gs2 (Ne.symm j3) (aD gs1 z4 e))) (fun o e=>aD gs3 o5 (aD gs2 m3 (aD gs1 z6 e)));refine wB (R2.item _ _ {s with heap:=g3} k y _ J23 hy fun g4 J24 gs4=>wP ?_);have t4:IsPair g4 TO x b:=aD gs4 (Ne.symm o3) t3';refine wB (wpAny_seqItems t4 rfl ?_);refine wB (wpAny_updateSeq_pair t4 fun g5 t5 gs5=>?_);have t5':IsPair g5 TO x y:=t5;refine wB (wpAny_letGo (wP (wP ?_)));refine wB (wpAny_seqItems t5' rfl ?_);refine wB (wpAny_newTuple ?_);have sz:g5.objs.size=s.heap.objs.size:=by rw[gs5.1,gs4.1,gs3.1,gs2.1,gs1.1]
 have zz5:IsZip g5 z TI TO .ellipsis:=aD gs5 (Ne.symm z2) (aD gs4 (Ne.symm z4) (aD gs3 (Ne.symm z2) (aD gs2 (Ne.symm z3) gz1')));have kp:∀ c o,c≠z→c≠TO→c≠i1→c≠i2→s.heap.get? c=some o→g5.get? c=some o:=fun c o c1 c2 c3 c4 e=>aD gs5 c2 (aD gs4 c4 (aD gs3 c2 (aD gs2 c3 (aD gs1 c1 e))));have J15:J1 (k+1) g5:=R1.ext _ _ _ J12 (fun o e=>aD gs5 o2 (aD gs4 j3 (aD gs3 o2 e))) (fun o e=>aD gs5 o4 (aD gs4 m2 (aD gs3 o4 e)));have J25:J2 (k+1) g5:=R2.ext _ _ _ J24 (fun o e=>aD gs5 o3 e) (fun o e=>aD gs5 o5 e);have lz:z<g5.objs.size:=Heap.lt_size zz5;show wpAny _ _ (Builtin.SmallTypes.ownedTupleHandOut (.ref z) (.ref g5.objs.size)>>=_) _ _ _;refine wB ?_;unfold Builtin.SmallTypes.ownedTupleHandOut;have zz6:IsZip (g5.push {cls:=.type "tuple",data:=.seq #[x,y]}) z TI TO .ellipsis:=hpS _ zz5;refine wB (wpAny_setField_rec zz6 (by simp) fun g7 zz7 gs7=>?_);have zz7':IsZip g7 z TI TO (rawInt g5.objs.size):=zz7;refine wpAny_setField_rec zz7' (by simp) fun g8 zz8 gs8=>?_;have zz8':IsZip g8 z TI TO (rawInt g5.objs.size):=zz8;have up:∀ c o,c≠z→g5.get? c=some o→g8.get? c=some o:=fun c o c1 e=>aD gs8 c1 (aD gs7 c1 (hpS _ e));have pT:IsPair g8 g5.objs.size x y:=aD gs8 (Nat.ne_of_gt lz) (aD gs7 (Nat.ne_of_gt lz) (Heap.get?_push_size _ rfl));rw[sz] at zz8' pT;refine wP ⟨_,rfl,?_⟩;show Q (.ref g5.objs.size) _;rw[sz];exact hQ g8 zz8' (up _ _ z2 t5') (R1.ext _ _ _ J15 (fun o e=>up _ o z3 e) fun o e=>up _ o z5 e) (R2.ext _ _ _ J25 (fun o e=>up _ o z4 e) fun o e=>up _ o z6 e) pT fun c o c1 c2 c3 c4 e=>up c o c1 (kp c o c1 c2 c3 c4 e)
theorem lT {Q:Fin→Shared→Prop} (hh:A.handled=none) (D:ZAp z TI TO i1 i2 l1 l2) (R1:Drw prog w i1 l1 xs J1) (R2:Drw prog w i2 l2 ys J2) (hz:IsZip s.heap z TI TO .none) (hTI:IsPair s.heap TI (.ref i1) (.ref i2)) (hTO:IsPair s.heap TO a b)
 (h1:J1 k s.heap) (h2:J2 k s.heap) (hend:xs[k]?=none∨ys[k]?=none)
 (hE:∀ h' e,(∀ c o,c≠z→c≠TO→c≠i1→c≠i2→s.heap.get? c=some o→h'.get? c=some o)→(∃ o,h'.get? e=some o∧o.cls=.type "StopIteration")→E (.ref e) {s with heap:=h'}) :
 wpAny (model prog w) A (Builtin.«zip.__next__» ⟨[.ref z],[]⟩) Q E s:=by
 obtain⟨z1,z2,z3,z4,z5,z6⟩:=D.z_;obtain⟨o1,o2,o3,o4,o5⟩:=D.o_;obtain⟨j1,j2,j3⟩:=D.i_;obtain⟨m1,m2,m3,m4⟩:=D.l_;show wpAny _ _ (field (.ref z) 2>>=_) _ _ _;refine wB (wpAny_field hz rfl (x:=.bool false) rfl ?_);show wpAny _ _ (field (.ref z) 3>>=_) _ _ _;refine wB (wpAny_field hz rfl (x:=.ref TI) rfl ?_);refine wB (wpAny_seqItems hTI rfl ?_);show wpAny _ _ (Builtin.SmallTypes.ownedTupleIsFree (.ref z)>>=_) _ _ _;refine wB ?_;unfold Builtin.SmallTypes.ownedTupleIsFree;refine wB (wpAny_field hz rfl (x:=.none) rfl (wP ?_));simp only[if_true];refine wB (wpAny_rule ?_);refine wB (wpAny_field hz rfl (x:=.ref TO) rfl ?_);refine wB (wpAny_setField_rec hz (by simp) fun g1 gz1 gs1=>?_);have gz1':IsZip g1 z TI TO .ellipsis:=gz1;refine wB ?_;simp only[List.zipIdx_cons,List.zipIdx_nil,List.forIn_cons,List.forIn_nil];refine wB (wB (wpAny_onRaise ?_));show wpAny _ _ (Builtin.SmallTypes.nextOf (.ref i1)>>=_) _ _ _;have J11:J1 k g1:=R1.ext k _ _ h1 (fun o e=>aD gs1 z3 e) (fun o e=>aD gs1 z5 e);cases hx:xs[k]? with
 | none =>
  refine wB (R1.stop _ _ {s with heap:=g1} k _ hh J11 hx fun g2 e gs2 he=>?_);obtain⟨oe,hoe,hce⟩:=he;have zz2:IsZip g2 z TI TO .ellipsis:=gs2 _ _ (Ne.symm z3) gz1';have ez:e≠z:=fun q=>by subst q;rw[zz2] at hoe;cases hoe;simp at hce
  refine wpAny_setField_rec zz2 (by simp) fun g3 _ gs3=>hE g3 e (fun c o c1 _ c3 _ q=>aD gs3 c1 (gs2 _ _ c3 (aD gs1 c1 q))) ⟨oe,aD gs3 ez hoe,hce⟩
 | some x =>
  have hy:ys[k]?=none:=hend.resolve_left (by rw[hx];simp);refine wB (R1.item _ _ {s with heap:=g1} k x _ J11 hx fun g2 J12 gs2=>wP ?_);have t2:IsPair g2 TO a b:=aD gs2 (Ne.symm o2) (aD gs1 z2 hTO);refine wB (wpAny_seqItems t2 rfl ?_);refine wB (wpAny_updateSeq_pair t2 fun g3 t3 gs3=>?_);refine wB (wpAny_letGo (wP ?_));refine wB (wB (wpAny_onRaise ?_));show wpAny _ _ (Builtin.SmallTypes.nextOf (.ref i2)>>=_) _ _ _;have J23:J2 k g3:=R2.ext k _ _ h2 (fun o e=>aD gs3 o3 (aD gs2 (Ne.symm j3) (aD gs1 z4 e))) (fun o e=>aD gs3 o5 (aD gs2 m3 (aD gs1 z6 e)));refine wB (R2.stop _ _ {s with heap:=g3} k _ hh J23 hy fun g4 e gs4 he=>?_);obtain⟨oe,hoe,hce⟩:=he;have zz4:IsZip g4 z TI TO .ellipsis:=gs4 _ _ (Ne.symm z4) (aD gs3 (Ne.symm z2) (aD gs2 (Ne.symm z3) gz1'));have ez:e≠z:=fun q=>by subst q;rw[zz4] at hoe;cases hoe;simp at hce
  refine wpAny_setField_rec zz4 (by simp) fun g5 _ gs5=>hE g5 e (fun c o c1 c2 c3 c4 q=>aD gs5 c1 (gs4 _ _ c4 (aD gs3 c2 (aD gs2 c3 (aD gs1 c1 q))))) ⟨oe,aD gs5 ez hoe,hce⟩
end
section
variable {X:Cx} {pins:AOs} {σ:St} {H:Hp} {s:Shared} {h2:Heap} {t':Nat} {ch:List Addr} {o:HO}
theorem Inv.turnedAll (I:Inv X pins σ H s) (hch:∀ b∈ch,gl X pins H b) (keep:∀ b u,b∉ch→s.heap.get? b=some u→h2.get? b=some u):Inv X pins σ H {s with heap:=h2,toks:=t'}:=by
 have nt:∀ {b:Addr} {u:HO},H b=some u→b∉ch:=fun {b u} q z=>by rw[(hch b z).1] at q;cases q
 refine I.step (g':=s.gens) (d':=s.drawn) (ch:=ch) (fun b hb=>⟨(hch b hb).2.2.2.1,(hch b hb).2.1,(hch b hb).2.2.2.2.1,(hch b hb).2.2.2.2.2⟩) (fun b u _ _ hc z _=>keep b u hc z) (fun b u _ _ hc z _=>⟨u.slots,keep b u hc z⟩) (fun _ _ _ _ n=>n)
  (fun b u hc z=>⟨u,keep b u hc z⟩) (fun _ _ z=>z) (fun _ _ _ z=>z) (fun b ps z=>⟨#[],by rw[z];simp⟩) (fun m hm=>?_) (fun b u z=>?_) I.bare
 · obtain⟨o,es,ep,ho,r⟩:=hm;exact⟨o,es,ep,keep _ o (fun z=>(hch _ z).2.1 rfl) ho,r⟩
 · refine (I.hok b u z).stay (fun c v hc zc=>keep c v ?_ zc) (fun _ q=>q) fun _ _ q=>q
   rcases hc with rfl | hc
   · exact nt z
   · exact nt hc
theorem Inv.turnedNew (I:Inv X pins σ H s) (hch:∀ b∈ch,gl X pins H b) (keep:∀ b u,b∉ch→s.heap.get? b=some u→h2.get? b=some u) (new:be X.prog X.w (upd H s.heap.objs.size o) h2 s.heap.objs.size o) :
 Inv X pins σ (upd H s.heap.objs.size o) {s with heap:=h2,toks:=t'}:=by
 have hfr:H s.heap.objs.size=none:=I.hok.fresh (Nat.le_refl _);have nt:∀ {b:Addr} {u:HO},H b=some u→b∉ch:=fun {b u} q z=>by rw[(hch b z).1] at q;cases q
 have nd:∀ {b:Addr} {u:HO},H b=some u→b≠s.heap.objs.size:=fun {b u} q z=>by rw[z,hfr] at q;cases q
 refine I.step (g':=s.gens) (d':=s.drawn) (ch:=ch) (fun b hb=>⟨(hch b hb).2.2.2.1,(hch b hb).2.1,(hch b hb).2.2.2.2.1,(hch b hb).2.2.2.2.2⟩) (fun b u _ _ hc z _=>keep b u hc z) (fun b u _ _ hc z _=>⟨u.slots,keep b u hc z⟩) (fun b u _ z n=>by rw[a0 (Nat.ne_of_lt (Heap.lt_size z))];exact n)
  (fun b u hc z=>⟨u,keep b u hc z⟩) (fun b xs z=>by rw[a0 (nd z)];exact z) (fun b u v z=>by rw[a0 (nd z)];exact z) (fun b ps z=>⟨#[],by rw[a0 (nd z),z];simp⟩) (fun m hm=>?_) (fun b u z=>?_) I.bare
 · obtain⟨o,es,ep,ho,r⟩:=hm;exact⟨o,es,ep,keep _ o (fun z=>(hch _ z).2.1 rfl) ho,r⟩
 · by_cases hb:b=s.heap.objs.size
   · rw[hb,pE] at z;cases z;rw[hb];exact new
   · rw[a0 hb] at z;refine (I.hok b u z).stay (fun c v hc zc=>keep c v ?_ zc) (fun c zc=>by rw[a0 (nd zc)];exact zc) fun c xs zc=>by rw[a0 (nd zc)];exact zc
     rcases hc with rfl | hc
     · exact nt z
     · exact nt hc
end
theorem aT {h:Heap} {a b:Addr} {oa ob:Obj} (ha:h.get? a=some oa) (hb:h.get? b=some ob) (hc:oa.cls≠ob.cls):a≠b:=fun z=>by
 rw[z,hb] at ha;cases ha;exact hc rfl
theorem j7:bootBuiltins "zip"=some (.type "zip"):=by decide +kernel
section
variable {prog:Program} {w:World} {A:Around} {E:VSP} {s:Shared} {z TI TO i1 i2 l1 l2:Addr} {k:Nat} {xs ys:Array Value} {J1 J2:Nat→Heap→Prop} {a b x y:Value}
theorem ga {Q:Option Value→Shared→Prop} (D:ZAp z TI TO i1 i2 l1 l2) (R1:Drw prog w i1 l1 xs J1) (R2:Drw prog w i2 l2 ys J2) (hz:IsZip s.heap z TI TO .none) (hTI:IsPair s.heap TI (.ref i1) (.ref i2)) (hTO:IsPair s.heap TO a b)
 (h1:J1 k s.heap) (h2:J2 k s.heap) (hx:xs[k]?=some x) (hy:ys[k]?=some y)
 (hQ:∀ h',IsZip h' z TI TO (rawInt s.heap.objs.size)→IsPair h' TO x y→J1 (k+1) h'→J2 (k+1) h'→IsPair h' s.heap.objs.size x y→(∀ c o,c≠z→c≠TO→c≠i1→c≠i2→s.heap.get? c=some o→h'.get? c=some o)→Q (some (.ref s.heap.objs.size)) {s with heap:=h'}) :
 wpAny (model prog w) A (pyNext (.ref z)) Q E s:=by
 have ty:s.TypeIs (.ref z) "zip":=⟨_,hz,rfl⟩;unfold pyNext;exact wB (wpAny_attempt (wpAny_callSpecial?_slot (name:=Str.ofString "__next__") ty F.slot_zip_next (wpAny_call_entry F.slot_zip_next ty F.entry_zip_next (kZ D R1 R2 hz hTI hTO h1 h2 hx hy fun h' a1 a2 a3 a4 a5 a6=>wP (hQ h' a1 a2 a3 a4 a5 a6)) (F.args_zip_next_1 _))))
theorem gU {Q:Option Value→Shared→Prop} (hh:A.handled=none) (D:ZAp z TI TO i1 i2 l1 l2) (R1:Drw prog w i1 l1 xs J1) (R2:Drw prog w i2 l2 ys J2) (hz:IsZip s.heap z TI TO .none) (hTI:IsPair s.heap TI (.ref i1) (.ref i2)) (hTO:IsPair s.heap TO a b)
 (h1:J1 k s.heap) (h2:J2 k s.heap) (hend:xs[k]?=none∨ys[k]?=none)
 (hQ:∀ h',(∀ c o,c≠z→c≠TO→c≠i1→c≠i2→s.heap.get? c=some o→h'.get? c=some o)→Q none {s with heap:=h'}):wpAny (model prog w) A (pyNext (.ref z)) Q E s:=by
 have ty:s.TypeIs (.ref z) "zip":=⟨_,hz,rfl⟩;unfold pyNext;refine wB (wpAny_attempt (wpAny_callSpecial?_slot (name:=Str.ofString "__next__") ty F.slot_zip_next (wpAny_call_entry F.slot_zip_next ty F.entry_zip_next (lT hh D R1 R2 hz hTI hTO h1 h2 hend fun h' e hk he=>?_) (F.args_zip_next_1 _))));obtain⟨o,ho,hc⟩:=he;exact wB (wpAny_isInstance (T:="StopIteration") (b:=true) ⟨o,ho,hc⟩ isSubtype_stop (wP (hQ _ hk)))
end
abbrev zt1 (h:Heap) (a:Addr):Heap:=h.push {cls:=.type "tuple_iterator",data:=.fields #[.ref a,.int 0 0]}
abbrev zt2 (h:Heap) (a b:Addr):Heap:=zt1 (zt1 h a) b
abbrev zt3 (h:Heap) (a b:Addr):Heap:=(zt2 h a b).push {cls:=.type "tuple",data:=.seq #[.ref h.objs.size,.ref (zt1 h a).objs.size]}
abbrev zt4 (h:Heap) (a b:Addr):Heap:=(zt3 h a b).push {cls:=.type "tuple",data:=.seq #[.none,.none]}
abbrev zt5 (h:Heap) (a b:Addr):Heap:=(zt4 h a b).push {cls:=.type "zip",data:=.fields #[.none,.bool false,.bool false,.ref (zt2 h a b).objs.size,.ref (zt3 h a b).objs.size]}
theorem jx (a b:Addr) (xs ys:Array Value):Meets (Builtin.«zip.__new__» ⟨[.type "zip",.ref a,.ref b],[]⟩) (fun _ R s=>s.heap.IsTuple a xs∧s.heap.IsTuple b ys∧R (.ok (.ret (.ref (zt4 s.heap a b).objs.size))) {s with heap:=zt5 s.heap a b}) :=
 .of_wp fun prog w A R s h=>by
  obtain⟨hp,g,d,tk,os⟩:=s;obtain⟨ha,hb,h⟩:=h;have sub:=sub_zip;have e1:Heap.IsTuple (Shared.heap ⟨hp,g,d,tk,os⟩) a xs:=ha;have e2:Heap.IsTuple (Shared.heap ⟨zt1 hp a,g,d,tk,os⟩) b ys:=Heap.IsTuple.push hb _
  wp_walk using wpAny_pyIter_tuple e1,wpAny_pyIter_tuple e2
  exact⟨_,rfl,h⟩
theorem lJ {prog:Program} {w:World} {A:Around} {E:VSP} {s:Shared} {a b:Addr} {xs ys:Array Value} {Q:VSP} (ha:s.heap.IsTuple a xs) (hb:s.heap.IsTuple b ys)
 (h:∀ h',IsZip h' (s.heap.objs.size+4) (s.heap.objs.size+2) (s.heap.objs.size+3) .none→IsPair h' (s.heap.objs.size+2) (.ref s.heap.objs.size) (.ref (s.heap.objs.size+1))→IsPair h' (s.heap.objs.size+3) .none .none →
   h'.IsTupleIter s.heap.objs.size a 0→h'.IsTupleIter (s.heap.objs.size+1) b 0→(∀ c o,s.heap.get? c=some o→h'.get? c=some o)→Q (.ref (s.heap.objs.size+4)) {s with heap:=h'}) :
 wpAny (model prog w) A (call (.type "zip") [.ref a,.ref b]) Q E s:=by
 refine callType_new F.called_zip (by decide) (F.typeCall_zip_2 _ _) (F.newCall_zip_2 _ _) (fun obj=>F.args_object_init_3 obj _ _) F.entry_zip_new (jx a b xs ys) ⟨ha,hb,?_⟩;have z1:(zt1 s.heap a).objs.size=s.heap.objs.size+1:=Heap.size_push ..;have z2:(zt2 s.heap a b).objs.size=s.heap.objs.size+2:=by rw[Heap.size_push,z1]
 have z3:(zt3 s.heap a b).objs.size=s.heap.objs.size+3:=by rw[Heap.size_push,z2]
 have z4:(zt4 s.heap a b).objs.size=s.heap.objs.size+4:=by rw[Heap.size_push,z3]
 have up:∀ {c:Addr} {o:Obj},(zt1 s.heap a).get? c=some o→(zt5 s.heap a b).get? c=some o:=fun e=>hpS _ (hpS _ (hpS _ (hpS _ e)));have g5:(zt5 s.heap a b).get? (zt4 s.heap a b).objs.size=some _:=Heap.get?_push_size _ rfl;have g4:(zt5 s.heap a b).get? (zt3 s.heap a b).objs.size=some _:=hpS _ (Heap.get?_push_size _ rfl);have g3:(zt5 s.heap a b).get? (zt2 s.heap a b).objs.size=some _:=hpS _ (hpS _ (Heap.get?_push_size _ rfl));have g2:(zt5 s.heap a b).get? (zt1 s.heap a).objs.size=some _:=hpS _ (hpS _ (hpS _ (Heap.get?_push_size _ rfl)));have g1:(zt5 s.heap a b).get? s.heap.objs.size=some _:=up (Heap.get?_push_size _ rfl);show _∧_;rw[z2,z3,z4] at g5;rw[z1,z2] at g3;rw[z3] at g4;rw[z1] at g2;rw[z4];exact⟨⟨_,g5,rfl⟩,h _ g5 g3 g4 ⟨_,g1,rfl,rfl⟩ ⟨_,g2,rfl,rfl⟩ fun c o e=>up (hpS _ e)⟩
def o6 (K:Fg) (a b:Addr):It :=
  ⟨fun i H=>∃ xs ys x y,SqT K H a xs∧SqT K H b ys∧xs[i]?=some x∧ys[i]?=some y,fun i H v H'=>∃ t x y,v=.ref t∧H t=none∧H'=upd H t (.tup [x,y])∧(∀ xs,SqT K H a xs→xs[i]?=some x)∧∀ ys,SqT K H b ys→ys[i]?=some y,
    fun i H=>∃ xs ys,SqT K H a xs∧SqT K H b ys∧(xs.length≤i∨ys.length≤i)⟩
theorem l5 {P:Program} {w:World} {K:Fg} {elts:List Expr} {k} {pos:Pos} (a b z TI TO i1 i2:Addr) (h0:z≠TI∧z≠TO∧z≠i1∧z≠i2∧TI≠TO∧TI≠i1∧TI≠i2∧TO≠i1∧TO≠i2∧i1≠i2) (hab:a≠TO∧b≠TO) :
 lN P w K (.Tuple elts k pos) (o6 K a b) [z,TI,TO,i1,i2] z (fun i h=>IsZip h z TI TO .none∧IsPair h TI (.ref i1) (.ref i2)∧(∃ u v,IsPair h TO u v)∧h.IsTupleIter i1 a i∧h.IsTupleIter i2 b i) where
 mem:=by simp
 obj:=fun i h st c hc=>by
  obtain⟨h1,h2,⟨u,v,h3⟩,⟨o4,h4,_,d4⟩,⟨o5,h5,_,d5⟩⟩:=st;simp only[List.mem_cons,nMN,or_false] at hc
  rcases hc with rfl | rfl | rfl | rfl | rfl
  · exact⟨_,h1,fun v z=>by cases z⟩
  · exact⟨_,h2,fun v z=>by cases z⟩
  · exact⟨_,h3,fun v z=>by cases z⟩
  · exact⟨_,h4,fun v z=>by rw[d4] at z;cases z⟩
  · exact⟨_,h5,fun v z=>by rw[d5] at z;cases z⟩
 keep:=fun i h h' st k=>by
  obtain⟨h1,h2,⟨u,v,h3⟩,⟨o4,h4,r4⟩,⟨o5,h5,r5⟩⟩:=st;exact⟨k z (by simp) _ h1,k TI (by simp) _ h2,⟨u,v,k TO (by simp) _ h3⟩,⟨o4,k i1 (by simp) _ h4,r4⟩,⟨o5,k i2 (by simp) _ h5,r5⟩⟩
 item:=by
  intro X hP hw hK hc i pins s σ H E I hf st hg;subst hP hw hK;obtain⟨xs,ys,x,y,hqx,hqy,hx,hy⟩:=hg;obtain⟨its,rv,p,hz⟩:=I.tuple hqx;obtain⟨its2,rv2,p2,hz2⟩:=I.tuple hqy;obtain⟨u,hu,ru⟩:=rv.get hx;obtain⟨v,hv,rv'⟩:=rv2.get hy;obtain⟨h1,h2,⟨u0,v0,h3⟩,h4,h5⟩:=st;obtain⟨n1,n2,n3,n4,n5,n6,n7,n8,n9,n10⟩:=h0;obtain⟨ol,hol,hcl,_⟩:=id p;obtain⟨ol2,hol2,hcl2,_⟩:=id p2;obtain⟨o4,g4,c4,d4⟩:=id h4;obtain⟨o5,g5,c5,d5⟩:=id h5;have D:ZAp z TI TO i1 i2 a b:=⟨⟨n1.symm,n2.symm,n3.symm,n4.symm,aT hol h1 (by rw[hcl];simp),aT hol2 h1 (by rw[hcl2];simp)⟩,⟨n5,n8.symm,n9.symm,hab.1,hab.2⟩,⟨n6,n7,n10⟩,
    ⟨aT hol g4 (by rw[hcl,c4];simp),aT hol g5 (by rw[hcl,c5];simp),aT hol2 g4 (by rw[hcl2,c4];simp),aT hol2 g5 (by rw[hcl2,c5];simp)⟩⟩
  refine ga D (dE i1 a D.l_.1 its.toArray) (dE i2 b D.l_.2.2.2 its2.toArray) h1 h2 h3 ⟨h4,p⟩ ⟨h5,p2⟩ (x:=u) (y:=v) (by simpa using hu) (by simpa using hv) fun h' e1 e2 e3 e4 e5 e7=>?_;refine⟨_,rfl,wpAny_letOwnedTupleGo_zip (s:={s with heap:=h'}) e1 fun h'' f1 sb=>?_⟩;have lz:z<s.heap.objs.size:=Heap.lt_size h1;have keep:∀ c o,c∉[z,TI,TO,i1,i2]→s.heap.get? c=some o→h''.get? c=some o:=fun c o hc q=>by
   simp only[List.mem_cons,nMN,or_false,not_or] at hc;exact (sb.2 c hc.1).trans (e7 c o hc.1 hc.2.2.1 hc.2.2.2.1 hc.2.2.2.2 q)
  have hT:h''.get? s.heap.objs.size=some {cls:=.type "tuple",data:=.seq #[u,v]}:=(sb.2 _ (Nat.ne_of_gt lz)).trans e5;have I2:Inv X pins σ (upd H s.heap.objs.size (.tup [x,y])) {s with heap:=h''}:=I.turnedNew (t':=s.toks) hf keep ⟨bA,[u,v],.cons ru (.cons rv' .nil),⟨_,hT,rfl,_,rfl⟩⟩;refine⟨.ref s.heap.objs.size,_,I2,rfl,⟨_,x,y,rfl,I.hok.fresh (Nat.le_refl _),rfl,fun q hq=>by rw[I.tuple_inj hq hqx];exact hx,fun q hq=>by rw[I.tuple_inj hq hqy];exact hy⟩,⟨f1,?_,⟨u,v,(sb.2 TO D.z_.2.1).trans e2⟩,?_,?_⟩,fun c hc=>?_⟩
  · exact (sb.2 TI D.z_.1).trans (e7 TI _ D.z_.1 D.o_.1 D.i_.1 D.i_.2.1 h2)
  · obtain⟨⟨o,q,r⟩,_⟩:=e3;exact⟨o,(sb.2 i1 D.z_.2.2.1).trans q,r⟩
  · obtain⟨⟨o,q,r⟩,_⟩:=e4;exact⟨o,(sb.2 i2 D.z_.2.2.2.1).trans q,r⟩
  · have hlt:c<s.heap.objs.size:=by
     simp only[List.mem_cons,nMN,or_false] at hc
     rcases hc with rfl | rfl | rfl | rfl | rfl
     · exact lz
     · exact Heap.lt_size h2
     · exact Heap.lt_size h3
     · exact Heap.lt_size g4
     · exact Heap.lt_size g5
    rw[a0 (Nat.ne_of_lt hlt)];exact (hf c hc).1
 done:=by
  intro X hP hw hK hc i pins s σ H E I hf st hg;subst hP hw hK;obtain⟨xs,ys,hqx,hqy,hlen⟩:=hg;obtain⟨its,rv,p,hz⟩:=I.tuple hqx;obtain⟨its2,rv2,p2,hz2⟩:=I.tuple hqy;obtain⟨h1,h2,⟨u0,v0,h3⟩,h4,h5⟩:=st;obtain⟨n1,n2,n3,n4,n5,n6,n7,n8,n9,n10⟩:=h0;obtain⟨ol,hol,hcl,_⟩:=id p;obtain⟨ol2,hol2,hcl2,_⟩:=id p2;obtain⟨o4,g4,c4,d4⟩:=id h4;obtain⟨o5,g5,c5,d5⟩:=id h5;have D:ZAp z TI TO i1 i2 a b:=⟨⟨n1.symm,n2.symm,n3.symm,n4.symm,aT hol h1 (by rw[hcl];simp),aT hol2 h1 (by rw[hcl2];simp)⟩,⟨n5,n8.symm,n9.symm,hab.1,hab.2⟩,⟨n6,n7,n10⟩,
    ⟨aT hol g4 (by rw[hcl,c4];simp),aT hol g5 (by rw[hcl,c5];simp),aT hol2 g4 (by rw[hcl2,c4];simp),aT hol2 g5 (by rw[hcl2,c5];simp)⟩⟩
  have e1:=rv.length;have e2:=rv2.length;refine gU (I.ok.hd hc) D (dE i1 a D.l_.1 its.toArray) (dE i2 b D.l_.2.2.2 its2.toArray) h1 h2 h3 ⟨h4,p⟩ ⟨h5,p2⟩ (hlen.imp (fun q=>by simp;lia) fun q=>by simp;lia) fun h' kp=>⟨rfl,I.turnedAll (t':=s.toks) hf fun c o hc q=>?_⟩;simp only[List.mem_cons,nMN,or_false,not_or] at hc;exact kp c o hc.1 hc.2.2.1 hc.2.2.2.1 hc.2.2.2.2 q
 self:=fun _ _ _ _ _ st h=>wpAny_pyIter_zip st.1 h
def vY (K:Fg) (ta:TA):TI:=fun σ H R=>ta σ H fun vs H1=>∃ a b xs ys,vs=[.ref a,.ref b]∧SqT K H1 a xs∧SqT K H1 b ys∧R (o6 K a b) H1
theorem kz {X:Cx} {elts:List Expr} {k} {tpos:Pos} {e1 e2:Expr} {ta:TA} {p pos:Pos} (hg:Gl X "zip") (hm:X.mg "zip"=none) (ha:PA X [e1,e2] ta) (hs:starEach [e1,e2] X.env=[(false,eval e1 X.env),(false,eval e2 X.env)]:=by rfl) (hs2:starEach [e2] X.env=[(false,eval e2 X.env)]:=by rfl) :
 PI X (.Tuple elts k tpos) (.Call (.Name "zip" p) [e1,e2] [] pos) (vY X.K ta):=by
 intro pins s σ H R I h;refine Call_ (dk I hg hm j7 (PyProof.Rows.callWith_type1 (thn (ha pos pins s σ H _ I h) fun us s1 zy16=>?_) (by rw[hs,hs2]) (by rw[hs2];rfl)));obtain⟨vs,H1,I1,r1,q1⟩:=zy16;obtain⟨a,b,xs,ys,e,hqx,hqy,q⟩:=q1;subst e;obtain⟨u,v,rfl,ru,rv⟩:=r1.two;cases ru;cases rv;obtain⟨its,rv,p1,hz⟩:=I1.tuple hqx;obtain⟨its2,rv2,p2,hz2⟩:=I1.tuple hqy;have la:a<s1.heap.objs.size:=by obtain⟨o,e,_⟩:=id p1;exact Heap.lt_size e
 have lb:b<s1.heap.objs.size:=by obtain⟨o,e,_⟩:=id p2;exact Heap.lt_size e
 refine lJ p1 p2 fun h' f1 f2 f3 f4 f5 f7=>?_;refine wpAny_pyIter_zip f1 ?_;have I2:Inv X pins σ H1 {s1 with heap:=h'}:=I1.kept (t':=s1.toks) f7;generalize hn:s1.heap.objs.size=n at f1 f2 f3 f4 f5 la lb;refine⟨n+4,[n+4,n+2,n+3,n,n+1],_,o6 X.K a b,H1,rfl,I2,l5 a b (n+4) (n+2) (n+3) n (n+1) (by refine⟨?_,?_,?_,?_,?_,?_,?_,?_,?_,?_⟩ <;> (intro z;have z':(_:Nat)=_:=z;lia)) ⟨Nat.ne_of_lt (Nat.lt_add_right 3 la),Nat.ne_of_lt (Nat.lt_add_right 3 lb)⟩,⟨f1,f2,⟨_,_,f3⟩,f4,f5⟩,fun c hc=>?_,q⟩;have hc':s1.heap.objs.size≤c:=by
  rw[hn];simp only[List.mem_cons,nMN,or_false] at hc
  rcases hc with rfl | rfl | rfl | rfl | rfl
  · exact Nat.le_add_right _ _
  · exact Nat.le_add_right _ _
  · exact Nat.le_add_right _ _
  · exact Nat.le_refl _
  · exact Nat.le_add_right _ _
 exact I1.fpOk hc' (I1.hok.fresh hc')
theorem cy {X:Cx} {p pos:Pos} {e:Expr} {es:List Expr} {t:TA} (hm:X.mg "tuple"=none) (ha:PA X (e::es) t) (hg:Gl X "tuple":=by rfl)
 (he:starEach (e::es) X.env=(false,eval e X.env)::starEach es X.env:=by rfl) (hpl:(backTo pos (starEach es X.env)).any (·.1)=false:=by rfl) :
 PE X (.Call (.Name "tuple" p) (e::es) [] pos) (tCB (mz X.K) t):=f9 gD hg hm fz ha (he:=he) (hpl:=hpl)
theorem bV (xs:List V) (k:Nat):cx xs (some ((k:Nat):Int)) none=xs.drop k:=by
 unfold cx;rw[HT.d6,HT.fH];by_cases h:k≤xs.length
 · rw[Nat.min_eq_left h,List.take_of_length_le (by rw[List.length_drop];exact Nat.le_refl _)]
 · rw[Nat.min_eq_right (by lia),List.drop_of_length_le (Nat.le_refl _),List.drop_of_length_le (by lia)];exact List.take_nil
theorem az.zipT {K:Fg} {a b:Addr} {xs ys:List V} {g:TG} {tb:TS} {D:gq} {σ:St} {H:Hp} (hlen:xs.length=ys.length) (Pv:Nat→St→Hp→Prop) (h0:Pv 0 σ H) (hl:∀ i σ H,i≤xs.length→Pv i σ H→SqT K H a xs∧SqT K H b ys)
 (hs:∀ i x y σ H t,xs[i]?=some x→ys[i]?=some y→Pv i σ H→H t=none→g (.ref t) σ (upd H t (.tup [x,y])) fun σ2 H2=>tb {D with nx:=Pv (i+1),ct:=Pv (i+1),bk:=D.nx} σ2 H2) (hd:∀ σ H,Pv xs.length σ H→D.nx σ H):az (o6 K a b) g tb D σ H:=by
 refine⟨fun i m σ H=>i≤xs.length∧m=xs.length-i∧Pv i σ H,⟨_,Nat.zero_le _,rfl,h0⟩,fun i m σ H z=>?_⟩;obtain⟨hi,hm,hp⟩:=z;obtain⟨l1,l2⟩:=hl i σ H hi hp;by_cases hlt:i<xs.length
 · have hlt2:i<ys.length:=by lia
   refine .inr ⟨⟨xs,ys,xs[i],ys[i],l1,l2,by simp[hlt],by simp[hlt2]⟩,fun σ' H'=>Pv (i+1) σ' H',fun σ' H' q=>⟨xs.length-(i+1),by rw[hm];exact Nat.sub_succ_lt_self _ _ hlt,hlt,rfl,q⟩,?_⟩;rintro v H' ⟨t,x,y,rfl,ht,rfl,hx,hy⟩;exact hs i x y σ H t (hx xs l1) (hy ys l2) hp ht
 · have:i=xs.length:=by lia
   subst this;exact .inl ⟨⟨xs,ys,l1,l2,.inl (Nat.le_refl _)⟩,hd σ H hp⟩
theorem pI {c A B:Prop} [Decidable c] (h:¬ c) (b:B):if c then A else B:=by rw[if_neg h];exact b
theorem pJ {c A B:Prop} [Decidable c] (h:c) (a:A):if c then A else B:=by rw[if_pos h];exact a
theorem az.zipTN {K:Fg} {a b:Addr} {xs ys:List V} {g:TG} {tb:TS} {d:St→Hp→Prop} {r:VK} {k c:St→Hp→Prop} {σ:St} {H:Hp} (hlen:xs.length=ys.length) (Pv:Nat→St→Hp→Prop) (h0:Pv 0 σ H) (hl:∀ i σ H,i≤xs.length→Pv i σ H→SqT K H a xs∧SqT K H b ys)
 (hs:∀ i x y σ H t (N B:St→Hp→Prop),(∀ σ' H',Pv (i+1) σ' H'→N σ' H')→xs[i]?=some x→ys[i]?=some y→Pv i σ H→H t=none→g (.ref t) σ (upd H t (.tup [x,y])) fun σ2 H2=>tb ⟨N,r,B,N⟩ σ2 H2) (hd:∀ σ H,Pv xs.length σ H→d σ H):az (o6 K a b) g tb ⟨d,r,k,c⟩ σ H :=
 az.zipT hlen Pv h0 hl (fun i x y σ H t h1 h2 h3 h4=>hs i x y σ H t _ _ (fun _ _ z=>z) h1 h2 h3 h4) hd
end L2
namespace HT
open PySem PySem.Spec PyProof.Rows
section
variable {prog:Program} {w:World} {A:Around} {E:VSP} {s:Shared}
theorem dH {t sl:Addr} {am:Array Value} {vl vu:Value} {lo hi:Option Int} {Q:VSP} (ht:IsTup s.heap t am) (hs:s.heap.IsSliceOf sl vl vu .none) (pl:IsPart vl lo) (pu:IsPart vu hi)
 (hw:sIx am.size 0 lo=0∧sIx am.size am.size hi=am.size) (h:Q (.ref t) s):wpAny (model prog w) A (getItem (.ref t) (.ref sl)) Q E s:=by
 obtain⟨os,hos,hcs,hds⟩:=id hs;have hTs:s.TypeIs (.ref sl) "slice":=⟨os,hos,hcs⟩;unfold getItem
 try with_reducible refine wpAny_holding ?_
 first | refine wB (wP ?_) | skip
 refine wB (wpAny_sequenceKey ht.typeIs (by decide) ?_);refine wB (wpAny_callSpecial?_slot (name:=Str.ofString "__getitem__") ht.typeIs PyProof.Rows.slot_tuple_getitem
   (wpAny_call_entry PyProof.Rows.slot_tuple_getitem ht.typeIs entry_tuple_getitem ?_ (args_tuple_getitem _ _)))
 show wpAny _ _ (Builtin.Tuple.tupleItemsOf (.ref t)>>=_) _ _ s;refine wB (tupleItemsOf_ ht ?_);refine wB (wpAny_typeOf hTs ?_);rw[if_pos (by decide)];refine wB (cJ hs pl pu ?_);have hyes:((((sIx am.size 0 lo:Nat):Int)==0&&(1:Int)==1&&(sIx am.size am.size hi-sIx am.size 0 lo)==am.size)=true):=by
  rw[hw.1,hw.2];simp
 show wpAny _ _ (if (((sIx am.size 0 lo:Nat):Int)==0&&(1:Int)==1&&(sIx am.size am.size hi-sIx am.size 0 lo)==am.size)=true then _ else _) _ _ s;rw[if_pos hyes];unfold Builtin.Tuple.tupleIsExact;refine wB (wB (wpAny_typeOf ht.typeIs (wP ?_)));rw[if_pos (by decide)];exact wB (wpAny_rule (wP ⟨_,rfl,wP h⟩))
end
end HT
namespace L2
open PySem PySem.Spec PyProof.Rows
section
variable {X:Cx}
def fU (K:Fg):V→Option Int→Option Int→Hp→VK→Prop:=fun x lo hi H Q=>∃ a xs,x=.ref a∧SqT K H a xs ∧
  (cx xs lo hi=xs→Q (.ref a) H)∧∀ p,H p=none→Q (.ref p) (upd H p (.tup (cx xs lo hi)))
theorem c9:SlR X (fU X.K):=by
 intro pins s σ H x v vl vu lo hi sl Q I rx hs pl pu h;obtain⟨a,xs,rfl,hx,q1,q2⟩:=h;by_cases hw:HT.sIx xs.length 0 lo=0∧HT.sIx xs.length xs.length hi=xs.length
 · cases rx;obtain⟨its,r,ht,hz⟩:=I.tuple hx;have hlen:its.toArray.size=xs.length:=by rw[List.size_toArray];exact r.length.symm
   refine⟨"tuple",_,PyProof.Rows.slot_tuple_getitem.lookup,ht.typeIs,?_⟩;refine HT.dH ht hs pl pu (by rw[hlen];exact hw) ⟨.ref a,H,I,rfl,q1 ?_⟩;unfold cx;rw[hw.1,hw.2];simp
 · exact mm pins s σ H _ v vl vu lo hi sl Q I rx hs pl pu ⟨a,xs,rfl,hx,hw,q2⟩
end
end L2
namespace L2
theorem xP {x a b:Nat} (h:x≤a:=by with_reducible assumption) (e:Nat.ble a b=true:=by decide):x≤b:=Nat.le_trans h (Nat.le_of_ble_eq_true e)
theorem xN {b c A B:Nat} (h:b≤c:=by with_reducible assumption) (h2:c≤A:=by with_reducible assumption) (e:Nat.ble A B=true:=by decide):b≤B:=xP (Nat.le_trans h h2) e
theorem xO {b c d:Nat} (h:b=d:=by with_reducible assumption) (h2:c=d:=by with_reducible assumption):b=c:=h.trans h2.symm
end L2
namespace P10
open PySem L2
def tbl:List (Str×List Str):=[("number",["number"]),("name",["meant"]),("let",["bound","one","one"]),("var",["bound","one","one"]),("set",["meant","one"]),("do",["many"]),("if",["one","one","one"]),("while",["one","one"]),("each",["bound","one","one"]),("say",["one"]),("fault",["word"]),("op",["op","many"]),("new",["place","many"]),("get",["place","place","one"]),("fun",["bounds","one"]),("apply",["one","many"]),("call",["place","many"])]
def am:PyData→PDs
  | .tuple l=>l
  | _=>[]
def gB (s:Str) (d:PyData):PDs:=if s="one" then [d] else if s="many" then am d else []
def bm (sl:List Str) (ps:PDs):PDs:=(List.zipWith gB sl ps).flatten
def Shp (s:Str) (d:PyData):Prop:=(s="many"→∃ l,d=.tuple l)∧(s∈(["number","meant","bound","place"]:List Str)→∃ i,d=.int i)∧(s∈(["op","word"]:List Str)→∃ x,d=.str x)∧(s="bounds"→∃ is:List Int,d=.tuple (is.map .int)∧is.length≤3)
structure Nd (d:PyData) (h:Str) (sl:List Str) (ps:PDs):Prop where
  eq:d=.tuple (.str h::ps)
  mem:(h,sl)∈tbl
  shp:Paired Shp sl ps
  few:(bm sl ps).length≤8
theorem jC {sl:List Str} {ps:PDs} {i:Nat} {s:Str} {p:PyData} (h1:sl[i]?=some s) (h2:ps[i]?=some p):bm (sl.take (i+1)) (ps.take (i+1))=bm (sl.take i) (ps.take i)++gB s p:=by
 unfold bm;have hi:i<sl.length:=(gES.mp h1).1;have hj:i<ps.length:=(gES.mp h2).1;rw[tAO,tAO,h1,h2];show (List.zipWith gB (sl.take i++[s]) (ps.take i++[p])).flatten=_;rw[List.zipWith_append (by rw[lTk,lTk];lia),List.flatten_append];simp
theorem ng {sl:List Str} {ps:PDs} (i:Nat):(bm (sl.take i) (ps.take i)).length≤(bm sl ps).length:=by
 unfold bm;have e:List.zipWith gB (sl.take i) (ps.take i)=(List.zipWith gB sl ps).take i:=by rw[List.take_zipWith]
 rw[e];have:=congrArg (fun l=>(List.flatten l).length) (List.take_append_drop i (List.zipWith gB sl ps));simp only[List.flatten_append,lAp] at this;lia
theorem oo {k:Str} {sl:List Str} (h:(k,sl)∈tbl):sl.length≤3:=by
 have:∀ p∈tbl,p.2.length≤3:=by decide +kernel
 exact this _ h
end P10
namespace K20
open PySem L2 P10
structure Blt (mg:SOV):Prop where
  len:mg "len"=none
  range:mg "range"=none
  isinstance:mg "isinstance"=none
  tuple:mg "tuple"=none
  str:mg "str"=none
  zip:mg "zip"=none
  list:mg "list"=none
  sorted:mg "sorted"=none
structure Glb (P:Program) (w:World) (K:Fg) (mg:SOV):Prop where
  slots:∃ a kvs,mg "SLOTS"=some (.ref a)∧jc P w K a kvs∧∀ k sl,(k,sl)∈tbl→∃ r,aY kvs (.inr k)=some (.ref r)∧∀ H,SqT K H r (sl.map V.str)
section
variable {CX:CXT} {P:Program} {w:World} {K:Fg} {mg:SOV} {base:Heap} {N:List Str} {q:Str} {sc:Scope} {f:Addr} {cd:Value} {A:Around} {outer:List Env} {s:Shared} {H:Hp} {E:XK}
theorem bE:(eP CX P w K mg base N q sc f cd A outer s H E).nox.K=K:=rfl
theorem xM:(eP CX P w K mg base N q sc f cd A outer s H E).nox.prog=P:=rfl
theorem xL:(eP CX P w K mg base N q sc f cd A outer s H E).nox.w=w:=rfl
end
theorem dG {K:Fg} {H:Hp} {a b:Addr} {xs ys:PDs} {Q:VK} (hA:TD K H (.ref a) (.tuple xs)) (hB:TD K H (.ref b) (.tuple ys)) (hz:xs.length+ys.length≤100000)
 (q:∀ p H',ai H H'→TD K H' (.ref p) (.tuple (xs++ys))→Q (.ref p) H'):gO K (.ref a) (.ref b) H Q:=by
 obtain⟨a',us,e,ha,hu⟩:=hA.tup_of;cases e;obtain⟨b',vs,e,hb,hv⟩:=hB.tup_of;cases e;have hz0:(100000:Nat)<sizeLine:=by decide
 have l1:=hu.length;have l2:=hv.length;refine⟨a,b,us,vs,rfl,rfl,ha,hb,by lia,fun e=>?_,fun _ e=>?_,fun _ _ p hp=>?_⟩
 · have:xs=[]:=by rw[e] at l1;exact List.eq_nil_of_length_eq_zero l1.symm
   rw[this,List.nil_append] at q;exact q b H (ai.refl H) hB
 · have:ys=[]:=by rw[e] at l2;exact List.eq_nil_of_length_eq_zero l2.symm
   rw[this,List.append_nil] at q;exact q a H (ai.refl H) hA
 · have k:=smu (o:=HO.tup (us++vs)) hp;exact q p _ k (.tup (SqT.of pE) ((hu.same k).app (hv.same k)))
theorem oE {sl:List Str} {ps:PDs} (h:Paired Shp sl ps) {i:Nat} {p:PyData} (hp:ps[i]?=some p):∃ s,sl[i]?=some s∧Shp s p:=by
 induction h generalizing i with
 | nil=>simp at hp
 | cons z t ih =>
  cases i with
  | zero=>cases hp;exact⟨_,rfl,z⟩
  | succ i=>exact ih hp
section
variable {P:Program} {w:World} {K:Fg} {mg:SOV} {base:Heap}
abbrev sCh:Stmt:=top 2
inductive rg (K:Fg) (vs:List V) (H:Hp) (Q:VK):Prop
  | mk (v:V) (d:PyData) (h:Str) (sl:List Str) (ps:PDs) (g0_:vs=[v]) (g1_:TD K H v d) (g2_:Nd d h sl ps) (g3_:∀ v' H',ai H H'→TD K H' v' (.tuple (bm sl ps))→Q v' H'):rg K vs H Q
def mh (K:Fg):Sp:=fun vs H Q _=>rg K vs H Q
theorem uA:bF ["e","children","slot","part"] ["e"] (ak sCh):=fsM
theorem vL (D:Def K mg "children_of" sCh) (T:Blt mg) (C:Glb P w K mg):Fn P w K mg base "children_of" 1 ["e"] (mh K):=by
 refine D.fn uA (fun vs H Q E h=>?_) (fun _ _ _ _ _ _ us hl=>by obtain⟨a,rfl⟩:=cY hl;rfl) (fun f cdv A outer s' H vs Q E hr h=>?_)
 · obtain⟨v,d,h',sl,ps,rfl,_⟩:=h;rfl
 · obtain⟨v,d,hd,sl,ps,rfl,td,nd',q⟩:=h;obtain⟨rfl,hm,hshp,hfew⟩:=nd';obtain⟨a,xs,rfl,ha,hx⟩:=td.tup_of;obtain⟨aS,kvs,gS,hS,hkv⟩:=C.slots;obtain⟨r,hr1,hr2⟩:=hkv hd sl hm;have nd:=uA.nd;have tl:=oo hm;have hfl:=Paired.length hshp;obtain⟨x0,xr,rfl,hx0,hxr⟩:∃ x0 xr,xs=x0::xr∧TD K H x0 (.str hd)∧TDs K H xr ps:=by
    cases hx with
    | cons p q=>exact⟨_,_,rfl,p,q⟩
   obtain rfl:=hx0.str_of;have hxl:=hxr.length;have hz0:(1000000:Nat)<sizeLine:=by decide
   refine⟨_,(pD (pL (i:=1) nd rfl (Or.inl rfl) (aa pB))
 (pD (bS PassesOwn.never rfl (kz rfl T.zip (pA (kC (cN (v:=.ref aS) rfl gS rfl) (ab ae (pv 0) pF (fun _ _=>rfl)) (fun _ _=>rfl)) (pA (bj mm (pv 0) (bf pF) bD) pB))) (d9 rfl (aK (ar (i:=2) nd rfl (Or.inl rfl)) (aK (ar (i:=3) nd rfl (Or.inl rfl)) cF)))
 (pG (aw (pM aA (pv 2) pC (pN _)) (pG (mG (i:=1) nd rfl (Or.inl rfl) (aa (pA (pv 3) pB)) (kN))) (pG (aw (pM aA (pv 2) pC (pN _)) (pG (mG (i:=1) nd rfl (Or.inl rfl) (cy T.tuple (pA (pv 3) pB)) (kN))) aj)))))
 (pG (af (pv 1))))),?_⟩
   dsimp only[bE,xM,xL];refine⟨i7,fun c hc=>?_⟩;have k1:=smu (o:=HO.tup []) hc;have dc:TD K (upd H c (.tup [])) (.ref c) (.tuple []):=.tup (SqT.of pE) .nil;generalize upd H c (.tup [])=H1 at k1 dc ⊢;refine⟨_,rfl,a,_,0,.str hd,rfl,rfl,k1.seqT ha,pH (j:=0) rfl,aS,kvs,.inr hd,.ref r,rfl,hS,rfl,hr1,_,rfl,_,rfl,a,_,rfl,k1.seqT ha,?_,fun p2 hp2=>?_⟩
   · unfold HT.sIx;simp
   · rw[show (some (1:Int))=some (((1:Nat):Nat):Int) from rfl,bV];have k2:=smu (o:=HO.tup ((V.str hd::xr).drop 1)) hp2;have hp2':(upd H1 p2 (.tup ((V.str hd::xr).drop 1))) p2=some (.tup xr):=pE;generalize upd H1 p2 (.tup ((V.str hd::xr).drop 1))=H2 at k2 hp2' ⊢;refine⟨r,p2,_,_,rfl,hr2 _,SqT.of hp2',?_⟩;show az _ _ _ _ _ _;refine az.zipTN (xs:=sl.map V.str) (ys:=xr) (by rw[lMp];exact xO) (fun i σ Hi=>ai H2 Hi∧∃ b x2 x3,σ=[some (.ref a),some (.ref b),x2,x3]∧TD K Hi (.ref b) (.tuple (bm (sl.take i) (ps.take i))))
      ⟨ai.refl _,c,_,_,rfl,dc.same k2⟩ ?_ ?_ ?_
     · rintro i σ Hi _ ⟨s2,_⟩;exact⟨hr2 _,SqT.of (s2 _ _ hp2')⟩
     · rintro i x y σ Hi t N_ B_ hN_ hxi hyi ⟨s2,b,x2,x3,rfl,db⟩ ht;rw[gEM] at hxi;obtain⟨slot,hsi,rfl⟩:=oMS.mp hxi;obtain⟨d,hdi,htd⟩:=hxr.get hyi;obtain⟨s0,hs0,hsh⟩:=oE hshp hdi;rw[hsi] at hs0;cases hs0;have k3:=smu (o:=HO.tup [V.str slot,y]) ht;have dy:=htd.same (k1.trans (k2.trans (s2.trans k3)));have db3:=db.same k3;have st:=jC hsi hdi;have hle:=ng (sl:=sl) (ps:=ps) (i+1);refine⟨t,_,rfl,SqT.of pE,rfl,_,_,rfl,_,_,rfl,rfl,?_⟩;have s3:=s2.trans k3;generalize upd Hi t (.tup [V.str slot,y])=H3 at k3 dy db3 s3 ⊢;refine⟨_,rfl,rfl,_,rfl,?_⟩;by_cases h1:slot="one"
       · subst h1;refine pJ (by simp) ?_;refine⟨_,rfl,_,rfl,jd,fun u hu=>?_⟩;have k4:=smu (o:=HO.tup [y]) hu;rw[st] at hle;refine dG (db3.same k4) (ys:=[d]) (.tup (SqT.of pE) (.cons (dy.same k4) .nil)) (by simp[gB] at hle ⊢;lia) fun p H' s' dp=>?_;exact hN_ _ _ ⟨s3.trans (k4.trans s'),p,_,_,rfl,by rw[st];exact dp⟩
       · refine pI (by simpa using h1) ?_;refine⟨_,rfl,rfl,_,rfl,?_⟩;by_cases h2:slot="many"
         · subst h2;obtain⟨l,rfl⟩:=hsh.1 rfl;refine pJ (by simp) ?_;obtain⟨ay,xy,rfl,hay,hxy⟩:=dy.tup_of;refine⟨_,rfl,_,rfl,ay,xy,rfl,.inr ⟨hay,?_⟩⟩;rw[st] at hle;refine dG db3 (ys:=l) dy (by rw[lAp] at hle;show _+l.length≤_;have e:(gB "many" (PyData.tuple l))=l:=rfl;rw[e] at hle;exact xN) fun p H' s' dp=>?_;exact hN_ _ _ ⟨s3.trans s',p,_,_,rfl,by rw[st];exact dp⟩
         · refine pI (by simpa using h2) ?_;have e:gB slot d=[]:=by unfold gB;rw[if_neg h1,if_neg h2]
           exact hN_ _ _ ⟨s3,b,_,_,rfl,by rw[st,e,List.append_nil];exact db3⟩
     · rintro σ Hi ⟨s2,b,x2,x3,rfl,db⟩;rw[lMp,List.take_length,hfl,List.take_length] at db;exact⟨_,rfl,q _ _ (k1.trans (k2.trans s2)) db⟩
end
end K20
namespace L2
open PySem
theorem TDs.at {K:Fg} {H:Hp} {xs:List V} {ds:PDs} (h:TDs K H xs ds) {i:Nat} {d:PyData} (hd:ds[i]?=some d):∃ x,xs[i]?=some x∧TD K H x d:=by
 have hi:i<ds.length:=(gES.mp hd).1;have hx:xs[i]?=some (xs[i]'(by rw[h.length];exact hi)):=gEE _;obtain⟨d',h1,h2⟩:=h.get hx;rw[hd] at h1;cases h1;exact⟨_,hx,h2⟩
theorem SqL.same {K:Fg} {H H':Hp} {a:Addr} {xs:List V} (s:ai H H') (h:SqL K H a xs):SqL K H' a xs:=s.seq h
end L2
namespace L2
theorem ac {a b:TS} {d:St→Hp→Prop} {r:VK} {k c:St→Hp→Prop} {σ:St} {H:Hp} (h:∀ N:St→Hp→Prop,(∀ σ' H',b ⟨d,r,k,c⟩ σ' H'→N σ' H')→a ⟨N,r,k,c⟩ σ H):rJ a b ⟨d,r,k,c⟩ σ H:=h _ fun _ _ z=>z
theorem az.byN {J:It} {xs:List V} {Ok:Hp→Prop} (Y:dZ J xs Ok) {g:TG} {tb:TS} {d:St→Hp→Prop} {r:VK} {k c:St→Hp→Prop} {σ:St} {H:Hp} (Pv:Nat→St→Hp→Prop) (h0:Pv 0 σ H) (hl:∀ i σ H,i≤xs.length→Pv i σ H→Ok H)
 (hs:∀ i x σ H (N B:St→Hp→Prop),(∀ σ' H',Pv (i+1) σ' H'→N σ' H')→(∀ σ' H',d σ' H'→B σ' H')→xs[i]?=some x→Pv i σ H→g x σ H fun σ2 H2=>tb ⟨N,r,B,N⟩ σ2 H2) (hd:∀ σ H,Pv xs.length σ H→d σ H):az J g tb ⟨d,r,k,c⟩ σ H :=
 az.by Y Pv h0 hl (fun i x σ H h1 h2=>hs i x σ H _ _ (fun _ _ z=>z) (fun _ _ z=>z) h1 h2) hd
end L2
namespace P10
open PySem L2
end P10
namespace L2
open PySem PySem.Spec PyProof.Rows
section
variable {X:Cx}
end
end L2
namespace L2
open PySem PySem.Spec PyProof.Rows PySem.SeqAt
section
variable {X:Cx} {pins:AOs} {σ:St} {H:Hp} {s:Shared}
end
end L2
namespace K20
open PySem L2 P10
def gJ (H:Hp) (b:Addr) (k:Int):Prop:=∃ n c:Int,H b=some (.lst [.int n,.int c,.int k])∧0≤k
def Mo (H:Hp) (f:Addr) (H':Hp):Prop:=∀ b,b≠f→H' b=H b
theorem Mo.put {H H':Hp} {f:Addr} {o:HO} (m:Mo H f H'):Mo H f (upd H' f o):=fun b hb=>by rw[a0 hb];exact m b hb
theorem lr (x m:Int) (h:0<m):0≤x % m∧x % m<m:=⟨Int.emod_nonneg x (by omega),Int.emod_lt_of_pos x h⟩
theorem tG {x y z:V}:atI [x,y,z] 0=some x:=pH (j:=0) rfl
theorem xS {x y z:V}:atI [x,y,z] 1=some y:=pH (j:=1) rfl
theorem tE {x y z:V}:atI [x,y,z] 2=some z:=pH (j:=2) rfl
section
variable {P:Program} {w:World} {K:Fg} {mg:SOV} {base:Heap}
abbrev sBx:Stmt:=top 44
def uw (K:Fg):Sp:=fun vs H Q _=>∃ (a:Addr) (ns:List Int) (k:Int),vs=[.ref a,.int k]∧SqL K H a (ns.map V.int)∧ns.length≤63∧0≤k∧k≤1000∧∀ b H',ai H H'→H b=none→gJ H' b 0→Q (.ref b) H'
theorem uB:bF ["_law_script","_law_k","_law_cell"] ["_law_script","_law_k"] (ak sBx):=fsM
theorem vM (D:Def K mg "_law_box" sBx) (T:Blt mg) (hint:mg "int"=none):Fn P w K mg base "_law_box" 1 ["_law_script","_law_k"] (uw K):=by
 refine D.fn uB (fun vs H Q E h=>?_) (fun _ _ _ _ _ _ us hl=>by obtain⟨a,b,rfl⟩:=dW hl;rfl) (fun f' cdv A outer s' H vs Q E hr h=>?_)
 · obtain⟨a,ns,k,rfl,_⟩:=h;rfl
 · obtain⟨a,ns,k,rfl,hS,hlen,k0,k1,q⟩:=h;have nd:=uB.nd;obtain⟨t2,h2,r2⟩:∃ t,PSs (eP CX0 P w K mg base ["_law_script","_law_k","_law_cell"] "_law_box" (ak sBx) f' cdv A outer s' H E).nox ((b9 sBx).drop 2) t ∧
    ∀ (c:Int) (x0 x1:Option V),t {nx:=fun _ H'=>Q .non H',rt:=Q} [x0,x1,some (.int c)] H:=by
    refine⟨_,(pG (af (aU (pA (au cP (pv 2) (k8 hint (pA (fI qy (pv 2) (au sw pF pF) (pN _)) pB))) (pA (pv 2) (pA pF pB)))))),fun c x0 x1=>?_⟩;refine⟨_,rfl,_,rfl,_,_,rfl,rfl,⟨by decide,by decide,by decide⟩,_,_,rfl,rfl,.inr ⟨_,rfl,_,_,rfl,rfl,.inr ?_,_,rfl,fN,fun b hb=>?_⟩⟩
    · split <;> exact⟨by decide,by decide⟩
    · exact q b _ (smu hb) hb ⟨_,c,pE,Int.le_refl 0⟩
   refine⟨_,(pD (pL (i:=2) nd rfl (Or.inl rfl) (au cP pF (pv 1)))
 (pD (aw (pM qx (bX T.len (pA (pv 0) pB)) pF (pN _)) (pG (pL (i:=2) nd rfl (Or.inl rfl) (au cz (ab aE (pv 0) (au cQ (pv 1) (bX T.len (pA (pv 0) pB))) (fun _ _=>rfl)) (au cP pF (au fK (pv 1) (bX T.len (pA (pv 0) pB))))))) aj) h2)),?_⟩
   dsimp only[bE];refine⟨_,rfl,_,_,rfl,rfl,.inl ⟨by decide,by decide⟩,?_⟩;refine⟨_,rfl,a,_,rfl,.inl hS,_,_,rfl,rfl,_,rfl,?_⟩;rw[lMp];by_cases hp:0<ns.length
   · refine pJ (by simpa using hp) ?_;have hb:=lr k (ns.length:Int) (by omega);obtain⟨i,hi⟩:=Int.eq_ofNat_of_zero_le hb.1;have hi':i<ns.length:=by omega
     refine⟨_,rfl,_,rfl,_,rfl,a,_,rfl,.inl hS,_,_,rfl,rfl,by rw[lMp];omega,a,_,_,V.int ns[i],rfl,rfl,hS,by rw[lMp,hi];exact pH (by simp[hi']),_,rfl,_,rfl,a,_,rfl,.inl hS,_,_,rfl,rfl,⟨by rw[lMp];omega,by rw[lMp];omega⟩,_,_,rfl,rfl,.inl ⟨by decide,by decide⟩,_,_,rfl,rfl,?_⟩;exact r2 _ _ _
   · exact pI (by simpa using hp) (r2 _ _ _)
abbrev sTk:Stmt:=top 45
def oz:Sp:=fun vs H Q _=>∃ (b:Addr) (k many:Int),vs=[.ref b,.int many]∧gJ H b k∧k≤1000000∧0<many∧many≤1000000∧∀ r H',0≤r→r<many→Mo H b H'→gJ H' b (k+1)→Q (.int r) H'
theorem uz:bF ["_law_box_here","_law_many","_law_found","_law_mixed"] ["_law_box_here","_law_many"] (ak sTk):=fsM
theorem uY (D:Def K mg "_law_take" sTk):Fn P w K mg base "_law_take" 1 ["_law_box_here","_law_many"] oz:=by
 refine D.fn uz (fun vs H Q E h=>?_) (fun _ _ _ _ _ _ us hl=>by obtain⟨a,b,rfl⟩:=dW hl;rfl) (fun f' cdv A outer s' H vs Q E hr h=>?_)
 · obtain⟨b,k,many,rfl,_⟩:=h;rfl
 · obtain⟨b,k,many,rfl,⟨n,c,hb,k0⟩,k1,hm,hm2,q⟩:=h;have nd:=uz.nd;refine⟨_,(pD (fW (au cz (ab aE (pv 0) pF (fun _ _=>rfl)) pF) (mK (pv 0) pF iI))
 (pD (aw (pM qx (ab aE (pv 0) pF (fun _ _=>rfl)) pF (pN _)) (pD (pL (i:=2) nd rfl (Or.inl rfl) (au cQ (ab aE (pv 0) pF (fun _ _=>rfl)) (pv 1)))
 (pD (fW (au fK (ab aE (pv 0) pF (fun _ _=>rfl)) (pv 1)) (mK (pv 0) pF iI))
 (pG (af (pv 2))))) aj)
 (pD (pL (i:=3) nd rfl (Or.inl rfl) (au cQ (au cP (au cz (au cQ (ab aE (pv 0) pF (fun _ _=>rfl)) pF) (au cP pF (ab aE (pv 0) pF (fun _ _=>rfl)))) pF) pF))
 (pD (pL (i:=3) nd rfl (Or.inl rfl) (au cQ (au cP (au cz (au fK (pv 3) pF) (au cP pF (ab aE (pv 0) pF (fun _ _=>rfl)))) pF) pF))
 (pG (af (au cQ (au fK (pv 3) pF) (pv 1)))))))),?_⟩
   dsimp only[bE];refine⟨_,rfl,b,_,_,_,rfl,rfl,SqL.of hb,tE,_,_,rfl,rfl,_,rfl,b,_,_,2,rfl,rfl,hb,rfl,?_⟩;have e1:(upd H b (.lst ([V.int n,V.int c,V.int k].set 2 (V.int (k+1))))) b=some (.lst [V.int n,V.int c,V.int (k+1)]):=pE;have m1:Mo H b (upd H b (.lst ([V.int n,V.int c,V.int k].set 2 (V.int (k+1))))):=Mo.put fun _ _=>rfl;generalize upd H b (.lst ([V.int n,V.int c,V.int k].set 2 (V.int (k+1))))=H1 at e1 m1 ⊢;refine⟨_,rfl,b,_,_,_,rfl,rfl,SqL.of e1,tG,_,_,rfl,rfl,_,rfl,?_⟩;refine xw (fun _=>?_) (fun _=>?_)
   · refine⟨_,rfl,b,_,_,_,rfl,rfl,SqL.of e1,tG,_,rfl,_,_,rfl,rfl,hm,?_⟩;refine⟨_,rfl,b,_,_,_,rfl,rfl,SqL.of e1,tG,_,rfl,_,_,rfl,rfl,⟨hm,by omega⟩,_,rfl,b,_,_,0,rfl,rfl,e1,rfl,?_⟩;exact⟨_,rfl,q _ _ (lr _ _ hm).1 (lr _ _ hm).2 m1.put ⟨_,c,pE,by omega⟩⟩
   · have hc:=lr c 2147483647 (by decide);refine⟨_,rfl,b,_,_,_,rfl,rfl,SqL.of e1,xS,_,_,rfl,rfl,show (0:Int)<2147483647 by decide,_,rfl,b,_,_,_,rfl,rfl,SqL.of e1,tE,_,_,rfl,rfl,.inl ⟨by decide,by decide⟩,_,_,rfl,rfl,_,_,rfl,rfl,.inr ⟨by decide,by decide⟩,_,_,rfl,rfl,show (0:Int)<2147483629 by decide,?_⟩;refine⟨_,rfl,_,_,rfl,rfl,⟨by decide,by decide⟩,_,rfl,b,_,_,_,rfl,rfl,SqL.of e1,tE,_,_,rfl,rfl,.inl ⟨by decide,by decide⟩,_,_,rfl,rfl,_,_,rfl,rfl,.inr ⟨by decide,by decide⟩,_,_,rfl,rfl,show (0:Int)<2147483587 by decide,?_⟩;refine⟨_,rfl,_,_,rfl,rfl,⟨by decide,by decide⟩,_,rfl,_,_,rfl,rfl,hm,?_⟩;exact q _ _ (lr _ _ hm).1 (lr _ _ hm).2 m1 ⟨n,c,e1,by omega⟩
end
end K20
namespace P10
open PySem L2
def c7 (z:Str) (ws:List Str):Bool:=ws.any fun y=>y==z
def w1:List Str:=["number","name","fault"]
def w2:List Str:=["let","var","each"]
def w3:List Str:=["op","new","call"]
def w7:List Str:=["set","fun"]
theorem qA {h:Str} {sl:List Str} (m:(h,sl)∈tbl) (e:c7 h w1=true):sl=(["number"]:List Str)∨sl=(["meant"]:List Str)∨sl=(["word"]:List Str):=by
 have:∀ p∈tbl,c7 p.1 w1=true→p.2=(["number"]:List Str)∨p.2=(["meant"]:List Str)∨p.2=(["word"]:List Str):=by decide +kernel
 exact this _ m e
theorem wm {h:Str} {sl:List Str} (m:(h,sl)∈tbl) (e:c7 h w2=true):sl=(["bound","one","one"]:List Str):=by
 have:∀ p∈tbl,c7 p.1 w2=true→p.2=(["bound","one","one"]:List Str):=by decide +kernel
 exact this _ m e
theorem tH {sl:List Str} (m:(("apply":Str),sl)∈tbl):sl=(["one","many"]:List Str):=by
 have:∀ p∈tbl,p.1="apply"→p.2=(["one","many"]:List Str):=by decide +kernel
 exact this _ m rfl
theorem bH (z:Str) (ws:List Str):inV (V.str z) (ws.map V.str)=c7 z ws:=by
 unfold inV c7;rw[List.any_map];rfl
theorem bw (ws:List Str):(ws.map V.str).all eN=true:=by
 rw[List.all_map,List.all_eq_true];intro x _;rfl
end P10
namespace K20
open PySem L2 P10
theorem fJ {s:Str} {ps:PDs} (h:Paired Shp [s] ps):∃ p,ps=[p]∧Shp s p:=by
 cases h with
 | cons a t=>cases t;exact⟨_,rfl,a⟩
theorem cO {s s2:Str} {ps:PDs} (h:Paired Shp [s,s2] ps):∃ p p2,ps=[p,p2]∧Shp s p∧Shp s2 p2:=by
 cases h with
 | cons a t=>obtain⟨p2,rfl,h2⟩:=fJ t;exact⟨_,_,rfl,a,h2⟩
theorem ii {s s2 s3:Str} {ps:PDs} (h:Paired Shp [s,s2,s3] ps):∃ p p2 p3,ps=[p,p2,p3]∧Shp s p∧Shp s2 p2∧Shp s3 p3:=by
 cases h with
 | cons a t=>obtain⟨p2,p3,rfl,h2,h3⟩:=cO t;exact⟨_,_,_,rfl,a,h2,h3⟩
section
variable {K:Fg} {H:Hp}
theorem jh {xr:List V} {p:PyData} (h:TDs K H xr [p]):∃ x,xr=[x]∧TD K H x p:=by
 cases h with
 | cons a t=>cases t;exact⟨_,rfl,a⟩
theorem em {xr:List V} {p p2:PyData} (h:TDs K H xr [p,p2]):∃ x x2,xr=[x,x2]∧TD K H x p∧TD K H x2 p2:=by
 cases h with
 | cons a t=>obtain⟨x2,rfl,h2⟩:=jh t;exact⟨_,_,rfl,a,h2⟩
theorem dN {xr:List V} {p p2 p3:PyData} (h:TDs K H xr [p,p2,p3]):∃ x x2 x3,xr=[x,x2,x3]∧TD K H x p∧TD K H x2 p2∧TD K H x3 p3:=by
 cases h with
 | cons a t=>obtain⟨x2,x3,rfl,h2,h3⟩:=em t;exact⟨_,_,_,rfl,a,h2,h3⟩
end
section
variable {P:Program} {w:World} {K:Fg} {mg:SOV} {base:Heap}
end
end K20
namespace L2
open PySem PySem.Spec PyProof.Rows
section
variable {X:Cx} {x:Str} {p pos:Pos} {e:Expr} {es:List Expr} {t:TA} {i:Nat}
inductive VFn (X:Cx) (t:TA) (f:Addr) (σ:St) (H:Hp) (Q:VK):Prop
  | mk (fd:FuncData) (k:Nat) (ps:List Str) (sp:Sp) (h1:d0 X.prog X.w X.K X.mg X.base CX0 k f fd ps sp) (h2:PySem.W.keepIn X.K (.ref f)=true) (h3:cG X.K fd ps []) (h4:bG k X.A) (q:t σ H fun vs H1=>sp (vs++[]) H1 Q E0):VFn X t f σ H Q
def wS (X:Cx) (i:Nat) (t:TA):TE:=fun σ H Q=>∃ f,σ[i]?=some (some (.ref f))∧VFn X t f σ H Q
theorem sn (hv:PE X (.Name x p) (cu i)) (ha:PA X (e::es) t)
 (he:starEach (e::es) X.env=(false,eval e X.env)::starEach es X.env:=by rfl) (hpl:(backTo pos (starEach es X.env)).any (·.1)=false:=by rfl):PE X (.Call (.Name x p) (e::es) [] pos) (wS X i t):=by
 intro pins s σ H Q I h;obtain⟨f,hf,fd,k,ps,sp,F,hk,hb,hr,q⟩:=h;refine wpAny_Call_Name_kw (thn (hv pins s σ H (fun v H1=>v=.ref f∧H1=H) I ⟨_,hf,rfl,rfl⟩) fun u s1 z=>?_);obtain⟨v,H1,I1,rv,e1,e2⟩:=z;subst e1 e2;obtain rfl:u=Value.ref f:=rv;refine PySem.W.callWith_K (h₀:=X.base) I1.ok.mod.kin hk (thn (ha pos pins s1 σ H1 _ I1 q) fun us s2 z2=>?_) he hpl;obtain⟨vs,H2,I2,r,q2⟩:=z2;exact⟨I2.kIn,ic F hr hb .nil iL I2 r q2⟩
theorem Fn.at {P:Program} {w:World} {K:Fg} {mg:SOV} {base:Heap} {x:Str} {k:Nat} {ps:List Str} {sp:Sp} {f:Addr} (F:Fn P w K mg base x k ps sp) (h:mg x=some (.ref f)):∃ fd,d0 P w K mg base CX0 k f fd ps sp∧PySem.W.keepIn K (.ref f)=true∧cG K fd ps []:=by
 obtain⟨f',fd,G,hm,hk,hb⟩:=F.ex;rw[h] at hm;cases hm;exact⟨fd,G,hk,hb⟩
end
inductive TyU (K:Fg) (H:Hp):V→Value→Prop
  | int (i:Int):TyU K H (.int i) (.type "int")
  | bl (b:Bool):TyU K H (.bl b) (.type "bool")
  | str (x:Str):TyU K H (.str x) (.type "str")
  | tup {a:Addr} {ys:List V} (h:SqT K H a ys):TyU K H (.ref a) (.type "tuple")
  | ins {a C dx:Addr} {fs:List (Str×V)} (e:H a=some (.ins C dx fs)) (cl:Cls K C) (ha:PySem.W.findIn K (.ref C) "__class__"=some (some (.builtin "object.__class__")))
      (hn:PySem.W.specialIn K (.builtin "object.__class__") "__get__"=some (some (.builtin "getset_descriptor.__get__"))) (htk:PySem.W.takesIn K (.builtin "object.__class__")=some true)
      (hm:PySem.W.mroIn K C (.type "object")=some true):TyU K H (.ref a) (.ref C)
inductive ClV:V→Value→Prop
  | ty (T:String):ClV (.ty T) (.type T)
  | own (C:Addr):ClV (.ref C) (.ref C)
inductive tO (K:Fg) (xs:List V) (H:Hp) (Q:VK):Prop
  | one (x c:V) (t cv:Value) (b:Bool) (h1:xs=[x,c]) (h2:ClV c cv) (h3:TyU K H x t) (h4:PySem.W.kitOne K t cv=some b) (q:Q (.bl b) H):tO K xs H Q
  | some (x:V) (tp:Addr) (t:Value) (Ts:List String) (b:Bool) (h1:xs=[x,.ref tp]) (h2:H tp=some (.tup (Ts.map V.ty))) (h3:TyU K H x t) (h4:PySem.W.kitAny K t (Ts.map Value.type)=some b) (q:Q (.bl b) H):tO K xs H Q
def uP (K:Fg):List V→Hp→VK→Prop:=fun xs H Q=>tO K xs H Q
theorem rE:∀ {Ts:List String} {its:List Value},ax (Ts.map V.ty) its→its=Ts.map Value.type:=by
 intro Ts
 induction Ts with
 | nil=>intro its h;cases h;rfl
 | cons T r ih =>
  intro its h;cases h with
  | cons r1 r2=>cases (show _=Value.type T from r1);rw[ih r2];rfl
theorem nN {X:Cx}:gu X (.builtin "isinstance") (uP X.K):=by
 intro pins s σ H xs us Q I rv h;cases h with
 | one x c t cv b h1 hc hx hk q =>
  subst h1;obtain⟨u,w',rfl,ru,rw'⟩:=rv.two;have ew:w'=cv:=by cases hc with
   | ty T=>exact rw'
   | own C=>exact rw'
  subst ew;have fin:∀ tk,EP X pins σ Q (.bool b) {s with toks:=tk}:=fun tk=>⟨.bl b,H,I.tok _,rfl,q⟩;cases hx with
  | int i=>exact dC I ru (.int i) hk fin
  | bl i=>exact dC I ru (.bl i) hk fin
  | str i=>exact dC I ru (.str i) hk fin
  | @tup a ys hs =>
   cases (show u=Value.ref a from ru);obtain⟨its,_,⟨o,h1,h2,_⟩,_⟩:=I.tuple hs;exact PySem.W.kia_one PySem.W.kitx_tuple I.kIn ⟨o,h1,h2⟩ hk (fun z=>nomatch z) fin
  | ins e cl ha hn htk hm=>exact dC I ru (.ins e cl ha hn htk hm) hk fin
 | some x tp t Ts b h1 ht hx hk q =>
  subst h1;obtain⟨u,w',rfl,ru,rw'⟩:=rv.two;cases (show w'=Value.ref tp from rw');have fin:∀ tk,EP X pins σ Q (.bool b) {s with toks:=tk}:=fun tk=>⟨.bl b,H,I.tok _,rfl,q⟩;obtain⟨_,its,rit,ob,hob,hoc,n,hodt⟩:=(show be X.prog X.w H s.heap tp (.tup (Ts.map V.ty)) from I.hok tp _ ht);have ei:its=Ts.map Value.type:=rE rit;subst ei;obtain⟨c,d,dt,sl⟩:=ob;cases hoc;cases hodt;cases hx with
  | int i=>obtain⟨t,q⟩:=(show ∃ t,u=Value.int i t from ru);cases q;exact PySem.W.kia_tup PySem.W.kitx_int I.kIn True.intro hob hk (fun z=>nomatch z) fin
  | bl y=>cases (show u=Value.bool y from ru);exact PySem.W.kia_tup PySem.W.kitx_bool I.kIn True.intro hob hk (fun z=>nomatch z) fin
  | str y=>obtain⟨t,q⟩:=(show ∃ t,u=Value.str y t from ru);cases q;exact PySem.W.kia_tup PySem.W.kitx_str I.kIn True.intro hob hk (fun z=>nomatch z) fin
  | @tup a ys hs =>
   cases (show u=Value.ref a from ru);obtain⟨its,_,⟨o,h1,h2,_⟩,_⟩:=I.tuple hs;exact PySem.W.kia_tup PySem.W.kitx_tuple I.kIn ⟨o,h1,h2⟩ hob hk (fun z=>nomatch z) fin
  | @ins a C dx fs ea cl ha hn htk hm =>
   cases (show u=Value.ref a from ru);obtain⟨mA,O,_⟩:=eK I.hok ea;obtain⟨od,J,_⟩:=O.look;exact PySem.W.kia_tup (PySem.W.kitx_own (cl.get _) cl.hd ha hn htk hm) I.kIn J hob hk (fun z=>nomatch z) fin
theorem gv {X:Cx} {p pos:Pos} {e:Expr} {es:List Expr} {t:TA} (hm:X.mg "isinstance"=none) (ha:PA X (e::es) t) (hg:Gl X "isinstance":=by rfl)
 (he:starEach (e::es) X.env=(false,eval e X.env)::starEach es X.env:=by rfl) (hpl:(backTo pos (starEach es X.env)).any (·.1)=false:=by rfl) :
 PE X (.Call (.Name "isinstance" p) (e::es) [] pos) (tCB (uP X.K) t):=iK nN hg hm fC ha (he:=he) (hpl:=hpl)
structure MFn (P:Program) (w:World) (K:Fg) (mg:SOV) (base:Heap) (C:Addr) (m:Str) (k:Nat) (ps:List Str) (sp:Sp):Prop where
  ex:∃ (f:Addr) (fd:FuncData),d0 P w K mg base CX0 k f fd ps sp∧o0 K C m f∧cG K fd ps []
def eT (K:Fg) (C:Addr) (m q:Str) (st:Stmt):Prop:=∃ (f:Addr) (fd:FuncData),Fun K m q st f fd∧o0 K C m f
structure IFn (P:Program) (w:World) (K:Fg) (mg:SOV) (base:Heap) (C:Addr) (k:Nat) (ps:List Str) (sp:Sp):Prop where
  ex:∃ (f:Addr) (fd:FuncData),d0 P w K mg base CX0 k f fd ps sp∧Mk K C f∧cG K fd ps []
def j9 (K:Fg) (C:Addr) (q:Str) (st:Stmt):Prop:=∃ (f:Addr) (fd:FuncData),Fun K "__init__" q st f fd∧Mk K C f
section
variable {P:Program} {w:World} {K:Fg} {mg:SOV} {base:Heap} {C:Addr}
theorem eT.fn {m q:Str} {st:Stmt} {N ps:List Str} {k:Nat} {sp:Sp} (D:eT K C m q st) (S:bF N ps (ak st)) (len:∀ vs H Q E,sp vs H Q E→vs.length=ps.length)
 (hb:∀ (kV doc pm:Value) (an:Option Addr) (cdv ct:Value) (us:List Value),us.length=ps.length→bindArgs (PySem.W.fnOf m q (bK st) (b9 st) (ak st) .none kV doc pm an cdv ct) ⟨us,[]⟩=pure (ps.zip us))
 (hbody:∀ (f:Addr) (cdv:Value) (A:Around) (outer:List Env) (s:Shared) (H:Hp) (vs:List V) (Q:VK) (E:XK),bG k (A.deeper (envOfC q (ak st) s.heap.objs.size f cdv))→sp vs H Q E →
   ∃ t,PSs (eP CX0 P w K mg base N q (ak st) f cdv A outer s H E).nox (b9 st) t∧t {nx:=fun _ H'=>Q .non H',rt:=Q} (cr N vs) H):MFn P w K mg base C m (k+1) ps sp:=by
 obtain⟨f,fd,F,hm⟩:=D;exact⟨f,fd,F.ok S len (hbody f),hm,F.binds hb⟩
theorem j9.fn {q:Str} {st:Stmt} {N ps:List Str} {k:Nat} {sp:Sp} (D:j9 K C q st) (S:bF N ps (ak st)) (len:∀ vs H Q E,sp vs H Q E→vs.length=ps.length)
 (hb:∀ (kV doc pm:Value) (an:Option Addr) (cdv ct:Value) (us:List Value),us.length=ps.length→bindArgs (PySem.W.fnOf "__init__" q (bK st) (b9 st) (ak st) .none kV doc pm an cdv ct) ⟨us,[]⟩=pure (ps.zip us))
 (hbody:∀ (f:Addr) (cdv:Value) (A:Around) (outer:List Env) (s:Shared) (H:Hp) (vs:List V) (Q:VK) (E:XK),bG k (A.deeper (envOfC q (ak st) s.heap.objs.size f cdv))→sp vs H Q E →
   ∃ t,PSs (eP CX0 P w K mg base N q (ak st) f cdv A outer s H E).nox (b9 st) t∧t {nx:=fun _ H'=>Q .non H',rt:=Q} (cr N vs) H):IFn P w K mg base C (k+1) ps sp:=by
 obtain⟨f,fd,F,hm⟩:=D;exact⟨f,fd,F.ok S len (hbody f),hm,F.binds hb⟩
end
section
variable {X:Cx} {x m:Str} {p pos apos:Pos} {o e a:Expr} {es:List Expr} {ta:TE} {t:TA} {k:Nat} {ps:List Str} {sp:Sp} {C:Addr}
theorem aZ {pl:Sem Bool} (he:PE X o ta) (c:Cls X.K C) (M:MFn X.prog X.w X.K X.mg X.base C m k ps sp) (hr:bG k X.A) (ha:PA X (e::es) t)
 (hst:starEach (e::es) X.env=(false,eval e X.env)::starEach es X.env:=by rfl) (hpl:(backTo pos (starEach es X.env)).any (·.1)=false:=by rfl)
 (ht:eval (.Call (.Attribute o m apos) (e::es) [] pos) X.env=(do
   let ov ← eval o X.env
   standAt apos.atName
   let (f,first) ← holding [ov] (getMethod ov m pl)
   callWith pos f first (backTo pos (starEach (e::es) X.env)) (backToKw pos (keywordEach [] X.env))):=by rfl) :
 PE X (.Call (.Attribute o m apos) (e::es) [] pos) (kf C m sp [] E0 ta t):=by
 obtain⟨f,fd,G,hm,hb⟩:=M.ex;exact oO (pl:=pl) he c hm G hr hb .nil iL ha (hst:=hst) (hpl:=hpl) (ht:=ht)
theorem jq (M:IFn X.prog X.w X.K X.mg X.base C k ps sp) (hr:bG (k+1) X.A) (hg:Gl X x) (hm:X.mg x=some (.ref C)) (ha:PA X (e::es) t) (hdb:(x==("__debug__":Str))=false:=by decide)
 (he:starEach (e::es) X.env=(false,eval e X.env)::starEach es X.env:=by rfl) (hpl:(backTo pos (starEach es X.env)).any (·.1)=false:=by rfl):PE X (.Call (.Name x p) (e::es) [] pos) (qo C sp [] E0 t):=by
 obtain⟨f,fd,G,hk,hb⟩:=M.ex;exact oP hk G hr hg hm hb .nil iL ha (hdb:=hdb) (he:=he) (hpl:=hpl)
end
end L2
namespace K20
open PySem L2 P10
inductive Vl | int (i:Int) | tup (is:List Int) | made (r i:Int) | fn (ids:List Int)
inductive Lk | int (i:Int) | tup (is:List Int) | thing
def wth:Vl→Int
  | .int i=>i
  | _=>0
def lk:Vl→Lk
  | .int i=>.int i
  | .tup is=>.tup is
  | _=>.thing
def rwo:Vl→List Int
  | .tup is=>is
  | _=>[]
def num (i:Int):PyData:=.tuple [.str "number",.int i]
abbrev Nm:=List (Int×Vl)
structure Tsk where
  t:Str
  e:PyData
  n:Nm
  c:Nat
structure MS where
  W:List Tsk
  T:List Vl
  D:List Lk
  en:Option Str
  k:Int
structure Ks where
  cm:Addr
  cf:Addr
  cc:Addr
structure Ad where
  m:Addr
  dx:Addr
  wa:Addr
  ta:Addr
  da:Addr
  vf:V
def Ad.own (A:Ad) (a:Addr):Prop:=a=A.m∨a=A.wa∨a=A.ta∨a=A.da
section
variable (K:Fg) (c:Ks) (A:Ad) (H:Hp)
inductive VlV:V→Vl→Prop
  | int (i:Int):VlV (.int i) (.int i)
  | tup {a:Addr} {is:List Int} (h:SqT K H a (is.map V.int)):VlV (.ref a) (.tup is)
  | made {x dx l:Addr} {r i:Int} (h:H x=some (.ins c.cm dx [("record",.int r),("things",.ref l)])) (hl:H l=some (.lst [.int i])) (n1:¬ A.own x) (n2:¬ A.own l):VlV (.ref x) (.made r i)
  | fn {x dx t:Addr} {vb:V} {ids:List Int} (h:H x=some (.ins c.cf dx [("ids",.ref t),("body",vb),("names",.non)])) (ht:SqT K H t (ids.map V.int)) (hb:TD K H vb (num 5)) (n1:¬ A.own x):VlV (.ref x) (.fn ids)
inductive NmV:V→Nm→Prop
  | nil:NmV .non []
  | cons {a bx:Addr} {vn v:V} {n:Int} {x:Vl} {nm:Nm} (h:SqT K H a [.int n,.ref bx,vn]) (nb:¬ A.own bx) (hb:H bx=some (.lst [v])) (hv:VlV K c A H v x) (hn:NmV vn nm):NmV (.ref a) ((n,x)::nm)
inductive iz:V→Tsk→Prop
  | mk {a:Addr} {ve vn:V} {t:Tsk} (h:SqT K H a [.str t.t,ve,vn,.int ((t.c:Nat):Int)]) (he:TD K H ve t.e) (hn:NmV K c A H vn t.n):iz (.ref a) t
inductive LkV:V→Lk→Prop
  | int (i:Int):LkV (.int i) (.int i)
  | tup {a:Addr} {is:List Int} (h:SqT K H a (is.map V.int)):LkV (.ref a) (.tup is)
  | thing:LkV (.str "thing") .thing
inductive EnV:V→Option Str→Prop
  | non:EnV .non none
  | flt {a:Addr} {w:Str} (h:SqT K H a [.str "fault",.str w]):EnV (.ref a) (some w)
end
def mF (A:Ad) (k:Int) (ve:V):List (Str×V):=[("functions",A.vf),("ticks",.int k),("waiting",.ref A.wa),("told",.ref A.ta),("deeds",.ref A.da),("end",ve)]
structure xW (A:Ad):Prop where
  mw:A.m≠A.wa
  mt:A.m≠A.ta
  md:A.m≠A.da
  wt:A.wa≠A.ta
  wd:A.wa≠A.da
  td:A.ta≠A.da
structure MV (K:Fg) (c:Ks) (A:Ad) (H:Hp) (S:MS):Prop where
  d:xW A
  m:∃ ve,H A.m=some (.ins c.cc A.dx (mF A S.k ve))∧EnV K H ve S.en
  w:∃ ws,H A.wa=some (.lst ws)∧Paired (iz K c A H) ws S.W
  t:∃ ts,H A.ta=some (.lst ts)∧Paired (VlV K c A H) ts S.T
  s:∃ ds,H A.da=some (.lst ds)∧Paired (LkV K H) ds S.D
  zw:S.W.length≤200
  zt:S.T.length≤200
  zd:S.D.length≤200
structure Fr (A:Ad) (H H':Hp):Prop where
  kp:∀ a u,¬ A.own a→H a=some u→H' a=some u
  tk:Tk H H'
section
variable {K:Fg} {c:Ks} {A:Ad} {H H' H2:Hp}
theorem Fr.refl:Fr A H H:=⟨fun _ _ _ h=>h,fun _ _ h=>h⟩
theorem Fr.trans (f:Fr A H H') (g:Fr A H' H2):Fr A H H2:=⟨fun a u n h=>g.kp a u n (f.kp a u n h),fun a xs h=>g.tk a xs (f.tk a xs h)⟩
theorem Fr.of (s:ai H H'):Fr A H H':=⟨fun a u _ h=>s a u h,s.tk⟩
theorem VlV.fr {v:V} {x:Vl} (h:VlV K c A H v x) (f:Fr A H H'):VlV K c A H' v x:=by
 cases h with
 | int i=>exact .int i
 | tup h=>exact .tup (h.tk f.tk)
 | made h hl n1 n2=>exact .made (f.kp _ _ n1 h) (f.kp _ _ n2 hl) n1 n2
 | fn h ht hb n1=>exact .fn (f.kp _ _ n1 h) (ht.tk f.tk) (hb.tk f.tk) n1
theorem NmV.fr {v:V} {n:Nm} (h:NmV K c A H v n) (f:Fr A H H'):NmV K c A H' v n:=by
 induction h with
 | nil=>exact .nil
 | cons h nb hb hv _ ih=>exact .cons (h.tk f.tk) nb (f.kp _ _ nb hb) (hv.fr f) ih
theorem iz.fr {v:V} {t:Tsk} (h:iz K c A H v t) (f:Fr A H H'):iz K c A H' v t:=by
 cases h with
 | mk h he hn=>exact .mk (h.tk f.tk) (he.tk f.tk) (hn.fr f)
theorem LkV.fr {v:V} {t:Lk} (h:LkV K H v t) (f:Fr A H H'):LkV K H' v t:=by
 cases h with
 | int i=>exact .int i
 | tup h=>exact .tup (h.tk f.tk)
 | thing=>exact .thing
theorem EnV.fr {v:V} {t:Option Str} (h:EnV K H v t) (f:Fr A H H'):EnV K H' v t:=by
 cases h with
 | non=>exact .non
 | flt h=>exact .flt (h.tk f.tk)
theorem aq {α β:Type} {R S:α→β→Prop} {xs:List α} {ys:List β} (h:Paired R xs ys) (i:∀ a b,R a b→S a b):Paired S xs ys:=by
 induction h with
 | nil=>exact .nil
 | cons z _ ih=>exact .cons (i _ _ z) ih
theorem dQ {α β:Type} {R:α→β→Prop} {xs xs':List α} {ys ys':List β} (h:Paired R xs ys) (g:Paired R xs' ys'):Paired R (xs++xs') (ys++ys'):=by
 induction h with
 | nil=>exact g
 | cons z _ ih=>exact .cons z ih
theorem bc {α β:Type} {R:α→β→Prop} {xs:List α} {ys:List β} (h:Paired R xs ys):xs.length=ys.length:=by
 induction h with
 | nil=>rfl
 | cons z _ ih=>rw[List.length_cons,List.length_cons,ih]
theorem fq {α β:Type} {R:α→β→Prop} {xs:List α} {ys:List β} (h:Paired R xs ys):∀ n,Paired R (xs.drop n) (ys.drop n):=by
 induction h with
 | nil=>intro n;cases n <;> exact .nil
 | cons z r ih =>
  intro n;cases n with
  | zero=>exact .cons z r
  | succ n=>exact ih n
theorem iN {α β:Type} {R:α→β→Prop} {xs:List α} {ys:List β} (h:Paired R xs ys):∀ n,Paired R (xs.take n) (ys.take n):=by
 induction h with
 | nil=>intro n;cases n <;> exact .nil
 | cons z r ih =>
  intro n;cases n with
  | zero=>exact .nil
  | succ n=>exact .cons z (ih n)
theorem aO {α β:Type} {R:α→β→Prop} {xs:List α} {ys:List β} (h:Paired R xs ys):∀ {i:Nat} {y:β},ys[i]?=some y→∃ x,xs[i]?=some x∧R x y:=by
 induction h with
 | nil=>intro i y e;cases e
 | cons z r ih =>
  intro i y e;cases i with
  | zero=>cases e;exact⟨_,rfl,z⟩
  | succ i=>exact ih e
theorem MV.notup {S:MS} (h:MV K c A H S) {a:Addr} {xs:List V} (o:A.own a):¬ (H a=some (.tup xs)∨∃ o,H a=some (.frz o (.tup xs))):=by
 obtain⟨ve,h1,_⟩:=h.m;obtain⟨ws,h2,_⟩:=h.w;obtain⟨ts,h3,_⟩:=h.t;obtain⟨ds,h4,_⟩:=h.s
 rcases o with rfl | rfl | rfl | rfl <;> rintro (z | ⟨_,z⟩)
 · rw[h1] at z;cases z
 · rw[h1] at z;cases z
 · rw[h2] at z;cases z
 · rw[h2] at z;cases z
 · rw[h3] at z;cases z
 · rw[h3] at z;cases z
 · rw[h4] at z;cases z
 · rw[h4] at z;cases z
theorem MV.upd_fr {S:MS} {a:Addr} {o:HO} (h:MV K c A H S) (ha:A.own a):Fr A H (upd H a o) :=
 ⟨fun b u n e=>by
   have nb:b≠a:=fun z=>n (by rw[z];exact ha);rw[a0 nb];exact e,fun b xs z=>by
   have n:b≠a:=fun e=>h.notup (show A.own b by rw[e];exact ha) z
   rcases z with z | ⟨o',z⟩
   · exact .inl (by rw[a0 n];exact z)
   · exact .inr ⟨o',by rw[a0 n];exact z⟩⟩
theorem MV.same {S:MS} (h:MV K c A H S) (s:ai H H'):MV K c A H' S:=by
 obtain⟨ve,h1,e1⟩:=h.m;obtain⟨ws,h2,e2⟩:=h.w;obtain⟨ts,h3,e3⟩:=h.t;obtain⟨ds,h4,e4⟩:=h.s;have f:Fr A H H':=.of s;exact⟨h.d,⟨ve,s _ _ h1,e1.fr f⟩,⟨ws,s _ _ h2,aq e2 fun _ _ z=>z.fr f⟩,⟨ts,s _ _ h3,aq e3 fun _ _ z=>z.fr f⟩,⟨ds,s _ _ h4,aq e4 fun _ _ z=>z.fr f⟩,h.zw,h.zt,h.zd⟩
theorem MV.putW {S:MS} {ws:List V} {W:List Tsk} (h:MV K c A H S) (p:Paired (iz K c A H) ws W) (z:W.length≤200):MV K c A (upd H A.wa (.lst ws)) {S with W:=W}:=by
 obtain⟨ve,h1,e1⟩:=h.m;obtain⟨ts,h3,e3⟩:=h.t;obtain⟨ds,h4,e4⟩:=h.s;have f:Fr A H (upd H A.wa (.lst ws)):=h.upd_fr (.inr (.inl rfl));exact⟨h.d,⟨ve,by rw[a0 h.d.mw];exact h1,e1.fr f⟩,⟨ws,pE,aq p fun _ _ z=>z.fr f⟩,⟨ts,by rw[a0 h.d.wt.symm];exact h3,aq e3 fun _ _ z=>z.fr f⟩,⟨ds,by rw[a0 h.d.wd.symm];exact h4,aq e4 fun _ _ z=>z.fr f⟩,z,h.zt,h.zd⟩
theorem MV.putT {S:MS} {ts:List V} {T:List Vl} (h:MV K c A H S) (p:Paired (VlV K c A H) ts T) (z:T.length≤200):MV K c A (upd H A.ta (.lst ts)) {S with T:=T}:=by
 obtain⟨ve,h1,e1⟩:=h.m;obtain⟨ws,h2,e2⟩:=h.w;obtain⟨ds,h4,e4⟩:=h.s;have f:Fr A H (upd H A.ta (.lst ts)):=h.upd_fr (.inr (.inr (.inl rfl)));exact⟨h.d,⟨ve,by rw[a0 h.d.mt];exact h1,e1.fr f⟩,⟨ws,by rw[a0 h.d.wt];exact h2,aq e2 fun _ _ z=>z.fr f⟩,⟨ts,pE,aq p fun _ _ z=>z.fr f⟩,⟨ds,by rw[a0 h.d.td.symm];exact h4,aq e4 fun _ _ z=>z.fr f⟩,h.zw,z,h.zd⟩
theorem MV.putD {S:MS} {ds:List V} {D:List Lk} (h:MV K c A H S) (p:Paired (LkV K H) ds D) (z:D.length≤200):MV K c A (upd H A.da (.lst ds)) {S with D:=D}:=by
 obtain⟨ve,h1,e1⟩:=h.m;obtain⟨ws,h2,e2⟩:=h.w;obtain⟨ts,h3,e3⟩:=h.t;have f:Fr A H (upd H A.da (.lst ds)):=h.upd_fr (.inr (.inr (.inr rfl)));exact⟨h.d,⟨ve,by rw[a0 h.d.md];exact h1,e1.fr f⟩,⟨ws,by rw[a0 h.d.wd];exact h2,aq e2 fun _ _ z=>z.fr f⟩,⟨ts,by rw[a0 h.d.td];exact h3,aq e3 fun _ _ z=>z.fr f⟩,⟨ds,pE,aq p fun _ _ z=>z.fr f⟩,h.zw,h.zt,z⟩
theorem MV.putM {S:MS} {k:Int} {ve:V} {en:Option Str} (h:MV K c A H S) (p:EnV K H ve en):MV K c A (upd H A.m (.ins c.cc A.dx (mF A k ve))) {S with k:=k,en:=en}:=by
 obtain⟨ws,h2,e2⟩:=h.w;obtain⟨ts,h3,e3⟩:=h.t;obtain⟨ds,h4,e4⟩:=h.s;have f:Fr A H (upd H A.m (.ins c.cc A.dx (mF A k ve))):=h.upd_fr (.inl rfl);exact⟨h.d,⟨ve,pE,p.fr f⟩,⟨ws,by rw[a0 h.d.mw.symm];exact h2,aq e2 fun _ _ z=>z.fr f⟩,⟨ts,by rw[a0 h.d.mt.symm];exact h3,aq e3 fun _ _ z=>z.fr f⟩,⟨ds,by rw[a0 h.d.md.symm];exact h4,aq e4 fun _ _ z=>z.fr f⟩,h.zw,h.zt,h.zd⟩
theorem MV.new {S:MS} (h:MV K c A H S) {p:Addr} (hp:H p=none):¬ A.own p:=fun o=>by
 obtain⟨ve,h1,_⟩:=h.m;obtain⟨ws,h2,_⟩:=h.w;obtain⟨ts,h3,_⟩:=h.t;obtain⟨ds,h4,_⟩:=h.s
 rcases o with rfl | rfl | rfl | rfl
 · rw[h1] at hp;cases hp
 · rw[h2] at hp;cases hp
 · rw[h3] at hp;cases hp
 · rw[h4] at hp;cases hp
end
def isI:Vl→Bool
  | .int _=>true
  | _=>false
def isT:Vl→Bool
  | .tup _=>true
  | _=>false
def isM:Vl→Bool
  | .made _ _=>true
  | _=>false
def isF:Vl→Bool
  | .fn _=>true
  | _=>false
def tyC (c:Ks):Vl→Value
  | .int _=>.type "int"
  | .tup _=>.type "tuple"
  | .made _ _=>.ref c.cm
  | .fn _=>.ref c.cf
structure Own (K:Fg) (C:Addr):Prop where
  cl:Cls K C
  ha:PySem.W.findIn K (.ref C) "__class__"=some (some (.builtin "object.__class__"))
  hn:PySem.W.specialIn K (.builtin "object.__class__") "__get__"=some (some (.builtin "getset_descriptor.__get__"))
  htk:PySem.W.takesIn K (.builtin "object.__class__")=some true
  hm:PySem.W.mroIn K C (.type "object")=some true
structure KC (K:Fg) (mg:SOV) (c:Ks):Prop where
  om:Own K c.cm
  of:Own K c.cf
  oc:Cls K c.cc
  kI:∀ x,PySem.W.kitOne K (tyC c x) (.type "int")=some (isI x)
  kT:∀ x,PySem.W.kitOne K (tyC c x) (.type "tuple")=some (isT x)
  kA:∀ x,PySem.W.kitAny K (tyC c x) [.type "int",.type "tuple"]=some (isI x||isT x)
  kM:∀ x,PySem.W.kitOne K (tyC c x) (.ref c.cm)=some (isM x)
  kF:∀ x,PySem.W.kitOne K (tyC c x) (.ref c.cf)=some (isF x)
  n1:aM K c.cm "record"
  n2:aM K c.cm "things"
  n3:aM K c.cf "ids"
  n4:aM K c.cf "body"
  n5:aM K c.cf "names"
  n6:aM K c.cc "functions"
  n7:aM K c.cc "ticks"
  n8:aM K c.cc "waiting"
  n9:aM K c.cc "told"
  n10:aM K c.cc "deeds"
  n11:aM K c.cc "end"
  gM:mg "Made"=some (.ref c.cm)
  gF:mg "Fun"=some (.ref c.cf)
  gC:mg "Machine"=some (.ref c.cc)
  bI:mg "int"=none
  gH:∃ t,mg "HALF"=some (.int 32768 t)
  gW:∃ t,mg "WHOLE"=some (.int 65536 t)
section
variable {P:Program} {w:World} {K:Fg} {mg:SOV} {base:Heap} {c:Ks}
theorem KC.ty {A:Ad} {H:Hp} {v:V} {x:Vl} (k:KC K mg c) (h:VlV K c A H v x):TyU K H v (tyC c x):=by
 cases h with
 | int i=>exact .int i
 | tup h=>exact .tup h
 | made h _ _ _=>exact .ins h k.om.cl k.om.ha k.om.hn k.om.htk k.om.hm
 | fn h _ _ _=>exact .ins h k.of.cl k.of.ha k.of.hn k.of.htk k.of.hm
abbrev sWo:Stmt:=top 11
inductive qF (K:Fg) (c:Ks) (vs:List V) (H:Hp) (Q:VK):Prop
  | mk (A:Ad) (v:V) (x:Vl) (h0:vs=[v]) (h1:VlV K c A H v x) (q:Q (.int (wth x)) H):qF K c vs H Q
def oy (K:Fg) (c:Ks):Sp:=fun vs H Q _=>qF K c vs H Q
theorem uV (D:Def K mg "worth" sWo) (T:Blt mg) (k:KC K mg c):Fn P w K mg base "worth" 1 ["value"] (oy K c):=by
 refine D.fn (N:=["value"]) fsM (fun vs H Q E h=>?_) (fun _ _ _ _ _ _ us hl=>by obtain⟨a,rfl⟩:=cY hl;rfl) (fun f' cdv A outer s' H vs Q E hr h=>?_)
 · obtain⟨A,v,x,rfl,_⟩:=h;rfl
 · obtain⟨A,v,x,rfl,hv,q⟩:=h;refine⟨_,(pG (af (aN (cH (gv T.isinstance (pA (pv 0) (pA (dB (v:=.ty "int") rfl k.bI fg rfl) pB)))) (pv 0) pF))),?_⟩;refine⟨_,rfl,.one v _ _ _ _ rfl (.ty "int") (k.ty hv) (k.kI x) ⟨_,rfl,?_⟩⟩;cases hv with
   | int i=>exact aW ⟨_,rfl,q⟩
   | tup h=>exact aP q
   | made h _ _ _=>exact aP q
   | fn h _ _ _=>exact aP q
abbrev sLk:Stmt:=top 12
inductive qV (K:Fg) (c:Ks) (vs:List V) (H:Hp) (Q:VK):Prop
  | mk (A:Ad) (v:V) (x:Vl) (h0:vs=[v]) (h1:VlV K c A H v x) (q:∀ v' H',ai H H'→LkV K H' v' (lk x)→Q v' H'):qV K c vs H Q
def rP (K:Fg) (c:Ks):Sp:=fun vs H Q _=>qV K c vs H Q
theorem vx (D:Def K mg "look" sLk) (T:Blt mg) (k:KC K mg c):Fn P w K mg base "look" 1 ["value"] (rP K c):=by
 refine D.fn (N:=["value"]) fsM (fun vs H Q E h=>?_) (fun _ _ _ _ _ _ us hl=>by obtain⟨a,rfl⟩:=cY hl;rfl) (fun f' cdv A outer s' H vs Q E hr h=>?_)
 · obtain⟨A,v,x,rfl,_⟩:=h;rfl
 · obtain⟨A,v,x,rfl,hv,q⟩:=h;refine⟨_,(pG (af (aN (cH (gv T.isinstance (pA (pv 0) (pA (aa (pA (dB (v:=.ty "int") rfl k.bI fg rfl) (pA (dB (v:=.ty "tuple") rfl T.tuple (u:=.type "tuple") (by decide +kernel) rfl) pB))) pB)))) (pv 0) pC))),?_⟩;refine⟨_,rfl,bA,fun p hp=>?_⟩;have s:=smu (o:=HO.tup [.ty "int",.ty "tuple"]) hp;refine .some v p _ ["int","tuple"] _ rfl pE (k.ty (hv.fr (.of s))) (k.kA x) ⟨_,rfl,?_⟩;cases hv with
   | int i=>exact aW ⟨_,rfl,q _ _ s (.int i)⟩
   | tup h=>exact aW ⟨_,rfl,q _ _ s (.tup (h.tk s.tk))⟩
   | made h _ _ _=>exact aP (q _ _ s .thing)
   | fn h _ _ _=>exact aP (q _ _ s .thing)
abbrev sRo:Stmt:=top 13
inductive qN (K:Fg) (c:Ks) (vs:List V) (H:Hp) (Q:VK):Prop
  | mk (A:Ad) (v:V) (x:Vl) (h0:vs=[v]) (h1:VlV K c A H v x) (q:∀ a H',ai H H'→SqT K H' a ((rwo x).map V.int)→Q (.ref a) H'):qN K c vs H Q
def oA (K:Fg) (c:Ks):Sp:=fun vs H Q _=>qN K c vs H Q
theorem vg (D:Def K mg "row_of" sRo) (T:Blt mg) (k:KC K mg c):Fn P w K mg base "row_of" 1 ["value"] (oA K c):=by
 refine D.fn (N:=["value"]) fsM (fun vs H Q E h=>?_) (fun _ _ _ _ _ _ us hl=>by obtain⟨a,rfl⟩:=cY hl;rfl) (fun f' cdv A outer s' H vs Q E hr h=>?_)
 · obtain⟨A,v,x,rfl,_⟩:=h;rfl
 · obtain⟨A,v,x,rfl,hv,q⟩:=h;refine⟨_,(pG (af (aN (cH (gv T.isinstance (pA (pv 0) (pA (dB (v:=.ty "tuple") rfl T.tuple (u:=.type "tuple") (by decide +kernel) rfl) pB)))) (pv 0) (aa pB)))),?_⟩;refine⟨_,rfl,.one v _ _ _ _ rfl (.ty "tuple") (k.ty hv) (k.kT x) ⟨_,rfl,?_⟩⟩;have none_:rwo x=[]→lc gx [some v] H Q:=fun e=>⟨i7,fun p hp=>q p _ (smu hp) (by rw[e];exact SqT.of pE)⟩;cases hv with
   | int i=>exact aP (none_ rfl)
   | tup h=>exact aW ⟨_,rfl,q _ _ (ai.refl _) h⟩
   | made h _ _ _=>exact aP (none_ rfl)
   | fn h _ _ _=>exact aP (none_ rfl)
def tkn (i:Int):Int:=(i+32768) % 65536-32768
abbrev sTi:Stmt:=top 14
def lf:Sp:=fun vs H Q _=>∃ i,vs=[.int i]∧Q (.int (tkn i)) H
theorem uZ (D:Def K mg "taken_in" sTi) (k:KC K mg c):Fn P w K mg base "taken_in" 1 ["number"] lf:=by
 refine D.fn (N:=["number"]) fsM (fun vs H Q E h=>?_) (fun _ _ _ _ _ _ us hl=>by obtain⟨a,rfl⟩:=cY hl;rfl) (fun f' cdv A outer s' H vs Q E hr h=>?_)
 · obtain⟨i,rfl,_⟩:=h;rfl
 · obtain⟨i,rfl,q⟩:=h;obtain⟨t1,g1⟩:=k.gH;obtain⟨t2,g2⟩:=k.gW;refine⟨_,(pG (af (au c6 (au cQ (au cz (pv 0) (cN (v:=.int 32768) rfl g1 ⟨t1,rfl⟩)) (cN (v:=.int 65536) rfl g2 ⟨t2,rfl⟩)) (cN (v:=.int 32768) rfl g1 ⟨t1,rfl⟩)))),?_⟩;exact⟨_,rfl,_,_,rfl,rfl,_,_,rfl,rfl,by decide,_,_,rfl,rfl,q⟩
def opI (w:Str) (a b:Int):Int:=if w="add" then tkn (a+b) else if w="sub" then tkn (a-b) else if w="mul" then tkn (a*b) else if w="div" then tkn (a.fdiv b) else if w="less" then (if a<b then 1 else 0) else if a=b then 1 else 0
def Sml (a:Int):Prop:=-70000≤a∧a≤70000
abbrev sOw:Stmt:=top 15
inductive qO (vs:List V) (H:Hp) (Q:VK):Prop
  | mk (s:Str) (a b:Int) (h0:vs=[.str s,.int a,.int b]) (h1:Sml a) (h2:Sml b) (h3:s="div"→b≠0) (q:Q (.int (opI s a b)) H):qO vs H Q
def uf:Sp:=fun vs H Q _=>qO vs H Q
theorem vh (D:Def K mg "of_worths" sOw) (cU:Fn P w K mg base "taken_in" 1 ["number"] lf):Fn P w K mg base "of_worths" 2 ["word","one","other"] uf:=by
 refine D.fn (N:=["word","one","other"]) fsM (fun vs H Q E h=>?_) (fun _ _ _ _ _ _ us hl=>by obtain⟨a,b,d,rfl⟩:=dU hl;rfl) (fun f' cdv A outer s' H vs Q E hr h=>?_)
 · obtain⟨s,a,b,rfl,_⟩:=h;rfl
 · obtain⟨s,a,b,rfl,ha,hb,hd,q⟩:=h;refine⟨_,(pD (aw (pM aA (pv 0) pC (pN _)) (pG (af (ao cU (hr.mono (by decide)) rfl (pA (au cz (pv 1) (pv 2)) pB)))) aj)
 (pD (aw (pM aA (pv 0) pC (pN _)) (pG (af (ao cU (hr.mono (by decide)) rfl (pA (au c6 (pv 1) (pv 2)) pB)))) aj)
 (pD (aw (pM aA (pv 0) pC (pN _)) (pG (af (ao cU (hr.mono (by decide)) rfl (pA (au cP (pv 1) (pv 2)) pB)))) aj)
 (pD (aw (pM aA (pv 0) pC (pN _)) (pG (af (ao cU (hr.mono (by decide)) rfl (pA (au iQ (pv 1) (pv 2)) pB)))) aj)
 (pD (aw (pM aA (pv 0) pC (pN _)) (pG (af (aN (pM iP (pv 1) (pv 2) (pN _)) pF pF))) aj)
 (pG (af (aN (pM aA (pv 1) (pv 2) (pN _)) pF pF)))))))),?_⟩
   unfold opI at q;unfold Sml at ha hb;refine⟨_,rfl,rfl,_,rfl,?_⟩;by_cases e1:s="add"
   · rw[if_pos e1] at q;exact pJ (by simp[e1]) ⟨_,rfl,_,rfl,_,_,rfl,rfl,_,rfl,q⟩
   rw[if_neg e1] at q;refine pI (by simpa using e1) ⟨_,rfl,rfl,_,rfl,?_⟩;by_cases e2:s="sub"
   · rw[if_pos e2] at q;exact pJ (by simp[e2]) ⟨_,rfl,_,rfl,_,_,rfl,rfl,_,rfl,q⟩
   rw[if_neg e2] at q;refine pI (by simpa using e2) ⟨_,rfl,rfl,_,rfl,?_⟩;by_cases e3:s="mul"
   · rw[if_pos e3] at q;exact pJ (by simp[e3]) ⟨_,rfl,_,rfl,_,_,rfl,rfl,.inl ⟨by omega,by omega⟩,_,rfl,q⟩
   rw[if_neg e3] at q;refine pI (by simpa using e3) ⟨_,rfl,rfl,_,rfl,?_⟩;by_cases e4:s="div"
   · rw[if_pos e4] at q;exact pJ (by simp[e4]) ⟨_,rfl,_,rfl,_,_,rfl,rfl,⟨hd e4,by omega⟩,_,rfl,q⟩
   rw[if_neg e4] at q;refine pI (by simpa using e4) ⟨_,rfl,rfl,_,rfl,?_⟩;by_cases e5:s="less"
   · rw[if_pos e5] at q;refine pJ (by simp[e5]) ⟨_,rfl,_,rfl,_,_,rfl,rfl,_,rfl,?_⟩;by_cases e:a<b
     · rw[if_pos e] at q;exact pJ (by simpa using e) q
     · rw[if_neg e] at q;exact pI (by simpa using e) q
   rw[if_neg e5] at q;refine pI (by simpa using e5) ⟨_,rfl,_,rfl,rfl,_,rfl,?_⟩;by_cases e:a=b
   · rw[if_pos e] at q;exact pJ (by simp[e]) q
   · rw[if_neg e] at q;exact pI (by simpa using e) q
inductive OpA:Str→List Vl→Prop
  | row (xs:List Vl):OpA "row" xs
  | one {s:Str} (x:Vl) (h:s∈(["size","not"]:List Str)):OpA s [x]
  | two {s:Str} (x y:Vl) (h:s∈(["add","sub","mul","div","less","same","at"]:List Str)) (h1:Sml (wth x)) (h2:Sml (wth y)):OpA s [x,y]
def x0 (xs:List Vl):Vl:=xs[0]?.getD (.int 0)
def x1 (xs:List Vl):Vl:=xs[1]?.getD (.int 0)
def inR (xs:List Vl):Prop:=0≤wth (x1 xs)∧wth (x1 xs)<(((rwo (x0 xs)).length:Nat):Int)
instance (xs:List Vl):Decidable (inR xs):=inferInstanceAs (Decidable (_∧_))
def opF (s:Str) (xs:List Vl):Option Str:=if s="div"∧wth (x1 xs)=0 then some "nought" else if s="at"∧¬ inR xs then some "range" else none
def opV (s:Str) (xs:List Vl):Vl:=if s="row" then .tup (xs.map wth) else if s="size" then .int (((rwo (x0 xs)).length:Nat):Int) else if s="not" then .int (if wth (x0 xs)=0 then 1 else 0) else if s="at" then .int ((rwo (x0 xs))[(wth (x1 xs)).toNat]?.getD 0) else .int (opI s (wth (x0 xs)) (wth (x1 xs)))
def fO:Option Str→V
  | none=>.non
  | some s=>.str s
abbrev sOf:Stmt:=top 16
inductive qR (K:Fg) (c:Ks) (vs:List V) (H:Hp) (Q:VK):Prop
  | mk (A:Ad) (s:Str) (l:Addr) (us:List V) (xs:List Vl) (h0:vs=[.str s,.ref l]) (h1:H l=some (.lst us)) (h2:Paired (VlV K c A H) us xs) (h3:OpA s xs) (q:∀ H',ai H H'→Q (fO (opF s xs)) H'):qR K c vs H Q
def ui (K:Fg) (c:Ks):Sp:=fun vs H Q _=>qR K c vs H Q
theorem op2 {s:Str} {xs:List Vl} (h:OpA s xs) (e:s="div"∨s="at"):∃ x y,xs=[x,y]∧Sml (wth x)∧Sml (wth y):=by
 cases h with
 | row=>rcases e with e | e <;> exact absurd e (by decide +kernel)
 | one x h =>
  rcases e with rfl | rfl <;> exact absurd h (by decide +kernel)
 | two x y h h1 h2=>exact⟨x,y,rfl,h1,h2⟩
theorem vo (D:Def K mg "op_fault" sOf) (T:Blt mg) (cb:Fn P w K mg base "worth" 1 ["value"] (oy K c)) (dq:Fn P w K mg base "row_of" 1 ["value"] (oA K c)):Fn P w K mg base "op_fault" 2 ["word","things"] (ui K c):=by
 refine D.fn (N:=["word","things"]) fsM (fun vs H Q E h=>?_) (fun _ _ _ _ _ _ us hl=>by obtain⟨a,b,rfl⟩:=dW hl;rfl) (fun f' cdv A outer s' H vs Q E hr h=>?_)
 · obtain⟨A,s,l,us,xs,rfl,_⟩:=h;rfl
 · obtain⟨A,s,l,us,xs,rfl,hl,hu,ho,q⟩:=h;have hz0:(1000:Nat)<sizeLine:=by decide
   refine⟨_,(pD (aw (PW.pt (dP (pM aA (pv 0) pC (pN _)) (cM (pM aA (ao cb (hr.mono (by decide)) rfl (pA (ab aE (pv 1) pF (fun _ _=>rfl)) pB)) pF (pN _))))) (pG (af pC)) aj)
 (pD (aw (PW.pt (dP (pM aA (pv 0) pC (pN _)) (cM (eY (mD uS iP pF (ao cb (hr.mono (by decide)) rfl (pA (ab aE (pv 1) pF (fun _ _=>rfl)) pB)) (bX T.len (pA (ao dq (hr.mono (by decide)) rfl (pA (ab aE (pv 1) pF (fun _ _=>rfl)) pB)) pB))))))) (pG (af pC)) aj)
 (pG (af eZ)))),?_⟩
   dsimp only[bE];unfold opF at q;have last:(¬ (s="div"∧wth (x1 xs)=0))→¬ (s="at"∧¬ inR xs)→∀ H',ai H H'→Q .non H':=fun e1 e2 H' s'=>by
    have:=q H' s';rw[if_neg e1,if_neg e2] at this;exact this
   refine ac fun ik ee=>?_;have second:(¬ (s="div"∧wth (x1 xs)=0))→ik [some (.str s),some (.ref l)] H:=fun e1=>by
    refine ee _ _ (ac fun kJ gw=>?_);refine⟨_,rfl,rfl,_,rfl,?_⟩;by_cases e2:s="at"
    · refine pJ (by simp[e2]) ?_;obtain⟨x,y,rfl,sx,sy⟩:=op2 ho (.inr e2);obtain⟨v1,hv1,a1⟩:=aO hu (i:=0) rfl;obtain⟨v2,hv2,a2⟩:=aO hu (i:=1) rfl;refine⟨_,rfl,l,_,_,_,rfl,rfl,SqL.of hl,pH (j:=1) hv2,A,v2,y,rfl,a2,_,_,rfl,rfl,?_⟩;have bad:¬ inR [x,y]→∀ H',ai H H'→Q (.str "range") H':=fun z H' s'=>by
       have:=q H' s';rw[if_neg e1,if_pos ⟨e2,z⟩] at this;exact this
      refine⟨_,rfl,?_⟩;by_cases e:0≤wth y
      · refine pJ (by simpa using e) ?_;refine⟨_,rfl,l,_,_,_,rfl,rfl,SqL.of hl,pH (j:=0) hv1,A,v1,x,rfl,a1,fun ra H2 s2 hra=>⟨ra,_,rfl,.inr hra,_,_,rfl,rfl,_,rfl,?_⟩⟩;rw[lMp];by_cases e':wth y<(((rwo x).length:Nat):Int)
        · refine pI (by simpa using e') (gw _ _ (last e1 (fun z=>z.2 ⟨e,e'⟩) H2 s2))
        · refine pJ (by simpa using e') (bad (fun z=>e' z.2) H2 s2)
      · exact pI (by simpa using e) ⟨_,rfl,aW (bad (fun z=>e z.1) H (ai.refl _))⟩
    · exact pI (by simpa using e2) (aP (gw _ _ (last e1 (fun z=>e2 z.1) H (ai.refl _))))
   refine⟨_,rfl,rfl,_,rfl,?_⟩;by_cases e1:s="div"
   · refine pJ (by simp[e1]) ?_;obtain⟨x,y,rfl,sx,sy⟩:=op2 ho (.inl e1);obtain⟨v2,hv2,a2⟩:=aO hu (i:=1) rfl;refine⟨_,rfl,l,_,_,_,rfl,rfl,SqL.of hl,pH (j:=1) hv2,A,v2,y,rfl,a2,rfl,_,rfl,?_⟩;by_cases e:wth y=0
     · have:=q H (ai.refl _);rw[if_pos ⟨e1,e⟩] at this;exact pJ (by simpa using e) this
     · exact pI (by simpa using e) (second fun z=>e z.2)
   · exact pI (by simpa using e1) (aP (second fun z=>e1 z.1))
abbrev sOv:Stmt:=top 17
inductive qP (K:Fg) (c:Ks) (vs:List V) (H:Hp) (Q:VK):Prop
  | mk (A:Ad) (s:Str) (l:Addr) (us:List V) (xs:List Vl) (h0:vs=[.str s,.ref l]) (h1:H l=some (.lst us)) (h2:Paired (VlV K c A H) us xs) (h3:OpA s xs) (h4:opF s xs=none) (h5:xs.length≤8) (q:∀ v H',ai H H'→VlV K c A H' v (opV s xs)→Q v H'):qP K c vs H Q
def ug (K:Fg) (c:Ks):Sp:=fun vs H Q _=>qP K c vs H Q
theorem xt:(["thing"]:List Str).Nodup:=by decide +kernel
theorem vj (D:Def K mg "op_value" sOv) (T:Blt mg) (cb:Fn P w K mg base "worth" 1 ["value"] (oy K c)) (dq:Fn P w K mg base "row_of" 1 ["value"] (oA K c)) (ja:Fn P w K mg base "of_worths" 2 ["word","one","other"] uf):Fn P w K mg base "op_value" 3 ["word","things"] (ug K c):=by
 refine D.fn (N:=["word","things"]) fsM (fun vs H Q E h=>?_) (fun _ _ _ _ _ _ us hl=>by obtain⟨a,b,rfl⟩:=dW hl;rfl) (fun f' cdv A outer s' H vs Q E hr h=>?_)
 · obtain⟨A,s,l,us,xs,rfl,_⟩:=h;rfl
 · obtain⟨A,s,l,us,xs,rfl,hl,hu,ho,hf,h8,q⟩:=h;have hz0:(1000:Nat)<sizeLine:=by decide
   have ul:=bc hu;refine⟨_,(pD (aw (pM aA (pv 0) pC (pN _)) (pG (af (cy T.tuple (pA (eI (own:=["thing"]) (outs:=[]) rfl (bb.of (ak sOv) ["word","things"]) (eF (pv 1)) (fun _ _ _ _=>⟨(ar (i:=0) xt rfl (Or.inl rfl)),bU,(ao cb (hr.mono (by decide)) rfl (pA (pv 0) pB))⟩)) pB)))) aj)
 (pD (aw (pM aA (pv 0) pC (pN _)) (pG (af (bX T.len (pA (ao dq (hr.mono (by decide)) rfl (pA (ab aE (pv 1) pF (fun _ _=>rfl)) pB)) pB)))) aj)
 (pD (aw (pM aA (pv 0) pC (pN _)) (pG (af (aN (pM aA (ao cb (hr.mono (by decide)) rfl (pA (ab aE (pv 1) pF (fun _ _=>rfl)) pB)) pF (pN _)) pF pF))) aj)
 (pD (aw (pM aA (pv 0) pC (pN _)) (pG (af (ab ae (ab aE (pv 1) pF (fun _ _=>rfl)) (ao cb (hr.mono (by decide)) rfl (pA (ab aE (pv 1) pF (fun _ _=>rfl)) pB)) (fun _ _=>rfl)))) aj)
 (pG (af (ao ja (hr.mono (by decide)) rfl (pA (pv 0) (pA (ao cb (hr.mono (by decide)) rfl (pA (ab aE (pv 1) pF (fun _ _=>rfl)) pB)) (pA (ao cb (hr.mono (by decide)) rfl (pA (ab aE (pv 1) pF (fun _ _=>rfl)) pB)) pB)))))))))),?_⟩
   dsimp only[bE];unfold opV at q;refine⟨_,rfl,rfl,_,rfl,?_⟩;by_cases e1:s="row"
   · simp only[if_pos e1] at q;refine pJ (by simp[e1]) ?_;rw[fS,fT,aG,eC];refine⟨_,rfl,l,rfl,⟨_,SqL.of hl⟩,fun G hG=>?_⟩;have nl:G≠l:=Ne.symm (ah hl hG);have k0:=smu (o:=HO.lst []) hG;refine bW.by (ce (xs:=us)) (fun i σ Hi=>ai H Hi∧Hi G=some (.lst (((xs.take i).map wth).map V.int))∧∃ y,σ=[y]) ⟨k0,pE,_,rfl⟩ (fun _ _ _ _ z=>SqL.of (z.1 _ _ hl)) ?_ ?_
     · rintro i u σ Hi hu' ⟨si,hGi,y,rfl⟩;have hi:i<us.length:=(gES.mp hu').1;have hxi:xs[i]?=some (xs[i]'(by omega)):=gEE _;obtain⟨u2,hu2,vu⟩:=aO hu hxi;rw[hu'] at hu2;cases hu2;rw[cg,d7];refine aW ⟨_,rfl,A,u,_,rfl,vu.fr (.of si),_,hGi,?_,fun a v e=>?_,?_,_,rfl⟩
       · simp only[lMp,lTk];omega
       · rw[a0 (ah e hG)];exact si _ _ e
       · rw[pE,tAO,hxi,List.map_append,List.map_append];rfl
     · rintro σ Hi ⟨si,hGi,y,rfl⟩;rw[ul,List.take_length] at hGi;exact⟨G,_,rfl,.inl ⟨SqL.of hGi,fun F hF=>q _ _ (si.trans (smu hF)) (.tup (SqT.of pE))⟩⟩
   simp only[if_neg e1] at q;refine pI (by simpa using e1) ⟨_,rfl,rfl,_,rfl,?_⟩;obtain⟨x,r,rfl⟩:∃ x r,xs=x::r:=by
    cases ho with
    | row=>exact absurd rfl e1
    | one x=>exact⟨x,[],rfl⟩
    | two x y=>exact⟨x,[y],rfl⟩
   obtain⟨v1,hv1,a1⟩:=aO hu (i:=0) rfl;by_cases e2:s="size"
   · simp only[if_pos e2] at q;refine pJ (by simp[e2]) ⟨_,rfl,l,_,_,_,rfl,rfl,SqL.of hl,pH (j:=0) hv1,A,v1,x,rfl,a1,fun ra H2 s2 hra=>⟨ra,_,rfl,.inr hra,?_⟩⟩;rw[lMp];exact q _ _ s2 (.int _)
   simp only[if_neg e2] at q;refine pI (by simpa using e2) ⟨_,rfl,rfl,_,rfl,?_⟩;by_cases e3:s="not"
   · simp only[if_pos e3] at q;refine pJ (by simp[e3]) ⟨_,rfl,l,_,_,_,rfl,rfl,SqL.of hl,pH (j:=0) hv1,A,v1,x,rfl,a1,rfl,_,rfl,?_⟩;have q':=q _ H (ai.refl _) (.int _);by_cases e:wth x=0
     · rw[show x0 (x::r)=x from rfl,if_pos e] at q';exact pJ (by simpa using e) q'
     · rw[show x0 (x::r)=x from rfl,if_neg e] at q';exact pI (by simpa using e) q'
   simp only[if_neg e3] at q;refine pI (by simpa using e3) ⟨_,rfl,rfl,_,rfl,?_⟩;obtain⟨y,rfl,sx,sy⟩:∃ y,r=[y]∧Sml (wth x)∧Sml (wth y):=by
    cases ho with
    | row=>exact absurd rfl e1
    | one x h =>
     simp only[List.mem_cons,nMN,or_false] at h;exact h.elim (fun z=>absurd z e2) fun z=>absurd z e3
    | two x y _ h1 h2=>exact⟨y,rfl,h1,h2⟩
   obtain⟨v2,hv2,a2⟩:=aO hu (i:=1) rfl;by_cases e4:s="at"
   · simp only[if_pos e4] at q;have hin:inR [x,y]:=by
      unfold opF at hf;rw[if_neg (fun z=>by rw[e4] at z;exact absurd z.1 (by decide +kernel))] at hf;by_cases z:inR [x,y]
      · exact z
      · rw[if_pos ⟨e4,z⟩] at hf;cases hf
     obtain⟨i0,i1⟩:=hin;have i0':0≤wth y:=i0;have i1':wth y<(((rwo x).length:Nat):Int):=i1;refine pJ (by simp[e4]) ?_;cases a1 with
     | int i=>exact absurd i1' (by show ¬ wth y<0;omega)
     | made _ _ _ _=>exact absurd i1' (by show ¬ wth y<0;omega)
     | fn _ _ _ _=>exact absurd i1' (by show ¬ wth y<0;omega)
     | @tup a is hs =>
      have i2:wth y<((is.length:Nat):Int):=i1';obtain⟨j,ej⟩:=Int.eq_ofNat_of_zero_le i0';have hj:j<is.length:=by omega
      have ea:atI (is.map V.int) (wth y)=some (.int is[j]):=by rw[ej];exact pH (by rw[gEM,gEE hj];rfl)
      refine⟨_,rfl,l,_,_,_,rfl,rfl,SqL.of hl,pH (j:=0) hv1,_,rfl,l,_,_,_,rfl,rfl,SqL.of hl,pH (j:=1) hv2,A,v2,y,rfl,a2,a,_,_,_,rfl,rfl,hs,ea,?_⟩;refine q _ H (ai.refl _) ?_;rw[show (rwo (x0 [Vl.tup is,y]))=is from rfl,show wth (x1 [Vl.tup is,y])=wth y from rfl,ej];rw[show ((j:Nat):Int).toNat=j from Int.toNat_natCast _,gEE hj];exact .int _
   simp only[if_neg e4] at q;refine pI (by simpa using e4) ?_;refine⟨_,rfl,_,rfl,l,_,_,_,rfl,rfl,SqL.of hl,pH (j:=0) hv1,A,v1,x,rfl,a1,_,rfl,l,_,_,_,rfl,rfl,SqL.of hl,pH (j:=1) hv2,A,v2,y,rfl,a2,s,_,_,rfl,sx,sy,fun e=>?_,q _ H (ai.refl _) (.int _)⟩;intro z;unfold opF at hf;rw[if_pos ⟨e,z⟩] at hf;cases hf
end
end K20
namespace L2
open PySem PySem.Spec PyProof.Rows
section
variable {X:Cx} {e st:Expr} {te:TE} {tst:TO} {p2 pos:Pos}
theorem ax.reverse':∀ {xs:List V} {us:List Value},ax xs us→ax xs.reverse us.reverse
 := by
  intro xs us h
  induction h with
  | nil=>exact .nil
  | cons r t ih =>
   rw[List.reverse_cons,List.reverse_cons];exact ax.append ih (.cons r .nil)
end
end L2
namespace HT
open PySem PySem.Spec PyProof.Rows
theorem jS (n:Nat):Builtin.Slice.sliceAdjust none none (-1) (n:Int)=((n:Int)-1,-1):=rfl
theorem jo (n:Nat):Builtin.Slice.slicePlaces ((n:Int)-1) (-1) (-1)=n:=by
 unfold Builtin.Slice.slicePlaces;rw[if_neg (by decide)];by_cases h:(n:Int)-1>-1
 · rw[if_pos h,show (-(-1):Int)=1 from rfl,Int.ediv_one];omega
 · rw[if_neg h];omega
theorem mI (xs:Array Value):((List.range xs.size).filterMap fun (m:Nat)=>xs[(((xs.size:Int)-1)+(m:Int)*(-1)).toNat]?).toArray=xs.toList.reverse.toArray:=by
 have e:(List.range xs.size).filterMap (fun (m:Nat)=>xs[(((xs.size:Int)-1)+(m:Int)*(-1)).toNat]?)=((List.range xs.size).map fun k=>xs.size-1-k).filterMap (xs[·]?):=by
  rw[List.filterMap_map];have g:∀ l:List Nat,(∀ m∈l,m<xs.size)→l.filterMap (fun (m:Nat)=>xs[(((xs.size:Int)-1)+(m:Int)*(-1)).toNat]?)=l.filterMap ((xs[·]?)∘fun k=>xs.size-1-k):=by
   intro l
   induction l with
   | nil=>intro _;rfl
   | cons m l ih =>
    intro h;have hm:=h m mCS;have e1:xs[(((xs.size:Int)-1)+(m:Int)*(-1)).toNat]?=((xs[·]?)∘fun k=>xs.size-1-k) m:=by
     show _=xs[xs.size-1-m]?;congr 1;omega
    rw[List.filterMap_cons,List.filterMap_cons,e1,ih fun x hx=>h x (mCM _ hx)]
  exact g _ fun m hm=>List.mem_range.mp hm
 rw[e,PySem.W.krv_range,List.filterMap_reverse,PySem.W.krv_all]
section
variable {prog:Program} {w:World} {A:Around} {E:VSP} {s:Shared}
theorem eX {sl:Addr} {vk:Value} {n:Nat} {Q:Int×Int×Nat→Shared→Prop} (hs:s.heap.IsSliceOf sl .none .none vk) (pk:IsPart vk (some (-1)))
 (h:Q ((n:Int)-1,-1,n) s):wpAny (model prog w) A (Builtin.Slice.sliceApplied (.ref sl) (pure (n:Int))) Q E s:=by
 obtain⟨os,hos,hcs,hds⟩:=id hs;unfold Builtin.Slice.sliceApplied Builtin.Slice.sliceFields;refine wB (wB (wpAny_field hos hds (x:=.none) rfl (wB (wpAny_field hos hds (x:=.none) rfl (wB (wpAny_field hos hds (x:=vk) rfl (wP ?_)))))));refine wB (dO pk ?_);show wpAny _ _ (if ((-1:Int)==0)=true then _ else _) _ _ s;rw[if_neg (by decide)];refine wB (slicePart_none (wB (slicePart_none (wB (wP ?_)))));show wpAny _ _ (match Builtin.Slice.sliceAdjust none none (-1) (n:Int) with | (lo,hi)=>pure (lo,(-1:Int),Builtin.Slice.slicePlaces lo hi (-1))) _ _ s;rw[jS n];show wpAny _ _ (pure ((n:Int)-1,(-1:Int),Builtin.Slice.slicePlaces ((n:Int)-1) (-1) (-1))) _ _ s;rw[jo];exact wP h
theorem eL {t sl:Addr} {am:Array Value} {vk:Value} {Q:VSP} (ht:IsTup s.heap t am) (hs:s.heap.IsSliceOf sl .none .none vk) (pk:IsPart vk (some (-1)))
 (h:Q (.ref s.heap.objs.size) {s with heap:=s.heap.push {cls:=.type "tuple",data:=.seq am.toList.reverse.toArray}})
 (hsz:am.size≤sizeLine):wpAny (model prog w) A (getItem (.ref t) (.ref sl)) Q E s:=by
 have htake:sizeOk (.seq am.toList.reverse.toArray):=by
  show am.toList.reverse.toArray.size≤sizeLine;rw[List.size_toArray,List.length_reverse,Array.length_toList];exact hsz
 obtain⟨os,hos,hcs,hds⟩:=id hs;have hTs:s.TypeIs (.ref sl) "slice":=⟨os,hos,hcs⟩;unfold getItem
 try with_reducible refine wpAny_holding ?_
 first | refine wB (wP ?_) | skip
 refine wB (wpAny_sequenceKey ht.typeIs (by decide) ?_);refine wB (wpAny_callSpecial?_slot (name:=Str.ofString "__getitem__") ht.typeIs PyProof.Rows.slot_tuple_getitem
   (wpAny_call_entry PyProof.Rows.slot_tuple_getitem ht.typeIs entry_tuple_getitem ?_ (args_tuple_getitem _ _)))
 show wpAny _ _ (Builtin.Tuple.tupleItemsOf (.ref t)>>=_) _ _ s;refine wB (tupleItemsOf_ ht ?_);refine wB (wpAny_typeOf hTs ?_);rw[if_pos (by decide)];refine wB (eX hs pk ?_);have hno:¬ ((((am.size:Int)-1)==0&&(-1:Int)==1&&am.size==am.size)=true):=by
  rw[show ((-1:Int)==1)=false from rfl,Bool.and_false,Bool.false_and]
  decide
 show wpAny _ _ (if (((am.size:Int)-1)==0&&(-1:Int)==1&&am.size==am.size)=true then _ else _) _ _ s;rw[if_neg hno,mI]
 first
  | exact wB (m:=Builtin.Tuple.tupleExact _) (wpAny_newObj_type (wP ⟨_,rfl,wP h⟩) htake)
  | exact wB (m:=Builtin.Tuple.tupleExact _) (wpAny_newObj_type (wB (wP (wP ⟨_,rfl,wP h⟩))) htake)
  | exact wB (wB (m:=Builtin.Tuple.tupleExact _) (wpAny_newObj_type (wP (wP ⟨_,rfl,wP h⟩)) htake))
  | exact wB (wB (m:=Builtin.Tuple.tupleExact _) (wpAny_newObj_type (wP ⟨_,rfl,wP h⟩) htake))
end
end HT
namespace L2
open PySem PySem.Spec PyProof.Rows
section
variable {X:Cx} {e st:Expr} {te:TE} {tst:TO} {p2 pos:Pos}
inductive rp (K:Fg) (x:V) (o:Option Int) (H:Hp) (Q:VK):Prop
  | mk (a:Addr) (xs:List V) (h1:o=some (-1)) (h2:x=.ref a) (h3:SqT K H a xs) (q:∀ p,H p=none→Q (.ref p) (upd H p (.tup xs.reverse))):rp K x o H Q
def tX (K:Fg) (te:TE) (tst:TO):TE:=fun σ H Q=>te σ H fun x H1=>tst σ H1 fun o H2=>rp K x o H2 Q
theorem kB (he:PE X e te) (hst:PO X (some st) tst):PE X (.Subscript e (.Slice none none (some st) p2) pos) (tX X.K te tst):=by
 intro pins s σ H Q I h;refine Subscript_ (thn (he pins s σ H _ I h) fun v s1 zz122=>?_);obtain⟨x,H1,I1,r1,q1⟩:=zz122;refine wpAny_Slice ?_;rw[evalPart_none];refine wP (wP (thn (hst pins s1 σ H1 _ I1 q1) ?_));rintro vk s3 ⟨o,H3,I3,pk,a,xs,rfl,rfl,hx,q⟩;cases r1;have I4:Inv X pins σ H3 {s3 with heap:=s3.heap.push {cls:=.type "slice",data:=.fields #[.none,.none,vk]}}:=I3.kept (t':=s3.toks) fun b ob q=>hpS _ q;obtain⟨its,r,ht,hz⟩:=I4.tuple hx;have hlen:=r.length;show wpAny (model X.prog X.w) X.A (subscriptTail e (.Slice none none (some st) p2) (.ref a) (.ref s3.heap.objs.size)) (EP X pins σ Q) X.xe {s3 with heap:=s3.heap.push {cls:=.type "slice",data:=.fields #[.none,.none,vk]}};refine tail_any (ops:=[.ref a,.ref s3.heap.objs.size]) ht.typeIs PyProof.Rows.slot_tuple_getitem.lookup ?_ (by with_unfolding_all rfl);refine HT.eL ht (Heap.IsSliceOf.new ..) pk ?_ (by rw[List.size_toArray] <;> omega);refine⟨.ref _,_,I4.laid (t':=s3.toks) (o:=.tup xs.reverse) (fun b ob q=>hpS _ q) (Nat.le_refl _) ?_,rfl,q _ (I4.hok.fresh (Nat.le_refl _))⟩;exact⟨by rw[List.length_reverse];exact hz,its.reverse,r.reverse',⟨_,Heap.get?_push_size _ rfl,rfl,0,rfl⟩⟩
end
end L2
namespace L2
open PySem PySem.Spec PyProof.Rows PySem.AutoSeq1
section
variable {X:Cx} {o e:Expr} {to:TE} {t:TA} {apos cpos:Pos}
theorem tN (ho:PE X o to) (hbase:attributeBase o "pop" X.env (eval o X.env)=eval o X.env:=by rfl) (hline:(apos.endLine==cpos.line)=true:=by rfl) :
 PE X (.Call (.Attribute o "pop" apos) [] [] cpos) (u7 X.K "list" uM to):=ss PySem.F.plainAttrs_list PySem.F.slot_list_pop PySem.F.type_list_pop sS ho hbase hline
end
end L2
namespace HT
open PySem PySem.Spec PyProof.Rows
theorem ly {α:Type} {g:Nat→Bool} {k n:Nat} (hg:∀ i,g i=(decide ((k:Int)≤(i:Int))&&decide ((i:Int)<(n:Int))&&(((i:Int)-(k:Int)) % 1==0))):∀ (xs:List α) (j:Nat),j+xs.length≤n→((xs.zipIdx j).filterMap fun p=>if g p.2=true then none else some p.1)=xs.take (k-j):=by
 intro xs
 induction xs with
 | nil=>intro j _;simp
 | cons x r ih =>
  intro j hj;rw[List.length_cons] at hj;rw[List.zipIdx_cons,List.filterMap_cons];have e:=hg j;rw[Int.emod_one] at e;by_cases h:k≤j
  · have e1:g j=true:=by rw[e,decide_eq_true (by omega),decide_eq_true (by omega)];rfl
    dsimp only;rw[if_pos e1,ih (j+1) (by omega)];rw[show k-j=0 by omega,show k-(j+1)=0 by omega];rfl
  · have e1:¬ g j=true:=by rw[e,decide_eq_false (by omega)];exact Bool.false_ne_true
    dsimp only;rw[if_neg e1,ih (j+1) (by omega)];rw[show k-j=(k-(j+1))+1 by omega];rfl
theorem lM (n k:Nat) (h:k≤n):sliceBounds (some (k:Int)) none none n=((k:Int),(n:Int),1):=by
 simp only[sliceBounds,Option.getD_none];have h1:¬ ((k:Int)<0):=by omega
 simp only[h1,if_false,show (1:Int)>0 by decide,if_true];congr 1;omega
section
variable {prog:Program} {w:World} {A:Around} {E:VSP} {s:Shared}
theorem ir {l sl:Addr} {its:List Value} {n k:Nat} {t:Tok} {Q:Unit→Shared→Prop} (ho:s.heap.get? l=some {cls:=.type "list",data:=.seq its.toArray n}) (hs:s.heap.IsSliceOf sl (.int (k:Int) t) .none .none) (hk:k≤its.length) (hz:its.length≤sizeLine)
 (h:∀ f:Array Value→Array Value,f its.toArray=(its.take k).toArray→Q () {s with heap:=s.heap.update l (Obj.mapSeq f),toks:=s.toks}):wpAny (model prog w) A (delItem (.ref l) (.ref sl)) Q E s:=by
 obtain⟨os,hos,hcs,hds⟩:=id hs;have hTs:s.TypeIs (.ref sl) "slice":=⟨os,hos,hcs⟩;have hTl:s.TypeIs (.ref l) "list":=⟨_,ho,rfl⟩;refine wpAny_delItem_slot hTl (by decide) F.slot_list_delitem (wpAny_call_entry F.slot_list_delitem hTl F.entry_list_delitem ?_ (F.args_list_delitem_2 _ _));show wpAny _ _ (Builtin.List.listSubscript? (.ref sl)>>=_) _ _ s;refine wB ?_;unfold Builtin.List.listSubscript?;refine wB (wpAny_specialOf hTs slice_no_index ?_);simp only[Option.isNone_none,if_true];refine wP ?_;show wpAny _ _ (typeOf (.ref sl)>>=_) _ _ s;refine wB (wpAny_typeOf hTs ?_);rw[if_neg (by decide)];rw[listSliceParts_eq];refine wB (wB (wpAny_field hos hds (x:=.none) rfl (wB (wpAny_listPart .none ?_))));have hstep:¬ ((rawPart none==rawInt 0)=true):=Bool.false_ne_true;rw[if_neg hstep];refine wB (wpAny_field hos hds (x:=.int (k:Int) t) rfl (wB (wpAny_listPart (.int _ t) ?_)));refine wB (wpAny_field hos hds (x:=.none) rfl (wB (wpAny_listPart .none (wP ?_))));refine wB (m:=Builtin.List.listItems (.ref l)) ?_;unfold Builtin.List.listItems;refine wB (wpAny_seqItems ho rfl (wP ?_));refine wB (wpAny_of_eq (sliceIndices_raw (some (k:Int)) none none its.toArray.size (by simp)) ?_);rw[lM _ _ (by rw[List.size_toArray];exact hk)];dsimp only;refine wB (wpAny_rule ?_);have key:∀ f:Array Value→Array Value,f its.toArray=(its.take k).toArray→wpAny (model prog w) A.in1 (Builtin.List.listUpdate (.ref l) f) (fun _ s'=>Q () s'∧True) E s:=fun f hf=>by
  show wpAny _ _ (updateSeq l f) _ _ s;refine wpAny_updateSeq ho rfl ⟨h f hf,trivial⟩ (hz:=by rw[List.size_toArray];exact hz) (_hz':=?_);rw[hf,List.size_toArray,lTk];omega
 refine wB (wpAny_mono (key _ ?_) (fun _ s1 z=>?_) fun _ _ e=>e)
 · refine congrArg List.toArray ((ly (k:=k) (n:=its.toArray.size) (fun i=>rfl) its 0 (by rw[List.size_toArray];omega)).trans ?_);rw[Nat.sub_zero]
 · refine wB (wpAny_letGo ?_);exact wP ⟨_,rfl,z.1⟩
end
end HT
namespace L2
open PySem PySem.Spec PyProof.Rows
section
variable {X:Cx} {o lo:Expr} {to:TE} {tl:TO} {tpos pos p2:Pos}
inductive rB (x:V) (o:Option Int) (H:Hp) (Q:Hp→Prop):Prop
  | mk (l:Addr) (xs:List V) (k:Nat) (h1:x=.ref l) (h2:o=some ((k:Nat):Int)) (h3:H l=some (.lst xs)) (h4:k≤xs.length) (q:Q (upd H l (.lst (xs.take k)))):rB x o H Q
def uC (to:TE) (tl:TO):TS:=fun D σ H=>to σ H fun x H1=>tl σ H1 fun o H2=>rB x o H2 (D.nx σ)
theorem oK (ho:PE X o to) (hl:PO X (some lo) tl):PS X (.Delete [.Subscript o (.Slice (some lo) none none p2) tpos] pos) (uC to tl):=by
 intro pins s σ H D I h;refine wpAny_Delete (wpAny_deleteEach_cons (wpAny_delete_Subscript (thn (ho pins s σ H _ I h) fun u s1 zz=>?_)));obtain⟨x,H1,I1,rx,q1⟩:=zz;refine wpAny_Slice (thn (hl pins s1 σ H1 _ I1 q1) fun vl s2 zz2=>?_);rw[evalPart_none];refine wP (wP ?_);obtain⟨o',H2,I2,pl,l,xs,k,rfl,rfl,hH,hk,q⟩:=zz2;cases rx;cases pl;have I4:Inv X pins σ H2 {s2 with heap:=s2.heap.push {cls:=.type "slice",data:=.fields #[.int (k:Int) ‹_›,.none,.none]}}:=I2.kept (t':=s2.toks) fun b ob q=>hpS _ q;obtain⟨z,its,n,r,hl',e⟩:=I4.lstM hH;have rl:=r.length;refine HT.ir e (Heap.IsSliceOf.new ..) (by omega) (by omega) fun f hf=>wpAny_deleteEach_nil ⟨σ,_,I4.lset (its':=its.take k) hH e hf (r.take k) ?_,q⟩;rw[lTk];omega
end
theorem oN {X:Cx} {m:Str} {pos apos:Pos} {o:Expr} {ta:TE} {k:Nat} {ps:List Str} {sp:Sp} {C:Addr} {pl:Sem Bool} (he:PE X o ta) (c:Cls X.K C) (M:MFn X.prog X.w X.K X.mg X.base C m k ps sp) (hr:bG k X.A)
 (ht:eval (.Call (.Attribute o m apos) [] [] pos) X.env=(do
   let ov ← eval o X.env
   standAt apos.atName
   let (f,first) ← holding [ov] (getMethod ov m pl)
   callWith pos f first (backTo pos (starEach [] X.env)) (backToKw pos (keywordEach [] X.env))):=by rfl) :
 PE X (.Call (.Attribute o m apos) [] [] pos) (kf C m sp [] E0 ta gx):=by
 obtain⟨f,fd,G,hm,hb⟩:=M.ex;exact mL (pl:=pl) he c hm G hr hb .nil iL (ht:=ht)
end L2
namespace K20
open PySem L2 P10
abbrev sM (j:Nat):Stmt:=aB (top 19) j
section
variable {P:Program} {w:World} {K:Fg} {mg:SOV} {base:Heap} {c:Ks}
inductive qT (c:Ks) (vs:List V) (H:Hp) (Q:VK):Prop
  | mk (x dx:Addr) (v u:V) (h0:vs=[.ref x,v,u]) (h1:H x=some (.ins c.cm dx [])) (q:∀ H',(∀ a u,a≠x→H a=some u→H' a=some u)→H' x=some (.ins c.cm dx [("record",v),("things",u)])→Q .non H'):qT c vs H Q
def uk (c:Ks):Sp:=fun vs H Q _=>qT c vs H Q
theorem vq (D:j9 K c.cm "Made.__init__" (aB (top 9) 0)) (k:KC K mg c):IFn P w K mg base c.cm 1 ["self","record","things"] (uk c):=by
 refine D.fn (N:=["self","record","things"]) fsM (fun vs H Q E h=>?_) (fun _ _ _ _ _ _ us hl=>by obtain⟨a,b,d,rfl⟩:=dU hl;rfl) (fun f' cdv A outer s' H vs Q E hr h=>?_)
 · obtain⟨x,dx,v,u,rfl,_⟩:=h;rfl
 · obtain⟨x,dx,v,u,rfl,hx,q⟩:=h;refine⟨_,(pD (bY (pv 0) (pv 1) rfl) (pG (bY (pv 0) (pv 2) rfl))),?_⟩;refine⟨_,rfl,_,rfl,x,c.cm,dx,[],rfl,hx,k.om.cl,k.n1,by decide,?_⟩;refine⟨_,rfl,_,rfl,x,c.cm,dx,_,rfl,pE,k.om.cl,k.n2,by show 1<1000;decide,?_⟩;exact q _ (fun a u ha e=>by rw[a0 ha,a0 ha];exact e) pE
inductive r9 (c:Ks) (vs:List V) (H:Hp) (Q:VK):Prop
  | mk (x dx:Addr) (v u z:V) (h0:vs=[.ref x,v,u,z]) (h1:H x=some (.ins c.cf dx [])) (q:∀ H',(∀ a u,a≠x→H a=some u→H' a=some u)→H' x=some (.ins c.cf dx [("ids",v),("body",u),("names",z)])→Q .non H'):r9 c vs H Q
def ut (c:Ks):Sp:=fun vs H Q _=>r9 c vs H Q
theorem vH (D:j9 K c.cf "Fun.__init__" (aB (top 10) 0)) (k:KC K mg c):IFn P w K mg base c.cf 1 ["self","ids","body","names"] (ut c):=by
 refine D.fn (N:=["self","ids","body","names"]) fsM (fun vs H Q E h=>?_) (fun _ _ _ _ _ _ us hl=>by obtain⟨a,b,d,e,rfl⟩:=eJ hl;rfl) (fun f' cdv A outer s' H vs Q E hr h=>?_)
 · obtain⟨x,dx,v,u,z,rfl,_⟩:=h;rfl
 · obtain⟨x,dx,v,u,z,rfl,hx,q⟩:=h;refine⟨_,(pD (bY (pv 0) (pv 1) rfl) (pD (bY (pv 0) (pv 2) rfl) (pG (bY (pv 0) (pv 3) rfl)))),?_⟩;refine⟨_,rfl,_,rfl,x,c.cf,dx,[],rfl,hx,k.of.cl,k.n3,by decide,?_⟩;refine⟨_,rfl,_,rfl,x,c.cf,dx,_,rfl,pE,k.of.cl,k.n4,by show 1<1000;decide,?_⟩;refine⟨_,rfl,_,rfl,x,c.cf,dx,_,rfl,pE,k.of.cl,k.n5,by show 2<1000;decide,?_⟩;exact q _ (fun a u ha e=>by rw[a0 ha,a0 ha,a0 ha];exact e) pE
inductive qE (K:Fg) (c:Ks) (vs:List V) (H:Hp) (Q:VK):Prop
  | mk (A:Ad) (S:MS) (t:Tsk) (ve vn:V) (h0:vs=[.ref A.m,.str t.t,ve,vn,.int ((t.c:Nat):Int)]) (h1:MV K c A H S) (h2:TD K H ve t.e) (h3:NmV K c A H vn t.n) (h4:S.W.length<200) (q:∀ H',Fr A H H'→MV K c A H' {S with W:=S.W++[t]}→Q .non H'):qE K c vs H Q
def ox (K:Fg) (c:Ks):Sp:=fun vs H Q _=>qE K c vs H Q
theorem vX {α:Type} {l:List α} (h:l.length=5):∃ a b c d e,l=[a,b,c,d,e]:=by
 obtain⟨a,r,rfl⟩:=List.exists_cons_of_length_eq_add_one h;obtain⟨b,c,d,e,rfl⟩:=eJ (show r.length=4 by simpa using h);exact⟨a,b,c,d,e,rfl⟩
theorem uU (D:eT K c.cc "wait" "Machine.wait" (sM 1)) (k:KC K mg c):MFn P w K mg base c.cc "wait" 1 ["self","task","e","names","count"] (ox K c):=by
 refine D.fn (N:=["self","task","e","names","count"]) fsM (fun vs H Q E h=>?_) (fun _ _ _ _ _ _ us hl=>by obtain⟨a,b,d,e,f,rfl⟩:=vX hl;rfl) (fun f' cdv A outer s' H vs Q E hr h=>?_)
 · obtain⟨A,S,t,ve,vn,rfl,_⟩:=h;rfl
 · obtain⟨A,S,t,ve,vn,rfl,m,he,hn,h2,q⟩:=h;have hz0:(1000:Nat)<sizeLine:=by decide
   refine⟨_,(pG (aC (cj (bq (pv 0) rfl) (pA (aa (pA (pv 1) (pA (pv 2) (pA (pv 3) (pA (pv 4) pB))))) pB)))),?_⟩;obtain⟨vd,h1,e1⟩:=m.m;obtain⟨ws,hw,ew⟩:=m.w;have wl:=bc ew;refine⟨_,rfl,A.m,c.cc,A.dx,_,_,rfl,h1,k.oc,k.n8,rfl,.inl ⟨rfl,_,SqL.of hw⟩,_,rfl,_,rfl,_,rfl,_,rfl,tS,fun p hp=>?_⟩;have s1:=smu (o:=HO.tup [.str t.t,ve,vn,.int ((t.c:Nat):Int)]) hp;have m1:=m.same s1;have hw1:=s1 _ _ hw;have pt:iz K c A (upd H p (.tup [.str t.t,ve,vn,.int ((t.c:Nat):Int)])) (.ref p) t:=.mk (SqT.of pE) (he.same s1) (hn.fr (.of s1));refine⟨A.wa,ws,_,rfl,rfl,hw1,by omega,?_⟩;refine q _ ((Fr.of s1).trans (m1.upd_fr (.inr (.inl rfl)))) (m1.putW (dQ (aq ew fun _ _ z=>z.fr (.of s1)) (.cons pt .nil)) ?_);rw[lAp];show S.W.length+1≤200;omega
inductive rj (K:Fg) (c:Ks) (vs:List V) (H:Hp) (Q:VK):Prop
  | mk (A:Ad) (S:MS) (e:PyData) (n:Nm) (ve vn:V) (h0:vs=[.ref A.m,ve,vn]) (h1:MV K c A H S) (h2:TD K H ve e) (h3:NmV K c A H vn n) (h4:S.W.length<200) (q:∀ H',Fr A H H'→MV K c A H' {S with W:=S.W++[⟨"begin",e,n,0⟩]}→Q .non H'):rj K c vs H Q
def lg (K:Fg) (c:Ks):Sp:=fun vs H Q _=>rj K c vs H Q
theorem vO (D:eT K c.cc "begin" "Machine.begin" (sM 2)) (k:KC K mg c) (M_wait:MFn P w K mg base c.cc "wait" 1 ["self","task","e","names","count"] (ox K c)):MFn P w K mg base c.cc "begin" 2 ["self","e","names"] (lg K c):=by
 refine D.fn (N:=["self","e","names"]) fsM (fun vs H Q E h=>?_) (fun _ _ _ _ _ _ us hl=>by obtain⟨a,b,d,rfl⟩:=dU hl;rfl) (fun f' cdv A outer s' H vs Q E hr h=>?_)
 · obtain⟨A,S,e,n,ve,vn,rfl,_⟩:=h;rfl
 · obtain⟨A,S,e,n,ve,vn,rfl,m,he,hn,h2,q⟩:=h;refine⟨_,(pG (aC (aZ (pv 0) k.oc M_wait (hr.mono (by decide)) (pA pC (pA (pv 1) (pA (pv 2) (pA pF pB))))))),?_⟩;obtain⟨vd,h1,e1⟩:=m.m;exact⟨_,rfl,A.m,A.dx,_,rfl,h1,rfl,_,rfl,_,rfl,A,S,⟨"begin",e,n,0⟩,ve,vn,rfl,m,he,hn,h2,q⟩
inductive qH (K:Fg) (c:Ks) (vs:List V) (H:Hp) (Q:VK):Prop
  | mk (A:Ad) (S:MS) (v:V) (x:Vl) (h0:vs=[.ref A.m,v]) (h1:MV K c A H S) (h2:VlV K c A H v x) (h4:S.T.length<200) (q:∀ H',Fr A H H'→MV K c A H' {S with T:=S.T++[x]}→Q .non H'):qH K c vs H Q
def gy (K:Fg) (c:Ks):Sp:=fun vs H Q _=>qH K c vs H Q
theorem uX (D:eT K c.cc "tell" "Machine.tell" (sM 3)) (k:KC K mg c):MFn P w K mg base c.cc "tell" 1 ["self","value"] (gy K c):=by
 refine D.fn (N:=["self","value"]) fsM (fun vs H Q E h=>?_) (fun _ _ _ _ _ _ us hl=>by obtain⟨a,b,rfl⟩:=dW hl;rfl) (fun f' cdv A outer s' H vs Q E hr h=>?_)
 · obtain⟨A,S,v,x,rfl,_⟩:=h;rfl
 · obtain⟨A,S,v,x,rfl,m,hv,h2,q⟩:=h;have hz0:(1000:Nat)<sizeLine:=by decide
   refine⟨_,(pG (aC (cj (bq (pv 0) rfl) (pA (pv 1) pB)))),?_⟩;obtain⟨vd,h1,e1⟩:=m.m;obtain⟨ts,ht,et⟩:=m.t;have tl:=bc et;refine⟨_,rfl,A.m,c.cc,A.dx,_,_,rfl,h1,k.oc,k.n9,rfl,.inl ⟨rfl,_,SqL.of ht⟩,_,rfl,A.ta,ts,_,rfl,rfl,ht,by omega,?_⟩;refine q _ (m.upd_fr (.inr (.inr (.inl rfl)))) (m.putT (dQ et (.cons hv .nil)) ?_);rw[lAp];show S.T.length+1≤200;omega
theorem bV {xs:List V} {n:Nat} (h:n≤xs.length):cx xs (some ((n:Nat):Int)) none=xs.drop n:=by
 unfold cx;rw[HT.fH,HT.d6,Nat.min_eq_left h];exact List.take_of_length_le (by rw[List.length_drop];omega)
inductive qK (K:Fg) (c:Ks) (vs:List V) (H:Hp) (Q:VK):Prop
  | mk (A:Ad) (S:MS) (T1 T2:List Vl) (h0:vs=[.ref A.m,.int ((T2.length:Nat):Int)]) (h1:MV K c A H S) (h2:S.T=T1++T2) (q:∀ l us H',Fr A H H'→¬ A.own l→H' l=some (.lst us)→Paired (VlV K c A H') us T2→MV K c A H' {S with T:=T1}→Q (.ref l) H'):qK K c vs H Q
def uc (K:Fg) (c:Ks):Sp:=fun vs H Q _=>qK K c vs H Q
theorem v7 (D:eT K c.cc "take" "Machine.take" (sM 4)) (T:Blt mg) (k:KC K mg c):MFn P w K mg base c.cc "take" 1 ["self","count"] (uc K c):=by
 have nd:(["self","count","first","taken"]:List Str).Nodup:=by decide +kernel
 refine D.fn (N:=["self","count","first","taken"]) ⟨rfl,rfl,rfl,nd,rfl,by decide +kernel,by decide +kernel⟩ (fun vs H Q E h=>?_) (fun _ _ _ _ _ _ us hl=>by obtain⟨a,b,rfl⟩:=dW hl;rfl) (fun f' cdv A outer s' H vs Q E hr h=>?_)
 · obtain⟨A,S,T1,T2,rfl,_⟩:=h;rfl
 · obtain⟨A,S,T1,T2,rfl,m,hT,q⟩:=h;have hz0:(1000:Nat)<sizeLine:=by decide
   refine⟨_,(pD (pL (i:=2) nd rfl (Or.inl rfl) (au c6 (bX T.len (pA (bq (pv 0) rfl) pB)) (pv 1)))
     (pD (pL (i:=3) nd rfl (Or.inl rfl) (bj kq (bq (pv 0) rfl) (bf (pv 2)) bD))
     (pD (oK (bq (pv 0) rfl) (bf (pv 2)))
     (pG (af (pv 3)))))),?_⟩
   dsimp only[bE];obtain⟨vd,h1,e1⟩:=m.m;obtain⟨ts,ht,et⟩:=m.t;have tl:=bc et;have zt:=m.zt;have tl2:S.T.length=T1.length+T2.length:=by rw[hT,lAp]
   refine⟨_,rfl,A.m,c.cc,A.dx,_,_,rfl,h1,k.oc,k.n9,rfl,A.ta,ts,rfl,.inl (SqL.of ht),_,rfl,_,_,rfl,rfl,?_⟩;rw[show ((ts.length:Nat):Int)-((T2.length:Nat):Int)=((T1.length:Nat):Int) by omega];refine⟨_,rfl,A.m,c.cc,A.dx,_,_,rfl,h1,k.oc,k.n9,rfl,_,rfl,_,rfl,A.ta,ts,rfl,SqL.of ht,fun p hp=>?_⟩;rw[bV (by omega)] at *;have s1:=smu (o:=HO.lst (ts.drop T1.length)) hp;have m1:=m.same s1;have ht1:=s1 _ _ ht;have hp1:(upd H p (.lst (ts.drop T1.length))) p=some (.lst (ts.drop T1.length)):=pE;have np:=m.new hp;have h11:=s1 _ _ h1;refine⟨_,rfl,A.m,c.cc,A.dx,_,_,rfl,h11,k.oc,k.n9,rfl,_,rfl,_,rfl,A.ta,ts,T1.length,rfl,rfl,ht1,by omega,?_⟩;have f1:Fr A H (upd H p (.lst (ts.drop T1.length))):=.of s1;have e2:=aq et fun _ _ z=>z.fr f1;have d2:=fq e2 T1.length;have t2:=iN e2 T1.length;rw[hT,List.drop_left] at d2;rw[hT,List.take_left] at t2;have f2:=m1.upd_fr (o:=.lst (ts.take T1.length)) (.inr (.inr (.inl rfl)));refine⟨_,rfl,q p _ _ (f1.trans f2) np (f2.kp _ _ np hp1) (aq d2 fun _ _ z=>z.fr f2) (m1.putT t2 (by omega))⟩
inductive r6 (K:Fg) (c:Ks) (vs:List V) (H:Hp) (Q:VK):Prop
  | mk (A:Ad) (S:MS) (s:Str) (h0:vs=[.ref A.m,.str s]) (h1:MV K c A H S) (q:∀ H',Fr A H H'→MV K c A H' {S with en:=some s}→Q .non H'):r6 K c vs H Q
def oC (K:Fg) (c:Ks):Sp:=fun vs H Q _=>r6 K c vs H Q
theorem vG (D:eT K c.cc "fault" "Machine.fault" (sM 5)) (k:KC K mg c):MFn P w K mg base c.cc "fault" 1 ["self","word"] (oC K c):=by
 refine D.fn (N:=["self","word"]) fsM (fun vs H Q E h=>?_) (fun _ _ _ _ _ _ us hl=>by obtain⟨a,b,rfl⟩:=dW hl;rfl) (fun f' cdv A outer s' H vs Q E hr h=>?_)
 · obtain⟨A,S,s,rfl,_⟩:=h;rfl
 · obtain⟨A,S,s,rfl,m,q⟩:=h;refine⟨_,(pG (bY (pv 0) (aa (pA pC (pA (pv 1) pB))) rfl)),?_⟩;obtain⟨vd,h1,e1⟩:=m.m;refine⟨_,rfl,bA,fun p hp=>?_⟩;have s1:=smu (o:=HO.tup [.str "fault",.str s]) hp;have m1:=m.same s1;refine⟨_,rfl,A.m,c.cc,A.dx,_,rfl,s1 _ _ h1,k.oc,k.n11,by show 6<1000;decide,?_⟩;exact q _ ((Fr.of s1).trans (m1.upd_fr (.inl rfl))) (m1.putM (k:=S.k) (ve:=.ref p) (en:=some s) (.flt (SqT.of pE)))
inductive qJ (K:Fg) (c:Ks) (vs:List V) (H:Hp) (Q:VK):Prop
  | mk (A:Ad) (S:MS) (h0:vs=[.ref A.m]) (h1:MV K c A H S) (h2:S.k≠0) (q:∀ H',Fr A H H'→MV K c A H' {S with k:=S.k-1}→Q (.bl true) H'):qJ K c vs H Q
def ub (K:Fg) (c:Ks):Sp:=fun vs H Q _=>qJ K c vs H Q
theorem v5 (D:eT K c.cc "tick" "Machine.tick" (sM 6)) (k:KC K mg c):MFn P w K mg base c.cc "tick" 1 ["self"] (ub K c):=by
 refine D.fn (N:=["self"]) fsM (fun vs H Q E h=>?_) (fun _ _ _ _ _ _ us hl=>by obtain⟨a,rfl⟩:=cY hl;rfl) (fun f' cdv A outer s' H vs Q E hr h=>?_)
 · obtain⟨A,S,rfl,_⟩:=h;rfl
 · obtain⟨A,S,rfl,m,hk,q⟩:=h;refine⟨_,(pD (aw (pM aA (bq (pv 0) rfl) pF (pN _)) (pD (bY (pv 0) (aa (pA pC pB)) rfl) (pG (af fY))) aj)
     (pD (ll (pv 0) pF sY) (pG (af fY)))),?_⟩
   dsimp only[bE];obtain⟨vd,h1,e1⟩:=m.m;refine⟨_,rfl,A.m,c.cc,A.dx,_,_,rfl,h1,k.oc,k.n7,rfl,rfl,_,rfl,?_⟩;refine pI (by simpa using hk) ?_;refine⟨_,rfl,A.m,c.cc,A.dx,_,_,rfl,h1,k.oc,k.n7,rfl,_,_,rfl,rfl,A.dx,_,h1,by show 6<1000;decide,?_⟩;exact q _ (m.upd_fr (.inl rfl)) (m.putM (k:=S.k-1) (ve:=vd) (en:=S.en) e1)
end
end K20
namespace L2
open PySem PySem.Spec PyProof.Rows
abbrev zl1 (h:Heap) (a:Addr):Heap:=h.push {cls:=.type "list_iterator",data:=.fields #[.ref a,.int 0 0]}
abbrev zm2 (h:Heap) (a b:Addr):Heap:=zl1 (zt1 h a) b
abbrev zm3 (h:Heap) (a b:Addr):Heap:=(zm2 h a b).push {cls:=.type "tuple",data:=.seq #[.ref h.objs.size,.ref (zt1 h a).objs.size]}
abbrev zm4 (h:Heap) (a b:Addr):Heap:=(zm3 h a b).push {cls:=.type "tuple",data:=.seq #[.none,.none]}
abbrev zm5 (h:Heap) (a b:Addr):Heap:=(zm4 h a b).push {cls:=.type "zip",data:=.fields #[.none,.bool false,.bool false,.ref (zm2 h a b).objs.size,.ref (zm3 h a b).objs.size]}
theorem jy (a b:Addr) (xs ys:Array Value):Meets (Builtin.«zip.__new__» ⟨[.type "zip",.ref a,.ref b],[]⟩) (fun _ R s=>s.heap.IsTuple a xs∧s.heap.IsList b ys∧R (.ok (.ret (.ref (zm4 s.heap a b).objs.size))) {s with heap:=zm5 s.heap a b}) :=
 .of_wp fun prog w A R s h=>by
  obtain⟨hp,g,d,tk,os⟩:=s;obtain⟨ha,hb,h⟩:=h;have sub:=sub_zip;have e1:Heap.IsTuple (Shared.heap ⟨hp,g,d,tk,os⟩) a xs:=ha;have e2:Heap.IsList (Shared.heap ⟨zt1 hp a,g,d,tk,os⟩) b ys:=Heap.IsList.push hb _
  wp_walk using wpAny_pyIter_tuple e1,wpAny_pyIter_list e2
  exact⟨_,rfl,h⟩
theorem lK {prog:Program} {w:World} {A:Around} {E:VSP} {s:Shared} {a b:Addr} {xs ys:Array Value} {Q:VSP} (ha:s.heap.IsTuple a xs) (hb:s.heap.IsList b ys)
 (h:∀ h',IsZip h' (s.heap.objs.size+4) (s.heap.objs.size+2) (s.heap.objs.size+3) .none→IsPair h' (s.heap.objs.size+2) (.ref s.heap.objs.size) (.ref (s.heap.objs.size+1))→IsPair h' (s.heap.objs.size+3) .none .none →
   h'.IsTupleIter s.heap.objs.size a 0→h'.IsListIter (s.heap.objs.size+1) b 0→(∀ c o,s.heap.get? c=some o→h'.get? c=some o)→Q (.ref (s.heap.objs.size+4)) {s with heap:=h'}) :
 wpAny (model prog w) A (call (.type "zip") [.ref a,.ref b]) Q E s:=by
 refine callType_new F.called_zip (by decide) (F.typeCall_zip_2 _ _) (F.newCall_zip_2 _ _) (fun obj=>F.args_object_init_3 obj _ _) F.entry_zip_new (jy a b xs ys) ⟨ha,hb,?_⟩;have z1:(zt1 s.heap a).objs.size=s.heap.objs.size+1:=Heap.size_push ..;have z2:(zm2 s.heap a b).objs.size=s.heap.objs.size+2:=by rw[Heap.size_push,z1]
 have z3:(zm3 s.heap a b).objs.size=s.heap.objs.size+3:=by rw[Heap.size_push,z2]
 have z4:(zm4 s.heap a b).objs.size=s.heap.objs.size+4:=by rw[Heap.size_push,z3]
 have up:∀ {c:Addr} {o:Obj},(zt1 s.heap a).get? c=some o→(zm5 s.heap a b).get? c=some o:=fun e=>hpS _ (hpS _ (hpS _ (hpS _ e)));have g5:(zm5 s.heap a b).get? (zm4 s.heap a b).objs.size=some _:=Heap.get?_push_size _ rfl;have g4:(zm5 s.heap a b).get? (zm3 s.heap a b).objs.size=some _:=hpS _ (Heap.get?_push_size _ rfl);have g3:(zm5 s.heap a b).get? (zm2 s.heap a b).objs.size=some _:=hpS _ (hpS _ (Heap.get?_push_size _ rfl));have g2:(zm5 s.heap a b).get? (zt1 s.heap a).objs.size=some _:=hpS _ (hpS _ (hpS _ (Heap.get?_push_size _ rfl)));have g1:(zm5 s.heap a b).get? s.heap.objs.size=some _:=up (Heap.get?_push_size _ rfl);show _∧_;rw[z2,z3,z4] at g5;rw[z1,z2] at g3;rw[z3] at g4;rw[z1] at g2;rw[z4];exact⟨⟨_,g5,rfl⟩,h _ g5 g3 g4 ⟨_,g1,rfl,rfl⟩ ⟨_,g2,rfl,rfl⟩ fun c o e=>up (hpS _ e)⟩
def qh (K:Fg) (a b:Addr):It :=
  ⟨fun i H=>∃ xs ys x y,SqT K H a xs∧SqL K H b ys∧xs[i]?=some x∧ys[i]?=some y,fun i H v H'=>∃ t x y,v=.ref t∧H t=none∧H'=upd H t (.tup [x,y])∧(∀ xs,SqT K H a xs→xs[i]?=some x)∧∀ ys,SqL K H b ys→ys[i]?=some y,
    fun i H=>∃ xs ys,SqT K H a xs∧SqL K H b ys∧(xs.length≤i∨ys.length≤i)⟩
theorem l7 {P:Program} {w:World} {K:Fg} {elts:List Expr} {k} {pos:Pos} (a b z TI TO i1 i2:Addr) (h0:z≠TI∧z≠TO∧z≠i1∧z≠i2∧TI≠TO∧TI≠i1∧TI≠i2∧TO≠i1∧TO≠i2∧i1≠i2) (hab:a≠TO∧b≠TO) :
 lN P w K (.Tuple elts k pos) (qh K a b) [z,TI,TO,i1,i2] z (fun i h=>IsZip h z TI TO .none∧IsPair h TI (.ref i1) (.ref i2)∧(∃ u v,IsPair h TO u v)∧h.IsTupleIter i1 a i∧h.IsListIter i2 b i) where
 mem:=by simp
 obj:=fun i h st c hc=>by
  obtain⟨h1,h2,⟨u,v,h3⟩,⟨o4,h4,_,d4⟩,⟨o5,h5,_,d5⟩⟩:=st;simp only[List.mem_cons,nMN,or_false] at hc
  rcases hc with rfl | rfl | rfl | rfl | rfl
  · exact⟨_,h1,fun v z=>by cases z⟩
  · exact⟨_,h2,fun v z=>by cases z⟩
  · exact⟨_,h3,fun v z=>by cases z⟩
  · exact⟨_,h4,fun v z=>by rw[d4] at z;cases z⟩
  · exact⟨_,h5,fun v z=>by rw[d5] at z;cases z⟩
 keep:=fun i h h' st k=>by
  obtain⟨h1,h2,⟨u,v,h3⟩,⟨o4,h4,r4⟩,⟨o5,h5,r5⟩⟩:=st;exact⟨k z (by simp) _ h1,k TI (by simp) _ h2,⟨u,v,k TO (by simp) _ h3⟩,⟨o4,k i1 (by simp) _ h4,r4⟩,⟨o5,k i2 (by simp) _ h5,r5⟩⟩
 item:=by
  intro X hP hw hK hc i pins s σ H E I hf st hg;subst hP hw hK;obtain⟨xs,ys,x,y,hqx,hqy,hx,hy⟩:=hg;obtain⟨its,rv,p,hz⟩:=I.tuple hqx;obtain⟨its2,rv2,p2,hz2⟩:=I.list hqy;obtain⟨u,hu,ru⟩:=rv.get hx;obtain⟨v,hv,rv'⟩:=rv2.get hy;obtain⟨h1,h2,⟨u0,v0,h3⟩,h4,h5⟩:=st;obtain⟨n1,n2,n3,n4,n5,n6,n7,n8,n9,n10⟩:=h0;obtain⟨ol,hol,hcl,_⟩:=id p;obtain⟨ol2,hol2,hcl2,_⟩:=p2.isList;obtain⟨o4,g4,c4,d4⟩:=id h4;obtain⟨o5,g5,c5,d5⟩:=id h5;have D:ZAp z TI TO i1 i2 a b:=⟨⟨n1.symm,n2.symm,n3.symm,n4.symm,aT hol h1 (by rw[hcl];simp),aT hol2 h1 (by rw[hcl2];simp)⟩,⟨n5,n8.symm,n9.symm,hab.1,hab.2⟩,⟨n6,n7,n10⟩,
    ⟨aT hol g4 (by rw[hcl,c4];simp),aT hol g5 (by rw[hcl,c5];simp),aT hol2 g4 (by rw[hcl2,c4];simp),aT hol2 g5 (by rw[hcl2,c5];simp)⟩⟩
  refine ga D (dE i1 a D.l_.1 its.toArray) (kP i2 b D.l_.2.2.2 its2.toArray) h1 h2 h3 ⟨h4,p⟩ ⟨h5,p2.isList⟩ (x:=u) (y:=v) (by simpa using hu) (by simpa using hv) fun h' e1 e2 e3 e4 e5 e7=>?_;refine⟨_,rfl,wpAny_letOwnedTupleGo_zip (s:={s with heap:=h'}) e1 fun h'' f1 sb=>?_⟩;have lz:z<s.heap.objs.size:=Heap.lt_size h1;have keep:∀ c o,c∉[z,TI,TO,i1,i2]→s.heap.get? c=some o→h''.get? c=some o:=fun c o hc q=>by
   simp only[List.mem_cons,nMN,or_false,not_or] at hc;exact (sb.2 c hc.1).trans (e7 c o hc.1 hc.2.2.1 hc.2.2.2.1 hc.2.2.2.2 q)
  have hT:h''.get? s.heap.objs.size=some {cls:=.type "tuple",data:=.seq #[u,v]}:=(sb.2 _ (Nat.ne_of_gt lz)).trans e5;have I2:Inv X pins σ (upd H s.heap.objs.size (.tup [x,y])) {s with heap:=h''}:=I.turnedNew (t':=s.toks) hf keep ⟨bA,[u,v],.cons ru (.cons rv' .nil),⟨_,hT,rfl,_,rfl⟩⟩;refine⟨.ref s.heap.objs.size,_,I2,rfl,⟨_,x,y,rfl,I.hok.fresh (Nat.le_refl _),rfl,fun q hq=>by rw[I.tuple_inj hq hqx];exact hx,fun q hq=>by rw[I.list_inj hq hqy];exact hy⟩,⟨f1,?_,⟨u,v,(sb.2 TO D.z_.2.1).trans e2⟩,?_,?_⟩,fun c hc=>?_⟩
  · exact (sb.2 TI D.z_.1).trans (e7 TI _ D.z_.1 D.o_.1 D.i_.1 D.i_.2.1 h2)
  · obtain⟨⟨o,q,r⟩,_⟩:=e3;exact⟨o,(sb.2 i1 D.z_.2.2.1).trans q,r⟩
  · obtain⟨⟨o,q,r⟩,_⟩:=e4;exact⟨o,(sb.2 i2 D.z_.2.2.2.1).trans q,r⟩
  · have hlt:c<s.heap.objs.size:=by
     simp only[List.mem_cons,nMN,or_false] at hc
     rcases hc with rfl | rfl | rfl | rfl | rfl
     · exact lz
     · exact Heap.lt_size h2
     · exact Heap.lt_size h3
     · exact Heap.lt_size g4
     · exact Heap.lt_size g5
    rw[a0 (Nat.ne_of_lt hlt)];exact (hf c hc).1
 done:=by
  intro X hP hw hK hc i pins s σ H E I hf st hg;subst hP hw hK;obtain⟨xs,ys,hqx,hqy,hlen⟩:=hg;obtain⟨its,rv,p,hz⟩:=I.tuple hqx;obtain⟨its2,rv2,p2,hz2⟩:=I.list hqy;obtain⟨h1,h2,⟨u0,v0,h3⟩,h4,h5⟩:=st;obtain⟨n1,n2,n3,n4,n5,n6,n7,n8,n9,n10⟩:=h0;obtain⟨ol,hol,hcl,_⟩:=id p;obtain⟨ol2,hol2,hcl2,_⟩:=p2.isList;obtain⟨o4,g4,c4,d4⟩:=id h4;obtain⟨o5,g5,c5,d5⟩:=id h5;have D:ZAp z TI TO i1 i2 a b:=⟨⟨n1.symm,n2.symm,n3.symm,n4.symm,aT hol h1 (by rw[hcl];simp),aT hol2 h1 (by rw[hcl2];simp)⟩,⟨n5,n8.symm,n9.symm,hab.1,hab.2⟩,⟨n6,n7,n10⟩,
    ⟨aT hol g4 (by rw[hcl,c4];simp),aT hol g5 (by rw[hcl,c5];simp),aT hol2 g4 (by rw[hcl2,c4];simp),aT hol2 g5 (by rw[hcl2,c5];simp)⟩⟩
  have e1:=rv.length;have e2:=rv2.length;refine gU (I.ok.hd hc) D (dE i1 a D.l_.1 its.toArray) (kP i2 b D.l_.2.2.2 its2.toArray) h1 h2 h3 ⟨h4,p⟩ ⟨h5,p2.isList⟩ (hlen.imp (fun q=>by simp;lia) fun q=>by simp;lia) fun h' kp=>⟨rfl,I.turnedAll (t':=s.toks) hf fun c o hc q=>?_⟩;simp only[List.mem_cons,nMN,or_false,not_or] at hc;exact kp c o hc.1 hc.2.2.1 hc.2.2.2.1 hc.2.2.2.2 q
 self:=fun _ _ _ _ _ st h=>wpAny_pyIter_zip st.1 h
def vZ (K:Fg) (ta:TA):TI:=fun σ H R=>ta σ H fun vs H1=>∃ a b xs ys,vs=[.ref a,.ref b]∧SqT K H1 a xs∧SqL K H1 b ys∧R (qh K a b) H1
theorem oM {X:Cx} {elts:List Expr} {k} {tpos:Pos} {e1 e2:Expr} {ta:TA} {p pos:Pos} (hg:Gl X "zip") (hm:X.mg "zip"=none) (ha:PA X [e1,e2] ta) (hs:starEach [e1,e2] X.env=[(false,eval e1 X.env),(false,eval e2 X.env)]:=by rfl) (hs2:starEach [e2] X.env=[(false,eval e2 X.env)]:=by rfl) :
 PI X (.Tuple elts k tpos) (.Call (.Name "zip" p) [e1,e2] [] pos) (vZ X.K ta):=by
 intro pins s σ H R I h;refine Call_ (dk I hg hm j7 (PyProof.Rows.callWith_type1 (thn (ha pos pins s σ H _ I h) fun us s1 zy16=>?_) (by rw[hs,hs2]) (by rw[hs2];rfl)));obtain⟨vs,H1,I1,r1,q1⟩:=zy16;obtain⟨a,b,xs,ys,e,hqx,hqy,q⟩:=q1;subst e;obtain⟨u,v,rfl,ru,rv⟩:=r1.two;cases ru;cases rv;obtain⟨its,rv,p1,hz⟩:=I1.tuple hqx;obtain⟨its2,rv2,p2,hz2⟩:=I1.list hqy;have la:a<s1.heap.objs.size:=by obtain⟨o,e,_⟩:=id p1;exact Heap.lt_size e
 have lb:b<s1.heap.objs.size:=by obtain⟨o,e,_⟩:=p2.isList;exact Heap.lt_size e
 refine lK p1 p2.isList fun h' f1 f2 f3 f4 f5 f7=>?_;refine wpAny_pyIter_zip f1 ?_;have I2:Inv X pins σ H1 {s1 with heap:=h'}:=I1.kept (t':=s1.toks) f7;generalize hn:s1.heap.objs.size=n at f1 f2 f3 f4 f5 la lb;refine⟨n+4,[n+4,n+2,n+3,n,n+1],_,qh X.K a b,H1,rfl,I2,l7 a b (n+4) (n+2) (n+3) n (n+1) (by refine⟨?_,?_,?_,?_,?_,?_,?_,?_,?_,?_⟩ <;> (intro z;have z':(_:Nat)=_:=z;lia)) ⟨Nat.ne_of_lt (Nat.lt_add_right 3 la),Nat.ne_of_lt (Nat.lt_add_right 3 lb)⟩,⟨f1,f2,⟨_,_,f3⟩,f4,f5⟩,fun c hc=>?_,q⟩;have hc':s1.heap.objs.size≤c:=by
  rw[hn];simp only[List.mem_cons,nMN,or_false] at hc
  rcases hc with rfl | rfl | rfl | rfl | rfl
  · exact Nat.le_add_right _ _
  · exact Nat.le_add_right _ _
  · exact Nat.le_add_right _ _
  · exact Nat.le_refl _
  · exact Nat.le_add_right _ _
 exact I1.fpOk hc' (I1.hok.fresh hc')
theorem az.zipM {K:Fg} {a b:Addr} {xs ys:List V} {g:TG} {tb:TS} {d:St→Hp→Prop} {r:VK} {k c:St→Hp→Prop} {σ:St} {H:Hp} (hlen:xs.length=ys.length) (Pv:Nat→St→Hp→Prop) (h0:Pv 0 σ H) (hl:∀ i σ H,i≤xs.length→Pv i σ H→SqT K H a xs∧SqL K H b ys)
 (hs:∀ i x y σ H t (N B:St→Hp→Prop),(∀ σ' H',Pv (i+1) σ' H'→N σ' H')→xs[i]?=some x→ys[i]?=some y→Pv i σ H→H t=none→g (.ref t) σ (upd H t (.tup [x,y])) fun σ2 H2=>tb ⟨N,r,B,N⟩ σ2 H2) (hd:∀ σ H,Pv xs.length σ H→d σ H):az (qh K a b) g tb ⟨d,r,k,c⟩ σ H:=by
 refine⟨fun i m σ H=>i≤xs.length∧m=xs.length-i∧Pv i σ H,⟨_,Nat.zero_le _,rfl,h0⟩,fun i m σ H z=>?_⟩;obtain⟨hi,hm,hp⟩:=z;obtain⟨l1,l2⟩:=hl i σ H hi hp;by_cases hlt:i<xs.length
 · have hlt2:i<ys.length:=by omega
   refine .inr ⟨⟨xs,ys,xs[i],ys[i],l1,l2,by simp[hlt],by simp[hlt2]⟩,fun σ' H'=>Pv (i+1) σ' H',fun σ' H' q=>⟨xs.length-(i+1),by rw[hm];exact Nat.sub_succ_lt_self _ _ hlt,hlt,rfl,q⟩,?_⟩;rintro v H' ⟨t,x,y,rfl,ht,rfl,hx,hy⟩;exact hs i x y σ H t _ _ (fun _ _ z=>z) (hx xs l1) (hy ys l2) hp ht
 · have:i=xs.length:=by omega
   subst this;exact .inl ⟨⟨xs,ys,l1,l2,.inl (Nat.le_refl _)⟩,hd σ H hp⟩
end L2
namespace K20
open PySem L2 P10
theorem bh {K:Fg} {H:Hp} {xr:List V} {ds:PDs} {d:PyData} (h:TDs K H xr (d::ds)):∃ y yr,xr=y::yr∧TD K H y d∧TDs K H yr ds:=by
 cases h with
 | cons p q=>exact⟨_,_,rfl,p,q⟩
theorem eh {K:Fg} {H:Hp}:∀ {is:List Int} {xs:List V},TDs K H xs (is.map .int)→xs=is.map V.int:=by
 intro is
 induction is with
 | nil=>intro xs h;cases h;rfl
 | cons i r ih =>
  intro xs h;obtain⟨y,yr,rfl,a,b⟩:=bh h;cases a;rw[ih b];rfl
def bnd (n:Nm):List Int→List Vl→Nm
  | i::is,x::xs=>bnd ((i,x)::n) is xs
  | _,_=>n
theorem j8:∀ {is:List Int} {xs:List Vl} {n:Nm} {i:Int} {x:Vl},is.length=xs.length→bnd n (is++[i]) (xs++[x])=(i,x)::bnd n is xs:=by
 intro is
 induction is with
 | nil =>
  intro xs n i x h;cases xs with
  | nil=>rfl
  | cons y r=>cases h
 | cons j r ih =>
  intro xs n i x h;cases xs with
  | nil=>cases h
  | cons y q=>exact ih (Nat.succ.inj h)
section
variable {P:Program} {w:World} {K:Fg} {mg:SOV} {base:Heap} {c:Ks}
abbrev sBn:Stmt:=top 20
abbrev nBn:List Str:=["names","ids","values","number","value"]
abbrev lm:List Str:=["names","ids","values"]
theorem oH:bF nBn lm (ak sBn):=fsM
inductive nZ (K:Fg) (c:Ks) (vs:List V) (H:Hp) (Q:VK):Prop
  | mk (A:Ad) (S:MS) (n:Nm) (vn:V) (a b:Addr) (is:List Int) (us:List V) (xs:List Vl) (h0:vs=[vn,.ref a,.ref b]) (h1:MV K c A H S) (h2:NmV K c A H vn n) (h3:SqT K H a (is.map V.int)) (h4:SqL K H b us) (h5:Paired (VlV K c A H) us xs) (h6:is.length=xs.length)
    (q:∀ v H',ai H H'→NmV K c A H' v (bnd n is xs)→Q v H'):nZ K c vs H Q
def ml (K:Fg) (c:Ks):Sp:=fun vs H Q _=>nZ K c vs H Q
theorem sI (D:Def K mg "bound_names" sBn) (T:Blt mg):Fn P w K mg base "bound_names" 1 lm (ml K c):=by
 refine D.fn oH (fun vs H Q E h=>?_) (fun _ _ _ _ _ _ us hl=>by obtain⟨a,b,d,rfl⟩:=dU hl;rfl) (fun f' cdv A outer s' H vs Q E hr h=>?_)
 · obtain⟨A,S,n,vn,a,b,is,us,xs,rfl,_⟩:=h;rfl
 · obtain⟨A,S,n,vn,a,b,is,us,xs,rfl,m,hn,ha,hb,hu,hl,q⟩:=h;have nd:=oH.nd;have ul:=bc hu;refine⟨_,(pD (bS PassesOwn.never rfl (oM rfl T.zip (pA (pv 1) (pA (pv 2) pB))) (d9 rfl (aK (ar (i:=3) nd rfl (Or.inl rfl)) (aK (ar (i:=4) nd rfl (Or.inl rfl)) cF)))
 (pG (pL (i:=0) nd rfl (Or.inl rfl) (aa (pA (pv 3) (pA (aU (pA (pv 4) pB)) (pA (pv 0) pB)))))))
 (pG (af (pv 0)))),?_⟩
   dsimp only[bE];refine⟨_,rfl,_,rfl,a,b,_,us,rfl,ha,hb,?_⟩;show az _ _ _ _ _ _;refine az.zipM (xs:=is.map V.int) (ys:=us) (by rw[lMp];omega) (fun j σ Hj=>ai H Hj∧∃ v x3 x4,σ=[some v,some (.ref a),some (.ref b),x3,x4]∧NmV K c A Hj v (bnd n (is.take j) (xs.take j))) ⟨ai.refl _,_,_,_,rfl,hn⟩ (fun i σ Hi _ z=>⟨ha.tk z.1.tk,hb.same z.1⟩) ?_ ?_
   · rintro j y z σ Hj t N_ B_ hN_ hy hz ⟨sj,v,x3,x4,rfl,hv⟩ ht;have hj:j<is.length:=by have:=(gES.mp hy).1;rwa [lMp] at this
     rw[gEM,gEE hj] at hy;cases hy;have hx:xs[j]?=some (xs[j]'(by omega)):=gEE _;obtain⟨z',hz',vz⟩:=aO hu hx;rw[hz] at hz';cases hz';have k1:=smu (o:=HO.tup [.int is[j],z]) ht;have s1:=sj.trans k1;refine⟨t,_,rfl,SqT.of pE,rfl,_,_,rfl,_,_,rfl,rfl,?_⟩;have hv1:=hv.fr (.of k1);generalize upd Hj t (.tup [.int is[j],z])=H1 at k1 s1 hv1 ⊢;refine⟨_,rfl,_,rfl,jd,fun bx hbx=>?_⟩;have k2:=smu (o:=HO.lst [z]) hbx;refine⟨_,rfl,fN,fun p hp=>?_⟩;have k3:=smu (o:=HO.tup [.int is[j],.ref bx,v]) hp;refine hN_ _ _ ⟨(s1.trans k2).trans k3,_,_,_,rfl,?_⟩;have hi2:is[j]?=some is[j]:=gEE hj;rw[tAO,tAO,hi2,hx];show NmV _ _ _ _ _ (bnd n (is.take j++[is[j]]) (xs.take j++[xs[j]]));rw[j8 (by simp only[lTk];omega)];exact .cons (SqT.of pE) ((m.same s1).new hbx) (k3 _ _ pE) (vz.fr (.of ((s1.trans k2).trans k3))) (hv1.fr (.of (k2.trans k3)))
   · rintro σ Hj ⟨sj,v,x3,x4,rfl,hv⟩;rw[lMp,List.take_length,show xs.take is.length=xs by rw[hl];exact List.take_length] at hv;exact⟨_,rfl,q v Hj sj hv⟩
inductive nY (K:Fg) (c:Ks) (vs:List V) (H:Hp) (Q:VK):Prop
  | mk (A:Ad) (S:MS) (n:Nm) (vn:V) (a b:Addr) (is:List Int) (us:List V) (xs:List Vl) (h0:vs=[vn,.ref a,.ref b]) (h1:MV K c A H S) (h2:NmV K c A H vn n) (h3:SqT K H a (is.map V.int)) (h4:SqT K H b us) (h5:Paired (VlV K c A H) us xs) (h6:is.length=xs.length)
    (q:∀ v H',ai H H'→NmV K c A H' v (bnd n is xs)→Q v H'):nY K c vs H Q
def qu (K:Fg) (c:Ks):Sp:=fun vs H Q _=>nY K c vs H Q
theorem sH (D:Def K mg "bound_names" sBn) (T:Blt mg):Fn P w K mg base "bound_names" 1 lm (qu K c):=by
 refine D.fn oH (fun vs H Q E h=>?_) (fun _ _ _ _ _ _ us hl=>by obtain⟨a,b,d,rfl⟩:=dU hl;rfl) (fun f' cdv A outer s' H vs Q E hr h=>?_)
 · obtain⟨A,S,n,vn,a,b,is,us,xs,rfl,_⟩:=h;rfl
 · obtain⟨A,S,n,vn,a,b,is,us,xs,rfl,m,hn,ha,hb,hu,hl,q⟩:=h;have nd:=oH.nd;have ul:=bc hu;refine⟨_,(pD (bS PassesOwn.never rfl (kz rfl T.zip (pA (pv 1) (pA (pv 2) pB))) (d9 rfl (aK (ar (i:=3) nd rfl (Or.inl rfl)) (aK (ar (i:=4) nd rfl (Or.inl rfl)) cF)))
 (pG (pL (i:=0) nd rfl (Or.inl rfl) (aa (pA (pv 3) (pA (aU (pA (pv 4) pB)) (pA (pv 0) pB)))))))
 (pG (af (pv 0)))),?_⟩
   dsimp only[bE];refine⟨_,rfl,_,rfl,a,b,_,us,rfl,ha,hb,?_⟩;show az _ _ _ _ _ _;refine az.zipTN (xs:=is.map V.int) (ys:=us) (by rw[lMp];omega) (fun j σ Hj=>ai H Hj∧∃ v x3 x4,σ=[some v,some (.ref a),some (.ref b),x3,x4]∧NmV K c A Hj v (bnd n (is.take j) (xs.take j))) ⟨ai.refl _,_,_,_,rfl,hn⟩ (fun i σ Hi _ z=>⟨ha.tk z.1.tk,hb.tk z.1.tk⟩) ?_ ?_
   · rintro j y z σ Hj t N_ B_ hN_ hy hz ⟨sj,v,x3,x4,rfl,hv⟩ ht;have hj:j<is.length:=by have:=(gES.mp hy).1;rwa [lMp] at this
     rw[gEM,gEE hj] at hy;cases hy;have hx:xs[j]?=some (xs[j]'(by omega)):=gEE _;obtain⟨z',hz',vz⟩:=aO hu hx;rw[hz] at hz';cases hz';have k1:=smu (o:=HO.tup [.int is[j],z]) ht;have s1:=sj.trans k1;refine⟨t,_,rfl,SqT.of pE,rfl,_,_,rfl,_,_,rfl,rfl,?_⟩;have hv1:=hv.fr (.of k1);generalize upd Hj t (.tup [.int is[j],z])=H1 at k1 s1 hv1 ⊢;refine⟨_,rfl,_,rfl,jd,fun bx hbx=>?_⟩;have k2:=smu (o:=HO.lst [z]) hbx;refine⟨_,rfl,fN,fun p hp=>?_⟩;have k3:=smu (o:=HO.tup [.int is[j],.ref bx,v]) hp;refine hN_ _ _ ⟨(s1.trans k2).trans k3,_,_,_,rfl,?_⟩;have hi2:is[j]?=some is[j]:=gEE hj;rw[tAO,tAO,hi2,hx];show NmV _ _ _ _ _ (bnd n (is.take j++[is[j]]) (xs.take j++[xs[j]]));rw[j8 (by simp only[lTk];omega)];exact .cons (SqT.of pE) ((m.same s1).new hbx) (k3 _ _ pE) (vz.fr (.of ((s1.trans k2).trans k3))) (hv1.fr (.of (k2.trans k3)))
   · rintro σ Hj ⟨sj,v,x3,x4,rfl,hv⟩;rw[lMp,List.take_length,show xs.take is.length=xs by rw[hl];exact List.take_length] at hv;exact⟨_,rfl,q v Hj sj hv⟩
abbrev sBo:Stmt:=top 21
inductive rh (K:Fg) (c:Ks) (vs:List V) (H:Hp) (Q:VK):Prop
  | mk (A:Ad) (n:Nm) (vn:V) (i:Int) (x:Vl) (h0:vs=[vn,.int i]) (h1:NmV K c A H vn n) (h2:n.lookup i=some x) (q:∀ bx v,H bx=some (.lst [v])→VlV K c A H v x→Q (.ref bx) H):rh K c vs H Q
def ux (K:Fg) (c:Ks):Sp:=fun vs H Q _=>rh K c vs H Q
theorem vN (D:Def K mg "box_of" sBo):Fn P w K mg base "box_of" 1 ["names","number"] (ux K c):=by
 have nd:(["names","number"]:List Str).Nodup:=by decide +kernel
 refine D.fn (N:=["names","number"]) ⟨rfl,rfl,rfl,nd,rfl,by decide +kernel,by decide +kernel⟩ (fun vs H Q E h=>?_) (fun _ _ _ _ _ _ us hl=>by obtain⟨a,b,rfl⟩:=dW hl;rfl) (fun f' cdv A outer s' H vs Q E hr h=>?_)
 · obtain⟨A,n,vn,i,x,rfl,_⟩:=h;rfl
 · obtain⟨A,n,vn,i,x,rfl,hn,hx,q⟩:=h;refine⟨_,(pD (iJ PassesOwn.never (pM gR (ab ae (pv 0) pF (fun _ _=>rfl)) (pv 1) (pN _))
 (pG (pL (i:=0) nd rfl (Or.inl rfl) (ab ae (pv 0) pF (fun _ _=>rfl)))))
 (pG (af (ab ae (pv 0) pF (fun _ _=>rfl))))),?_⟩
   dsimp only[bE];refine ac fun ik ee=>?_;refine⟨fun m σ Hi=>Hi=H∧∃ (v:V) (l:Nm),l.length=m∧σ=[some v,some (.int i)]∧NmV K c A H v l∧l.lookup i=some x,⟨n.length,rfl,vn,n,rfl,rfl,hn,hx⟩,?_⟩;rintro m σ Hi ⟨rfl,v,l,rfl,rfl,hv,hl⟩;cases hv with
   | nil=>cases hl
   | @cons a bx vr v0 j x' r h nb hb hv0 hr' =>
    refine⟨_,rfl,a,_,_,_,rfl,rfl,h,pH (j:=0) rfl,_,rfl,rfl,_,rfl,?_⟩;by_cases e:i=j
    · refine pI (by simp[e]) (ee _ _ ⟨_,rfl,a,_,_,_,rfl,rfl,h,pH (j:=1) rfl,?_⟩);rw[List.lookup_cons,show (i==j)=true by simpa using e] at hl;cases hl;exact q bx v0 hb hv0
    · refine pJ (by simpa using Ne.symm e) ?_;rw[List.lookup_cons,show (i==j)=false by simpa using e] at hl;refine⟨fun σ' H'=>H'=Hi∧σ'=[some vr,some (.int i)],fun σ' H' z=>⟨r.length,Nat.lt_succ_self _,z.1,vr,r,rfl,z.2,hr',hl⟩,?_⟩;exact⟨_,rfl,a,_,_,_,rfl,rfl,h,pH (j:=2) rfl,rfl,rfl⟩
def tel (S:MS) (x:Vl):MS:={S with T:=S.T++[x]}
def bgn (S:MS) (e:PyData) (n:Nm):MS:={S with W:=S.W++[⟨"begin",e,n,0⟩]}
def flt (S:MS) (s:Str):MS:={S with en:=some s}
abbrev Fin:=PyData→Nm→List Vl→MS→MS→Prop
inductive nW (K:Fg) (c:Ks) (ok:Fin) (vs:List V) (H:Hp) (Q:VK):Prop
  | mk (A:Ad) (S S':MS) (e:PyData) (n:Nm) (xs:List Vl) (us:List V) (l:Addr) (ve vn:V) (h0:vs=[.ref A.m,ve,vn,.ref l]) (h1:MV K c A H S) (h2:TD K H ve e) (h3:NmV K c A H vn n) (h4:H l=some (.lst us)) (h5:¬ A.own l) (h6:Paired (VlV K c A H) us xs) (h7:ok e n xs S S') (q:∀ H',Fr A H H'→MV K c A H' S'→Q .non H'):nW K c ok vs H Q
def cI (K:Fg) (c:Ks) (ok:Fin):Sp:=fun vs H Q _=>nW K c ok vs H Q
abbrev bo:List Str:=["machine","e","names","values"]
def g9:Fin:=fun e n xs S S'=>∃ i,e=num i∧S.T.length<200∧S'=tel S (.int i)
theorem jG (D:Def K mg "finish_number" (top 22)) (k:KC K mg c) (M_tell:MFn P w K mg base c.cc "tell" 1 ["self","value"] (gy K c)):Fn P w K mg base "finish_number" 5 bo (cI K c g9):=by
 have nd:(bo:List Str).Nodup:=by decide +kernel
 refine D.fn (N:=bo) ⟨rfl,rfl,rfl,nd,rfl,by decide +kernel,by decide +kernel⟩ (fun vs H Q E h=>?_) (fun _ _ _ _ _ _ us hl=>by obtain⟨a,b,d,e,rfl⟩:=eJ hl;rfl) (fun f' cdv A outer s' H vs Q E hr h=>?_)
 · obtain⟨A,S,S',e,n,xs,us,l,ve,vn,rfl,_⟩:=h;rfl
 · obtain⟨A,S,S',e,n,xs,us,l,ve,vn,rfl,m,he,hn,hl,nl,hu,ok,q⟩:=h;have hz0:(1000:Nat)<sizeLine:=by decide
   obtain⟨vd,h1,e1⟩:=m.m;refine⟨_,(pG (aC (aZ (pv 0) k.oc M_tell (hr.mono (by decide)) (pA (ab ae (pv 1) pF (fun _ _=>rfl)) pB)))),?_⟩;obtain⟨i,rfl,z,rfl⟩:=ok;obtain⟨a,ys,rfl,ha,hy⟩:=he.tup_of;obtain⟨y1,y2,rfl,t1,t2⟩:=em hy;cases t2;exact⟨_,rfl,A.m,A.dx,_,rfl,h1,rfl,_,rfl,a,_,_,_,rfl,rfl,ha,pH (j:=1) rfl,A,S,_,.int i,rfl,m,.int i,z,q⟩
def ju:Fin:=fun e n xs S S'=>∃ i x,e=.tuple [.str "name",.int i]∧n.lookup i=some x∧S.T.length<200∧S'=tel S x
theorem nA (D:Def K mg "finish_name" (top 23)) (k:KC K mg c) (M_tell:MFn P w K mg base c.cc "tell" 1 ["self","value"] (gy K c)) (og:Fn P w K mg base "box_of" 1 ["names","number"] (ux K c)):Fn P w K mg base "finish_name" 5 bo (cI K c ju):=by
 have nd:(["machine","e","names","values","box"]:List Str).Nodup:=by decide +kernel
 refine D.fn (N:=["machine","e","names","values","box"]) ⟨rfl,rfl,rfl,nd,rfl,by decide +kernel,by decide +kernel⟩ (fun vs H Q E h=>?_) (fun _ _ _ _ _ _ us hl=>by obtain⟨a,b,d,e,rfl⟩:=eJ hl;rfl) (fun f' cdv A outer s' H vs Q E hr h=>?_)
 · obtain⟨A,S,S',e,n,xs,us,l,ve,vn,rfl,_⟩:=h;rfl
 · obtain⟨A,S,S',e,n,xs,us,l,ve,vn,rfl,m,he,hn,hl,nl,hu,ok,q⟩:=h;have hz0:(1000:Nat)<sizeLine:=by decide
   obtain⟨vd,h1,e1⟩:=m.m;refine⟨_,(pD (pL (i:=4) nd rfl (Or.inl rfl) (ao og (hr.mono (by decide)) rfl (pA (pv 2) (pA (ab ae (pv 1) pF (fun _ _=>rfl)) pB)))) (pG (aC (aZ (pv 0) k.oc M_tell (hr.mono (by decide)) (pA (ab aE (pv 4) pF (fun _ _=>rfl)) pB))))),?_⟩;dsimp only[bE];obtain⟨i,x,rfl,hx,z,rfl⟩:=ok;obtain⟨a,ys,rfl,ha,hy⟩:=he.tup_of;obtain⟨y1,y2,rfl,t1,t2⟩:=em hy;cases t2;refine⟨_,rfl,_,rfl,a,_,_,_,rfl,rfl,ha,pH (j:=1) rfl,A,n,vn,i,x,rfl,hn,hx,fun bx v hb hv=>?_⟩;exact⟨_,rfl,A.m,A.dx,_,rfl,h1,rfl,_,rfl,bx,_,_,_,rfl,rfl,SqL.of hb,pH (j:=0) rfl,A,S,_,x,rfl,m,hv,z,q⟩
def sL:Fin:=fun e n xs S S'=>∃ ys x,xs=ys++[x]∧S.T.length<200∧S'=tel S x
theorem tm (D:Def K mg "finish_do" (top 26)) (k:KC K mg c) (M_tell:MFn P w K mg base c.cc "tell" 1 ["self","value"] (gy K c)):Fn P w K mg base "finish_do" 5 bo (cI K c sL):=by
 have nd:(bo:List Str).Nodup:=by decide +kernel
 refine D.fn (N:=bo) ⟨rfl,rfl,rfl,nd,rfl,by decide +kernel,by decide +kernel⟩ (fun vs H Q E h=>?_) (fun _ _ _ _ _ _ us hl=>by obtain⟨a,b,d,e,rfl⟩:=eJ hl;rfl) (fun f' cdv A outer s' H vs Q E hr h=>?_)
 · obtain⟨A,S,S',e,n,xs,us,l,ve,vn,rfl,_⟩:=h;rfl
 · obtain⟨A,S,S',e,n,xs,us,l,ve,vn,rfl,m,he,hn,hl,nl,hu,ok,q⟩:=h;have hz0:(1000:Nat)<sizeLine:=by decide
   obtain⟨vd,h1,e1⟩:=m.m;refine⟨_,(pG (aC (aZ (pv 0) k.oc M_tell (hr.mono (by decide)) (pA (ab aE (pv 3) (fo d3 pF) (fun _ _=>rfl)) pB)))),?_⟩;dsimp only[bE];obtain⟨ys,x,rfl,z,rfl⟩:=ok;have ul:=bc hu;rw[lAp] at ul;obtain⟨v,hv,vv⟩:=aO hu (i:=ys.length) (y:=x) (by rw[List.getElem?_append_right (Nat.le_refl _),Nat.sub_self];rfl);have el:atI us (-1)=some v:=by
    have ne:us≠[]:=fun e=>by rw[e] at ul;cases ul
    rw[← List.dropLast_concat_getLast ne,nP];rw[List.getLast_eq_getElem ne];have hh:=(gES.mp hv).2;rw[← hh];congr 1;congr 1;show us.length-1=ys.length;have:us.length=ys.length+1:=ul;omega
   exact⟨_,rfl,A.m,A.dx,_,rfl,h1,rfl,_,rfl,_,rfl,l,_,_,_,rfl,rfl,SqL.of hl,el,A,S,_,x,rfl,m,vv,z,q⟩
def sK:Fin:=fun e n xs S S'=>∃ a b d x,e=.tuple [.str "if",a,b,d]∧xs=[x]∧S.W.length<200∧S'=bgn S (if wth x=0 then d else b) n
theorem tj (D:Def K mg "finish_if" (top 27)) (k:KC K mg c) (M_begin:MFn P w K mg base c.cc "begin" 2 ["self","e","names"] (lg K c)) (cb:Fn P w K mg base "worth" 1 ["value"] (oy K c)):Fn P w K mg base "finish_if" 5 bo (cI K c sK):=by
 have nd:(bo:List Str).Nodup:=by decide +kernel
 refine D.fn (N:=bo) ⟨rfl,rfl,rfl,nd,rfl,by decide +kernel,by decide +kernel⟩ (fun vs H Q E h=>?_) (fun _ _ _ _ _ _ us hl=>by obtain⟨a,b,d,e,rfl⟩:=eJ hl;rfl) (fun f' cdv A outer s' H vs Q E hr h=>?_)
 · obtain⟨A,S,S',e,n,xs,us,l,ve,vn,rfl,_⟩:=h;rfl
 · obtain⟨A,S,S',e,n,xs,us,l,ve,vn,rfl,m,he,hn,hl,nl,hu,ok,q⟩:=h;have hz0:(1000:Nat)<sizeLine:=by decide
   obtain⟨vd,h1,e1⟩:=m.m;refine⟨_,(pG (aC (aZ (pv 0) k.oc M_begin (hr.mono (by decide)) (pA (aN (pM gR (ao cb (hr.mono (by decide)) rfl (pA (ab aE (pv 3) pF (fun _ _=>rfl)) pB)) pF (pN _)) (ab ae (pv 1) pF (fun _ _=>rfl)) (ab ae (pv 1) pF (fun _ _=>rfl))) (pA (pv 2) pB))))),?_⟩;dsimp only[bE];obtain⟨a,b,d,x,rfl,rfl,z,rfl⟩:=ok;obtain⟨ad,ys,rfl,ha,hy⟩:=he.tup_of;obtain⟨y1,yr,rfl,t1,tr⟩:=bh hy;obtain⟨y2,y3,y4,rfl,t2,t3,t4⟩:=dN tr;obtain⟨v,hv,vv⟩:=aO hu (i:=0) rfl;refine⟨_,rfl,A.m,A.dx,_,rfl,h1,rfl,_,rfl,l,_,_,_,rfl,rfl,SqL.of hl,pH (j:=0) hv,A,v,x,rfl,vv,rfl,_,rfl,?_⟩;by_cases ex:wth x=0
   · rw[if_pos ex] at q;refine pI (by simp[ex]) ⟨_,rfl,ad,_,_,_,rfl,rfl,ha,pH (j:=3) rfl,_,rfl,A,S,d,n,_,vn,rfl,m,t4,hn,z,q⟩
   · rw[if_neg ex] at q;refine pJ (by simpa using ex) ⟨_,rfl,ad,_,_,_,rfl,rfl,ha,pH (j:=2) rfl,_,rfl,A,S,b,n,_,vn,rfl,m,t3,hn,z,q⟩
def mP:Fin:=fun e n xs S S'=>∃ x,xs=[x]∧S.T.length<200∧S.D.length<200∧S'=tel {S with D:=S.D++[lk x]} x
theorem pR (D:Def K mg "finish_say" (top 30)) (k:KC K mg c) (M_tell:MFn P w K mg base c.cc "tell" 1 ["self","value"] (gy K c)) (jX:Fn P w K mg base "look" 1 ["value"] (rP K c)):Fn P w K mg base "finish_say" 5 bo (cI K c mP):=by
 have nd:(bo:List Str).Nodup:=by decide +kernel
 refine D.fn (N:=bo) ⟨rfl,rfl,rfl,nd,rfl,by decide +kernel,by decide +kernel⟩ (fun vs H Q E h=>?_) (fun _ _ _ _ _ _ us hl=>by obtain⟨a,b,d,e,rfl⟩:=eJ hl;rfl) (fun f' cdv A outer s' H vs Q E hr h=>?_)
 · obtain⟨A,S,S',e,n,xs,us,l,ve,vn,rfl,_⟩:=h;rfl
 · obtain⟨A,S,S',e,n,xs,us,l,ve,vn,rfl,m,he,hn,hl,nl,hu,ok,q⟩:=h;have hz0:(1000:Nat)<sizeLine:=by decide
   obtain⟨vd,h1,e1⟩:=m.m;refine⟨_,(pD (aC (cj (bq (pv 0) rfl) (pA (ao jX (hr.mono (by decide)) rfl (pA (ab aE (pv 3) pF (fun _ _=>rfl)) pB)) pB))) (pG (aC (aZ (pv 0) k.oc M_tell (hr.mono (by decide)) (pA (ab aE (pv 3) pF (fun _ _=>rfl)) pB))))),?_⟩;dsimp only[bE];obtain⟨x,rfl,z,z2,rfl⟩:=ok;obtain⟨v,hv,vv⟩:=aO hu (i:=0) rfl;obtain⟨ds,hd,ed⟩:=m.s;have dl:=bc ed;refine⟨_,rfl,A.m,c.cc,A.dx,_,_,rfl,h1,k.oc,k.n10,rfl,.inl ⟨rfl,_,SqL.of hd⟩,_,rfl,l,_,_,_,rfl,rfl,SqL.of hl,pH (j:=0) hv,A,v,x,rfl,vv,fun v' H2 s2 lv=>?_⟩;have m2:=m.same s2;refine⟨A.da,ds,_,rfl,rfl,s2 _ _ hd,by omega,?_⟩;have f2:=m2.upd_fr (o:=.lst (ds++[v'])) (.inr (.inr (.inr rfl)));have m3:=m2.putD (dQ (aq ed fun _ _ z=>z.fr (.of (A:=A) s2)) (.cons lv .nil)) (by rw[lAp];show S.D.length+1≤200;omega);have F3:Fr A H _:=(Fr.of s2).trans f2;obtain⟨vd3,h3,_⟩:=m3.m;have hl3:=F3.kp _ _ nl hl;exact⟨_,rfl,A.m,A.dx,_,rfl,h3,rfl,_,rfl,l,_,_,_,rfl,rfl,SqL.of hl3,pH (j:=0) hv,A,_,_,x,rfl,m3,vv.fr F3,z,fun H' f' m'=>q H' (F3.trans f') m'⟩
def sJ:Fin:=fun e n xs S S'=>∃ s es,e=.tuple [.str "op",.str s,es]∧OpA s xs∧xs.length≤8∧S.T.length<200∧S'=(match opF s xs with | none=>tel S (opV s xs) | some f=>flt S f)
theorem t9 (D:Def K mg "finish_op" (top 32)) (k:KC K mg c) (M_tell:MFn P w K mg base c.cc "tell" 1 ["self","value"] (gy K c)) (M_fault:MFn P w K mg base c.cc "fault" 1 ["self","word"] (oC K c)) (jW:Fn P w K mg base "op_fault" 2 ["word","things"] (ui K c)) (jV:Fn P w K mg base "op_value" 3 ["word","things"] (ug K c)):Fn P w K mg base "finish_op" 5 bo (cI K c sJ):=by
 have nd:(["machine","e","names","values","fault"]:List Str).Nodup:=by decide +kernel
 refine D.fn (N:=["machine","e","names","values","fault"]) ⟨rfl,rfl,rfl,nd,rfl,by decide +kernel,by decide +kernel⟩ (fun vs H Q E h=>?_) (fun _ _ _ _ _ _ us hl=>by obtain⟨a,b,d,e,rfl⟩:=eJ hl;rfl) (fun f' cdv A outer s' H vs Q E hr h=>?_)
 · obtain⟨A,S,S',e,n,xs,us,l,ve,vn,rfl,_⟩:=h;rfl
 · obtain⟨A,S,S',e,n,xs,us,l,ve,vn,rfl,m,he,hn,hl,nl,hu,ok,q⟩:=h;have hz0:(1000:Nat)<sizeLine:=by decide
   obtain⟨vd,h1,e1⟩:=m.m;refine⟨_,(pD (pL (i:=4) nd rfl (Or.inl rfl) (ao jW (hr.mono (by decide)) rfl (pA (ab ae (pv 1) pF (fun _ _=>rfl)) (pA (pv 3) pB)))) (pG (aw (pM jr (pv 4) eZ (pN _)) (pG (aC (aZ (pv 0) k.oc M_tell (hr.mono (by decide)) (pA (ao jV (hr.mono (by decide)) rfl (pA (ab ae (pv 1) pF (fun _ _=>rfl)) (pA (pv 3) pB))) pB)))) (pG (aC (aZ (pv 0) k.oc M_fault (hr.mono (by decide)) (pA (pv 4) pB))))))),?_⟩;dsimp only[bE];obtain⟨s,es,rfl,oa,h8,z,rfl⟩:=ok;obtain⟨ad,ys,rfl,ha,hy⟩:=he.tup_of;obtain⟨y1,y2,y3,rfl,t1,t2,t3⟩:=dN hy;cases t2;refine⟨_,rfl,ad,_,_,_,rfl,rfl,ha,pH (j:=1) rfl,_,rfl,A,s,l,us,xs,rfl,hl,hu,oa,fun H2 s2=>?_⟩;have m2:=m.same s2;have h12:=s2 _ _ h1;cases ef:opF s xs with
   | none =>
    rw[ef] at q;refine⟨_,rfl,rfl,_,rfl,aW ?_⟩;refine⟨_,rfl,A.m,A.dx,_,rfl,h12,rfl,_,rfl,ad,_,_,_,rfl,rfl,ha.tk s2.tk,pH (j:=1) rfl,_,rfl,A,s,l,us,xs,rfl,s2 _ _ hl,aq hu fun _ _ z=>z.fr (.of s2),oa,ef,h8,fun v H3 s3 hv=>?_⟩;exact⟨A,S,v,_,rfl,m2.same s3,hv,z,fun H' f' m'=>q H' ((Fr.of (s2.trans s3)).trans f') m'⟩
   | some f =>
    rw[ef] at q;refine⟨_,rfl,rfl,_,rfl,pI (by show ¬ decide (V.str f=V.non)=true;simp) ?_⟩;exact⟨_,rfl,A.m,A.dx,_,rfl,h12,rfl,_,rfl,A,S,f,rfl,m2,fun H' f' m'=>q H' ((Fr.of s2).trans f') m'⟩
def mQ:Fin:=fun e n xs S S'=>∃ r i es,e=.tuple [.str "new",.int r,es]∧xs=[.int i]∧S.T.length<200∧S'=tel S (.made r i)
theorem pS (D:Def K mg "finish_new" (top 33)) (k:KC K mg c) (M_tell:MFn P w K mg base c.cc "tell" 1 ["self","value"] (gy K c)) (I_Made:IFn P w K mg base c.cm 1 ["self","record","things"] (uk c)):Fn P w K mg base "finish_new" 5 bo (cI K c mQ):=by
 have nd:(bo:List Str).Nodup:=by decide +kernel
 refine D.fn (N:=bo) ⟨rfl,rfl,rfl,nd,rfl,by decide +kernel,by decide +kernel⟩ (fun vs H Q E h=>?_) (fun _ _ _ _ _ _ us hl=>by obtain⟨a,b,d,e,rfl⟩:=eJ hl;rfl) (fun f' cdv A outer s' H vs Q E hr h=>?_)
 · obtain⟨A,S,S',e,n,xs,us,l,ve,vn,rfl,_⟩:=h;rfl
 · obtain⟨A,S,S',e,n,xs,us,l,ve,vn,rfl,m,he,hn,hl,nl,hu,ok,q⟩:=h;have hz0:(1000:Nat)<sizeLine:=by decide
   obtain⟨vd,h1,e1⟩:=m.m;refine⟨_,(pG (aC (aZ (pv 0) k.oc M_tell (hr.mono (by decide)) (pA (jq I_Made (hr.mono (by decide)) rfl k.gM (pA (ab ae (pv 1) pF (fun _ _=>rfl)) (pA (pv 3) pB))) pB)))),?_⟩;dsimp only[bE];obtain⟨r,i,es,rfl,rfl,z,rfl⟩:=ok;obtain⟨ad,ys,rfl,ha,hy⟩:=he.tup_of;obtain⟨y1,y2,y3,rfl,t1,t2,t3⟩:=dN hy;cases t2;cases hu with
   | cons vv hn' =>
    cases hn';cases vv;refine⟨_,rfl,A.m,A.dx,_,rfl,h1,rfl,_,rfl,ad,_,_,_,rfl,rfl,ha,pH (j:=1) rfl,_,rfl,fun x dx hx0 hdx ne=>?_⟩;have k3:=smu (o:=HO.own x) hdx;have hx1:(upd H dx (.own x)) x=none:=by rw[a0 (Ne.symm ne)];exact hx0
    have k4:=smu (o:=HO.ins c.cm dx []) hx1;have k34:=k3.trans k4;refine⟨x,dx,_,_,rfl,pE,fun H3 kp h3=>⟨rfl,?_⟩⟩;have s3:ai H H3:=fun b u e=>kp b u (ah e hx0) (k34 _ _ e);exact⟨A,S,_,_,rfl,m.same s3,.made h3 (s3 _ _ hl) (m.new hx0) nl,z,fun H' f' m'=>q H' ((Fr.of s3).trans f') m'⟩
def mS:Fin:=fun e n xs S S'=>∃ ids,e=.tuple [.str "fun",.tuple (ids.map .int),num 5]∧n=[]∧S.T.length<200∧S'=tel S (.fn ids)
theorem pV (D:Def K mg "finish_fun" (top 35)) (k:KC K mg c) (M_tell:MFn P w K mg base c.cc "tell" 1 ["self","value"] (gy K c)) (I_Fun:IFn P w K mg base c.cf 1 ["self","ids","body","names"] (ut c)):Fn P w K mg base "finish_fun" 5 bo (cI K c mS):=by
 have nd:(bo:List Str).Nodup:=by decide +kernel
 refine D.fn (N:=bo) ⟨rfl,rfl,rfl,nd,rfl,by decide +kernel,by decide +kernel⟩ (fun vs H Q E h=>?_) (fun _ _ _ _ _ _ us hl=>by obtain⟨a,b,d,e,rfl⟩:=eJ hl;rfl) (fun f' cdv A outer s' H vs Q E hr h=>?_)
 · obtain⟨A,S,S',e,n,xs,us,l,ve,vn,rfl,_⟩:=h;rfl
 · obtain⟨A,S,S',e,n,xs,us,l,ve,vn,rfl,m,he,hn,hl,nl,hu,ok,q⟩:=h;have hz0:(1000:Nat)<sizeLine:=by decide
   obtain⟨vd,h1,e1⟩:=m.m;refine⟨_,(pG (aC (aZ (pv 0) k.oc M_tell (hr.mono (by decide)) (pA (jq I_Fun (hr.mono (by decide)) rfl k.gF (pA (ab ae (pv 1) pF (fun _ _=>rfl)) (pA (ab ae (pv 1) pF (fun _ _=>rfl)) (pA (pv 2) pB)))) pB)))),?_⟩;dsimp only[bE];obtain⟨ids,rfl,rfl,z,rfl⟩:=ok;obtain⟨ad,ys,rfl,ha,hy⟩:=he.tup_of;obtain⟨y1,y2,y3,rfl,t1,t2,t3⟩:=dN hy;obtain⟨ti,zs,rfl,hti,hzs⟩:=t2.tup_of;have ez:=eh hzs;subst ez;cases hn;refine⟨_,rfl,A.m,A.dx,_,rfl,h1,rfl,_,rfl,ad,_,_,_,rfl,rfl,ha,pH (j:=1) rfl,_,rfl,ad,_,_,_,rfl,rfl,ha,pH (j:=2) rfl,_,rfl,fun x dx hx0 hdx ne=>?_⟩;have k3:=smu (o:=HO.own x) hdx;have hx1:(upd H dx (.own x)) x=none:=by rw[a0 (Ne.symm ne)];exact hx0
   have k4:=smu (o:=HO.ins c.cf dx []) hx1;have k34:=k3.trans k4;refine⟨x,dx,_,_,_,rfl,pE,fun H3 kp h3=>⟨rfl,?_⟩⟩;have s3:ai H H3:=fun b u e=>kp b u (ah e hx0) (k34 _ _ e);exact⟨A,S,_,_,rfl,m.same s3,.fn h3 (hti.tk s3.tk) (t3.same s3) (m.new hx0),z,fun H' f' m'=>q H' ((Fr.of s3).trans f') m'⟩
def mR:Fin:=fun e n xs S S'=>∃ r x d,e=.tuple [.str "get",.int r,.int 0,d]∧xs=[x]∧S.T.length<200∧S'=(match x with | .made r' i=>if r'=r then tel S (.int i) else flt S "field" | _=>flt S "field")
theorem pU (D:Def K mg "finish_get" (top 34)) (k:KC K mg c) (T:Blt mg) (M_tell:MFn P w K mg base c.cc "tell" 1 ["self","value"] (gy K c)) (M_fault:MFn P w K mg base c.cc "fault" 1 ["self","word"] (oC K c)):Fn P w K mg base "finish_get" 5 bo (cI K c mR):=by
 have nd:(["machine","e","names","values","made"]:List Str).Nodup:=by decide +kernel
 refine D.fn (N:=["machine","e","names","values","made"]) ⟨rfl,rfl,rfl,nd,rfl,by decide +kernel,by decide +kernel⟩ (fun vs H Q E h=>?_) (fun _ _ _ _ _ _ us hl=>by obtain⟨a,b,d,e,rfl⟩:=eJ hl;rfl) (fun f' cdv A outer s' H vs Q E hr h=>?_)
 · obtain⟨A,S,S',e,n,xs,us,l,ve,vn,rfl,_⟩:=h;rfl
 · obtain⟨A,S,S',e,n,xs,us,l,ve,vn,rfl,m,he,hn,hl,nl,hu,ok,q⟩:=h;have hz0:(1000:Nat)<sizeLine:=by decide
   obtain⟨vd,h1,e1⟩:=m.m;refine⟨_,(pD (pL (i:=4) nd rfl (Or.inl rfl) (ab aE (pv 3) pF (fun _ _=>rfl))) (pG (aw (PW.pt (dP (cH (gv T.isinstance (pA (pv 4) (pA (cN (v:=.ref c.cm) rfl k.gM rfl) pB)))) (cM (pM aA (bq (pv 4) rfl) (ab ae (pv 1) pF (fun _ _=>rfl)) (pN _))))) (pG (aC (aZ (pv 0) k.oc M_tell (hr.mono (by decide)) (pA (ab aE (bq (pv 4) rfl) (ab ae (pv 1) pF (fun _ _=>rfl)) (fun _ _=>rfl)) pB)))) (pG (aC (aZ (pv 0) k.oc M_fault (hr.mono (by decide)) (pA pC pB))))))),?_⟩;dsimp only[bE];obtain⟨r,x,d,rfl,rfl,z,rfl⟩:=ok;obtain⟨ad,ys,rfl,ha,hy⟩:=he.tup_of;obtain⟨y1,yr,rfl,t1,tr⟩:=bh hy;obtain⟨y2,y3,y4,rfl,t2,t3,t4⟩:=dN tr;cases t2;cases t3;obtain⟨v,hv,vv⟩:=aO hu (i:=0) rfl;refine⟨_,rfl,l,_,_,_,rfl,rfl,SqL.of hl,pH (j:=0) hv,?_⟩;refine⟨_,rfl,.one v _ _ _ _ rfl (.own c.cm) (k.ty vv) (k.kM x) ⟨_,rfl,?_⟩⟩;cases vv with
   | int i=>exact aP (aP ⟨_,rfl,A.m,A.dx,_,rfl,h1,rfl,A,S,_,rfl,m,q⟩)
   | tup h=>exact aP (aP ⟨_,rfl,A.m,A.dx,_,rfl,h1,rfl,A,S,_,rfl,m,q⟩)
   | fn h _ _ _=>exact aP (aP ⟨_,rfl,A.m,A.dx,_,rfl,h1,rfl,A,S,_,rfl,m,q⟩)
   | @made x' dx' l' r' i hx hl' n1 n2 =>
    refine aW ⟨_,rfl,x',c.cm,dx',_,_,rfl,hx,k.om.cl,k.n1,rfl,_,rfl,ad,_,_,_,rfl,rfl,ha,pH (j:=1) rfl,rfl,_,rfl,?_⟩;by_cases er:r'=r
    · have q':∀ H',Fr A H H'→MV K c A H' (tel S (.int i))→Q .non H':=fun H' f' m'=>q H' f' (by show MV K c A H' (if r'=r then _ else _);rw[if_pos er];exact m');refine pJ (by simp[er]) ⟨_,rfl,A.m,A.dx,_,rfl,h1,rfl,_,rfl,x',c.cm,dx',_,_,rfl,hx,k.om.cl,k.n2,rfl,_,rfl,ad,_,_,_,rfl,rfl,ha,pH (j:=2) rfl,l',_,_,_,rfl,rfl,SqL.of hl',pH (j:=0) rfl,A,S,_,_,rfl,m,.int i,z,q'⟩
    · have q':∀ H',Fr A H H'→MV K c A H' (flt S "field")→Q .non H':=fun H' f' m'=>q H' f' (by show MV K c A H' (if r'=r then _ else _);rw[if_neg er];exact m');exact pI (by simpa using er) ⟨_,rfl,A.m,A.dx,_,rfl,h1,rfl,A,S,_,rfl,m,q'⟩
def ij:Fin:=fun e n xs S S'=>∃ x ys,xs=x::ys∧S.W.length<200∧S.k≠0∧ys.length≤8∧S'=(match x with | .fn ids=>if ids.length=ys.length then bgn {S with k:=S.k-1} (num 5) (bnd [] ids ys) else flt S "apply" | _=>flt S "apply")
theorem lE (D:Def K mg "finish_apply" (top 36)) (k:KC K mg c) (T:Blt mg) (M_begin:MFn P w K mg base c.cc "begin" 2 ["self","e","names"] (lg K c)) (M_fault:MFn P w K mg base c.cc "fault" 1 ["self","word"] (oC K c)) (M_tick:MFn P w K mg base c.cc "tick" 1 ["self"] (ub K c)) (bJ:Fn P w K mg base "bound_names" 1 lm (ml K c)):Fn P w K mg base "finish_apply" 5 bo (cI K c ij):=by
 have nd:(["machine","e","names","values","fun"]:List Str).Nodup:=by decide +kernel
 refine D.fn (N:=["machine","e","names","values","fun"]) ⟨rfl,rfl,rfl,nd,rfl,by decide +kernel,by decide +kernel⟩ (fun vs H Q E h=>?_) (fun _ _ _ _ _ _ us hl=>by obtain⟨a,b,d,e,rfl⟩:=eJ hl;rfl) (fun f' cdv A outer s' H vs Q E hr h=>?_)
 · obtain⟨A,S,S',e,n,xs,us,l,ve,vn,rfl,_⟩:=h;rfl
 · obtain⟨A,S,S',e,n,xs,us,l,ve,vn,rfl,m,he,hn,hl,nl,hu,ok,q⟩:=h;have hz0:(1000:Nat)<sizeLine:=by decide
   obtain⟨vd,h1,e1⟩:=m.m;refine⟨_,(pD (pL (i:=4) nd rfl (Or.inl rfl) (ab aE (pv 3) pF (fun _ _=>rfl))) (pG (aw (PW.pt (gP (eY (cH (gv T.isinstance (pA (pv 4) (pA (cN (v:=.ref c.cf) rfl k.gF rfl) pB))))) (fV (pM gR (bX T.len (pA (bq (pv 4) rfl) pB)) (au c6 (bX T.len (pA (pv 3) pB)) pF) (pN _))))) (pG (aC (aZ (pv 0) k.oc M_fault (hr.mono (by decide)) (pA pC pB)))) (pG (aw (cH (oN (pv 0) k.oc M_tick (hr.mono (by decide)))) (pG (aC (aZ (pv 0) k.oc M_begin (hr.mono (by decide)) (pA (bq (pv 4) rfl) (pA (ao bJ (hr.mono (by decide)) rfl (pA (bq (pv 4) rfl) (pA (bq (pv 4) rfl) (pA (bj kq (pv 3) (bf pF) bD) pB)))) pB))))) aj))))),?_⟩;dsimp only[bE];obtain⟨x,ys,rfl,z,hk,h8,rfl⟩:=ok;have ul:=bc hu;rw[List.length_cons] at ul;obtain⟨v,hv,vv⟩:=aO hu (i:=0) rfl;refine⟨_,rfl,l,_,_,_,rfl,rfl,SqL.of hl,pH (j:=0) hv,?_⟩;refine⟨_,rfl,.one v _ _ _ _ rfl (.own c.cf) (k.ty vv) (k.kF x) ⟨_,rfl,?_⟩⟩;cases vv with
   | int i=>exact aW (aW ⟨_,rfl,A.m,A.dx,_,rfl,h1,rfl,A,S,_,rfl,m,q⟩)
   | tup h=>exact aW (aW ⟨_,rfl,A.m,A.dx,_,rfl,h1,rfl,A,S,_,rfl,m,q⟩)
   | made h _ _ _=>exact aW (aW ⟨_,rfl,A.m,A.dx,_,rfl,h1,rfl,A,S,_,rfl,m,q⟩)
   | @fn x' dx' t' vb ids hx ht hb n1 =>
    refine aP ⟨_,rfl,x',c.cf,dx',_,_,rfl,hx,k.of.cl,k.n3,rfl,t',_,rfl,.inr ht,_,rfl,l,_,rfl,.inl (SqL.of hl),_,_,rfl,rfl,rfl,_,rfl,?_⟩;rw[lMp,show ((us.length:Nat):Int)-1=((ys.length:Nat):Int) by omega];by_cases er:ids.length=ys.length
    · have q':∀ H',Fr A H H'→MV K c A H' (bgn {S with k:=S.k-1} (num 5) (bnd [] ids ys))→Q .non H':=fun H' f' m'=>q H' f' (by show MV K c A H' (if ids.length=ys.length then _ else _);rw[if_pos er];exact m');refine pI (by simp[er]) ?_;refine⟨_,rfl,A.m,A.dx,_,rfl,h1,rfl,A,S,rfl,m,hk,fun H2 f2 m2=>⟨_,rfl,aW ?_⟩⟩;obtain⟨vd2,h12,_⟩:=m2.m;have hx2:=f2.kp _ _ n1 hx;have hl2:=f2.kp _ _ nl hl;refine⟨_,rfl,A.m,A.dx,_,rfl,h12,rfl,_,rfl,x',c.cf,dx',_,_,rfl,hx2,k.of.cl,k.n4,rfl,_,rfl,x',c.cf,dx',_,_,rfl,hx2,k.of.cl,k.n5,rfl,_,rfl,x',c.cf,dx',_,_,rfl,hx2,k.of.cl,k.n3,rfl,_,rfl,_,rfl,l,us,rfl,SqL.of hl2,fun p hp=>?_⟩;have ec:=@bV us 1 (by omega);have s3:=smu (o:=HO.lst (cx us (some 1) none)) hp;have dp:Paired (VlV K c A H) (us.drop 1) ys:=fq hu 1;refine⟨A,_,[],.non,t',p,ids,us.drop 1,ys,rfl,m2.same s3,.nil,(ht.tk f2.tk).tk s3.tk,SqL.of (by rw[pE];exact congrArg (fun z=>some (HO.lst z)) ec),aq dp fun _ _ z=>(z.fr f2).fr (.of s3),er,fun v' H4 s4 hv'=>?_⟩;exact⟨A,_,_,_,_,v',rfl,(m2.same s3).same s4,((hb.tk f2.tk).same s3).same s4,hv',z,fun H' f' m'=>q' H' ((f2.trans (.of (s3.trans s4))).trans f') m'⟩
    · have q':∀ H',Fr A H H'→MV K c A H' (flt S "apply")→Q .non H':=fun H' f' m'=>q H' f' (by show MV K c A H' (if ids.length=ys.length then _ else _);rw[if_neg er];exact m');refine pJ (by simpa using fun z=>er (by omega)) ⟨_,rfl,A.m,A.dx,_,rfl,h1,rfl,A,S,_,rfl,m,q'⟩
end
def bgs (b:PDs) (n:Nm):List Tsk:=b.reverse.map fun e=>⟨"begin",e,n,0⟩
section
variable {P:Program} {w:World} {K:Fg} {mg:SOV} {base:Heap} {c:Ks}
def eaW (e b:PyData) (i:Int) (js:List Int) (n:Nm):List Tsk:=⟨"over",e,n,js.length⟩::js.reverse.map fun j=>⟨"begin",b,(i,.int j)::n,0⟩
def jv:Fin:=fun e n xs S S'=>∃ i a b x,e=.tuple [.str "each",.int i,a,b]∧xs=[x]∧(rwo x).length≤8∧S.W.length≤100∧S'={S with W:=S.W++eaW e b i (rwo x) n}
theorem nB (D:Def K mg "finish_each" (top 29)) (k:KC K mg c) (T:Blt mg) (M_begin:MFn P w K mg base c.cc "begin" 2 ["self","e","names"] (lg K c)) (M_wait:MFn P w K mg base c.cc "wait" 1 ["self","task","e","names","count"] (ox K c)) (dq:Fn P w K mg base "row_of" 1 ["value"] (oA K c)) (bJ:Fn P w K mg base "bound_names" 1 lm (qu K c)):Fn P w K mg base "finish_each" 5 bo (cI K c jv):=by
 have nd:(["machine","e","names","values","numbers","number"]:List Str).Nodup:=by decide +kernel
 refine D.fn (N:=["machine","e","names","values","numbers","number"]) ⟨rfl,rfl,rfl,nd,rfl,by decide +kernel,by decide +kernel⟩ (fun vs H Q E h=>?_) (fun _ _ _ _ _ _ us hl=>by obtain⟨a,b,d,e,rfl⟩:=eJ hl;rfl) (fun f' cdv A outer s' H vs Q E hr h=>?_)
 · obtain⟨A,S,S',e,n,xs,us,l,ve,vn,rfl,_⟩:=h;rfl
 · obtain⟨A,S,S',e,n,xs,us,l,ve,vn,rfl,m,he,hn,hl,nl,hu,ok,q⟩:=h;have hz0:(1000:Nat)<sizeLine:=by decide
   refine⟨_,(pD (pL (i:=4) nd rfl (Or.inl rfl) (ao dq (hr.mono (by decide)) rfl (pA (ab aE (pv 3) pF (fun _ _=>rfl)) pB)))
 (pD (aC (aZ (pv 0) k.oc M_wait (hr.mono (by decide)) (pA pC (pA (pv 1) (pA (pv 2) (pA (bX T.len (pA (pv 4) pB)) pB))))))
 (pG (bS PassesOwn.never rfl (d8 (kB (pv 4) (bf (fo d3 pF)))) (ar (i:=5) nd rfl (Or.inl rfl))
 (pG (aC (aZ (pv 0) k.oc M_begin (hr.mono (by decide)) (pA (ab ae (pv 1) pF (fun _ _=>rfl)) (pA (ao bJ (hr.mono (by decide)) rfl (pA (pv 2) (pA (aa (pA (ab ae (pv 1) pF (fun _ _=>rfl)) pB)) (pA (aa (pA (pv 5) pB)) pB)))) pB))))))))),?_⟩
   dsimp only[bE];obtain⟨i,a,b,x,rfl,rfl,h8,z,rfl⟩:=ok;obtain⟨v,hv,vv⟩:=aO hu (i:=0) rfl;refine⟨_,rfl,l,_,_,_,rfl,rfl,SqL.of hl,pH (j:=0) hv,A,v,x,rfl,vv,fun ra H1 s1 hra=>?_⟩;have m1:=m.same s1;obtain⟨vd,h1,e1⟩:=m1.m;have he1:=he.same s1;refine⟨_,rfl,A.m,A.dx,_,rfl,h1,rfl,_,rfl,_,rfl,_,rfl,ra,_,rfl,.inr hra,?_⟩;rw[lMp];refine⟨A,S,⟨"over",_,n,(rwo x).length⟩,_,vn,rfl,m1,he1,hn.fr (.of s1),by omega,fun H2 f2 m2=>?_⟩;have hra2:=hra.tk f2.tk;refine⟨_,rfl,_,rfl,_,rfl,ra,_,rfl,rfl,hra2,fun p hp=>?_⟩;have s3:=smu (o:=HO.tup ((rwo x).map V.int).reverse) hp;have m3:=m2.same s3;have F3:Fr A H _:=(Fr.of s1).trans (f2.trans (.of s3));have hp3:SqT K (upd H2 p (.tup ((rwo x).map V.int).reverse)) p (((rwo x).reverse).map V.int):=SqT.of (by rw[pE,List.map_reverse]);refine⟨p,rfl,⟨_,hp3⟩,?_⟩;generalize upd H2 p (.tup ((rwo x).map V.int).reverse)=H3 at s3 m3 F3 hp3 ⊢;show az _ _ _ _ _ _;refine az.byN (bL (xs:=((rwo x).reverse).map V.int)) (fun j σ Hj=>Fr A H3 Hj∧MV K c A Hj {S with W:=S.W++[⟨"over",_,n,(rwo x).length⟩]++((rwo x).reverse.take j).map fun j=>⟨"begin",b,(i,.int j)::n,0⟩}∧∃ x5,σ=[some (.ref A.m),some ve,some vn,some (.ref l),some (.ref ra),x5]) ⟨Fr.refl,by rw[List.take_zero,List.map_nil,List.append_nil];exact m3,_,rfl⟩ (fun _ _ _ _ z=>hp3.tk z.1.tk) ?_ ?_
   · rintro j u σ Hj N_ B_ hN_ hB_ hu' ⟨fj,mj,x5,rfl⟩;have hj:j<(rwo x).reverse.length:=by have:=(gES.mp hu').1;rwa [lMp] at this
     have hj':j<(rwo x).length:=by rwa [List.length_reverse] at hj
     have hyj:(rwo x).reverse[j]?=some ((rwo x).reverse[j]):=gEE hj;rw[gEM,hyj] at hu';cases hu';generalize (rwo x).reverse[j]=y at hyj ⊢;obtain⟨vd4,h4,e4⟩:=mj.m;have Fj:=F3.trans fj;have hej:=he.tk Fj.tk;obtain⟨ad,ys,rfl,ha,hy⟩:=hej.tup_of;obtain⟨y1,yr,rfl,t1,tr⟩:=bh hy;obtain⟨y2,y3,y4,rfl,t2,t3,t4⟩:=dN tr;cases t2;refine⟨_,rfl,A.m,A.dx,_,rfl,h4,rfl,_,rfl,ad,_,_,_,rfl,rfl,ha,pH (j:=3) rfl,_,rfl,_,rfl,ad,_,_,_,rfl,rfl,ha,pH (j:=1) rfl,jd,fun p1 hp1=>?_⟩;have k1:=smu (o:=HO.tup [.int i]) hp1;refine⟨_,rfl,jd,fun p2 hp2=>?_⟩;have k2:=smu (o:=HO.tup [.int y]) hp2;have k12:=k1.trans k2;refine⟨A,_,n,vn,p1,p2,[i],[.int y],[.int y],rfl,mj.same k12,(hn.fr Fj).fr (.of k12),SqT.of (k2 _ _ pE),SqT.of pE,.cons (.int y) .nil,rfl,fun v' H5 s5 hv'=>?_⟩;have s15:=k12.trans s5;refine⟨A,_,b,_,_,v',rfl,mj.same s15,t4.same s15,hv',?_,fun H6 f6 m6=>?_⟩
     · simp only[lAp,lMp,lTk,List.length_cons,List.length_nil];omega
     · refine hN_ _ _ ⟨(fj.trans (.of s15)).trans f6,?_,_,rfl⟩;rw[tAO,hyj,List.map_append];have:∀ (X Y Z:List Tsk),X++(Y++Z)=X++Y++Z:=fun X Y Z=>(List.append_assoc X Y Z).symm;rw[this];exact m6
   · rintro σ Hj ⟨fj,mj,x5,rfl⟩;rw[lMp,List.take_length,List.append_assoc] at mj;exact q Hj (F3.trans fj) mj
def wI:List Str:=["let","var","each","if","while"]
def dX (h:Str) (ks:PDs):PDs:=if h="fun" then [] else if c7 h wI=true then ks.take 1 else ks
abbrev sFt:Stmt:=top 39
inductive qZ (K:Fg) (vs:List V) (H:Hp) (Q:VK):Prop
  | mk (v:V) (d:PyData) (h:Str) (sl:List Str) (ps:PDs) (h0:vs=[v]) (h1:TD K H v d) (h2:Nd d h sl ps) (q:∀ v' H',ai H H'→TD K H' v' (.tuple (dX h (bm sl ps)))→Q v' H'):qZ K vs H Q
def ur (K:Fg):Sp:=fun vs H Q _=>qZ K vs H Q
theorem kE {H:Hp} {x:V} {d:PyData} {h:Str} {sl:List Str} {ps:PDs} (t:TD K H x d) (nd:Nd d h sl ps):∃ a vs,x=.ref a∧SqT K H a (.str h::vs)∧TDs K H vs ps:=by
 rw[nd.eq] at t;obtain⟨a,ys,rfl,ha,hy⟩:=t.tup_of;cases hy with
 | cons p q=>rw[p.str_of] at ha;exact⟨a,_,rfl,ha,q⟩
theorem iH {H:Hp} {xs:List V} {ds:PDs} (h:TDs K H xs ds):TDs K H (xs.take 1) (ds.take 1):=by
 cases h with
 | nil=>exact .nil
 | cons p q=>exact .cons p .nil
theorem vF (D:Def K mg "first_things" sFt) (dM:Fn P w K mg base "children_of" 1 ["e"] (mh K)):Fn P w K mg base "first_things" 2 ["e"] (ur K):=by
 refine D.fn (N:=["e"]) fsM (fun vs H Q E h=>?_) (fun _ _ _ _ _ _ us hl=>by obtain⟨a,rfl⟩:=cY hl;rfl) (fun f' cdv A outer s' H vs Q E hr h=>?_)
 · obtain⟨v,d,h,sl,ps,rfl,_⟩:=h;rfl
 · obtain⟨v,d,h,sl,ps,rfl,td,nd,q⟩:=h;refine⟨_,(pD (aw (pM aA (ab ae (pv 0) pF (fun _ _=>rfl)) pC (pN _)) (pG (af (aa pB))) aj)
 (pD (aw (pM bu (ab ae (pv 0) pF (fun _ _=>rfl)) (@aa _ _ _ _ _ (@pA _ _ _ _ _ pC (@pA _ _ _ _ _ pC (@pA _ _ _ _ _ pC (@pA _ _ _ _ _ pC (@pA _ _ _ _ _ pC pB (by rfl)) (by rfl)) (by rfl)) (by rfl)) (by rfl))) (by with_unfolding_all rfl)) (pG (af (bj c9 (ao dM (hr.mono (by decide)) rfl (pA (pv 0) pB)) bD (bf pF)))) aj)
 (pG (af (ao dM (hr.mono (by decide)) rfl (pA (pv 0) pB)))))),?_⟩
   dsimp only[bE];obtain⟨a,vs,rfl,ha,hvs⟩:=kE td nd;have at0:∀ {x:V} {r:List V},atI (x::r) 0=some x:=fun {x r}=>pH (j:=0) rfl;unfold dX at q;refine⟨_,rfl,a,_,_,_,rfl,rfl,ha,at0,rfl,_,rfl,?_⟩;by_cases e1:h="fun"
   · rw[if_pos e1] at q;exact pJ (by simp[e1]) ⟨i7,fun p hp=>q _ _ (smu hp) (.tup (SqT.of pE) .nil)⟩
   rw[if_neg e1] at q;refine pI (by simpa using e1) ?_;refine⟨_,rfl,a,_,_,_,rfl,rfl,ha,at0,yj,fun t ht=>?_⟩;have k1:=smu (o:=HO.tup (wI.map V.str)) ht;refine⟨t,wI.map V.str,rfl,.inr (SqT.of pE),rfl,bw _,_,rfl,?_⟩;rw[bH];have S1:ai H (upd H t (.tup [V.str "let",V.str "var",V.str "each",V.str "if",V.str "while"])):=k1;generalize upd H t (.tup [V.str "let",V.str "var",V.str "each",V.str "if",V.str "while"])=H1 at S1 ⊢;by_cases e2:c7 h wI=true
   · rw[if_pos e2] at q;refine pJ e2 ⟨_,rfl,_,d,h,sl,ps,rfl,td.same S1,nd,fun v' H2 s2 tv=>?_⟩;obtain⟨a2,xs,rfl,ha2,hxs⟩:=tv.tup_of;have ec:cx xs none (some 1)=xs.take 1:=by
      unfold cx;have:=HT.fH xs.length xs.length 1;rw[show ((1:Nat):Int)=1 from rfl] at this;rw[this,HT.d6,List.drop_zero,Nat.sub_zero];cases xs with
      | nil=>rfl
      | cons x r=>rw[Nat.min_eq_left (by rw[List.length_cons];omega)]
     have S2:=S1.trans s2;refine⟨_,rfl,a2,xs,rfl,ha2,fun z=>?_,fun p hp=>?_⟩
     · refine q _ _ S2 (.tup ha2 ?_);have:=iH hxs;rw[← ec,z] at this;exact this
     · have k3:=smu (o:=HO.tup (cx xs none (some 1))) hp;refine q _ _ (S2.trans k3) (.tup (SqT.of pE) ?_);rw[ec];exact (iH hxs).same (by rw[← ec];exact k3)
   · rw[if_neg e2] at q;exact pI e2 ⟨_,rfl,_,d,h,sl,ps,rfl,td.same S1,nd,fun v' H2 s2 tv=>q _ _ (S1.trans s2) tv⟩
end
def fps:List (Str×Str×Fin):=[("number","finish_number",g9),("name","finish_name",ju),("do","finish_do",sL),("if","finish_if",sK),("each","finish_each",jv),("say","finish_say",mP),("op","finish_op",sJ),("new","finish_new",mQ),("get","finish_get",mR),("fun","finish_fun",mS),("apply","finish_apply",ij)]
inductive Stp:MS→MS→Prop
  | beg {S:MS} {W:List Tsk} {e:PyData} {n:Nm} {h:Str} {sl:List Str} {ps:PDs} (hW:S.W=W++[⟨"begin",e,n,0⟩]) (nd:Nd e h sl ps) (hz:W.length≤100):Stp S {S with W:=W++(⟨"finish",e,n,(dX h (bm sl ps)).length⟩::bgs (dX h (bm sl ps)) n)}
  | fin {S S':MS} {W:List Tsk} {e:PyData} {n:Nm} {T1 T2:List Vl} {h fn:Str} {ok:Fin} {ps:PDs} (hW:S.W=W++[⟨"finish",e,n,T2.length⟩]) (hT:S.T=T1++T2) (he:e=.tuple (.str h::ps)) (hm:(h,fn,ok)∈fps) (hok:ok e n T2 {S with W:=W,T:=T1} S'):Stp S S'
  | ovr {S:MS} {W:List Tsk} {e:PyData} {n:Nm} {T1 T2:List Vl} (hW:S.W=W++[⟨"over",e,n,T2.length⟩]) (hT:S.T=T1++T2) (hz:T1.length<200):Stp S (tel {S with W:=W,T:=T1} (.int 0))
theorem iO {α β:Type} {R:α→β→Prop}:∀ {ys:List β} {xs:List α} {y:β},Paired R xs (ys++[y])→∃ xs' x,xs=xs'++[x]∧Paired R xs' ys∧R x y:=by
 intro ys
 induction ys with
 | nil =>
  intro xs y h;cases h with
  | cons p q=>cases q;exact⟨[],_,rfl,.nil,p⟩
 | cons z r ih =>
  intro xs y h;cases h with
  | cons p q =>
   obtain⟨xs',x,rfl,a,b⟩:=ih q;exact⟨_::xs',x,rfl,.cons p a,b⟩
structure Fsh (P:Program) (w:World) (K:Fg) (mg:SOV):Prop where
  ex:∃ a kvs,mg "FINISHERS"=some (.ref a)∧jc P w K a kvs∧∀ p∈fps,∃ f,aY kvs (.inr p.1)=some (.ref f)∧mg p.2.1=some (.ref f)
section
variable {P:Program} {w:World} {K:Fg} {mg:SOV} {base:Heap} {c:Ks}
abbrev sDn:Stmt:=top 40
abbrev nDn:List Str:=["machine","task","e","names","count","taken","things","thing","finisher"]
inductive rc (K:Fg) (c:Ks) (vs:List V) (H:Hp) (Q:VK):Prop
  | mk (A:Ad) (S S':MS) (h0:vs=[.ref A.m]) (h1:MV K c A H S) (h2:Stp S S') (q:∀ H',Fr A H H'→MV K c A H' S'→Q .non H'):rc K c vs H Q
def uu (K:Fg) (c:Ks):Sp:=fun vs H Q _=>rc K c vs H Q
theorem vI (D:Def K mg "do_next" sDn) (k:KC K mg c) (T:Blt mg) (Fs:Fsh P w K mg) (wA:∀ p∈fps,Fn P w K mg base p.2.1 5 bo (cI K c p.2.2)) (M_begin:MFn P w K mg base c.cc "begin" 2 ["self","e","names"] (lg K c)) (M_wait:MFn P w K mg base c.cc "wait" 1 ["self","task","e","names","count"] (ox K c)) (M_tell:MFn P w K mg base c.cc "tell" 1 ["self","value"] (gy K c)) (M_take:MFn P w K mg base c.cc "take" 1 ["self","count"] (uc K c)) (gp:Fn P w K mg base "first_things" 2 ["e"] (ur K)):Fn P w K mg base "do_next" 6 ["machine"] (uu K c):=by
 have nd:(nDn:List Str).Nodup:=by decide +kernel
 refine D.fn (N:=nDn) ⟨rfl,rfl,rfl,nd,rfl,by decide +kernel,by decide +kernel⟩ (fun vs H Q E h=>?_) (fun _ _ _ _ _ _ us hl=>by obtain⟨a,rfl⟩:=cY hl;rfl) (fun f' cdv A outer s' H vs Q E hr h=>?_)
 · obtain⟨A,S,S',rfl,_⟩:=h;rfl
 · obtain⟨A,S,S',rfl,m,st,q⟩:=h;have hz0:(1000:Nat)<sizeLine:=by decide
   obtain⟨aF,kvF,gF,dF,hF⟩:=Fs.ex;refine⟨_,(pD (fW (tN (bq (pv 0) rfl)) (d9 rfl (aK (ar (i:=1) nd rfl (Or.inl rfl)) (aK (ar (i:=2) nd rfl (Or.inl rfl)) (aK (ar (i:=3) nd rfl (Or.inl rfl)) (aK (ar (i:=4) nd rfl (Or.inl rfl)) cF))))))
 (pD (pL (i:=5) nd rfl (Or.inl rfl) (aZ (pv 0) k.oc M_take (hr.mono (by decide)) (pA (pv 4) pB)))
 (pG (aw (pM aA (pv 1) pC (pN _)) (pD (pL (i:=6) nd rfl (Or.inl rfl) (ao gp (hr.mono (by decide)) rfl (pA (pv 2) pB)))
 (pD (aC (aZ (pv 0) k.oc M_wait (hr.mono (by decide)) (pA pC (pA (pv 2) (pA (pv 3) (pA (bX T.len (pA (pv 6) pB)) pB))))))
 (pG (bS PassesOwn.never rfl (d8 (kB (pv 6) (bf (fo d3 pF)))) (ar (i:=7) nd rfl (Or.inl rfl))
 (pG (aC (aZ (pv 0) k.oc M_begin (hr.mono (by decide)) (pA (pv 7) (pA (pv 3) pB))))))))) (pG (aw (pM aA (pv 1) pC (pN _)) (pD (pL (i:=8) nd rfl (Or.inl rfl) (kC (cN (v:=.ref aF) rfl gF rfl) (ab ae (pv 2) pF (fun _ _=>rfl)) (fun _ _=>rfl)))
 (pG (aC (sn (pv 8) (pA (pv 0) (pA (pv 2) (pA (pv 3) (pA (pv 5) pB)))))))) (pG (aw (pM aA (pv 1) pC (pN _)) (pG (aC (aZ (pv 0) k.oc M_begin (hr.mono (by decide)) (pA (pv 2) (pA (pv 3) pB))))) (pG (aC (aZ (pv 0) k.oc M_tell (hr.mono (by decide)) (pA pF pB)))))))))))),?_⟩
   dsimp only[bE];obtain⟨vd,h1,e1⟩:=m.m;obtain⟨ws,hw,ew⟩:=m.w;have cr:∀ {W:List Tsk} {t:Tsk} {T1 T2:List Vl},S.W=W++[t]→S.T=T1++T2→t.c=T2.length→∃ ws' y,ws=ws'++[y]∧Paired (iz K c A H) ws' W∧iz K c A H y t:=fun {W t T1 T2} hW _ _=>by
    rw[hW] at ew;exact iO ew
   refine ac fun ik g1_=>?_;have zw:=m.zw;cases st with
   | @beg W e n h sl ps hW ndd hz =>
    obtain⟨ws',y,rfl,pw,ty⟩:=cr hW (T1:=S.T) (T2:=[]) (by simp) rfl;cases ty with
    | @mk a ve vn _ hsq he hn =>
     refine⟨_,rfl,A.m,c.cc,A.dx,_,_,rfl,h1,k.oc,k.n8,rfl,.inl ⟨rfl,_,SqL.of hw⟩,A.wa,_,.ref a,rfl,rfl,hw,by simp,?_⟩;rw[List.dropLast_concat];have f1:=m.upd_fr (o:=.lst ws') (.inr (.inl rfl));have m1:=m.putW pw (by rw[hW,lAp] at zw;omega);refine⟨a,_,rfl,hsq.tk f1.tk,rfl,_,_,rfl,_,_,rfl,_,_,rfl,_,_,rfl,rfl,?_⟩;generalize upd H A.wa (.lst ws')=H1 at f1 m1 ⊢;refine g1_ _ _ ?_;obtain⟨vd1,h11,e11⟩:=m1.m;refine⟨_,rfl,A.m,A.dx,_,rfl,h11,rfl,_,rfl,A,_,S.T,[],rfl,m1,(by simp),fun l us H2 f2 nl hl pu m2=>?_⟩;have F2:=f1.trans f2;refine⟨_,rfl,rfl,_,rfl,aW ?_⟩;refine⟨_,rfl,ve,e,h,sl,ps,rfl,he.tk F2.tk,ndd,fun v' H3 s3 tv=>?_⟩;have m3:=m2.same s3;obtain⟨vd3,h13,e13⟩:=m3.m;have F3:=F2.trans (.of s3);obtain⟨ta,xs,rfl,hta,hxs⟩:=tv.tup_of;refine⟨_,rfl,A.m,A.dx,_,rfl,h13,rfl,_,rfl,_,rfl,_,rfl,ta,_,rfl,.inr hta,?_⟩;have kl:=hxs.length;rw[kl];have few:=ndd.few;have fl:(dX h (bm sl ps)).length≤8:=by
      unfold dX;split
      · decide
      · split
        · rw[lTk];omega
        · exact few
     generalize dX h (bm sl ps)=ks at kl fl hxs q tv ⊢;refine⟨A,_,⟨"finish",e,n,ks.length⟩,ve,vn,rfl,m3,he.tk F3.tk,hn.fr F3,(by show W.length<200;omega),fun H4 f4 m4=>?_⟩;have F4:=F3.trans f4;have hta4:=hta.tk f4.tk;have hxs4:=hxs.tk f4.tk;refine⟨_,rfl,_,rfl,_,rfl,ta,_,rfl,rfl,hta4,fun p hp=>?_⟩;have s5:=smu (o:=HO.tup xs.reverse) hp;have m5:=m4.same s5;have F5:=F4.trans (.of s5);have hxs5:=hxs4.same s5;have hp5:SqT K (upd H4 p (.tup xs.reverse)) p xs.reverse:=SqT.of pE;refine⟨p,rfl,⟨_,hp5⟩,?_⟩;generalize upd H4 p (.tup xs.reverse)=H5 at s5 m5 F5 hp5 hxs5 ⊢;show az _ _ _ _ _ _;refine az.byN (bL (xs:=xs.reverse)) (fun j σ Hj=>Fr A H5 Hj∧MV K c A Hj {S with W:=W++[⟨"finish",e,n,ks.length⟩]++(ks.reverse.take j).map fun e=>⟨"begin",e,n,0⟩}∧∃ x7 x8,σ=[some (.ref A.m),some (.str "begin"),some ve,some vn,some (.int ((0:Nat):Int)),some (.ref l),some (.ref ta),x7,x8]) ⟨Fr.refl,by rw[List.take_zero,List.map_nil,List.append_nil];exact m5,_,_,rfl⟩ (fun _ _ _ _ z=>hp5.tk z.1.tk) ?_ ?_
     · rintro j u σ Hj N_ B_ hN_ hB_ hu' ⟨fj,mj,x7,x8,rfl⟩;have hj:j<xs.reverse.length:=(gES.mp hu').1;have hj2:j<ks.reverse.length:=by rw[List.length_reverse] at hj ⊢;omega
       have hyj:ks.reverse[j]?=some ks.reverse[j]:=gEE hj2;have tu:TD K H5 u ks.reverse[j]:=by
        rw[List.getElem?_reverse (by rw[List.length_reverse] at hj;exact hj)] at hu';obtain⟨d,hd,td⟩:=hxs5.get hu';have:ks.reverse[j]?=ks[ks.length-1-j]?:=List.getElem?_reverse (by rw[List.length_reverse] at hj2;exact hj2);rw[hyj,← kl,hd] at this;cases this;exact td
       generalize ks.reverse[j]=y at hyj tu ⊢;obtain⟨vd6,h6,_⟩:=mj.m;refine⟨_,rfl,A.m,A.dx,_,rfl,h6,rfl,_,rfl,_,rfl,A,_,y,n,u,vn,rfl,mj,tu.tk fj.tk,(hn.fr F5).fr fj,?_,fun H7 f7 m7=>?_⟩
       · rw[List.length_reverse] at hj2;simp only[lAp,lMp,lTk,List.length_cons,List.length_nil,List.length_reverse];omega
       · refine hN_ _ _ ⟨fj.trans f7,?_,_,_,rfl⟩;rw[tAO,hyj,List.map_append];have:∀ (X Y Z:List Tsk),X++(Y++Z)=X++Y++Z:=fun X Y Z=>(List.append_assoc X Y Z).symm;rw[this];exact m7
     · rintro σ Hj ⟨fj,mj,x7,x8,rfl⟩;have et:ks.reverse.take xs.reverse.length=ks.reverse:=List.take_of_length_le (by rw[List.length_reverse,List.length_reverse];omega);rw[et,List.append_assoc] at mj;exact q Hj (F5.trans fj) mj
   | @fin _ W e n T1 T2 h fn ok ps hW hT hee hm hok =>
    obtain⟨ws',y,rfl,pw,ty⟩:=cr hW hT rfl;cases ty with
    | @mk a ve vn _ hsq he hn =>
     refine⟨_,rfl,A.m,c.cc,A.dx,_,_,rfl,h1,k.oc,k.n8,rfl,.inl ⟨rfl,_,SqL.of hw⟩,A.wa,_,.ref a,rfl,rfl,hw,by simp,?_⟩;rw[List.dropLast_concat];have f1:=m.upd_fr (o:=.lst ws') (.inr (.inl rfl));have m1:=m.putW pw (by rw[hW,lAp] at zw;omega);refine⟨a,_,rfl,hsq.tk f1.tk,rfl,_,_,rfl,_,_,rfl,_,_,rfl,_,_,rfl,rfl,?_⟩;generalize upd H A.wa (.lst ws')=H1 at f1 m1 ⊢;refine g1_ _ _ ?_;obtain⟨vd1,h11,e11⟩:=m1.m;refine⟨_,rfl,A.m,A.dx,_,rfl,h11,rfl,_,rfl,A,_,T1,T2,rfl,m1,hT,fun l us H2 f2 nl hl pu m2=>?_⟩;have F2:=f1.trans f2;refine⟨_,rfl,rfl,_,rfl,aP ?_⟩;refine⟨_,rfl,rfl,_,rfl,aW ?_⟩;obtain⟨f,vf,mf⟩:=hF _ hm;subst hee;have he2:=he.tk F2.tk;obtain⟨ad,ys,rfl,ha,hy⟩:=(show TD K H2 ve (.tuple (.str h::ps)) from he2).tup_of;obtain⟨y1,yr,rfl,t1,tr⟩:=bh hy;cases t1;refine⟨_,rfl,ad,_,_,_,rfl,rfl,ha,pH (j:=0) rfl,aF,kvF,.inr h,.ref f,rfl,dF,rfl,vf,?_⟩;obtain⟨fd,G,kp,bn⟩:=(wA _ hm).at mf;refine⟨f,rfl,fd,5,bo,_,G,kp,bn,hr.mono (by decide),_,rfl,_,rfl,_,rfl,_,rfl,?_⟩;exact⟨A,_,S',_,n,T2,us,l,_,vn,rfl,m2,he2,hn.fr F2,hl,nl,pu,hok,fun H' f' m'=>q H' (F2.trans f') m'⟩
   | @ovr W e n T1 T2 hW hT hz =>
    obtain⟨ws',y,rfl,pw,ty⟩:=cr hW hT rfl;cases ty with
    | @mk a ve vn _ hsq he hn =>
     refine⟨_,rfl,A.m,c.cc,A.dx,_,_,rfl,h1,k.oc,k.n8,rfl,.inl ⟨rfl,_,SqL.of hw⟩,A.wa,_,.ref a,rfl,rfl,hw,by simp,?_⟩;rw[List.dropLast_concat];have f1:=m.upd_fr (o:=.lst ws') (.inr (.inl rfl));have m1:=m.putW pw (by rw[hW,lAp] at zw;omega);refine⟨a,_,rfl,hsq.tk f1.tk,rfl,_,_,rfl,_,_,rfl,_,_,rfl,_,_,rfl,rfl,?_⟩;generalize upd H A.wa (.lst ws')=H1 at f1 m1 ⊢;refine g1_ _ _ ?_;obtain⟨vd1,h11,e11⟩:=m1.m;refine⟨_,rfl,A.m,A.dx,_,rfl,h11,rfl,_,rfl,A,_,T1,T2,rfl,m1,hT,fun l us H2 f2 nl hl pu m2=>?_⟩;have F2:=f1.trans f2;obtain⟨vd2,h12,_⟩:=m2.m;refine⟨_,rfl,rfl,_,rfl,aP ⟨_,rfl,rfl,_,rfl,aP ⟨_,rfl,rfl,_,rfl,aP ?_⟩⟩⟩;exact⟨_,rfl,A.m,A.dx,_,rfl,h12,rfl,A,_,_,.int 0,rfl,m2,.int 0,hz,fun H' f' m'=>q H' (F2.trans f') m'⟩
end
end K20
namespace PySem
open Sem (wp)
open AutoSeq1 (wpAny_loadPart')
section
variable {prog:Program} {w:World} {A:Around} {E:VSP} {s:Shared}
theorem iZ {Q:List Value→Shared→Prop} {r:Addr} {a b c:Int} {t u v:Tok} {n:Nat} (hh:A.handled=none) (hr:IsRange s.heap r a b c t u v) (hs:Builtin.Range.small a b c=true) (hn:Builtin.Range.rangeSize a b c=n) (hl:n≤2 ^ 24)
 (q:∀ h' tk acc,(∀ b o,s.heap.get? b=some o→h'.get? b=some o)→ItemsOf (fun i v=>∃ t,v=.int (a+i*c) t) acc n→Q acc.toList {s with heap:=h',toks:=tk}):wpAny (model prog w) A (collect (.ref r)) Q E s:=by
 unfold collect;have hS:(s.heap.push {cls:=.type "list",data:=.seq ([]:List Value).toArray}).get? s.heap.objs.size=some {cls:=.type "list",data:=.seq #[] 0}:=Heap.get?_push_size _ rfl;have go:∀ (h':Heap) (tk:Nat) (acc:Array Value) (c':Nat),(∀ b o,b≠s.heap.objs.size→(s.heap.push {cls:=.type "list",data:=.seq ([]:List Value).toArray}).get? b=some o→h'.get? b=some o)→h'.get? s.heap.objs.size=some {cls:=.type "list",dict:=none,data:=.seq acc c',slots:=#[]}→ItemsOf (fun i v=>∃ t,v=.int (a+i*c) t) acc n →
  wpAny (model prog w) A (load s.heap.objs.size>>=fun o=>match o.data with | Data.seq xs _=>pure xs.toList | _=>unsupported "internal:collect") Q E {s with heap:=h',toks:=tk}:=by
  intro h' tk acc c' k1 k2 k3;refine wB (wpAny_load k2 (wP (q h' tk acc (fun b o z=>k1 b o (Nat.ne_of_lt (Heap.lt_size z)) (hpS _ z)) k3)))
 refine wB (wpAny_runValue (codeAny_builtin F.entry_proto_collect ?_));rw[Around.under_plainId F.plain_proto_collect _];refine wB (m:=newList []) (wpAny_newObj_type (wP ⟨plainId_quiet F.plain_list_iadd _,codeAny_builtin F.entry_list_iadd ?_⟩));rw[Around.under_plainId F.plain_list_iadd _];show wpAny _ A.in1 (Builtin.List.listExtendWith (.ref s.heap.objs.size) (.ref r) (.ref s.heap.objs.size)) _ _ _;refine wpAny_mono (wpAny_extend_range (A:=A) (s:={s with heap:=s.heap.push {cls:=.type "list",data:=.seq ([]:List Value).toArray}}) (R:=fun x s'=>x=.ok (.ret (.ref s.heap.objs.size))∧∃ h' tk acc c',s'={s with heap:=h',toks:=tk}∧(∀ b o,b≠s.heap.objs.size→(s.heap.push {cls:=.type "list",data:=.seq ([]:List Value).toArray}).get? b=some o→h'.get? b=some o)∧h'.get? s.heap.objs.size=some {cls:=.type "list",dict:=none,data:=.seq acc c',slots:=#[]}∧ItemsOf (fun i v=>∃ t,v=.int (a+i*c) t) acc n) hh (hpS _ hr) hs hn hl _ _ 0 hS fun h' tk acc c' k1 k2 k3=>⟨rfl,h',tk,acc,c',rfl,k1,k2,k3⟩) (fun fin s' h=>?_) (fun e s' h=>?_)
 · cases fin with
   | done f =>
    obtain⟨e,h',tk,acc,c',rfl,k1,k2,k3⟩:=h;cases e;exact go h' tk acc c' k1 k2 k3
   | again c1=>exact⟨h.1,codeAny_mono h.2 fun x s2 z=>by obtain⟨rfl,h',tk,acc,c',rfl,k1,k2,k3⟩:=z;exact go h' tk acc c' k1 k2 k3⟩
 · exact absurd h.1 (by simp)
end
theorem iG (r:Addr) (a b c:Int) (t u v:Tok) (n:Nat) (hs:Builtin.Range.small a b c=true) (hn:Builtin.Range.rangeSize a b c=n) (hl:n≤2 ^ 24) :
 Meets (Builtin.«tuple.__new__» ⟨[.type "tuple",.ref r],[]⟩) (fun A R s=>A.handled=none∧IsRange s.heap r a b c t u v∧∀ (h':Heap) (tk:Nat) (acc:Array Value),(∀ b o,s.heap.get? b=some o→h'.get? b=some o)→ItemsOf (fun i v=>∃ t,v=.int (a+i*c) t) acc n→R (.ok (.ret (.ref h'.objs.size))) {s with heap:=h'.push {cls:=.type "tuple",data:=.seq acc},toks:=tk}) :=
 .of_wp fun prog w A R s h=>by
  obtain⟨hh,hr,h⟩:=h;have z1:=sub_tuple_self;have z2:=init_tuple_lookup;have z3:=madeHere_tuple;have hT:s.TypeIs (.ref r) "range":=⟨_,hr,rfl⟩;have hh1:A.in1.handled=none:=hh
  wp_walk using wpAny_typeOf hT,iZ hh1 hr hs hn hl
  intro h' tk acc k1 k2;show wpAny _ _ (Builtin.Tuple.tupleExact acc.toList.toArray>>=fun v=>ret v) _ _ _;unfold Builtin.Tuple.tupleExact;have e:acc.toList.toArray=acc:=by simp
  rw[e];exact wB (wpAny_newObj_type (wP ⟨_,rfl,h h' tk acc k1 k2⟩) (by show acc.size≤sizeLine;rw[k2.1,sizeLine_eq];omega))
theorem ix {prog:Program} {w:World} {A:Around} {E:VSP} {s:Shared} {Q:VSP} {r:Addr} {a b c:Int} {t u v:Tok} {n:Nat} (hh:A.handled=none) (hr:IsRange s.heap r a b c t u v) (hs:Builtin.Range.small a b c=true) (hn:Builtin.Range.rangeSize a b c=n) (hl:n≤2 ^ 24)
 (q:∀ (h':Heap) (tk:Nat) (acc:Array Value),(∀ b o,s.heap.get? b=some o→h'.get? b=some o)→ItemsOf (fun i v=>∃ t,v=.int (a+i*c) t) acc n→Q (.ref h'.objs.size) {s with heap:=h'.push {cls:=.type "tuple",data:=.seq acc},toks:=tk}):wpAny (model prog w) A (call (.type "tuple") [.ref r]) Q E s :=
 callType_new F.called_tuple (by decide) (F.typeCall_tuple_1 _) (F.newCall_tuple_1 _) (fun obj=>F.args_object_init_2 obj _) F.entry_tuple_new (iG r a b c t u v n hs hn hl) ⟨hh,hr,fun h' tk acc k1 k2=>⟨⟨_,Heap.get?_push_size _ rfl,rfl⟩,q h' tk acc k1 k2⟩⟩
end PySem
namespace L2
open PySem PySem.Spec PyProof.Rows
theorem lU {i:Int}:∀ {k:Nat} {acc:Array Value},ItemsOf (fun j v=>∃ t,v=.int (i+j*1) t) acc k→ax ((List.range k).map fun j=>V.int (i+((j:Nat):Int))) acc.toList:=by
 intro k acc h;have g:∀ (l:List Value) (o:Nat),(∀ j v,l[j]?=some v→∃ t,v=Value.int (i+((o+j:Nat):Int)*1) t)→ax ((List.range' o l.length).map fun j=>V.int (i+((j:Nat):Int))) l:=by
  intro l
  induction l with
  | nil=>intro o _;exact .nil
  | cons v r ih =>
   intro o hl;obtain⟨t,ht⟩:=hl 0 v rfl;refine .cons ⟨t,by rw[ht];simp⟩ (ih (o+1) fun j v hv=>?_);obtain⟨t,ht⟩:=hl (j+1) v hv;exact⟨t,by rw[ht];congr 3;omega⟩
 have z:=g acc.toList 0 fun j v hv=>by
  obtain⟨t,ht⟩:=h.2 j v (by simpa using hv);exact⟨t,by rw[ht,Nat.zero_add]⟩
 rw[Array.length_toList,h.1,← List.range_eq_range'] at z;exact z
def sf (xs:List V) (H:Hp) (Q:VK):Prop:=∃ k:Nat,xs=[.int ((k:Nat):Int)]∧k≤1000∧∀ t,H t=none→Q (.ref t) (upd H t (.tup ((List.range k).map fun j=>V.int (0+((j:Nat):Int)))))
theorem qi {X:Cx} {p1 p2 pos1 pos2:Pos} {a:Expr} {ta:TA} (hm:X.mg "tuple"=none) (hm2:X.mg "range"=none) (ha:PA X [a] ta) (hc:X.calm=true:=by rfl) (hg:Gl X "tuple":=by rfl) (hg2:Gl X "range":=by rfl)
 (s1:starEach [.Call (.Name "range" p2) [a] [] pos2] X.env=(false,eval (.Call (.Name "range" p2) [a] [] pos2) X.env)::starEach [] X.env:=by rfl) (hs:starEach [a] X.env=[(false,eval a X.env)]:=by rfl)
 (s3:(backTo pos1 (starEach [] X.env)).any (·.1)=false:=by rfl) (s5:backTo pos1 (starEach [] X.env)=[]:=by rfl) :
 PE X (.Call (.Name "tuple" p1) [.Call (.Name "range" p2) [a] [] pos2] [] pos1) (tCB sf ta):=by
 intro pins s σ H Q I h;have hh:X.A.handled=none:=I.ok.hd hc;refine wpAny_Call_Name_kw (dk I hg hm fz (PyProof.Rows.callWith_type1 ?_ s1 s3));rw[s1];show wpAny _ _ (spliced ((false,eval (.Call (.Name "range" p2) [a] [] pos2) X.env)::backTo pos1 (starEach [] X.env))) _ _ s;rw[s5];refine Calls.spliced_cons (wpAny_Call_Name_kw (dk I hg2 hm2 boot_range (PyProof.Rows.callWith_type1 (thn (ha pos2 pins s σ H _ I h) fun us s1 z=>?_) hs rfl)));obtain⟨vs,H1,I1,r1,k,rfl,hk,q⟩:=z;cases r1 with
 | cons r rr =>
  cases rr;obtain⟨t,rfl⟩:=r;refine call_range_1 (Calls.spliced_nil (ix hh (IsRange.new ..) (small_one (by omega) (by omega) (by omega) (by omega)) (n:=k) (by rw[rangeSize_one];split <;> omega) (by omega) fun h' tk acc k1 k2=>?_));have I3:Inv X pins σ H1 {s1 with heap:=h',toks:=tk}:=I1.kept (t':=tk) fun b o z=>k1 _ _ (hpS _ z);refine⟨.ref h'.objs.size,_,I3.laid (t':=tk) (o:=.tup ((List.range k).map fun j=>V.int (0+((j:Nat):Int)))) (fun b o e=>hpS _ e) (Nat.le_refl _) ⟨?_,acc.toList,lU k2,?_⟩,rfl,q _ (I3.hok.fresh (Nat.le_refl _))⟩
  · rw[lMp,List.length_range,sizeLine_eq];omega
  · rw[Array.toArray_toList];exact IsTup.new _ _
end L2
namespace K20
open PySem L2 P10
def fnO (e:PyData):PyData:=.tuple [.str "open",.int 0,e]
def nM (e:PyData):PyData:=.tuple [.tuple [fnO e],.tuple [.int 1,.int 1],.tuple [.tuple [.str "main",.int 0]]]
def S0 (e:PyData):MS:=⟨[⟨"begin",e,[],0⟩],[],[],none,1⟩
inductive Run:Nat→MS→MS→Prop
  | done {S:MS} (h:S.en≠none∨S.W=[]):Run 0 S S
  | step {n:Nat} {S S1 S':MS} (h:S.en=none) (st:Stp S S1) (r:Run n S1 S'):Run (n+1) S S'
def lkD:Lk→PyData
  | .int i=>.int i
  | .tup is=>.tuple (is.map .int)
  | .thing=>.str "thing"
inductive End:MS→Str→PyData→Prop
  | flt {S:MS} {s:Str} (h:S.en=some s):End S "fault" (.str s)
  | back {S:MS} {x:Vl} {r:List Vl} (h:S.en=none) (hT:S.T=x::r):End S "back" (lkD (lk x))
theorem lG {K:Fg} {H:Hp} (is:List Int):eV K H (is.map V.int) (is.map .int):=by
 induction is with
 | nil=>exact .nil
 | cons i r ih=>exact .cons (.int i) ih
theorem LkV.dat {K:Fg} {H:Hp} {v:V} {x:Lk} (h:LkV K H v x):c8 K H v (lkD x):=by
 cases h with
 | int i=>exact .int i
 | tup h=>exact .tup h (lG _)
 | thing=>exact .str _
inductive Ty3 (K:Fg) (H:Hp):V→Prop
  | mk {v:V} {t:String} (h:TyU K H v (.type t)) (ht:t∈(["int","tuple","str"]:List String)):Ty3 K H v
theorem LkV.ty {K:Fg} {H:Hp} {v:V} {x:Lk} (h:LkV K H v x):Ty3 K H v:=by
 cases h with
 | int i=>exact .mk (.int i) (by decide)
 | tup h=>exact .mk (.tup h) (by decide)
 | thing=>exact .mk (.str _) (by decide)
inductive iA (K:Fg) (H:Hp) (r:Addr) (ds:List Lk) (tg:Str) (d2:PyData):Prop
  | mk (da pe:Addr) (us:List V) (v2:V) (h1:SqT K H r [.ref da,.ref pe]) (h2:H da=some (.lst us)) (h3:Paired (LkV K H) us ds) (h4:SqT K H pe [.str tg,v2]) (h5:c8 K H v2 d2) (h6:Ty3 K H v2):iA K H r ds tg d2
section
variable {P:Program} {w:World} {K:Fg} {mg:SOV} {base:Heap} {c:Ks}
inductive rf (K:Fg) (c:Ks) (vs:List V) (H:Hp) (Q:VK):Prop
  | mk (x dx:Addr) (vf:V) (t:Int) (h0:vs=[.ref x,vf,.int t]) (h1:H x=some (.ins c.cc dx [])) (q:∀ A H',A.m=x→(∀ a u,a≠x→H a=some u→H' a=some u)→MV K c A H' ⟨[],[],[],none,t⟩→(∀ a,A.own a→a=x∨H a=none)→Q .non H'):rf K c vs H Q
def uv (K:Fg) (c:Ks):Sp:=fun vs H Q _=>rf K c vs H Q
theorem vK (D:j9 K c.cc "Machine.__init__" (sM 0)) (k:KC K mg c):IFn P w K mg base c.cc 1 ["self","functions","ticks"] (uv K c):=by
 refine D.fn (N:=["self","functions","ticks"]) fsM (fun vs H Q E h=>?_) (fun _ _ _ _ _ _ us hl=>by obtain⟨a,b,d,rfl⟩:=dU hl;rfl) (fun f' cdv A outer s' H vs Q E hr h=>?_)
 · obtain⟨x,dx,vf,t,rfl,_⟩:=h;rfl
 · obtain⟨x,dx,vf,t,rfl,hx,q⟩:=h;refine⟨_,(pD (bY (pv 0) (pv 1) rfl) (pD (bY (pv 0) (pv 2) rfl) (pD (bY (pv 0) (aU pB) rfl) (pD (bY (pv 0) (aU pB) rfl) (pD (bY (pv 0) (aU pB) rfl) (pG (bY (pv 0) eZ rfl))))))),?_⟩;refine⟨_,rfl,_,rfl,x,c.cc,dx,[],rfl,hx,k.oc,k.n6,by decide,?_⟩;refine⟨_,rfl,_,rfl,x,c.cc,dx,_,rfl,pE,k.oc,k.n7,by show 1<1000;decide,?_⟩;have kx:∀ a u,a≠x→H a=some u→(upd (upd H x (.ins c.cc dx (bR "functions" vf []))) x (.ins c.cc dx (bR "ticks" (.int t) (bR "functions" vf [])))) a=some u:=fun a u n e=>by rw[a0 n,a0 n];exact e
   have hx1:(upd (upd H x (.ins c.cc dx (bR "functions" vf []))) x (.ins c.cc dx (bR "ticks" (.int t) (bR "functions" vf [])))) x=some (.ins c.cc dx [("functions",vf),("ticks",.int t)]):=pE;have kb:∀ a,(upd (upd H x (.ins c.cc dx (bR "functions" vf []))) x (.ins c.cc dx (bR "ticks" (.int t) (bR "functions" vf [])))) a=none→H a=none:=fun a e=>by
    by_cases n:a=x
    · rw[n,pE] at e;cases e
    · rw[a0 n,a0 n] at e;exact e
   generalize upd (upd H x (.ins c.cc dx (bR "functions" vf []))) x (.ins c.cc dx (bR "ticks" (.int t) (bR "functions" vf [])))=H1 at kx hx1 kb ⊢;refine⟨i7,fun wa hwa=>?_⟩;have nwx:wa≠x:=fun e=>by rw[e,hx1] at hwa;cases hwa
   refine⟨_,rfl,x,c.cc,dx,_,rfl,(by rw[a0 (Ne.symm nwx)];exact hx1),k.oc,k.n8,by show 2<1000;decide,?_⟩;refine⟨i7,fun ta hta=>?_⟩;have ntx:ta≠x:=fun e=>by rw[e,pE] at hta;cases hta
   have ntw:ta≠wa:=fun e=>by rw[e,a0 nwx,pE] at hta;cases hta
   have hta1:H1 ta=none:=by rw[a0 ntx,a0 ntw] at hta;exact hta
   refine⟨_,rfl,x,c.cc,dx,_,rfl,(by rw[a0 (Ne.symm ntx),pE]),k.oc,k.n9,by show 3<1000;decide,?_⟩;refine⟨i7,fun da hda=>?_⟩;have ndx:da≠x:=fun e=>by rw[e,pE] at hda;cases hda
   have ndt:da≠ta:=fun e=>by rw[e,a0 ntx,pE] at hda;cases hda
   have ndw:da≠wa:=fun e=>by rw[e,a0 nwx,a0 (Ne.symm ntw),a0 nwx,pE] at hda;cases hda
   have hda1:H1 da=none:=by rw[a0 ndx,a0 ndt,a0 ndx,a0 ndw] at hda;exact hda
   refine⟨_,rfl,x,c.cc,dx,_,rfl,(by rw[a0 (Ne.symm ndx),pE]),k.oc,k.n10,by show 4<1000;decide,?_⟩;refine⟨_,rfl,x,c.cc,dx,_,rfl,pE,k.oc,k.n11,by show 5<1000;decide,?_⟩;refine q ⟨x,dx,wa,ta,da,vf⟩ _ rfl (fun a u n e=>?_) ⟨⟨Ne.symm nwx,Ne.symm ntx,Ne.symm ndx,Ne.symm ntw,Ne.symm ndw,Ne.symm ndt⟩,⟨.non,pE,.non⟩,⟨[],?_,.nil⟩,⟨[],?_,.nil⟩,⟨[],?_,.nil⟩,Nat.zero_le _,Nat.zero_le _,Nat.zero_le _⟩ (fun a o=>?_)
   · have e1:=kx a u n e;rw[a0 n,a0 n,a0 (ah e1 hda1),a0 n,a0 (ah e1 hta1),a0 n,a0 (ah e1 hwa)];exact e1
   · show upd _ x _ wa=_;rw[a0 nwx,a0 nwx,a0 (Ne.symm ndw),a0 nwx,a0 (Ne.symm ntw),a0 nwx,pE]
   · show upd _ x _ ta=_;rw[a0 ntx,a0 ntx,a0 (Ne.symm ndt),a0 ntx,pE]
   · show upd _ x _ da=_;rw[a0 ndx,a0 ndx,pE]
   · rcases o with rfl | rfl | rfl | rfl
     · exact .inl rfl
     · exact .inr (kb _ hwa)
     · exact .inr (kb _ hta1)
     · exact .inr (kb _ hda1)
abbrev sOn:Stmt:=top 41
abbrev nOn:List Str:=["core","name","values","functions","records","opens","told","number"]
inductive qQ (K:Fg) (vs:List V) (H:Hp) (Q:VK):Prop
  | mk (vc:V) (l:Addr) (e:PyData) (h0:vs=[vc,.str "main",.ref l]) (h1:TD K H vc (nM e)) (h2:H l=some (.lst [])) (q:∀ v H',ai H H'→TD K H' v (fnO e)→Q v H'):qQ K vs H Q
def uh (K:Fg):Sp:=fun vs H Q _=>qQ K vs H Q
theorem vm (D:Def K mg "opened" sOn) (T:Blt mg):Fn P w K mg base "opened" 1 ["core","name","values"] (uh K):=by
 have nd:(nOn:List Str).Nodup:=by decide +kernel
 refine D.fn (N:=nOn) ⟨rfl,rfl,rfl,nd,rfl,by decide +kernel,by decide +kernel⟩ (fun vs H Q E h=>?_) (fun _ _ _ _ _ _ us hl=>by obtain⟨a,b,d,rfl⟩:=dU hl;rfl) (fun f' cdv A outer s' H vs Q E hr h=>?_)
 · obtain⟨vc,l,e,rfl,_⟩:=h;rfl
 · obtain⟨vc,l,e,rfl,tc,hl,q⟩:=h;refine⟨_,(pD (fW (pv 0) (d9 rfl (aK (ar (i:=3) nd rfl (Or.inl rfl)) (aK (ar (i:=4) nd rfl (Or.inl rfl)) (aK (ar (i:=5) nd rfl (Or.inl rfl)) cF)))))
 (pD (bS PassesOwn.never rfl (d8 (pv 5)) (d9 rfl (aK (ar (i:=6) nd rfl (Or.inl rfl)) (aK (ar (i:=7) nd rfl (Or.inl rfl)) cF)))
 (pG (aw (PW.pt (dP (pM aA (pv 6) (pv 1) (pN _)) (cM (pM aA (ab ae (ab ae (pv 3) (pv 7) (fun _ _=>rfl)) pF (fun _ _=>rfl)) (bX T.len (pA (pv 2) pB)) (pN _))))) (pG (af (ab ae (pv 3) (pv 7) (fun _ _=>rfl)))) aj)))
 (pG mE))),?_⟩
   dsimp only[bE];obtain⟨a,ys,rfl,ha,hy⟩:=tc.tup_of;obtain⟨y1,y2,y3,rfl,t1,t2,t3⟩:=dN hy;obtain⟨fa,fs,rfl,hfa,hfs⟩:=t1.tup_of;obtain⟨f1,rfl,tf⟩:=jh hfs;obtain⟨oa,os,rfl,hoa,hos⟩:=t3.tup_of;obtain⟨o1,rfl,to⟩:=jh hos;obtain⟨pa,ps,rfl,hpa,hps⟩:=to.tup_of;obtain⟨p1,p2,rfl,u1,u2⟩:=em hps;cases u1;cases u2;obtain⟨fa1,gs,rfl,hfa1,hgs⟩:=(show TD K H f1 (.tuple [.str "open",.int 0,e]) from tf).tup_of;obtain⟨g1,g2,g3,rfl,w1,w2,w3⟩:=dN hgs;cases w1;cases w2;refine⟨_,rfl,a,_,rfl,ha,rfl,_,_,rfl,_,_,rfl,_,_,rfl,rfl,?_⟩;refine⟨_,rfl,oa,rfl,⟨_,hoa⟩,?_⟩;show az _ _ _ _ _ _;refine az.by (bL (xs:=[V.ref pa])) (fun j σ Hj=>j=0∧Hj=H∧σ=[some (.ref a),some (.str "main"),some (.ref l),some (.ref fa),some y2,some (.ref oa),none,none]) ⟨rfl,rfl,rfl⟩ (fun _ _ _ _ z=>by rw[z.2.1];exact hoa) ?_ (fun σ Hj z=>absurd z.1 (by show ¬ 1=0;decide))
   rintro j u σ Hj hu ⟨rfl,rfl,rfl⟩;cases hu;refine⟨pa,_,rfl,hpa,rfl,_,_,rfl,_,_,rfl,rfl,?_⟩;refine⟨_,rfl,_,rfl,rfl,_,rfl,aW ?_⟩;refine⟨_,rfl,_,rfl,fa,_,_,_,rfl,rfl,hfa,pH (j:=0) rfl,fa1,_,_,_,rfl,rfl,hfa1,pH (j:=1) rfl,_,rfl,l,_,rfl,.inl (SqL.of hl),rfl,_,rfl,aW ?_⟩;exact⟨_,rfl,_,rfl,fa,_,_,_,rfl,rfl,hfa,pH (j:=0) rfl,q _ _ (ai.refl _) tf⟩
end
theorem Stp.ne {S S':MS} (h:Stp S S'):S.W≠[]:=fun z=>by
 cases h with
 | beg hW _ _=>rw[z] at hW;simp at hW
 | fin hW _ _ _ _=>rw[z] at hW;simp at hW
 | ovr hW _ _=>rw[z] at hW;simp at hW
section
variable {P:Program} {w:World} {K:Fg} {mg:SOV} {base:Heap} {c:Ks}
abbrev sRu:Stmt:=top 42
abbrev nRu:List Str:=["core","name","values","bound","head","count","body","machine","end"]
inductive qM (K:Fg) (vs:List V) (H:Hp) (Q:VK):Prop
  | mk (vc:V) (l:Addr) (e:PyData) (n:Nat) (S:MS) (tg:Str) (d2:PyData) (h0:vs=[vc,.str "main",.ref l,.int 1]) (h1:TD K H vc (nM e)) (h2:H l=some (.lst [])) (h3:Run n (S0 e) S) (h4:End S tg d2) (q:∀ r H',ai H H'→iA K H' r S.D tg d2→Q (.ref r) H'):qM K vs H Q
def ue (K:Fg):Sp:=fun vs H Q _=>qM K vs H Q
theorem va (D:Def K mg "run" sRu) (k:KC K mg c) (T:Blt mg) (o9:Fn P w K mg base "opened" 1 ["core","name","values"] (uh K)) (I_Machine:IFn P w K mg base c.cc 1 ["self","functions","ticks"] (uv K c)) (M_begin:MFn P w K mg base c.cc "begin" 2 ["self","e","names"] (lg K c)) (bJ:Fn P w K mg base "bound_names" 1 lm (ml K c)) (lR:Fn P w K mg base "do_next" 6 ["machine"] (uu K c)) (jX:Fn P w K mg base "look" 1 ["value"] (rP K c)):Fn P w K mg base "run" 7 ["core","name","values","bound"] (ue K):=by
 have nd:(nRu:List Str).Nodup:=by decide +kernel
 refine D.fn (N:=nRu) ⟨rfl,rfl,rfl,nd,rfl,by decide +kernel,by decide +kernel⟩ (fun vs H Q E h=>?_) (fun _ _ _ _ _ _ us hl=>by obtain⟨a,b,d,e,rfl⟩:=eJ hl;rfl) (fun f' cdv A0 outer s' H vs Q E hr h=>?_)
 · obtain⟨vc,l,e,n,S,tg,d2,rfl,_⟩:=h;rfl
 · obtain⟨vc,l,e,n,Sf,tg,d2,rfl,tc,hl,rn,en,q⟩:=h;refine⟨_,(pD (fW (ao o9 (hr.mono (by decide)) rfl (pA (pv 0) (pA (pv 1) (pA (pv 2) pB)))) (d9 rfl (aK (ar (i:=4) nd rfl (Or.inl rfl)) (aK (ar (i:=5) nd rfl (Or.inl rfl)) (aK (ar (i:=6) nd rfl (Or.inl rfl)) cF)))))
 (pD (pL (i:=7) nd rfl (Or.inl rfl) (jq I_Machine (hr.mono (by decide)) rfl k.gC (pA (ab ae (pv 0) pF (fun _ _=>rfl)) (pA (pv 3) pB))))
 (pD (aC (aZ (pv 7) k.oc M_begin (hr.mono (by decide)) (pA (pv 6) (pA (ao bJ (hr.mono (by decide)) rfl (pA eZ (pA (qi T.tuple T.range (pA (pv 5) pB)) (pA (pv 2) pB)))) pB))))
 (pD (iJ PassesOwn.never (PW.pt (dP (pM jr (bq (pv 7) rfl) eZ (pN _)) (cM (mC (bq (pv 7) rfl) (by intro _;rfl)))))
 (pG (aC (ao lR (hr.mono (by decide)) rfl (pA (pv 7) pB)))))
 (pD (pL (i:=8) nd rfl (Or.inl rfl) (bq (pv 7) rfl))
 (pD (aw (pM jr (pv 8) eZ (pN _)) (pG (pL (i:=8) nd rfl (Or.inl rfl) (aa (pA pC (pA (ao jX (hr.mono (by decide)) rfl (pA (ab aE (bq (pv 7) rfl) pF (fun _ _=>rfl)) pB)) pB))))) aj)
 (pG (af (aa (pA (bq (pv 7) rfl) (pA (pv 8) pB))))))))))),?_⟩
   dsimp only[bE];refine ac fun ik g1_=>?_;refine⟨_,rfl,_,rfl,_,rfl,vc,l,e,rfl,tc,hl,fun v1 H1 s1 tv=>?_⟩;obtain⟨fa,fs,rfl,hfa,hfs⟩:=(show TD K H1 v1 (.tuple [.str "open",.int 0,e]) from tv).tup_of;obtain⟨f1,f2,f3,rfl,w1,w2,w3⟩:=dN hfs;cases w1;cases w2;refine⟨fa,_,rfl,hfa,rfl,_,_,rfl,_,_,rfl,_,_,rfl,rfl,?_⟩;refine g1_ _ _ (ac fun kJ g2_=>?_);have tc1:=tc.same s1;obtain⟨ca,ys,rfl,hca,hy⟩:=tc1.tup_of;obtain⟨y1,y2,y3,rfl,t1,t2,t3⟩:=dN hy;refine⟨_,rfl,ca,_,_,_,rfl,rfl,hca,pH (j:=0) rfl,_,rfl,fun x dx hx0 hdx ne=>?_⟩;have k3:=smu (o:=HO.own x) hdx;have hx1:(upd H1 dx (.own x)) x=none:=by rw[a0 (Ne.symm ne)];exact hx0
   have k4:=smu (o:=HO.ins c.cc dx []) hx1;have k34:=k3.trans k4;refine⟨x,dx,_,_,rfl,pE,fun A H3 eA kp m3 ow=>⟨rfl,?_⟩⟩;have s3:ai H1 H3:=fun b u z=>kp b u (ah z hx0) (k34 _ _ z);have no:∀ a u,H1 a=some u→¬ A.own a:=fun a u z o=>by
    rcases ow a o with rfl | z2
    · rw[hx0] at z;cases z
    · rw[k34 _ _ z] at z2;cases z2
   subst eA;refine g2_ _ _ (ac fun pf g3_=>?_);obtain⟨vd,h1,e1⟩:=m3.m;have S3:=s1.trans s3;refine⟨_,rfl,A.m,A.dx,_,rfl,h1,rfl,_,rfl,_,rfl,0,rfl,by decide,fun t ht=>?_⟩;have k5:=smu (o:=HO.tup ((List.range 0).map fun j=>V.int (0+((j:Nat):Int)))) ht;have m5:=m3.same k5;refine⟨_,rfl,A,_,[],.non,t,l,[],[],[],rfl,m5,.nil,SqT.of pE,SqL.of (k5 _ _ (S3 _ _ hl)),.nil,rfl,fun v6 H6 s6 hv6=>?_⟩;have m6:=m5.same s6;have S6:=(s3.trans k5).trans s6;refine⟨A,_,e,[],f3,v6,rfl,m6,w3.same S6,hv6,by decide,fun H7 f7 m7=>?_⟩;have F7:Fr A H1 H7:=(Fr.of S6).trans f7;refine g3_ _ _ (ac fun qz yt=>?_);clear m6 m5 m3 hv6;refine⟨fun m σ Hi=>∃ S,MV K c A Hi S∧Run m S Sf∧Fr A H1 Hi∧σ=[some (.ref ca),some (.str "main"),some (.ref l),some (.int 1),some (.str "open"),some (.int 0),some f3,some (.ref A.m),none],⟨n,_,m7,rn,F7,rfl⟩,?_⟩;rintro m σ Hi ⟨S,mi,ri,fi,rfl⟩;obtain⟨vi,hi,ei⟩:=mi.m;have out:S=Sf→qz [some (.ref ca),some (.str "main"),some (.ref l),some (.int 1),some (.str "open"),some (.int 0),some f3,some (.ref A.m),none] Hi:=fun e0=>by
    subst e0;refine yt _ _ (ac fun vW yq=>?_);refine⟨_,rfl,A.m,c.cc,A.dx,_,_,rfl,hi,k.oc,k.n11,rfl,?_⟩;refine yq _ _ (ac fun wQ yp=>?_);have last:∀ (pe:Addr) (H9:Hp) (v2:V),ai Hi H9→SqT K H9 pe [.str tg,v2]→c8 K H9 v2 d2→Ty3 K H9 v2→wQ [some (.ref ca),some (.str "main"),some (.ref l),some (.int 1),some (.str "open"),some (.int 0),some f3,some (.ref A.m),some (.ref pe)] H9:=fun pe H9 v2 s9 hpe dv ty=>by
     refine yp _ _ ?_;have m9:=mi.same s9;obtain⟨v9,h9,_⟩:=m9.m;obtain⟨ds,hd,ed⟩:=m9.s;refine⟨_,rfl,A.m,c.cc,A.dx,_,_,rfl,h9,k.oc,k.n10,rfl,_,rfl,bA,fun r hr'=>?_⟩;have k10:=smu (o:=HO.tup [.ref A.da,.ref pe]) hr';refine q r _ (fun a u z=>?_) (.mk A.da pe ds v2 (SqT.of pE) (k10 _ _ hd) (aq ed fun _ _ z=>z.fr (.of (A:=A) k10)) (hpe.tk k10.tk) (dv.same k10) ?_)
     · exact k10 _ _ (s9 _ _ (fi.kp a u (no a u (s1 _ _ z)) (s1 _ _ z)))
     · cases ty with
       | mk h ht =>
        refine .mk (t:=_) ?_ ht;cases h with
        | int i=>exact .int i
        | bl b=>exact .bl b
        | str x=>exact .str x
        | tup h=>exact .tup (h.tk k10.tk)
    cases en with
    | flt he =>
     rw[he] at ei;cases ei with
     | @flt a _ ha =>
      refine⟨_,rfl,rfl,_,rfl,pI (by show ¬ decide (V.ref a=V.non)=true;simp) ?_⟩;exact last a Hi _ (ai.refl _) ha (.str _) (.mk (.str _) (by decide))
    | @back x r he hT =>
     rw[he] at ei;cases ei;obtain⟨ts,ht,et⟩:=mi.t;rw[hT] at et;obtain⟨v,hv,vv⟩:=aO et (i:=0) rfl;refine⟨_,rfl,rfl,_,rfl,aW ?_⟩;refine⟨_,rfl,A.m,c.cc,A.dx,_,_,rfl,hi,k.oc,k.n9,rfl,A.ta,_,_,_,rfl,rfl,SqL.of ht,pH (j:=0) hv,A,v,x,rfl,vv,fun v' H8 s8 lv=>?_⟩;refine⟨bA,fun p hp=>?_⟩;have k9:=smu (o:=HO.tup [.str "back",v']) hp;have lv9:=lv.fr (.of (A:=A) k9);exact last p _ v' (s8.trans k9) (SqT.of pE) lv9.dat lv9.ty
   refine⟨_,rfl,A.m,c.cc,A.dx,_,_,rfl,hi,k.oc,k.n11,rfl,rfl,_,rfl,?_⟩;cases ri with
   | done hd =>
    cases eS:Sf.en with
    | some s =>
     rw[eS] at ei;cases ei with
     | @flt a _ ha=>exact pI (by show ¬ decide (V.ref a=V.non)=true;simp) (aP (out rfl))
    | none =>
     rw[eS] at ei;cases ei;have hW:Sf.W=[]:=hd.resolve_left fun z=>z eS;obtain⟨ws,hw,ew⟩:=mi.w;rw[hW] at ew;cases ew;refine aW ⟨_,rfl,A.m,c.cc,A.dx,_,_,rfl,hi,k.oc,k.n8,rfl,_,.inl ⟨_,SqL.of hw,rfl⟩,pI (by decide) (out rfl)⟩
   | @step n' _ S1 _ he st r =>
    rw[he] at ei;cases ei;obtain⟨ws,hw,ew⟩:=mi.w;have wl:=bc ew;have nE:(!ws.isEmpty)=true:=by
     cases ws with
     | nil=>exact absurd (List.eq_nil_of_length_eq_zero wl.symm) st.ne
     | cons a b=>rfl
    refine aW ⟨_,rfl,A.m,c.cc,A.dx,_,_,rfl,hi,k.oc,k.n8,rfl,_,.inl ⟨_,SqL.of hw,rfl⟩,pJ nE ?_⟩;refine⟨fun σ' H'=>∃ S,MV K c A H' S∧Run n' S Sf∧Fr A H1 H'∧σ'=[some (.ref ca),some (.str "main"),some (.ref l),some (.int 1),some (.str "open"),some (.int 0),some f3,some (.ref A.m),none],fun σ' H' z=>⟨n',Nat.lt_succ_self _,z⟩,?_⟩;exact⟨_,rfl,A,S,S1,rfl,mi,st,fun H' f' m'=>⟨S1,m',r,fi.trans f',rfl⟩⟩
end
structure Tg (H Hi:Hp) (b:Addr) (k:Int):Prop where
  kp:∀ a u,a≠b→H a=some u→Hi a=some u
  bx:gJ Hi b k
theorem Tg.took {H Hi H':Hp} {b:Addr} {k:Int} (c:Tg H Hi b k) (mo:Mo Hi b H') (bx:gJ H' b (k+1)):Tg H H' b (k+1):=⟨fun a u n h=>(mo a n).trans (c.kp a u n h),bx⟩
theorem Tg.same {H Hi H':Hp} {b:Addr} {k:Int} (c:Tg H Hi b k) (s:ai Hi H'):Tg H H' b k:=by
 obtain⟨n,x,h,h0⟩:=c.bx;exact⟨fun a u n h=>s _ _ (c.kp a u n h),⟨n,x,s _ _ h,h0⟩⟩
theorem Tg.trans {H H1 H2:Hp} {b:Addr} {k k2:Int} (c:Tg H H1 b k) (e:Tg H1 H2 b k2):Tg H H2 b k2:=⟨fun a u n h=>e.kp a u n (c.kp a u n h),e.bx⟩
theorem Tg.tks {H H1:Hp} {b:Addr} {k k2:Int} (c:Tg H H1 b k) (hb:gJ H b k2):Tk H H1:=fun a xs h=>by
 obtain⟨n,x,hb,_⟩:=hb;have n1:a≠b:=fun e=>by
  rw[e] at h
  rcases h with h | ⟨_,h⟩ <;> rw[hb] at h <;> cases h
 rcases h with h | ⟨o,h⟩
 · exact .inl (c.kp _ _ n1 h)
 · exact .inr ⟨o,c.kp _ _ n1 h⟩
theorem Tg.put {H H2:Hp} {b G:Addr} {k:Int} {o:HO} (c:Tg H H2 b k) (hG:H G=none) (nb:G≠b):Tg H (upd H2 G o) b k:=by
 obtain⟨n,x,h,h0⟩:=c.bx;exact⟨fun a u n h=>by rw[a0 (ah h hG)];exact c.kp a u n h,⟨n,x,by rw[a0 (Ne.symm nb)];exact h,h0⟩⟩
theorem td2 {K:Fg} {H:Hp} {p:Addr} {a b:V} {da db:PyData} (ha:TD K H a da) (hb:TD K H b db) (hp:H p=none):TD K (upd H p (.tup [a,b])) (.ref p) (.tuple [da,db]):=.tup (SqT.of pE) (.cons (ha.same (smu hp)) (.cons (hb.same (smu hp)) .nil))
theorem td3 {K:Fg} {H:Hp} {p:Addr} {a b c:V} {da db dc:PyData} (ha:TD K H a da) (hb:TD K H b db) (hc:TD K H c dc) (hp:H p=none):TD K (upd H p (.tup [a,b,c])) (.ref p) (.tuple [da,db,dc]):=.tup (SqT.of pE) (.cons (ha.same (smu hp)) (.cons (hb.same (smu hp)) (.cons (hc.same (smu hp)) .nil)))
theorem td4 {K:Fg} {H:Hp} {p:Addr} {a b c e:V} {da db dc de:PyData} (ha:TD K H a da) (hb:TD K H b db) (hc:TD K H c dc) (he:TD K H e de) (hp:H p=none):TD K (upd H p (.tup [a,b,c,e])) (.ref p) (.tuple [da,db,dc,de]):=.tup (SqT.of pE) (.cons (ha.same (smu hp)) (.cons (hb.same (smu hp)) (.cons (hc.same (smu hp)) (.cons (he.same (smu hp)) .nil))))
inductive Th | num (i:Int) | row (is:List Int) | new (r i:Int) | fn (ids:List Int)
def opE (s:Str) (es:PDs):PyData:=.tuple [.str "op",.str s,.tuple es]
def cX (r:Int) (es:PDs):PyData:=.tuple [.str "new",.int r,.tuple es]
def cZ (ids:List Int) (b:PyData):PyData:=.tuple [.str "fun",.tuple (ids.map .int),b]
def thD:Th→PyData
  | .num i=>num i
  | .row is=>opE "row" (is.map num)
  | .new r i=>cX r [num i]
  | .fn ids=>cZ ids (num 5)
def vlT:Th→Vl
  | .num i=>.int i
  | .row is=>.tup is
  | .new r i=>.made r i
  | .fn ids=>.fn ids
def nu (i:Int):Prop:=-32768≤i∧i≤32767
inductive br:Th→Prop
  | num {i:Int} (h:nu i):br (.num i)
  | row {is:List Int} (h:∀ i∈is,nu i) (hl:is.length≤8):br (.row is)
  | new {r i:Int} (hr:r=0∨r=1) (h:nu i):br (.new r i)
  | fn {ids:List Int} (hl:ids.length≤2):br (.fn ids)
section
variable {P:Program} {w:World} {K:Fg} {mg:SOV} {base:Heap}
abbrev sh:List Str:=["_law_box_here","_law_many"]
abbrev sNr:Stmt:=top 46
inductive qS (vs:List V) (H:Hp) (Q:VK):Prop
  | mk (b:Addr) (k:Int) (h0:vs=[.ref b]) (h1:gJ H b k) (h2:k≤1000) (q:∀ i H' k',Tg H H' b k'→k'≤k+2→nu i→Q (.int i) H'):qS vs H Q
def uj:Sp:=fun vs H Q _=>qS vs H Q
def fQ:List Int:=[-32768,-32767,32767,32766,181,-182,256]
theorem vp (D:Def K mg "_law_number" sNr) (aV:Fn P w K mg base "_law_take" 1 sh oz):Fn P w K mg base "_law_number" 2 ["_law_box_here"] uj:=by
 have nd:(["_law_box_here","_law_way"]:List Str).Nodup:=by decide +kernel
 refine D.fn (N:=["_law_box_here","_law_way"]) ⟨rfl,rfl,rfl,nd,rfl,by decide +kernel,by decide +kernel⟩ (fun vs H Q E h=>?_) (fun _ _ _ _ _ _ us hl=>by obtain⟨a,rfl⟩:=cY hl;rfl) (fun f' cdv A outer s' H vs Q E hr h=>?_)
 · obtain⟨b,k,rfl,_⟩:=h;rfl
 · obtain⟨b,k,rfl,hbx,hk,q⟩:=h;have hz0:(1000:Nat)<sizeLine:=by decide
   refine⟨_,(@pD _ _ _ _ _ (@pL _ _ 1 _ _ _ _ nd rfl (Or.inl rfl) (ao aV (hr.mono (by decide)) rfl (pA (pv 0) (pA pF pB))) (by rfl) (by exact Or.inl rfl))
 (@pD _ _ _ _ _ (aw (pM aA (pv 1) pF (pN _)) (pG (af (au c6 (ao aV (hr.mono (by decide)) rfl (pA (pv 0) (pA pF pB))) pF))) aj)
 (@pD _ _ _ _ _ (aw (pM aA (pv 1) pF (pN _)) (pG (af (@ab _ _ _ _ _ _ _ aE (@aU _ _ _ _ (@pA _ _ _ _ _ (fo d3 pF) (@pA _ _ _ _ _ (fo d3 pF) (@pA _ _ _ _ _ pF (@pA _ _ _ _ _ pF (@pA _ _ _ _ _ pF (@pA _ _ _ _ _ (fo d3 pF) (@pA _ _ _ _ _ pF pB (by rfl)) (by rfl)) (by rfl)) (by rfl)) (by rfl)) (by rfl)) (by rfl))) (ao aV (hr.mono (by decide)) rfl (pA (pv 0) (pA pF pB))) (fun _ _=>rfl)))) aj)
 (pG (af (au c6 (ao aV (hr.mono (by decide)) rfl (pA (pv 0) (pA pF pB))) pF)))))),?_⟩
   dsimp only[bE];have g0:Tg H H b k:=⟨fun _ _ _ h=>h,hbx⟩;refine ac fun ik ee=>?_;refine⟨_,rfl,b,k,4,rfl,hbx,by omega,by decide,by decide,fun r H1 r0 r1 mo1 bx1=>?_⟩;have g1:=g0.took mo1 bx1;refine ee _ _ (ac fun kJ gw=>?_);refine⟨_,rfl,rfl,_,rfl,?_⟩;by_cases e1:r=0
   · refine pJ (by simp[e1]) ⟨_,rfl,b,k+1,5,rfl,bx1,by omega,by decide,by decide,fun z H2 z0 z1 mo2 bx2=>⟨_,_,rfl,rfl,?_⟩⟩;exact q _ _ _ (g1.took mo2 bx2) (by omega) (by unfold nu;omega)
   refine pI (by simpa using e1) (gw _ _ (ac fun pf iW=>?_));refine⟨_,rfl,rfl,_,rfl,?_⟩;by_cases e2:r=1
   · refine pJ (by simp[e2]) ?_;refine⟨_,rfl,_,rfl,_,rfl,xZ,fun L hL=>?_⟩;have k2:=smu (o:=HO.lst (fQ.map V.int)) hL;have hL2:(upd H1 L (.lst (fQ.map V.int))) L=some (.lst (fQ.map V.int)):=pE;have nL:L≠b:=fun e=>by obtain⟨_,_,hb,_⟩:=g1.bx;rw[e,hb] at hL;cases hL
     have g2:=g1.same k2;refine⟨_,rfl,b,k+1,7,rfl,g2.bx,by omega,by decide,by decide,fun z H3 z0 z1 mo3 bx3=>?_⟩;obtain⟨j,rfl⟩:=Int.eq_ofNat_of_zero_le z0;have hj:j<fQ.length:=by show j<7;omega
     refine⟨L,_,_,.int fQ[j],rfl,rfl,SqL.of ((mo3 L nL).trans hL2),pH (by rw[gEM,gEE hj];rfl),?_⟩;have hm:∀ i∈fQ,nu i:=by unfold nu fQ;decide
     exact q _ _ _ (g2.took mo3 bx3) (by omega) (hm _ (List.getElem_mem hj))
   refine pI (by simpa using e2) (iW _ _ ?_);refine⟨_,rfl,b,k+1,65536,rfl,bx1,by omega,by decide,by decide,fun z H2 z0 z1 mo2 bx2=>⟨_,_,rfl,rfl,?_⟩⟩;exact q _ _ _ (g1.took mo2 bx2) (by omega) (by unfold nu;omega)
abbrev sTg:Stmt:=top 47
abbrev nTg:List Str:=["_law_box_here","_law_way","_law_ids"]
inductive qI (K:Fg) (vs:List V) (H:Hp) (Q:VK):Prop
  | mk (b:Addr) (k:Int) (h0:vs=[.ref b]) (h1:gJ H b k) (h2:k≤900) (q:∀ v t H' k',Tg H H' b k'→k'≤k+20→TD K H' v (thD t)→br t→Q v H'):qI K vs H Q
def ua (K:Fg):Sp:=fun vs H Q _=>qI K vs H Q
theorem vT:(["_law_k","_law_box_here"]:List Str).Nodup:=by decide +kernel
theorem xq:(["_law_k"]:List Str).Nodup:=by decide +kernel
theorem bz (n:Nat):(L2.ci 0 n).length=n:=by simp[L2.ci]
theorem eB {n i:Nat} {x:V} (h:(L2.ci 0 n)[i]?=some x):x=.int ((i:Nat):Int):=by
 have hi:i<n:=by have:=(gES.mp h).1;rwa [bz] at this
 simp[L2.ci,hi] at h;exact h.symm
theorem oj {K:Fg} {H:Hp} {ys:List V} {is:List Int} {i:Int} {v:V} (h:TDs K H ys (is.map num)) (hv:TD K H v (num i)):TDs K H (ys++[v]) ((is++[i]).map num):=by
 rw[List.map_append];exact h.snoc hv
theorem tdi {K:Fg} {H:Hp} (is:List Int):TDs K H (is.map V.int) (is.map .int):=by
 induction is with
 | nil=>exact .nil
 | cons i r ih=>exact .cons (.int i) ih
theorem v4 (D:Def K mg "_law_thing" sTg) (T:Blt mg) (aV:Fn P w K mg base "_law_take" 1 sh oz) (cV:Fn P w K mg base "_law_number" 2 ["_law_box_here"] uj):Fn P w K mg base "_law_thing" 3 ["_law_box_here"] (ua K):=by
 have nd:(nTg:List Str).Nodup:=by decide +kernel
 refine D.fn (N:=nTg) ⟨rfl,rfl,rfl,nd,rfl,by decide +kernel,by decide +kernel⟩ (fun vs H Q E h=>?_) (fun _ _ _ _ _ _ us hl=>by obtain⟨a,rfl⟩:=cY hl;rfl) (fun f' cdv A outer s' H vs Q E hr h=>?_)
 · obtain⟨b,k,rfl,_⟩:=h;rfl
 · obtain⟨b,k,rfl,hbx,hk,q⟩:=h;have hz0:(1000:Nat)<sizeLine:=by decide
   refine⟨_,(@pD _ _ _ _ _ (@pL _ _ 1 _ _ _ _ nd rfl (Or.inl rfl) (ao aV (hr.mono (by decide)) rfl (pA (pv 0) (pA pF pB))) (by rfl) (by exact Or.inl rfl))
 (@pD _ _ _ _ _ (aw (pM iP (pv 1) pF (pN _)) (pG (af (aa (pA pC (pA (ao cV (hr.mono (by decide)) rfl (pA (pv 0) pB)) pB))))) aj)
 (@pD _ _ _ _ _ (aw (pM aA (pv 1) pF (pN _)) (pG (af (@aa _ _ _ _ _ (@pA _ _ _ _ _ pC (@pA _ _ _ _ _ pC (@pA _ _ _ _ _ (cy T.tuple (pA (eI (own:=["_law_k"]) (outs:=[(0,"_law_box_here")]) rfl (bb.of (ak sTg) nTg) (bZ rfl T.range (pA (ao aV (hr.mono (by decide)) rfl (pA (pv 0) (pA pF pB))) pB)) (fun _ _ _ _=>⟨(ar (i:=0) vT rfl (Or.inl rfl)),bU,(aa (pA pC (pA (ao cV (hr.mono (by decide)) rfl (pA (pv 1) pB)) pB)))⟩)) pB)) pB (by rfl)) (by rfl)) (by rfl))))) aj)
 (@pD _ _ _ _ _ (aw (pM aA (pv 1) pF (pN _)) (pG (af (@aa _ _ _ _ _ (@pA _ _ _ _ _ pC (@pA _ _ _ _ _ (ao aV (hr.mono (by decide)) rfl (pA (pv 0) (pA pF pB))) (@pA _ _ _ _ _ (@aa _ _ _ _ _ (@pA _ _ _ _ _ (@aa _ _ _ _ _ (@pA _ _ _ _ _ pC (@pA _ _ _ _ _ (ao cV (hr.mono (by decide)) rfl (pA (pv 0) pB)) pB (by rfl)) (by rfl))) pB (by rfl))) pB (by rfl)) (by rfl)) (by rfl))))) aj)
 (@pD _ _ _ _ _ (@pL _ _ 2 _ _ _ _ nd rfl (Or.inl rfl) (cy T.tuple (pA (eI (own:=["_law_k"]) (outs:=[]) rfl (bb.of (ak sTg) nTg) (bZ rfl T.range (pA (ao aV (hr.mono (by decide)) rfl (pA (pv 0) (pA pF pB))) pB)) (fun _ _ _ _=>⟨(ar (i:=0) xq rfl (Or.inl rfl)),bU,(au cz pF (pv 0))⟩)) pB)) (by rfl) (by exact Or.inl rfl))
 (pG (af (@aa _ _ _ _ _ (@pA _ _ _ _ _ pC (@pA _ _ _ _ _ (pv 2) (@pA _ _ _ _ _ (@aa _ _ _ _ _ (@pA _ _ _ _ _ pC (@pA _ _ _ _ _ pF pB (by rfl)) (by rfl))) pB (by rfl)) (by rfl)) (by rfl)))))))))),?_⟩
   dsimp only[bE];have g0:Tg H H b k:=⟨fun _ _ _ h=>h,hbx⟩;refine ac fun ik ee=>?_;refine⟨_,rfl,b,k,6,rfl,hbx,by omega,by decide,by decide,fun r H1 r0 r1 mo1 bx1=>?_⟩;have g1:=g0.took mo1 bx1;refine ee _ _ (ac fun kJ gw=>?_);refine⟨_,rfl,_,_,rfl,rfl,_,rfl,?_⟩;by_cases e1:r<3
   · refine pJ (by simpa using e1) ⟨_,rfl,b,k+1,rfl,bx1,by omega,fun i H2 k2 g2 hk2 hi=>?_⟩;refine⟨bA,fun p hp=>?_⟩;exact q _ (.num i) _ _ ((g1.trans g2).same (smu hp)) (by omega) (td2 (.str _) (.int _) hp) (.num hi)
   refine pI (by simpa using e1) (gw _ _ (ac fun pf iW=>?_));refine⟨_,rfl,rfl,_,rfl,?_⟩;by_cases e2:r=3
   · refine pJ (by simp[e2]) ?_;rw[fS,cL,aG,li,aG,li,aG,fT,aG,eC];refine⟨_,rfl,b,k+1,9,rfl,bx1,by omega,by decide,by decide,fun r2 H2 r20 r21 mo2 bx2=>?_⟩;have g2:=g1.took mo2 bx2;obtain⟨m,rfl⟩:=Int.eq_ofNat_of_zero_le r20;refine⟨_,rfl,by omega,by omega,fun G hG=>?_⟩;rw[show ((m:Nat):Int).toNat=m from Int.toNat_natCast _];have nb:G≠b:=fun e=>by obtain⟨_,_,hb,_⟩:=g2.bx;rw[e,hb] at hG;cases hG
     have k0:=smu (o:=HO.lst []) hG;have g20:Tg H2 H2 b (k+1+1):=⟨fun _ _ _ h=>h,g2.bx⟩;refine bW.by (bN (n:=m)) (fun j σ Hj=>(∃ ys is k',Tg H2 Hj b k'∧k'≤k+2+2*((j:Nat):Int)∧Hj G=some (.lst ys)∧TDs K Hj ys (is.map num)∧is.length=j∧∀ i∈is,nu i)∧∃ y,σ=[y,some (.ref b)])
      ⟨⟨[],[],_,g20.same k0,by omega,pE,.nil,rfl,fun _ h=>(by cases h)⟩,_,rfl⟩ (fun _ _ _ _ _=>trivial) ?_ ?_
     · rintro j u σ Hj hu ⟨⟨ys,is,k1,c1,hk1,hGj,hts,hdl,hx⟩,y,rfl⟩;have hj:j<m:=by have:=(gES.mp hu).1;rwa [bz] at this
       rw[cg,d7];refine aW ⟨_,rfl,b,k1,rfl,c1.bx,by omega,fun i H3 k3 c3 hk3 hi=>?_⟩;refine⟨bA,fun p hp=>?_⟩;have s4:=smu (o:=HO.tup [.str "number",.int i]) hp;have c4:=c3.same s4;have hG4:=c4.kp _ _ nb hGj;have yl:=hts.length;rw[lMp] at yl;refine⟨ys,hG4,by omega,⟨_,is++[i],k3,(c1.trans c4).put hG nb,by omega,pE,(oj (hts.tk (c4.tks c1.bx)) (td2 (.str _) (.int _) hp)).tk (i8 (.inr ⟨_,hG4⟩)),by simp[hdl],fun z hz=>?_⟩,_,rfl⟩
       rcases mAp.mp hz with hz | hz
       · exact hx z hz
       · rw[mSg.mp hz];exact hi
     · rintro σ Hj ⟨⟨ys,is,k1,c1,hk1,hGj,hts,hdl,hx⟩,y,rfl⟩;rw[bz] at hk1 hdl;refine⟨G,_,rfl,.inl ⟨SqL.of hGj,fun F hF=>?_⟩⟩;have k5:=smu (o:=HO.tup ys) hF;refine⟨fN,fun p hp=>?_⟩;exact q _ (.row is) _ k1 (((g2.trans c1).same k5).same (smu hp)) (by omega) (td3 (.str _) (.str _) (.tup (SqT.of pE) (hts.same k5)) hp) (.row hx (by omega))
   refine pI (by simpa using e2) (iW _ _ (ac fun qz nn=>?_));refine⟨_,rfl,rfl,_,rfl,?_⟩;by_cases e3:r=4
   · refine pJ (by simp[e3]) ?_;refine⟨_,rfl,b,k+1,2,rfl,bx1,by omega,by decide,by decide,fun r2 H2 r20 r21 mo2 bx2=>?_⟩;have g2:=g1.took mo2 bx2;refine⟨_,rfl,b,_,rfl,bx2,by omega,fun i H3 k3 g3 hk3 hi=>?_⟩;have g13:=g2.trans g3;refine⟨bA,fun p hp=>⟨jd,fun p2 hp2=>⟨fN,fun p3 hp3=>?_⟩⟩⟩;have t1:TD K _ (.ref p) (num i):=td2 (.str _) (.int _) hp;have t2:TD K _ (.ref p2) (.tuple [num i]):=.tup (SqT.of pE) (.cons (t1.same (smu hp2)) .nil);exact q _ (.new r2 i) _ _ (((g13.same (smu hp)).same (smu hp2)).same (smu hp3)) (by omega) (td3 (.str _) (.int _) t2 hp3) (.new (by omega) hi)
   refine pI (by simpa using e3) (nn _ _ (ac fun vW py=>?_));rw[jn,fT,aG,eC];refine⟨_,rfl,b,k+1,3,rfl,bx1,by omega,by decide,by decide,fun r2 H2 r20 r21 mo2 bx2=>?_⟩;have g2:=g1.took mo2 bx2;obtain⟨m,rfl⟩:=Int.eq_ofNat_of_zero_le r20;refine⟨_,rfl,by omega,by omega,fun G hG=>?_⟩;rw[show ((m:Nat):Int).toNat=m from Int.toNat_natCast _];have k0:=smu (o:=HO.lst []) hG;refine bW.by (bN (n:=m)) (fun j σ Hj=>(ai H2 Hj∧∃ is:List Int,Hj G=some (.lst (is.map V.int))∧is.length=j)∧∃ y,σ=[y]) ⟨⟨k0,[],pE,rfl⟩,_,rfl⟩ (fun _ _ _ _ _=>trivial) ?_ ?_
   · rintro j u σ Hj hu ⟨⟨sj,is,hGj,hl⟩,y,rfl⟩;have hj:j<m:=by have:=(gES.mp hu).1;rwa [bz] at this
     have:=eB hu;subst this;rw[cg,d7];refine aW ⟨_,rfl,_,_,rfl,rfl,_,hGj,by rw[lMp];omega,⟨fun a v e=>?_,is++[7+((j:Nat):Int)],?_,by simp[hl]⟩,_,rfl⟩
     · rw[a0 (ah e hG)];exact sj _ _ e
     · rw[pE,List.map_append];rfl
   · rintro σ Hj ⟨⟨sj,is,hGj,hl⟩,y,rfl⟩;rw[bz] at hl;refine⟨G,_,rfl,.inl ⟨SqL.of hGj,fun F hF=>?_⟩⟩;have k5:=smu (o:=HO.tup (is.map V.int)) hF;refine py _ _ ?_;refine⟨_,rfl,bA,fun p hp=>⟨fN,fun p2 hp2=>?_⟩⟩;have tF:TD K (upd Hj F (.tup (is.map V.int))) (.ref F) (.tuple (is.map .int)):=.tup (SqT.of pE) (tdi is);exact q _ (.fn is) _ _ ((((g2.same sj).same k5).same (smu hp)).same (smu hp2)) (by omega) (td3 (.str _) (tF.same (smu hp)) (td2 (.str _) (.int _) hp) hp2) (.fn (by omega))
end
def rsD (s:Str) (xs:List Vl):Str×PyData:=match opF s xs with
  | some f=>("fault",PyData.str f)
  | none=>("back",lkD (lk (opV s xs)))
theorem df {s:Str} {xs:List Vl} (h1:s≠"div") (h2:s≠"at"):opF s xs=none:=by
 unfold opF;rw[if_neg (fun z=>h1 z.1),if_neg (fun z=>h2 z.1)]
theorem bt {s:Str} {xs:List Vl} (h:opF s xs=none):rsD s xs=(("back":Str),lkD (lk (opV s xs))):=by
 unfold rsD;rw[h]
theorem eu {s f:Str} {xs:List Vl} (h:opF s xs=some f):rsD s xs=(("fault":Str),PyData.str f):=by
 unfold rsD;rw[h]
theorem i9 {t:Th} (h:br t):Sml (wth (vlT t)):=by
 unfold Sml;cases h with
 | num h=>unfold nu at h;simp only[vlT,wth];omega
 | row h hl=>show -70000≤(0:Int)∧(0:Int)≤70000;decide
 | new hr h=>show -70000≤(0:Int)∧(0:Int)≤70000;decide
 | fn hl=>show -70000≤(0:Int)∧(0:Int)≤70000;decide
section
variable {P:Program} {w:World} {K:Fg} {mg:SOV} {base:Heap}
inductive ThV (K:Fg) (H:Hp):V→Th→Prop
  | num {a:Addr} {i:Int} (h:SqT K H a [.str "number",.int i]):ThV K H (.ref a) (.num i)
  | row {a b:Addr} {vs:List V} {is:List Int} (h:SqT K H a [.str "op",.str "row",.ref b]) (hb:SqT K H b vs) (hv:TDs K H vs (is.map num)):ThV K H (.ref a) (.row is)
  | new {a b:Addr} {v:V} {r i:Int} (h:SqT K H a [.str "new",.int r,.ref b]) (hb:SqT K H b [v]) (hv:TD K H v (num i)):ThV K H (.ref a) (.new r i)
  | fn {a b:Addr} {v:V} {ids:List Int} (h:SqT K H a [.str "fun",.ref b,v]) (hb:SqT K H b (ids.map V.int)):ThV K H (.ref a) (.fn ids)
theorem thv {H:Hp} {v:V} {t:Th} (h:TD K H v (thD t)):ThV K H v t:=by
 cases t with
 | num i =>
  obtain⟨a,ys,rfl,ha,hy⟩:=(show TD K H v (.tuple _) from h).tup_of;obtain⟨y1,y2,rfl,t1,t2⟩:=em hy;cases t1;cases t2;exact .num ha
 | row is =>
  obtain⟨a,ys,rfl,ha,hy⟩:=(show TD K H v (.tuple _) from h).tup_of;obtain⟨y1,y2,y3,rfl,t1,t2,t3⟩:=dN hy;cases t1;cases t2;obtain⟨b,vs,rfl,hb,hv⟩:=t3.tup_of;exact .row ha hb hv
 | new r i =>
  obtain⟨a,ys,rfl,ha,hy⟩:=(show TD K H v (.tuple _) from h).tup_of;obtain⟨y1,y2,y3,rfl,t1,t2,t3⟩:=dN hy;cases t1;cases t2;obtain⟨b,vs,rfl,hb,hv⟩:=t3.tup_of;obtain⟨x,rfl,tx⟩:=jh hv;exact .new ha hb tx
 | fn ids =>
  obtain⟨a,ys,rfl,ha,hy⟩:=(show TD K H v (.tuple _) from h).tup_of;obtain⟨y1,y2,y3,rfl,t1,t2,t3⟩:=dN hy;cases t1;obtain⟨b,vs,rfl,hb,hv⟩:=t2.tup_of;have:=eh hv;subst this;exact .fn ha hb
theorem aX {x:V} {r:List V}:atI (x::r) 0=some x:=pH (j:=0) rfl
theorem eR {x y:V} {r:List V}:atI (x::y::r) 1=some y:=pH (j:=1) rfl
theorem jR {x y z:V} {r:List V}:atI (x::y::z::r) 2=some z:=pH (j:=2) rfl
inductive qU (K:Fg) (vs:List V) (H:Hp) (Q:VK):Prop
  | mk (v:V) (t:Th) (h0:vs=[v]) (h1:TD K H v (thD t)) (q:Q (.int (wth (vlT t))) H):qU K vs H Q
def oB (K:Fg):Sp:=fun vs H Q _=>qU K vs H Q
theorem vt (D:Def K mg "_law_worth" (top 48)):Fn P w K mg base "_law_worth" 1 ["_law_e"] (oB K):=by
 refine D.fn (N:=["_law_e"]) fsM (fun vs H Q E h=>?_) (fun _ _ _ _ _ _ us hl=>by obtain⟨a,rfl⟩:=cY hl;rfl) (fun f' cdv A outer s' H vs Q E hr h=>?_)
 · obtain⟨v,t,rfl,_⟩:=h;rfl
 · obtain⟨v,t,rfl,tv,q⟩:=h;refine⟨_,(pG (af (aN (pM aA (ab ae (pv 0) pF (fun _ _=>rfl)) pC (pN _)) (ab ae (pv 0) pF (fun _ _=>rfl)) pF))),?_⟩;dsimp only[bE];cases thv tv with
   | @num a i h=>exact⟨_,rfl,a,_,_,_,rfl,rfl,h,aX,rfl,_,rfl,aW ⟨_,rfl,a,_,_,_,rfl,rfl,h,eR,q⟩⟩
   | @row a _ _ _ h _ _=>exact⟨_,rfl,a,_,_,_,rfl,rfl,h,aX,rfl,_,rfl,aP q⟩
   | @new a _ _ _ _ h _ _=>exact⟨_,rfl,a,_,_,_,rfl,rfl,h,aX,rfl,_,rfl,aP q⟩
   | @fn a _ _ _ h _=>exact⟨_,rfl,a,_,_,_,rfl,rfl,h,aX,rfl,_,rfl,aP q⟩
inductive nS (K:Fg) (vs:List V) (H:Hp) (Q:VK):Prop
  | mk (v:V) (t:Th) (h0:vs=[v]) (h1:TD K H v (thD t)) (h2:br t) (q:∀ v' H',ai H H'→LkV K H' v' (lk (vlT t))→Q v' H'):nS K vs H Q
def km (K:Fg):Sp:=fun vs H Q _=>nS K vs H Q
theorem xp:(["_law_one"]:List Str).Nodup:=by decide +kernel
theorem gT {H1:Hp} {b:Addr} {vs:List V} {is:List Int} {Q:VK} {y0:Option V} (hb:SqT K H1 b vs) (hv:TDs K H1 vs (is.map num)) (hl:is.length≤8) {G:Addr} (hG:H1 G=none)
 (q:∀ H',ai H1 H'→H' G=some (.lst (is.map V.int))→Q (.ref G) H'):bW (Itt K b) (hI 0) lY (tOp (lj K) (cu 0) (tC (.int 1))) Q [y0] H1 G:=by
 have hz0:(1000:Nat)<sizeLine:=by decide
 have vl:=hv.length;rw[lMp] at vl;have k0:=smu (o:=HO.lst []) hG;refine bW.by (bL (xs:=vs)) (fun i σ Hi=>ai H1 Hi∧Hi G=some (.lst ((is.take i).map V.int))∧∃ y,σ=[y]) ⟨k0,pE,_,rfl⟩ (fun _ _ _ _ z=>hb.tk z.1.tk) ?_ ?_
 · rintro i u σ Hi hu ⟨si,hGi,y,rfl⟩;have hi:i<vs.length:=(gES.mp hu).1;have hi2:i<is.length:=by omega
   obtain⟨d,hd,td⟩:=hv.get hu;rw[gEM,gEE hi2] at hd;cases hd;obtain⟨a,ys,rfl,ha,hy⟩:=(td.same si).tup_of;obtain⟨y1,y2,rfl,t1,t2⟩:=em hy;cases t2;rw[cg,d7];refine aW ⟨_,rfl,a,_,_,_,rfl,rfl,ha,eR,_,hGi,?_,fun c v e=>?_,?_,_,rfl⟩
   · simp only[lMp,lTk];omega
   · rw[a0 (ah e hG)];exact si _ _ e
   · rw[pE,tAO,gEE hi2,List.map_append];rfl
 · rintro σ Hi ⟨si,hGi,y,rfl⟩;rw[vl,List.take_length] at hGi;exact q Hi si hGi
theorem vw (D:Def K mg "_law_look" (top 49)) (T:Blt mg):Fn P w K mg base "_law_look" 1 ["_law_e"] (km K):=by
 refine D.fn (N:=["_law_e"]) fsM (fun vs H Q E h=>?_) (fun _ _ _ _ _ _ us hl=>by obtain⟨a,rfl⟩:=cY hl;rfl) (fun f' cdv A outer s' H vs Q E hr h=>?_)
 · obtain⟨v,t,rfl,_⟩:=h;rfl
 · obtain⟨v,t,rfl,tv,ok,q⟩:=h;refine⟨_,(pD (aw (pM aA (ab ae (pv 0) pF (fun _ _=>rfl)) pC (pN _)) (pG (af (ab ae (pv 0) pF (fun _ _=>rfl)))) aj)
 (pG (af (aN (pM aA (ab ae (pv 0) pF (fun _ _=>rfl)) pC (pN _)) (cy T.tuple (pA (eI (own:=["_law_one"]) (outs:=[]) (te:=tOp (lj K) (cu 0) (tC (.int 1))) rfl (bb.of (ak (top 49)) ["_law_e"]) (d8 (ab ae (pv 0) pF (fun _ _=>rfl))) (fun _ _ _ _=>⟨(ar (i:=0) xp rfl (Or.inl rfl)),bU,(ab ae (pv 0) pF (fun _ _=>rfl))⟩)) pB)) pC)))),?_⟩
   dsimp only[bE];cases thv tv with
   | @num a i h=>exact⟨_,rfl,a,_,_,_,rfl,rfl,h,aX,rfl,_,rfl,aW ⟨_,rfl,a,_,_,_,rfl,rfl,h,eR,q _ _ (ai.refl _) (.int i)⟩⟩
   | @row a b vs is h hb hv =>
    cases ok with
    | row _ hl =>
     refine⟨_,rfl,a,_,_,_,rfl,rfl,h,aX,rfl,_,rfl,aP ⟨_,rfl,a,_,_,_,rfl,rfl,h,aX,rfl,_,rfl,aW ?_⟩⟩;rw[fT,aG,eC];refine⟨_,rfl,a,_,_,_,rfl,rfl,h,jR,b,rfl,⟨_,hb⟩,fun G hG=>?_⟩;refine gT hb hv hl hG fun H' s' hG'=>?_;exact⟨G,_,rfl,.inl ⟨SqL.of hG',fun F hF=>q _ _ (s'.trans (smu hF)) (.tup (SqT.of pE))⟩⟩
   | @new a _ _ _ _ h _ _=>exact⟨_,rfl,a,_,_,_,rfl,rfl,h,aX,rfl,_,rfl,aP ⟨_,rfl,a,_,_,_,rfl,rfl,h,aX,rfl,_,rfl,aP (q _ _ (ai.refl _) .thing)⟩⟩
   | @fn a _ _ _ h _=>exact⟨_,rfl,a,_,_,_,rfl,rfl,h,aX,rfl,_,rfl,aP ⟨_,rfl,a,_,_,_,rfl,rfl,h,aX,rfl,_,rfl,aP (q _ _ (ai.refl _) .thing)⟩⟩
theorem vy (D:Def K mg "_law_in" (top 50)):Fn P w K mg base "_law_in" 1 ["_law_number_here"] lf:=by
 refine D.fn (N:=["_law_number_here"]) fsM (fun vs H Q E h=>?_) (fun _ _ _ _ _ _ us hl=>by obtain⟨a,rfl⟩:=cY hl;rfl) (fun f' cdv A outer s' H vs Q E hr h=>?_)
 · obtain⟨i,rfl,_⟩:=h;rfl
 · obtain⟨i,rfl,q⟩:=h;refine⟨_,(pG (af (au c6 (au cQ (au cz (pv 0) pF) pF) pF))),?_⟩;exact⟨_,rfl,_,_,rfl,rfl,_,_,rfl,rfl,by decide,_,_,rfl,rfl,q⟩
def jt (s:Str):Bool:=decide (s="not"∨s="size")
def cK (s:Str) (x y:Vl):List Vl:=if jt s=true then [x] else [x,y]
def lq:List Str:=["add","sub","mul","div","less","same","at","not","size"]
inductive nR (K:Fg) (vs:List V) (H:Hp) (Q:VK):Prop
  | mk (s:Str) (v u:V) (t o:Th) (h0:vs=[.str s,v,u]) (h1:TD K H v (thD t)) (h2:TD K H u (thD o)) (h3:br t) (h4:br o) (h5:s∈lq)
    (q:∀ v' H',ai H H'→TD K H' v' (.tuple [.str (rsD s (cK s (vlT t) (vlT o))).1,(rsD s (cK s (vlT t) (vlT o))).2])→Q v' H'):nR K vs H Q
def qr (K:Fg):Sp:=fun vs H Q _=>nR K vs H Q
abbrev wX:Stmt:=top 51
abbrev vV:List Str:=["_law_word","_law_one","_law_other","_law_a","_law_b"]
theorem nC (a b:Int) (h:b≠0):(a-a.fmod b).fdiv b=a.fdiv b:=by
 have e:=Int.mul_fdiv_add_fmod a b;have:a-a.fmod b=b*a.fdiv b:=by omega
 rw[this,Int.mul_fdiv_cancel_left _ h]
theorem fZ {H:Hp} {vs:List V} {is:List Int} (hv:TDs K H vs (is.map num)):vs.length=is.length:=by rw[hv.length,lMp]
theorem wg {k1 k2 k3:Str} (v1 v2 v3:V) (h12:k2≠k1) (h13:k3≠k1) (h23:k3≠k2):dh [] [((.inr k1:Key),v1),(.inr k2,v2),(.inr k3,v3)]=[((.inr k1:Key),v1),(.inr k2,v2),(.inr k3,v3)]:=by
 show bp (bp (bp [] _ _) _ _) _ _=_;have e1:bp ([]:List (Key×V)) (.inr k1) v1=[(.inr k1,v1)]:=by simp[bp]
 have e2:bp [((.inr k1:Key),v1)] (.inr k2) v2=[(.inr k1,v1),(.inr k2,v2)]:=by simp[bp,h12.symm]
 have e3:bp [((.inr k1:Key),v1),(.inr k2,v2)] (.inr k3) v3=[(.inr k1,v1),(.inr k2,v2),(.inr k3,v3)]:=by simp[bp,h13.symm,h23.symm]
 rw[e1,e2,e3]
theorem sB (D:Def K mg "_law_op" wX) (T:Blt mg) (hint:mg "int"=none) (bP:Fn P w K mg base "_law_worth" 1 ["_law_e"] (oB K)) (eU:Fn P w K mg base "_law_in" 1 ["_law_number_here"] lf):Fn P w K mg base "_law_op" 2 ["_law_word","_law_one","_law_other"] (qr K):=by
 have nd:(vV:List Str).Nodup:=by decide +kernel
 refine D.fn (N:=vV) ⟨rfl,rfl,rfl,nd,rfl,by decide +kernel,by decide +kernel⟩ (fun vs H Q E h=>?_) (fun _ _ _ _ _ _ us hl=>by obtain⟨a,b,d,rfl⟩:=dU hl;rfl) (fun f' cdv A outer s' H vs Q E hr h=>?_)
 · obtain⟨s,v,u,t,o,rfl,_⟩:=h;rfl
 · obtain⟨s,v,u,t,o,rfl,tv,tu,okt,oko,hs,q⟩:=h;have hu:=nj hr;have sx:=i9 okt;have sy:=i9 oko;have hz0:(1000:Nat)<sizeLine:=by decide
   refine⟨_,(pD (pL (i:=3) nd rfl (Or.inl rfl) (ao bP (hr.mono (by decide)) rfl (pA (pv 1) pB)))
 (pD (pL (i:=4) nd rfl (Or.inl rfl) (ao bP (hr.mono (by decide)) rfl (pA (pv 2) pB)))
 (pD (aw (pM aA (pv 0) pC (pN _)) (pG (af (aa (pA pC (pA (aN (pM aA (ab ae (pv 1) pF (fun _ _=>rfl)) pC (pN _)) (bX T.len (pA (ab ae (pv 1) pF (fun _ _=>rfl)) pB)) pF) pB))))) aj)
 (pD (aw (pM aA (pv 0) pC (pN _)) (pD (aw (PW.pt (gP (pM gR (ab ae (pv 1) pF (fun _ _=>rfl)) pC (pN _)) (gP (pM iP (pv 4) pF (pN _)) (fV (pM qy (pv 4) (bX T.len (pA (ab ae (pv 1) pF (fun _ _=>rfl)) pB)) (pN _)))))) (pG (af (aa (pA pC (pA pC pB))))) aj)
 (pG (af (aa (pA pC (pA (ab ae (ab ae (ab ae (pv 1) pF (fun _ _=>rfl)) (pv 4) (fun _ _=>rfl)) pF (fun _ _=>rfl)) pB)))))) aj)
 (pD (aw (pM aA (pv 0) pC (pN _)) (pG (af (aN (pM aA (pv 4) pF (pN _)) (aa (pA pC (pA pC pB))) (aa (pA pC (pA (ao eU (hr.mono (by decide)) rfl (pA (au iQ (au c6 (pv 3) (au oT (pv 3) (pv 4))) (pv 4)) pB)) pB)))))) aj)
 (pD (aw (PW.pt (gP (pM aA (pv 0) pC (pN _)) (fV (pM aA (pv 0) pC (pN _))))) (pG (af (aa (pA pC (pA (k8 hint (pA (aN (pM aA (pv 0) pC (pN _)) (fI iP (pv 3) (pv 4) (pN _)) (fI aA (pv 3) (pv 4) (pN _))) pB)) pB))))) aj)
 (pD (aw (pM aA (pv 0) pC (pN _)) (pG (af (aa (pA pC (pA (au c6 pF (k8 hint (pA (fI gR (pv 3) pF (pN _)) pB))) pB))))) aj)
 (pG (af (aa (pA pC (pA (ao eU (hr.mono (by decide)) rfl (pA (pK hu (kD (eE pC (au cz (pv 3) (pv 4)) (eE pC (au c6 (pv 3) (pv 4)) (eE pC (au cP (pv 3) (pv 4)) ky))) rfl rfl (by simp) (by decide)) (pv 0) (fun _ _=>rfl)) pB)) pB)))))))))))),?_⟩
   dsimp only[bE];generalize hX:vlT t=x at sx q;generalize hY:vlT o=y at sy q;refine ac fun ik ee=>?_;refine⟨_,rfl,v,t,rfl,tv,ee _ _ (ac fun kJ gw=>?_)⟩;refine⟨_,rfl,u,o,rfl,tu,?_⟩;rw[hX,hY];have fin:∀ (s':Str) (xs:List Vl),s'=s→xs=cK s x y→∀ {H':Hp} {v1:V} {d:PyData} (tg:Str),ai H H'→rsD s' xs=(tg,d)→TD K H' v1 d→∀ p,H' p=none→Q (.ref p) (upd H' p (.tup [.str tg,v1])):=fun s' xs e1 e2 H' v1 d tg sm er td p hp=>by
    subst e1 e2;have:=q (.ref p) _ (sm.trans (smu hp)) (by rw[er];exact td2 (.str tg) td hp);exact this
   refine gw _ _ (ac fun pf iW=>?_);refine⟨_,rfl,rfl,_,rfl,?_⟩;by_cases e1:s="size"
   · refine pJ (by simp[e1]) ?_;have xe:[x]=cK s x y:=by unfold cK jt;rw[if_pos (by simp[e1])]
     have er:rsD "size" [x]=(("back":Str),PyData.int (((rwo x).length:Nat):Int)):=by
      rw[bt (df (by decide +kernel) (by decide +kernel))];unfold opV;rw[if_neg (by decide +kernel),if_pos rfl];rfl
     cases thv tv with
     | @num a i h =>
      subst hX;exact⟨_,rfl,a,_,_,_,rfl,rfl,h,aX,rfl,_,rfl,aP ⟨bA,fin _ _ e1.symm xe "back" (ai.refl _) er (.int _)⟩⟩
     | @row a b vs is h hb hv =>
      subst hX;refine⟨_,rfl,a,_,_,_,rfl,rfl,h,aX,rfl,_,rfl,aW ⟨_,rfl,a,_,_,_,rfl,rfl,h,jR,b,_,rfl,.inr hb,?_⟩⟩;rw[fZ hv];exact⟨bA,fin _ _ e1.symm xe "back" (ai.refl _) er (.int _)⟩
     | @new a _ _ _ _ h _ _ =>
      subst hX;exact⟨_,rfl,a,_,_,_,rfl,rfl,h,aX,rfl,_,rfl,aP ⟨bA,fin _ _ e1.symm xe "back" (ai.refl _) er (.int _)⟩⟩
     | @fn a _ _ _ h _ =>
      subst hX;exact⟨_,rfl,a,_,_,_,rfl,rfl,h,aX,rfl,_,rfl,aP ⟨bA,fin _ _ e1.symm xe "back" (ai.refl _) er (.int _)⟩⟩
   refine pI (by simpa using e1) (iW _ _ (ac fun qz nn=>?_));refine⟨_,rfl,rfl,_,rfl,?_⟩;by_cases e2:s="at"
   · refine pJ (by simp[e2]) ?_;have xe:[x,y]=cK s x y:=by unfold cK jt;rw[if_neg (by rw[e2];decide +kernel)]
     have bad:¬ inR [x,y]→rsD "at" [x,y]=(("fault":Str),PyData.str "range"):=fun z=>eu (by
       unfold opF;rw[if_neg (fun z=>absurd z.1 (by decide +kernel)),if_pos ⟨rfl,z⟩])
     have out:¬ inR [x,y]→ou (lc (dI (tC (V.str "fault")) (dI (tC (V.str "range")) gx))) {nx:=fun _ H'=>Q .non H',rt:=Q} [some (.str s),some v,some u,some (.int (wth x)),some (.int (wth y))] H:=fun z=>⟨bA,fin _ _ e2.symm xe "fault" (ai.refl _) (bad z) (.str _)⟩;have no:rwo x=[]→¬ inR [x,y]:=fun e z=>by
      have z1:0≤wth y:=z.1;have z2:wth y<(((rwo x).length:Nat):Int):=z.2;rw[e] at z2;have:wth y<0:=z2;omega
     cases thv tv with
     | @num a i h =>
      subst hX;exact⟨_,rfl,a,_,_,_,rfl,rfl,h,aX,rfl,_,rfl,aW (aW (out (no rfl)))⟩
     | @new a _ _ _ _ h _ _ =>
      subst hX;exact⟨_,rfl,a,_,_,_,rfl,rfl,h,aX,rfl,_,rfl,aW (aW (out (no rfl)))⟩
     | @fn a _ _ _ h _ =>
      subst hX;exact⟨_,rfl,a,_,_,_,rfl,rfl,h,aX,rfl,_,rfl,aW (aW (out (no rfl)))⟩
     | @row a b vs is h hb hv =>
      subst hX;have vl:=fZ hv;refine⟨_,rfl,a,_,_,_,rfl,rfl,h,aX,rfl,_,rfl,aP ⟨_,rfl,_,_,rfl,rfl,_,rfl,?_⟩⟩;by_cases l0:wth y<0
      · exact pJ (by simpa using l0) (aW (out fun z=>by have:0≤wth y:=z.1;omega))
      refine pI (by simpa using l0) ⟨_,rfl,_,rfl,a,_,_,_,rfl,rfl,h,jR,b,_,rfl,.inr hb,_,_,rfl,rfl,_,rfl,?_⟩;rw[vl];by_cases l1:((is.length:Nat):Int)≤wth y
      · exact pJ (by simpa using l1) (out fun z=>by have:wth y<((is.length:Nat):Int):=z.2;omega)
      refine pI (by simpa using l1) ?_;obtain⟨j,ej⟩:=Int.eq_ofNat_of_zero_le (show 0≤wth y by omega);have hj:j<is.length:=by omega
      obtain⟨z,hz,tz⟩:=hv.at (i:=j) (d:=num is[j]) (by rw[gEM,gEE hj];rfl);obtain⟨za,zs,rfl,hza,hzs⟩:=(show TD K H z (.tuple [.str "number",.int is[j]]) from tz).tup_of;obtain⟨z1,z2,rfl,w1,w2⟩:=em hzs;cases w2;refine⟨_,rfl,a,_,_,_,rfl,rfl,h,jR,_,rfl,b,_,_,_,rfl,rfl,hb,(by rw[ej];exact pH hz),za,_,_,_,rfl,rfl,hza,eR,?_⟩;have er:rsD "at" [Vl.tup is,y]=(("back":Str),PyData.int is[j]):=by
       have hin:inR [Vl.tup is,y]:=⟨by show 0≤wth y;omega,by show wth y<((is.length:Nat):Int);omega⟩;rw[bt (by
         unfold opF;rw[if_neg (fun z=>absurd z.1 (by decide +kernel)),if_neg (fun z=>z.2 hin)])]
       unfold opV;rw[if_neg (by decide +kernel),if_neg (by decide +kernel),if_neg (by decide +kernel),if_pos rfl];show (_,PyData.int ((is)[(wth y).toNat]?.getD 0))=_;rw[ej,show ((j:Nat):Int).toNat=j from Int.toNat_natCast _,gEE hj];rfl
      exact⟨bA,fin _ _ e2.symm xe "back" (ai.refl _) er (.int _)⟩
   refine pI (by simpa using e2) (nn _ _ (ac fun vW py=>?_));refine⟨_,rfl,rfl,_,rfl,?_⟩;have two:s≠"not"→[x,y]=cK s x y:=fun z=>by unfold cK jt;rw[if_neg (by simp[z,e1])]
   by_cases e3:s="div"
   · refine pJ (by simp[e3]) ⟨_,rfl,rfl,_,rfl,?_⟩;have xe:=two (by rw[e3];decide +kernel);by_cases y0:wth y=0
     · refine pJ (by simpa using y0) ?_;exact⟨bA,fin _ _ e3.symm xe "fault" (ai.refl _) (eu (by unfold opF;rw[if_pos ⟨rfl,y0⟩])) (.str _)⟩
     · refine pI (by simpa using y0) ?_;unfold Sml at sx sy;refine⟨_,rfl,_,rfl,_,rfl,_,_,rfl,rfl,y0,_,_,rfl,rfl,_,rfl,_,_,rfl,rfl,⟨y0,by omega⟩,_,rfl,?_⟩;rw[nC _ _ y0];refine⟨bA,fin _ _ e3.symm xe "back" (ai.refl _) (d:=.int (tkn ((wth x).fdiv (wth y)))) ?_ (.int _)⟩;rw[bt (by
         unfold opF;rw[if_neg (fun z=>y0 z.2),if_neg (fun z=>absurd z.1 (by decide +kernel))])]
       unfold opV;rw[if_neg (by decide +kernel),if_neg (by decide +kernel),if_neg (by decide +kernel),if_neg (by decide +kernel)];unfold opI;rw[if_neg (by decide +kernel),if_neg (by decide +kernel),if_neg (by decide +kernel),if_pos rfl];rfl
   refine pI (by simpa using e3) (py _ _ (ac fun wQ wb=>?_));have none_:∀ xs,opF s xs=none:=fun xs=>df e3 e2;refine⟨_,rfl,rfl,_,rfl,?_⟩;by_cases e4:s="less"
   · refine pJ (by simp[e4]) (aW ?_);have xe:=two (by rw[e4];decide +kernel);refine⟨_,rfl,rfl,_,rfl,pJ (by simp[e4]) ⟨_,rfl,_,rfl,_,_,rfl,rfl,.inr ⟨_,rfl,?_⟩⟩⟩;refine⟨bA,fin _ _ e4.symm xe "back" (ai.refl _) (d:=.int (if decide (wth x<wth y)=true then 1 else 0)) ?_ (.int _)⟩;rw[← e4,bt (none_ _),e4];unfold opV;rw[if_neg (by decide +kernel),if_neg (by decide +kernel),if_neg (by decide +kernel),if_neg (by decide +kernel)];unfold opI;rw[if_neg (by decide +kernel),if_neg (by decide +kernel),if_neg (by decide +kernel),if_neg (by decide +kernel),if_pos rfl];show (_,PyData.int (if wth x<wth y then 1 else 0))=_;by_cases z:wth x<wth y <;> simp[z]
   refine pI (by simpa using e4) ⟨_,rfl,rfl,_,rfl,?_⟩;by_cases e5:s="same"
   · refine pJ (by simp[e5]) ?_;have xe:=two (by rw[e5];decide +kernel);refine⟨_,rfl,rfl,_,rfl,pI (by simpa using e4) ⟨_,rfl,_,rfl,rfl,.inr ⟨_,rfl,?_⟩⟩⟩;refine⟨bA,fin _ _ e5.symm xe "back" (ai.refl _) (d:=.int (if decide (V.int (wth x)=V.int (wth y))=true then 1 else 0)) ?_ (.int _)⟩;rw[← e5,bt (none_ _),e5];unfold opV;rw[if_neg (by decide +kernel),if_neg (by decide +kernel),if_neg (by decide +kernel),if_neg (by decide +kernel)];unfold opI;rw[if_neg (by decide +kernel),if_neg (by decide +kernel),if_neg (by decide +kernel),if_neg (by decide +kernel),if_neg (by decide +kernel)];show (_,PyData.int (if wth x=wth y then 1 else 0))=_;by_cases z:wth x=wth y <;> simp[z]
   refine pI (by simpa using e5) (wb _ _ (ac fun yi w9=>?_));refine⟨_,rfl,rfl,_,rfl,?_⟩;by_cases e6:s="not"
   · refine pJ (by simp[e6]) ?_;have xe:[x]=cK s x y:=by unfold cK jt;rw[if_pos (by simp[e6])]
     refine⟨_,rfl,rfl,.inr ⟨_,rfl,_,_,rfl,rfl,?_⟩⟩;refine⟨bA,fin _ _ e6.symm xe "back" (ai.refl _) (d:=.int (1-(if (!decide (V.int (wth x)=V.int 0))=true then 1 else 0))) ?_ (.int _)⟩;rw[← e6,bt (none_ _),e6];unfold opV;rw[if_neg (by decide +kernel),if_neg (by decide +kernel),if_pos rfl];show (_,PyData.int (if wth x=0 then 1 else 0))=_;by_cases z:wth x=0 <;> simp[z]
   refine pI (by simpa using e6) (w9 _ _ ?_);have xe:=two e6;have h3:s="add"∨s="sub"∨s="mul":=by
    unfold lq at hs;simp only[List.mem_cons,nMN,or_false] at hs
    rcases hs with z | z | z | z | z | z | z | z | z
    · exact .inl z
    · exact .inr (.inl z)
    · exact .inr (.inr z)
    · exact absurd z e3
    · exact absurd z e4
    · exact absurd z e5
    · exact absurd z e2
    · exact absurd z e6
    · exact absurd z e1
   unfold Sml at sx sy;refine fun p hp=>⟨_,rfl,_,rfl,_,_,rfl,rfl,_,rfl,_,rfl,_,_,rfl,rfl,_,rfl,_,rfl,_,_,rfl,rfl,.inl ⟨by omega,by omega⟩,pE,[(.inr "add",.int (wth x+wth y)),(.inr "sub",.int (wth x-wth y)),(.inr "mul",.int (wth x*wth y))],rfl,by show 3≤15;decide,?_⟩;rw[wg _ _ _ (by decide +kernel) (by decide +kernel) (by decide +kernel)];have s2:ai H (upd (upd H p (.dK [])) p (.dK [((.inr "add":Key),.int (wth x+wth y)),(.inr "sub",.int (wth x-wth y)),(.inr "mul",.int (wth x*wth y))])):=fun a z e=>by
    have ne:=ah e hp;rw[a0 ne,a0 ne];exact e
   have opv:opV s [x,y]=.int (opI s (wth x) (wth y)):=by
    unfold opV;rw[if_neg (by rcases h3 with z | z | z <;> rw[z] <;> decide +kernel),if_neg e1,if_neg e6,if_neg e2];rfl
   obtain⟨i,hv,er⟩:∃ i:Int,aY [((.inr "add":Key),V.int (wth x+wth y)),(.inr "sub",.int (wth x-wth y)),(.inr "mul",.int (wth x*wth y))] (.inr s)=some (.int i)∧rsD s [x,y]=(("back":Str),PyData.int (tkn i)):=by
    rcases h3 with z | z | z
    · subst z;exact⟨wth x+wth y,rfl,by rw[bt (none_ _),opv];unfold opI;rw[if_pos rfl];rfl⟩
    · subst z;exact⟨wth x-wth y,rfl,by rw[bt (none_ _),opv];unfold opI;rw[if_neg (by decide +kernel),if_pos rfl];rfl⟩
    · subst z;exact⟨wth x*wth y,rfl,by rw[bt (none_ _),opv];unfold opI;rw[if_neg (by decide +kernel),if_neg (by decide +kernel),if_pos rfl];rfl⟩
   exact⟨_,rfl,.mk p (.int i) rfl (by rw[← hv];exact fG.k (k:=.inr s) pE) ⟨i,rfl,bA,fin _ _ rfl xe "back" s2 er (.int _)⟩⟩
end
end K20
namespace P10
open PySem L2
def wB:List Str:=["do","op","new","call"]
theorem kdB {h:Str} {sl:List Str} (m:(h,sl)∈tbl) (e:c7 h wB=true):sl=(["many"]:List Str)∨sl=(["op","many"]:List Str)∨sl=(["place","many"]:List Str):=by
 have:∀ p∈tbl,c7 p.1 wB=true→p.2=(["many"]:List Str)∨p.2=(["op","many"]:List Str)∨p.2=(["place","many"]:List Str):=by decide +kernel
 exact this _ m e
theorem kdE {h:Str} {sl:List Str} (m:(h,sl)∈tbl) (e:h="if"∨h="while"):sl=(["one","one","one"]:List Str)∨sl=(["one","one"]:List Str):=by
 have:∀ p∈tbl,p.1="if"∨p.1="while"→p.2=(["one","one","one"]:List Str)∨p.2=(["one","one"]:List Str):=by decide +kernel
 exact this _ m e
theorem kdF {h:Str} {sl:List Str} (m:(h,sl)∈tbl) (e1:c7 h w1=false) (e2:c7 h wB=false) (e3:h≠"apply") (e4:c7 h w2=false) (e5:¬ (h="if"∨h="while")):sl=(["meant","one"]:List Str)∨sl=(["one"]:List Str)∨sl=(["place","place","one"]:List Str)∨sl=(["bounds","one"]:List Str):=by
 have:∀ p∈tbl,c7 p.1 w1=false→c7 p.1 wB=false→p.1≠"apply"→c7 p.1 w2=false→¬ (p.1="if"∨p.1="while")→p.2=(["meant","one"]:List Str)∨p.2=(["one"]:List Str)∨p.2=(["place","place","one"]:List Str)∨p.2=(["bounds","one"]:List Str):=by decide +kernel
 exact this _ m e1 e2 e3 e4 e5
theorem kW {xs:List V} {v:V}:atI (xs++[v]) ((((xs++[v]).length:Nat):Int)-1)=some v:=by
 have e:((((xs++[v]).length:Nat):Int)-1)=((xs.length:Nat):Int):=by rw[lAp];show ((xs.length+1:Nat):Int)-1=_;omega
 rw[e];exact pH (by rw[List.getElem?_append_right (Nat.le_refl _),Nat.sub_self];rfl)
end P10
namespace K20
open PySem L2 P10
section
variable {P:Program} {w:World} {K:Fg} {mg:SOV} {base:Heap}
abbrev sLc:Stmt:=top 52
theorem wW:bF ["_law_e"] ["_law_e"] (ak sLc):=fsM
theorem vA (D:Def K mg "_law_children" sLc) (T:Blt mg):Fn P w K mg base "_law_children" 1 ["_law_e"] (mh K):=by
 refine D.fn wW (fun vs H Q E h=>?_) (fun _ _ _ _ _ _ us hl=>by obtain⟨a,rfl⟩:=cY hl;rfl) (fun f cdv A outer s' H vs Q E hr h=>?_)
 · obtain⟨v,d,h',sl,ps,rfl,_⟩:=h;rfl
 · obtain⟨v,d,hd,sl,ps,rfl,td,nd',q⟩:=h;obtain⟨a,vs,rfl,ha,hvs⟩:=kE td nd';obtain⟨rfl,hm,hshp,hfew⟩:=nd';have hz0:(100:Nat)<sizeLine:=by decide
   have at0:∀ {x:V} {r:List V},atI (x::r) 0=some x:=fun {x r}=>pH (j:=0) rfl;have at1:∀ {x y:V} {r:List V},atI (x::y::r) 1=some y:=fun {x y r}=>pH (j:=1) rfl;have at2:∀ {x y z:V} {r:List V},atI (x::y::z::r) 2=some z:=fun {x y z r}=>pH (j:=2) rfl;refine⟨_,(pD (aw (pM bu (ab ae (pv 0) pF (fun _ _=>rfl)) (@aa _ _ _ _ _ (@pA _ _ _ _ _ pC (@pA _ _ _ _ _ pC (@pA _ _ _ _ _ pC pB (by rfl)) (by rfl)) (by rfl))) (by with_unfolding_all rfl)) (pG (af (aa pB))) aj)
 (pD (aw (pM bu (ab ae (pv 0) pF (fun _ _=>rfl)) (@aa _ _ _ _ _ (@pA _ _ _ _ _ pC (@pA _ _ _ _ _ pC (@pA _ _ _ _ _ pC (@pA _ _ _ _ _ pC pB (by rfl)) (by rfl)) (by rfl)) (by rfl))) (by with_unfolding_all rfl)) (pG (af (ab ae (pv 0) (au c6 (bX T.len (pA (pv 0) pB)) pF) (fun _ _=>rfl)))) aj)
 (pD (aw (pM aA (ab ae (pv 0) pF (fun _ _=>rfl)) pC (pN _)) (pG (af (au cR (aa (pA (ab ae (pv 0) pF (fun _ _=>rfl)) pB)) (ab ae (pv 0) pF (fun _ _=>rfl))))) aj)
 (pD (aw (pM bu (ab ae (pv 0) pF (fun _ _=>rfl)) (@aa _ _ _ _ _ (@pA _ _ _ _ _ pC (@pA _ _ _ _ _ pC (@pA _ _ _ _ _ pC pB (by rfl)) (by rfl)) (by rfl))) (by with_unfolding_all rfl)) (pG (af (bj c9 (pv 0) (bf pF) bD))) aj)
 (pD (aw (PW.pt (gP (pM aA (ab ae (pv 0) pF (fun _ _=>rfl)) pC (pN _)) (fV (pM aA (ab ae (pv 0) pF (fun _ _=>rfl)) pC (pN _))))) (pG (af (bj c9 (pv 0) (bf pF) bD))) aj)
 (pG (af (aa (pA (ab ae (pv 0) (au c6 (bX T.len (pA (pv 0) pB)) pF) (fun _ _=>rfl)) pB))))))))),?_⟩
   dsimp only[bE];refine⟨_,rfl,a,_,0,.str hd,rfl,rfl,ha,at0,fN,fun t1 ht1=>?_⟩;have k1:=smu (o:=HO.tup (w1.map V.str)) ht1;refine⟨t1,w1.map V.str,rfl,.inr (SqT.of pE),rfl,bw _,_,rfl,?_⟩;rw[bH];have tvs1:=hvs.same k1;have ha1:=ha.tk k1.tk;have S1:ai H (upd H t1 (.tup [V.str "number",V.str "name",V.str "fault"])):=k1;have step:∀ (H':Hp),ai H H'→SqT K H' a (.str hd::vs)∧TDs K H' vs ps:=fun H' s=>⟨ha.tk s.tk,hvs.same s⟩;clear tvs1 ha1 k1;generalize upd H t1 (.tup [V.str "number",V.str "name",V.str "fault"])=H1 at S1 ⊢;by_cases e1:c7 hd w1=true
   · refine pJ e1 ?_;refine⟨i7,fun t ht=>?_⟩;have kt:=smu (o:=HO.tup []) ht;have ek:bm sl ps=[]:=by
      have hk:sl.length=1∧∀ s∈sl,s≠"one"∧s≠"many":=by
       rcases qA hm e1 with rfl | rfl | rfl <;> decide +kernel
      rcases qA hm e1 with rfl | rfl | rfl <;> obtain⟨p,rfl,_⟩:=fJ hshp <;> rfl
     rw[ek] at q;exact q _ _ (S1.trans kt) (.tup (SqT.of pE) .nil)
   have e1':c7 hd w1=false:=by simpa using e1
   refine pI e1 ?_;obtain⟨ha1,tv1⟩:=step H1 S1;refine⟨_,rfl,a,_,0,.str hd,rfl,rfl,ha1,at0,tS,fun t2 ht2=>?_⟩;have k2:=smu (o:=HO.tup (wB.map V.str)) ht2;refine⟨t2,wB.map V.str,rfl,.inr (SqT.of pE),rfl,bw _,_,rfl,?_⟩;rw[bH];have S2:ai H (upd H1 t2 (.tup [V.str "do",V.str "op",V.str "new",V.str "call"])):=S1.trans k2;generalize upd H1 t2 (.tup [V.str "do",V.str "op",V.str "new",V.str "call"])=H2 at S2 ⊢;obtain⟨ha2,tv2⟩:=step H2 S2;by_cases e2:c7 hd wB=true
   · refine pJ e2 ?_;obtain⟨pre,vl,l,rfl,tl,ek⟩:∃ pre vl l,vs=pre++[vl]∧TD K H2 vl (.tuple l)∧bm sl ps=l:=by
      rcases kdB hm e2 with rfl | rfl | rfl
      · obtain⟨p,rfl,s1⟩:=fJ hshp;obtain⟨l,rfl⟩:=s1.1 rfl;obtain⟨x,rfl,tx⟩:=jh tv2;exact⟨[],x,l,rfl,tx,by show l++[]=l;simp⟩
      · obtain⟨p,p2,rfl,_,s2⟩:=cO hshp;obtain⟨l,rfl⟩:=s2.1 rfl;obtain⟨x,y,rfl,_,ty⟩:=em tv2;exact⟨[x],y,l,rfl,ty,by show []++(l++[])=l;simp⟩
      · obtain⟨p,p2,rfl,_,s2⟩:=cO hshp;obtain⟨l,rfl⟩:=s2.1 rfl;obtain⟨x,y,rfl,_,ty⟩:=em tv2;exact⟨[x],y,l,rfl,ty,by show []++(l++[])=l;simp⟩
     rw[ek] at q;exact⟨_,rfl,_,rfl,a,_,rfl,.inr ha2,_,_,rfl,rfl,a,_,_,_,rfl,rfl,ha2,kW (xs:=.str hd::pre),q _ _ S2 tl⟩
   have e2':c7 hd wB=false:=by simpa using e2
   refine pI e2 ?_;refine⟨_,rfl,a,_,_,_,rfl,rfl,ha2,at0,rfl,_,rfl,?_⟩;by_cases e3:hd="apply"
   · refine pJ (by simp[e3]) ?_;subst e3;have:=tH hm;subst this;obtain⟨p,p2,rfl,_,s2⟩:=cO hshp;obtain⟨l,rfl⟩:=s2.1 rfl;obtain⟨x,y,rfl,tx,ty⟩:=em tv2;refine⟨_,rfl,a,_,_,_,rfl,rfl,ha2,at1,jd,fun t3 ht3=>?_⟩;have k3:=smu (o:=HO.tup [x]) ht3;have tt:TD K (upd H2 t3 (.tup [x])) (.ref t3) (.tuple [p]):=.tup (SqT.of pE) (.cons (tx.same k3) .nil);obtain⟨yb,ys,rfl,hyb,hys⟩:=(ty.same k3).tup_of;refine⟨_,rfl,a,_,_,_,rfl,rfl,ha2.tk k3.tk,at2,?_⟩;refine dG tt (ty.same k3) (by have:(bm ["one","many"] [p,.tuple l]).length≤8:=hfew;rw[show bm ["one","many"] [p,.tuple l]=[p]++(l++[]) from rfl] at this;simp at this ⊢;omega) fun p6 H6 k6 t6=>?_;have ek:bm ["one","many"] [p,.tuple l]=[p]++l:=by show [p]++(l++[])=_;simp
     rw[ek] at q;exact q _ _ ((S2.trans k3).trans k6) t6
   refine pI (by simpa using e3) ?_;refine⟨_,rfl,a,_,0,.str hd,rfl,rfl,ha2,at0,fN,fun t4 ht4=>?_⟩;have k4:=smu (o:=HO.tup (w2.map V.str)) ht4;refine⟨t4,w2.map V.str,rfl,.inr (SqT.of pE),rfl,bw _,_,rfl,?_⟩;rw[bH];have S4:ai H (upd H2 t4 (.tup [V.str "let",V.str "var",V.str "each"])):=S2.trans k4;generalize upd H2 t4 (.tup [V.str "let",V.str "var",V.str "each"])=H4 at S4 ⊢;obtain⟨ha4,tv4⟩:=step H4 S4;by_cases e4:c7 hd w2=true
   · refine pJ e4 ?_;have:=wm hm e4;subst this;obtain⟨p,p2,p3,rfl,s1,s2,s3⟩:=ii hshp;obtain⟨x,y,z,rfl,tx,ty,tz⟩:=dN tv4;refine⟨_,rfl,2,rfl,a,_,rfl,ha4,fun z=>?_,fun p6 hp6=>?_⟩
     · have:=congrArg List.length z;rw[show (some (2:Int))=some (((2:Nat):Nat):Int) from rfl,L2.bV] at this;simp at this
     · rw[show (some (2:Int))=some (((2:Nat):Nat):Int) from rfl,L2.bV];have k6:=smu (o:=HO.tup [y,z]) hp6;have ek:bm ["bound","one","one"] [p,p2,p3]=[p2,p3]:=rfl;rw[ek] at q;exact q _ _ (S4.trans k6) (.tup (SqT.of pE) (.cons (ty.same k6) (.cons (tz.same k6) .nil)))
   have e4':c7 hd w2=false:=by simpa using e4
   refine pI e4 ?_;have sl1:hd="if"∨hd="while"→tSl (fU K) (cu 0) (gL (tC (.int 1))) dz [some (.ref a)] H4 Q:=fun e5=>by
    have ek:bm sl ps=ps:=by
     rcases kdE hm e5 with rfl | rfl
     · obtain⟨p,p2,p3,rfl,_⟩:=ii hshp;rfl
     · obtain⟨p,p2,rfl,_⟩:=cO hshp;rfl
    rw[ek] at q;refine⟨_,rfl,1,rfl,a,_,rfl,ha4,fun z=>?_,fun p6 hp6=>?_⟩
    · have:=congrArg List.length z;rw[show (some (1:Int))=some (((1:Nat):Nat):Int) from rfl,L2.bV] at this;simp at this
    · rw[show (some (1:Int))=some (((1:Nat):Nat):Int) from rfl,L2.bV];have k6:=smu (o:=HO.tup vs) hp6;exact q _ _ (S4.trans k6) (.tup (SqT.of pE) (tv4.same k6))
   refine⟨_,rfl,a,_,_,_,rfl,rfl,ha4,at0,rfl,_,rfl,?_⟩;by_cases e5:hd="if"
   · refine pJ (by simp[e5]) ?_;exact aW (sl1 (.inl e5))
   refine pI (by simpa using e5) ?_;refine⟨_,rfl,a,_,_,_,rfl,rfl,ha4,at0,rfl,_,rfl,?_⟩;by_cases e6:hd="while"
   · exact pJ (by simp[e6]) (sl1 (.inr e6))
   refine pI (by simpa using e6) ?_;obtain⟨pre,vl,l,rfl,tl,ek⟩:∃ pre vl l,vs=pre++[vl]∧TD K H4 vl l∧bm sl ps=[l]:=by
    rcases kdF hm e1' e2' e3 e4' (by rintro (z | z);exact e5 z;exact e6 z) with rfl | rfl | rfl | rfl
    · obtain⟨p,p2,rfl,_⟩:=cO hshp;obtain⟨x,y,rfl,_,ty⟩:=em tv4;exact⟨[x],y,p2,rfl,ty,rfl⟩
    · obtain⟨p,rfl,_⟩:=fJ hshp;obtain⟨x,rfl,tx⟩:=jh tv4;exact⟨[],x,p,rfl,tx,rfl⟩
    · obtain⟨p,p2,p3,rfl,_⟩:=ii hshp;obtain⟨x,y,z,rfl,_,_,tz⟩:=dN tv4;exact⟨[x,y],z,p3,rfl,tz,rfl⟩
    · obtain⟨p,p2,rfl,_⟩:=cO hshp;obtain⟨x,y,rfl,_,ty⟩:=em tv4;exact⟨[x],y,p2,rfl,ty,rfl⟩
   rw[ek] at q;refine⟨_,rfl,_,rfl,a,_,rfl,.inr ha4,_,_,rfl,rfl,a,_,_,_,rfl,rfl,ha4,kW (xs:=.str hd::pre),jd,fun t7 ht7=>?_⟩;have k7:=smu (o:=HO.tup [vl]) ht7;exact q _ _ (S4.trans k7) (.tup (SqT.of pE) (.cons (tl.same k7) .nil))
end
def nam (x:Int):PyData:=.tuple [.str "name",.int x]
def ifE (a b c:PyData):PyData:=.tuple [.str "if",a,b,c]
def aQ (x:Int) (a b:PyData):PyData:=.tuple [.str "each",.int x,a,b]
def aI (a:PyData):PyData:=.tuple [.str "say",a]
def cD (f:PyData) (es:PDs):PyData:=.tuple [.str "apply",f,.tuple es]
def ck (r k:Int) (a:PyData):PyData:=.tuple [.str "get",.int r,.int k,a]
def doE (es:PDs):PyData:=.tuple [.str "do",.tuple es]
def k0 (ks:PDs):PyData:=ks[0]?.getD .none
def k1 (ks:PDs):PyData:=ks[1]?.getD .none
def k2 (ks:PDs):PyData:=ks[2]?.getD .none
abbrev Rb:=(Int→Int)→(Int→Int)→PDs→PyData
inductive Nod:PyData→PDs→Rb→List Int→Prop
  | num (i:Int):Nod (num i) [] (fun _ _ _=>num i) []
  | name (x:Int):Nod (nam x) [] (fun g _ _=>nam (g x)) []
  | op (s:Str) (es:PDs):Nod (opE s es) es (fun _ _ ks=>opE s ks) []
  | new (r:Int) (es:PDs):Nod (cX r es) es (fun _ _ ks=>cX r ks) []
  | doo (es:PDs):Nod (doE es) es (fun _ _ ks=>doE ks) []
  | app (f:PyData) (es:PDs):Nod (cD f es) (f::es) (fun _ _ ks=>cD (k0 ks) ks.tail) []
  | get (r k:Int) (a:PyData):Nod (ck r k a) [a] (fun _ _ ks=>ck r k (k0 ks)) []
  | say (a:PyData):Nod (aI a) [a] (fun _ _ ks=>aI (k0 ks)) []
  | ife (a b c:PyData):Nod (ifE a b c) [a,b,c] (fun _ _ ks=>ifE (k0 ks) (k1 ks) (k2 ks)) []
  | each (x:Int) (a b:PyData):Nod (aQ x a b) [a,b] (fun _ g' ks=>aQ (g' x) (k0 ks) (k1 ks)) [x]
  | fn (ids:List Int) (b:PyData) (hl:ids.length≤3):Nod (cZ ids b) [b] (fun _ g' ks=>cZ (ids.map g') (k0 ks)) ids
theorem cw (d:PyData):Shp "one" d:=by
 refine⟨fun e=>absurd e (by decide +kernel),fun e=>absurd e (by decide +kernel),fun e=>absurd e (by decide +kernel),fun e=>absurd e (by decide +kernel)⟩
theorem eo (l:PDs):Shp "many" (.tuple l):=by
 refine⟨fun _=>⟨l,rfl⟩,fun e=>absurd e (by decide +kernel),fun e=>absurd e (by decide +kernel),fun e=>absurd e (by decide +kernel)⟩
theorem dA {s:Str} (i:Int) (h:s∈(["number","meant","bound","place"]:List Str)):Shp s (.int i):=by
 simp only[List.mem_cons,nMN,or_false] at h
 rcases h with rfl | rfl | rfl | rfl <;> exact⟨fun e=>absurd e (by decide +kernel),fun _=>⟨i,rfl⟩,fun e=>absurd e (by decide +kernel),fun e=>absurd e (by decide +kernel)⟩
theorem rR (x:Str):Shp "op" (.str x):=⟨fun e=>absurd e (by decide +kernel),fun e=>absurd e (by decide +kernel),fun _=>⟨x,rfl⟩,fun e=>absurd e (by decide +kernel)⟩
theorem rS {ids:List Int} (h:ids.length≤3):Shp "bounds" (.tuple (ids.map .int)):=⟨fun e=>absurd e (by decide +kernel),fun e=>absurd e (by decide +kernel),fun e=>absurd e (by decide +kernel),fun _=>⟨ids,rfl,h⟩⟩
theorem mU {d:PyData} {ks:PDs} {rb:Rb} {bi:List Int} (h:Nod d ks rb bi) (hl:ks.length≤8):∃ hd sl ps,Nd d hd sl ps∧bm sl ps=ks:=by
 cases h with
 | num i=>exact⟨"number",["number"],[.int i],⟨rfl,by decide +kernel,.cons (dA i (by decide +kernel)) .nil,hl⟩,rfl⟩
 | name x=>exact⟨"name",["meant"],[.int x],⟨rfl,by decide +kernel,.cons (dA x (by decide +kernel)) .nil,hl⟩,rfl⟩
 | op s =>
  have e:bm ["op","many"] [.str s,.tuple ks]=ks:=by show []++(ks++[])=ks;simp
  exact⟨"op",["op","many"],[.str s,.tuple ks],⟨rfl,by decide +kernel,.cons (rR s) (.cons (eo ks) .nil),by rw[e];exact hl⟩,e⟩
 | new r =>
  have e:bm ["place","many"] [.int r,.tuple ks]=ks:=by show []++(ks++[])=ks;simp
  exact⟨"new",["place","many"],[.int r,.tuple ks],⟨rfl,by decide +kernel,.cons (dA r (by decide +kernel)) (.cons (eo ks) .nil),by rw[e];exact hl⟩,e⟩
 | doo =>
  have e:bm ["many"] [.tuple ks]=ks:=by show ks++[]=ks;simp
  exact⟨"do",["many"],[.tuple ks],⟨rfl,by decide +kernel,.cons (eo ks) .nil,by rw[e];exact hl⟩,e⟩
 | app f es =>
  have e:bm ["one","many"] [f,.tuple es]=f::es:=by show [f]++(es++[])=f::es;simp
  exact⟨"apply",["one","many"],[f,.tuple es],⟨rfl,by decide +kernel,.cons (cw f) (.cons (eo es) .nil),by rw[e];exact hl⟩,e⟩
 | get r k a=>exact⟨"get",["place","place","one"],[.int r,.int k,a],⟨rfl,by decide +kernel,.cons (dA r (by decide +kernel)) (.cons (dA k (by decide +kernel)) (.cons (cw a) .nil)),hl⟩,rfl⟩
 | say a=>exact⟨"say",["one"],[a],⟨rfl,by decide +kernel,.cons (cw a) .nil,hl⟩,rfl⟩
 | ife a b c=>exact⟨"if",["one","one","one"],[a,b,c],⟨rfl,by decide +kernel,.cons (cw a) (.cons (cw b) (.cons (cw c) .nil)),hl⟩,rfl⟩
 | each x a b=>exact⟨"each",["bound","one","one"],[.int x,a,b],⟨rfl,by decide +kernel,.cons (dA x (by decide +kernel)) (.cons (cw a) (.cons (cw b) .nil)),hl⟩,rfl⟩
 | fn _ b h3=>exact⟨"fun",["bounds","one"],[.tuple (bi.map .int),b],⟨rfl,by decide +kernel,.cons (rS h3) (.cons (cw b) .nil),hl⟩,rfl⟩
section
variable {P:Program} {w:World} {K:Fg} {mg:SOV} {base:Heap}
theorem lW {H:Hp} {xs:List V} {ds:PDs} (h:TDs K H xs ds):∀ n,TDs K H (xs.take n) (ds.take n):=by
 induction xs generalizing ds with
 | nil=>intro n;cases h;cases n <;> exact .nil
 | cons x r ih =>
  intro n;cases h with
  | cons p q=>cases n with
   | zero=>exact .nil
   | succ n=>exact .cons p (ih q n)
theorem lX {H:Hp} {xs:List V} {ds:PDs} (h:TDs K H xs ds):∀ n,TDs K H (xs.drop n) (ds.drop n):=by
 induction xs generalizing ds with
 | nil=>intro n;cases h;cases n <;> exact .nil
 | cons x r ih =>
  intro n;cases h with
  | cons p q=>cases n with
   | zero=>exact .cons p q
   | succ n=>exact ih q n
theorem ko {H:Hp} {Q:VK} {v:V} {ds:PDs} {hi:Option Int} {n:Nat} (td:TD K H v (.tuple ds)) (hc:∀ xs:List V,xs.length=ds.length→cx xs none hi=xs.take n) (q:∀ p H',ai H H'→TD K H' (.ref p) (.tuple (ds.take n))→Q (.ref p) H'):fU K v none hi H Q:=by
 obtain⟨a,xs,rfl,ha,hx⟩:=td.tup_of;have e:=hc xs hx.length;refine⟨a,xs,rfl,ha,fun z=>?_,fun p hp=>?_⟩
 · refine q a H (ai.refl _) (.tup ha ?_);have:=lW hx n;rw[← e,z] at this;exact this
 · have k:=smu (o:=HO.tup (cx xs none hi)) hp;refine q p _ k (.tup (SqT.of pE) ?_);rw[e] at k ⊢;exact (lW hx n).same k
theorem nK {xs:List V} {n:Nat} (h:n≤xs.length):cx xs none (some ((n:Nat):Int))=xs.take n:=by
 unfold cx;rw[HT.fH,HT.d6,List.drop_zero,Nat.sub_zero,Nat.min_eq_left h]
theorem qb {xs:List V} (h:xs≠[]):cx xs none (some (-1))=xs.take (xs.length-1):=by
 have hl:0<xs.length:=List.length_pos_iff.mpr h;unfold cx;have e:HT.sIx xs.length xs.length (some (-1))=xs.length-1:=by
  show (if (-1:Int)<0 then ((-1:Int)+((xs.length:Nat):Int)).toNat else min (-1:Int).toNat xs.length)=_;rw[if_pos (by decide)];omega
 rw[e,HT.d6,List.drop_zero,Nat.sub_zero]
theorem kr {H:Hp} {Q:VK} {v:V} {ds:PDs} {n:Nat} (td:TD K H v (.tuple ds)) (q:∀ p H',ai H H'→TD K H' (.ref p) (.tuple (ds.drop n))→Q (.ref p) H'):fU K v (some ((n:Nat):Int)) none H Q:=by
 obtain⟨a,xs,rfl,ha,hx⟩:=td.tup_of;have e:=L2.bV xs n;refine⟨a,xs,rfl,ha,fun z=>?_,fun p hp=>?_⟩
 · refine q a H (ai.refl _) (.tup ha ?_);have:=lX hx n;rw[← e,z] at this;exact this
 · have k:=smu (o:=HO.tup (cx xs (some ((n:Nat):Int)) none)) hp;refine q p _ k (.tup (SqT.of pE) ?_);rw[e] at k ⊢;exact (lX hx n).same k
abbrev sWi:Stmt:=top 53
abbrev nWi:List Str:=["_law_e","_law_children_here","_law_some"]
def gI:Int→Int:=fun i=>i
inductive qG (K:Fg) (vs:List V) (H:Hp) (Q:VK):Prop
  | mk (v:V) (L:Addr) (zs:List V) (d:PyData) (ks ks':PDs) (rb:Rb) (bi:List Int) (h0:vs=[v,.ref L]) (h1:TD K H v d) (h2:Nod d ks rb bi) (h3:H L=some (.lst zs)) (h4:TDs K H zs ks') (h5:ks'.length=ks.length) (h6:ks.length≤8) (q:∀ v' H',ai H H'→TD K H' v' (rb gI gI ks')→Q v' H'):qG K vs H Q
def rO (K:Fg):Sp:=fun vs H Q _=>qG K vs H Q
def wJ:List Str:=["if","while","say"]
theorem uW (D:Def K mg "_law_with" sWi) (T:Blt mg):Fn P w K mg base "_law_with" 1 ["_law_e","_law_children_here"] (rO K):=by
 have nd:(nWi:List Str).Nodup:=by decide +kernel
 refine D.fn (N:=nWi) ⟨rfl,rfl,rfl,nd,rfl,by decide +kernel,by decide +kernel⟩ (fun vs H Q E h=>?_) (fun _ _ _ _ _ _ us hl=>by obtain⟨a,b,rfl⟩:=dW hl;rfl) (fun f' cdv A outer s' H vs Q E hr h=>?_)
 · obtain⟨v,L,zs,d,ks,ks',rb,bi,rfl,_⟩:=h;rfl
 · obtain⟨v,L,zs,d,ks,ks',rb,bi,rfl,td,nod,hL,hz,hl,h8,q⟩:=h;have hz0:(1000:Nat)<sizeLine:=by decide
   refine⟨_,(pD (pL (i:=2) nd rfl (Or.inl rfl) (cy T.tuple (pA (pv 1) pB)))
 (pD (aw (pM bu (ab ae (pv 0) pF (fun _ _=>rfl)) (@aa _ _ _ _ _ (@pA _ _ _ _ _ pC (@pA _ _ _ _ _ pC (@pA _ _ _ _ _ pC pB (by rfl)) (by rfl)) (by rfl))) (by with_unfolding_all rfl)) (pG (af (pv 0))) aj)
 (pD (aw (pM bu (ab ae (pv 0) pF (fun _ _=>rfl)) (@aa _ _ _ _ _ (@pA _ _ _ _ _ pC (@pA _ _ _ _ _ pC (@pA _ _ _ _ _ pC (@pA _ _ _ _ _ pC pB (by rfl)) (by rfl)) (by rfl)) (by rfl))) (by with_unfolding_all rfl)) (pG (af (au cR (bj c9 (pv 0) bD (bf (fo d3 pF))) (aa (pA (pv 2) pB))))) aj)
 (pD (aw (pM aA (ab ae (pv 0) pF (fun _ _=>rfl)) pC (pN _)) (pG (af (aa (pA pC (pA (ab ae (pv 2) pF (fun _ _=>rfl)) (pA (bj c9 (pv 2) (bf pF) bD) pB)))))) aj)
 (pD (aw (pM aA (ab ae (pv 0) pF (fun _ _=>rfl)) pC (pN _)) (pG (af (au cR (bj c9 (pv 0) bD (bf pF)) (pv 2)))) aj)
 (pG (af (aN (pM bu (ab ae (pv 0) pF (fun _ _=>rfl)) (@aa _ _ _ _ _ (@pA _ _ _ _ _ pC (@pA _ _ _ _ _ pC (@pA _ _ _ _ _ pC pB (by rfl)) (by rfl)) (by rfl))) (by with_unfolding_all rfl)) (au cR (bj c9 (pv 0) bD (bf pF)) (pv 2)) (au cR (bj c9 (pv 0) bD (bf pF)) (pv 2)))))))))),?_⟩
   dsimp only[bE];refine ac fun ik ee=>?_;refine⟨_,rfl,L,_,rfl,.inl ⟨SqL.of hL,fun F hF=>?_⟩⟩;refine ee _ _ (ac fun kJ gw=>?_);have sF:=smu (o:=HO.tup zs) hF;have tF:TD K (upd H F (.tup zs)) (.ref F) (.tuple ks'):=.tup (SqT.of pE) (hz.same sF);generalize upd H F (.tup zs)=H1 at sF tF ⊢;obtain⟨hd,ps,ed⟩:∃ hd ps,d=.tuple (.str hd::ps):=by cases nod <;> exact⟨_,_,rfl⟩
   have td1:=td.same sF;obtain⟨a,vs,rfl,ha,hvs⟩:∃ a vs,v=.ref a∧SqT K H1 a (.str hd::vs)∧TDs K H1 vs ps:=by
    rw[ed] at td1;obtain⟨a,ys,rfl,ha,hy⟩:=td1.tup_of;obtain⟨y,yr,rfl,t1,tr⟩:=bh hy;cases t1;exact⟨a,yr,rfl,ha,tr⟩
   refine⟨_,rfl,a,_,_,_,rfl,rfl,ha,aX,fN,fun t1 ht1=>?_⟩;refine⟨t1,w1.map V.str,rfl,.inr (SqT.of pE),rfl,bw _,_,rfl,?_⟩;rw[bH];have S2:ai H1 (upd H1 t1 (.tup [V.str "number",V.str "name",V.str "fault"])):=smu ht1;generalize upd H1 t1 (.tup [V.str "number",V.str "name",V.str "fault"])=H2 at S2 ⊢;by_cases e1:c7 hd w1=true
   · refine pJ e1 ⟨_,rfl,q _ _ (sF.trans S2) ?_⟩;have tdd:=td1.same S2;cases nod <;> first | exact tdd | (cases ed;exact absurd e1 (by decide +kernel))
   refine pI e1 (gw _ _ (ac fun pf iW=>?_));refine⟨_,rfl,a,_,_,_,rfl,rfl,ha.tk S2.tk,aX,tS,fun t2 ht2=>?_⟩;refine⟨t2,wB.map V.str,rfl,.inr (SqT.of pE),rfl,bw _,_,rfl,?_⟩;rw[bH];have S3:ai H1 (upd H2 t2 (.tup [V.str "do",V.str "op",V.str "new",V.str "call"])):=S2.trans (smu ht2);generalize upd H2 t2 (.tup [V.str "do",V.str "op",V.str "new",V.str "call"])=H3 at S3 ⊢;have td3':=td1.same S3;have tF3:=tF.same S3;by_cases e2:c7 hd wB=true
   · refine pJ e2 ?_;have fin:∀ (pre:PDs) (lst:PyData),d=.tuple (pre++[lst])→rb gI gI ks'=.tuple (pre++[.tuple ks'])→pre.length≤4→ou (tOp (gO K) (tSl (fU K) (cu 0) dz (gL (tUn (rU fun i=>.int (-i)) (tC (.int 1))))) (lc (dI (cu 2) gx))) {nx:=fun _ H'=>Q .non H',rt:=Q} [some (.ref a),some (.ref L),some (.ref F)] H3:=fun pre lst e er hp4=>by
      refine⟨_,rfl,_,rfl,_,rfl,ko (n:=pre.length) (e▸td3') (fun xs hx=>?_) fun p5 H5 s5 tp=>?_⟩
      · rw[lAp] at hx;have hx':xs.length=pre.length+1:=hx;rw[qb (fun z=>by rw[z] at hx';cases hx'),hx'];rfl
      · rw[List.take_left] at tp;refine⟨_,rfl,jd,fun p6 hp6=>?_⟩;have s6:=smu (o:=HO.tup [.ref F]) hp6;refine dG (tp.same s6) (.tup (SqT.of pE) (.cons ((tF3.same s5).same s6) .nil)) (by show pre.length+1≤100000;omega) fun p7 H7 s7 t7=>?_;exact q _ _ (((sF.trans S3).trans s5).trans (s6.trans s7)) (by rw[er];exact t7)
     cases nod with
     | op s es=>exact fin [.str "op",.str s] _ rfl rfl (by show 2≤4;decide)
     | new r es=>exact fin [.str "new",.int r] _ rfl rfl (by show 2≤4;decide)
     | doo es=>exact fin [.str "do"] _ rfl rfl (by decide)
     | num i=>cases ed;exact absurd e2 (by decide +kernel)
     | name i=>cases ed;exact absurd e2 (by decide +kernel)
     | app f es=>cases ed;exact absurd e2 (by decide +kernel)
     | get r k a=>cases ed;exact absurd e2 (by decide +kernel)
     | say a=>cases ed;exact absurd e2 (by decide +kernel)
     | ife a b c=>cases ed;exact absurd e2 (by decide +kernel)
     | each x a b=>cases ed;exact absurd e2 (by decide +kernel)
     | fn ids b=>cases ed;exact absurd e2 (by decide +kernel)
   refine pI e2 (iW _ _ (ac fun qz nn=>?_));refine⟨_,rfl,a,_,_,_,rfl,rfl,ha.tk S3.tk,aX,rfl,_,rfl,?_⟩;by_cases e3:hd="apply"
   · refine pJ (by simp[e3]) ?_;cases nod with
     | app f es =>
      obtain⟨fa,zs',efa,hfa,hzs'⟩:=tF3.tup_of;cases efa;obtain⟨z0,zr,ks0,ksr,rfl,rfl,tz0,tzr⟩:∃ z0 zr ks0 ksr,zs'=z0::zr∧ks'=ks0::ksr∧TD K H3 z0 ks0∧TDs K H3 zr ksr:=by
       cases hzs' with
       | nil=>cases hl
       | cons p qq=>exact⟨_,_,_,_,rfl,rfl,p,qq⟩
      refine⟨_,rfl,F,_,_,_,rfl,rfl,hfa,aX,_,rfl,1,rfl,?_⟩;dsimp only[gN];refine kr (n:=1) tF3 fun p5 H5 s5 tp=>⟨fN,fun p6 hp6=>?_⟩;exact q _ _ (((sF.trans S3).trans s5).trans (smu hp6)) (td3 (.str "apply") (tz0.same s5) tp hp6)
     | num i=>cases ed;exact absurd e3 (by decide +kernel)
     | name i=>cases ed;exact absurd e3 (by decide +kernel)
     | op s es=>cases ed;exact absurd e3 (by decide +kernel)
     | new s es=>cases ed;exact absurd e3 (by decide +kernel)
     | doo es=>cases ed;exact absurd e3 (by decide +kernel)
     | get r k a=>cases ed;exact absurd e3 (by decide +kernel)
     | say a=>cases ed;exact absurd e3 (by decide +kernel)
     | ife a b c=>cases ed;exact absurd e3 (by decide +kernel)
     | each x a b=>cases ed;exact absurd e3 (by decide +kernel)
     | fn ids b=>cases ed;exact absurd e3 (by decide +kernel)
   refine pI (by simpa using e3) (nn _ _ (ac fun vW py=>?_));have cat:∀ {H5:Hp} (n:Nat) (pre suf:PDs),ai H3 H5→d=.tuple (pre++suf)→pre.length=n→rb gI gI ks'=.tuple (pre++ks')→n≤4→(tOp (gO K) (tSl (fU K) (cu 0) dz (gL (tC (.int ((n:Nat):Int))))) (cu 2)) [some (.ref a),some (.ref L),some (.ref F)] H5 Q:=fun {H5} n pre suf s5 e en er h4=>by
    refine⟨_,rfl,_,rfl,ko (n:=n) (e▸td3'.same s5) (fun xs hx=>?_) fun p6 H6 s6 tp=>?_⟩
    · rw[lAp] at hx;exact nK (by omega)
    · rw[← en,List.take_left] at tp;refine⟨_,rfl,dG tp ((tF3.same s5).same s6) (by omega) fun p7 H7 s7 t7=>?_⟩;exact q _ _ (((sF.trans S3).trans s5).trans (s6.trans s7)) (by rw[er];exact t7)
   have one_:∀ {ys:PDs},ys.length=1→ys=[k0 ys]:=fun {ys} h=>by obtain⟨y,rfl⟩:=cY h;rfl
   have two_:∀ {ys:PDs},ys.length=2→ys=[k0 ys,k1 ys]:=fun {ys} h=>by obtain⟨y,z,rfl⟩:=dW h;rfl
   have three_:∀ {ys:PDs},ys.length=3→ys=[k0 ys,k1 ys,k2 ys]:=fun {ys} h=>by obtain⟨y,z,u,rfl⟩:=dU h;rfl
   refine⟨_,rfl,a,_,_,_,rfl,rfl,ha.tk S3.tk,aX,rfl,_,rfl,?_⟩;by_cases e4:hd="get"
   · refine pJ (by simp[e4]) ?_;cases nod with
     | get r k a' =>
      refine cat 3 [.str "get",.int r,.int k] [a'] (ai.refl _) rfl rfl ?_ (by decide);have:=one_ (ys:=ks') hl;show PyData.tuple [_,_,_,k0 ks']=.tuple ([.str "get",.int r,.int k]++ks');rw[this];rfl
     | num i=>cases ed;exact absurd e4 (by decide +kernel)
     | name i=>cases ed;exact absurd e4 (by decide +kernel)
     | op s es=>cases ed;exact absurd e4 (by decide +kernel)
     | new s es=>cases ed;exact absurd e4 (by decide +kernel)
     | doo es=>cases ed;exact absurd e4 (by decide +kernel)
     | app r k=>cases ed;exact absurd e4 (by decide +kernel)
     | say a=>cases ed;exact absurd e4 (by decide +kernel)
     | ife a b c=>cases ed;exact absurd e4 (by decide +kernel)
     | each x a b=>cases ed;exact absurd e4 (by decide +kernel)
     | fn ids b=>cases ed;exact absurd e4 (by decide +kernel)
   refine pI (by simpa using e4) (py _ _ ?_);refine⟨_,rfl,a,_,_,_,rfl,rfl,ha.tk S3.tk,aX,fN,fun t5 ht5=>?_⟩;refine⟨t5,wJ.map V.str,rfl,.inr (SqT.of pE),rfl,bw _,_,rfl,?_⟩;rw[bH];have S5:ai H3 (upd H3 t5 (.tup [V.str "if",V.str "while",V.str "say"])):=smu ht5;generalize upd H3 t5 (.tup [V.str "if",V.str "while",V.str "say"])=H5 at S5 ⊢;cases nod with
   | say a' =>
    cases ed;refine pJ (by decide +kernel) (cat 1 [.str "say"] [a'] S5 rfl rfl ?_ (by decide));show PyData.tuple [_,k0 ks']=.tuple ([.str "say"]++ks');have:=one_ (ys:=ks') hl;rw[this];rfl
   | ife a' b' c' =>
    cases ed;refine pJ (by decide +kernel) (cat 1 [.str "if"] [a',b',c'] S5 rfl rfl ?_ (by decide));show PyData.tuple [_,k0 ks',k1 ks',k2 ks']=.tuple ([.str "if"]++ks');have:=three_ (ys:=ks') hl;rw[this];rfl
   | each x a' b' =>
    cases ed;refine pI (by decide +kernel) (cat 2 [.str "each",.int x] [a',b'] S5 rfl rfl ?_ (by decide));show PyData.tuple [_,_,k0 ks',k1 ks']=.tuple ([.str "each",.int x]++ks');have:=two_ (ys:=ks') hl;rw[this];rfl
   | fn _ b' h3 =>
    cases ed;refine pI (by decide +kernel) (cat 2 [.str "fun",.tuple (bi.map .int)] [b'] S5 rfl rfl ?_ (by decide));show PyData.tuple [_,.tuple ((bi.map gI).map .int),k0 ks']=.tuple ([.str "fun",.tuple (bi.map .int)]++ks');rw[show bi.map gI=bi from List.map_id bi];have:=one_ (ys:=ks') hl;rw[this];rfl
   | num i=>cases ed;exact absurd (by decide +kernel) e1
   | name i=>cases ed;exact absurd (by decide +kernel) e1
   | op s es=>cases ed;exact absurd (by decide +kernel) e2
   | new s es=>cases ed;exact absurd (by decide +kernel) e2
   | doo es=>cases ed;exact absurd (by decide +kernel) e2
   | app r k=>cases ed;exact absurd rfl e3
   | get r k a=>cases ed;exact absurd rfl e4
end
end K20
namespace L2
open PySem PySem.Spec PyProof.Rows PyProof.Rows
section
variable {X:Cx} {p pos:Pos} {e:Expr} {es:List Expr} {t:TA}
inductive oi (xs:List V) (H:Hp) (Q:VK):Prop
  | mk (a:Addr) (kvs:List (Key×V)) (h1:xs=[.ref a]) (h2:H a=some (.dK kvs)) (q:∀ p,H p=none→Q (.ref p) (upd H p (.dK kvs))):oi xs H Q
def mB:List V→Hp→VK→Prop:=fun xs H Q=>oi xs H Q
theorem jO:gu X (.type "dict") mB:=by
 intro pins s σ H xs us Q I rv h;obtain⟨a,kvs,rfl,e,q⟩:=h;obtain⟨u,rfl,ru⟩:=rv.one;cases ru;obtain⟨z,hd,vs,rel,dd⟩:=nI I.hok e;have hz:vs.length≤sizeLine:=by rw[← Paired.length rel];exact z
 refine kt_call_dict (knd:=aL X.prog X.w) hd dd hz fun h' dd' sb=>?_;refine⟨.ref _,_,I.laid (a:=s.heap.objs.size) (o:=.dK kvs) (h':=h') (t':=s.toks) (fun b ob eb=>sb.extBut b ob (Nat.ne_of_lt (Heap.lt_size eb)) (hpS _ eb)) (Nat.le_refl _) (jJ z ?_ rel dd'),rfl,q _ (I.hok.fresh (Nat.le_refl _))⟩;exact beq_eq_false_iff_ne.mpr (Ne.symm (Nat.ne_of_lt I.big))
theorem jP:bootBuiltins "dict"=some (.type "dict"):=by decide +kernel
theorem qj (hm:X.mg "dict"=none) (ha:PA X (e::es) t) (hg:Gl X "dict":=by rfl)
 (he:starEach (e::es) X.env=(false,eval e X.env)::starEach es X.env:=by rfl) (hpl:(backTo pos (starEach es X.env)).any (·.1)=false:=by rfl) :
 PE X (.Call (.Name "dict" p) (e::es) [] pos) (tCB mB t):=f9 jO hg hm jP ha (he:=he) (hpl:=hpl)
end
end L2
namespace K20
open PySem L2 P10
section
variable {P:Program} {w:World} {K:Fg} {mg:SOV} {base:Heap}
inductive qW (K:Fg) (vs:List V) (H:Hp) (Q:VK):Prop
  | mk (v:V) (d:PyData) (ks:PDs) (rb:Rb) (bi:List Int) (h0:vs=[v]) (h1:TD K H v d) (h2:Nod d ks rb bi) (q:∀ a H',ai H H'→SqT K H' a (bi.map V.int)→Q (.ref a) H'):qW K vs H Q
def rQ (K:Fg):Sp:=fun vs H Q _=>qW K vs H Q
theorem vB (D:Def K mg "_law_binds" (top 54)):Fn P w K mg base "_law_binds" 1 ["_law_e"] (rQ K):=by
 refine D.fn (N:=["_law_e"]) fsM (fun vs H Q E h=>?_) (fun _ _ _ _ _ _ us hl=>by obtain⟨a,rfl⟩:=cY hl;rfl) (fun f' cdv A outer s' H vs Q E hr h=>?_)
 · obtain⟨v,d,ks,rb,bi,rfl,_⟩:=h;rfl
 · obtain⟨v,d,ks,rb,bi,rfl,td,nod,q⟩:=h;refine⟨_,(pD (aw (pM bu (ab ae (pv 0) pF (fun _ _=>rfl)) (@aa _ _ _ _ _ (@pA _ _ _ _ _ pC (@pA _ _ _ _ _ pC (@pA _ _ _ _ _ pC pB (by rfl)) (by rfl)) (by rfl))) (by with_unfolding_all rfl)) (pG (af (aa (pA (ab ae (pv 0) pF (fun _ _=>rfl)) pB)))) aj)
 (pG (af (aN (pM aA (ab ae (pv 0) pF (fun _ _=>rfl)) pC (pN _)) (ab ae (pv 0) pF (fun _ _=>rfl)) (aa pB))))),?_⟩
   dsimp only[bE];obtain⟨hd,ps,ed⟩:∃ hd ps,d=.tuple (.str hd::ps):=by cases nod <;> exact⟨_,_,rfl⟩
   obtain⟨a,vs,rfl,ha,hvs⟩:∃ a vs,v=.ref a∧SqT K H a (.str hd::vs)∧TDs K H vs ps:=by
    rw[ed] at td;obtain⟨a,ys,rfl,ha,hy⟩:=td.tup_of;obtain⟨y,yr,rfl,t1,tr⟩:=bh hy;cases t1;exact⟨a,yr,rfl,ha,tr⟩
   refine ac fun ik ee=>?_;refine⟨_,rfl,a,_,_,_,rfl,rfl,ha,aX,fN,fun t1 ht1=>?_⟩;refine⟨t1,w2.map V.str,rfl,.inr (SqT.of pE),rfl,bw _,_,rfl,?_⟩;rw[bH];have S2:ai H (upd H t1 (.tup [V.str "let",V.str "var",V.str "each"])):=smu ht1;generalize upd H t1 (.tup [V.str "let",V.str "var",V.str "each"])=H2 at S2 ⊢;have none_:bi=[]→hd≠"fun"→ik [some (.ref a)] H2:=fun e1 e3=>ee _ _ ⟨_,rfl,a,_,_,_,rfl,rfl,ha.tk S2.tk,aX,rfl,_,rfl,pI (by simpa using e3) ⟨i7,fun p hp=>q p _ (S2.trans (smu hp)) (by rw[e1];exact SqT.of pE)⟩⟩;cases nod with
   | each x a' b' =>
    cases ed;obtain⟨y1,yr,rfl,t1,tr⟩:=bh hvs;cases t1;exact pJ (by decide +kernel) ⟨_,rfl,a,_,_,_,rfl,rfl,ha.tk S2.tk,eR,jd,fun p hp=>q p _ (S2.trans (smu hp)) (SqT.of pE)⟩
   | fn _ b' h3 =>
    cases ed;obtain⟨y1,yr,rfl,t1,tr⟩:=bh hvs;obtain⟨ta,zs,rfl,hta,hzs⟩:=t1.tup_of;have:=eh hzs;subst this;exact pI (by decide +kernel) (ee _ _ ⟨_,rfl,a,_,_,_,rfl,rfl,ha.tk S2.tk,aX,rfl,_,rfl,aW ⟨_,rfl,a,_,_,_,rfl,rfl,ha.tk S2.tk,eR,q ta _ S2 (hta.tk S2.tk)⟩⟩)
   | num i=>cases ed;exact pI (by decide +kernel) (none_ rfl (by decide +kernel))
   | name i=>cases ed;exact pI (by decide +kernel) (none_ rfl (by decide +kernel))
   | op s es=>cases ed;exact pI (by decide +kernel) (none_ rfl (by decide +kernel))
   | new s es=>cases ed;exact pI (by decide +kernel) (none_ rfl (by decide +kernel))
   | doo es=>cases ed;exact pI (by decide +kernel) (none_ rfl (by decide +kernel))
   | app r k=>cases ed;exact pI (by decide +kernel) (none_ rfl (by decide +kernel))
   | get r k a=>cases ed;exact pI (by decide +kernel) (none_ rfl (by decide +kernel))
   | say a=>cases ed;exact pI (by decide +kernel) (none_ rfl (by decide +kernel))
   | ife a b c=>cases ed;exact pI (by decide +kernel) (none_ rfl (by decide +kernel))
end
def gOf (kvs:List (Key×V)) (i:Int):Int:=match aY kvs (.inl i) with
  | some (.int j)=>j
  | _=>i
def Cn:Nat→(Int→Int)→PyData→PyData→Prop
  | 0,_,_,_=>False
  | n+1,g,d,d'=>∃ ks rb bi ks' g',Nod d ks rb bi∧(∀ i,i∉bi→g' i=g i)∧ks'.length=ks.length∧(∀ k x x',ks[k]?=some x→ks'[k]?=some x'→Cn n (if k+1=ks.length then g' else g) x x')∧d'=rb g g' ks'
def Gr:Nat→List Int→PyData→Prop
  | 0,_,_=>False
  | n+1,M,d=>∃ ks rb bi,Nod d ks rb bi∧ks.length≤8∧(∀ x,d=nam x→x∈M)∧∀ k x,ks[k]?=some x→Gr n (if k+1=ks.length then bi++M else M) x
def Has (kvs:List (Key×V)) (M:List Int):Prop:=∀ x∈M,∃ j,aY kvs (.inl x)=some (.int j)
theorem Has.put {kvs:List (Key×V)} {M:List Int} (h:Has kvs M) (x n:Int):Has (bp kvs (.inl x) (.int n)) (x::M):=fun y hy=>by
 rw[iD];by_cases e:(Sum.inl y:Key)=.inl x
 · exact⟨n,by rw[if_pos e]⟩
 · rw[if_neg e]
   rcases List.mem_cons.mp hy with rfl | hy
   · exact absurd rfl e
   · exact h y hy
theorem oJ {kvs:List (Key×V)} (k:Key) (v:V):(bp kvs k v).length≤kvs.length+1:=by
 unfold bp;split
 · rw[lMp];omega
 · rw[lAp];exact Nat.le_refl _
def il (nx:Int):HO:=.dK [(.inr "next",.int nx)]
theorem mY (nx n:Int):bp [((.inr "next":Key),V.int nx)] (.inr "next") (.int n)=[(.inr "next",.int n)]:=by simp[bp]
structure Kd (H H':Hp) (dl:Addr):Prop where
  kp:∀ a u,a≠dl→H a=some u→H' a=some u
theorem Kd.trans {H H1 H2:Hp} {dl:Addr} (a:Kd H H1 dl) (b:Kd H1 H2 dl):Kd H H2 dl:=⟨fun x u n h=>b.kp x u n (a.kp x u n h)⟩
theorem Kd.of {H H':Hp} {dl:Addr} (s:ai H H'):Kd H H' dl:=⟨fun x u _ h=>s x u h⟩
theorem Kd.put {H H':Hp} {dl:Addr} {o:HO} (a:Kd H H' dl):Kd H (upd H' dl o) dl:=⟨fun x u n h=>by rw[a0 n];exact a.kp x u n h⟩
theorem Kd.new {H H':Hp} {dl p:Addr} {o:HO} (a:Kd H H' dl) (hp:H p=none):Kd H (upd H' p o) dl:=⟨fun x u n h=>by rw[a0 (ah h hp)];exact a.kp x u n h⟩
theorem Kd.tk {H H':Hp} {dl:Addr} {nx:Int} (a:Kd H H' dl) (hd:H dl=some (il nx)):Tk H H':=fun x xs h=>by
 have n:x≠dl:=fun e=>by
  rw[e] at h
  rcases h with h | ⟨_,h⟩ <;> rw[hd] at h <;> cases h
 rcases h with h | ⟨o,h⟩
 · exact .inl (a.kp _ _ n h)
 · exact .inr ⟨o,a.kp _ _ n h⟩
section
variable {P:Program} {w:World} {K:Fg} {mg:SOV} {base:Heap}
abbrev sCn:Stmt:=top 55
abbrev nCn:List Str:=["_law_e","_law_ids","_law_lore","_law_inner","_law_one","_law_some","_law_found","_law_k"]
abbrev mH:List Str:=["_law_e","_law_ids","_law_lore"]
inductive re (K:Fg) (n:Nat) (vs:List V) (H:Hp) (Q:VK):Prop
  | mk (v:V) (di dl:Addr) (d:PyData) (M:List Int) (kvs:List (Key×V)) (nx:Int) (h0:vs=[v,.ref di,.ref dl]) (h1:TD K H v d) (h2:Gr n M d) (h3:H di=some (.dK kvs)) (h4:Has kvs M) (h5:kvs.length+8*n≤900) (h6:H dl=some (il nx)) (h7:di≠dl)
    (q:∀ v' d' nx' H',Kd H H' dl→H' dl=some (il nx')→TD K H' v' d'→Cn n (gOf kvs) d d'→Q v' H'):re K n vs H Q
def me (K:Fg) (n:Nat):Sp:=fun vs H Q _=>re K n vs H Q
theorem vR:(["_law_one","_law_inner"]:List Str).Nodup:=by decide +kernel
theorem jF {kvs:List (Key×V)} {x j:Int} (h:aY kvs (.inl x)=some (.int j)):gOf kvs x=j:=by unfold gOf;rw[h]
theorem ni {H1:Hp} {b inn:Addr} {is:List Int} {kvs:List (Key×V)} {Q:VK} {y0:Option V} (hb:SqT K H1 b (is.map V.int)) (hi:H1 inn=some (.dK kvs)) (hh:∀ x∈is,∃ j,aY kvs (.inl x)=some (.int j)) (hl:is.length≤8) {G:Addr} (hG:H1 G=none)
 (q:∀ H',ai H1 H'→H' G=some (.lst ((is.map (gOf kvs)).map V.int))→Q (.ref G) H'):bW (Itt K b) (hI 0) lY (kg (cu 1) (cu 0)) Q [y0,some (.ref inn)] H1 G:=by
 have hz0:(1000:Nat)<sizeLine:=by decide
 have k0:=smu (o:=HO.lst []) hG;refine bW.by (bL (xs:=is.map V.int)) (fun i σ Hi=>ai H1 Hi∧Hi G=some (.lst (((is.take i).map (gOf kvs)).map V.int))∧∃ y,σ=[y,some (.ref inn)]) ⟨k0,pE,_,rfl⟩ (fun _ _ _ _ z=>hb.tk z.1.tk) ?_ ?_
 · rintro i u σ Hi hu ⟨si,hGi,y,rfl⟩;have hi2:i<is.length:=by have:=(gES.mp hu).1;rwa [lMp] at this
   rw[gEM,gEE hi2] at hu;cases hu;obtain⟨j,hj⟩:=hh is[i] (List.getElem_mem hi2);rw[cg,d7];refine aW ⟨_,rfl,_,rfl,.mk inn (.int j) rfl (by rw[← hj];exact fG.k (k:=.inl is[i]) (si _ _ hi)) ⟨_,hGi,?_,fun c v e=>?_,?_,_,rfl⟩⟩
   · simp only[lMp,lTk];omega
   · rw[a0 (ah e hG)];exact si _ _ e
   · rw[pE,tAO,gEE hi2,List.map_append,List.map_append,← jF hj];rfl
 · rintro σ Hi ⟨si,hGi,y,rfl⟩;rw[lMp,List.take_length] at hGi;exact q Hi si hGi
theorem sG (D:Def K mg "_law_canon" sCn):Fn P w K mg base "_law_canon" 2 mH (me K 0):=by
 refine D.fn (N:=nCn) fsM (fun vs H Q E h=>?_) (fun _ _ _ _ _ _ us hl=>by obtain⟨a,b,d,rfl⟩:=dU hl;rfl) (fun f' cdv A outer s' H vs Q E hr h=>?_)
 · obtain⟨v,di,dl,d,M,kvs,nx,rfl,_⟩:=h;rfl
 · obtain⟨v,di,dl,d,M,kvs,nx,rfl,_,g,_⟩:=h;exact g.elim
theorem sE {n:Nat} (D:Def K mg "_law_canon" sCn) (T:Blt mg) (td:mg "dict"=none) (du:Fn P w K mg base "_law_binds" 1 ["_law_e"] (rQ K)) (cB:Fn P w K mg base "_law_children" 1 ["_law_e"] (mh K)) (e9:Fn P w K mg base "_law_with" 1 ["_law_e","_law_children_here"] (rO K)) (dr:Fn P w K mg base "_law_canon" (n+2) mH (me K n)):Fn P w K mg base "_law_canon" (n+3) mH (me K (n+1)):=by
 have nd:(nCn:List Str).Nodup:=by decide +kernel
 refine D.fn (N:=nCn) ⟨rfl,rfl,rfl,nd,rfl,by decide +kernel,by decide +kernel⟩ (fun vs H Q E h=>?_) (fun _ _ _ _ _ _ us hl=>by obtain⟨a,b,d,rfl⟩:=dU hl;rfl) (fun f' cdv A outer s' H vs Q E hr h=>?_)
 · obtain⟨v,di,dl,d,M,kvs,nx,rfl,_⟩:=h;rfl
 · obtain⟨v,di,dl,d,M,kvs,nx,rfl,tv,⟨ks,rb,bi,nod,h8,hnm,hkd⟩,hdi,hM,hsz,hdl,ndl,q⟩:=h;have hu:=nj hr;have hz0:(1000000:Nat)<sizeLine:=by decide
   refine⟨_,(pD (pL (i:=3) nd rfl (Or.inr rfl) (qj td (pA (pv 1) pB)))
 (pD (bS PassesOwn.never rfl (d8 (ao du (hr.mono (by omega)) rfl (pA (pv 0) pB))) (ar (i:=4) nd rfl (Or.inl rfl))
 (pD (ig hu (pv 3) (pv 4) (pK hu (pv 2) pC (fun _ _=>rfl)) rfl)
 (pG (ig hu (pv 2) pC (au cz (pK hu (pv 2) pC (fun _ _=>rfl)) pF) rfl))))
 (pD (pL (i:=5) nd rfl (Or.inl rfl) (ao cB (hr.mono (by omega)) rfl (pA (pv 0) pB)))
 (pD (pL (i:=6) nd rfl (Or.inl rfl) (aU pB))
 (pD (bS PassesOwn.never rfl (bZ rfl T.range (pA (bX T.len (pA (pv 5) pB)) pB)) (ar (i:=7) nd rfl (Or.inl rfl))
 (pG (aC (cj (pv 6) (pA (ao dr (hr.mono (by omega)) rfl (pA (ab ae (pv 5) (pv 7) (fun _ _=>rfl)) (pA (aN (pM aA (pv 7) (au c6 (bX T.len (pA (pv 5) pB)) pF) (pN _)) (pv 3) (pv 1)) (pA (pv 2) pB)))) pB)))))
 (pD (pL (i:=0) nd rfl (Or.inl rfl) (ao e9 (hr.mono (by omega)) rfl (pA (pv 0) (pA (pv 6) pB))))
 (pD (aw (pM aA (ab ae (pv 0) pF (fun _ _=>rfl)) pC (pN _)) (pG (af (aa (pA pC (pA (cy T.tuple (pA (eI (own:=["_law_one"]) (outs:=[(3,"_law_inner")]) (te:=kg (cu 1) (cu 0)) rfl (bb.of (ak sCn) nCn) (d8 (ab ae (pv 0) pF (fun _ _=>rfl))) (fun _ _ _ _=>⟨(ar (i:=0) vR rfl (Or.inl rfl)),bU,(pK hu (pv 1) (pv 0) (fun _ _=>rfl))⟩)) pB)) (pA (ab ae (pv 0) pF (fun _ _=>rfl)) pB)))))) aj)
 (pD (aw (pM bu (ab ae (pv 0) pF (fun _ _=>rfl)) (@aa _ _ _ _ _ (@pA _ _ _ _ _ pC (@pA _ _ _ _ _ pC pB (by rfl)) (by rfl))) (by with_unfolding_all rfl)) (pG (af (au cR (aa (pA (ab ae (pv 0) pF (fun _ _=>rfl)) (pA (pK hu (pv 1) (ab ae (pv 0) pF (fun _ _=>rfl)) (fun _ _=>rfl)) pB))) (bj c9 (pv 0) (bf pF) bD)))) aj)
 (pG (af (aN (pM bu (ab ae (pv 0) pF (fun _ _=>rfl)) (@aa _ _ _ _ _ (@pA _ _ _ _ _ pC (@pA _ _ _ _ _ pC (@pA _ _ _ _ _ pC pB (by rfl)) (by rfl)) (by rfl))) (by with_unfolding_all rfl)) (au cR (aa (pA (ab ae (pv 0) pF (fun _ _=>rfl)) (pA (pK hu (pv 3) (ab ae (pv 0) pF (fun _ _=>rfl)) (fun _ _=>rfl)) pB))) (bj c9 (pv 0) (bf pF) bD)) (pv 0)))))))))))),?_⟩
   dsimp only[bE];refine ac fun ik ee=>?_;refine⟨_,rfl,di,kvs,rfl,hdi,fun inn hinn=>?_⟩;have s1:=smu (o:=HO.dK kvs) hinn;have hi1:(upd H inn (.dK kvs)) inn=some (.dK kvs):=pE;have ninn:inn≠dl:=Ne.symm (ah hdl hinn);have nid:inn≠di:=Ne.symm (ah hdi hinn);refine ee _ _ (ac fun kJ gw=>?_);generalize upd H inn (.dK kvs)=H1 at s1 hi1 ⊢;refine⟨_,rfl,v,d,ks,rb,bi,rfl,tv.same s1,nod,fun ba H2 s2 hba=>?_⟩;have S2:=s1.trans s2;refine⟨ba,rfl,⟨_,hba⟩,?_⟩;have bl:bi.length≤3:=by cases nod <;> first | assumption | decide | (show 1≤3;decide)
   show az _ _ _ _ _ _;refine az.byN (bL (xs:=bi.map V.int)) (fun j σ Hj=>Kd H Hj dl∧(∃ kvj nxj,Hj inn=some (.dK kvj)∧Hj dl=some (il nxj)∧kvj.length≤kvs.length+j∧Has kvj M∧Has kvj (bi.take j)∧∀ i,i∉bi.take j→aY kvj (.inl i)=aY kvs (.inl i))∧SqT K Hj ba (bi.map V.int)∧∃ x4,σ=[some v,some (.ref di),some (.ref dl),some (.ref inn),x4,none,none,none]) ⟨.of S2,⟨kvs,nx,s2 _ _ hi1,S2 _ _ hdl,Nat.le_refl _,hM,(fun _ h=>(by rw[List.take_zero] at h;cases h)),fun _ _=>rfl⟩,hba,_,rfl⟩ (fun _ _ _ _ z=>z.2.2.1) ?_ ?_
   · rintro j u σ Hj N_ B_ hN_ hB_ hu' ⟨kj,⟨kvj,nxj,hij,hdj,hlj,hMj,hbj,haj⟩,hbaj,x4,rfl⟩;have hj:j<bi.length:=by have:=(gES.mp hu').1;rwa [lMp] at this
     rw[gEM,gEE hj] at hu';cases hu';refine ac fun yv g1_=>?_;have gn:fG Hj dl (.str "next") (some (.int nxj)):=by
      have:=fG.k (k:=.inr "next") hdj;exact this
     refine⟨_,rfl,.mk dl _ rfl gn ⟨_,rfl,_,rfl,.mk inn _ rfl (lS.k (k:=.inl bi[j]) hij (by omega)) (g1_ _ _ ?_)⟩⟩;have hd2:(upd Hj inn (.dK (bp kvj (.inl bi[j]) (.int nxj)))) dl=some (il nxj):=by rw[a0 (Ne.symm ninn)];exact hdj
     have hi2:(upd Hj inn (.dK (bp kvj (.inl bi[j]) (.int nxj)))) inn=some (.dK (bp kvj (.inl bi[j]) (.int nxj))):=pE;have kd2:Kd H (upd Hj inn (.dK (bp kvj (.inl bi[j]) (.int nxj)))) dl:=kj.new hinn;have hb2:SqT K (upd Hj inn (.dK (bp kvj (.inl bi[j]) (.int nxj)))) ba (bi.map V.int):=hbaj.tk (fun a xs h=>by
       have n:a≠inn:=fun e=>by
         rw[e] at h
         rcases h with h | ⟨_,h⟩ <;> rw[hij] at h <;> cases h
       rcases h with h | ⟨o,h⟩
       · exact .inl (by rw[a0 n];exact h)
       · exact .inr ⟨o,by rw[a0 n];exact h⟩)
     generalize upd Hj inn (.dK (bp kvj (.inl bi[j]) (.int nxj)))=H3 at hd2 hi2 kd2 hb2 ⊢;have gn3:fG H3 dl (.str "next") (some (.int nxj)):=fG.k (k:=.inr "next") hd2;refine⟨_,rfl,.mk dl _ rfl gn3 ⟨_,_,rfl,rfl,_,rfl,.mk dl _ rfl (lS.k (k:=.inr "next") hd2 (by show 1<sizeLine;decide)) (hN_ _ _ ?_)⟩⟩;have hd4:(upd H3 dl (.dK (bp [((.inr "next":Key),V.int nxj)] (.inr "next") (.int (nxj+1))))) dl=some (il (nxj+1)):=by rw[pE,mY];rfl
     refine⟨kd2.put,⟨_,nxj+1,by rw[a0 ninn];exact hi2,hd4,by have:=oJ (kvs:=kvj) (.inl bi[j]) (.int nxj);omega,(fun x hx=>hMj.put bi[j] nxj x (mCM _ hx)),?_,fun i hi=>?_⟩,hb2.tk (fun a xs h=>by
       have n:a≠dl:=fun e=>by
         rw[e] at h
         rcases h with h | ⟨_,h⟩ <;> rw[hd2] at h <;> cases h
       rcases h with h | ⟨o,h⟩
       · exact .inl (by rw[a0 n];exact h)
       · exact .inr ⟨o,by rw[a0 n];exact h⟩),_,rfl⟩
     · intro x hx;rw[tAO,gEE hj] at hx;refine hbj.put bi[j] nxj x ?_
       rcases mAp.mp hx with hx | hx
       · exact mCM _ hx
       · rw[show x=bi[j] from mSg.mp hx];exact mCS
     · rw[tAO,gEE hj] at hi;rw[iD,if_neg (fun z=>hi (List.mem_append_right _ (by cases z;exact mSg.mpr rfl)))];exact haj i fun z=>hi (List.mem_append_left _ z)
   rintro σ H3 ⟨kd3,⟨kv3,nx3,hi3,hd3,hl3,hM3,hb3,ha3⟩,hba3,x4,rfl⟩;rw[lMp,List.take_length] at hb3 ha3;rw[lMp] at hl3;have tv3:=tv.tk (kd3.tk hdl);refine gw _ _ (ac fun pf iW=>?_);obtain⟨hd,sl,ps,ndd,ek⟩:=mU nod h8;refine⟨_,rfl,v,d,hd,sl,ps,rfl,tv3,ndd,fun vk H4 s4 tk4=>?_⟩;rw[ek] at tk4;refine iW _ _ (ac fun qz nn=>?_);refine⟨i7,fun L hL=>?_⟩;have s5:=smu (o:=HO.lst []) hL;refine nn _ _ (ac fun vW py=>?_);have hL5:(upd H4 L (.lst [])) L=some (.lst []):=pE;have S35:=s4.trans s5;have tk5:=tk4.same s5;have hd5:=S35 _ _ hd3;have hi5:=S35 _ _ hi3;have hdi3:=kd3.kp _ _ ndl hdi;have hdi5:=S35 _ _ hdi3;have nLd:L≠dl:=Ne.symm (ah (s4 _ _ hd3) hL);have nLi:inn≠L:=ah (s4 _ _ hi3) hL;have nLdi:di≠L:=ah (s4 _ _ hdi3) hL;have tv5:=tv3.same S35;have kd5:Kd H (upd H4 L (.lst [])) dl:=kd3.trans (.of S35);obtain⟨ka,kxs,rfl,hka,hkxs⟩:=tk5.tup_of;have kl:=hkxs.length;have nLo:∀ a u,a≠dl→H a=some u→a≠L:=fun a u n h=>ah (s4 _ _ (kd3.kp a u n h)) hL;clear hL s5 S35 tk4;generalize upd H4 L (.lst [])=H5 at hL5 tk5 hd5 hi5 hdi5 tv5 kd5 hka hkxs ⊢;refine⟨_,rfl,ka,_,rfl,.inr hka,_,rfl,by omega,by omega,?_⟩;show az _ _ _ _ _ _;rw[show ((kxs.length:Nat):Int).toNat=kxs.length from Int.toNat_natCast _];refine az.byN (bN (n:=kxs.length)) (fun j σ Hj=>(∀ a u,a≠dl→a≠L→H5 a=some u→Hj a=some u)∧(∃ zs ks' nxj,Hj L=some (.lst zs)∧TDs K Hj zs ks'∧ks'.length=j∧Hj dl=some (il nxj)∧∀ k x x',ks[k]?=some x→ks'[k]?=some x'→Cn n (if k+1=ks.length then gOf kv3 else gOf kvs) x x')∧∃ x7,σ=[some v,some (.ref di),some (.ref dl),some (.ref inn),x4,some (.ref ka),some (.ref L),x7]) ⟨fun _ _ _ _ h=>h,⟨[],[],nx3,hL5,.nil,rfl,hd5,fun k x x' _ h=>(by cases h)⟩,_,rfl⟩ (fun _ _ _ _ _=>trivial) ?_ ?_
   · rintro j u σ Hj N_ B_ hN_ hB_ hu' ⟨kpj,⟨zs,ks',nxj,hLj,hzs,hkl,hdj,hcn⟩,x7,rfl⟩;have hj:j<kxs.length:=by have:=(gES.mp hu').1;rwa [bz] at this
     have:=eB hu';subst this;have hj2:j<ks.length:=by omega
     have tkj:Tk H5 Hj:=fun a xs h=>by
      have n1:a≠dl:=fun e=>by
       rw[e] at h
       rcases h with h | ⟨_,h⟩ <;> rw[hd5] at h <;> cases h
      have n2:a≠L:=fun e=>by
       rw[e] at h
       rcases h with h | ⟨_,h⟩ <;> rw[hL5] at h <;> cases h
      rcases h with h | ⟨o,h⟩
      · exact .inl (kpj _ _ n1 n2 h)
      · exact .inr ⟨o,kpj _ _ n1 n2 h⟩
     have hkj:ks[j]?=some ks[j]:=gEE hj2;obtain⟨y,hy,ty⟩:=hkxs.at hkj;have gr:=hkd j _ hkj;refine⟨_,rfl,.inl ⟨rfl,_,SqL.of hLj⟩,_,rfl,_,rfl,ka,_,_,_,rfl,rfl,hka.tk tkj,pH hy,_,rfl,_,rfl,ka,_,rfl,.inr (hka.tk tkj),_,_,rfl,rfl,rfl,_,rfl,?_⟩;rw[kl];have next:∀ v' d' nx' H',Kd Hj H' dl→H' dl=some (il nx')→TD K H' v' d'→Cn n (if j+1=ks.length then gOf kv3 else gOf kvs) ks[j] d'→N_ [some v,some (.ref di),some (.ref dl),some (.ref inn),x4,some (.ref ka),some (.ref L),some (.int ((j:Nat):Int))] (upd H' L (.lst (zs++[v']))):=fun v' d' nx' H' kd hd' tv' cn=>by
      have hL':=kd.kp _ _ nLd hLj;have tkp:Tk H' (upd H' L (.lst (zs++[v']))):=i8 (.inr ⟨_,hL'⟩);refine hN_ _ _ ⟨fun a u n1 n2 h=>by rw[a0 n2];exact kd.kp a u n1 (kpj a u n1 n2 h),⟨zs++[v'],ks'++[d'],nx',pE,((hzs.tk (kd.tk hdj)).snoc tv').tk tkp,by simp[hkl],by rw[a0 (Ne.symm nLd)];exact hd',fun k x x' hx hx'=>?_⟩,_,rfl⟩
      rcases Nat.lt_or_ge k ks'.length with z | z
      · rw[List.getElem?_append_left z] at hx';exact hcn k x x' hx hx'
      · rw[List.getElem?_append_right z] at hx';have:k=ks'.length:=by
         have:=(gES.mp hx').1;have:k-ks'.length<1:=this;omega
        subst this;rw[Nat.sub_self] at hx';cases hx';rw[hkl] at hx ⊢;rw[hkj] at hx;cases hx;exact cn
     have zl:=hzs.length;by_cases e:j+1=ks.length
     · rw[if_pos e] at gr;refine pJ (by simp;omega) ⟨_,rfl,_,rfl,.mk y inn dl ks[j] (bi++M) kv3 nxj rfl (ty.tk tkj) gr (kpj _ _ ninn nLi hi5) (fun x hx=>?_) (by omega) hdj ninn fun v' d' nx' H' kd hd' tv' cn=>?_⟩
       · rcases mAp.mp hx with hx | hx
         · exact hb3 x hx
         · exact hM3 x hx
       · exact⟨L,zs,_,rfl,rfl,kd.kp _ _ nLd hLj,by omega,next v' d' nx' H' kd hd' tv' (by rw[if_pos e];exact cn)⟩
     · rw[if_neg e] at gr;refine pI (by simp;omega) ⟨_,rfl,_,rfl,.mk y di dl ks[j] M kvs nxj rfl (ty.tk tkj) gr (kpj _ _ ndl nLdi hdi5) hM (by omega) hdj ndl fun v' d' nx' H' kd hd' tv' cn=>?_⟩;exact⟨L,zs,_,rfl,rfl,kd.kp _ _ nLd hLj,by omega,next v' d' nx' H' kd hd' tv' (by rw[if_neg e];exact cn)⟩
   rintro σ H6 ⟨kp6,⟨zs,ks',nx6,hL6,hzs,hkl,hd6,hcn⟩,x7,rfl⟩;rw[bz,kl] at hkl;have tk6:Tk H5 H6:=fun a xs h=>by
    have n1:a≠dl:=fun e=>by
     rw[e] at h
     rcases h with h | ⟨_,h⟩ <;> rw[hd5] at h <;> cases h
    have n2:a≠L:=fun e=>by
     rw[e] at h
     rcases h with h | ⟨_,h⟩ <;> rw[hL5] at h <;> cases h
    rcases h with h | ⟨o,h⟩
    · exact .inl (kp6 _ _ n1 n2 h)
    · exact .inr ⟨o,kp6 _ _ n1 n2 h⟩
   refine py _ _ (ac fun wQ wb=>?_);refine⟨_,rfl,_,rfl,v,L,zs,d,ks,ks',rb,bi,rfl,tv5.tk tk6,nod,hL6,hzs,hkl,h8,fun ve H7 s7 te=>?_⟩;have cn:Cn (n+1) (gOf kvs) d (rb (gOf kvs) (gOf kv3) ks'):=⟨ks,rb,bi,ks',gOf kv3,nod,(fun i hi=>by unfold gOf;rw[ha3 i hi]),hkl,hcn,rfl⟩;have fin:∀ v' H',ai H7 H'→TD K H' v' (rb (gOf kvs) (gOf kv3) ks')→Q v' H':=fun v' H' s' t'=>q v' _ nx6 H' ⟨fun a u n h=>by
     have nL:a≠L:=nLo a u n h;exact s' _ _ (s7 _ _ (kp6 a u n nL (kd5.kp a u n h)))⟩ (s' _ _ (s7 _ _ hd6)) t' cn
   have hi7:H7 inn=some (.dK kv3):=s7 _ _ (kp6 _ _ ninn nLi hi5);have hdi7:H7 di=some (.dK kvs):=s7 _ _ (kp6 _ _ ndl nLdi hdi5);refine wb _ _ (ac fun yi w9=>?_);have two:∀ (hd:Str) (x j:Int) (bQ:PDs) (dx:Addr) (kvx:List (Key×V)) {H8:Hp},ai H7 H8→TD K H7 ve (.tuple (.str hd::.int x::bQ))→bQ.length≤8→H7 dx=some (.dK kvx)→aY kvx (.inl x)=some (.int j)→rb (gOf kvs) (gOf kv3) ks'=.tuple (.str hd::.int j::bQ)→∀ {i:Nat} {σ:St},σ[0]?=some (some ve)→σ[i]?=some (some (.ref dx))→tOp (gO K) (lc (dI (tOp (lj K) (cu 0) (tC (.int 0))) (dI (kg (cu i) (tOp (lj K) (cu 0) (tC (.int 1)))) gx))) (tSl (fU K) (cu 0) (gL (tC (.int 2))) dz) σ H8 Q:=fun hd x j bQ dx kvx {H8} s8 tt rl hdx hv er {i σ} e0 ei=>by
    have tt8:=tt.same s8;obtain⟨a,ys,rfl,ha,hy⟩:=tt8.tup_of;obtain⟨y1,yr,rfl,t1,tr⟩:=bh hy;obtain⟨y2,yr2,rfl,t2,tr2⟩:=bh tr;cases t1;cases t2;refine⟨_,e0,a,_,_,_,rfl,rfl,ha,aX,_,ei,_,e0,a,_,_,_,rfl,rfl,ha,eR,.mk dx (.int j) rfl (by rw[← hv];exact fG.k (k:=.inl x) (s8 _ _ hdx)) ⟨bA,fun p hp=>⟨_,e0,2,rfl,?_⟩⟩⟩;dsimp only[gN];have s9:=smu (o:=HO.tup [.str hd,.int j]) hp;refine kr (n:=2) (tt8.same s9) fun p5 H5 s5 tp=>?_;refine dG (xs:=[.str hd,.int j]) ((td2 (.str hd) (.int j) hp).same s5) tp (by show 2+bQ.length≤100000;omega) fun p6 H6 s6 t6=>?_;exact fin _ _ ((s8.trans s9).trans (s5.trans s6)) (by rw[er];exact t6)
   obtain⟨hd',ps',ed'⟩:∃ hd ps,rb gI gI ks'=.tuple (.str hd::ps):=by cases nod <;> exact⟨_,_,rfl⟩
   obtain⟨a,vs,rfl,ha,hvs⟩:∃ a vs,ve=.ref a∧SqT K H7 a (.str hd'::vs)∧TDs K H7 vs ps':=by
    have te':=te;rw[ed'] at te';obtain⟨a,ys,rfl,ha,hy⟩:=te'.tup_of;obtain⟨y,yr,rfl,t1,tr⟩:=bh hy;cases t1;exact⟨a,yr,rfl,ha,tr⟩
   refine⟨_,rfl,a,_,_,_,rfl,rfl,ha,aX,rfl,_,rfl,?_⟩;by_cases e1:hd'="fun"
   · refine pJ (by simp[e1]) ?_;cases nod with
     | fn _ b h3 =>
      cases ed';obtain⟨y1,yr,rfl,t1,tr⟩:=bh hvs;obtain⟨y2,rfl,t2⟩:=jh tr;obtain⟨ta,ws,rfl,hta,hws⟩:=t1.tup_of;have:=eh hws;subst this;rw[show bi.map gI=bi from List.map_id bi] at hta;rw[fS,cL,aG,li,aG,fT,aG,eC];refine⟨_,rfl,a,_,_,_,rfl,rfl,ha,eR,ta,rfl,⟨_,hta⟩,fun G hG=>?_⟩;refine ni hta hi7 hb3 (by omega) hG fun H8 s8 hG8=>?_;refine⟨G,_,rfl,.inl ⟨SqL.of hG8,fun F hF=>?_⟩⟩;have s9:=smu (o:=HO.tup ((bi.map (gOf kv3)).map V.int)) hF;refine⟨_,rfl,a,_,_,_,rfl,rfl,(ha.tk s8.tk).tk s9.tk,jR,fN,fun p hp=>?_⟩;exact fin _ _ ((s8.trans s9).trans (smu hp)) (td3 (.str "fun") (.tup (SqT.of pE) (tdi _)) ((t2.same s8).same s9) hp)
     | num i=>cases ed';exact absurd e1 (by decide +kernel)
     | name i=>cases ed';exact absurd e1 (by decide +kernel)
     | op s es=>cases ed';exact absurd e1 (by decide +kernel)
     | new s es=>cases ed';exact absurd e1 (by decide +kernel)
     | doo es=>cases ed';exact absurd e1 (by decide +kernel)
     | app r k=>cases ed';exact absurd e1 (by decide +kernel)
     | get r k a=>cases ed';exact absurd e1 (by decide +kernel)
     | say a=>cases ed';exact absurd e1 (by decide +kernel)
     | ife a b c=>cases ed';exact absurd e1 (by decide +kernel)
     | each x a b=>cases ed';exact absurd e1 (by decide +kernel)
   refine pI (by simpa using e1) (w9 _ _ (ac fun yh xE=>?_));refine⟨_,rfl,a,_,_,_,rfl,rfl,ha,aX,bA,fun t1 ht1=>?_⟩;refine⟨t1,([("name":Str),"set"]:List Str).map V.str,rfl,.inr (SqT.of pE),rfl,bw _,_,rfl,?_⟩;rw[bH];have s8:ai H7 (upd H7 t1 (.tup [V.str "name",V.str "set"])):=smu ht1;generalize upd H7 t1 (.tup [V.str "name",V.str "set"])=H8 at s8 ⊢;have bQ:c7 hd' ([("name":Str),"set"]:List Str)=false→(hd'="each"→∃ x a b,d=aQ x a b)→(hd'≠"each"→rb gI gI ks'=rb (gOf kvs) (gOf kv3) ks'∧c7 hd' w2=false)→yh [some (.ref a),some (.ref di),some (.ref dl),some (.ref inn),x4,some (.ref ka),some (.ref L),x7] H8:=fun _ he hn=>by
    refine xE _ _ ?_;refine⟨_,rfl,a,_,_,_,rfl,rfl,ha.tk s8.tk,aX,fN,fun t2 ht2=>?_⟩;refine⟨t2,w2.map V.str,rfl,.inr (SqT.of pE),rfl,bw _,_,rfl,?_⟩;rw[bH];have s9:ai H7 (upd H8 t2 (.tup [V.str "let",V.str "var",V.str "each"])):=s8.trans (smu ht2);generalize upd H8 t2 (.tup [V.str "let",V.str "var",V.str "each"])=H9 at s9 ⊢;by_cases e2:hd'="each"
    · refine pJ (by rw[e2];decide +kernel) ?_;obtain⟨x,a',b',rfl⟩:=he e2;cases nod with
      | each _ _ _ =>
       obtain⟨j,hj⟩:=hb3 x mCS;refine two "each" x j [k0 ks',k1 ks'] inn kv3 s9 te (by show 2≤8;decide) hi7 hj ?_ (i:=3) rfl rfl;show aQ (gOf kv3 x) _ _=_;rw[jF hj];rfl
    · obtain⟨r1,r2⟩:=hn e2;exact pI (by rw[r2];decide) ⟨_,rfl,fin _ _ s9 (by rw[← r1];exact te.same s9)⟩
   cases nod with
   | name x =>
    cases ed';refine pJ (by decide +kernel) ?_;obtain⟨j,hj⟩:=hM x (hnm x rfl);refine two "name" x j [] di kvs s8 te (by show 0≤8;decide) hdi7 hj ?_ (i:=1) rfl rfl;show nam (gOf kvs x)=_;rw[jF hj];rfl
   | num i=>cases ed';exact pI (by decide +kernel) (bQ (by decide +kernel) (fun z=>absurd z (by decide +kernel)) fun _=>⟨rfl,by decide +kernel⟩)
   | op s es=>cases ed';exact pI (by decide +kernel) (bQ (by decide +kernel) (fun z=>absurd z (by decide +kernel)) fun _=>⟨rfl,by decide +kernel⟩)
   | new s es=>cases ed';exact pI (by decide +kernel) (bQ (by decide +kernel) (fun z=>absurd z (by decide +kernel)) fun _=>⟨rfl,by decide +kernel⟩)
   | doo es=>cases ed';exact pI (by decide +kernel) (bQ (by decide +kernel) (fun z=>absurd z (by decide +kernel)) fun _=>⟨rfl,by decide +kernel⟩)
   | app r k=>cases ed';exact pI (by decide +kernel) (bQ (by decide +kernel) (fun z=>absurd z (by decide +kernel)) fun _=>⟨rfl,by decide +kernel⟩)
   | get r k a=>cases ed';exact pI (by decide +kernel) (bQ (by decide +kernel) (fun z=>absurd z (by decide +kernel)) fun _=>⟨rfl,by decide +kernel⟩)
   | say a=>cases ed';exact pI (by decide +kernel) (bQ (by decide +kernel) (fun z=>absurd z (by decide +kernel)) fun _=>⟨rfl,by decide +kernel⟩)
   | ife a b c=>cases ed';exact pI (by decide +kernel) (bQ (by decide +kernel) (fun z=>absurd z (by decide +kernel)) fun _=>⟨rfl,by decide +kernel⟩)
   | each x a b=>cases ed';exact pI (by decide +kernel) (bQ (by decide +kernel) (fun _=>⟨x,a,b,rfl⟩) fun z=>absurd rfl z)
   | fn _ b h3=>cases ed';exact absurd rfl e1
theorem vJ (D:Def K mg "_law_canon" sCn) (T:Blt mg) (td:mg "dict"=none) (du:Fn P w K mg base "_law_binds" 1 ["_law_e"] (rQ K)) (cB:Fn P w K mg base "_law_children" 1 ["_law_e"] (mh K)) (e9:Fn P w K mg base "_law_with" 1 ["_law_e","_law_children_here"] (rO K)):∀ n,Fn P w K mg base "_law_canon" (n+2) mH (me K n):=by
 intro n
 induction n with
 | zero=>exact sG D
 | succ n ih=>exact sE D T td du cB e9 ih
end
end K20
namespace L2
open PySem PySem.Spec PyProof.Rows
end L2
namespace K20
open PySem L2 P10
section
variable {P:Program} {w:World} {K:Fg} {mg:SOV} {base:Heap}
abbrev sFu:Stmt:=top 56
abbrev nFu:List Str:=["_law_head","_law_count","_law_body","_law_ids","_law_k"]
inductive qY (K:Fg) (vs:List V) (H:Hp) (Q:VK):Prop
  | mk (v:V) (d:PyData) (h0:vs=[.str "open",.int 0,v]) (h1:TD K H v d) (h2:Gr 6 [] d) (q:∀ v' d' H',ai H H'→TD K H' v' (fnO d')→Cn 6 (gOf []) d d'→Q v' H'):qY K vs H Q
def uq (K:Fg):Sp:=fun vs H Q _=>qY K vs H Q
theorem vE (D:Def K mg "_law_function" sFu) (T:Blt mg) (dr:Fn P w K mg base "_law_canon" 8 mH (me K 6)):Fn P w K mg base "_law_function" 9 ["_law_head","_law_count","_law_body"] (uq K):=by
 have nd:(nFu:List Str).Nodup:=by decide +kernel
 refine D.fn (N:=nFu) ⟨rfl,rfl,rfl,nd,rfl,by decide +kernel,by decide +kernel⟩ (fun vs H Q E h=>?_) (fun _ _ _ _ _ _ us hl=>by obtain⟨a,b,d,rfl⟩:=dU hl;rfl) (fun f' cdv A outer s' H vs Q E hr h=>?_)
 · obtain⟨v,d,rfl,_⟩:=h;rfl
 · obtain⟨v,d,rfl,tv,gr,q⟩:=h;have hu:=nj hr;refine⟨_,(pD (pL (i:=3) nd rfl (Or.inl rfl) mM)
 (pD (bS PassesOwn.never rfl (bZ rfl T.range (pA (pv 1) pB)) (ar (i:=4) nd rfl (Or.inl rfl))
 (pG (ig hu (pv 3) (pv 4) (pv 4) rfl)))
 (pG (af (aa (pA (pv 0) (pA (pv 1) (pA (ao dr (hr.mono (by decide)) rfl (pA (pv 2) (pA (pv 3) (pA (kD (eE pC (pv 1) ky) rfl rfl (by simp) (by decide)) pB)))) pB)))))))),?_⟩
   refine ac fun ik ee=>?_;refine fun di hdi=>ee _ _ (ac fun kJ gw=>?_);have s1:=smu (o:=HO.dK []) hdi;have hd1:(upd H di (.dK [])) di=some (.dK []):=pE;generalize upd H di (.dK [])=H1 at s1 hd1 ⊢;refine⟨_,rfl,_,rfl,by decide,by decide,?_⟩;show az _ _ _ _ _ _;rw[show (0:Int).toNat=0 from rfl];refine az.byN (bN (n:=0)) (fun j σ Hj=>Hj=H1∧σ=[some (.str "open"),some (.int 0),some v,some (.ref di),none]) ⟨rfl,rfl⟩ (fun _ _ _ _ _=>trivial) (fun i x σ Hi N B _ _ hx _=>absurd ((gES.mp hx).1) (by rw[bz];omega)) ?_;rintro σ Hj ⟨rfl,rfl⟩;refine gw _ _ ?_;refine⟨_,rfl,_,rfl,_,rfl,_,rfl,fun dl hdl=>⟨_,rfl,pE,[(.inr "next",.int 0)],rfl,by show 1≤15;decide,?_⟩⟩;have e1:dh [] [((.inr "next":Key),V.int 0)]=[((.inr "next":Key),V.int 0)]:=by simp[dh,bp]
   rw[e1];have s2:ai Hj (upd (upd Hj dl (.dK [])) dl (.dK [((.inr "next":Key),V.int 0)])):=fun a z e=>by
    have ne:=ah e hdl;rw[a0 ne,a0 ne];exact e
   have S2:=s1.trans s2;have hdl2:(upd (upd Hj dl (.dK [])) dl (.dK [((.inr "next":Key),V.int 0)])) dl=some (il 0):=pE;have nd':di≠dl:=ah hd1 hdl;have dlH:H dl=none:=by
    cases e:H dl with
    | none=>rfl
    | some u=>rw[s1 _ _ e] at hdl;cases hdl
   refine .mk v di dl d [] [] 0 rfl (tv.same S2) gr (s2 _ _ hd1) (fun x hx=>(by cases hx)) (by decide) hdl2 nd' fun v' d' nx' H' kd hd' tv' cn=>?_;refine⟨fN,fun p hp=>?_⟩;have s3:=smu (o:=HO.tup [.str "open",.int 0,v']) hp;refine q _ d' _ (fun a u e=>s3 _ _ (kd.kp a u (ah e dlH) (S2 _ _ e))) (td3 (.str "open") (.int 0) tv' hp) cn
def rY (ds:List Lk) (tg:Str) (d2:PyData):PyData:=.tuple [.list (ds.map lkD),.tuple [.str tg,d2]]
theorem pZ {H:Hp} {us:List V} {ds:List Lk} (h:Paired (LkV K H) us ds):eV K H us (ds.map lkD):=by
 induction h with
 | nil=>exact .nil
 | cons z _ ih=>exact .cons z.dat ih
theorem iA.dat {H:Hp} {r:Addr} {ds:List Lk} {tg:Str} {d2:PyData} (h:iA K H r ds tg d2):c8 K H (.ref r) (rY ds tg d2):=by
 obtain⟨da,pe,us,v2,h1,h2,h3,h4,h5,h6⟩:=h;exact .tup h1 (.cons (.lst (SqL.of h2) (pZ h3)) (.cons (.tup h4 (.cons (.str tg) (.cons h5 .nil))) .nil))
theorem Ty3.same {H H':Hp} {v:V} (h:Ty3 K H v) (s:ai H H'):Ty3 K H' v:=by
 cases h with
 | mk h ht =>
  refine .mk (t:=_) ?_ ht;cases h with
  | int i=>exact .int i
  | bl b=>exact .bl b
  | str x=>exact .str x
  | tup h=>exact .tup (h.tk s.tk)
theorem iA.same {H H':Hp} {r:Addr} {ds:List Lk} {tg:Str} {d2:PyData} (h:iA K H r ds tg d2) (s:ai H H'):iA K H' r ds tg d2:=by
 obtain⟨da,pe,us,v2,h1,h2,h3,h4,h5,h6⟩:=h;exact⟨da,pe,us,v2,h1.tk s.tk,s _ _ h2,aq h3 fun _ _ z=>z.fr (.of (A:=⟨0,0,0,0,0,.non⟩) s),h4.tk s.tk,h5.same s,h6.same s⟩
theorem fL {ds:PDs} (h:∀ x∈ds,x.canLay0=true):PyData.canLayAll0 ds=true:=by
 induction ds with
 | nil=>rfl
 | cons d r ih =>
  show (d.canLay0&&PyData.canLayAll0 r)=true;rw[h d mCS,ih fun x hx=>h x (mCM _ hx)];rfl
theorem fM {ds:PDs} {n:Nat} (h:∀ x∈ds,x.depth≤n):PyData.depthAll ds≤n:=by
 induction ds with
 | nil=>exact Nat.zero_le _
 | cons d r ih =>
  show max d.depth (PyData.depthAll r)≤n;have:=h d mCS;have:=ih fun x hx=>h x (mCM _ hx);lia
inductive fF:PyData→Prop
  | int (i:Int):fF (.int i)
  | str {s:Str} (h:(PyData.str s).canLay0=true):fF (.str s)
  | tup (is:List Int):fF (.tuple (is.map .int))
theorem iq (x:Lk):fF (lkD x):=by
 cases x with
 | int i=>exact .int i
 | tup is=>exact .tup is
 | thing=>exact .str (by decide +kernel)
theorem fF.ok {d:PyData} (h:fF d):d.canLay0=true∧d.depth≤1:=by
 cases h with
 | int i=>exact⟨rfl,Nat.zero_le _⟩
 | str h=>exact⟨h,Nat.zero_le _⟩
 | tup is =>
  have h1:∀ x∈is.map PyData.int,x.canLay0=true:=fun x hx=>by obtain⟨i,_,rfl⟩:=List.mem_map.mp hx;rfl
  have h2:∀ x∈is.map PyData.int,x.depth≤0:=fun x hx=>by obtain⟨i,_,rfl⟩:=List.mem_map.mp hx;exact Nat.le_refl _
  simp only[PyData.canLay0,PyData.depth];exact⟨fL h1,by have:=fM h2;omega⟩
theorem jl {ds:List Lk} {tg:Str} {d2:PyData} (h:fF d2) (ht:(PyData.str tg).canLay0=true):SeqAt.shaped (rY ds tg d2)=true:=by
 have h1:∀ x∈ds.map lkD,x.canLay0=true:=fun x hx=>by obtain⟨i,_,rfl⟩:=List.mem_map.mp hx;exact (iq i).ok.1
 have h2:∀ x∈ds.map lkD,x.depth≤1:=fun x hx=>by obtain⟨i,_,rfl⟩:=List.mem_map.mp hx;exact (iq i).ok.2
 obtain⟨l1,l2⟩:=h.ok;have a1:(PyData.list (ds.map lkD)).canLay0=true∧(PyData.list (ds.map lkD)).depth≤2:=by
  simp only[PyData.canLay0,PyData.depth];exact⟨fL h1,by have:=fM h2;omega⟩
 have a2:(PyData.tuple [.str tg,d2]).canLay0=true∧(PyData.tuple [.str tg,d2]).depth≤2:=by
  have g1:∀ x∈[PyData.str tg,d2],x.canLay0=true:=fun x hx=>by
   rcases List.mem_cons.mp hx with rfl | hx
   · exact ht
   · rw[mSg.mp hx];exact l1
  have g2:∀ x∈[PyData.str tg,d2],x.depth≤1:=fun x hx=>by
   rcases List.mem_cons.mp hx with rfl | hx
   · exact Nat.zero_le _
   · rw[mSg.mp hx];exact l2
  simp only[PyData.canLay0,PyData.depth];exact⟨fL g1,by have:=fM g2;omega⟩
 have b1:∀ x∈[PyData.list (ds.map lkD),.tuple [.str tg,d2]],x.canLay0=true:=fun x hx=>by
  rcases List.mem_cons.mp hx with rfl | hx
  · exact a1.1
  · rw[mSg.mp hx];exact a2.1
 have b2:∀ x∈[PyData.list (ds.map lkD),.tuple [.str tg,d2]],x.depth≤2:=fun x hx=>by
  rcases List.mem_cons.mp hx with rfl | hx
  · exact a1.2
  · rw[mSg.mp hx];exact a2.2
 unfold SeqAt.shaped rY;rw[Bool.and_eq_true,decide_eq_true_eq];simp only[PyData.canLay0,PyData.depth];exact⟨fL b1,by have:=fM b2;omega⟩
def fh (d:PyData) (ds:List Lk) (tg:Str) (d2:PyData):Prop:=∀ d',Cn 6 (gOf []) d d'→∃ n S,Run n (S0 d') S∧End S tg d2∧S.D=ds
abbrev sIr:Stmt:=top 57
abbrev nIr:List Str:=["_law_body","_law_due","_law_core","_law_found"]
inductive nU (K:Fg) (vs:List V) (H:Hp) (Q:VK):Prop
  | mk (v:V) (r:Addr) (d:PyData) (ds:List Lk) (tg:Str) (d2:PyData) (h0:vs=[v,.ref r]) (h1:TD K H v d) (h2:Gr 6 [] d) (h3:iA K H r ds tg d2) (h4:fh d ds tg d2) (h5:fF d2) (h6:(PyData.str tg).canLay0=true) (q:∀ H',ai H H'→Q (.bl true) H'):nU K vs H Q
def um (K:Fg):Sp:=fun vs H Q _=>nU K vs H Q
theorem pc {H:Hp} {Q:VK} {x y:V} {d:PyData} (h1:c8 K H x d) (h2:c8 K H y d) (hs:SeqAt.shaped d=true) (q:Q (.bl false) H):uN K x y H Q:=⟨d,d,h1,h2,hs,hs,by rw[SeqAt.eqv_refl _ (SeqAt.canLay_of_shaped hs)];exact q⟩
structure Kb (K:Fg):Prop where
  tt:PySem.W.kitOne K (.type "tuple") (.type "tuple")=some true
  nb:∀ t∈(["int","tuple","str"]:List String),PySem.W.kitOne K (.type t) (.type "bool")=some false
theorem vC (D:Def K mg "_law_is_run" sIr) (T:Blt mg) (hbool:mg "bool"=none) (kb:Kb K) (gm:Fn P w K mg base "_law_function" 9 ["_law_head","_law_count","_law_body"] (uq K)) (wz:Fn P w K mg base "run" 7 ["core","name","values","bound"] (ue K)):Fn P w K mg base "_law_is_run" 10 ["_law_body","_law_due"] (um K):=by
 have nd:(nIr:List Str).Nodup:=by decide +kernel
 refine D.fn (N:=nIr) ⟨rfl,rfl,rfl,nd,rfl,by decide +kernel,by decide +kernel⟩ (fun vs H Q E h=>?_) (fun _ _ _ _ _ _ us hl=>by obtain⟨a,b,rfl⟩:=dW hl;rfl) (fun f' cdv A outer s' H vs Q E hr h=>?_)
 · obtain⟨v,r,d,ds,tg,d2,rfl,_⟩:=h;rfl
 · obtain⟨v,r,d,ds,tg,d2,rfl,tv,gr,rv,good,f2,ht,q⟩:=h;refine⟨_,(@pD _ _ _ _ _ (@pL _ _ 2 _ _ _ _ nd rfl (Or.inl rfl) (@aa _ _ _ _ _ (@pA _ _ _ _ _ (@aa _ _ _ _ _ (@pA _ _ _ _ _ (ao gm (hr.mono (by decide)) rfl (pA pC (pA pF (pA (pv 0) pB)))) pB (by rfl))) (@pA _ _ _ _ _ (@aa _ _ _ _ _ (@pA _ _ _ _ _ pF (@pA _ _ _ _ _ pF pB (by rfl)) (by rfl))) (@pA _ _ _ _ _ (@aa _ _ _ _ _ (@pA _ _ _ _ _ (@aa _ _ _ _ _ (@pA _ _ _ _ _ pC (@pA _ _ _ _ _ pF pB (by rfl)) (by rfl))) pB (by rfl))) pB (by rfl)) (by rfl)) (by rfl))) (by rfl) (by exact Or.inl rfl))
 (@pD _ _ _ _ _ (@pL _ _ 3 _ _ _ _ nd rfl (Or.inl rfl) (ao wz (hr.mono (by decide)) rfl (pA (pv 2) (pA pC (pA (aU pB) (pA pF pB))))) (by rfl) (by exact Or.inl rfl))
 (@pD _ _ _ _ _ (aw (PW.pt (gP (eY (cH (gv T.isinstance (pA (pv 3) (pA (dB (v:=.ty "tuple") rfl T.tuple (u:=.type "tuple") (by decide +kernel) rfl) pB))))) (fV (pM (sA hr.units) (pv 3) (pv 1) (pN _))))) (pG (af fY)) aj)
 (pG (af (sr (gv T.isinstance (pA (ab ae (ab ae (pv 3) pF (fun _ _=>rfl)) (fo d3 pF) (fun _ _=>rfl)) (pA (dB (v:=.ty "bool") rfl hbool jQ rfl) pB))))))))),?_⟩
   refine ac fun ik ee=>?_;refine⟨_,rfl,v,d,rfl,tv,gr,fun v1 d' H1 s1 t1 cn=>?_⟩;refine⟨jd,fun p1 hp1=>⟨bA,fun p2 hp2=>⟨bA,fun p3 hp3=>⟨jd,fun p4 hp4=>⟨fN,fun p5 hp5=>?_⟩⟩⟩⟩⟩;have a1:TD K _ (.ref p1) (.tuple [fnO d']):=.tup (SqT.of pE) (.cons (t1.same (smu hp1)) .nil);have a2:=td2 (K:=K) (.int 1) (.int 1) hp2;have a3:=td2 (K:=K) (.str "main") (.int 0) hp3;have a4:TD K _ (.ref p4) (.tuple [.tuple [.str "main",.int 0]]):=.tup (SqT.of pE) (.cons (a3.same (smu hp4)) .nil);have a5:TD K _ (.ref p5) (nM d'):=td3 (((a1.same (smu hp2)).same (smu hp3)).same (smu hp4)) ((a2.same (smu hp3)).same (smu hp4)) a4 hp5;have S5:=s1.trans ((((smu (o:=HO.tup [v1]) hp1).trans (smu (o:=HO.tup [.int 1,.int 1]) hp2)).trans (smu (o:=HO.tup [.str "main",.int 0]) hp3)).trans ((smu (o:=HO.tup [.ref p3]) hp4).trans (smu (o:=HO.tup [.ref p1,.ref p2,.ref p4]) hp5)));refine ee _ _ (ac fun kJ gw=>?_);generalize upd _ p5 _=H5 at a5 S5 ⊢;refine⟨_,rfl,i7,fun l hl=>?_⟩;have s6:=smu (o:=HO.lst []) hl;obtain⟨n,S,rn,en,rfl⟩:=good d' cn;refine .mk (.ref p5) l d' n S tg d2 rfl (a5.same s6) pE rn en fun r' H7 s7 rv'=>?_;have S7:=(S5.trans s6).trans s7;refine gw _ _ (ac fun pf iW=>?_);have dv:=rv'.dat;have dv2:=(rv.same S7).dat;obtain⟨da,pe,us,v2,g1,g2,g3,g4,g5,g6⟩:=rv';refine⟨_,rfl,.one (.ref r') _ _ _ _ rfl (.ty "tuple") (.tup g1) kb.tt ⟨_,rfl,aP ?_⟩⟩;refine⟨_,rfl,_,rfl,pc dv dv2 (jl f2 ht) ⟨_,rfl,aP (iW _ _ ?_)⟩⟩;cases g6 with
   | @mk t ty ht3 =>
    refine⟨_,rfl,r',_,_,_,rfl,rfl,g1,eR,_,rfl,pe,_,_,_,rfl,rfl,g4,rfl,.one v2 _ _ _ _ rfl (.ty "bool") ty (kb.nb t ht3) ⟨_,rfl,q _ S7⟩⟩
end
def hdS:PyData→Str
  | .tuple (.str h::_)=>h
  | _=>""
theorem kH {i:Int} {ks:PDs} {rb:Rb} {bi:List Int} (h:Nod (num i) ks rb bi):ks=[]∧rb=fun _ _ _=>num i:=by
 generalize e:num i=d at h;cases h with
 | num i'=>simp only[num,PyData.tuple.injEq,List.cons.injEq,PyData.int.injEq,and_true,true_and] at e;subst e;exact⟨rfl,rfl⟩
 | _ =>
  have z:=congrArg hdS e;simp only[hdS,num,nam,opE,cX,doE,aI,ifE,ck,cD,aQ,cZ] at z;exact absurd z (by decide +kernel)
theorem oY {i:Int} {ks:PDs} {rb:Rb} {bi:List Int} (h:Nod (nam i) ks rb bi):ks=[]∧rb=fun g _ _=>nam (g i):=by
 generalize e:nam i=d at h;cases h with
 | name i'=>simp only[nam,PyData.tuple.injEq,List.cons.injEq,PyData.int.injEq,and_true,true_and] at e;subst e;exact⟨rfl,rfl⟩
 | _ =>
  have z:=congrArg hdS e;simp only[hdS,num,nam,opE,cX,doE,aI,ifE,ck,cD,aQ,cZ] at z;exact absurd z (by decide +kernel)
theorem jw {s:Str} {es ks:PDs} {rb:Rb} {bi:List Int} (h:Nod (opE s es) ks rb bi):ks=es∧rb=fun _ _ ks=>opE s ks:=by
 generalize e:opE s es=d at h;cases h with
 | op s' es'=>simp only[opE,PyData.tuple.injEq,List.cons.injEq,PyData.str.injEq,and_true,true_and] at e;obtain⟨rfl,rfl⟩:=e;exact⟨rfl,rfl⟩
 | _ =>
  have z:=congrArg hdS e;simp only[hdS,num,nam,opE,cX,doE,aI,ifE,ck,cD,aQ,cZ] at z;exact absurd z (by decide +kernel)
theorem oX {r:Int} {es ks:PDs} {rb:Rb} {bi:List Int} (h:Nod (cX r es) ks rb bi):ks=es∧rb=fun _ _ ks=>cX r ks:=by
 generalize e:cX r es=d at h;cases h with
 | new s' es'=>simp only[cX,PyData.tuple.injEq,List.cons.injEq,PyData.int.injEq,and_true,true_and] at e;obtain⟨rfl,rfl⟩:=e;exact⟨rfl,rfl⟩
 | _ =>
  have z:=congrArg hdS e;simp only[hdS,num,nam,opE,cX,doE,aI,ifE,ck,cD,aQ,cZ] at z;exact absurd z (by decide +kernel)
theorem sP {es ks:PDs} {rb:Rb} {bi:List Int} (h:Nod (doE es) ks rb bi):ks=es∧rb=fun _ _ ks=>doE ks:=by
 generalize e:doE es=d at h;cases h with
 | doo es'=>simp only[doE,PyData.tuple.injEq,List.cons.injEq,and_true,true_and] at e;subst e;exact⟨rfl,rfl⟩
 | _ =>
  have z:=congrArg hdS e;simp only[hdS,num,nam,opE,cX,doE,aI,ifE,ck,cD,aQ,cZ] at z;exact absurd z (by decide +kernel)
theorem kG {a:PyData} {ks:PDs} {rb:Rb} {bi:List Int} (h:Nod (aI a) ks rb bi):ks=[a]∧rb=fun _ _ ks=>aI (k0 ks):=by
 generalize e:aI a=d at h;cases h with
 | say a'=>simp only[aI,PyData.tuple.injEq,List.cons.injEq,and_true,true_and] at e;subst e;exact⟨rfl,rfl⟩
 | _ =>
  have z:=congrArg hdS e;simp only[hdS,num,nam,opE,cX,doE,aI,ifE,ck,cD,aQ,cZ] at z;exact absurd z (by decide +kernel)
theorem sN {a b c:PyData} {ks:PDs} {rb:Rb} {bi:List Int} (h:Nod (ifE a b c) ks rb bi):ks=[a,b,c]∧rb=fun _ _ ks=>ifE (k0 ks) (k1 ks) (k2 ks):=by
 generalize e:ifE a b c=d at h;cases h with
 | ife a' b' c'=>simp only[ifE,PyData.tuple.injEq,List.cons.injEq,and_true,true_and] at e;obtain⟨rfl,rfl,rfl⟩:=e;exact⟨rfl,rfl⟩
 | _ =>
  have z:=congrArg hdS e;simp only[hdS,num,nam,opE,cX,doE,aI,ifE,ck,cD,aQ,cZ] at z;exact absurd z (by decide +kernel)
theorem oZ {r k:Int} {a:PyData} {ks:PDs} {rb:Rb} {bi:List Int} (h:Nod (ck r k a) ks rb bi):ks=[a]∧rb=fun _ _ ks=>ck r k (k0 ks):=by
 generalize e:ck r k a=d at h;cases h with
 | get a' b' c'=>simp only[ck,PyData.tuple.injEq,List.cons.injEq,PyData.int.injEq,and_true,true_and] at e;obtain⟨rfl,rfl,rfl⟩:=e;exact⟨rfl,rfl⟩
 | _ =>
  have z:=congrArg hdS e;simp only[hdS,num,nam,opE,cX,doE,aI,ifE,ck,cD,aQ,cZ] at z;exact absurd z (by decide +kernel)
theorem pb {f:PyData} {es ks:PDs} {rb:Rb} {bi:List Int} (h:Nod (cD f es) ks rb bi):ks=f::es∧rb=fun _ _ ks=>cD (k0 ks) ks.tail:=by
 generalize e:cD f es=d at h;cases h with
 | app a' b'=>simp only[cD,PyData.tuple.injEq,List.cons.injEq,and_true,true_and] at e;obtain⟨rfl,rfl⟩:=e;exact⟨rfl,rfl⟩
 | _ =>
  have z:=congrArg hdS e;simp only[hdS,num,nam,opE,cX,doE,aI,ifE,ck,cD,aQ,cZ] at z;exact absurd z (by decide +kernel)
theorem mV {x:Int} {a b:PyData} {ks:PDs} {rb:Rb} {bi:List Int} (h:Nod (aQ x a b) ks rb bi):ks=[a,b]∧rb=fun _ g' ks=>aQ (g' x) (k0 ks) (k1 ks):=by
 generalize e:aQ x a b=d at h;cases h with
 | each a' b' c'=>simp only[aQ,PyData.tuple.injEq,List.cons.injEq,PyData.int.injEq,and_true,true_and] at e;obtain⟨rfl,rfl,rfl⟩:=e;exact⟨rfl,rfl⟩
 | _ =>
  have z:=congrArg hdS e;simp only[hdS,num,nam,opE,cX,doE,aI,ifE,ck,cD,aQ,cZ] at z;exact absurd z (by decide +kernel)
theorem iU:∀ {a b:List Int},a.map PyData.int=b.map PyData.int→a=b:=by
 intro a
 induction a with
 | nil=>intro b h;cases b with
  | nil=>rfl
  | cons y r=>cases h
 | cons x r ih=>intro b h;cases b with
  | nil=>cases h
  | cons y q =>
   simp only[List.map_cons,List.cons.injEq,PyData.int.injEq] at h;rw[h.1,ih h.2]
theorem sO {ids:List Int} {b:PyData} {ks:PDs} {rb:Rb} {bi:List Int} (h:Nod (cZ ids b) ks rb bi):ks=[b]∧rb=fun _ g' ks=>cZ (ids.map g') (k0 ks):=by
 generalize e:cZ ids b=d at h;cases h with
 | fn a' b' _ =>
  simp only[cZ,PyData.tuple.injEq,List.cons.injEq,and_true,true_and] at e;obtain⟨e1,rfl⟩:=e;rw[iU e1];exact⟨rfl,rfl⟩
 | _ =>
  have z:=congrArg hdS e;simp only[hdS,num,nam,opE,cX,doE,aI,ifE,ck,cD,aQ,cZ] at z;exact absurd z (by decide +kernel)
inductive ThS:Th→Th→Prop
  | num (i:Int):ThS (.num i) (.num i)
  | row (is:List Int):ThS (.row is) (.row is)
  | new (r i:Int):ThS (.new r i) (.new r i)
  | fn {a b:List Int} (h:a.length=b.length):ThS (.fn a) (.fn b)
theorem jM {n:Nat} {g:Int→Int} {i:Int} {d':PyData} (h:Cn n g (num i) d'):d'=num i:=by
 cases n with
 | zero=>exact h.elim
 | succ n =>
  obtain⟨ks,rb,bi,ks',g',nod,ag,hl,hk,rfl⟩:=h;obtain⟨rfl,rfl⟩:=kH nod;rfl
theorem iw {n:Nat} {g:Int→Int}:∀ {is:List Int} {ks':PDs},ks'.length=(is.map num).length→(∀ (k:Nat) (x x':PyData),(is.map num)[k]?=some x→ks'[k]?=some x'→∃ g,Cn n g x x')→ks'=is.map num:=by
 intro is
 induction is with
 | nil=>intro ks' hl _;exact List.eq_nil_of_length_eq_zero hl
 | cons i r ih =>
  intro ks' hl hk;cases ks' with
  | nil=>cases hl
  | cons y q =>
   obtain⟨_,c⟩:=hk 0 _ _ rfl rfl;rw[jM c,ih (Nat.succ.inj hl) fun k x x' h1 h2=>hk (k+1) x x' h1 h2];rfl
theorem hV {n:Nat} {g:Int→Int} {t:Th} {d':PyData} (h:Cn n g (thD t) d'):∃ t',d'=thD t'∧ThS t t':=by
 cases n with
 | zero=>exact h.elim
 | succ n =>
  obtain⟨ks,rb,bi,ks',g',nod,ag,hl,hk,rfl⟩:=h;cases t with
  | num i=>obtain⟨rfl,rfl⟩:=kH nod;exact⟨.num i,rfl,.num i⟩
  | row is =>
   obtain⟨rfl,rfl⟩:=jw nod;have:=iw (g:=g) hl fun k x x' h1 h2=>⟨_,hk k x x' h1 h2⟩;subst this;exact⟨.row is,rfl,.row is⟩
  | new r i =>
   obtain⟨rfl,rfl⟩:=oX nod;have:=iw (g:=g) (is:=[i]) hl fun k x x' h1 h2=>⟨_,hk k x x' h1 h2⟩;subst this;exact⟨.new r i,rfl,.new r i⟩
  | fn ids =>
   obtain⟨rfl,rfl⟩:=sO nod;have:=iw (g:=g) (is:=[5]) hl fun k x x' h1 h2=>⟨_,hk k x x' h1 h2⟩;subst this;exact⟨.fn (ids.map g'),rfl,.fn (by rw[lMp])⟩
theorem ThS.ok {t t':Th} (h:ThS t t') (o:br t):br t':=by
 cases h with
 | num i=>exact o
 | row is=>exact o
 | new r i=>exact o
 | fn h=>cases o with
  | fn hl=>exact .fn (by omega)
theorem ThS.w {t t':Th} (h:ThS t t'):wth (vlT t')=wth (vlT t)∧lk (vlT t')=lk (vlT t)∧rwo (vlT t')=rwo (vlT t):=by
 cases h <;> exact⟨rfl,rfl,rfl⟩
theorem gi {n:Nat} {g g':Int→Int} {ks ks':PDs} (hl:ks'.length=ks.length) (hk:∀ k x x',ks[k]?=some x→ks'[k]?=some x'→Cn n (if k+1=ks.length then g' else g) x x') {k:Nat} {x:PyData} (hx:ks[k]?=some x):∃ x',ks'[k]?=some x'∧∃ g,Cn n g x x':=by
 have h1:=(gES.mp hx).1;have h2:k<ks'.length:=by omega
 have h3:ks'[k]?=some ks'[k]:=gEE h2;exact⟨_,h3,_,hk k x _ hx h3⟩
theorem jL {n:Nat} {g:Int→Int} {t:Th} {d':PyData} (h:Cn n g (aI (thD t)) d'):∃ t',d'=aI (thD t')∧ThS t t':=by
 cases n with
 | zero=>exact h.elim
 | succ n =>
  obtain⟨ks,rb,bi,ks',g',nod,ag,hl,hk,rfl⟩:=h;obtain⟨rfl,rfl⟩:=kG nod;obtain⟨x',h1,_,c⟩:=gi hl hk (k:=0) rfl;obtain⟨t',rfl,s⟩:=hV c;exact⟨t',by show aI (ks'[0]?.getD .none)=_;rw[h1];rfl,s⟩
theorem jK {n:Nat} {F:Th→PyData} {R:PyData→PyData→Prop} (hF:∀ {t d'},(∃ g,Cn n g (F t) d')→∃ t',d'=F t'∧ThS t t'):∀ {ts:List Th} {ks':PDs},ks'.length=(ts.map F).length→(∀ (k:Nat) (x x':PyData),(ts.map F)[k]?=some x→ks'[k]?=some x'→∃ g,Cn n g x x')→∃ ts',ks'=ts'.map F∧Paired ThS ts ts':=by
 intro ts
 induction ts with
 | nil=>intro ks' hl _;exact⟨[],List.eq_nil_of_length_eq_zero hl,.nil⟩
 | cons t r ih =>
  intro ks' hl hk;cases ks' with
  | nil=>cases hl
  | cons y q =>
   obtain⟨t',rfl,s⟩:=hF (hk 0 _ _ rfl rfl);obtain⟨ts',rfl,p⟩:=ih (Nat.succ.inj hl) fun k x x' h1 h2=>hk (k+1) x x' h1 h2;exact⟨t'::ts',rfl,.cons s p⟩
inductive Go:Nat→MS→MS→Prop
  | nil (S:MS):Go 0 S S
  | step {n:Nat} {S S1 S2:MS} (h:S.en=none) (st:Stp S S1) (r:Go n S1 S2):Go (n+1) S S2
theorem Go.trans {n m:Nat} {S S1 S2:MS} (a:Go n S S1) (b:Go m S1 S2):∃ k,Go k S S2:=by
 induction a with
 | nil=>exact⟨m,b⟩
 | step h st _ ih=>obtain⟨k,z⟩:=ih b;exact⟨k+1,.step h st z⟩
theorem Go.run {n:Nat} {S S':MS} (a:Go n S S') (h:S'.en≠none∨S'.W=[]):Run n S S':=by
 induction a with
 | nil=>exact .done h
 | step h0 st _ ih=>exact .step h0 st (ih h)
abbrev bg (d:PyData) (nm:Nm):Tsk:=⟨"begin",d,nm,0⟩
theorem jj {d:PyData} {ks:PDs} {rb:Rb} {bi:List Int} {hd:Str} {ps:PDs} {W:List Tsk} {T:List Vl} {D:List Lk} {k:Int} {nm:Nm} (nod:Nod d ks rb bi) (h8:ks.length≤8) (e:d=.tuple (.str hd::ps)) (hz:W.length≤100) {fs:PDs} (hf:dX hd ks=fs):Stp ⟨W++[bg d nm],T,D,none,k⟩ ⟨W++(⟨"finish",d,nm,fs.length⟩::bgs fs nm),T,D,none,k⟩:=by
 obtain⟨hd',sl,ps',nd,ek⟩:=mU nod h8;have e2:=nd.eq;rw[e] at e2;cases e2;have:=Stp.beg (S:=⟨W++[bg d nm],T,D,none,k⟩) (W:=W) (e:=d) (n:=nm) rfl nd hz;rw[ek,hf] at this;exact this
def Ev (b:Nat) (d:PyData) (nm:Nm) (v:Vl) (ls:List Lk):Prop:=∀ (W:List Tsk) (T:List Vl) (D:List Lk) (k:Int),W.length≤b→T.length≤b→D.length≤b→∃ n,Go n ⟨W++[bg d nm],T,D,none,k⟩ ⟨W,T++[v],D++ls,none,k⟩
theorem ff (i:Int) (nm:Nm):Ev 100 (num i) nm (.int i) []:=fun W T D k hw ht hd=>by
 refine⟨2,.step rfl (jj (.num i) (by decide) rfl hw (hf:=rfl)) (.step rfl ?_ (.nil _))⟩;rw[List.append_nil];exact Stp.fin (S:=⟨W++[⟨"finish",num i,nm,0⟩],T,D,none,k⟩) (W:=W) (T1:=T) (T2:=[]) (e:=num i) (n:=nm) (h:="number") (fn:="finish_number") (ok:=g9) (ps:=[.int i]) rfl (by simp) rfl (by unfold fps;simp) ⟨i,rfl,by show T.length<200;omega,rfl⟩
theorem pX (x:Int) (nm:Nm) (v:Vl) (h:nm.lookup x=some v):Ev 100 (nam x) nm v []:=fun W T D k hw ht hd=>by
 refine⟨2,.step rfl (jj (.name x) (by decide) rfl hw (hf:=rfl)) (.step rfl ?_ (.nil _))⟩;rw[List.append_nil];exact Stp.fin (S:=⟨W++[⟨"finish",nam x,nm,0⟩],T,D,none,k⟩) (W:=W) (T1:=T) (T2:=[]) (e:=nam x) (n:=nm) (h:="name") (fn:="finish_name") (ok:=ju) (ps:=[.int x]) rfl (by simp) rfl (by unfold fps;simp) ⟨x,v,rfl,h,by show T.length<200;omega,rfl⟩
theorem evs {b:Nat}:∀ {ts:List (PyData×Nm×Vl×List Lk)},(∀ t∈ts,Ev (b+20) t.1 t.2.1 t.2.2.1 t.2.2.2)→ts.length≤8→(∀ t∈ts,t.2.2.2.length≤1)→∀ (W:List Tsk) (T:List Vl) (D:List Lk) (k:Int),W.length+ts.length≤b+20→T.length+ts.length≤b+20→D.length+ts.length≤b+20 →
 ∃ n,Go n ⟨W++(ts.reverse.map fun t=>bg t.1 t.2.1),T,D,none,k⟩ ⟨W,T++ts.map (fun t=>t.2.2.1),D++(ts.map fun t=>t.2.2.2).flatten,none,k⟩:=by
 intro ts
 induction ts with
 | nil =>
  intro _ _ _ W T D k _ _ _;simp only[List.reverse_nil,List.map_nil,List.append_nil,List.flatten_nil];exact⟨0,.nil _⟩
 | cons t r ih =>
  intro he hl h1 W T D k hw ht hd;rw[List.length_cons] at hw ht hd hl;obtain⟨n,g⟩:=he t mCS (W++r.reverse.map fun t=>bg t.1 t.2.1) T D k (by simp only[lAp,lMp,List.length_reverse];omega) (by omega) (by omega);have l1:=h1 t mCS;obtain⟨m,g2⟩:=ih (fun x hx=>he x (mCM _ hx)) (by omega) (fun x hx=>h1 x (mCM _ hx)) W (T++[t.2.2.1]) (D++t.2.2.2) k (by omega) (by rw[lAp];show T.length+1+r.length≤_;omega) (by rw[lAp];omega);obtain⟨q,z⟩:=g.trans g2;refine⟨q,?_⟩;have e1:W++((t::r).reverse.map fun t=>bg t.1 t.2.1)=W++(r.reverse.map fun t=>bg t.1 t.2.1)++[bg t.1 t.2.1]:=by
   rw[List.reverse_cons,List.map_append,List.append_assoc];rfl
  have e2:T++(t::r).map (fun t=>t.2.2.1)=T++[t.2.2.1]++r.map (fun t=>t.2.2.1):=by rw[List.map_cons,List.append_assoc];rfl
  have e3:D++((t::r).map fun t=>t.2.2.2).flatten=D++t.2.2.2++(r.map fun t=>t.2.2.2).flatten:=by rw[List.map_cons,List.flatten_cons,List.append_assoc]
  rw[e1,e2,e3];exact z
theorem evl {b:Nat} {nm:Nm} {ds:PDs} {vs:List Vl} {ls:List (List Lk)} {ts:List (PyData×Nm×Vl×List Lk)} (h:ts.map (fun t=>t.1)=ds) (hn:∀ t∈ts,t.2.1=nm) (hv:ts.map (fun t=>t.2.2.1)=vs) (hs:ts.map (fun t=>t.2.2.2)=ls) (he:∀ t∈ts,Ev (b+20) t.1 t.2.1 t.2.2.1 t.2.2.2) (hl:ts.length≤8) (h1:∀ t∈ts,t.2.2.2.length≤1) (W:List Tsk) (T:List Vl) (D:List Lk) (k:Int) (hw:W.length+ts.length≤b+20) (ht:T.length+ts.length≤b+20) (hd:D.length+ts.length≤b+20) :
 ∃ n,Go n ⟨W++bgs ds nm,T,D,none,k⟩ ⟨W,T++vs,D++ls.flatten,none,k⟩:=by
 have:=evs he hl h1 W T D k hw ht hd;rw[hv,hs] at this;have e:(ts.reverse.map fun t=>bg t.1 t.2.1)=bgs ds nm:=by
  unfold bgs;rw[← h,← List.map_reverse,List.map_map];apply List.map_congr_left;intro t ht;show bg t.1 t.2.1=bg t.1 nm;rw[hn t (List.mem_reverse.mp ht)]
 rw[e] at this;exact this
theorem cT {b:Nat} {d:PyData} {nm:Nm} {ks:PDs} {rb:Rb} {bi:List Int} {hd:Str} {ps:PDs} (nod:Nod d ks rb bi) (h8:ks.length≤8) (e:d=.tuple (.str hd::ps)) {fs:PDs} (hf:dX hd ks=fs) {vs:List Vl} {ls:List (List Lk)} {ts:List (PyData×Nm×Vl×List Lk)} (h:ts.map (fun t=>t.1)=fs) (hn:∀ t∈ts,t.2.1=nm) (hv:ts.map (fun t=>t.2.2.1)=vs) (hs:ts.map (fun t=>t.2.2.2)=ls) (he:∀ t∈ts,Ev (b+20) t.1 t.2.1 t.2.2.1 t.2.2.2) (h1:∀ t∈ts,t.2.2.2.length≤1) (hb:b≤80)
 (W:List Tsk) (T:List Vl) (D:List Lk) (k:Int) (hw:W.length≤b) (ht:T.length≤b) (hd':D.length≤b) {fn:Str} {ok:Fin} (hm:(hd,fn,ok)∈fps) {S':MS} (hok:ok d nm vs ⟨W,T,D++ls.flatten,none,k⟩ S'):∃ n,Go n ⟨W++[bg d nm],T,D,none,k⟩ S':=by
 have fl:ts.length=fs.length:=by rw[← h,lMp]
 have f8:fs.length≤8:=by
  rw[← hf];unfold dX;split
  · decide
  · split
    · rw[lTk];omega
    · exact h8
 have vl:vs.length=fs.length:=by rw[← hv,lMp,fl]
 obtain⟨n,g⟩:=evl h hn hv hs he (by omega) h1 (W++[⟨"finish",d,nm,fs.length⟩]) T D k (by rw[lAp];show W.length+1+_≤_;omega) (by omega) (by omega);have s1:=jj (W:=W) (T:=T) (D:=D) (k:=k) (nm:=nm) nod h8 e (by omega) hf;have e1:W++(⟨"finish",d,nm,fs.length⟩::bgs fs nm)=W++[⟨"finish",d,nm,fs.length⟩]++bgs fs nm:=by rw[List.append_assoc];rfl
 rw[e1] at s1;have s2:Stp ⟨W++[⟨"finish",d,nm,fs.length⟩],T++vs,D++ls.flatten,none,k⟩ S':=by
  refine Stp.fin (W:=W) (T1:=T) (T2:=vs) (e:=d) (n:=nm) ?_ rfl e hm hok;show W++[_]=W++[_];rw[vl]
 obtain⟨m,z⟩:=g.trans (.step rfl s2 (.nil _));exact⟨m+1,.step rfl s1 z⟩
theorem Ev.le {b b':Nat} {d:PyData} {nm:Nm} {v:Vl} {ls:List Lk} (h:Ev b d nm v ls) (l:b'≤b):Ev b' d nm v ls:=fun W T D k hw ht hd=>h W T D k (by omega) (by omega) (by omega)
theorem dD {hd:Str} {ks:PDs} (h1:hd≠"fun") (h2:c7 hd wI=false):dX hd ks=ks:=by
 unfold dX;rw[if_neg h1,if_neg (by rw[h2];decide)]
theorem nz {α β:Type} {l:List α}:(l.map fun _=>([]:List β)).flatten=[]:=by
 induction l with
 | nil=>rfl
 | cons x r ih=>rw[List.map_cons,List.flatten_cons,ih];rfl
theorem nD {b:Nat} {s:Str} {nm:Nm} {es:PDs} {ts:List (PyData×Nm×Vl×List Lk)} (h:ts.map (fun t=>t.1)=es) (hn:∀ t∈ts,t.2.1=nm) (he:∀ t∈ts,Ev (b+20) t.1 t.2.1 t.2.2.1 t.2.2.2) (h0:∀ t∈ts,t.2.2.2=[]) (hb:b≤80) (hl:es.length≤8) (oa:OpA s (ts.map fun t=>t.2.2.1)) (W:List Tsk) (T:List Vl) (D:List Lk) (k:Int) (hw:W.length≤b) (ht:T.length≤b) (hd:D.length≤b) :
 ∃ n,Go n ⟨W++[bg (opE s es) nm],T,D,none,k⟩ (match opF s (ts.map fun t=>t.2.2.1) with | none=>tel ⟨W,T,D,none,k⟩ (opV s (ts.map fun t=>t.2.2.1)) | some f=>flt ⟨W,T,D,none,k⟩ f):=by
 refine cT (.op s es) hl rfl (dD (by decide +kernel) (by decide +kernel)) h hn rfl rfl he (fun t ht=>by rw[h0 t ht];exact Nat.zero_le _) hb W T D k hw ht hd (fn:="finish_op") (ok:=sJ) (by unfold fps;simp) ?_;have fl:(ts.map fun t=>t.2.2.2).flatten=[]:=by
  have:(ts.map fun t=>t.2.2.2)=ts.map fun _=>[]:=List.map_congr_left fun t ht=>h0 t ht;rw[this,nz]
 rw[fl,List.append_nil];exact⟨s,.tuple es,rfl,oa,(by rw[← h,lMp] at hl;rw[lMp];exact hl),by show T.length<200;omega,rfl⟩
theorem eO {t:Th} (h:br t):Ev 80 (thD t) [] (vlT t) []:=by
 cases h with
 | num h=>exact (ff _ _).le (by decide)
 | @row is h hl =>
  intro W T D k hw ht hd;have:=nD (b:=80) (s:="row") (nm:=[]) (es:=is.map num) (ts:=is.map fun i=>(num i,[],.int i,[])) (by rw[List.map_map];rfl) (fun t ht=>by obtain⟨i,_,rfl⟩:=List.mem_map.mp ht;rfl) (fun t ht=>by obtain⟨i,_,rfl⟩:=List.mem_map.mp ht;exact ff i []) (fun t ht=>by obtain⟨i,_,rfl⟩:=List.mem_map.mp ht;rfl) (by decide) (by rw[lMp];exact hl) (.row _) W T D k hw ht hd;rw[df (by decide +kernel) (by decide +kernel)] at this;obtain⟨n,g⟩:=this;refine⟨n,?_⟩;have e:opV "row" ((is.map fun i=>((num i,[],Vl.int i,[]):PyData×Nm×Vl×List Lk)).map fun t=>t.2.2.1)=.tup is:=by
   unfold opV;rw[if_pos rfl,List.map_map,List.map_map];congr 1;exact List.map_id is
  rw[e] at g;rw[List.append_nil];exact g
 | @new r i hr h =>
  intro W T D k hw ht hd;have:=cT (b:=80) (nm:=[]) (.new r [num i]) (by show 1≤8;decide) rfl (dD (by decide +kernel) (by decide +kernel)) (ts:=[(num i,[],.int i,[])]) rfl (fun t ht=>by rw[mSg.mp ht]) rfl rfl (fun t ht=>by rw[mSg.mp ht];exact ff i []) (fun t ht=>by rw[mSg.mp ht];exact Nat.zero_le _) (by decide) W T D k hw ht hd (fn:="finish_new") (ok:=mQ) (by unfold fps;simp) (S':=⟨W,T++[.made r i],D++[],none,k⟩) ⟨r,i,_,rfl,rfl,by show T.length<200;omega,rfl⟩;exact this
 | @fn ids hl =>
  intro W T D k hw ht hd;exact cT (b:=80) (nm:=[]) (.fn ids (num 5) (by omega)) (by show 1≤8;decide) rfl (fs:=[]) (hf:=by unfold dX;rw[if_pos rfl]) (ts:=[]) rfl (fun t ht=>(by cases ht)) rfl rfl (fun t ht=>(by cases ht)) (fun t ht=>(by cases ht)) (by decide) W T D k hw ht hd (fn:="finish_fun") (ok:=mS) (by unfold fps;simp) (S':=⟨W,T++[.fn ids],D++[],none,k⟩) ⟨ids,rfl,rfl,by show T.length<200;omega,rfl⟩
theorem gh {b:Nat} {d:PyData} {nm:Nm} {v:Vl} (h:Ev (b+20) d nm v []) (hb:b≤80):Ev b (aI d) nm v [lk v]:=fun W T D k hw ht hd=>by
 refine cT (b:=b) (.say d) (by show 1≤8;decide) rfl (dD (by decide +kernel) (by decide +kernel)) (ts:=[(d,nm,v,[])]) rfl (fun t ht=>by rw[mSg.mp ht]) rfl rfl (fun t ht=>by rw[mSg.mp ht];exact h) (fun t ht=>by rw[mSg.mp ht];exact Nat.zero_le _) hb W T D k hw ht hd (fn:="finish_say") (ok:=mP) (by unfold fps;simp) ?_;refine⟨v,rfl,by show T.length<200;omega,?_,?_⟩
 · show (D++[]).length<200;rw[List.append_nil];omega
 · show MS.mk _ _ _ _ _=MS.mk _ _ (D++[]++[lk v]) _ _;rw[List.append_nil]
theorem qk {ts ts':List Th} (h:Paired ThS ts ts'):(ts'.map vlT).map wth=(ts.map vlT).map wth∧(ts'.map vlT).map rwo=(ts.map vlT).map rwo∧ts'.length=ts.length:=by
 induction h with
 | nil=>exact⟨rfl,rfl,rfl⟩
 | cons z _ ih =>
  obtain⟨a,b,c⟩:=z.w;obtain⟨i1,i2,i3⟩:=ih;simp only[List.map_cons,List.length_cons,a,c,i1,i2,i3,and_self]
theorem xQ {xs xs':List Vl} (h:xs'.map wth=xs.map wth):wth (x1 xs')=wth (x1 xs)∧wth (x0 xs')=wth (x0 xs):=by
 have g:∀ i,(xs'[i]?).map wth=(xs[i]?).map wth:=fun i=>by rw[← gEM,← gEM,h]
 unfold x0 x1;constructor
 · have:=g 1;cases e:xs'[1]? <;> cases e':xs[1]? <;> rw[e,e'] at this <;> simp at this ⊢
   exact this
 · have:=g 0;cases e:xs'[0]? <;> cases e':xs[0]? <;> rw[e,e'] at this <;> simp at this ⊢
   exact this
theorem xR {xs xs':List Vl} (h:xs'.map rwo=xs.map rwo):rwo (x0 xs')=rwo (x0 xs):=by
 have this:(xs'[0]?).map rwo=(xs[0]?).map rwo:=by rw[← gEM,← gEM,h]
 unfold x0;cases e:xs'[0]? <;> cases e':xs[0]? <;> rw[e,e'] at this <;> simp at this ⊢
 exact this
theorem oR {s:Str} {xs xs':List Vl} (h:xs'.map wth=xs.map wth) (h2:xs'.map rwo=xs.map rwo):opF s xs'=opF s xs∧opV s xs'=opV s xs:=by
 obtain⟨a,b⟩:=xQ h;have c:=xR h2;have i:inR xs'=inR xs:=by unfold inR;rw[a,c]
 constructor
 · unfold opF;rw[a];by_cases e:inR xs
   · rw[if_neg (c:=s="at"∧¬ inR xs') (fun z=>z.2 (i▸e)),if_neg (c:=s="at"∧¬ inR xs) (fun z=>z.2 e)]
   · by_cases e2:s="at"
     · rw[if_pos (c:=s="at"∧¬ inR xs') ⟨e2,fun z=>e (i▸z)⟩,if_pos (c:=s="at"∧¬ inR xs) ⟨e2,e⟩]
     · rw[if_neg (c:=s="at"∧¬ inR xs') (fun z=>e2 z.1),if_neg (c:=s="at"∧¬ inR xs) (fun z=>e2 z.1)]
 · unfold opV;rw[h,a,b,c]
theorem mO {s:Str} {ts ts':List Th} (h:Paired ThS ts ts') (o:OpA s (ts.map vlT)):OpA s (ts'.map vlT):=by
 generalize e:ts.map vlT=xs at o;cases o with
 | row=>exact .row _
 | one x hs =>
  cases h with
  | nil=>cases e
  | cons z r =>
   cases r with
   | nil=>exact .one _ hs
   | cons _ _=>cases e
 | two x y hs s1 s2 =>
  cases h with
  | nil=>cases e
  | cons z r =>
   cases r with
   | nil=>cases e
   | cons z2 r2 =>
    cases r2 with
    | cons _ _=>cases e
    | nil =>
     cases e;exact .two _ _ hs (by rw[z.w.1];exact s1) (by rw[z2.w.1];exact s2)
theorem gQ {ts ts':List Th} (h:Paired ThS ts ts') (o:∀ t∈ts,br t):∀ t∈ts',br t:=by
 induction h with
 | nil=>exact fun t ht=>(by cases ht)
 | cons z r ih =>
  intro t ht
  rcases List.mem_cons.mp ht with rfl | ht
  · exact z.ok (o _ mCS)
  · exact ih (fun t ht=>o t (mCM _ ht)) t ht
theorem kO {s:Str} {ts:List Th} (ok:∀ t∈ts,br t) (oa:OpA s (ts.map vlT)) (hl:ts.length≤8):fh (opE s (ts.map thD)) [] (rsD s (ts.map vlT)).1 (rsD s (ts.map vlT)).2:=fun d' c=>by
 obtain⟨ks,rb,bi,ks',g',nod,ag,hl',hk,rfl⟩:=c;obtain⟨rfl,rfl⟩:=jw nod;obtain⟨ts',rfl,p⟩:=jK (n:=5) (F:=thD) (R:=fun _ _=>True) (fun {t d'} h=>by obtain⟨g,c⟩:=h;exact hV c) hl' fun k x x' h1 h2=>⟨_,hk k x x' h1 h2⟩;obtain⟨w1,w2,w3⟩:=qk p;have ok':=gQ p ok;have ev:=nD (b:=60) (s:=s) (nm:=[]) (es:=ts'.map thD) (ts:=ts'.map fun t=>(thD t,[],vlT t,[])) (by rw[List.map_map];rfl) (fun t ht=>by obtain⟨i,_,rfl⟩:=List.mem_map.mp ht;rfl) (fun t ht=>by obtain⟨i,hi,rfl⟩:=List.mem_map.mp ht;exact eO (ok' i hi)) (fun t ht=>by obtain⟨i,_,rfl⟩:=List.mem_map.mp ht;rfl) (by decide) (by rw[lMp];omega) (by rw[List.map_map];exact mO p oa) [] [] [] 1 (Nat.zero_le _) (Nat.zero_le _) (Nat.zero_le _);rw[show ((ts'.map fun t=>((thD t,[],vlT t,[]):PyData×Nm×Vl×List Lk)).map fun t=>t.2.2.1)=ts'.map vlT by rw[List.map_map];rfl] at ev;obtain⟨q1,q2⟩:=oR (s:=s) w1 w2;rw[q1,q2] at ev;obtain⟨n,g⟩:=ev;cases ef:opF s (ts.map vlT) with
 | none =>
  rw[ef] at g;rw[bt ef];exact⟨n,_,g.run (.inr rfl),.back rfl rfl,rfl⟩
 | some f =>
  rw[ef] at g;rw[eu ef];exact⟨n,_,g.run (.inl (by show (some f:Option Str)≠none;exact fun z=>nomatch z)),.flt rfl,rfl⟩
theorem pO {t o:Th} (ht:br t) (ho:br o):fh (ifE (thD t) (aI (thD o)) (num 3)) (if wth (vlT t)=0 then [] else [lk (vlT o)]) "back" (if wth (vlT t)=0 then .int 3 else lkD (lk (vlT o))):=fun d' c=>by
 obtain⟨ks,rb,bi,ks',g',nod,ag,hl',hk,rfl⟩:=c;obtain⟨rfl,rfl⟩:=sN nod;obtain⟨y0,e0,_,c0⟩:=gi hl' hk (k:=0) rfl;obtain⟨y1,e1,_,c1⟩:=gi hl' hk (k:=1) rfl;obtain⟨y2,e2,_,c2⟩:=gi hl' hk (k:=2) rfl;obtain⟨t',rfl,st⟩:=hV c0;obtain⟨o',rfl,so⟩:=jL c1;have:=jM c2;subst this;have ek:(fun (_ _:Int→Int) (ks:PDs)=>ifE (k0 ks) (k1 ks) (k2 ks)) (gOf []) g' ks'=ifE (thD t') (aI (thD o')) (num 3):=by
  show ifE (ks'[0]?.getD .none) (ks'[1]?.getD .none) (ks'[2]?.getD .none)=_;rw[e0,e1,e2];rfl
 rw[ek];obtain⟨w1,_,_⟩:=st.w;obtain⟨_,l1,_⟩:=so.w;have ev:=cT (b:=60) (nm:=[]) (.ife (thD t') (aI (thD o')) (num 3)) (by show 3≤8;decide) rfl (fs:=[thD t']) (hf:=by unfold dX;rw[if_neg (by decide +kernel),if_pos (by decide +kernel)];rfl) (ts:=[(thD t',[],vlT t',[])]) rfl (fun t ht=>by rw[mSg.mp ht]) rfl rfl (fun t ht=>by rw[mSg.mp ht];exact eO (st.ok (by assumption))) (fun t ht=>by rw[mSg.mp ht];exact Nat.zero_le _) (by decide) [] [] [] 1 (Nat.zero_le _) (Nat.zero_le _) (Nat.zero_le _) (fn:="finish_if") (ok:=sK) (by unfold fps;simp) (S':=bgn ⟨[],[],[],none,1⟩ (if wth (vlT t')=0 then num 3 else aI (thD o')) []) ⟨_,_,_,_,rfl,rfl,by show 0<200;decide,rfl⟩;obtain⟨n,g⟩:=ev;rw[w1] at g;by_cases e:wth (vlT t)=0
 · rw[if_pos e] at g;rw[if_pos e,if_pos e];obtain⟨m,g2⟩:=(ff 3 []) [] [] [] 1 (Nat.zero_le _) (Nat.zero_le _) (Nat.zero_le _);obtain⟨q,z⟩:=g.trans g2;exact⟨q,_,z.run (.inr rfl),.back (x:=.int 3) rfl rfl,rfl⟩
 · rw[if_neg e] at g;rw[if_neg e,if_neg e,← l1];obtain⟨m,g2⟩:=(gh (b:=60) (eO (so.ok ho)) (by decide)) [] [] [] 1 (Nat.zero_le _) (Nat.zero_le _) (Nat.zero_le _);obtain⟨q,z⟩:=g.trans g2;exact⟨q,_,z.run (.inr rfl),.back (x:=vlT o') rfl rfl,rfl⟩
theorem pP {t o:Th} (ht:br t) (ho:br o):fh (doE [aI (thD t),aI (thD o)]) [lk (vlT t),lk (vlT o)] "back" (lkD (lk (vlT o))):=fun d' c=>by
 obtain⟨ks,rb,bi,ks',g',nod,ag,hl',hk,rfl⟩:=c;obtain⟨rfl,rfl⟩:=sP nod;obtain⟨ts',rfl,p⟩:=jK (n:=5) (F:=fun t=>aI (thD t)) (R:=fun _ _=>True) (ts:=[t,o]) (fun {t d'} h=>by obtain⟨g,c⟩:=h;exact jL c) hl' fun k x x' h1 h2=>⟨_,hk k x x' h1 h2⟩;cases p with
 | cons z r =>
  cases r with
  | cons z2 r2 =>
   cases r2
   rename_i t' o'
   obtain⟨_,a1,_⟩:=z.w;obtain⟨_,a2,_⟩:=z2.w;rw[← a1,← a2];have ev:=cT (b:=40) (nm:=[]) (.doo [aI (thD t'),aI (thD o')]) (by show 2≤8;decide) rfl (dD (by decide +kernel) (by decide +kernel)) (ts:=[(aI (thD t'),[],vlT t',[lk (vlT t')]),(aI (thD o'),[],vlT o',[lk (vlT o')])]) rfl (fun t ht=>by rcases List.mem_cons.mp ht with rfl | ht;rfl;rw[mSg.mp ht]) rfl rfl (fun t ht'=>by
     rcases List.mem_cons.mp ht' with rfl | ht'
     · exact gh (eO (z.ok ht)) (by decide)
     · rw[mSg.mp ht'];exact gh (eO (z2.ok ho)) (by decide)) (fun t ht=>by rcases List.mem_cons.mp ht with rfl | ht;exact Nat.le_refl _;rw[mSg.mp ht];exact Nat.le_refl _) (by decide) [] [] [] 1 (Nat.zero_le _) (Nat.zero_le _) (Nat.zero_le _) (fn:="finish_do") (ok:=sL) (by unfold fps;simp) (S':=tel ⟨[],[],[lk (vlT t'),lk (vlT o')],none,1⟩ (vlT o')) ⟨[vlT t'],vlT o',rfl,by show 0<200;decide,rfl⟩
   obtain⟨n,g⟩:=ev;exact⟨n,_,g.run (.inr rfl),.back rfl rfl,rfl⟩
theorem nq {t:Th} {k:Int} (ht:br t):(∀ i,vlT t=.made k i→fh (ck k 0 (thD t)) [] "back" (.int i))∧((∀ i,vlT t≠.made k i)→fh (ck k 0 (thD t)) [] "fault" (.str "field")):=by
 have key:∀ d',Cn 6 (gOf []) (ck k 0 (thD t)) d'→∃ t' n,ThS t t'∧Go n (S0 d') (match vlT t' with | .made r' i=>if r'=k then tel ⟨[],[],[],none,1⟩ (.int i) else flt ⟨[],[],[],none,1⟩ "field" | _=>flt ⟨[],[],[],none,1⟩ "field"):=fun d' c=>by
  obtain⟨ks,rb,bi,ks',g',nod,ag,hl',hk,rfl⟩:=c;obtain⟨rfl,rfl⟩:=oZ nod;obtain⟨y0,e0,_,c0⟩:=gi hl' hk (k:=0) rfl;obtain⟨t',rfl,st⟩:=hV c0;have ek:(fun (_ _:Int→Int) (ks:PDs)=>ck k 0 (k0 ks)) (gOf []) g' ks'=ck k 0 (thD t'):=by
   show ck k 0 (ks'[0]?.getD .none)=_;rw[e0];rfl
  rw[ek];obtain⟨n,g⟩:=cT (b:=60) (nm:=[]) (.get k 0 (thD t')) (by show 1≤8;decide) rfl (dD (by decide +kernel) (by decide +kernel)) (ts:=[(thD t',[],vlT t',[])]) rfl (fun t ht=>by rw[mSg.mp ht]) rfl rfl (fun t ht=>by rw[mSg.mp ht];exact eO (st.ok (by assumption))) (fun t ht=>by rw[mSg.mp ht];exact Nat.zero_le _) (by decide) [] [] [] 1 (Nat.zero_le _) (Nat.zero_le _) (Nat.zero_le _) (fn:="finish_get") (ok:=mR) (by unfold fps;simp) ⟨k,vlT t',_,rfl,rfl,by show 0<200;decide,rfl⟩;exact⟨t',n,st,g⟩
 constructor
 · intro i e d' c;obtain⟨t',n,st,g⟩:=key d' c;cases st with
   | new r i' =>
    cases e;rw[show (match vlT (.new k i) with | .made r' i=>if r'=k then tel ⟨[],[],[],none,1⟩ (.int i) else flt ⟨[],[],[],none,1⟩ "field" | _=>flt ⟨[],[],[],none,1⟩ "field")=tel ⟨[],[],[],none,1⟩ (.int i) from if_pos rfl] at g;exact⟨n,_,g.run (.inr rfl),.back (x:=.int i) rfl rfl,rfl⟩
   | num i=>cases e
   | row i=>cases e
   | fn i=>cases e
 · intro e d' c;obtain⟨t',n,st,g⟩:=key d' c;have bad:∀ S',Go n (S0 d') S'→S'=flt ⟨[],[],[],none,1⟩ "field"→∃ n S,Run n (S0 d') S∧End S "fault" (.str "field")∧S.D=[]:=fun S' g e=>by
    subst e;exact⟨n,_,g.run (.inl (by show (some _:Option Str)≠none;exact fun z=>nomatch z)),.flt rfl,rfl⟩
   cases st with
   | new r i' =>
    refine bad _ g ?_;show (if r=k then _ else _)=_;rw[if_neg (fun z=>e i' (by rw[z];rfl))]
   | num i=>exact bad _ g rfl
   | row i=>exact bad _ g rfl
   | fn i=>exact bad _ g rfl
theorem mW {d:PyData} {ks:PDs} {rb:Rb} {bi:List Int} (h:Nod d ks rb bi) (h1:hdS d≠"each") (h2:hdS d≠"fun"):bi=[]:=by
 cases h <;> first | rfl | exact absurd rfl h1 | exact absurd rfl h2
def cq (x:Int):PyData:=aI (opE "add" [nam x,num 1])
theorem qc {g:Int→Int} {d':PyData} {n:Nat} (h:Cn (n+3) g (cq 0) d'):d'=cq (g 0):=by
 obtain⟨ks,rb,bi,ks',g1,nod,ag,hl,hk,rfl⟩:=h;have b0:=mW nod (by decide +kernel) (by decide +kernel);obtain⟨rfl,rfl⟩:=kG nod;have h2:0<ks'.length:=by rw[hl];show 0<1;decide
 have h3:ks'[0]?=some ks'[0]:=gEE h2;have c:Cn (n+2) g1 (opE "add" [nam 0,num 1]) ks'[0]:=hk 0 _ _ rfl h3;obtain⟨ls,rb2,bi2,ls',g2,nod2,ag2,hl2,hk2,e2⟩:=c;have b2:=mW nod2 (by decide +kernel) (by decide +kernel);obtain⟨rfl,rfl⟩:=jw nod2;have m0:0<ls'.length:=by rw[hl2];show 0<2;decide
 have m1:1<ls'.length:=by rw[hl2];show 1<2;decide
 have q0:ls'[0]?=some ls'[0]:=gEE m0;have q1:ls'[1]?=some ls'[1]:=gEE m1;have c0:Cn (n+1) g1 (nam 0) ls'[0]:=hk2 0 _ _ rfl q0;have c1:=hk2 1 _ _ rfl q1;have e1:=jM c1;obtain⟨_,rb3,bi3,_,g3,nod3,_,_,_,e3⟩:=c0;obtain⟨_,rfl⟩:=oY nod3;have el:ls'=[ls'[0],ls'[1]]:=by obtain⟨a,b,rfl⟩:=dW hl2;rfl
 show aI (ks'[0]?.getD .none)=_;rw[h3];show aI ks'[0]=_;rw[e2];show aI (opE "add" ls')=_;rw[el,e3,e1];show aI (opE "add" [nam (g1 0),num 1])=_;rw[ag 0 (by rw[b0];exact nMN)];rfl
theorem pY (x j:Int) (hj:nu j):Ev 60 (cq x) [(x,.int j)] (.int (tkn (j+1))) [.int (tkn (j+1))]:=by
 refine gh (b:=60) (v:=.int (tkn (j+1))) (fun W T D k hw ht hd=>?_) (by decide);have sj:Sml j:=by unfold Sml;unfold nu at hj;omega
 have:=nD (b:=80) (s:="add") (nm:=[(x,.int j)]) (es:=[nam x,num 1]) (ts:=[(nam x,[(x,.int j)],.int j,[]),(num 1,[(x,.int j)],.int 1,[])]) rfl (fun t ht=>by rcases List.mem_cons.mp ht with rfl | ht;rfl;rw[mSg.mp ht]) (fun t ht=>by
   rcases List.mem_cons.mp ht with rfl | ht
   · exact pX x _ _ (by simp[List.lookup])
   · rw[mSg.mp ht];exact ff 1 _) (fun t ht=>by rcases List.mem_cons.mp ht with rfl | ht;rfl;rw[mSg.mp ht]) (by decide) (by show 2≤8;decide) (.two _ _ (by decide +kernel) sj (show Sml 1 by unfold Sml;decide)) W T D k hw ht hd
 obtain⟨n,g⟩:=this;rw[df (by decide +kernel) (by decide +kernel)] at g;refine⟨n,?_⟩;rw[List.append_nil];have e:opV "add" ([((nam x,[(x,.int j)],Vl.int j,[]):PyData×Nm×Vl×List Lk),(num 1,[(x,.int j)],.int 1,[])].map fun t=>t.2.2.1)=.int (tkn (j+1)):=by
  unfold opV;rw[if_neg (by decide +kernel),if_neg (by decide +kernel),if_neg (by decide +kernel),if_neg (by decide +kernel)];unfold opI;rw[if_pos rfl];rfl
 rw[e] at g;exact g
theorem lD {t:Th} (ht:br t):fh (aQ 0 (thD t) (cq 0)) ((rwo (vlT t)).map fun j=>.int (tkn (j+1))) "back" (.int 0):=fun d' c=>by
 obtain⟨ks,rb,bi,ks',g',nod,ag,hl',hk,rfl⟩:=c;obtain⟨rfl,rfl⟩:=mV nod;obtain⟨y0,e0,_,c0⟩:=gi hl' hk (k:=0) rfl;obtain⟨t',rfl,st⟩:=hV c0;have m1:1<ks'.length:=by rw[hl'];show 1<2;decide
 have h1:ks'[1]?=some ks'[1]:=gEE m1;have c1:Cn 5 g' (cq 0) ks'[1]:=hk 1 _ _ rfl h1;have e1:=qc c1;have ek:(fun (_ g':Int→Int) (ks:PDs)=>aQ (g' 0) (k0 ks) (k1 ks)) (gOf []) g' ks'=aQ (g' 0) (thD t') (cq (g' 0)):=by
  show aQ (g' 0) (ks'[0]?.getD .none) (ks'[1]?.getD .none)=_;rw[e0,h1];show aQ _ _ ks'[1]=_;rw[e1];rfl
 rw[ek];generalize g' 0=x;obtain⟨_,_,r1⟩:=st.w;rw[← r1];have ok':=st.ok ht;have rl:(rwo (vlT t')).length≤8∧∀ j∈rwo (vlT t'),nu j:=by
  cases ok' with
  | row h hl=>exact⟨hl,h⟩
  | num h=>exact⟨Nat.zero_le _,fun j hj=>(by cases hj)⟩
  | new hr h=>exact⟨Nat.zero_le _,fun j hj=>(by cases hj)⟩
  | fn hl=>exact⟨Nat.zero_le _,fun j hj=>(by cases hj)⟩
 obtain⟨n,g⟩:=cT (b:=60) (nm:=[]) (.each x (thD t') (cq x)) (by show 2≤8;decide) rfl (fs:=[thD t']) (hf:=by unfold dX;rw[if_neg (by decide +kernel),if_pos (by decide +kernel)];rfl) (ts:=[(thD t',[],vlT t',[])]) rfl (fun t ht=>by rw[mSg.mp ht]) rfl rfl (fun t ht=>by rw[mSg.mp ht];exact eO ok') (fun t ht=>by rw[mSg.mp ht];exact Nat.zero_le _) (by decide) [] [] [] 1 (Nat.zero_le _) (Nat.zero_le _) (Nat.zero_le _) (fn:="finish_each") (ok:=jv) (by unfold fps;simp) ⟨x,_,_,vlT t',rfl,rfl,rl.1,by show 0≤100;decide,rfl⟩;generalize rwo (vlT t')=js at rl g ⊢;obtain⟨m,g2⟩:=evs (b:=40) (ts:=js.map fun j=>(cq x,[(x,.int j)],.int (tkn (j+1)),[.int (tkn (j+1))])) (fun t ht=>by obtain⟨j,hj,rfl⟩:=List.mem_map.mp ht;exact pY x j (rl.2 j hj)) (by rw[lMp];exact rl.1) (fun t ht=>by obtain⟨j,_,rfl⟩:=List.mem_map.mp ht;exact Nat.le_refl _) [⟨"over",aQ x (thD t') (cq x),[],js.length⟩] [] [] 1 (by rw[lMp];show 1+js.length≤60;omega) (by rw[lMp];show 0+js.length≤60;omega) (by rw[lMp];show 0+js.length≤60;omega);have eW:([]:List Tsk)++eaW (aQ x (thD t') (cq x)) (cq x) x js []=[⟨"over",aQ x (thD t') (cq x),[],js.length⟩]++((js.map fun j=>((cq x,[(x,.int j)],.int (tkn (j+1)),[.int (tkn (j+1))]):PyData×Nm×Vl×List Lk)).reverse.map fun t=>bg t.1 t.2.1):=by
  rw[← List.map_reverse,List.map_map];rfl
 have eD:((js.map fun j=>((cq x,[(x,.int j)],.int (tkn (j+1)),[.int (tkn (j+1))]):PyData×Nm×Vl×List Lk)).map fun t=>t.2.2.2).flatten=js.map fun j=>Lk.int (tkn (j+1)):=by
  rw[List.map_map];clear g2 g rl eW
  induction js with
  | nil=>rfl
  | cons j r ih=>rw[List.map_cons,List.flatten_cons,ih];rfl
 have g':Go n (S0 (aQ x (thD t') (cq x))) ⟨[⟨"over",aQ x (thD t') (cq x),[],js.length⟩]++((js.map fun j=>((cq x,[(x,.int j)],.int (tkn (j+1)),[.int (tkn (j+1))]):PyData×Nm×Vl×List Lk)).reverse.map fun t=>bg t.1 t.2.1),[],[],none,1⟩:=by rw[← eW];exact g
 rw[eD] at g2;have s3:=Stp.ovr (S:=⟨[⟨"over",aQ x (thD t') (cq x),[],js.length⟩],[]++(js.map fun j=>((cq x,[(x,.int j)],.int (tkn (j+1)),[.int (tkn (j+1))]):PyData×Nm×Vl×List Lk)).map fun t=>t.2.2.1,[]++js.map fun j=>Lk.int (tkn (j+1)),none,1⟩) (W:=[]) (e:=aQ x (thD t') (cq x)) (n:=[]) (T1:=[]) (T2:=(js.map fun j=>((cq x,[(x,.int j)],.int (tkn (j+1)),[.int (tkn (j+1))]):PyData×Nm×Vl×List Lk)).map fun t=>t.2.2.1) (by rw[lMp,lMp];rfl) rfl (by decide);obtain⟨q,z⟩:=g'.trans g2;obtain⟨q2,z2⟩:=z.trans (.step rfl s3 (.nil _));exact⟨q2,_,z2.run (.inr rfl),.back (x:=.int 0) rfl rfl,rfl⟩
theorem nr {t o:Th} {k:Nat} (ht:br t) (ho:br o) (hk2:k≤2):((∃ ids,t=.fn ids∧ids.length=k)→fh (cD (thD t) (List.replicate k (aI (thD o)))) (List.replicate k (lk (vlT o))) "back" (.int 5))∧((¬ ∃ ids,t=.fn ids∧ids.length=k)→fh (cD (thD t) (List.replicate k (aI (thD o)))) (List.replicate k (lk (vlT o))) "fault" (.str "apply")):=by
 have key:∀ d',Cn 6 (gOf []) (cD (thD t) (List.replicate k (aI (thD o)))) d'→∃ t' ys n,ThS t t'∧ys.length=k∧Go n (S0 d') (match vlT t' with | .fn ids=>if ids.length=ys.length then bgn ⟨[],[],List.replicate k (lk (vlT o)),none,0⟩ (num 5) (bnd [] ids ys) else flt ⟨[],[],List.replicate k (lk (vlT o)),none,1⟩ "apply" | _=>flt ⟨[],[],List.replicate k (lk (vlT o)),none,1⟩ "apply"):=fun d' c=>by
  obtain⟨ks,rb,bi,ks',g',nod,ag,hl',hk,rfl⟩:=c;obtain⟨rfl,rfl⟩:=pb nod;cases ks' with
  | nil=>cases hl'
  | cons y0 ys' =>
   obtain⟨y0',e0,_,c0⟩:=gi hl' hk (k:=0) rfl;cases e0;obtain⟨t',rfl,st⟩:=hV c0;have hr:List.replicate k (aI (thD o))=(List.replicate k o).map fun t=>aI (thD t):=by rw[List.map_replicate]
   obtain⟨os',rfl,p⟩:=jK (n:=5) (F:=fun t=>aI (thD t)) (R:=fun _ _=>True) (ts:=List.replicate k o) (ks':=ys') (fun {t d'} h=>by obtain⟨g,c⟩:=h;exact jL c) (by rw[← hr];exact Nat.succ.inj hl') fun k x x' h1 h2=>by
    rw[← hr] at h1;exact⟨_,hk (k+1) x x' h1 h2⟩
   have ol:=(qk p).2.2;rw[List.length_replicate] at ol;have ok':=gQ p (fun t ht=>by rw[(List.mem_replicate.mp ht).2];exact ho);have lks:os'.map (fun o=>lk (vlT o))=List.replicate k (lk (vlT o)):=by
    have:∀ {ts ts':List Th},Paired ThS ts ts'→ts'.map (fun o=>lk (vlT o))=ts.map (fun o=>lk (vlT o)):=fun {ts ts'} h=>by
     induction h with
     | nil=>rfl
     | cons z _ ih=>rw[List.map_cons,List.map_cons,ih,z.w.2.1]
    rw[this p,List.map_replicate]
   have fl:∀ l:List Th,(l.map fun o'=>[lk (vlT o')]).flatten=l.map fun o=>lk (vlT o):=fun l=>by
    induction l with
    | nil=>rfl
    | cons z r ih=>rw[List.map_cons,List.flatten_cons,ih];rfl
   obtain⟨n,g⟩:=cT (b:=40) (nm:=[]) (.app (thD t') (os'.map fun t=>aI (thD t))) (by rw[List.length_cons,lMp];omega) rfl (dD (by decide +kernel) (by decide +kernel)) (ts:=(thD t',[],vlT t',[])::os'.map fun o'=>(aI (thD o'),[],vlT o',[lk (vlT o')])) (by rw[List.map_cons,List.map_map];rfl) (fun t ht=>by
     rcases List.mem_cons.mp ht with rfl | ht
     · rfl
     · obtain⟨i,_,rfl⟩:=List.mem_map.mp ht;rfl) rfl rfl (fun t ht'=>by
     rcases List.mem_cons.mp ht' with rfl | ht'
     · exact (eO (st.ok ht)).le (by decide)
     · obtain⟨i,hi,rfl⟩:=List.mem_map.mp ht';exact gh (eO (ok' i hi)) (by decide)) (fun t ht=>by
     rcases List.mem_cons.mp ht with rfl | ht
     · exact Nat.zero_le _
     · obtain⟨i,_,rfl⟩:=List.mem_map.mp ht;exact Nat.le_refl _) (by decide) [] [] [] 1 (Nat.zero_le _) (Nat.zero_le _) (Nat.zero_le _) (fn:="finish_apply") (ok:=ij) (by unfold fps;simp) ⟨vlT t',os'.map vlT,(by rw[List.map_cons,List.map_map];rfl),by show 0<200;decide,by show (1:Int)≠0;decide,by rw[lMp];omega,rfl⟩
   refine⟨t',os'.map vlT,n,st,by rw[lMp];exact ol,?_⟩;have eD:([]:List Lk)++(((thD t',[],vlT t',[])::os'.map fun o'=>((aI (thD o'),[],vlT o',[lk (vlT o')]):PyData×Nm×Vl×List Lk)).map fun t=>t.2.2.2).flatten=List.replicate k (lk (vlT o)):=by
    rw[List.map_cons,List.flatten_cons,List.map_map];show []++([]++(os'.map fun o'=>[lk (vlT o')]).flatten)=_;rw[fl,lks];rfl
   rw[eD] at g;exact g
 constructor
 · rintro⟨ids,rfl,hl⟩ d' c;obtain⟨t',ys,n,st,yl,g⟩:=key d' c;cases st with
   | @fn _ b hb =>
    have g':Go n (S0 d') (bgn ⟨[],[],List.replicate k (lk (vlT o)),none,0⟩ (num 5) (bnd [] b ys)):=by
     have:=g;rw[show (match vlT (.fn b) with | .fn ids=>if ids.length=ys.length then bgn ⟨[],[],List.replicate k (lk (vlT o)),none,0⟩ (num 5) (bnd [] ids ys) else flt ⟨[],[],List.replicate k (lk (vlT o)),none,1⟩ "apply" | _=>flt ⟨[],[],List.replicate k (lk (vlT o)),none,1⟩ "apply")=bgn ⟨[],[],List.replicate k (lk (vlT o)),none,0⟩ (num 5) (bnd [] b ys) from if_pos (by omega)] at this;exact this
    obtain⟨m,g2⟩:=ff 5 (bnd [] b ys) [] [] (List.replicate k (lk (vlT o))) 0 (Nat.zero_le _) (Nat.zero_le _) (by rw[List.length_replicate];omega);obtain⟨q,z⟩:=g'.trans g2;exact⟨q,_,z.run (.inr rfl),.back (x:=.int 5) rfl rfl,by show _++[]=_;rw[List.append_nil]⟩
 · intro no d' c;obtain⟨t',ys,n,st,yl,g⟩:=key d' c;have bad:∀ S',Go n (S0 d') S'→S'=flt ⟨[],[],List.replicate k (lk (vlT o)),none,1⟩ "apply"→∃ n S,Run n (S0 d') S∧End S "fault" (.str "apply")∧S.D=List.replicate k (lk (vlT o)):=fun S' g e=>by
    subst e;exact⟨n,_,g.run (.inl (by show (some _:Option Str)≠none;exact fun z=>nomatch z)),.flt rfl,rfl⟩
   cases st with
   | num i=>exact bad _ g rfl
   | row i=>exact bad _ g rfl
   | new r i=>exact bad _ g rfl
   | @fn a b hb =>
    refine bad _ g ?_;show (if b.length=ys.length then _ else _)=_;rw[if_neg (fun z=>no ⟨a,rfl,by omega⟩)]
end K20
namespace PySem
open AutoSeq1 (wpAny_loadPart')
theorem ms (a:Int) (t:Tok) (l:Addr) (am:Array Value) (n:Nat) (dd:Option Addr) (sl:Array (Option Value)) :
 Meets (Builtin.«int.__rmul__» ⟨[.int a t,.ref l],[]⟩) (fun _ R s=>s.heap.get? l=some {cls:=.type "tuple",dict:=dd,data:=.seq am n,slots:=sl}∧R (.ok (.ret Value.notImplemented)) s) :=
 .of_wp fun prog w A R s h=>by obtain⟨hp,g,d,tk,os⟩:=s;obtain⟨hl,h⟩:=h;wp_walk;exact⟨_,rfl,h⟩
theorem tU (l:Addr) (am:Array Value) (n:Nat) (dd:Option Addr) (sl:Array (Option Value)) (u:Tok) :
 Meets (Builtin.«tuple.__mul__» ⟨[.ref l,.int 1 u],[]⟩) (fun _ R s=>s.heap.get? l=some {cls:=.type "tuple",dict:=dd,data:=.seq am n,slots:=sl}∧R (.ok (.ret (.ref l))) s) :=
 .of_wp fun prog w A R s h=>by
  obtain⟨hp,g,d,tk,os⟩:=s;obtain⟨hl,h⟩:=h
  wp_walk
  exact⟨_,rfl,h⟩
theorem tV (l:Addr) (am:Array Value) (n:Nat) (dd:Option Addr) (sl:Array (Option Value)) (u:Tok) (hne:am.isEmpty=false) :
 Meets (Builtin.«tuple.__mul__» ⟨[.ref l,.int 0 u],[]⟩) (fun _ R s=>s.heap.get? l=some {cls:=.type "tuple",dict:=dd,data:=.seq am n,slots:=sl}∧R (.ok (.ret (.ref s.heap.objs.size))) {s with heap:=s.heap.push {cls:=.type "tuple",data:=.seq #[]}}) :=
 .of_wp fun prog w A R s h=>by
  obtain⟨hp,g,d,tk,os⟩:=s;obtain⟨hl,h⟩:=h
  wp_walk
  exact⟨_,rfl,h⟩
theorem tT (l:Addr) (v:Value) (n:Nat) (dd:Option Addr) (sl:Array (Option Value)) (u:Tok) :
 Meets (Builtin.«tuple.__mul__» ⟨[.ref l,.int 2 u],[]⟩) (fun _ R s=>s.heap.get? l=some {cls:=.type "tuple",dict:=dd,data:=.seq #[v] n,slots:=sl}∧R (.ok (.ret (.ref s.heap.objs.size))) {s with heap:=s.heap.push {cls:=.type "tuple",data:=.seq #[v,v]}}) :=
 .of_wp fun prog w A R s h=>by
  obtain⟨hp,g,d,tk,os⟩:=s;obtain⟨hl,h⟩:=h
  wp_walk
  exact⟨_,rfl,h⟩
theorem fb:fillsNumberSlot (.type "tuple") "mul"=pure false :=
 fillsNumberSlot_seq (id:="tuple.__mul__") (r:=some (.builtin "tuple.__rmul__")) F.slot_tuple_mul.lookup (by decide +kernel) F.slot_tuple_rmul.lookup (by decide +kernel)
theorem ie:seqRepeat? (.type "tuple")=pure (some (.builtin "tuple.__mul__")):=by
 unfold seqRepeat?;rw[seqSlot_of (T:="tuple") (name:="__mul__") (id:="tuple.__mul__") F.slot_tuple_mul.lookup (by decide +kernel),seqSlot_of (T:="tuple") (name:="__rmul__") (id:="tuple.__rmul__") F.slot_tuple_rmul.lookup (by decide +kernel)];rfl
end PySem
namespace L2
open PySem PySem.Spec PyProof.Rows
def uL (K:Fg):R2:=fun x y H Q=>∃ a k v,x=.ref a∧y=.int k∧SqT K H a [v]∧((k=1∧Q (.ref a) H)∨(k=0∧∀ p,H p=none→Q (.ref p) (upd H p (.tup [])))∨(k=2∧∀ p,H p=none→Q (.ref p) (upd H p (.tup [v,v]))))
theorem oS {X:Cx}:OpR X (binaryOp .Mult) (uL X.K):=by
 intro pins s σ H x y v u Q I rx ry h;obtain⟨a,k,v0,rfl,rfl,ha,h⟩:=h;cases rx;obtain⟨t,rfl⟩:=ry;obtain⟨its,r1,p1,_⟩:=I.tuple ha;obtain⟨v1,rfl⟩:=cY (r1.length.symm.trans (show [v0].length=1 from rfl));have rv:aH v0 v1:=by cases r1 with
  | cons z _=>exact z
 obtain⟨⟨c1,d1,t1,s1⟩,ho,hc,n,hd⟩:=p1;simp only at hc hd;subst hc hd;refine wpAny_binaryOp_repeat_ref (T:="tuple") (U:="int") (by decide) ⟨_,ho,rfl⟩ (fun s'=>typeIs_int s' k t) fb F.fills_int_mul F.slot_int_rmul ie F.slot_int_index.lookup
  (call_meets F.slot_int_rmul (typeIs_int s k t) F.entry_int_rmul (F.args_int_rmul_2 _ _) (ms k t a _ n d1 s1) ⟨ho,rfl,⟨_,ho,rfl⟩,?_⟩)
 rcases h with ⟨rfl,q⟩ | ⟨rfl,q⟩ | ⟨rfl,q⟩
 · exact call_meets F.slot_tuple_mul ⟨_,ho,rfl⟩ F.entry_tuple_mul (F.args_tuple_mul_2 _ _) (tU a _ n d1 s1 t) ⟨ho,.ref a,H,I,rfl,q⟩
 · refine call_meets F.slot_tuple_mul ⟨_,ho,rfl⟩ F.entry_tuple_mul (F.args_tuple_mul_2 _ _) (tV a _ n d1 s1 t rfl) ⟨ho,.ref _,_,I.laid (t':=s.toks) (o:=.tup []) (fun b o e=>hpS _ e) (Nat.le_refl _) ⟨?_,[],.nil,IsTup.new _ _⟩,rfl,q _ (I.hok.fresh (Nat.le_refl _))⟩;show 0≤sizeLine
   decide
 · refine call_meets F.slot_tuple_mul ⟨_,ho,rfl⟩ F.entry_tuple_mul (F.args_tuple_mul_2 _ _) (tT a v1 n d1 s1 t) ⟨ho,.ref _,_,I.laid (t':=s.toks) (o:=.tup [v0,v0]) (fun b o e=>hpS _ e) (Nat.le_refl _) ⟨?_,[v1,v1],.cons rv (.cons rv .nil),IsTup.new _ _⟩,rfl,q _ (I.hok.fresh (Nat.le_refl _))⟩;show 2≤sizeLine
   decide
end L2
namespace K20
open PySem L2 P10
theorem dL {n:Nat} {d:PyData} {ks:PDs} {rb:Rb} {bi M:List Int} (nod:Nod d ks rb bi) (h8:ks.length≤8) (hn:hdS d≠"name") (hk:∀ x∈ks,∀ M,Gr n M x):Gr (n+1) M d:=⟨ks,rb,bi,nod,h8,fun x e=>absurd (congrArg hdS e) hn,fun k x hx=>hk x (mGE hx) _⟩
theorem fe (n:Nat) (M:List Int) (i:Int):Gr (n+1) M (num i):=dL (.num i) (by decide) (by show ("number":Str)≠"name";decide +kernel) fun x hx=>(by cases hx)
theorem hC (n:Nat) (M:List Int) {t:Th} (h:br t):Gr (n+2) M (thD t):=by
 cases h with
 | num h=>exact fe _ _ _
 | row h hl=>exact dL (.op "row" _) (by rw[lMp];exact hl) (by show ("op":Str)≠"name";decide +kernel) fun x hx M=>by obtain⟨i,_,rfl⟩:=List.mem_map.mp hx;exact fe _ _ _
 | new hr h=>exact dL (.new _ _) (by show 1≤8;decide) (by show ("new":Str)≠"name";decide +kernel) fun x hx M=>by rw[mSg.mp hx];exact fe _ _ _
 | fn hl=>exact dL (.fn _ _ (by omega)) (by show 1≤8;decide) (by show ("fun":Str)≠"name";decide +kernel) fun x hx M=>by rw[mSg.mp hx];exact fe _ _ _
theorem ip (n:Nat) (M:List Int) {t:Th} (h:br t):Gr (n+3) M (aI (thD t)):=dL (.say _) (by show 1≤8;decide) (by show ("say":Str)≠"name";decide +kernel) fun x hx M=>by rw[mSg.mp hx];exact hC _ _ h
theorem qD {s:Str} {ts:List Th} (h:∀ t∈ts,br t) (hl:ts.length≤8):Gr 6 [] (opE s (ts.map thD)):=dL (.op s _) (by rw[lMp];exact hl) (by show ("op":Str)≠"name";decide +kernel) fun x hx M=>by obtain⟨t,ht,rfl⟩:=List.mem_map.mp hx;exact hC _ _ (h t ht)
theorem pz {t:Th} (h:br t):Gr 6 [] (aQ 0 (thD t) (cq 0)):=by
 refine⟨_,_,_,.each 0 _ _,by show 2≤8;decide,fun x e=>absurd (congrArg hdS e) (by show ¬ ("each":Str)="name";decide +kernel),fun k x hx=>?_⟩
 match k,hx with
 | 0,hx=>cases hx;exact hC _ _ h
 | 1,hx =>
  cases hx;show Gr 5 [0] (cq 0);refine⟨_,_,_,.say _,by show 1≤8;decide,fun x e=>absurd (congrArg hdS e) (by show ¬ ("say":Str)="name";decide +kernel),fun k x hx=>?_⟩
  match k,hx with
  | 0,hx =>
   cases hx;show Gr 4 [0] (opE "add" [nam 0,num 1]);refine⟨_,_,_,.op _ _,by show 2≤8;decide,fun x e=>absurd (congrArg hdS e) (by show ¬ ("op":Str)="name";decide +kernel),fun k x hx=>?_⟩
   match k,hx with
   | 0,hx =>
    cases hx;show Gr 3 [0] (nam 0);exact⟨_,_,_,.name 0,by decide,fun x e=>by
      simp only[nam,PyData.tuple.injEq,List.cons.injEq,PyData.int.injEq,and_true,true_and] at e;rw[← e];exact mSg.mpr rfl,fun k x hx=>by cases hx⟩
   | 1,hx=>cases hx;exact fe _ _ _
   | k+2,hx=>cases hx
  | k+1,hx=>cases hx
 | k+2,hx=>cases hx
inductive SV (K:Fg) (H:Hp):V→PyData→Prop
  | lk {v:V} {x:Lk} (h:LkV K H v x):SV K H v (lkD x)
  | str {s:Str} (h:(PyData.str s).canLay0=true):SV K H (.str s) (.str s)
inductive fm (K:Fg) (H:Hp) (X:Addr→Prop) (p2:Addr) (d:PyData):Prop
  | mk (da pe:Addr) (us:List V) (v2:V) (ds:List Lk) (tg:Str) (d2:PyData) (g1:SqT K H p2 [.ref da,.ref pe]) (g2:H da=some (.lst us)) (nb:¬ X da) (g3:Paired (LkV K H) us ds) (g4:SqT K H pe [.str tg,v2]) (g5:SV K H v2 d2) (good:fh d ds tg d2) (ht:(PyData.str tg).canLay0=true):fm K H X p2 d
inductive cs (K:Fg) (H:Hp) (X:Addr→Prop):V→Prop
  | mk {a p2:Addr} {vb:V} {d:PyData} (h1:SqT K H a [vb,.ref p2]) (h2:TD K H vb d) (h3:Gr 6 [] d) (h4:fm K H X p2 d):cs K H X (.ref a)
section
variable {P:Program} {w:World} {K:Fg} {mg:SOV} {base:Heap}
theorem LkV.tk {H H':Hp} {v:V} {x:Lk} (h:LkV K H v x) (t:Tk H H'):LkV K H' v x:=by
 cases h with
 | int i=>exact .int i
 | tup h=>exact .tup (h.tk t)
 | thing=>exact .thing
theorem SV.dat {H:Hp} {v:V} {d:PyData} (h:SV K H v d):c8 K H v d∧Ty3 K H v∧fF d:=by
 cases h with
 | lk h=>exact⟨h.dat,h.ty,iq _⟩
 | str h=>exact⟨.str _,.mk (.str _) (by decide),.str h⟩
theorem fm.mv {H H':Hp} {X:Addr→Prop} {p2:Addr} {d:PyData} (h:fm K H X p2 d) (kp:∀ a u,¬ X a→H a=some u→H' a=some u) (t:Tk H H'):fm K H' X p2 d:=by
 obtain⟨da,pe,us,v2,ds,tg,d2,g1,g2,nb,g3,g4,g5,good,ht⟩:=h;refine⟨da,pe,us,v2,ds,tg,d2,g1.tk t,kp _ _ nb g2,nb,aq g3 fun _ _ z=>z.tk t,g4.tk t,?_,good,ht⟩;cases g5 with
 | lk h=>exact .lk (h.tk t)
 | str h=>exact .str h
theorem cs.mv {H H':Hp} {X:Addr→Prop} {v:V} (h:cs K H X v) (kp:∀ a u,¬ X a→H a=some u→H' a=some u) (t:Tk H H'):cs K H' X v:=by
 cases h with
 | mk h1 h2 h3 h4=>exact .mk (h1.tk t) (h2.tk t) h3 (h4.mv kp t)
theorem cs.same {H H':Hp} {X:Addr→Prop} {v:V} (h:cs K H X v) (s:ai H H'):cs K H' X v:=h.mv (fun a u _ e=>s a u e) s.tk
theorem fm.res {H:Hp} {X:Addr→Prop} {p2:Addr} {d:PyData} (h:fm K H X p2 d):∃ ds tg d2,iA K H p2 ds tg d2∧fh d ds tg d2∧fF d2∧(PyData.str tg).canLay0=true:=by
 obtain⟨da,pe,us,v2,ds,tg,d2,g1,g2,nb,g3,g4,g5,good,ht⟩:=h;obtain⟨a,b,c⟩:=g5.dat;exact⟨ds,tg,d2,⟨da,pe,us,v2,g1,g2,g3,g4,a,b⟩,good,c,ht⟩
theorem dm {H:Hp} {da pe p2:Addr} {X:Addr→Prop} {us:List V} {v2:V} {ds:List Lk} {tg:Str} {d2 d:PyData} (g2:H da=some (.lst us)) (nb:¬ X da) (g3:Paired (LkV K H) us ds) (g4:SqT K H pe [.str tg,v2]) (g5:SV K H v2 d2) (good:fh d ds tg d2) (ht:(PyData.str tg).canLay0=true) (hp:H p2=none):fm K (upd H p2 (.tup [.ref da,.ref pe])) X p2 d:=by
 have s:=smu (o:=HO.tup [.ref da,.ref pe]) hp;refine⟨da,pe,us,v2,ds,tg,d2,SqT.of pE,s _ _ g2,nb,aq g3 fun _ _ z=>z.tk s.tk,g4.tk s.tk,?_,good,ht⟩;cases g5 with
 | lk h=>exact .lk (h.tk s.tk)
 | str h=>exact .str h
theorem dw {H:Hp} {p p2:Addr} {X:Addr→Prop} {vb:V} {d:PyData} (td:TD K H vb d) (gr:Gr 6 [] d) (due:fm K H X p2 d) (hp:H p=none):cs K (upd H p (.tup [vb,.ref p2])) X (.ref p):=by
 have s:=smu (o:=HO.tup [vb,.ref p2]) hp;exact .mk (SqT.of pE) (td.same s) gr (due.mv (fun a u _ e=>s a u e) s.tk)
theorem bk:(PyData.str "back").canLay0=true:=by decide +kernel
theorem fk:(PyData.str "fault").canLay0=true:=by decide +kernel
abbrev sGt:Stmt:=top 59
inductive qX (K:Fg) (vs:List V) (H:Hp) (Q:VK):Prop
  | mk (v:V) (t:Th) (k:Int) (h0:vs=[v,.int k]) (h1:TD K H v (thD t)) (h2:br t) (q:∀ p2 H',ai H H'→(∀ X:Addr→Prop,(∀ a,X a→H a≠none)→fm K H' X p2 (ck k 0 (thD t)))→Q (.ref p2) H'):qX K vs H Q
def uo (K:Fg):Sp:=fun vs H Q _=>qX K vs H Q
theorem vD (D:Def K mg "_law_got" sGt):Fn P w K mg base "_law_got" 1 ["_law_one","_law_record"] (uo K):=by
 refine D.fn (N:=["_law_one","_law_record"]) fsM (fun vs H Q E h=>?_) (fun _ _ _ _ _ _ us hl=>by obtain⟨a,b,rfl⟩:=dW hl;rfl) (fun f' cdv A outer s' H vs Q E hr h=>?_)
 · obtain⟨v,t,k,rfl,_⟩:=h;rfl
 · obtain⟨v,t,k,rfl,tv,ok,q⟩:=h;refine⟨_,(@pD _ _ _ _ _ (@aw _ _ _ _ _ _ _ _ (PW.pt (dP (@pM _ _ _ _ _ _ _ _ aA (@ab _ _ _ _ _ _ _ ae (pv 0) pF (fun _ _=>rfl)) pC (pN _)) (cM (@pM _ _ _ _ _ _ _ _ aA (@ab _ _ _ _ _ _ _ ae (pv 0) pF (fun _ _=>rfl)) (pv 1) (pN _))))) (@pG _ _ _ (@af _ _ _ _ (@aa _ _ _ _ _ (@pA _ _ _ _ _ (@aU _ _ _ _ pB) (@pA _ _ _ _ _ (@aa _ _ _ _ _ (@pA _ _ _ _ _ pC (@pA _ _ _ _ _ (@ab _ _ _ _ _ _ _ ae (@ab _ _ _ _ _ _ _ ae (@ab _ _ _ _ _ _ _ ae (pv 0) pF (fun _ _=>rfl)) pF (fun _ _=>rfl)) pF (fun _ _=>rfl)) pB (by rfl)) (by rfl))) pB (by rfl)) (by rfl))))) aj) (@pG _ _ _ (@af _ _ _ _ (@aa _ _ _ _ _ (@pA _ _ _ _ _ (@aU _ _ _ _ pB) (@pA _ _ _ _ _ (@aa _ _ _ _ _ (@pA _ _ _ _ _ pC (@pA _ _ _ _ _ pC pB (by rfl)) (by rfl))) pB (by rfl)) (by rfl)))))),?_⟩;obtain⟨gd,bd⟩:=nq (k:=k) ok;refine ac fun ik ee=>?_;have out:(∀ i,vlT t≠.made k i)→ik [some v,some (.int k)] H:=fun z=>by
    refine ee _ _ ⟨i7,fun p1 hp1=>⟨bA,fun p2 hp2=>⟨bA,fun p3 hp3=>?_⟩⟩⟩;have s1:=smu (o:=HO.lst []) hp1;have s2:=smu (o:=HO.tup [.str "fault",.str "field"]) hp2;exact q p3 _ ((s1.trans s2).trans (smu hp3)) fun X hX=>dm (ds:=[]) (s2 _ _ pE) (fun x=>hX _ x hp1) .nil (SqT.of pE) (.str (by decide +kernel)) (bd z) fk hp3
   cases thv tv with
   | @num a i h=>exact⟨_,rfl,a,_,_,_,rfl,rfl,h,aX,rfl,_,rfl,aP (aP (out fun i z=>(by cases z)))⟩
   | @row a b vs is h hb hv=>exact⟨_,rfl,a,_,_,_,rfl,rfl,h,aX,rfl,_,rfl,aP (aP (out fun i z=>(by cases z)))⟩
   | @fn a b v ids h hb=>exact⟨_,rfl,a,_,_,_,rfl,rfl,h,aX,rfl,_,rfl,aP (aP (out fun i z=>(by cases z)))⟩
   | @new a b v1 r i h hb hv =>
    refine⟨_,rfl,a,_,_,_,rfl,rfl,h,aX,rfl,_,rfl,aW ⟨_,rfl,a,_,_,_,rfl,rfl,h,eR,_,rfl,rfl,_,rfl,?_⟩⟩;by_cases e:r=k
    · subst e;refine pJ (by simp) ⟨i7,fun p1 hp1=>?_⟩;have s1:=smu (o:=HO.lst []) hp1;obtain⟨na,ns,rfl,hna,hns⟩:=(show TD K H v1 (.tuple [.str "number",.int i]) from hv).tup_of;obtain⟨n1,n2,rfl,w1,w2⟩:=em hns;cases w2;refine⟨_,rfl,a,_,_,_,rfl,rfl,h.tk s1.tk,jR,b,_,_,_,rfl,rfl,hb.tk s1.tk,aX,na,_,_,_,rfl,rfl,hna.tk s1.tk,eR,bA,fun p2 hp2=>⟨bA,fun p3 hp3=>?_⟩⟩;have s2:=smu (o:=HO.tup [.str "back",.int i]) hp2;exact q p3 _ ((s1.trans s2).trans (smu hp3)) fun X hX=>dm (ds:=[]) (s2 _ _ pE) (fun x=>hX _ x hp1) .nil (SqT.of pE) (.lk (.int i)) (gd i rfl) bk hp3
    · exact pI (by simpa using e) (out fun i z=>by cases z;exact e rfl)
abbrev sAp:Stmt:=top 60
abbrev nAp:List Str:=["_law_one","_law_other","_law_many","_law_due","_law_says"]
inductive rm (K:Fg) (vs:List V) (H:Hp) (Q:VK):Prop
  | mk (v u:V) (t o:Th) (k:Nat) (h0:vs=[v,u,.int ((k:Nat):Int)]) (h1:TD K H v (thD t)) (h2:TD K H u (thD o)) (h3:br t) (h4:br o) (h5:k≤2) (q:∀ a H',ai H H'→(∀ X:Addr→Prop,(∀ a,X a→H a≠none)→cs K H' X (.ref a))→Q (.ref a) H'):rm K vs H Q
def uy (K:Fg):Sp:=fun vs H Q _=>rm K vs H Q
theorem vP (D:Def K mg "_law_applied" sAp) (T:Blt mg) (bO:Fn P w K mg base "_law_look" 1 ["_law_e"] (km K)):Fn P w K mg base "_law_applied" 2 ["_law_one","_law_other","_law_many"] (uy K):=by
 have nd:(nAp:List Str).Nodup:=by decide +kernel
 refine D.fn (N:=nAp) ⟨rfl,rfl,rfl,nd,rfl,by decide +kernel,by decide +kernel⟩ (fun vs H Q E h=>?_) (fun _ _ _ _ _ _ us hl=>by obtain⟨a,b,d,rfl⟩:=dU hl;rfl) (fun f' cdv A outer s' H vs Q E hr h=>?_)
 · obtain⟨v,u,t,o,k,rfl,_⟩:=h;rfl
 · obtain⟨v,u,t,o,k,rfl,tv,tu,okt,oko,hk2,q⟩:=h;refine⟨_,(@pD _ _ _ _ _ (@pL _ _ 3 _ _ _ _ nd rfl (Or.inl rfl) (@aa _ _ _ _ _ (@pA _ _ _ _ _ pC (@pA _ _ _ _ _ pC pB (by rfl)) (by rfl))) (by rfl) (by exact Or.inl rfl)) (@pD _ _ _ _ _ (@aw _ _ _ _ _ _ _ _ (PW.pt (dP (@pM _ _ _ _ _ _ _ _ aA (@ab _ _ _ _ _ _ _ ae (pv 0) pF (fun _ _=>rfl)) pC (pN _)) (cM (@pM _ _ _ _ _ _ _ _ aA (bX T.len (@pA _ _ _ _ _ (@ab _ _ _ _ _ _ _ ae (pv 0) pF (fun _ _=>rfl)) pB (by rfl))) (pv 2) (pN _))))) (@pG _ _ _ (@pL _ _ 3 _ _ _ _ nd rfl (Or.inl rfl) (@aa _ _ _ _ _ (@pA _ _ _ _ _ pC (@pA _ _ _ _ _ pF pB (by rfl)) (by rfl))) (by rfl) (by exact Or.inl rfl))) aj) (@pD _ _ _ _ _ (@pL _ _ 4 _ _ _ _ nd rfl (Or.inl rfl) (@au _ _ _ _ _ _ _ _ su (@aU _ _ _ _ (@pA _ _ _ _ _ (@ao _ _ _ _ _ _ _ _ _ _ bO (hr.mono (by decide)) rfl (@pA _ _ _ _ _ (pv 1) pB (by rfl)) (by decide) (by rfl) (by rfl)) pB (by rfl))) (pv 2)) (by rfl) (by exact Or.inl rfl)) (@pG _ _ _ (@af _ _ _ _ (@aa _ _ _ _ _ (@pA _ _ _ _ _ (@aa _ _ _ _ _ (@pA _ _ _ _ _ pC (@pA _ _ _ _ _ (pv 0) (@pA _ _ _ _ _ (@au _ _ _ _ _ _ _ _ oS (@aa _ _ _ _ _ (@pA _ _ _ _ _ (@aa _ _ _ _ _ (@pA _ _ _ _ _ pC (@pA _ _ _ _ _ (pv 1) pB (by rfl)) (by rfl))) pB (by rfl))) (pv 2)) pB (by rfl)) (by rfl)) (by rfl))) (@pA _ _ _ _ _ (@aa _ _ _ _ _ (@pA _ _ _ _ _ (pv 4) (@pA _ _ _ _ _ (pv 3) pB (by rfl)) (by rfl))) pB (by rfl)) (by rfl)))))))),?_⟩;obtain⟨gd,bd⟩:=nr (k:=k) okt oko hk2;refine ac fun ik ee=>?_;refine⟨bA,fun p0 hp0=>?_⟩;have s0:=smu (o:=HO.tup [.str "fault",.str "apply"]) hp0;have hp0':SqT K (upd H p0 (.tup [.str "fault",.str "apply"])) p0 [.str "fault",.str "apply"]:=SqT.of pE;refine ee _ _ (ac fun kJ gw=>?_);generalize upd H p0 (.tup [.str "fault",.str "apply"])=H0 at s0 hp0' ⊢;have bQ:∀ (H1:Hp) (pe:Addr) (tg:Str) (v2:V) (d2:PyData),ai H H1→SqT K H1 pe [.str tg,v2]→SV K H1 v2 d2→(PyData.str tg).canLay0=true→fh (cD (thD t) (List.replicate k (aI (thD o)))) (List.replicate k (lk (vlT o))) tg d2→kJ [some v,some u,some (.int ((k:Nat):Int)),some (.ref pe),none] H1:=fun H1 pe tg v2 d2 s1 hpe sv ht good=>by
    refine gw _ _ (ac fun pf iW=>?_);refine⟨_,rfl,u,o,rfl,tu.same s1,oko,fun lv H2 s2 hlv=>?_⟩;refine⟨jd,fun L0 hL0=>?_⟩;have s3:=smu (o:=HO.lst [lv]) hL0;refine⟨_,rfl,L0,_,[lv],rfl,rfl,pE,by omega,by omega,?_,fun L hL=>?_⟩
    · rw[Int.toNat_natCast];have:(1000:Nat)<sizeLine:=by decide
      show 1*k≤sizeLine;omega
    rw[Int.toNat_natCast] at *;have fr:(List.replicate k [lv]).flatten=List.replicate k lv:=by
     clear hL hk2 gd bd good
     induction k with
     | zero=>rfl
     | succ k ih=>rw[List.replicate_succ,List.flatten_cons,ih,List.replicate_succ];rfl
    rw[fr] at *;have s4:=smu (o:=HO.lst (List.replicate k lv)) hL;have hL4:(upd (upd H2 L0 (.lst [lv])) L (.lst (List.replicate k lv))) L=some (.lst (List.replicate k lv)):=pE;have Lf:H L=none:=by
     cases e:H L with
     | none=>rfl
     | some z=>rw[s3 _ _ (s2 _ _ (s1 _ _ e))] at hL;cases hL
    have S4:=(s2.trans s3).trans s4;generalize upd (upd H2 L0 (.lst [lv])) L (.lst (List.replicate k lv))=H4 at hL4 S4 s4 ⊢;refine iW _ _ ?_;have SH4:=s1.trans S4;have lv4:LkV K H4 lv (lk (vlT o)):=hlv.tk (s3.trans s4).tk;refine⟨_,rfl,_,rfl,bA,fun p5 hp5=>⟨jd,fun p6 hp6=>?_⟩⟩;have s5:=smu (o:=HO.tup [.str "say",u]) hp5;have t5:TD K (upd H4 p5 (.tup [.str "say",u])) (.ref p5) (aI (thD o)):=td2 (.str "say") (tu.same SH4) hp5;have s6:=smu (o:=HO.tup [.ref p5]) hp6;have t6:TD K (upd (upd H4 p5 (.tup [.str "say",u])) p6 (.tup [.ref p5])) (.ref p6) (.tuple [aI (thD o)]):=.tup (SqT.of pE) (.cons (t5.same s6) .nil);have last:∀ (pr:Addr) (H7:Hp),ai (upd (upd H4 p5 (.tup [.str "say",u])) p6 (.tup [.ref p5])) H7→TD K H7 (.ref pr) (.tuple (List.replicate k (aI (thD o))))→∀ p8,H7 p8=none→∀ p9,(upd H7 p8 (.tup [.str "apply",v,.ref pr])) p9=none→∀ p10,(upd (upd H7 p8 (.tup [.str "apply",v,.ref pr])) p9 (.tup [.ref L,.ref pe])) p10=none→Q (.ref p10) (upd (upd (upd H7 p8 (.tup [.str "apply",v,.ref pr])) p9 (.tup [.ref L,.ref pe])) p10 (.tup [.ref p8,.ref p9])):=fun pr H7 s7 tr p8 hp8 p9 hp9 p10 hp10=>by
     have s8:=smu (o:=HO.tup [.str "apply",v,.ref pr]) hp8;have S47:=(s5.trans s6).trans s7;have S8:=S47.trans s8;have t8:TD K (upd H7 p8 (.tup [.str "apply",v,.ref pr])) (.ref p8) (cD (thD t) (List.replicate k (aI (thD o)))):=td3 (.str "apply") (tv.same (SH4.trans S47)) tr hp8;have s9:=smu (o:=HO.tup [.ref L,.ref pe]) hp9;refine q p10 _ ((SH4.trans S8).trans (s9.trans (smu hp10))) fun X hX=>?_;refine dw (t8.same s9) ?_ (dm (S8 _ _ hL4) (fun x=>hX _ x Lf) ?_ (hpe.tk (S4.trans S8).tk) ?_ good ht hp9) hp10
     · refine dL (.app _ _) (by rw[List.length_cons,List.length_replicate];omega) (by show ("apply":Str)≠"name";decide +kernel) fun x hx M=>?_
       rcases List.mem_cons.mp hx with rfl | hx
       · exact hC _ _ okt
       · rw[(List.mem_replicate.mp hx).2];exact ip _ _ oko
     · have l8:=lv4.tk S8.tk;clear hL4 fr gd bd good s4 hL tr t8 hp9 hp10 s9
       revert l8
       generalize upd H7 p8 (.tup [.str "apply",v,.ref pr])=H8;intro l8;clear hk2
       induction k with
       | zero=>exact .nil
       | succ k ih=>exact .cons l8 ih
     · cases sv with
       | lk h=>exact .lk (h.tk (S4.trans S8).tk)
       | str h=>exact .str h
    have h6':SqT K (upd (upd H4 p5 (.tup [.str "say",u])) p6 (.tup [.ref p5])) p6 [.ref p5]:=SqT.of pE;have t5':=t5.same s6;generalize upd (upd H4 p5 (.tup [.str "say",u])) p6 (.tup [.ref p5])=H6 at t6 last h6' t5' ⊢;refine⟨_,rfl,p6,_,.ref p5,rfl,rfl,h6',?_⟩;have hk3:k=0∨k=1∨k=2:=by omega
    rcases hk3 with rfl | rfl | rfl
    · exact .inr (.inl ⟨rfl,fun p7 hp7=>⟨fN,fun p8 hp8=>⟨_,rfl,_,rfl,bA,fun p9 hp9=>⟨bA,fun p10 hp10=>last p7 _ (smu hp7) (.tup (SqT.of pE) .nil) p8 hp8 p9 hp9 p10 hp10⟩⟩⟩⟩)
    · exact .inl ⟨rfl,⟨fN,fun p8 hp8=>⟨_,rfl,_,rfl,bA,fun p9 hp9=>⟨bA,fun p10 hp10=>last p6 _ (ai.refl _) t6 p8 hp8 p9 hp9 p10 hp10⟩⟩⟩⟩
    · exact .inr (.inr ⟨rfl,fun p7 hp7=>⟨fN,fun p8 hp8=>⟨_,rfl,_,rfl,bA,fun p9 hp9=>⟨bA,fun p10 hp10=>last p7 _ (smu hp7) (.tup (SqT.of pE) (.cons (t5'.same (smu hp7)) (.cons (t5'.same (smu hp7)) .nil))) p8 hp8 p9 hp9 p10 hp10⟩⟩⟩⟩)
   have tv0:=tv.same s0;have bad:(¬ ∃ ids,t=.fn ids∧ids.length=k)→kJ [some v,some u,some (.int ((k:Nat):Int)),some (.ref p0),none] H0:=fun z=>bQ H0 p0 "fault" _ _ s0 hp0' (.str (by decide +kernel)) fk (bd z);cases thv tv0 with
   | @num a i h=>exact⟨_,rfl,a,_,_,_,rfl,rfl,h,aX,rfl,_,rfl,aP (aP (bad fun ⟨_,z,_⟩=>(by cases z)))⟩
   | @row a b vs is h hb hv=>exact⟨_,rfl,a,_,_,_,rfl,rfl,h,aX,rfl,_,rfl,aP (aP (bad fun ⟨_,z,_⟩=>(by cases z)))⟩
   | @new a b v1 r i h hb hv=>exact⟨_,rfl,a,_,_,_,rfl,rfl,h,aX,rfl,_,rfl,aP (aP (bad fun ⟨_,z,_⟩=>(by cases z)))⟩
   | @fn a b v' ids h hb =>
    refine⟨_,rfl,a,_,_,_,rfl,rfl,h,aX,rfl,_,rfl,aW ⟨_,rfl,a,_,_,_,rfl,rfl,h,eR,b,_,rfl,.inr hb,_,rfl,rfl,_,rfl,?_⟩⟩;rw[lMp];by_cases e:ids.length=k
    · refine pJ (by simp[e]) ⟨bA,fun p hp=>?_⟩;exact bQ _ p "back" (.int 5) _ (s0.trans (smu hp)) (SqT.of pE) (.lk (.int 5)) bk (gd ⟨ids,rfl,e⟩)
    · exact pI (by simpa using fun z=>e (by omega)) (bad fun ⟨_,z,y⟩=>by cases z;exact e y)
end
section
variable {P:Program} {w:World} {K:Fg} {mg:SOV} {base:Heap}
abbrev sRw:Stmt:=top 58
abbrev nRw:List Str:=["_law_one","_law_other","_law_many","_law_es"]
inductive qL (K:Fg) (vs:List V) (H:Hp) (Q:VK):Prop
  | mk (v u:V) (t o:Th) (k:Nat) (h0:vs=[v,u,.int ((k:Nat):Int)]) (h1:TD K H v (thD t)) (h2:TD K H u (thD o)) (h3:br t) (h4:br o) (h5:k≤8) (q:∀ a H',ai H H'→(∀ X:Addr→Prop,(∀ a,X a→H a≠none)→cs K H' X (.ref a))→Q (.ref a) H'):qL K vs H Q
def ud (K:Fg):Sp:=fun vs H Q _=>qL K vs H Q
theorem sQ:(["_law_k","_law_one","_law_other"]:List Str).Nodup:=by decide +kernel
theorem vU:(["_law_e"]:List Str).Nodup:=by decide +kernel
abbrev teR (K:Fg):TE:=tOp (sg K) (rL (dI (cu 1) (dI (cu 2) gx))) (tOp (rI (fun _ j=>0<j) fun i j=>V.int (i % j)) (cu 0) (tC (.int 2)))
theorem v8 (D:Def K mg "_law_row" sRw) (T:Blt mg) (bP:Fn P w K mg base "_law_worth" 1 ["_law_e"] (oB K)):Fn P w K mg base "_law_row" 2 ["_law_one","_law_other","_law_many"] (ud K):=by
 have nd:(nRw:List Str).Nodup:=by decide +kernel
 refine D.fn (N:=nRw) ⟨rfl,rfl,rfl,nd,rfl,by decide +kernel,by decide +kernel⟩ (fun vs H Q E h=>?_) (fun _ _ _ _ _ _ us hl=>by obtain⟨a,b,d,rfl⟩:=dU hl;rfl) (fun f' cdv A outer s' H vs Q E hr h=>?_)
 · obtain⟨v,u,t,o,k,rfl,_⟩:=h;rfl
 · obtain⟨v,u,t,o,k,rfl,tv,tu,okt,oko,hk8,q⟩:=h;have hz0:(1000:Nat)<sizeLine:=by decide
   refine⟨_,(@pD _ _ _ _ _ (@pL _ _ 3 _ _ _ _ nd rfl (Or.inl rfl) (cy T.tuple (pA (eI (own:=["_law_k"]) (outs:=[(0,"_law_one"),(1,"_law_other")]) (te:=teR K) rfl (bb.of (ak sRw) nRw) (bZ rfl T.range (pA (pv 2) pB)) (fun _ _ _ _=>⟨(ar (i:=0) sQ rfl (Or.inl rfl)),bU,(ab aE (aU (pA (pv 1) (pA (pv 2) pB))) (au cQ (pv 0) pF) (fun _ _=>rfl))⟩)) pB)) (by rfl) (by exact Or.inl rfl))
 (pG (af (@aa _ _ _ _ _ (@pA _ _ _ _ _ (@aa _ _ _ _ _ (@pA _ _ _ _ _ pC (@pA _ _ _ _ _ pC (@pA _ _ _ _ _ (pv 3) pB (by rfl)) (by rfl)) (by rfl))) (@pA _ _ _ _ _ (@aa _ _ _ _ _ (@pA _ _ _ _ _ (aU pB) (@pA _ _ _ _ _ (@aa _ _ _ _ _ (@pA _ _ _ _ _ pC (@pA _ _ _ _ _ (cy T.tuple (pA (eI (own:=["_law_e"]) (outs:=[]) rfl (bb.of (ak sRw) nRw) (d8 (pv 3)) (fun _ _ _ _=>⟨(ar (i:=0) vU rfl (Or.inl rfl)),bU,(ao bP (hr.mono (by decide)) rfl (pA (pv 0) pB))⟩)) pB)) pB (by rfl)) (by rfl))) pB (by rfl)) (by rfl))) pB (by rfl)) (by rfl)))))),?_⟩
   refine ac fun ik ee=>?_;rw[jn,fT,aG,eC];refine⟨_,rfl,_,rfl,by omega,by omega,fun G hG=>?_⟩;rw[show ((k:Nat):Int).toNat=k from Int.toNat_natCast _];have k0':=smu (o:=HO.lst []) hG;refine bW.by (bN (n:=k)) (fun j σ Hj=>(ai H Hj∧∃ (ys:List V) (ts:List Th),Hj G=some (.lst ys)∧TDs K Hj ys (ts.map thD)∧ts.length=j∧∀ x∈ts,br x)∧∃ y,σ=[y,some v,some u]) ⟨⟨k0',[],[],pE,.nil,rfl,fun _ h=>(by cases h)⟩,_,rfl⟩ (fun _ _ _ _ _=>trivial) ?_ ?_
   · rintro j x σ Hj hx ⟨⟨sj,ys,ts,hGj,hts,hl,hok⟩,y,rfl⟩;have hj:j<k:=by have:=(gES.mp hx).1;rwa [bz] at this
     have:=eB hx;subst this;rw[cg,d7];refine aW ⟨_,rfl,_,rfl,bA,fun L hL=>?_⟩;have s1:=smu (o:=HO.lst [v,u]) hL;have hL1:(upd Hj L (.lst [v,u])) L=some (.lst [v,u]):=pE;have hG1:=s1 _ _ hGj;have yl:=hts.length;rw[lMp] at yl;have S1:=sj.trans s1;have go:∀ (z:V) (x:Th),TD K (upd Hj L (.lst [v,u])) z (thD x)→br x→(ai H (upd (upd Hj L (.lst [v,u])) G (.lst (ys++[z])))∧∃ (ys':List V) (ts':List Th),(upd (upd Hj L (.lst [v,u])) G (.lst (ys++[z]))) G=some (.lst ys')∧TDs K (upd (upd Hj L (.lst [v,u])) G (.lst (ys++[z]))) ys' (ts'.map thD)∧ts'.length=j+1∧∀ x∈ts',br x):=fun z x tz okx=>⟨fun a w e=>by rw[a0 (ah e hG)];exact S1 _ _ e,ys++[z],ts++[x],pE,by rw[List.map_append];exact ((hts.same s1).snoc tz).tk (i8 (.inr ⟨_,hG1⟩)),by simp[hl],fun x' hx'=>by
       rcases mAp.mp hx' with h | h
       · exact hok x' h
       · rw[mSg.mp h];exact okx⟩
     refine⟨_,rfl,_,_,rfl,rfl,by decide,?_⟩;have hm:((j:Nat):Int) % 2=0∨((j:Nat):Int) % 2=1:=by omega
     rcases hm with e | e
     · rw[e];exact⟨L,_,_,_,rfl,rfl,SqL.of hL1,aX,ys,hG1,by omega,go v t (tv.same S1) okt,_,rfl⟩
     · rw[e];exact⟨L,_,_,_,rfl,rfl,SqL.of hL1,eR,ys,hG1,by omega,go u o (tu.same S1) oko,_,rfl⟩
   · rintro σ H1 ⟨⟨s1,ys,ts,hG1,hts,hl,hok⟩,y,rfl⟩;rw[bz] at hl;refine⟨G,_,rfl,.inl ⟨SqL.of hG1,fun F hF=>?_⟩⟩;have s2:=smu (o:=HO.tup ys) hF;have tF:TD K (upd H1 F (.tup ys)) (.ref F) (.tuple (ts.map thD)):=.tup (SqT.of pE) (hts.same s2);have hF2:SqT K (upd H1 F (.tup ys)) F ys:=SqT.of pE;have hts2:=hts.same s2;refine ee _ _ ?_;have S2:=s1.trans s2;generalize upd H1 F (.tup ys)=H2 at tF hF2 hts2 S2 ⊢;rw[fS,cL,aG,cL,aG,li,aG,li,aG,jm];refine⟨_,rfl,fN,fun p1 hp1=>?_⟩;have s3:=smu (o:=HO.tup [.str "op",.str "row",.ref F]) hp1;have t3:TD K (upd H2 p1 (.tup [.str "op",.str "row",.ref F])) (.ref p1) (opE "row" (ts.map thD)):=td3 (.str "op") (.str "row") tF hp1;have hF3:=hF2.tk s3.tk;have hts3:=hts2.same s3;have S3:=S2.trans s3;generalize upd H2 p1 (.tup [.str "op",.str "row",.ref F])=H3 at t3 hF3 hts3 S3 ⊢;dsimp only;rw[aG,cL,aG,mx,rZ];refine⟨i7,fun L hL=>?_⟩;have s4:=smu (o:=HO.lst []) hL;have hL4:(upd H3 L (.lst [])) L=some (.lst []):=pE;have Lf:H L=none:=by
      cases e:H L with
      | none=>rfl
      | some z=>rw[S3 _ _ e] at hL;cases hL
     have t4:=t3.same s4;have hF4:=hF3.tk s4.tk;have hts4:=hts3.same s4;have S4:=S3.trans s4;generalize upd H3 L (.lst [])=H4 at hL4 t4 hF4 hts4 S4 ⊢;rw[aG,cL,aG,li,aG,fT,aG,eC];refine⟨_,rfl,F,rfl,⟨_,hF4⟩,fun G2 hG2=>?_⟩;have yl:=hts4.length;rw[lMp] at yl;have k5:=smu (o:=HO.lst []) hG2;refine bW.by (bL (xs:=ys)) (fun i σ Hi=>ai H4 Hi∧Hi G2=some (.lst ((((ts.map vlT).map wth).take i).map V.int))∧∃ y,σ=[y]) ⟨k5,pE,_,rfl⟩ (fun _ _ _ _ z=>hF4.tk z.1.tk) ?_ ?_
     · rintro i x σ Hi hx ⟨si,hGi,y,rfl⟩;have hi:i<ys.length:=(gES.mp hx).1;have hi2:i<ts.length:=by omega
       obtain⟨d,hd,td⟩:=hts4.get hx;rw[gEM,gEE hi2] at hd;cases hd;rw[cg,d7];refine aW ⟨_,rfl,x,ts[i],rfl,td.same si,_,hGi,?_,fun c v e=>?_,?_,_,rfl⟩
       · simp only[lMp,lTk];omega
       · rw[a0 (ah e hG2)];exact si _ _ e
       · rw[pE,tAO,gEM,gEM,gEE hi2,List.map_append];rfl
     · rintro σ H5 ⟨s5,hG5,y,rfl⟩;have et:((ts.map vlT).map wth).take ys.length=(ts.map vlT).map wth:=List.take_of_length_le (by rw[lMp,lMp];omega);rw[et] at hG5;refine⟨G2,_,rfl,.inl ⟨SqL.of hG5,fun F2 hF2'=>?_⟩⟩;have s6:=smu (o:=HO.tup (((ts.map vlT).map wth).map V.int)) hF2';have l6:LkV K (upd H5 F2 (.tup (((ts.map vlT).map wth).map V.int))) (.ref F2) (.tup ((ts.map vlT).map wth)):=.tup (SqT.of pE);have S6:=s5.trans s6;generalize upd H5 F2 (.tup (((ts.map vlT).map wth).map V.int))=H6 at l6 S6 ⊢;refine⟨bA,fun p4 hp4=>⟨bA,fun p5 hp5=>⟨bA,fun p6 hp6=>?_⟩⟩⟩;have s7:=smu (o:=HO.tup [.str "back",.ref F2]) hp4;have s8:=smu (o:=HO.tup [.ref L,.ref p4]) hp5;have good:=kO (s:="row") hok (.row _) (by omega);have er:rsD "row" (ts.map vlT)=(("back":Str),lkD (.tup ((ts.map vlT).map wth))):=by
        rw[bt (df (by decide +kernel) (by decide +kernel))];unfold opV;rw[if_pos rfl];rfl
       rw[er] at good;exact q p6 _ ((S4.trans S6).trans ((s7.trans s8).trans (smu hp6))) fun X hX=>dw (t4.same ((S6.trans s7).trans s8)) (qD hok (by omega)) (dm (ds:=[]) (s7 _ _ (S6 _ _ hL4)) (fun x=>hX _ x Lf) .nil (SqT.of pE) (.lk (l6.tk s7.tk)) good bk hp5) hp6
end
section
variable {P:Program} {w:World} {K:Fg} {mg:SOV} {base:Heap}
abbrev sFl:Stmt:=top 61
abbrev nFl:List Str:=["_law_one","_law_other","_law_way","_law_first","_law_loop","_law_numbers"]
inductive nV (K:Fg) (vs:List V) (H:Hp) (Q:VK):Prop
  | mk (v u:V) (t o:Th) (h0:vs=[v,u]) (h1:TD K H v (thD t)) (h2:TD K H u (thD o)) (h3:br t) (h4:br o) (q:∀ L a1 a2 H',ai H H'→H L=none→H' L=some (.lst [.ref a1,.ref a2])→(∀ X:Addr→Prop,(∀ a,X a→H a≠none∨a=L)→cs K H' X (.ref a1)∧cs K H' X (.ref a2))→Q (.ref L) H'):nV K vs H Q
def qt (K:Fg):Sp:=fun vs H Q _=>nV K vs H Q
theorem vS:(["_law_number_here"]:List Str).Nodup:=by decide +kernel
theorem px {H1:Hp} {b:Addr} {is:List Int} {Q:VK} {y0:Option V} (hb:H1 b=some (.lst (is.map V.int))) (hl:is.length≤8) {G:Addr} (hG:H1 G=none)
 (q:∀ H',ai H1 H'→H' G=some (.lst ((is.map fun j=>tkn (j+1)).map V.int))→Q (.ref G) H'):bW (Itl K b) (hI 0) lY (kh lf [] E0 (dI (tOp (rI0 fun i j=>V.int (i+j)) (cu 0) (tC (.int 1))) gx)) Q [y0] H1 G:=by
 have hz0:(1000:Nat)<sizeLine:=by decide
 have k0:=smu (o:=HO.lst []) hG;refine bW.by (ce (xs:=is.map V.int)) (fun i σ Hi=>ai H1 Hi∧Hi G=some (.lst (((is.take i).map fun j=>tkn (j+1)).map V.int))∧∃ y,σ=[y]) ⟨k0,pE,_,rfl⟩ (fun _ _ _ _ z=>SqL.of (z.1 _ _ hb)) ?_ ?_
 · rintro i u σ Hi hu ⟨si,hGi,y,rfl⟩;have hi2:i<is.length:=by have:=(gES.mp hu).1;rwa [lMp] at this
   rw[gEM,gEE hi2] at hu;cases hu;rw[cg,d7];refine aW ⟨_,rfl,_,_,rfl,rfl,is[i]+1,rfl,_,hGi,?_,fun c v e=>?_,?_,_,rfl⟩
   · simp only[lMp,lTk];omega
   · rw[a0 (ah e hG)];exact si _ _ e
   · rw[pE,tAO,gEE hi2,List.map_append,List.map_append];rfl
 · rintro σ Hi ⟨si,hGi,y,rfl⟩;rw[lMp,List.take_length] at hGi;exact q Hi si hGi
theorem tW {t:Th} (h:br t):(rwo (vlT t)).length≤8:=by
 cases h with
 | row h hl=>exact hl
 | num h=>exact Nat.zero_le _
 | new hr h=>exact Nat.zero_le _
 | fn hl=>exact Nat.zero_le _
theorem sD (D:Def K mg "_law_flow" sFl) (T:Blt mg) (bP:Fn P w K mg base "_law_worth" 1 ["_law_e"] (oB K)) (bO:Fn P w K mg base "_law_look" 1 ["_law_e"] (km K)) (eU:Fn P w K mg base "_law_in" 1 ["_law_number_here"] lf):Fn P w K mg base "_law_flow" 2 ["_law_one","_law_other"] (qt K):=by
 have nd:(nFl:List Str).Nodup:=by decide +kernel
 refine D.fn (N:=nFl) ⟨rfl,rfl,rfl,nd,rfl,by decide +kernel,by decide +kernel⟩ (fun vs H Q E h=>?_) (fun _ _ _ _ _ _ us hl=>by obtain⟨a,b,rfl⟩:=dW hl;rfl) (fun f' cdv A outer s' H vs Q E hr h=>?_)
 · obtain⟨v,u,t,o,rfl,_⟩:=h;rfl
 · obtain⟨v,u,t,o,rfl,tv,tu,okt,oko,q⟩:=h;have hz0:(1000:Nat)<sizeLine:=by decide
   have r8:=tW okt;refine⟨_,(@pD _ _ _ _ _ (@pL _ _ 2 _ _ _ _ nd rfl (Or.inl rfl) (@aa _ _ _ _ _ (@pA _ _ _ _ _ pC (@pA _ _ _ _ _ (pv 0) (@pA _ _ _ _ _ (@aa _ _ _ _ _ (@pA _ _ _ _ _ pC (@pA _ _ _ _ _ (pv 1) pB (by rfl)) (by rfl))) (@pA _ _ _ _ _ (@aa _ _ _ _ _ (@pA _ _ _ _ _ pC (@pA _ _ _ _ _ pF pB (by rfl)) (by rfl))) pB (by rfl)) (by rfl)) (by rfl)) (by rfl))) (by rfl) (by exact Or.inl rfl))
 (@pD _ _ _ _ _ (@pL _ _ 3 _ _ _ _ nd rfl (Or.inl rfl) (@aN _ _ _ _ _ _ _ _ (@pM _ _ _ _ _ _ _ _ gR (@ao _ _ _ _ _ _ _ _ _ _ bP (hr.mono (by decide)) rfl (@pA _ _ _ _ _ (pv 0) pB (by rfl)) (by decide) (by rfl) (by rfl)) pF (pN _)) (@aa _ _ _ _ _ (@pA _ _ _ _ _ (@aU _ _ _ _ (@pA _ _ _ _ _ (@ao _ _ _ _ _ _ _ _ _ _ bO (hr.mono (by decide)) rfl (@pA _ _ _ _ _ (pv 1) pB (by rfl)) (by decide) (by rfl) (by rfl)) pB (by rfl))) (@pA _ _ _ _ _ (@aa _ _ _ _ _ (@pA _ _ _ _ _ pC (@pA _ _ _ _ _ (@ao _ _ _ _ _ _ _ _ _ _ bO (hr.mono (by decide)) rfl (@pA _ _ _ _ _ (pv 1) pB (by rfl)) (by decide) (by rfl) (by rfl)) pB (by rfl)) (by rfl))) pB (by rfl)) (by rfl))) (@aa _ _ _ _ _ (@pA _ _ _ _ _ (@aU _ _ _ _ pB) (@pA _ _ _ _ _ (@aa _ _ _ _ _ (@pA _ _ _ _ _ pC (@pA _ _ _ _ _ pF pB (by rfl)) (by rfl))) pB (by rfl)) (by rfl)))) (by rfl) (by exact Or.inl rfl))
 (@pD _ _ _ _ _ (@pL _ _ 4 _ _ _ _ nd rfl (Or.inl rfl) (@aa _ _ _ _ _ (@pA _ _ _ _ _ pC (@pA _ _ _ _ _ pF (@pA _ _ _ _ _ (pv 0) (@pA _ _ _ _ _ (@aa _ _ _ _ _ (@pA _ _ _ _ _ pC (@pA _ _ _ _ _ (@aa _ _ _ _ _ (@pA _ _ _ _ _ pC (@pA _ _ _ _ _ pC (@pA _ _ _ _ _ (@aa _ _ _ _ _ (@pA _ _ _ _ _ (@aa _ _ _ _ _ (@pA _ _ _ _ _ pC (@pA _ _ _ _ _ pF pB (by rfl)) (by rfl))) (@pA _ _ _ _ _ (@aa _ _ _ _ _ (@pA _ _ _ _ _ pC (@pA _ _ _ _ _ pF pB (by rfl)) (by rfl))) pB (by rfl)) (by rfl))) pB (by rfl)) (by rfl)) (by rfl))) pB (by rfl)) (by rfl))) pB (by rfl)) (by rfl)) (by rfl)) (by rfl))) (by rfl) (by exact Or.inl rfl))
 (@pD _ _ _ _ _ (@pL _ _ 5 _ _ _ _ nd rfl (Or.inl rfl) (aN (pM aA (ab ae (pv 0) pF (fun _ _=>rfl)) pC (pN _)) (eI (own:=["_law_e"]) (outs:=[]) (te:=tOp (lj K) (cu 0) (tC (.int 1))) rfl (bb.of (ak sFl) nFl) (d8 (ab ae (pv 0) pF (fun _ _=>rfl))) (fun _ _ _ _=>⟨(ar (i:=0) vU rfl (Or.inl rfl)),bU,(ab ae (pv 0) pF (fun _ _=>rfl))⟩)) (aU pB)) (by rfl) (by exact Or.inl rfl))
 (pG (af (@aU _ _ _ _ (@pA _ _ _ _ _ (@aa _ _ _ _ _ (@pA _ _ _ _ _ (pv 2) (@pA _ _ _ _ _ (pv 3) pB (by rfl)) (by rfl))) (@pA _ _ _ _ _ (@aa _ _ _ _ _ (@pA _ _ _ _ _ (pv 4) (@pA _ _ _ _ _ (@aa _ _ _ _ _ (@pA _ _ _ _ _ (eI (own:=["_law_number_here"]) (outs:=[]) rfl (bb.of (ak sFl) nFl) (eF (pv 5)) (fun _ _ _ _=>⟨(ar (i:=0) vS rfl (Or.inl rfl)),bU,(ao eU (hr.mono (by decide)) rfl (pA (au cz (pv 0) pF) pB))⟩)) (@pA _ _ _ _ _ (@aa _ _ _ _ _ (@pA _ _ _ _ _ pC (@pA _ _ _ _ _ pF pB (by rfl)) (by rfl))) pB (by rfl)) (by rfl))) pB (by rfl)) (by rfl))) pB (by rfl)) (by rfl))))))))),?_⟩
   refine ac fun ik ee=>?_;refine⟨_,rfl,_,rfl,bA,fun p1 hp1=>⟨bA,fun p2 hp2=>⟨tS,fun p3 hp3=>?_⟩⟩⟩;have s1:=smu (o:=HO.tup [.str "say",u]) hp1;have s2:=smu (o:=HO.tup [.str "number",.int 3]) hp2;have s3:=smu (o:=HO.tup [.str "if",v,.ref p1,.ref p2]) hp3;have a1:TD K _ (.ref p1) (aI (thD o)):=td2 (.str "say") tu hp1;have a2:TD K _ (.ref p2) (num 3):=td2 (.str "number") (.int 3) hp2;have a3:TD K _ (.ref p3) (ifE (thD t) (aI (thD o)) (num 3)):=td4 (.str "if") (tv.same (s1.trans s2)) (a1.same s2) a2 hp3;have S3:=(s1.trans s2).trans s3;refine ee _ _ (ac fun kJ gw=>?_);generalize upd _ p3 _=H3 at a3 S3 ⊢;have good:=pO okt oko;have bQ:∀ (H4:Hp) (pd l0:Addr) (ob:HO),ai H3 H4→H l0=none→H4 l0=some ob→(∀ X:Addr→Prop,¬ X l0→fm K H4 X pd (ifE (thD t) (aI (thD o)) (num 3)))→kJ [some v,some u,some (.ref p3),some (.ref pd),none,none] H4:=fun H4 pd l0 ob s4 nl0 hl0 due=>by
    have S4:=S3.trans s4;refine gw _ _ (ac fun pf iW=>?_);refine⟨_,rfl,bA,fun q1 hq1=>⟨bA,fun q2 hq2=>⟨bA,fun q3 hq3=>⟨fN,fun q4 hq4=>⟨bA,fun q5 hq5=>⟨tS,fun q6 hq6=>?_⟩⟩⟩⟩⟩⟩;have z1:=smu (o:=HO.tup [.str "name",.int 0]) hq1;have z2:=smu (o:=HO.tup [.str "number",.int 1]) hq2;have z3:=smu (o:=HO.tup [.ref q1,.ref q2]) hq3;have z4:=smu (o:=HO.tup [.str "op",.str "add",.ref q3]) hq4;have z5:=smu (o:=HO.tup [.str "say",.ref q4]) hq5;have z6:=smu (o:=HO.tup [.str "each",.int 0,v,.ref q5]) hq6;have b1:TD K _ (.ref q1) (nam 0):=td2 (.str "name") (.int 0) hq1;have b2:TD K _ (.ref q2) (num 1):=td2 (.str "number") (.int 1) hq2;have b3:TD K _ (.ref q3) (.tuple [nam 0,num 1]):=td2 (b1.same z2) b2 hq3;have b4:TD K _ (.ref q4) (opE "add" [nam 0,num 1]):=td3 (.str "op") (.str "add") b3 hq4;have b5:TD K _ (.ref q5) (cq 0):=td2 (.str "say") b4 hq5;have Z5:=((z1.trans z2).trans z3).trans (z4.trans z5);have b6:TD K _ (.ref q6) (aQ 0 (thD t) (cq 0)):=td4 (.str "each") (.int 0) ((tv.same S4).same Z5) b5 hq6;have Z6:=Z5.trans z6;refine iW _ _ (ac fun qz nn=>?_);have S6:=S4.trans Z6;have hl6:=Z6 _ _ hl0;have due6:∀ X:Addr→Prop,¬ X l0→fm K (upd _ q6 (HO.tup [.str "each",.int 0,v,.ref q5])) X pd (ifE (thD t) (aI (thD o)) (num 3)):=fun X e=>(due X e).mv (fun a u _ e=>Z6 a u e) Z6.tk;have a6:=(a3.same s4).same Z6;generalize upd _ q6 _=H6 at b6 S6 due6 a6 hl6 ⊢;have last:∀ (H7:Hp) (L5:Addr),ai H6 H7→H7 L5=some (.lst ((rwo (vlT t)).map V.int))→qz [some v,some u,some (.ref p3),some (.ref pd),some (.ref q6),some (.ref L5)] H7:=fun H7 L5 s7 hL5=>by
     refine nn _ _ ?_;rw[fS,mx,aG,cL,aG,jm];refine⟨_,rfl,_,rfl,bA,fun r1 hr1=>?_⟩;have y1:=smu (o:=HO.tup [.ref p3,.ref pd]) hr1;have due7:∀ X:Addr→Prop,¬ X l0→fm K H7 X pd (ifE (thD t) (aI (thD o)) (num 3)):=fun X e=>(due6 X e).mv (fun a u _ e=>s7 a u e) s7.tk;have hl8:=y1 _ _ (s7 _ _ hl6);have w1:∀ X:Addr→Prop,¬ X l0→cs K (upd H7 r1 (.tup [.ref p3,.ref pd])) X (.ref r1):=fun X e=>dw (a6.same s7) (dL (.ife _ _ _) (by show 3≤8;decide) (by show ("if":Str)≠"name";decide +kernel) fun x hx M=>by
       rcases List.mem_cons.mp hx with rfl | hx
       · exact hC _ _ okt
       · rcases List.mem_cons.mp hx with rfl | hx
         · exact ip _ _ oko
         · rw[mSg.mp hx];exact fe _ _ _) (due7 X e) hr1
     have b7:=(b6.same s7).same y1;have hL8:=y1 _ _ hL5;have S8:=(S6.trans s7).trans y1;generalize upd H7 r1 (.tup [.ref p3,.ref pd])=H8 at w1 b7 hL8 S8 hl8 ⊢;dsimp only;rw[aG,cL,aG,jm];refine⟨_,rfl,?_⟩;rw[aG,cL,aG,eC];refine⟨_,rfl,L5,rfl,⟨_,SqL.of hL8⟩,fun G hG=>?_⟩;have Gf:H G=none:=by
      cases e:H G with
      | none=>rfl
      | some z=>rw[S8 _ _ e] at hG;cases hG
     refine px hL8 r8 hG fun H9 y9 hG9=>?_;refine⟨bA,fun r2 hr2=>⟨bA,fun r3 hr3=>⟨bA,fun r4 hr4=>⟨bA,fun r5 hr5=>?_⟩⟩⟩⟩;have x2:=smu (o:=HO.tup [.str "back",.int 0]) hr2;have x3:=smu (o:=HO.tup [.ref G,.ref r2]) hr3;have x4:=smu (o:=HO.tup [.ref q6,.ref r3]) hr4;have x5:=smu (o:=HO.lst [.ref r1,.ref r4]) hr5;have X:=y9.trans ((x2.trans x3).trans (x4.trans x5));have gE:=lD okt;refine q r5 r1 r4 _ (S8.trans X) ?_ pE fun Y hY=>⟨(w1 Y fun z=>(hY _ z).elim (fun h=>h nl0) fun h=>(by rw[← h] at hr5;rw[(y9.trans ((x2.trans x3).trans x4)) _ _ hl8] at hr5;cases hr5)).same X,?_⟩
     · cases e:H r5 with
       | none=>rfl
       | some z=>rw[x4 _ _ (x3 _ _ (x2 _ _ (y9 _ _ (S8 _ _ e))))] at hr5;cases hr5
     · refine cs.same ?_ x5;refine dw ((b7.same y9).same (x2.trans x3)) (pz okt) (dm (x2 _ _ hG9) (fun z=>(hY _ z).elim (fun h=>h Gf) fun h=>(by rw[← h] at hr5;rw[((x2.trans x3).trans x4) _ _ hG9] at hr5;cases hr5)) ?_ (SqT.of pE) (.lk (.int 0)) gE bk hr3) hr4;clear hG9 gE hL5 hL8 r8;generalize rwo (vlT t)=js
       induction js with
       | nil=>exact .nil
       | cons j r ih=>exact .cons (.int _) ih
    have tv6:=tv.same S6;cases thv tv6 with
    | @num a i h=>exact⟨_,rfl,a,_,_,_,rfl,rfl,h,aX,rfl,_,rfl,aP ⟨i7,fun p hp=>last _ p (smu hp) pE⟩⟩
    | @new a b v1 r i h hb hv=>exact⟨_,rfl,a,_,_,_,rfl,rfl,h,aX,rfl,_,rfl,aP ⟨i7,fun p hp=>last _ p (smu hp) pE⟩⟩
    | @fn a b v' ids h hb=>exact⟨_,rfl,a,_,_,_,rfl,rfl,h,aX,rfl,_,rfl,aP ⟨i7,fun p hp=>last _ p (smu hp) pE⟩⟩
    | @row a b vs is h hb hv =>
     cases okt with
     | row _ hl =>
      rw[jn,uH];refine⟨_,rfl,a,_,_,_,rfl,rfl,h,aX,rfl,_,rfl,aW ?_⟩;rw[eC];refine⟨_,rfl,a,_,_,_,rfl,rfl,h,jR,b,rfl,⟨_,hb⟩,fun G hG=>?_⟩;exact gT hb hv hl hG fun H' s' hG'=>last H' G s' hG'
   have tv3:=tv.same S3;have tu3:=tu.same S3;refine⟨_,rfl,v,t,rfl,tv3,rfl,_,rfl,?_⟩;by_cases e:wth (vlT t)=0
   · rw[if_pos e,if_pos e] at good;refine pI (by simp[e]) ⟨i7,fun l1 hl1=>⟨bA,fun l2 hl2=>⟨bA,fun l3 hl3=>?_⟩⟩⟩;have x1:=smu (o:=HO.lst []) hl1;have x2:=smu (o:=HO.tup [.str "back",.int 3]) hl2;have fl:H l1=none:=by
      cases e:H l1 with
      | none=>rfl
      | some z=>rw[S3 _ _ e] at hl1;cases hl1
     exact bQ _ l3 l1 _ ((x1.trans x2).trans (smu hl3)) fl (smu hl3 _ _ (x2 _ _ pE)) fun X e=>dm (ds:=[]) (x2 _ _ pE) e .nil (SqT.of pE) (.lk (.int 3)) good bk hl3
   · rw[if_neg e,if_neg e] at good;refine pJ (by simpa using e) ⟨_,rfl,u,o,rfl,tu3,oko,fun w1 H4 y4 lw1=>⟨jd,fun l1 hl1=>?_⟩⟩;have x1:=smu (o:=HO.lst [w1]) hl1;refine⟨_,rfl,u,o,rfl,(tu3.same y4).same x1,oko,fun w2 H5 y5 lw2=>⟨bA,fun l2 hl2=>⟨bA,fun l3 hl3=>?_⟩⟩⟩;have x2:=smu (o:=HO.tup [.str "back",w2]) hl2;have fl:H l1=none:=by
      cases e:H l1 with
      | none=>rfl
      | some z=>rw[y4 _ _ (S3 _ _ e)] at hl1;cases hl1
     exact bQ _ l3 l1 _ (((y4.trans x1).trans y5).trans (x2.trans (smu hl3))) fl (smu hl3 _ _ (x2 _ _ (y5 _ _ pE))) fun X e=>dm (ds:=[lk (vlT o)]) (x2 _ _ (y5 _ _ pE)) e (.cons (lw1.tk ((x1.trans y5).trans x2).tk) .nil) (SqT.of pE) (.lk (lw2.tk x2.tk)) good bk hl3
end
theorem rG {K:Fg} {H:Hp} {v:V} {d:PyData} (h:TD K H v d) (f:fF d):Ty3 K H v∧c8 K H v d:=by
 refine⟨?_,h.dat⟩;cases f with
 | int i=>cases h;exact .mk (.int i) (by decide)
 | str s=>cases h;exact .mk (.str _) (by decide)
 | tup is =>
  obtain⟨a,xs,rfl,ha,_⟩:=h.tup_of;exact .mk (.tup ha) (by decide)
theorem uE (s:Str) (xs:List Vl):fF (rsD s xs).2∧(PyData.str (rsD s xs).1).canLay0=true:=by
 cases e:opF s xs with
 | none=>rw[bt e];exact⟨iq _,bk⟩
 | some f =>
  rw[eu e];refine⟨.str ?_,fk⟩;unfold opF at e;split at e
  · cases e;decide +kernel
  · split at e
    · cases e;decide +kernel
    · cases e
abbrev ib:Stmt:=top 62
abbrev xu:List Str:=["_law_script","_law_box_here","_law_one","_law_other","_law_word","_law_wanted","_law_k","_law_looks","_law_body","_law_due"]
inductive nT (K:Fg) (vs:List V) (H:Hp) (Q:VK):Prop
  | mk (a:Addr) (ns:List Int) (g0_:vs=[.ref a]) (g1_:SqL K H a (ns.map V.int)) (g2_:ns.length≤63) (g3_:∀ H',Q (.bl true) H'):nT K vs H Q
def kn (K:Fg):Sp:=fun vs H Q _=>nT K vs H Q
theorem qv:bF xu ["_law_script"] (ak ib):=fsM
section
variable {P:Program} {w:World} {K:Fg} {mg:SOV} {base:Heap}
theorem mN {H5:Hp} {s:Str} {t o:Th} {ts:List Th} {p2 p3 L q:Addr} (ok:∀ t∈ts,br t) (hl:ts.length≤8) (oa:OpA s (ts.map vlT)) (xe:cK s (vlT t) (vlT o)=ts.map vlT) (td:TD K H5 (.ref p2) (opE s (ts.map thD))) (hp3:SqT K H5 p3 [.ref L,.ref q]) (hL:H5 L=some (.lst [])) (tq:TD K H5 (.ref q) (.tuple [.str (rsD s (cK s (vlT t) (vlT o))).1,(rsD s (cK s (vlT t) (vlT o))).2])) {Q:VK} (h:∀ H',ai H5 H'→Q (.bl true) H'):nU K [.ref p2,.ref p3] H5 Q:=by
 obtain⟨q',ys,e,hq,hy⟩:=tq.tup_of;cases e;obtain⟨y1,y2,rfl,t1,t2⟩:=em hy;cases t1;obtain⟨f2,ht⟩:=uE s (cK s (vlT t) (vlT o));obtain⟨ty,dv⟩:=rG t2 f2;have good:=kO ok oa hl;rw[← xe] at good;exact .mk (.ref p2) p3 _ [] _ _ rfl td (qD ok hl) ⟨L,q,[],y2,hp3,hL,.nil,hq,dv,ty⟩ good f2 ht h
structure Ws (K:Fg) (H:Hp) (b L:Addr) (v u:V) (t o:Th) (n:Nat):Prop where
  hL:∃ zs,H L=some (.lst zs)∧zs.length≤n∧∀ z∈zs,cs K H (fun a=>a=b∨a=L) z
  tv:TD K H v (thD t)
  tu:TD K H u (thD o)
  hb:H b≠none
theorem Ws.same {H H':Hp} {b L:Addr} {v u:V} {t o:Th} {n:Nat} (h:Ws K H b L v u t o n) (s:ai H H'):Ws K H' b L v u t o n:=by
 obtain⟨⟨zs,h1,h2,h3⟩,tv,tu,hb⟩:=h;refine⟨⟨zs,s _ _ h1,h2,fun z hz=>(h3 z hz).same s⟩,tv.same s,tu.same s,?_⟩;cases e:H b with
 | none=>exact absurd e hb
 | some z=>rw[s _ _ e];exact fun z=>nomatch z
theorem Ws.all {H:Hp} {b L:Addr} {v u:V} {t o:Th} {n:Nat} (h:Ws K H b L v u t o n):∀ a,(a=b∨a=L)→H a≠none:=fun a e=>by
 rcases e with rfl | rfl
 · exact h.hb
 · obtain⟨zs,h1,_⟩:=h.hL;rw[h1];exact fun z=>nomatch z
theorem Ws.app {H:Hp} {b L:Addr} {v u z:V} {t o:Th} {n:Nat} {zs:List V} (h:Ws K H b L v u t o n) (hz:cs K H (fun a=>a=b∨a=L) z) (e:H L=some (.lst zs)):Ws K (upd H L (.lst (zs++[z]))) b L v u t o (n+1):=by
 obtain⟨⟨zs',h1,h2,h3⟩,tv,tu,hb⟩:=h;rw[e] at h1;cases h1;have t:Tk H (upd H L (.lst (zs++[z]))):=i8 (.inr ⟨_,e⟩);have kp:∀ a u,¬ (a=b∨a=L)→H a=some u→(upd H L (.lst (zs++[z]))) a=some u:=fun a u n h=>by rw[a0 (fun z=>n (.inr z))];exact h
 refine⟨⟨zs++[z],pE,by rw[lAp];show zs.length+1≤n+1;omega,fun x hx=>?_⟩,tv.tk t,tu.tk t,?_⟩
 · rcases mAp.mp hx with hx | hx
   · exact (h3 x hx).mv kp t
   · rw[mSg.mp hx];exact hz.mv kp t
 · by_cases e2:b=L
   · rw[e2,pE];exact fun z=>nomatch z
   · rw[a0 e2];exact hb
theorem sC {f:Addr} {fd:FuncData} (F:Fun K "law" "law" ib f fd) (T:Blt mg)
 (lQ:Fn P w K mg base "_law_box" 1 ["_law_script","_law_k"] (uw K)) (aV:Fn P w K mg base "_law_take" 1 sh oz) (fA:Fn P w K mg base "_law_thing" 3 ["_law_box_here"] (ua K)) (bO:Fn P w K mg base "_law_look" 1 ["_law_e"] (km K)) (jb:Fn P w K mg base "_law_op" 2 ["_law_word","_law_one","_law_other"] (qr K)) (cW:Fn P w K mg base "_law_is_run" 10 ["_law_body","_law_due"] (um K))
 (jY:Fn P w K mg base "_law_flow" 2 ["_law_one","_law_other"] (qt K)) (lO:Fn P w K mg base "_law_row" 2 ["_law_one","_law_other","_law_many"] (ud K)) (gG:Fn P w K mg base "_law_applied" 2 ["_law_one","_law_other","_law_many"] (uy K)) (lP:Fn P w K mg base "_law_got" 1 ["_law_one","_law_record"] (uo K)):d0 P w K mg base CX0 11 f fd ["_law_script"] (kn K):=by
 refine F.ok qv (fun vs H Q E h=>?_) (fun cdv A outer s0 H vs Q E hr h=>?_)
 · obtain⟨a,ns,rfl,_⟩:=h;rfl
 · obtain⟨a,ns,rfl,hS,hlen,q⟩:=h;have nd:=qv.nd;have hz0:(4000000:Nat)<sizeLine:=by decide
   refine⟨_,(@pD _ _ _ _ _ (@pL _ _ 1 _ _ _ _ nd rfl (Or.inl rfl) (@ao _ _ _ _ _ _ _ _ _ _ lQ (hr.mono (by decide)) rfl (@pA _ _ _ _ _ (pv 0) (@pA _ _ _ _ _ pF pB (by rfl)) (by rfl)) (by decide) (by rfl) (by rfl)) (by rfl) (by exact Or.inl rfl)) (@pD _ _ _ _ _ (@pL _ _ 2 _ _ _ _ nd rfl (Or.inl rfl) (@ao _ _ _ _ _ _ _ _ _ _ fA (hr.mono (by decide)) rfl (@pA _ _ _ _ _ (pv 1) pB (by rfl)) (by decide) (by rfl) (by rfl)) (by rfl) (by exact Or.inl rfl)) (@pD _ _ _ _ _ (@pL _ _ 3 _ _ _ _ nd rfl (Or.inl rfl) (@ao _ _ _ _ _ _ _ _ _ _ fA (hr.mono (by decide)) rfl (@pA _ _ _ _ _ (pv 1) pB (by rfl)) (by decide) (by rfl) (by rfl)) (by rfl) (by exact Or.inl rfl)) (@pD _ _ _ _ _ (bS PassesOwn.never rfl (eF (@aU _ _ _ _ (@pA _ _ _ _ _ pC (@pA _ _ _ _ _ pC (@pA _ _ _ _ _ pC (@pA _ _ _ _ _ pC (@pA _ _ _ _ _ pC (@pA _ _ _ _ _ pC (@pA _ _ _ _ _ pC pB (by rfl)) (by rfl)) (by rfl)) (by rfl)) (by rfl)) (by rfl)) (by rfl)))) (ar (i:=4) nd rfl (Or.inl rfl)) (@pG _ _ _ (@aw _ _ _ _ _ _ _ _ (eY (cH (@ao _ _ _ _ _ _ _ _ _ _ cW (hr.mono (by decide)) rfl (@pA _ _ _ _ _ (@aa _ _ _ _ _ (@pA _ _ _ _ _ pC (@pA _ _ _ _ _ (pv 4) (@pA _ _ _ _ _ (@aa _ _ _ _ _ (@pA _ _ _ _ _ (pv 2) (@pA _ _ _ _ _ (pv 3) pB (by rfl)) (by rfl))) pB (by rfl)) (by rfl)) (by rfl))) (@pA _ _ _ _ _ (@aa _ _ _ _ _ (@pA _ _ _ _ _ (@aU _ _ _ _ pB) (@pA _ _ _ _ _ (@ao _ _ _ _ _ _ _ _ _ _ jb (hr.mono (by decide)) rfl (@pA _ _ _ _ _ (pv 4) (@pA _ _ _ _ _ (pv 2) (@pA _ _ _ _ _ (pv 3) pB (by rfl)) (by rfl)) (by rfl)) (by decide) (by rfl) (by rfl)) pB (by rfl)) (by rfl))) pB (by rfl)) (by rfl)) (by decide) (by rfl) (by rfl)))) (@pG _ _ _ (@af _ _ _ _ fY)) aj))) (@pD _ _ _ _ _ (bS PassesOwn.never rfl (eF (@aU _ _ _ _ (@pA _ _ _ _ _ pC (@pA _ _ _ _ _ pC pB (by rfl)) (by rfl)))) (ar (i:=4) nd rfl (Or.inl rfl)) (@pG _ _ _ (@aw _ _ _ _ _ _ _ _ (eY (cH (@ao _ _ _ _ _ _ _ _ _ _ cW (hr.mono (by decide)) rfl (@pA _ _ _ _ _ (@aa _ _ _ _ _ (@pA _ _ _ _ _ pC (@pA _ _ _ _ _ (pv 4) (@pA _ _ _ _ _ (@aa _ _ _ _ _ (@pA _ _ _ _ _ (pv 2) pB (by rfl))) pB (by rfl)) (by rfl)) (by rfl))) (@pA _ _ _ _ _ (@aa _ _ _ _ _ (@pA _ _ _ _ _ (@aU _ _ _ _ pB) (@pA _ _ _ _ _ (@ao _ _ _ _ _ _ _ _ _ _ jb (hr.mono (by decide)) rfl (@pA _ _ _ _ _ (pv 4) (@pA _ _ _ _ _ (pv 2) (@pA _ _ _ _ _ (pv 3) pB (by rfl)) (by rfl)) (by rfl)) (by decide) (by rfl) (by rfl)) pB (by rfl)) (by rfl))) pB (by rfl)) (by rfl)) (by decide) (by rfl) (by rfl)))) (@pG _ _ _ (@af _ _ _ _ fY)) aj))) (@pD _ _ _ _ _ (@pL _ _ 5 _ _ _ _ nd rfl (Or.inl rfl) (@ao _ _ _ _ _ _ _ _ _ _ jY (hr.mono (by decide)) rfl (@pA _ _ _ _ _ (pv 2) (@pA _ _ _ _ _ (pv 3) pB (by rfl)) (by rfl)) (by decide) (by rfl) (by rfl)) (by rfl) (by exact Or.inl rfl)) (@pD _ _ _ _ _ (aC (cj (pv 5) (@pA _ _ _ _ _ (@ao _ _ _ _ _ _ _ _ _ _ lO (hr.mono (by decide)) rfl (@pA _ _ _ _ _ (pv 2) (@pA _ _ _ _ _ (pv 3) (@pA _ _ _ _ _ (@ao _ _ _ _ _ _ _ _ _ _ aV (hr.mono (by decide)) rfl (@pA _ _ _ _ _ (pv 1) (@pA _ _ _ _ _ pF pB (by rfl)) (by rfl)) (by decide) (by rfl) (by rfl)) pB (by rfl)) (by rfl)) (by rfl)) (by decide) (by rfl) (by rfl)) pB (by rfl)))) (@pD _ _ _ _ _ (bS PassesOwn.never rfl (bZ rfl T.range (@pA _ _ _ _ _ pF pB (by rfl))) (ar (i:=6) nd rfl (Or.inl rfl)) (@pG _ _ _ (aC (cj (pv 5) (@pA _ _ _ _ _ (@ao _ _ _ _ _ _ _ _ _ _ gG (hr.mono (by decide)) rfl (@pA _ _ _ _ _ (pv 2) (@pA _ _ _ _ _ (pv 3) (@pA _ _ _ _ _ (pv 6) pB (by rfl)) (by rfl)) (by rfl)) (by decide) (by rfl) (by rfl)) pB (by rfl)))))) (@pD _ _ _ _ _ (bS PassesOwn.never rfl (bZ rfl T.range (@pA _ _ _ _ _ pF pB (by rfl))) (ar (i:=6) nd rfl (Or.inl rfl)) (@pG _ _ _ (aC (cj (pv 5) (@pA _ _ _ _ _ (@aa _ _ _ _ _ (@pA _ _ _ _ _ (@aa _ _ _ _ _ (@pA _ _ _ _ _ pC (@pA _ _ _ _ _ (pv 6) (@pA _ _ _ _ _ pF (@pA _ _ _ _ _ (pv 2) pB (by rfl)) (by rfl)) (by rfl)) (by rfl))) (@pA _ _ _ _ _ (@ao _ _ _ _ _ _ _ _ _ _ lP (hr.mono (by decide)) rfl (@pA _ _ _ _ _ (pv 2) (@pA _ _ _ _ _ (pv 6) pB (by rfl)) (by rfl)) (by decide) (by rfl) (by rfl)) pB (by rfl)) (by rfl))) pB (by rfl)))))) (@pD _ _ _ _ _ (@pL _ _ 7 _ _ _ _ nd rfl (Or.inl rfl) (@aU _ _ _ _ (@pA _ _ _ _ _ (@ao _ _ _ _ _ _ _ _ _ _ bO (hr.mono (by decide)) rfl (@pA _ _ _ _ _ (pv 2) pB (by rfl)) (by decide) (by rfl) (by rfl)) (@pA _ _ _ _ _ (@ao _ _ _ _ _ _ _ _ _ _ bO (hr.mono (by decide)) rfl (@pA _ _ _ _ _ (pv 3) pB (by rfl)) (by decide) (by rfl) (by rfl)) pB (by rfl)) (by rfl))) (by rfl) (by exact Or.inl rfl)) (@pD _ _ _ _ _ (aC (cj (pv 5) (@pA _ _ _ _ _ (@aa _ _ _ _ _ (@pA _ _ _ _ _ (@aa _ _ _ _ _ (@pA _ _ _ _ _ pC (@pA _ _ _ _ _ (@aa _ _ _ _ _ (@pA _ _ _ _ _ (@aa _ _ _ _ _ (@pA _ _ _ _ _ pC (@pA _ _ _ _ _ (pv 2) pB (by rfl)) (by rfl))) (@pA _ _ _ _ _ (@aa _ _ _ _ _ (@pA _ _ _ _ _ pC (@pA _ _ _ _ _ (pv 3) pB (by rfl)) (by rfl))) pB (by rfl)) (by rfl))) pB (by rfl)) (by rfl))) (@pA _ _ _ _ _ (@aa _ _ _ _ _ (@pA _ _ _ _ _ (pv 7) (@pA _ _ _ _ _ (@aa _ _ _ _ _ (@pA _ _ _ _ _ pC (@pA _ _ _ _ _ (@ab _ _ _ _ _ _ _ aE (pv 7) pF (fun _ _=>rfl)) pB (by rfl)) (by rfl))) pB (by rfl)) (by rfl))) pB (by rfl)) (by rfl))) pB (by rfl)))) (@pD _ _ _ _ _ (bS PassesOwn.never rfl (eF (pv 5)) (d9 rfl (aK (ar (i:=8) nd rfl (Or.inl rfl)) (aK (ar (i:=9) nd rfl (Or.inl rfl)) cF))) (@pG _ _ _ (@aw _ _ _ _ _ _ _ _ (eY (cH (@ao _ _ _ _ _ _ _ _ _ _ cW (hr.mono (by decide)) rfl (@pA _ _ _ _ _ (pv 8) (@pA _ _ _ _ _ (pv 9) pB (by rfl)) (by rfl)) (by decide) (by rfl) (by rfl)))) (@pG _ _ _ (@af _ _ _ _ fY)) aj))) (@pG _ _ _ (@af _ _ _ _ fY)))))))))))))),?_⟩;refine ac fun ik ee=>?_;refine⟨_,rfl,a,ns,0,rfl,hS,hlen,by decide,by decide,fun b H1 s1 hb bv=>?_⟩;refine ee _ _ (ac fun kJ gw=>?_);refine⟨_,rfl,b,0,rfl,bv,by decide,fun v t H2 k2' g2 hk2 tv okt=>?_⟩;refine gw _ _ (ac fun pf iW=>?_);refine⟨_,rfl,b,k2',rfl,g2.bx,by omega,fun u o H3 k3 g3 hk3 tu oko=>?_⟩;have tv3:=tv.tk (g3.tks g2.bx);have bx3:=g3.bx;have sx:=i9 okt;have sy:=i9 oko;refine iW _ _ (ac fun qz nn=>?_);clear tv g2 g3;refine⟨xZ,fun W1 hW1=>?_⟩;have s4:=smu (o:=HO.lst ((["add","sub","mul","div","less","same","at"]:List Str).map V.str)) hW1;have hW4:(upd H3 W1 (.lst ((["add","sub","mul","div","less","same","at"]:List Str).map V.str))) W1=some (.lst ((["add","sub","mul","div","less","same","at"]:List Str).map V.str)):=pE;refine⟨W1,rfl,⟨_,SqL.of hW4⟩,?_⟩;show az _ _ _ _ _ _;refine az.byN (ce (xs:=(["add","sub","mul","div","less","same","at"]:List Str).map V.str)) (fun j σ Hj=>ai (upd H3 W1 (.lst ((["add","sub","mul","div","less","same","at"]:List Str).map V.str))) Hj∧∃ x4,σ=[some (.ref a),some (.ref b),some v,some u,x4,none,none,none,none,none]) ⟨ai.refl _,_,rfl⟩ (fun _ _ _ _ z=>SqL.of (z.1 _ _ hW4)) ?_ ?_
   · rintro j x σ Hj N_ B_ hN_ hB_ hx ⟨sj,x4,rfl⟩;rw[gEM] at hx;obtain⟨s,hs,rfl⟩:=oMS.mp hx;have hm:=mGE hs;have Sj:=s4.trans sj;refine⟨_,rfl,_,rfl,_,rfl,bA,fun p1 hp1=>⟨fN,fun p2 hp2=>⟨i7,fun L hL=>?_⟩⟩⟩;have z1:=smu (o:=HO.tup [v,u]) hp1;have z2:=smu (o:=HO.tup [.str "op",.str s,.ref p1]) hp2;have z3:=smu (o:=HO.lst []) hL;have a1:TD K _ (.ref p1) (.tuple ([t,o].map thD)):=td2 (tv3.same Sj) (tu.same Sj) hp1;have a2:TD K _ (.ref p2) (opE s ([t,o].map thD)):=td3 (.str "op") (.str s) a1 hp2;have Z3:=(z1.trans z2).trans z3;have hL3:(upd (upd (upd Hj p1 (.tup [v,u])) p2 (.tup [.str "op",.str s,.ref p1])) L (.lst [])) L=some (.lst []):=pE;have a3:=a2.same z3;have S3:=Sj.trans Z3;generalize upd (upd (upd Hj p1 (.tup [v,u])) p2 (.tup [.str "op",.str s,.ref p1])) L (.lst [])=H6 at hL3 a3 S3 Z3 ⊢;have h9:s∈lq:=by
      have:∀ s∈(["add","sub","mul","div","less","same","at"]:List Str),s∈lq:=by decide +kernel
      exact this s hm
     refine⟨_,rfl,_,rfl,_,rfl,s,v,u,t,o,rfl,tv3.same S3,tu.same S3,okt,oko,h9,fun v' H7 s7 tq=>?_⟩;obtain⟨qa,_,rfl,_,_⟩:=tq.tup_of;refine⟨bA,fun p3 hp3=>?_⟩;have s8:=smu (o:=HO.tup [.ref L,.ref qa]) hp3;have xe:cK s (vlT t) (vlT o)=[t,o].map vlT:=by
      have:∀ s∈(["add","sub","mul","div","less","same","at"]:List Str),jt s=false:=by decide +kernel
      unfold cK;rw[this s hm];rfl
     refine mN (t:=t) (o:=o) (ts:=[t,o]) (fun x hx=>by rcases List.mem_cons.mp hx with rfl | hx;exact okt;rw[mSg.mp hx];exact oko) (by show 2≤8;decide) (.two _ _ hm sx sy) xe ((a3.same s7).same s8) (SqT.of pE) (s8 _ _ (s7 _ _ hL3)) (tq.same s8) fun H9 s9=>?_;exact⟨_,rfl,aP (hN_ _ _ ⟨(sj.trans Z3).trans ((s7.trans s8).trans s9),_,rfl⟩)⟩
   rintro σ H4 ⟨sj4,x4,rfl⟩;have S4:=s4.trans sj4;clear hW4;refine nn _ _ (ac fun vW py=>?_);refine⟨bA,fun W2 hW2=>?_⟩;have s5:=smu (o:=HO.lst ((["not","size"]:List Str).map V.str)) hW2;have hW5:(upd H4 W2 (.lst ((["not","size"]:List Str).map V.str))) W2=some (.lst ((["not","size"]:List Str).map V.str)):=pE;refine⟨W2,rfl,⟨_,SqL.of hW5⟩,?_⟩;show az _ _ _ _ _ _;refine az.byN (ce (xs:=(["not","size"]:List Str).map V.str)) (fun j σ Hj=>ai (upd H4 W2 (.lst ((["not","size"]:List Str).map V.str))) Hj∧∃ x4,σ=[some (.ref a),some (.ref b),some v,some u,x4,none,none,none,none,none]) ⟨ai.refl _,_,rfl⟩ (fun _ _ _ _ z=>SqL.of (z.1 _ _ hW5)) ?_ ?_
   · rintro j x σ Hj N_ B_ hN_ hB_ hx ⟨sj,x4',rfl⟩;rw[gEM] at hx;obtain⟨s,hs,rfl⟩:=oMS.mp hx;have hm:=mGE hs;have Sj:=(S4.trans s5).trans sj;refine⟨_,rfl,_,rfl,jd,fun p1 hp1=>⟨fN,fun p2 hp2=>⟨i7,fun L hL=>?_⟩⟩⟩;have z1:=smu (o:=HO.tup [v]) hp1;have z2:=smu (o:=HO.tup [.str "op",.str s,.ref p1]) hp2;have z3:=smu (o:=HO.lst []) hL;have a1:TD K _ (.ref p1) (.tuple ([t].map thD)):=.tup (SqT.of pE) (.cons ((tv3.same Sj).same z1) .nil);have a2:TD K _ (.ref p2) (opE s ([t].map thD)):=td3 (.str "op") (.str s) a1 hp2;have Z3:=(z1.trans z2).trans z3;have hL3:(upd (upd (upd Hj p1 (.tup [v])) p2 (.tup [.str "op",.str s,.ref p1])) L (.lst [])) L=some (.lst []):=pE;have a3:=a2.same z3;have S3:=Sj.trans Z3;generalize upd (upd (upd Hj p1 (.tup [v])) p2 (.tup [.str "op",.str s,.ref p1])) L (.lst [])=H6 at hL3 a3 S3 Z3 ⊢;have h9:s∈lq:=by
      have:∀ s∈(["not","size"]:List Str),s∈lq:=by decide +kernel
      exact this s hm
     refine⟨_,rfl,_,rfl,_,rfl,s,v,u,t,o,rfl,tv3.same S3,tu.same S3,okt,oko,h9,fun v' H7 s7 tq=>?_⟩;obtain⟨qa,_,rfl,_,_⟩:=tq.tup_of;refine⟨bA,fun p3 hp3=>?_⟩;have s8:=smu (o:=HO.tup [.ref L,.ref qa]) hp3;have xe:cK s (vlT t) (vlT o)=[t].map vlT:=by
      have:∀ s∈(["not","size"]:List Str),jt s=true:=by decide +kernel
      unfold cK;rw[this s hm];rfl
     have h2m:s∈(["size","not"]:List Str):=by
      have:∀ s∈(["not","size"]:List Str),s∈(["size","not"]:List Str):=by decide +kernel
      exact this s hm
     refine mN (t:=t) (o:=o) (ts:=[t]) (fun x hx=>by rw[mSg.mp hx];exact okt) (by show 1≤8;decide) (.one _ h2m) xe ((a3.same s7).same s8) (SqT.of pE) (s8 _ _ (s7 _ _ hL3)) (tq.same s8) fun H9 s9=>?_;exact⟨_,rfl,aP (hN_ _ _ ⟨(sj.trans Z3).trans ((s7.trans s8).trans s9),_,rfl⟩)⟩
   rintro σ H5 ⟨sj5,x4',rfl⟩;have S5:=S4.trans (s5.trans sj5);clear hW5;have tv5:=tv3.same S5;have tu5:=tu.same S5;have bx5:gJ H5 b k3:=by obtain⟨n,x,h,h0⟩:=bx3;exact⟨n,x,S5 _ _ h,h0⟩
   refine py _ _ (ac fun wQ wb=>?_);refine⟨_,rfl,_,rfl,v,u,t,o,rfl,tv5,tu5,okt,oko,fun L a1 a2 H6 s6 hL0 hL6 w6=>?_⟩;have bx6:gJ H6 b k3:=by obtain⟨n,x,h,h0⟩:=bx5;exact⟨n,x,s6 _ _ h,h0⟩
   have b5:H5 b≠none:=by obtain⟨n,x,h,h0⟩:=bx5;rw[h];exact fun z=>nomatch z
   have nLb:L≠b:=fun e=>b5 (e▸hL0);obtain⟨wa1,wa2⟩:=w6 (fun a=>a=b∨a=L) fun a h=>h.elim (fun e=>.inl (e▸b5)) .inr;refine wb _ _ (ac fun yi w9=>?_);have ws6:Ws K H6 b L v u t o 2:=⟨⟨_,hL6,Nat.le_refl _,fun z hz=>by rcases List.mem_cons.mp hz with rfl | hz;exact wa1;rw[mSg.mp hz];exact wa2⟩,tv5.same s6,tu5.same s6,by obtain⟨n,x,h,h0⟩:=bx6;rw[h];exact fun z=>nomatch z⟩;refine⟨_,rfl,.inl ⟨rfl,_,SqL.of hL6⟩,_,rfl,_,rfl,_,rfl,b,k3,9,rfl,bx6,by omega,by decide,by decide,fun r H7 r0 r1 mo bx7=>?_⟩;obtain⟨m,rfl⟩:=Int.eq_ofNat_of_zero_le r0;have g7:Tg H6 H7 b (k3+1):=⟨fun a u n h=>(mo a n).trans h,bx7⟩;have tk7:=g7.tks bx6;have hL7:=g7.kp _ _ nLb hL6;have ws7:Ws K H7 b L v u t o 2:=by
    obtain⟨⟨zs,h1,h2,h3⟩,tv,tu,hb⟩:=ws6;exact⟨⟨zs,g7.kp _ _ nLb h1,h2,fun z hz=>(h3 z hz).mv (fun a u n e=>g7.kp a u (fun z=>n (.inl z)) e) tk7⟩,tv.tk tk7,tu.tk tk7,by obtain⟨n,x,h,h0⟩:=bx7;rw[h];exact fun z=>nomatch z⟩
   refine⟨v,u,t,o,m,rfl,ws7.tv,ws7.tu,okt,oko,by omega,fun ra H8 s8 w8=>?_⟩;have ws8:=ws7.same s8;have hL8:=s8 _ _ hL7;refine⟨L,_,_,rfl,rfl,hL8,by show 2<sizeLine;decide,?_⟩;have ws9:=ws8.app (w8 _ ws7.all) hL8;refine w9 _ _ (ac fun yh xE=>?_);generalize upd H8 L _=H9 at ws9 ⊢;clear ws8 ws7 ws6 w6 wa1 wa2 hL6 hL7 hL8 g7 tk7;refine⟨_,rfl,by decide,by decide,?_⟩;show az _ _ _ _ _ _;rw[show (3:Int).toNat=3 from rfl];refine az.byN (bN (n:=3)) (fun j σ Hj=>Ws K Hj b L v u t o (3+j)∧∃ x6,σ=[some (.ref a),some (.ref b),some v,some u,x4',some (.ref L),x6,none,none,none]) ⟨ws9,_,rfl⟩ (fun _ _ _ _ _=>trivial) ?_ ?_
   · rintro j x σ Hj N_ B_ hN_ hB_ hx ⟨wj,x6,rfl⟩;have hj:j<3:=by have:=(gES.mp hx).1;rwa [bz] at this
     have:=eB hx;subst this;obtain⟨zs,hLj,hzl,_⟩:=wj.hL;refine⟨_,rfl,.inl ⟨rfl,_,SqL.of hLj⟩,_,rfl,_,rfl,_,rfl,v,u,t,o,j,rfl,wj.tv,wj.tu,okt,oko,by omega,fun ra Hk sk wk=>?_⟩;have hLk:=sk _ _ hLj;exact⟨L,_,_,rfl,rfl,hLk,by omega,hN_ _ _ ⟨(wj.same sk).app (wk _ wj.all) hLk,_,rfl⟩⟩
   rintro σ H10 ⟨ws10,x6,rfl⟩;rw[bz] at ws10;refine xE _ _ (ac fun yu yo=>?_);refine⟨_,rfl,by decide,by decide,?_⟩;show az _ _ _ _ _ _;rw[show (2:Int).toNat=2 from rfl];refine az.byN (bN (n:=2)) (fun j σ Hj=>Ws K Hj b L v u t o (6+j)∧∃ x6,σ=[some (.ref a),some (.ref b),some v,some u,x4',some (.ref L),x6,none,none,none]) ⟨ws10,_,rfl⟩ (fun _ _ _ _ _=>trivial) ?_ ?_
   · rintro j x σ Hj N_ B_ hN_ hB_ hx ⟨wj,x6',rfl⟩;have hj:j<2:=by have:=(gES.mp hx).1;rwa [bz] at this
     have:=eB hx;subst this;obtain⟨zs,hLj,hzl,_⟩:=wj.hL;refine⟨_,rfl,.inl ⟨rfl,_,SqL.of hLj⟩,_,rfl,_,rfl,tS,fun p1 hp1=>?_⟩;have z1:=smu (o:=HO.tup [.str "get",.int ((j:Nat):Int),.int 0,v]) hp1;have c1:TD K _ (.ref p1) (ck ((j:Nat):Int) 0 (thD t)):=td4 (.str "get") (.int _) (.int 0) wj.tv hp1;have w1:=wj.same z1;generalize upd Hj p1 _=Hk at z1 c1 w1 ⊢;refine⟨_,rfl,_,rfl,v,t,_,rfl,w1.tv,okt,fun p2 Hl sl due=>?_⟩;have w2:=w1.same sl;refine⟨bA,fun p3 hp3=>?_⟩;have z3:=smu (o:=HO.tup [.ref p1,.ref p2]) hp3;have w3:=w2.same z3;have want:=dw (c1.same sl) (dL (.get _ _ _) (by show 1≤8;decide) (by show ("get":Str)≠"name";decide +kernel) fun x hx M=>by rw[mSg.mp hx];exact hC _ _ okt) (due _ w1.all) hp3;have hL3:=z3 _ _ (sl _ _ (z1 _ _ hLj));exact⟨L,_,_,rfl,rfl,hL3,by omega,hN_ _ _ ⟨w3.app want hL3,_,rfl⟩⟩
   rintro σ H11 ⟨ws11,x6',rfl⟩;rw[bz] at ws11;refine yo _ _ (ac fun yn xH=>?_);refine⟨_,rfl,v,t,rfl,ws11.tv,okt,fun w1 H12 s12 l1=>?_⟩;have ws12:=ws11.same s12;refine⟨_,rfl,u,o,rfl,ws12.tu,oko,fun w2 H13 s13 l2=>?_⟩;have ws13:=ws12.same s13;refine⟨bA,fun LL hLL=>?_⟩;have s14:=smu (o:=HO.lst [w1,w2]) hLL;have hLL14:(upd H13 LL (.lst [w1,w2])) LL=some (.lst [w1,w2]):=pE;have ws14:=ws13.same s14;have l1':=(l1.tk s13.tk).tk s14.tk;have l2':=l2.tk s14.tk;have nX:¬ (LL=b∨LL=L):=fun z=>ws13.all _ z hLL;refine xH _ _ (ac fun ym xG=>?_);generalize upd H13 LL (.lst [w1,w2])=H14 at hLL14 ws14 l1' l2' ⊢;obtain⟨zs,hL14,hzl,_⟩:=ws14.hL;refine⟨_,rfl,.inl ⟨rfl,_,SqL.of hL14⟩,_,rfl,bA,fun p1 hp1=>⟨_,rfl,bA,fun p2 hp2=>⟨bA,fun p3 hp3=>⟨bA,fun p4 hp4=>?_⟩⟩⟩⟩;have z1:=smu (o:=HO.tup [.str "say",v]) hp1;have z2:=smu (o:=HO.tup [.str "say",u]) hp2;have z3:=smu (o:=HO.tup [.ref p1,.ref p2]) hp3;have z4:=smu (o:=HO.tup [.str "do",.ref p3]) hp4;have c1:TD K _ (.ref p1) (aI (thD t)):=td2 (.str "say") ws14.tv hp1;have c2:TD K _ (.ref p2) (aI (thD o)):=td2 (.str "say") (ws14.tu.same z1) hp2;have c3:TD K _ (.ref p3) (.tuple [aI (thD t),aI (thD o)]):=td2 (c1.same z2) c2 hp3;have c4:TD K _ (.ref p4) (doE [aI (thD t),aI (thD o)]):=td2 (.str "do") c3 hp4;have Z4:=(z1.trans z2).trans (z3.trans z4);have ws15:=ws14.same Z4;have hLL15:=Z4 _ _ hLL14;have l1'':=l1'.tk Z4.tk;have l2'':=l2'.tk Z4.tk;have hL15:=Z4 _ _ hL14;generalize upd _ p4 _=H15 at c4 ws15 hLL15 l1'' l2'' hL15 ⊢;refine⟨_,rfl,_,rfl,LL,_,_,_,rfl,rfl,SqL.of hLL15,eR,bA,fun p5 hp5=>⟨bA,fun p6 hp6=>⟨bA,fun p7 hp7=>?_⟩⟩⟩;have z5:=smu (o:=HO.tup [.str "back",w2]) hp5;have z6:=smu (o:=HO.tup [.ref LL,.ref p5]) hp6;have z7:=smu (o:=HO.tup [.ref p4,.ref p6]) hp7;have due:=dm (X:=fun a=>a=b∨a=L) (ds:=[lk (vlT t),lk (vlT o)]) (z5 _ _ hLL15) nX (.cons (l1''.tk z5.tk) (.cons (l2''.tk z5.tk) .nil)) (SqT.of pE) (.lk (l2''.tk z5.tk)) (pP okt oko) bk hp6;have want:=dw (c4.same (z5.trans z6)) (dL (.doo _) (by show 2≤8;decide) (by show ("do":Str)≠"name";decide +kernel) fun x hx M=>by
     rcases List.mem_cons.mp hx with rfl | hx
     · exact ip _ _ okt
     · rw[mSg.mp hx];exact ip _ _ oko) due hp7
   have Z7:=(z5.trans z6).trans z7;have ws16:=ws15.same Z7;have hL16:=Z7 _ _ hL15;refine⟨L,_,_,rfl,rfl,hL16,by omega,?_⟩;have ws17:=ws16.app want hL16;refine xG _ _ (ac fun yk xF=>?_);generalize upd _ L _=H17 at ws17 ⊢;obtain⟨zs',hL17,_,hw17⟩:=ws17.hL;refine⟨_,rfl,L,rfl,⟨_,SqL.of hL17⟩,?_⟩;show az _ _ _ _ _ _;refine az.byN (ce (xs:=zs')) (fun j σ Hj=>ai H17 Hj∧∃ x8 x9,σ=[some (.ref a),some (.ref b),some v,some u,x4',some (.ref L),x6',some (.ref LL),x8,x9]) ⟨ai.refl _,_,_,rfl⟩ (fun _ _ _ _ z=>SqL.of (z.1 _ _ hL17)) ?_ ?_
   · rintro j x σ Hj N_ B_ hN_ hB_ hx ⟨sj,x8,x9,rfl⟩;have wx:=(hw17 x (mGE hx)).same sj;cases wx with
     | @mk pa p2 vb d g1 g2 g3 g4 =>
      refine⟨pa,_,rfl,g1,rfl,_,_,rfl,_,_,rfl,rfl,?_⟩;obtain⟨ds,tg,d2,rv,good,f2,ht⟩:=g4.res;refine⟨_,rfl,_,rfl,.mk vb p2 d ds tg d2 rfl g2 g3 rv good f2 ht fun H' s'=>?_⟩;exact⟨_,rfl,aP (hN_ _ _ ⟨sj.trans s',_,_,rfl⟩)⟩
   · rintro σ Hj ⟨sj,x8,x9,rfl⟩;exact xF _ _ (q _)
end
def oh (w:World) (es:List DictEntry) (vs:List (Key×Value)):Prop:=Paired (fun (e:DictEntry) (kv:Key×Value)=>∃ x t,kv.1=.inr x∧e.key=.str x t∧e.hash=hashStr w x∧e.val=kv.2) es vs
theorem jI {P:Program} {w:World} {es:List DictEntry} {vs:List (Key×Value)} (h:oh w es vs):Pairs (aL P w) es vs:=by
 induction (show Paired _ es vs from h) with
 | nil=>exact .nil
 | cons z r ih =>
  obtain⟨x,t,e1,e2,e3,e4⟩:=z;exact .cons (by rw[e1,e2];exact dg P w x t) e4 (ih r)
theorem lF {P:Program} {w:World} {es:List DictEntry} {vs:List (Key×Value)} (h:oh w es vs):∀ e∈es,∃ k,(aL P w).is k e.key=true∧e.hash=(aL P w).hash k:=by
 induction (show Paired _ es vs from h) with
 | nil=>exact fun e h=>by cases h
 | cons z r ih =>
  intro e h;obtain⟨x,t,e1,e2,e3,e4⟩:=z
  rcases List.mem_cons.mp h with rfl | h
  · exact⟨.inr x,by rw[e2];exact dg P w x t,e3⟩
  · exact ih r e h
theorem isd {P:Program} {w:World} {es:List DictEntry} {vs:List (Key×Value)} {ep:Nat} (h:oh w es vs) (nd:(vs.map (·.1)).Nodup):Obj.IsDictOf (aL P w) {cls:=.type "dict",dict:=none,data:=.dict es.toArray ep,slots:=#[]} vs :=
 ⟨es.toArray,ep,⟨rfl,rfl,rfl⟩,rfl,fun e he=>lF h e (List.mem_toArray.mp he),jI h,nd⟩
theorem je {zs:List Str} {its:Array Value} (v:ax (zs.map V.str) its.toList) (h:zs.length≤50):its.size≤sizeLine:=by
 have e:=v.length;rw[lMp] at e;have e2:its.toList.length=its.size:=Array.length_toList;have:(50:Nat)≤sizeLine:=by decide
 lia
def tR (K:Fg):List Row→Prop
  | []=>True
  | e::r=>K.lookup e.2.2.1=some (FT (e.2.2.2.map fun s=>.str s.1 s.2))∧tR K r
def kvE (es:List Row):List (Key×V):=es.map fun e=>(.inr e.1,.ref e.2.2.1)
def vaE (es:List Row):List (Key×Value):=es.map fun e=>(.inr e.1,.ref e.2.2.1)
theorem iB:∀ (l:List (Str×Nat)),ax ((l.map Prod.fst).map V.str) (l.map fun s=>Value.str s.1 s.2):=by
 intro l
 induction l with
 | nil=>exact .nil
 | cons a r ih=>exact .cons ⟨a.2,rfl⟩ ih
theorem rV {K:Fg}:∀ {es:List Row},tR K es→(es.map (·.1)).Nodup→∀ k sl,(k,sl)∈(es.map fun e=>(e.1,e.2.2.2.map Prod.fst))→∃ (r:Addr) (l:List (Str×Nat)),aY (kvE es) (.inr k)=some (.ref r)∧l.map Prod.fst=sl∧K.lookup r=some (FT (l.map fun s=>.str s.1 s.2)):=by
 intro es
 induction es with
 | nil=>exact fun _ _ k sl h=>absurd h nMN
 | cons e r ih =>
  intro ha nd k sl h;obtain⟨n1,n2⟩:=List.nodup_cons.mp nd
  rcases List.mem_cons.mp h with h | h
  · cases h;refine⟨e.2.2.1,e.2.2.2,?_,rfl,ha.1⟩;show (List.find? _ ((_,_)::_)).map _=_;rw[List.find?_cons_of_pos (by simp)];rfl
  · obtain⟨r',l,h1,h2,h3⟩:=ih ha.2 n2 k sl h;refine⟨r',l,?_,h2,h3⟩;have ne:e.1≠k:=fun c=>n1 (by
      obtain⟨e',he',q⟩:=List.mem_map.mp h;exact List.mem_map.mpr ⟨e',he',(congrArg Prod.fst q).trans c.symm⟩)
    show (List.find? _ ((_,_)::_)).map _=_;rw[List.find?_cons_of_neg (by simpa using ne)];exact h1
theorem oq {P:Program} {w:World} {K:Fg} {mg:SOV} {aR:Addr} {ep:Nat} (es:List Row) (hm:mg "SLOTS"=some (.ref aR)) (hR:K.lookup aR=some (FD w.params (es.map rX) ep)) (sR:(aR==sysModules)=false) (ht:tR K es) (e0:(es.map fun e=>(e.1,e.2.2.2.map Prod.fst))=P10.tbl) (hn:(es.map (·.1)).Nodup) (hw:∀ e∈es,e.2.2.2.length≤50):Glb P w K mg:=by
 have en:∀ l:List Row,oh w ((l.map rX).map fun x=>(⟨PyData.keyHash w.params x.1,.str x.1 x.2.1,x.2.2⟩:DictEntry)) (vaE l):=by
  intro l
  induction l with
  | nil=>exact .nil
  | cons e r ih=>exact .cons ⟨e.1,e.2.1,rfl,rfl,rfl,rfl⟩ ih
 have ek:∀ l:List Row,KV (kvE l) (vaE l):=by
  intro l
  induction l with
  | nil=>exact .nil
  | cons e r ih=>exact .cons ⟨rfl,rfl⟩ ih
 have nv:((vaE es).map (·.1)).Nodup:=by
  unfold vaE;rw[List.map_map];show (es.map ((Sum.inr:Str→Key)∘fun e=>e.1)).Nodup;rw[← List.map_map];refine List.pairwise_map.mpr (hn.imp ?_);exact fun h c=>h (Sum.inr.inj c)
 refine⟨aR,kvE es,hm,⟨_,vaE es,hR,isd (en es) nv,ek es,sR⟩,fun k sl h=>?_⟩;rw[← e0] at h;obtain⟨r,l,h1,h2,h3⟩:=rV ht hn k sl h;have hl:l.length≤50:=by
  obtain⟨e,he,q⟩:=List.mem_map.mp h;have:=hw e he;have q2:=congrArg (List.length∘Prod.snd) q;have q3:=congrArg List.length h2;simp at q2 q3;omega
 refine⟨r,h1,fun H=>.inr ⟨_,_,0,h3,rfl,rfl,?_,?_⟩⟩
 · exact je (zs:=l.map Prod.fst) (iB l) (by rw[lMp];exact hl)
 · rw[← h2];exact iB l
def kvF (es:List (Str×Nat×Addr)):List (Key×V):=es.map fun e=>(.inr e.1,.ref e.2.2)
theorem pW {mg:SOV} {kvs:List (Key×V)} {a1 a2 a3 a4 a5 a6 a7 a8 a9 a10 a11:Addr} (h1:aY kvs (.inr "number")=some (.ref a1)) (h2:aY kvs (.inr "name")=some (.ref a2)) (h3:aY kvs (.inr "do")=some (.ref a3)) (h4:aY kvs (.inr "if")=some (.ref a4)) (h5:aY kvs (.inr "each")=some (.ref a5)) (h6:aY kvs (.inr "say")=some (.ref a6)) (h7:aY kvs (.inr "op")=some (.ref a7)) (h8:aY kvs (.inr "new")=some (.ref a8)) (h9:aY kvs (.inr "get")=some (.ref a9)) (h10:aY kvs (.inr "fun")=some (.ref a10)) (h11:aY kvs (.inr "apply")=some (.ref a11))
 (m1:mg "finish_number"=some (.ref a1)) (m2:mg "finish_name"=some (.ref a2)) (m3:mg "finish_do"=some (.ref a3)) (m4:mg "finish_if"=some (.ref a4)) (m5:mg "finish_each"=some (.ref a5)) (m6:mg "finish_say"=some (.ref a6)) (m7:mg "finish_op"=some (.ref a7)) (m8:mg "finish_new"=some (.ref a8)) (m9:mg "finish_get"=some (.ref a9)) (m10:mg "finish_fun"=some (.ref a10)) (m11:mg "finish_apply"=some (.ref a11)):∀ p∈fps,∃ f,aY kvs (.inr p.1)=some (.ref f)∧mg p.2.1=some (.ref f):=by
 intro p hp;unfold fps at hp;simp only[List.mem_cons,nMN,or_false] at hp
 rcases hp with rfl | rfl | rfl | rfl | rfl | rfl | rfl | rfl | rfl | rfl | rfl
 · exact⟨_,h1,m1⟩
 · exact⟨_,h2,m2⟩
 · exact⟨_,h3,m3⟩
 · exact⟨_,h4,m4⟩
 · exact⟨_,h5,m5⟩
 · exact⟨_,h6,m6⟩
 · exact⟨_,h7,m7⟩
 · exact⟨_,h8,m8⟩
 · exact⟨_,h9,m9⟩
 · exact⟨_,h10,m10⟩
 · exact⟨_,h11,m11⟩
theorem sZ {P:Program} {w:World} {K:Fg} {mg:SOV} {aR:Addr} {ep:Nat} (es:List (Str×Nat×Addr)) (hm:mg "FINISHERS"=some (.ref aR)) (hR:K.lookup aR=some (FD w.params (es.map rW) ep)) (sR:(aR==sysModules)=false) (hn:(es.map (·.1)).Nodup) (hf:∀ p∈fps,∃ f,aY (kvF es) (.inr p.1)=some (.ref f)∧mg p.2.1=some (.ref f)):Fsh P w K mg:=by
 have en:∀ l:List (Str×Nat×Addr),oh w ((l.map rW).map fun x=>(⟨PyData.keyHash w.params x.1,.str x.1 x.2.1,x.2.2⟩:DictEntry)) (l.map fun e=>((.inr e.1:Key),Value.ref e.2.2)):=by
  intro l
  induction l with
  | nil=>exact .nil
  | cons e r ih=>exact .cons ⟨e.1,e.2.1,rfl,rfl,rfl,rfl⟩ ih
 have ek:∀ l:List (Str×Nat×Addr),KV (kvF l) (l.map fun e=>((.inr e.1:Key),Value.ref e.2.2)):=by
  intro l
  induction l with
  | nil=>exact .nil
  | cons e r ih=>exact .cons ⟨rfl,rfl⟩ ih
 have nv:((es.map fun e=>((.inr e.1:Key),Value.ref e.2.2)).map (·.1)).Nodup:=by
  rw[List.map_map];show (es.map ((Sum.inr:Str→Key)∘fun e=>e.1)).Nodup;rw[← List.map_map];refine List.pairwise_map.mpr (hn.imp ?_);exact fun h c=>h (Sum.inr.inj c)
 exact⟨aR,kvF es,hm,⟨_,_,hR,isd (en es) nv,ek es,sR⟩,hf⟩
theorem av {K:Fg} {h:Heap} {mg:SOV} {x:Str} {st:Stmt} {f:Addr} {oc:Value} {od an:Option Addr} {osl:Array (Option Value)} {kV doc pm cdv ct:Value} (X:K.In h) (G:h.Ns mainGlobals mg)
 (l:K.lookup f=some ⟨oc,od,.func (PySem.W.fnOf x x (bK st) (b9 st) (ak st) .none kV doc pm an cdv ct),osl⟩) (a:PySem.W.nsIn K mainGlobals x=some (some (.ref f)):=by kernel_rfl)
 (c:PySem.W.codeIn K cdv x=true:=by kernel_rfl) (k:PySem.W.keepIn K (.ref f)=true:=by kernel_rfl):Def K mg x st:=⟨f,_,cA l c k,PySem.W.mg_of X G a⟩
theorem tI {l:PySem.W.OpenLaw} {w:World} {K:Fg} {h:Heap} {mg:SOV} {fa fl:Addr} {c:Ks} (X:K.In h) (G:h.Ns mainGlobals mg) (hfa:mg "law"=some (.ref fa)) (C:Glb l.prog w K mg) (Fs:Fsh l.prog w K mg) (T:Blt mg) (k:KC K mg c) (kb:Kb K) (nDi:mg "dict"=none) (nBo:mg "bool"=none)
 (iM:j9 K c.cm "Made.__init__" (aB (top 9) 0)) (iF:j9 K c.cf "Fun.__init__" (aB (top 10) 0)) (iC:j9 K c.cc "Machine.__init__" (sM 0)) (m1:eT K c.cc "wait" "Machine.wait" (sM 1)) (m2:eT K c.cc "begin" "Machine.begin" (sM 2)) (m3:eT K c.cc "tell" "Machine.tell" (sM 3)) (m4:eT K c.cc "take" "Machine.take" (sM 4)) (m5:eT K c.cc "fault" "Machine.fault" (sM 5)) (m6:eT K c.cc "tick" "Machine.tick" (sM 6))
 (d2:Def K mg "children_of" (top 2)) (d11:Def K mg "worth" (top 11)) (d12:Def K mg "look" (top 12)) (d13:Def K mg "row_of" (top 13)) (d14:Def K mg "taken_in" (top 14)) (d15:Def K mg "of_worths" (top 15)) (d16:Def K mg "op_fault" (top 16)) (d17:Def K mg "op_value" (top 17)) (d20:Def K mg "bound_names" (top 20)) (d21:Def K mg "box_of" (top 21)) (d22:Def K mg "finish_number" (top 22)) (d23:Def K mg "finish_name" (top 23)) (d26:Def K mg "finish_do" (top 26)) (d27:Def K mg "finish_if" (top 27)) (d29:Def K mg "finish_each" (top 29)) (d30:Def K mg "finish_say" (top 30)) (d32:Def K mg "finish_op" (top 32)) (d33:Def K mg "finish_new" (top 33)) (d34:Def K mg "finish_get" (top 34)) (d35:Def K mg "finish_fun" (top 35)) (d36:Def K mg "finish_apply" (top 36)) (d39:Def K mg "first_things" (top 39)) (d40:Def K mg "do_next" (top 40)) (d41:Def K mg "opened" (top 41)) (d42:Def K mg "run" (top 42)) (d44:Def K mg "_law_box" (top 44)) (d45:Def K mg "_law_take" (top 45)) (d46:Def K mg "_law_number" (top 46)) (d47:Def K mg "_law_thing" (top 47)) (d48:Def K mg "_law_worth" (top 48)) (d49:Def K mg "_law_look" (top 49)) (d50:Def K mg "_law_in" (top 50)) (d51:Def K mg "_law_op" (top 51)) (d52:Def K mg "_law_children" (top 52)) (d53:Def K mg "_law_with" (top 53)) (d54:Def K mg "_law_binds" (top 54)) (d55:Def K mg "_law_canon" (top 55)) (d56:Def K mg "_law_function" (top 56)) (d57:Def K mg "_law_is_run" (top 57)) (d58:Def K mg "_law_row" (top 58)) (d59:Def K mg "_law_got" (top 59)) (d60:Def K mg "_law_applied" (top 60)) (d61:Def K mg "_law_flow" (top 61))
 {od an:Option Addr} {osl:Array (Option Value)} {oc kV doc pm cdv ct:Value} (a1:PySem.W.nsIn K mainGlobals "law"=some (some (.ref fl))) (l1:K.lookup fl=some ⟨oc,od,.func (PySem.W.fnOf "law" "law" (bK ib) (b9 ib) (ak ib) .none kV doc pm an cdv ct),osl⟩) (e1:PySem.W.codeIn K cdv "law"=true) (k1:PySem.W.keepIn K (.ref fl)=true) :
 ∃ fd:FuncData,(∀ (s:Shared) (v:Value),BindsTo s fd ⟨[v],[]⟩ [("_law_script",v)])∧∀ base:Heap,K.In base→base.Ns mainGlobals mg→d0 l.prog w K mg base CX0 11 fa fd ["_law_script"] (kn K):=by
 cases hfa.symm.trans (PySem.W.mg_of X G a1);have FL:=cA (st:=ib) l1 e1 k1;refine⟨PySem.W.fnOf "law" "law" (bK ib) (b9 ib) (ak ib) .none kV doc pm an cdv ct,fun s v=>.of_eq rfl,fun base _ _=>?_⟩;have fWo:=uV (P:=l.prog) (w:=w) (base:=base) d11 T k;have fLk:=vx (P:=l.prog) (w:=w) (base:=base) d12 T k;have fRo:=vg (P:=l.prog) (w:=w) (base:=base) d13 T k;have fOf:=vo (P:=l.prog) (w:=w) (base:=base) d16 T fWo fRo;have fOv:=vj (P:=l.prog) (w:=w) (base:=base) d17 T fWo fRo (vh d15 (uZ d14 k));have M1:=uU (P:=l.prog) (w:=w) (base:=base) m1 k;have M2:=vO (P:=l.prog) (w:=w) (base:=base) m2 k M1;have M3:=uX (P:=l.prog) (w:=w) (base:=base) m3 k;have M4:=v7 (P:=l.prog) (w:=w) (base:=base) m4 T k;have M5:=vG (P:=l.prog) (w:=w) (base:=base) m5 k;have M6:=v5 (P:=l.prog) (w:=w) (base:=base) m6 k;have bM:=sI (P:=l.prog) (w:=w) (base:=base) (c:=c) d20 T;have bT:=sH (P:=l.prog) (w:=w) (base:=base) (c:=c) d20 T;have fin:∀ p∈fps,Fn l.prog w K mg base p.2.1 5 bo (cI K c p.2.2):=by
  intro p hp;unfold fps at hp;simp only[List.mem_cons,nMN,or_false] at hp
  rcases hp with rfl | rfl | rfl | rfl | rfl | rfl | rfl | rfl | rfl | rfl | rfl
  · exact jG d22 k M3
  · exact nA d23 k M3 (vN d21)
  · exact tm d26 k M3
  · exact tj d27 k M2 fWo
  · exact nB d29 k T M2 M1 fRo bT
  · exact pR d30 k M3 fLk
  · exact t9 d32 k M3 M5 fOf fOv
  · exact pS d33 k M3 (vq iM k)
  · exact pU d34 k T M3 M5
  · exact pV d35 k M3 (vH iF k)
  · exact lE d36 k T M2 M5 M6 bM
 have fCh:=vL (P:=l.prog) (w:=w) (base:=base) d2 T C;have fDn:=vI (P:=l.prog) (w:=w) (base:=base) d40 k T Fs fin M2 M1 M3 M4 (vF d39 fCh);have fRu:=va (P:=l.prog) (w:=w) (base:=base) d42 k T (vm d41 T) (vK iC k) M2 bM fDn fLk;have fTk:=uY (P:=l.prog) (w:=w) (base:=base) d45;have fLw:=vt (P:=l.prog) (w:=w) (base:=base) d48;have fLl:=vw (P:=l.prog) (w:=w) (base:=base) d49 T;have fLi:=vy (P:=l.prog) (w:=w) (base:=base) d50;have fCn:=vJ (P:=l.prog) (w:=w) (base:=base) d55 T nDi (vB d54) (vA d52 T) (uW d53 T) 6;exact sC FL T (vM d44 T k.bI) fTk (v4 d47 T fTk (vp d46 fTk)) fLl (sB d51 T k.bI fLw fLi) (vC d57 T nBo kb (vE d56 T fCn) fRu) (sD d61 T fLw fLl fLi) (v8 d58 T fLw) (vP d60 T fLl) (vD d59)
theorem wR {l:PySem.W.OpenLaw} {q:Program} {loose:List Str} {XP:(Str→Option Value)→Heap→Prop} {YP:World→Heap→Prop} {d:DefRec} {K:Params→Fg} (hn:l.most=some 63) (hdf:d.params.defaults=[])
 (hY:∀ (w:World) (h:Heap),YP w h→(K w.params).In h)
 (F:∀ (w:World) (mg:SOV) (fa:Addr) (h:Heap),(K w.params).In h→h.Ns mainGlobals mg→mg d.name=some (.ref fa) →
   ∃ fd:FuncData,(∀ (s:Shared) (u:Value),BindsTo s fd ⟨[u],[]⟩ [("_law_script",u)])∧∀ base:Heap,(K w.params).In base→base.Ns mainGlobals mg→d0 l.prog w (K w.params) mg base CX0 11 fa fd ["_law_script"] (kn (K w.params))) :
 PySem.W.WalkO q loose XP YP l.row.toRowW d [] (fun f vs=>PySem.call f vs) :=
 L2.kc (n:=63) (k:=11) (x:="_law_script") (CX:=fun _=>CX0) (sp:=fun w=>kn (K w.params)) hn (by decide) hdf ⟨rfl,by decide,by decide,rfl⟩ hY F (fun _ _ a ns hl _ hS=>⟨a,ns,rfl,hS,hl,fun _=>rfl⟩) fun _ _ _ _ _ z=>z
theorem lkF {K:Fg} {f:Addr} (x q:Str) (st:Stmt) (m:Value) (c:Nat) (h:K.lookup f=some (FF x q st m c):=by kernel_rfl):K.lookup f=some ⟨.type "function",none,.func (PySem.W.fnOf x q (bK st) (b9 st) (ak st) .none .none .none m none (.ref c) .none),#[]⟩:=h
end K20
open PySem PySem.W PyProof.Rows
set_option maxRecDepth 100000 in
set_option maxHeartbeats 0 in
theorem PySem.Challenge.cw_turnsame_k20_ops_holds : PySem.Challenge.rw_turnsame_k20_ops.Holds := by
 refine K20.preH fun d hdn hdd=>K20.wR (l:=PySem.Challenge.rw_turnsame_k20_ops) rfl hdd (fun w h Y=>PySem.W.kIn_of Y) ?F
 case F =>
  intro w mg fa h X G hmg;rw[hdn] at hmg;have none_:∀ {x:Str},PySem.W.nsIn (K20.KF w.params) mainGlobals x=some none→mg x=none:=fun e=>PySem.W.mg_none_of X G e;have mo:∀ {x:Str} {v:Value},PySem.W.nsIn (K20.KF w.params) mainGlobals x=some (some v)→mg x=some v:=fun z=>PySem.W.mg_of X G z;refine K20.tI X G hmg (c:=⟨81,102,212⟩) (K20.oq (ep:=17) K20.SL (mo (show _=some (some (Value.ref 15)) by kernel_rfl)) (by kernel_rfl) (by decide) (by repeat' (first | exact trivial | refine⟨by kernel_rfl,?_⟩)) (by kernel_rfl) (by decide +kernel) (by decide +kernel))
   (K20.sZ (ep:=17) K20.FI (mo (show _=some (some (Value.ref 343)) by kernel_rfl)) (by kernel_rfl) (by decide) (by decide +kernel) (K20.pW (a1:=237) (a2:=244) (a3:=265) (a4:=272) (a5:=286) (a6:=293) (a7:=307) (a8:=314) (a9:=321) (a10:=328) (a11:=335) (by kernel_rfl) (by kernel_rfl) (by kernel_rfl) (by kernel_rfl) (by kernel_rfl) (by kernel_rfl) (by kernel_rfl) (by kernel_rfl) (by kernel_rfl) (by kernel_rfl) (by kernel_rfl) (mo (by kernel_rfl)) (mo (by kernel_rfl)) (mo (by kernel_rfl)) (mo (by kernel_rfl)) (mo (by kernel_rfl)) (mo (by kernel_rfl)) (mo (by kernel_rfl)) (mo (by kernel_rfl)) (mo (by kernel_rfl)) (mo (by kernel_rfl)) (mo (by kernel_rfl)))) ⟨none_ (by kernel_rfl),none_ (by kernel_rfl),none_ (by kernel_rfl),none_ (by kernel_rfl),none_ (by kernel_rfl),none_ (by kernel_rfl),none_ (by kernel_rfl),none_ (by kernel_rfl)⟩
   ⟨⟨⟨by kernel_rfl,by kernel_rfl,by kernel_rfl,by kernel_rfl⟩,by kernel_rfl,by kernel_rfl,by kernel_rfl,by kernel_rfl⟩,⟨⟨by kernel_rfl,by kernel_rfl,by kernel_rfl,by kernel_rfl⟩,by kernel_rfl,by kernel_rfl,by kernel_rfl,by kernel_rfl⟩,⟨by kernel_rfl,by kernel_rfl,by kernel_rfl,by kernel_rfl⟩,
     (fun x=>by cases x <;> kernel_rfl),(fun x=>by cases x <;> kernel_rfl),(fun x=>by cases x <;> kernel_rfl),(fun x=>by cases x <;> kernel_rfl),(fun x=>by cases x <;> kernel_rfl),(by unfold L2.aM;kernel_rfl),(by unfold L2.aM;kernel_rfl),(by unfold L2.aM;kernel_rfl),(by unfold L2.aM;kernel_rfl),(by unfold L2.aM;kernel_rfl),(by unfold L2.aM;kernel_rfl),(by unfold L2.aM;kernel_rfl),(by unfold L2.aM;kernel_rfl),(by unfold L2.aM;kernel_rfl),(by unfold L2.aM;kernel_rfl),(by unfold L2.aM;kernel_rfl),mo (by kernel_rfl),mo (by kernel_rfl),mo (by kernel_rfl),none_ (by kernel_rfl),⟨306,mo (by kernel_rfl)⟩,⟨308,mo (by kernel_rfl)⟩⟩
   ⟨by kernel_rfl,fun t ht=>by
     simp only[List.mem_cons,nMN,or_false] at ht
     rcases ht with rfl | rfl | rfl <;> kernel_rfl⟩ (none_ (by kernel_rfl)) (none_ (by kernel_rfl))
   ⟨78,_,L2.cA (st:=L2.aB (K20.top 9) 0) (K20.lkF "__init__" "Made.__init__" (L2.aB (K20.top 9) 0) K20.M1 77) (by kernel_rfl) (by kernel_rfl),⟨by kernel_rfl,by kernel_rfl,by kernel_rfl,by kernel_rfl⟩⟩
   ⟨99,_,L2.cA (st:=L2.aB (K20.top 10) 0) (K20.lkF "__init__" "Fun.__init__" (L2.aB (K20.top 10) 0) K20.M1 98) (by kernel_rfl) (by kernel_rfl),⟨by kernel_rfl,by kernel_rfl,by kernel_rfl,by kernel_rfl⟩⟩
   ⟨167,_,L2.cA (st:=L2.aB (K20.top 19) 0) (K20.lkF "__init__" "Machine.__init__" (L2.aB (K20.top 19) 0) K20.M2 166) (by kernel_rfl) (by kernel_rfl),⟨by kernel_rfl,by kernel_rfl,by kernel_rfl,by kernel_rfl⟩⟩
   ⟨174,_,L2.cA (st:=L2.aB (K20.top 19) 1) (K20.lkF "wait" "Machine.wait" (L2.aB (K20.top 19) 1) K20.M2 173) (by kernel_rfl) (by kernel_rfl),⟨by kernel_rfl,by kernel_rfl,by kernel_rfl⟩⟩
   ⟨181,_,L2.cA (st:=L2.aB (K20.top 19) 2) (K20.lkF "begin" "Machine.begin" (L2.aB (K20.top 19) 2) K20.M2 180) (by kernel_rfl) (by kernel_rfl),⟨by kernel_rfl,by kernel_rfl,by kernel_rfl⟩⟩
   ⟨188,_,L2.cA (st:=L2.aB (K20.top 19) 3) (K20.lkF "tell" "Machine.tell" (L2.aB (K20.top 19) 3) K20.M2 187) (by kernel_rfl) (by kernel_rfl),⟨by kernel_rfl,by kernel_rfl,by kernel_rfl⟩⟩
   ⟨195,_,L2.cA (st:=L2.aB (K20.top 19) 4) (K20.lkF "take" "Machine.take" (L2.aB (K20.top 19) 4) K20.M2 194) (by kernel_rfl) (by kernel_rfl),⟨by kernel_rfl,by kernel_rfl,by kernel_rfl⟩⟩
   ⟨202,_,L2.cA (st:=L2.aB (K20.top 19) 5) (K20.lkF "fault" "Machine.fault" (L2.aB (K20.top 19) 5) K20.M2 201) (by kernel_rfl) (by kernel_rfl),⟨by kernel_rfl,by kernel_rfl,by kernel_rfl⟩⟩
   ⟨209,_,L2.cA (st:=L2.aB (K20.top 19) 6) (K20.lkF "tick" "Machine.tick" (L2.aB (K20.top 19) 6) K20.M2 208) (by kernel_rfl) (by kernel_rfl),⟨by kernel_rfl,by kernel_rfl,by kernel_rfl⟩⟩
   (K20.av (f:=39) X G (K20.lkF "children_of" "children_of" (K20.top 2) K20.M0 38))
   (K20.av (f:=113) X G (K20.lkF "worth" "worth" (K20.top 11) K20.M1 112))
   (K20.av (f:=120) X G (K20.lkF "look" "look" (K20.top 12) K20.M1 119))
   (K20.av (f:=127) X G (K20.lkF "row_of" "row_of" (K20.top 13) K20.M1 126))
   (K20.av (f:=134) X G (K20.lkF "taken_in" "taken_in" (K20.top 14) K20.M1 133))
   (K20.av (f:=141) X G (K20.lkF "of_worths" "of_worths" (K20.top 15) K20.M1 140))
   (K20.av (f:=148) X G (K20.lkF "op_fault" "op_fault" (K20.top 16) K20.M1 147))
   (K20.av (f:=153) X G (K20.lkF "op_value" "op_value" (K20.top 17) K20.M1 152))
   (K20.av (f:=223) X G (K20.lkF "bound_names" "bound_names" (K20.top 20) K20.M2 222))
   (K20.av (f:=230) X G (K20.lkF "box_of" "box_of" (K20.top 21) K20.M2 229))
   (K20.av (f:=237) X G (K20.lkF "finish_number" "finish_number" (K20.top 22) K20.M2 236))
   (K20.av (f:=244) X G (K20.lkF "finish_name" "finish_name" (K20.top 23) K20.M2 243))
   (K20.av (f:=265) X G (K20.lkF "finish_do" "finish_do" (K20.top 26) K20.M2 264))
   (K20.av (f:=272) X G (K20.lkF "finish_if" "finish_if" (K20.top 27) K20.M2 271))
   (K20.av (f:=286) X G (K20.lkF "finish_each" "finish_each" (K20.top 29) K20.M2 285))
   (K20.av (f:=293) X G (K20.lkF "finish_say" "finish_say" (K20.top 30) K20.M2 292))
   (K20.av (f:=307) X G (K20.lkF "finish_op" "finish_op" (K20.top 32) K20.M2 306))
   (K20.av (f:=314) X G (K20.lkF "finish_new" "finish_new" (K20.top 33) K20.M2 313))
   (K20.av (f:=321) X G (K20.lkF "finish_get" "finish_get" (K20.top 34) K20.M2 320))
   (K20.av (f:=328) X G (K20.lkF "finish_fun" "finish_fun" (K20.top 35) K20.M2 327))
   (K20.av (f:=335) X G (K20.lkF "finish_apply" "finish_apply" (K20.top 36) K20.M2 334))
   (K20.av (f:=350) X G (K20.lkF "first_things" "first_things" (K20.top 39) K20.M2 349))
   (K20.av (f:=357) X G (K20.lkF "do_next" "do_next" (K20.top 40) K20.M2 356))
   (K20.av (f:=364) X G (K20.lkF "opened" "opened" (K20.top 41) K20.M2 363))
   (K20.av (f:=371) X G (K20.lkF "run" "run" (K20.top 42) K20.M2 370))
   (K20.av (f:=378) X G (K20.lkF "_law_box" "_law_box" (K20.top 44) K20.M3 377))
   (K20.av (f:=385) X G (K20.lkF "_law_take" "_law_take" (K20.top 45) K20.M3 384))
   (K20.av (f:=392) X G (K20.lkF "_law_number" "_law_number" (K20.top 46) K20.M3 391))
   (K20.av (f:=397) X G (K20.lkF "_law_thing" "_law_thing" (K20.top 47) K20.M3 396))
   (K20.av (f:=404) X G (K20.lkF "_law_worth" "_law_worth" (K20.top 48) K20.M3 403))
   (K20.av (f:=409) X G (K20.lkF "_law_look" "_law_look" (K20.top 49) K20.M3 408))
   (K20.av (f:=416) X G (K20.lkF "_law_in" "_law_in" (K20.top 50) K20.M3 415))
   (K20.av (f:=423) X G (K20.lkF "_law_op" "_law_op" (K20.top 51) K20.M3 422))
   (K20.av (f:=430) X G (K20.lkF "_law_children" "_law_children" (K20.top 52) K20.M3 429))
   (K20.av (f:=437) X G (K20.lkF "_law_with" "_law_with" (K20.top 53) K20.M3 436))
   (K20.av (f:=444) X G (K20.lkF "_law_binds" "_law_binds" (K20.top 54) K20.M3 443))
   (K20.av (f:=449) X G (K20.lkF "_law_canon" "_law_canon" (K20.top 55) K20.M3 448))
   (K20.av (f:=456) X G (K20.lkF "_law_function" "_law_function" (K20.top 56) K20.M3 455))
   (K20.av (f:=463) X G (K20.lkF "_law_is_run" "_law_is_run" (K20.top 57) K20.M3 462))
   (K20.av (f:=468) X G (K20.lkF "_law_row" "_law_row" (K20.top 58) K20.M3 467))
   (K20.av (f:=475) X G (K20.lkF "_law_got" "_law_got" (K20.top 59) K20.M3 474))
   (K20.av (f:=482) X G (K20.lkF "_law_applied" "_law_applied" (K20.top 60) K20.M3 481))
   (K20.av (f:=487) X G (K20.lkF "_law_flow" "_law_flow" (K20.top 61) K20.M3 486))
   (fl:=494) (by kernel_rfl) (K20.lkF "law" "law" (K20.top 62) K20.M3 493) (by kernel_rfl) (by kernel_rfl)
