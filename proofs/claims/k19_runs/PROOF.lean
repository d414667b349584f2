import PyProof.Rows.All
import KE.KDictOf
import KE.KFromBytes
import KE.KIntText
import KE.KIsAll
import KE.KItem
import KE.KRevSl
import PyProof.AttrMissHeap
import PySem.Challenge.RW_turnsame_k19_runs
noncomputable section
def U {α:Sort _} {a:α}:a=a:=Eq.refl a
def Ue {α β γ:Sort _} {f:α->β->γ}:∀ a b,f a b=f a b:=λ_ _=>rfl
local macro_rules|`(tactic|right)=>`(tactic|kernel_rfl)
local macro_rules|`(tactic|left)=>`(tactic|decide +kernel)
local macro_rules|`(tactic|omega)=>`(tactic|lia)
local macro_rules|`(∅)=>`((by first|omega|decide))
set_option hygiene false
local macro_rules|`(~~~$x)=>`(⟨U,U,U,$x,U,by decide +kernel,by decide +kernel⟩)
local macro_rules|`(↑$x)=>`(⟨_,U,ad,_,_,_,U,U,ha,pH (j:=0) U,U,_,U,ai $x⟩)
local macro_rules|`(⇑$x)=>`(($x).mono (by omega))
local macro_rules|`(↥$x)=>if x.raw.isOfKind `num then `(pv $x) else `(ac ag $x pF Ue)
local macro_rules
|`(tactic|exists $x,$y)=>`(tactic|refine $x (λvs H Q E h=>?_) (λ_ _ _ _ _ _ us hl=>by obtain⟨a,b,d,e,rfl⟩:=$y hl;rfl) (λf' cdv A outer s' H vs Q E hr h=>?_))
|`(tactic|exists $x,$y,$_)=>`(tactic|refine $x (λvs H Q E h=>?_) (λ_ _ _ _ _ _ us hl=>by obtain⟨a,rfl⟩:=$y hl;rfl) (λf' cdv A outer s' H vs Q E hr h=>?_))
|`(tactic|exists $x,$y,$_,$_)=>`(tactic|refine $x (λvs H Q E h=>?_) (λ_ _ _ _ _ _ us hl=>by obtain⟨a,b,rfl⟩:=$y hl;rfl) (λf' cdv A outer s' H vs Q E hr h=>?_))
|`(tactic|exists $x,$y,$_,$_,$_)=>`(tactic|refine $x (λvs H Q E h=>?_) (λ_ _ _ _ _ _ us hl=>by obtain⟨a,b,d,rfl⟩:=$y hl;rfl) (λf' cdv A outer s' H vs Q E hr h=>?_))
abbrev Fg := PySem.W.Frag
abbrev VSP := PySem.Value -> PySem.Shared -> Prop
abbrev AOs := List (PySem.Addr × PySem.Obj)
abbrev SOV := PySem.Str -> Option PySem.Value
abbrev PDs := List PySem.PyData
abbrev wB := @PySem.wpAny_bind
abbrev wP := @PySem.wpAny_pure
abbrev hpS := @PySem.Heap.get?_push_of_some
def lMp {α β:Type} {f:α->β} {l:List α}:(l.map f).length=l.length:=List.length_map ..
def gES {α:Type} {l:List α} {i:Nat} {a:α}:l[i]?=some a↔∃ h:i<l.length,l[i]=a:=List.getElem?_eq_some_iff
def gEE {α:Type} {l:List α} {i:Nat} (h:i<l.length):l[i]?=some l[i]:=List.getElem?_eq_getElem h
def gEM {α β:Type} {f:α->β} {l:List α} {i:Nat}:(l.map f)[i]?=Option.map f l[i]?:=List.getElem?_map ..
def mGE {α:Type} {l:List α} {i:Nat} {a:α} (h:l[i]?=some a):a∈l:=List.mem_of_getElem? h
def mCS {α:Type} {a:α} {l:List α}:a∈a::l:=List.mem_cons_self
def mCM {α:Type} (y:α) {a:α} {l:List α} (h:a∈l):a∈y::l:=List.mem_cons_of_mem y h
def mAp {α:Type} {a:α} {s t:List α}:a∈s++t↔a∈s\/a∈t:=List.mem_append
def mSg {α:Type} {a b:α}:a∈[b]↔a=b:=List.mem_singleton
def oMS {α β:Type} {f:α->β} {x:Option α} {b:β}:x.map f=some b↔∃ a,x=some a/\f a=b:=Option.map_eq_some_iff
def nMN {α:Type} {a:α}:a∉([]:List α):=List.not_mem_nil
def tAO {α:Type} {l:List α} {i:Nat}:l.take (i+1)=l.take i++l[i]?.toList:=List.take_add_one
def lAp {α:Type} {l m:List α}:(l++m).length=l.length+m.length:=List.length_append ..
def lTk {α:Type} {i:Nat} {l:List α}:(l.take i).length=min i l.length:=List.length_take ..
set_option compiler.extract_closed false
set_option Elab.async false
set_option linter.all false
set_option maxRecDepth 100000
namespace L2
open PySem PySem.Spec PyProof.Rows
def _root_.mh:0<=PySem.sizeLine:=∅
def _root_.me:1<=PySem.sizeLine:=∅
def _root_.dB:2<=PySem.sizeLine:=∅
def _root_.kH:3<=PySem.sizeLine:=∅
def _root_.vF:4<=PySem.sizeLine:=∅
def _root_.Dp:5<=PySem.sizeLine:=∅
def _root_.Dn:6<=PySem.sizeLine:=∅
def _root_.Dl:8<=PySem.sizeLine:=∅
def _root_.C6:10<=PySem.sizeLine:=∅
def aQ (s:Stmt) (j:Nat):Stmt:=match s with
  | .ClassDef _ _ _ body _ _ _ _ _ _ _=>body.getD j (.Pass ⟨0,0,0,0⟩)
  | _=>.Pass ⟨0,0,0,0⟩
def cK (s:Stmt):Arguments:=match s with
  | .FunctionDef _ a _ _ _ _ _ _ _ _=>a
  | _=>{posonlyargs:=[],args:=[],vararg:=none,kwonlyargs:=[],kw_defaults:=[],kwarg:=none,defaults:=[]}
def aM (s:Stmt):List Stmt:=match s with
  | .FunctionDef _ _ b _ _ _ _ _ _ _=>b
  | _=>[]
def am (s:Stmt):Scope:=match s with
  | .FunctionDef _ _ _ _ _ _ sc _ _ _=>sc
  | _=>{kind:=.function,names:=[],isGenerator:=false,isCoroutine:=false}
end L2
namespace K19
open PySem L2
def top (i:Nat):Stmt:=PySem.Challenge.pw_turnsame_k19_runs.main.body.getD i (.Pass ⟨0,0,0,0⟩)
def FT (l:List Value):Obj:={cls:=.type "tuple",data:=.seq l.toArray}
def FC (l:List Value):Obj:={cls:=.type "code",data:=.fields l.toArray}
def Fe (x:Str) (t:Nat) (v:Value):Str×Nat×Value:=(x,t,v)
def FD (P:Params) (l:List (Str×Nat×Value)) (ep:Nat):Obj:={cls:=.type "dict",data:=.dict (l.map λx=>(⟨PyData.keyHash P x.1,.str x.1 x.2.1,x.2.2⟩:DictEntry)).toArray ep}
abbrev Row:=Str×Nat×Addr×List (Str×Nat)
def xC (e:Row):Str×Nat×Value:=Fe e.1 e.2.1 (.ref e.2.2.1)
def xB (e:Str×Nat×Addr):Str×Nat×Value:=Fe e.1 e.2.1 (.ref e.2.2)
def M0:Value:=.str "turnsame.cores" 256
def M1:Value:=.str "turnsame.values" 304
def M2:Value:=.str "turnsame.running" 425
def M3:Value:=.str "law_turnsame_k19_runs" 790
def FF (x q:Str) (st:Stmt) (m:Value) (c:Nat):Obj:={cls:=.type "function",data:=.func {name:=x,qualname:=q,params:=cK st,body:=.stmts (aM st),scope:=am st,globals:=3,closure:=[],defaults:=.none,kwdefaults:=.none,pyModule:=m,code:=.ref c}}
def FR (x q:Str) (st:Stmt) (m:Value) (t l g a e:Nat) (b:Bool):Fg :=
  [(a+(if b=true then 5 else 3),FC ([.str x t,.str q (t+1),.str "/claim/cut.py" (t+2),.int l 0,.int g 0,.int 0 0,.int 0 0,.int 3 0,.ref a,.bool true,.int 181 0,.ref (a+1),.none]++(if b=true then [.ref (a+2),.ref (a+3),.ref (a+4)] else [.none,.none,.ref (a+2)])++[.int e 0,.int l 0,.str "/claim/cut.py" (e+1)])),
   (a+(if b=true then 6 else 4),FF x q st m (a+(if b=true then 5 else 3)))]
def FI:List (Str×Nat×Addr):=[("number",704,237),("name",706,244),("let",708,251),("var",710,251),("set",712,258),("do",714,265),("if",716,272),("while",718,279),("each",720,286),("say",722,293),("fault",724,300),("op",726,307),("new",728,314),("get",730,321),("fun",732,328),("apply",734,335),("call",736,342)]
def SL:List Row:=[("number",187,16,[("number",188)]),("name",190,17,[("meant",191)]),("let",193,18,[("bound",194),("one",195),("one",196)]),("var",198,19,[("bound",199),("one",200),("one",201)]),("set",203,20,[("meant",204),("one",205)]),("do",207,21,[("many",208)]),("if",210,22,[("one",211),("one",212),("one",213)]),("while",215,23,[("one",216),("one",217)]),("each",219,24,[("bound",220),("one",221),("one",222)]),("say",224,25,[("one",225)]),("fault",227,26,[("word",228)]),("op",230,27,[("op",231),("many",232)]),("new",234,28,[("place",235),("many",236)]),("get",238,29,[("place",239),("place",240),("one",241)]),("fun",243,30,[("bounds",244),("one",245)]),("apply",247,31,[("one",248),("many",249)]),("call",251,32,[("place",252),("many",253)])]
def GM:Obj:={cls:=.type "type",data:=.cls {name:="Made",bases:=[.type "object"],mro:=[.ref 81,.type "object"],ns:=80,qualname:="Made"},slots:=#[none,none,some (.str "Made" 310),some (.str "Made" 318),some (.builtin "object.__new__"),some (.bool true)]}
def GF:Obj:={cls:=.type "type",data:=.cls {name:="Fun",bases:=[.type "object"],mro:=[.ref 102,.type "object"],ns:=101,qualname:="Fun"},slots:=#[none,none,some (.str "Fun" 341),some (.str "Fun" 349),some (.builtin "object.__new__"),some (.bool true)]}
def GC:Obj:={cls:=.type "type",data:=.cls {name:="Machine",bases:=[.type "object"],mro:=[.ref 212,.type "object"],ns:=211,qualname:="Machine"},slots:=#[none,none,some (.str "Machine" 427),some (.str "Machine" 435),some (.builtin "object.__new__"),some (.bool true)]}
def KF:Params->Fg:=λP=>[(3,FD P [Fe "__name__" 165 (.str "law_turnsame_k19_runs" 790),Fe "__doc__" 166 (.none),Fe "__package__" 167 (.none),Fe "__loader__" 168 (.builtin "__main__.__loader__#opaque"),Fe "__spec__" 169 (.none),Fe "__annotations__" 170 (.ref 6),Fe "__builtins__" 171 (.ref 4),Fe "__file__" 173 (.str "/claim/cut.py" 172),Fe "__cached__" 174 (.none),Fe "SLOTS" 255 (.ref 15),Fe "children_of" 267 (.ref 39),Fe "TurnError" 287 (.ref 49),Fe "NoOpen" 303 (.ref 62),Fe "HALF" 307 (.int 32768 306),Fe "WHOLE" 309 (.int 65536 308),Fe "Made" 340 (.ref 81),Fe "Fun" 373 (.ref 102),Fe "worth" 380 (.ref 113),Fe "look" 387 (.ref 120),Fe "row_of" 394 (.ref 127),Fe "taken_in" 401 (.ref 134),Fe "of_worths" 410 (.ref 141),Fe "op_fault" 418 (.ref 148),Fe "op_value" 424 (.ref 153),Fe "Machine" 514 (.ref 212),Fe "bound_names" 525 (.ref 223),Fe "box_of" 533 (.ref 230),Fe "finish_number" 543 (.ref 237),Fe "finish_name" 554 (.ref 244),Fe "finish_let" 564 (.ref 251),Fe "finish_set" 575 (.ref 258),Fe "finish_do" 585 (.ref 265),Fe "finish_if" 595 (.ref 272),Fe "finish_while" 605 (.ref 279),Fe "finish_each" 617 (.ref 286),Fe "finish_say" 627 (.ref 293),Fe "finish_fault" 637 (.ref 300),Fe "finish_op" 648 (.ref 307),Fe "finish_new" 658 (.ref 314),Fe "finish_get" 669 (.ref 321),Fe "finish_fun" 679 (.ref 328),Fe "finish_apply" 690 (.ref 335),Fe "finish_call" 703 (.ref 342),Fe "FINISHERS" 738 (.ref 343),Fe "first_things" 745 (.ref 350),Fe "do_next" 760 (.ref 357),Fe "opened" 774 (.ref 364),Fe "run" 789 (.ref 371),Fe "_law_box" 800 (.ref 378),Fe "_law_take" 810 (.ref 385),Fe "_law_leaf" 819 (.ref 392),Fe "_law_fresh" 826 (.ref 399),Fe "_law_many" 832 (.ref 404),Fe "_law_binder" 838 (.ref 409),Fe "_law_op" 850 (.ref 416),Fe "_law_record" 862 (.ref 423),Fe "_law_call" 868 (.ref 428),Fe "_law_flow" 880 (.ref 435),Fe "_law_e" 891 (.ref 442),Fe "_law_core" 897 (.ref 447),Fe "_law_worth" 904 (.ref 454),Fe "_law_look" 911 (.ref 461),Fe "_law_ended" 919 (.ref 468),Fe "_law_ticked" 926 (.ref 475),Fe "_law_sum" 932 (.ref 480),Fe "_law_values" 938 (.ref 485),Fe "_law_goes" 949 (.ref 492),Fe "_law_loop" 961 (.ref 499),Fe "_law_applied" 975 (.ref 506),Fe "_law_called" 981 (.ref 511),Fe "_law_bound" 991 (.ref 518),Fe "_law_got" 1002 (.ref 525),Fe "_law_other" 1015 (.ref 532),Fe "_law_value" 1025 (.ref 539),Fe "_law_run" 1031 (.ref 544),Fe "_law_plain" 1038 (.ref 551),Fe "law" 1044 (.ref 556)] 77),(15,FD P (SL.map xC) 17),(343,FD P (FI.map xB) 17),(81,GM),(80,FD P [Fe "__module__" 317 (.str "turnsame.values" 304),Fe "__firstlineno__" 321 (.int 19 320),Fe "__init__" 330 (.ref 78),Fe "__static_attributes__" 333 (.ref 79),Fe "__dict__" 335 (.ref 82),Fe "__weakref__" 337 (.ref 83),Fe "__doc__" 338 (.none)] 4),(102,GF),(101,FD P [Fe "__module__" 348 (.str "turnsame.values" 304),Fe "__firstlineno__" 352 (.int 24 351),Fe "__init__" 362 (.ref 99),Fe "__static_attributes__" 366 (.ref 100),Fe "__dict__" 368 (.ref 103),Fe "__weakref__" 370 (.ref 104),Fe "__doc__" 371 (.none)] 4),(212,GC),(211,FD P [Fe "__module__" 434 (.str "turnsame.running" 425),Fe "__firstlineno__" 438 (.int 67 437),Fe "__init__" 447 (.ref 167),Fe "wait" 458 (.ref 174),Fe "begin" 467 (.ref 181),Fe "tell" 475 (.ref 188),Fe "take" 485 (.ref 195),Fe "fault" 493 (.ref 202),Fe "tick" 500 (.ref 209),Fe "__static_attributes__" 507 (.ref 210),Fe "__dict__" 509 (.ref 213),Fe "__weakref__" 511 (.ref 214),Fe "__doc__" 512 (.none)] 4)]++SL.map (λe=>(e.2.2.1,FT (e.2.2.2.map λs=>.str s.1 s.2)))++(
  FR "children_of" "children_of" (top 2) M0 258 3 1 33 265 true ++
  FR "worth" "worth" (top 11) M1 374 30 1 107 378 true ++
  FR "look" "look" (top 12) M1 381 32 1 114 385 true ++
  FR "row_of" "row_of" (top 13) M1 388 34 1 121 392 true ++
  FR "taken_in" "taken_in" (top 14) M1 395 36 1 128 399 true ++
  FR "of_worths" "of_worths" (top 15) M1 402 38 3 135 408 true ++
  FR "op_fault" "op_fault" (top 16) M1 411 50 2 142 416 true ++
  FR "op_value" "op_value" (top 17) M1 419 56 2 149 422 false ++
  FR "bound_names" "bound_names" (top 20) M2 515 101 3 217 523 true ++
  FR "box_of" "box_of" (top 21) M2 526 105 2 224 531 true ++
  FR "finish_number" "finish_number" (top 22) M2 534 109 4 231 541 true ++
  FR "finish_name" "finish_name" (top 23) M2 544 111 4 238 552 true ++
  FR "finish_let" "finish_let" (top 24) M2 555 114 4 245 562 true ++
  FR "finish_set" "finish_set" (top 25) M2 565 116 4 252 573 true ++
  FR "finish_do" "finish_do" (top 26) M2 576 120 4 259 583 true ++
  FR "finish_if" "finish_if" (top 27) M2 586 122 4 266 593 true ++
  FR "finish_while" "finish_while" (top 28) M2 596 124 4 273 603 true ++
  FR "finish_each" "finish_each" (top 29) M2 606 130 4 280 615 true ++
  FR "finish_say" "finish_say" (top 30) M2 618 135 4 287 625 true ++
  FR "finish_fault" "finish_fault" (top 31) M2 628 138 4 294 635 true ++
  FR "finish_op" "finish_op" (top 32) M2 638 140 4 301 646 true ++
  FR "finish_new" "finish_new" (top 33) M2 649 146 4 308 656 true ++
  FR "finish_get" "finish_get" (top 34) M2 659 148 4 315 667 true ++
  FR "finish_fun" "finish_fun" (top 35) M2 670 154 4 322 677 true ++
  FR "finish_apply" "finish_apply" (top 36) M2 680 156 4 329 688 true ++
  FR "finish_call" "finish_call" (top 37) M2 691 162 4 336 701 true ++
  FR "first_things" "first_things" (top 39) M2 739 167 1 344 743 true ++
  FR "do_next" "do_next" (top 40) M2 746 173 1 351 758 true ++
  FR "opened" "opened" (top 41) M2 761 188 3 358 772 true ++
  FR "run" "run" (top 42) M2 775 194 4 365 787 true ++
  FR "_law_box" "_law_box" (top 44) M3 792 205 2 372 798 true ++
  FR "_law_take" "_law_take" (top 45) M3 801 210 2 379 808 true ++
  FR "_law_leaf" "_law_leaf" (top 46) M3 811 219 2 386 817 true ++
  FR "_law_fresh" "_law_fresh" (top 47) M3 820 224 1 393 824 true ++
  FR "_law_many" "_law_many" (top 48) M3 827 227 5 400 830 false ++
  FR "_law_binder" "_law_binder" (top 49) M3 833 229 4 405 836 false ++
  FR "_law_op" "_law_op" (top 50) M3 839 245 4 410 848 true ++
  FR "_law_record" "_law_record" (top 51) M3 851 253 4 417 860 true ++
  FR "_law_call" "_law_call" (top 52) M3 863 261 4 424 866 false ++
  FR "_law_flow" "_law_flow" (top 53) M3 869 274 4 429 878 true ++
  FR "_law_e" "_law_e" (top 54) M3 881 288 4 436 889 true ++
  FR "_law_core" "_law_core" (top 55) M3 892 305 1 443 895 false ++
  FR "_law_worth" "_law_worth" (top 56) M3 898 320 1 448 902 true ++
  FR "_law_look" "_law_look" (top 57) M3 905 322 1 455 909 true ++
  FR "_law_ended" "_law_ended" (top 58) M3 912 326 2 462 917 true ++
  FR "_law_ticked" "_law_ticked" (top 59) M3 920 330 1 469 924 true ++
  FR "_law_sum" "_law_sum" (top 60) M3 927 335 3 476 930 false ++
  FR "_law_values" "_law_values" (top 61) M3 933 357 4 481 936 false ++
  FR "_law_goes" "_law_goes" (top 62) M3 939 359 4 486 947 true ++
  FR "_law_loop" "_law_loop" (top 63) M3 950 362 4 493 959 true ++
  FR "_law_applied" "_law_applied" (top 64) M3 962 373 4 500 973 true ++
  FR "_law_called" "_law_called" (top 65) M3 976 384 4 507 979 false ++
  FR "_law_bound" "_law_bound" (top 66) M3 982 390 4 512 989 true ++
  FR "_law_got" "_law_got" (top 67) M3 992 393 4 519 1000 true ++
  FR "_law_other" "_law_other" (top 68) M3 1003 398 4 526 1013 true ++
  FR "_law_value" "_law_value" (top 69) M3 1016 418 4 533 1023 true ++
  FR "_law_run" "_law_run" (top 70) M3 1026 441 4 540 1029 false ++
  FR "_law_plain" "_law_plain" (top 71) M3 1032 448 1 545 1036 true ++
  FR "law" "law" (top 72) M3 1039 450 1 552 1042 false ++
  FR "__init__" "Made.__init__" (aQ (top 9) 0) M1 322 21 3 72 328 true ++
  FR "__init__" "Fun.__init__" (aQ (top 10) 0) M1 353 26 4 93 360 true ++
  FR "__init__" "Machine.__init__" (aQ (top 19) 0) M2 439 69 3 161 445 true ++
  FR "wait" "Machine.wait" (aQ (top 19) 1) M2 448 77 5 168 456 true ++
  FR "begin" "Machine.begin" (aQ (top 19) 2) M2 459 80 3 175 465 true ++
  FR "tell" "Machine.tell" (aQ (top 19) 3) M2 468 83 2 182 473 true ++
  FR "take" "Machine.take" (aQ (top 19) 4) M2 476 86 2 189 483 true ++
  FR "fault" "Machine.fault" (aQ (top 19) 5) M2 486 92 2 196 491 true ++
  FR "tick" "Machine.tick" (aQ (top 19) 6) M2 494 95 1 203 498 true)
def KA:List Addr:=[3,15,343,81,80,102,101,212,211,16,17,18,19,20,21,22,23,24,25,26,27,28,29,30,31,32,38,39,112,113,119,120,126,127,133,134,140,141,147,148,152,153,222,223,229,230,236,237,243,244,250,251,257,258,264,265,271,272,278,279,285,286,292,293,299,300,306,307,313,314,320,321,327,328,334,335,341,342,349,350,356,357,363,364,370,371,377,378,384,385,391,392,398,399,403,404,408,409,415,416,422,423,427,428,434,435,441,442,446,447,453,454,460,461,467,468,474,475,479,480,484,485,491,492,498,499,505,506,510,511,517,518,524,525,531,532,538,539,543,544,550,551,555,556,77,78,98,99,166,167,173,174,180,181,187,188,194,195,201,202,208,209]
def QV:Program:=PySem.W.view PySem.Challenge.pw_turnsame_k19_runs [72]
def LZ:List Str:=List.map Str.ofString ["SLOTS","children_of","TurnError","NoOpen","HALF","WHOLE","Made","Fun","worth","look","row_of","taken_in","of_worths","op_fault","op_value","Machine","bound_names","box_of","finish_number","finish_name","finish_let","finish_set","finish_do","finish_if","finish_while","finish_each","finish_say","finish_fault","finish_op","finish_new","finish_get","finish_fun","finish_apply","finish_call","FINISHERS","first_things","do_next","opened","run","_law_box","_law_take","_law_leaf","_law_fresh","_law_many","_law_binder","_law_op","_law_record","_law_call","_law_flow","_law_e","_law_core","_law_worth","_law_look","_law_ended","_law_ticked","_law_sum","_law_values","_law_goes","_law_loop","_law_applied","_law_called","_law_bound","_law_got","_law_other","_law_value","_law_run","_law_plain"]
def HK:PySem.W.Hook:=PySem.W.kHook KF KA (λ_=>by right)
def oi {α β γ:Type} {o:Option α} {f:α->β} {g:α->γ} {b:β} {c:γ} (h1:o.map f=some b) (h2:o.map g=some c):o.map (λs=>(f s,g s))=some (b,c):=by
 cases o with
 | none=>cases h1
 | some x=>rw[Option.map_some] at h1 h2 ⊢;cases h1;cases h2;rfl
def iI (N:Nat) (w:World) (b:Bool):Option Shared:=(PySem.W.fencedOpening treeTable PySem.Challenge.pw_turnsame_k19_runs w N).bind λs₀=>PySem.W.topFrom treeTable PySem.Challenge.pw_turnsame_k19_runs (w.withFollow "special-get-raises" b) N s₀
def uK {q:Program} {loose:List Str} {Xt:Shared->Bool} {α:Type} {Yf:Shared->α} {Ya:World->α} {N:Nat} {g0:Bool}
 (h1:∀ (w:World) (b:Bool),(iI N w b).map (PySem.W.openSeen q loose (importedModules PySem.Challenge.pw_turnsame_k19_runs.main.body) Xt g0)=some (PySem.W.openGood q loose))
 (h2:∀ (w:World) (b:Bool),(iI N w b).map Yf=some (Ya (w.withFollow "special-get-raises" b))):PySem.W.LeftO PySem.Challenge.pw_turnsame_k19_runs q loose Xt Yf Ya N g0 :=
 PySem.W.LeftO.of_split "special-get-raises" λw=>by
  have a:=oi (h1 w false) (h2 w false);have b:=oi (h1 w true) (h2 w true);unfold iI at a b;cases e:PySem.W.fencedOpening treeTable PySem.Challenge.pw_turnsame_k19_runs w N with
  | none=>rw[e] at a;cases a
  | some s₀ =>
   rw[e,Option.bind_some] at a b;rw[Option.map_some,a,b]
def iz {o:Option Shared} {as:List Addr} {v:List (Option Obj)} (n:Nat) (h1:o.map (λs=>(as.take n).map s.heap.get?)=some (v.take n)) (h2:o.map (λs=>(as.drop n).map s.heap.get?)=some (v.drop n)):o.map (λs=>as.map s.heap.get?)=some v:=by
 cases o with
 | none=>cases h1
 | some s =>
  have a:(as.take n).map s.heap.get?=v.take n:=Option.some.inj h1;have b:(as.drop n).map s.heap.get?=v.drop n:=Option.some.inj h2;exact congrArg some ((congrArg (List.map s.heap.get?) (List.take_append_drop n as)).symm.trans (by rw[List.map_append,a,b,List.take_append_drop]))
def XT (s:Shared):Bool:=PySem.W.xlAt QV [] s&&PySem.W.recOk (PySem.W.RowW.records (PySem.W.OpenRow.toRowW (PySem.W.OpenLaw.row PySem.Challenge.rw_turnsame_k19_runs))) s
set_option maxRecDepth 100000 in
def CM:∀ w:World,(iI 7664 w false).map (PySem.W.openSeen QV LZ (importedModules PySem.Challenge.pw_turnsame_k19_runs.main.body) XT true)=some (PySem.W.openGood QV LZ):=λw=>by right
def Zo (b:Bool) (f:∀ α:Type,List α->List α):Prop:=∀ w:World,(iI 7664 w b).map (λs=>(f _ KA).map s.heap.get?)=some (f _ ((KF (w.withFollow "special-get-raises" b).params).map λp=>some p.2))
set_option maxRecDepth 100000 in
def CU:Zo false (λ_ l=>l.take 56):=λw=>by right
set_option maxRecDepth 100000 in
def CQ:Zo false (λ_ l=>(l.drop 56).take 37):=λw=>by right
set_option maxRecDepth 100000 in
def CO:Zo false (λ_ l=>((l.drop 56).drop 37).take 40):=λw=>by right
set_option maxRecDepth 100000 in
def Zv:Zo false (λ_ l=>((l.drop 56).drop 37).drop 40):=λw=>by right
set_option maxRecDepth 100000 in
def CL:∀ w:World,(iI 7664 w true).map (PySem.W.openSeen QV LZ (importedModules PySem.Challenge.pw_turnsame_k19_runs.main.body) XT true)=some (PySem.W.openGood QV LZ):=λw=>by right
set_option maxRecDepth 100000 in
def CT:Zo true (λ_ l=>l.take 56):=λw=>by right
set_option maxRecDepth 100000 in
def CP:Zo true (λ_ l=>(l.drop 56).take 37):=λw=>by right
set_option maxRecDepth 100000 in
def CN:Zo true (λ_ l=>((l.drop 56).drop 37).take 40):=λw=>by right
set_option maxRecDepth 100000 in
def Zw:Zo true (λ_ l=>((l.drop 56).drop 37).drop 40):=λw=>by right
end K19
section
open PySem PySem.W PyProof.Rows
set_option maxRecDepth 100000 in
set_option maxHeartbeats 0 in
def K19.preH (hc:∀ d:DefRec,d.name=Str.ofString "law"->d.params.defaults=[]->WalkO K19.QV K19.LZ (XL K19.QV []) (Hook.says K19.HK) (OpenRow.toRowW (OpenLaw.row PySem.Challenge.rw_turnsame_k19_runs)) d [] (λf vs=>PySem.call f vs)):PySem.Challenge.rw_turnsame_k19_runs.Holds:=by
 refine holds_law (by right) λ_=>?_
 refine holds_open (q:=K19.QV) (loose:=K19.LZ) (Xt:=K19.XT) (XP:=XL K19.QV []) (Yf:=Hook.obs K19.HK) (Ya:=Hook.val K19.HK) (YP:=Hook.says K19.HK) (N:=7664) ?hl (Hook.of K19.HK) (Hook.keeps K19.HK) (λs e=>xl_of s (Bool.and_eq_true_iff.mp e).1) XL.keeps (by rfl) (by rfl) (by rfl) (λs e=>recFacts_of (Bool.and_eq_true_iff.mp e).2) (by rfl) (by first | assumption | left) (by left) ⟨U,U,U,U,U,by left⟩ ?hw ?hc
 case hl=>exact K19.uK (λw b=>by cases b;exact K19.CM w;exact K19.CL w) (λw b=>by cases b;exact K19.iz 56 (K19.CU w) (K19.iz 37 (K19.CQ w) (K19.iz 40 (K19.CO w) (K19.Zv w)));exact K19.iz 56 (K19.CT w) (K19.iz 37 (K19.CP w) (K19.iz 40 (K19.CN w) (K19.Zw w))))
 case hw=>w_witness2
 exact hc _ U U
end
local macro_rules
|`(%[$xs,*|$k])=>do
  let k<-if k.raw.isOfKind `num then `(pB) else pure k
  let r<-xs.getElems.foldrM (λx (k:Lean.Term)=>do
    let x<-if x.raw.isOfKind `num then `(pv $x) else pure x
    `(pA $x $k)) k
  return r
namespace L2
open PySem PySem.Spec PyProof.Rows
abbrev Key:=Sum Int Str
def ju:Key->Value->Bool
  | .inl k,v=>Value.isInt k v
  | .inr x,v=>Value.isStrOf x v
def CI (w:World):Key->Int
  | .inl k=>hashInt k
  | .inr x=>hashStr w x
def bP:∀ {k:Key} {v:Value},ju k v=true->(∃ i t,k=Sum.inl i/\v=Value.int i t)\/(∃ x t,k=Sum.inr x/\v=Value.str x t)
 | .inl i,v,h=>by
  obtain⟨t,e⟩:=Value.isInt_shape (k:=i) (v:=v) h;exact .inl ⟨i,t,U,e⟩
 | .inr x,v,h=>by
  obtain⟨t,e⟩:=Value.isStrOf_shape (x:=x) (v:=v) h;exact .inr ⟨x,t,U,e⟩
def px (i:Int) (t:Tok):ju (.inl i) (.int i t)=true:=by simp[ju,Value.isInt]
def pr (x:Str) (t:Tok):ju (.inr x) (.str x t)=true:=by simp[ju,Value.isStrOf]
def yn (a b:Int):decide ((Sum.inl a:Key)=Sum.inl b)=(a==b):=by
 by_cases e:a=b
 · subst e;simp
 · have h:¬ (Sum.inl a:Key)=Sum.inl b:=λq=>e (Sum.inl.inj q);rw[decide_eq_false h];exact (beq_eq_false_iff_ne.mpr e).symm
def yj (a b:Str):decide ((Sum.inr a:Key)=Sum.inr b)=decide (a=b):=by
 by_cases e:a=b
 · subst e;simp
 · have h:¬ (Sum.inr a:Key)=Sum.inr b:=λq=>e (Sum.inr.inj q);rw[decide_eq_false h,decide_eq_false e]
def ym (a:Int) (b:Str):decide ((Sum.inl a:Key)=Sum.inr b)=false:=decide_eq_false (λq=>nomatch q)
def yk (a:Str) (b:Int):decide ((Sum.inr a:Key)=Sum.inl b)=false:=decide_eq_false (λq=>nomatch q)
def aP (prog:Program) (w:World):PySem.KeyKind prog w Key where
  is:=ju
  hash:=CI w
  inj:=λv a b ha hb=>by
    rcases bP ha with ⟨i,t,rfl,rfl⟩ | ⟨x,t,rfl,rfl⟩
    · rcases bP hb with ⟨j,u,rfl,e⟩ | ⟨y,u,rfl,e⟩
      · injection e with e1 _;rw[e1]
      · exact nomatch e
    · rcases bP hb with ⟨j,u,rfl,e⟩ | ⟨y,u,rfl,e⟩
      · exact nomatch e
      · injection e with e1 _;rw[e1]
  byValue:=λk v h=>by
    rcases bP h with ⟨i,t,rfl,rfl⟩ | ⟨x,t,rfl,rfl⟩ <;> rfl
  pyHash:=λhv h=>by
    rcases bP hv with ⟨i,t,rfl,rfl⟩ | ⟨x,t,rfl,rfl⟩
    · exact wpAny_pyHash_int h
    · exact wpAny_pyHash_str h
  eqBool:=λhu hv h=>by
    rcases bP hu with ⟨i,t,rfl,rfl⟩ | ⟨x,t,rfl,rfl⟩
    · rcases bP hv with ⟨j,u,rfl,rfl⟩ | ⟨y,u,rfl,rfl⟩
      · rw[yn] at h;exact wpAny_eqBool_int h
      · rw[ym] at h;exact SeqAt.EqAt.int_str i t y u _ _ _ _ h
    · rcases bP hv with ⟨j,u,rfl,rfl⟩ | ⟨y,u,rfl,rfl⟩
      · rw[yk] at h;exact SeqAt.EqAt.str_int x t j u _ _ _ _ h
      · rw[yj] at h;exact wpAny_eqBool_str h
  «strs»:=λk x t v h=>by
    rcases bP h with ⟨i,u,rfl,e⟩ | ⟨y,u,rfl,e⟩
    · exact nomatch e
    · injection e with e1 _
      subst e1;cases v <;> rfl
def lC (prog:Program) (w:World) (i:Int) (t:Tok):(aP prog w).is (.inl i) (.int i t)=true:=px i t
def fu (prog:Program) (w:World) (x:Str) (t:Tok):(aP prog w).is (.inr x) (.str x t)=true:=pr x t
inductive V where
  | non | bl (b:Bool) | int (i:Int) | str (x:Str) | byt (b:Array UInt8) | flt (b:UInt64) | ref (a:Addr) | ty (n:String)
  deriving DecidableEq
def b7:V->Value->Prop
  | .non,u=>u=Value.none
  | .bl b,u=>u=Value.bool b
  | .int i,u=>∃ t,u=Value.int i t
  | .str x,u=>∃ t,u=Value.str x t
  | .byt b,u=>∃ t,u=Value.bytes b t
  | .flt b,u=>∃ t,u=Value.float b t
  | .ref a,u=>u=Value.ref a
  | .ty n,u=>u=Value.type n
abbrev aT:List V->List Value->Prop:=Paired b7
def aT.length {xs:List V} {us:List Value} (r:aT xs us):xs.length=us.length:=Paired.length r
def aT.get:∀ {xs:List V} {us:List Value} {i:Nat} {x:V},aT xs us->xs[i]?=some x->∃ u,us[i]?=some u/\b7 x u:=by
 intro xs us i x h
 induction h generalizing i with
 | nil=>intro e;simp at e
 | cons r t ih =>
  intro e;cases i with
  | zero=>cases e;exact⟨_,U,r⟩
  | succ i=>exact ih e
def aT.set {x:V} {u:Value} (r:b7 x u):∀ {xs:List V} {us:List Value} (i:Nat),aT xs us->aT (xs.set i x) (us.set i u)
 | _,_,_,.nil=>.nil
 | _,_,0,.cons _ t=>.cons r t
 | _,_,i+1,.cons q t=>.cons q (aT.set r i t)
def aT.append:∀ {xs ys:List V} {us ws:List Value},aT xs us->aT ys ws->aT (xs++ys) (us++ws):=by
 intro xs ys us ws h z
 induction h with
 | nil=>exact z
 | cons r t ih=>exact .cons r ih
def aT.take:∀ {xs:List V} {us:List Value} (n:Nat),aT xs us->aT (xs.take n) (us.take n)
 | _,_,0,_=>.nil
 | _,_,_+1,.nil=>.nil
 | _,_,n+1,.cons r t=>.cons r (aT.take n t)
def aT.drop:∀ {xs:List V} {us:List Value} (n:Nat),aT xs us->aT (xs.drop n) (us.drop n)
 | _,_,0,r=>r
 | _,_,_+1,.nil=>.nil
 | _,_,n+1,.cons _ t=>aT.drop n t
def fH:Option V->Option Value->Prop
  | some v,some u=>b7 v u
  | none,none=>True
  | _,_=>False
def KV {κ:Type}:List (κ×V)->List (κ×Value)->Prop:=Paired λ(p:κ×V) (q:κ×Value)=>p.1=q.1/\b7 p.2 q.2
def kV:Key->V
  | .inl i=>.int i
  | .inr x=>.str x
inductive HO where
    | lst (xs:List V)
    | tup (xs:List V)
    | dK (kvs:List (Key×V)) | dT (kvs:List (List Key×V))
    | set (S:Int->Bool) (n:Nat)
    | ins (C dx:Addr) (fs:List (Str×V))
    | own (x:Addr)
    | xd (fs:List (Str×V))
    | met (f x:Addr)
    | rng (lo hi:Int)
    | frz (o:Obj) (u:HO)
    | tbl (ps:Array Value)
    | ext (φ:Heap->Prop)
abbrev Hp:=Addr->Option HO
def upd (H:Hp) (a:Addr) (o:HO):Hp:=λb=>if b=a then some o else H b
def pE {H:Hp} {a:Addr} {o:HO}:upd H a o a=some o:=by unfold upd;rw[if_pos U]
def af {H:Hp} {a b:Addr} {o:HO} (h:b≠a):upd H a o b=H b:=by unfold upd;rw[if_neg h]
def Bn {H:Hp} {a b:Addr} {o u:HO} (h:H a=some o) (h':H b=some u) (d:o≠u):a≠b:=by
 intro e;subst e;rw[h] at h';exact d (Option.some.inj h')
def ao {H:Hp} {a b:Addr} {o:HO} (h:H a=some o) (h':H b=none):a≠b:=by
 intro e;subst e;rw[h] at h';cases h'
section
variable (P:Program) (w:World)
def bQ (H:Hp) (h:Heap) (a:Addr):HO->Prop
  | .lst xs=>xs.length<=sizeLine/\∃ (its:List Value) (n:Nat),aT xs its/\h.get? a=some {cls:=.type "list",data:=.seq its.toArray n}
  | .tup xs=>xs.length<=sizeLine/\∃ its:List Value,aT xs its/\IsTup h a its.toArray
  | .dK kvs=>kvs.length<=sizeLine/\(a==sysModules)=false/\∃ vs,KV kvs vs/\h.DictOf (aP P w) a vs
  | .dT kvs=>kvs.length<=sizeLine/\(a==sysModules)=false/\∃ xs:List (List Key×Addr×Value),
      Paired (λ(p:List Key×V) (q:List Key×Addr×Value)=>p.1=q.1/\H q.2.1=some (.tup (p.1.map kV))/\b7 p.2 q.2.2) kvs xs /\
      ∃ o es ep,h.get? a=some o/\o.ExactDict/\o.data=.dict es ep/\es.toList=xs.map (entryOfKey (tupleKind (aP P w)))/\(xs.map (·.1)).Nodup
  | .set S n=>h.SetOf (intKind P w) a S n
  | .ins C dx fs=>H dx=some (.own a)/\fs.length<=1000/\dx≠a/\h.get? a=some (PySem.W.instObj C dx) /\
      ∃ mA,h.Ns1 dx mA/\(∀ f,fH (fs.lookup f) (mA f))/\PySem.Within mA (fs.map (·.1))
  | .own _=>∃ o,h.get? a=some o
  | .xd fs=>∃ mA,h.Ns1 a mA/\∀ f,fH (fs.lookup f) (mA f)
  | .rng lo hi=>∃ t u v,h.get? a=some {cls:=.type "range",data:=.fields #[.int lo t,.int hi u,.int 1 v]}
  | .frz o u=>h.get? a=some o/\bQ H h a u
  | .tbl ps=>h.get? a=some {cls:=.none,data:=.fields ps}
  | .met f x=>h.get? a=some (PySem.W.methodObj (.ref f) (.ref x))
  | .ext φ=>φ h/\(∃ o,h.get? a=some o)/\∀ h1 h2:Heap,φ h1->(∀ o,h1.get? a=some o->h2.get? a=some o)->φ h2
def HOk (H:Hp) (h:Heap):Prop:=∀ a o,H a=some o->bQ P w H h a o
end
section
variable {P:Program} {w:World} {H H':Hp} {h h':Heap} {a:Addr} {o:HO}
def bQ.lt (x:bQ P w H h a o):a<h.objs.size:=by
 cases o with
 | lst xs=>obtain⟨_,_,_,_,e⟩:=x;exact Heap.lt_size e
 | tup xs=>obtain⟨_,_,_,p⟩:=x;exact p.lt
 | dK kvs=>obtain⟨_,_,_,_,o,_,_,e,_⟩:=x;exact Heap.lt_size e
 | dT kvs=>obtain⟨_,_,_,_,o,_,_,e,_⟩:=x;exact Heap.lt_size e
 | set S n=>obtain⟨o,_,_,_,e,_⟩:=x;exact Heap.lt_size e
 | ins C dx fs=>obtain⟨_,_,_,e,_⟩:=x;exact Heap.lt_size e
 | own y=>obtain⟨_,e⟩:=x;exact Heap.lt_size e
 | xd fs=>obtain⟨_,⟨_,_,_,e,_⟩,_⟩:=x;exact Heap.lt_size e
 | rng lo hi=>obtain⟨_,_,_,e⟩:=x;exact Heap.lt_size e
 | frz ob u=>obtain⟨e,_⟩:=x;exact Heap.lt_size e
 | tbl ps=>exact Heap.lt_size (show h.get? a=some _ from x)
 | met f y=>exact Heap.lt_size (show h.get? a=some _ from x)
 | ext φ=>obtain⟨_,⟨_,e⟩,_⟩:=x;exact Heap.lt_size e
def Paired.mapP {α β:Type} {F G:α->β->Prop}:∀ {l₁:List α} {l₂:List β},Paired F l₁ l₂->(∀ a b,F a b->G a b)->Paired G l₁ l₂:=by
 intro l₁ l₂ h f
 induction h with
 | nil=>exact .nil
 | cons r t ih=>exact .cons (f _ _ r) ih
def bQ.stay (x:bQ P w H h a o) (k:∀ b u,(b=a\/H b=some (.own a))->h.get? b=some u->h'.get? b=some u)
 (ho:∀ b,H b=some (.own a)->H' b=some (.own a)) (ht:∀ b xs,H b=some (.tup xs)->H' b=some (.tup xs)):bQ P w H' h' a o:=by
 induction o with
 | lst xs=>obtain⟨z,its,n,r,e⟩:=x;exact⟨z,its,n,r,k _ _ (.inl U) e⟩
 | tup xs=>obtain⟨z,its,r,ob,e,c⟩:=x;exact⟨z,its,r,ob,k _ _ (.inl U) e,c⟩
 | dK kvs=>obtain⟨z,y,vs,r,ob,es,ep,e,c⟩:=x;exact⟨z,y,vs,r,ob,es,ep,k _ _ (.inl U) e,c⟩
 | dT kvs =>
  obtain⟨z,y,xs,r,ob,es,ep,e,c⟩:=x;exact⟨z,y,xs,Paired.mapP r λp q z=>⟨z.1,ht _ _ z.2.1,z.2.2⟩,ob,es,ep,k _ _ (.inl U) e,c⟩
 | set S n=>obtain⟨ob,es,ep,t,e,c⟩:=x;exact⟨ob,es,ep,t,k _ _ (.inl U) e,c⟩
 | ins C dx fs =>
  obtain⟨d,z,ne,e,mA,⟨od,es,ep,e2,c⟩,r⟩:=x;exact⟨ho _ d,z,ne,k _ _ (.inl U) e,mA,⟨od,es,ep,k _ _ (.inr d) e2,c⟩,r⟩
 | own y=>obtain⟨ob,e⟩:=x;exact⟨ob,k _ _ (.inl U) e⟩
 | xd fs=>obtain⟨mA,⟨od,es,ep,e,c⟩,r⟩:=x;exact⟨mA,⟨od,es,ep,k _ _ (.inl U) e,c⟩,r⟩
 | rng lo hi=>obtain⟨t,u,v,e⟩:=x;exact⟨t,u,v,k _ _ (.inl U) e⟩
 | frz ob u ih=>obtain⟨e,q⟩:=x;exact⟨k _ _ (.inl U) e,ih q⟩
 | tbl ps =>
  have e:h.get? a=some {cls:=.none,data:=.fields ps}:=x;show h'.get? a=some {cls:=.none,data:=.fields ps};exact k a _ (.inl U) e
 | met f y =>
  have e:h.get? a=some (PySem.W.methodObj (.ref f) (.ref y)):=x;show h'.get? a=some (PySem.W.methodObj (.ref f) (.ref y));exact k a _ (.inl U) e
 | ext φ=>obtain⟨p,⟨o,e⟩,st⟩:=x;exact⟨st _ _ p λo q=>k _ _ (.inl U) q,⟨o,k _ _ (.inl U) e⟩,st⟩
def HOk.lt (x:HOk P w H h) (e:H a=some o):a<h.objs.size:=(x a o e).lt
def HOk.fresh (x:HOk P w H h) (e:h.objs.size<=a):H a=none:=by
 cases q:H a with
 | none=>rfl
 | some u=>exact absurd (Nat.lt_of_lt_of_le (x.lt q) e) (Nat.lt_irrefl _)
def HOk.kept (x:HOk P w H h) (k:∀ b u,h.get? b=some u->h'.get? b=some u):HOk P w H h':=λa o e =>
 (x a o e).stay (λb u _ q=>k b u q) (λ_ q=>q) λ_ _ q=>q
def HOk.laid (x:HOk P w H h) (k:∀ b u,h.get? b=some u->h'.get? b=some u) (hp:h.objs.size<=a) (new:bQ P w (upd H a o) h' a o):HOk P w (upd H a o) h':=λb u e=>by
 have hn:=x.fresh hp;by_cases hb:b=a
 · subst hb;rw[pE] at e;cases e;exact new
 · rw[af hb] at e;exact (x b u e).stay (λc v _ q=>k c v q) (λc q=>by rw[af (ao q hn)];exact q) λc xs q=>by rw[af (ao q hn)];exact q
end
def Rd (H:Hp) (a:Addr) (u:HO):Prop:=H a=some u\/∃ o,H a=some (.frz o u)
def Rd.ok {P:Program} {w:World} {H:Hp} {h:Heap} {a:Addr} {u:HO} (r:Rd H a u) (x:HOk P w H h):bQ P w H h a u:=by
 rcases r with r | ⟨o,r⟩
 · exact x a u r
 · obtain⟨_,q⟩:=x a _ r;exact q
def Mut:Option HO->Prop
  | some (.lst _)=>True
  | some (.dK _)=>True
  | some (.dT _)=>True
  | some (.set _ _)=>True
  | some (.ins _ _ _)=>True
  | some (.ext _)=>True
  | _=>False
section
variable {P:Program} {w:World} {H:Hp} {h h':Heap} {x e:Addr} {o':HO}
def HOk.write (ok:HOk P w H h) (mu:Mut (H x)) (he:e=x\/H e=some (.own x)) (k:∀ b u,b≠e->h.get? b=some u->h'.get? b=some u) (heo:∃ u,h'.get? e=some u)
 (new:bQ P w (upd H x o') h' x o'):HOk P w (upd H x o') h':=λb u q=>by
 have nown:∀ c y,H c=some (.own y)->c≠x:=λc y r z=>by subst z;rw[r] at mu;exact mu
 have ntup:∀ c xs,H c=some (.tup xs)->c≠x:=λc xs r z=>by subst z;rw[r] at mu;exact mu
 by_cases hb:b=x
 · subst hb;rw[pE] at q;cases q;exact new
 · rw[af hb] at q;by_cases hbe:b=e
   · have q':H b=some (.own x):=by
      rcases he with z | z
      · exact absurd (hbe.trans z) hb
      · rw[hbe];exact z
     rw[q] at q';cases q';obtain⟨v,hv⟩:=heo;exact⟨v,by rw[hbe];exact hv⟩
   · refine (ok b u q).stay (λc v hc r=>k c v ?_ r) (λc r=>by rw[af (nown c b r)];exact r) λc xs r=>by rw[af (ntup c xs r)];exact r
     rcases hc with rfl | hc
     · exact hbe
     · rintro rfl
       rcases he with z | z
       · exact nown c b hc z
       · rw[hc] at z;cases z;exact hb U
end
structure Un (fs ex:List Addr) (H H':Hp) (h h':Heap):Prop where
  keep:∀ b o,h.get? b=some o->H b=none->b∉fs->b∉ex->h'.get? b=some o
  slot:∀ b o,h.get? b=some o->H b=none->b∈fs->b∉ex->∃ sl,h'.get? b=some {o with slots:=sl}
  free:∀ b o,h.get? b=some o->H b=none->b∉ex->H' b=none
  there:∀ b o,h.get? b=some o->b∉ex->∃ o',h'.get? b=some o'
  tups:∀ b xs,H b=some (.tup xs)->H' b=some (.tup xs)
  frzs:∀ b o u,H b=some (.frz o u)->H' b=some (.frz o u)
  tbls:∀ b ps,H b=some (.tbl ps)->∃ more,H' b=some (.tbl (ps++more))
section
variable {fs fs' ex ex':List Addr} {H H1 H2:Hp} {h h1 h2 h':Heap} {a x e:Addr} {o:HO}
def Un.any (u:Un fs ex H H1 h h1) {b:Addr} {ob:Obj} (q:h.get? b=some ob) (n:H b=none) (hx:b∉ex):∃ sl,h1.get? b=some {ob with slots:=sl}:=by
 by_cases hb:b∈fs
 · exact u.slot b ob q n hb hx
 · exact⟨ob.slots,u.keep b ob q n hb hx⟩
def Un.kept (k:∀ b u,h.get? b=some u->h'.get? b=some u):Un fs ex H H h h' :=
 ⟨λb ob q _ _ _=>k b ob q,λb ob q _ _ _=>⟨ob.slots,k b ob q⟩,λ_ _ _ n _=>n,λb ob q _=>⟨ob,k b ob q⟩,λ_ _ q=>q,λ_ _ _ q=>q,λ_ ps q=>⟨#[],by rw[q];simp⟩⟩
def Un.refl:Un fs ex H H h h:=Un.kept λ_ _ q=>q
def Un.laid (k:∀ b u,h.get? b=some u->h'.get? b=some u) (hp:h.objs.size<=a) (hn:H a=none):Un fs ex H (upd H a o) h h' where
 keep:=λb u q _ _ _=>k b u q
 slot:=λb u q _ _ _=>⟨u.slots,k b u q⟩
 free:=λb u q n _=>by rw[af (Nat.ne_of_lt (Nat.lt_of_lt_of_le (Heap.lt_size q) hp))];exact n
 there:=λb u q _=>⟨u,k b u q⟩
 tups:=λb xs q=>by rw[af (ao q hn)];exact q
 frzs:=λb u xs q=>by rw[af (ao q hn)];exact q
 tbls:=λb ps q=>⟨#[],by rw[af (ao q hn),q];simp⟩
def Un.write (mu:Mut (H x)) (he:e=x\/H e=some (.own x)) (k:∀ b u,b≠e->h.get? b=some u->h'.get? b=some u) (heo:∃ u,h'.get? e=some u):Un fs ex H (upd H x o) h h':=by
 have hx:∀ b,H b=none->b≠x:=λb n z=>by subst z;rw[n] at mu;exact mu
 have hb:∀ b,H b=none->b≠e:=λb n z=>by
  subst z
  rcases he with r | r
  · exact hx b n r
  · rw[n] at r;cases r
 have hm:∀ b u,H b=some u->¬ Mut (some u)->b≠x:=λb u q nm z=>by subst z;rw[q] at mu;exact nm mu
 refine⟨λb u q n _ _=>k b u (hb b n) q,λb u q n _ _=>⟨u.slots,k b u (hb b n) q⟩,λb u q n _=>by rw[af (hx b n)];exact n,λb u q _=>?_,
   λb xs q=>by rw[af (hm b _ q λz=>z)];exact q,λb u xs q=>by rw[af (hm b _ q λz=>z)];exact q,λb ps q=>⟨#[],by rw[af (hm b _ q λz=>z),q];simp⟩⟩
 by_cases hbe:b=e
 · subst hbe;exact heo
 · exact⟨u,k b u hbe q⟩
end
def trk (h:Heap) (H:Hp):List Addr:=(List.range h.objs.size).filter λa=>(H a).isSome
def jW (h:Heap) (H:Hp):Heap:=PySem.W.hideAll h (trk h H)
def pP (h:Heap) (H:Hp):(jW h H).objs.size=h.objs.size:=PySem.W.hideAll_size _ _
def rX {h:Heap} {H:Hp} {b:Addr} {o:Obj} (e:h.get? b=some o) (n:H b=none):(jW h H).get? b=some o :=
 PySem.W.hideAll_get _ e λhm=>by
  have q:(H b).isSome=true:=(List.mem_filter.mp hm).2;rw[n] at q;simp at q
def uH {h:Heap} {H:Hp} {b:Addr} {o:Obj} (e:(jW h H).get? b=some o):h.get? b=some o/\H b=none:=by
 have e':h.get? b=some o:=PySem.W.of_hideAll (trk h H) e;refine⟨e',?_⟩;cases q:H b with
 | none=>rfl
 | some x =>
  have hm:b∈trk h H:=List.mem_filter.mpr ⟨List.mem_range.mpr (Heap.lt_size e'),by simp[q]⟩;have z:(jW h H).get? b=none:=PySem.W.hideAll_none (trk h H) hm;rw[z] at e;cases e
def vB (g h:Heap) (L:Addr):AOs:=(List.range h.objs.size).filterMap λa=>if a=L\/(g.get? a).isSome=true then none else (h.get? a).map λo=>(a,o)
def eR (g h:Heap) (L d:Addr):AOs:=(vB g h L).filter λp=>decide (p.1≠d)
structure Mod (K:Fg) (mg:SOV) (base:Heap):Prop where
  kin:K.In base
  glob:base.Ns mainGlobals mg
  blt:∃ mb,base.Ns builtinsNs mb/\∀ x:Str,x≠"__name__"->mb x=bootBuiltins x
  nolimit:base.NoLimit
structure Cx where
  prog:Program
  w:World
  K:Fg
  mg:Str->Option Value
  base:Heap
  A:Around
  N:List Str
  s₀:Shared
  H₀:Hp
  env:Env
  outer:List Env
  stack:List Env
  ex:List Addr
  fn:Str->Bool
  calm:Bool
  pn:AOs
  xe:Value->Shared->Prop
def frs (l:List Env):List Addr:=l.filterMap (·.frame)
abbrev Cx.fs (X:Cx):List Addr:=frs X.outer
def Vis (sc:Scope) (x:Str):Prop:=sc.names.lookup x=some .local\/sc.names.lookup x=some .cell\/sc.names.lookup x=some .free
def Loc (sc:Scope) (x:Str):Prop:=sc.names.lookup x=some .local\/sc.names.lookup x=some .cell
def Dh (env:Env) (h:Heap) (m:SOV) (x:Str) (u:Value):Prop :=
  (env.kindOf x=some .local/\m x=some u)\/((env.kindOf x=some .cell\/env.kindOf x=some .free)/\∃ c,env.cells.lookup x=some c/\h.IsCell c (some u))
structure Cx.Ok (X:Cx):Prop where
  mod:Mod X.K X.mg X.base
  kind:X.env.scope.kind=.function
  glob:X.env.globals=mainGlobals
  blt:X.env.builtins=builtinsNs
  above:X.s₀.heap.objs.size<=X.env.locals
  inj:∀ x y c,X.env.cells.lookup x=some c->X.env.cells.lookup y=some c->x=y
  has:∀ x,(X.env.kindOf x=some .cell\/X.env.kindOf x=some .free)->∃ c,X.env.cells.lookup x=some c
  cab:∀ x c,X.fn x=true->X.env.cells.lookup x=some c->X.s₀.heap.objs.size<=c
  hd:X.calm=true->X.A.handled=none
  frames:X.A.frames=some X.stack
  stk:X.stack=X.outer\/(X.stack=X.env::X.outer/\X.env.frame=some X.env.locals)
  exf:∀ b∈X.ex,b≠X.env.locals/\∀ x c,X.env.cells.lookup x=some c->c≠b
  bs:∀ b o,X.base.get? b=some o->X.s₀.heap.get? b=some o/\X.H₀ b=none
  bsz:X.base.objs.size<=X.s₀.heap.objs.size
  noex:∀ b o,X.base.get? b=some o->b∉X.ex
  exfs:∀ b∈X.ex,b∉X.fs
  funs:X.s₀.heap.FunFrames X.base X.outer
  frf:∀ b∈X.fs,X.H₀ b=none
structure Inv (X:Cx) (pins:AOs) (σ:List (Option V)) (H:Hp) (s:Shared):Prop where
  ok:X.Ok
  os:s.os=X.s₀.os
  bare:AllBare s.gens
  base:Un X.fs X.ex X.H₀ H X.s₀.heap s.heap
  loc:∃ m,s.heap.Ns X.env.locals m/\∀ (i:Nat) (x:Str) (v:V),X.N[i]?=some x->σ[i]?=some (some v)->Vis X.env.scope x->∃ u,b7 v u/\Dh X.env s.heap m x u
  cell:∀ x c,X.env.cells.lookup x=some c->∃ v,s.heap.IsCell c v
  free:H X.env.locals=none
  freeC:∀ x c,X.env.cells.lookup x=some c->H c=none
  pin:∀ p∈X.pn++pins,s.heap.get? p.1=some p.2/\H p.1=none/\p.1≠X.env.locals/\p.1∉X.fs/\∀ v,p.2.data≠.cell v
  hok:HOk X.prog X.w H s.heap
  len:σ.length=X.N.length
section
variable {X:Cx} {pins:AOs} {σ:List (Option V)} {H H':Hp} {s:Shared} {h':Heap}
def Cx.Ok.nofr (ok:X.Ok) {b:Addr} {o:Obj} (e:X.base.get? b=some o):b∉X.fs:=λhb=>by
 have:=(ok.funs.mem hb).1;rw[e] at this;cases this
def Inv.bs (I:Inv X pins σ H s):∀ b o,X.base.get? b=some o->s.heap.get? b=some o/\H b=none:=λb o e =>
 ⟨I.base.keep b o (I.ok.bs b o e).1 (I.ok.bs b o e).2 (I.ok.nofr e) (I.ok.noex b o e),I.base.free b o (I.ok.bs b o e).1 (I.ok.bs b o e).2 (I.ok.noex b o e)⟩
def Inv.bk (I:Inv X pins σ H s):∀ b o,X.base.get? b=some o->s.heap.get? b=some o:=λb o e=>(I.bs b o e).1
def Inv.mod (I:Inv X pins σ H s):Mod X.K X.mg X.base:=I.ok.mod
def Inv.kIn (I:Inv X pins σ H s):X.K.In s.heap:=I.ok.mod.kin.keeps I.bk
def Inv.lt (I:Inv X pins σ H s):X.env.locals<s.heap.objs.size:=by
 obtain⟨_,hn,_⟩:=I.loc;exact hn.lt
def Inv.sz (I:Inv X pins σ H s):X.s₀.heap.objs.size<=s.heap.objs.size:=Nat.le_trans I.ok.above (Nat.le_of_lt I.lt)
def Inv.nofs (I:Inv X pins σ H s) {a:Addr} (h:s.heap.objs.size<=a):a∉X.fs:=λhb=>by
 obtain⟨_,o,ho,_⟩:=I.ok.funs.mem hb;exact absurd (Nat.lt_of_lt_of_le (Heap.lt_size ho) (Nat.le_trans I.sz h)) (Nat.lt_irrefl _)
def Inv.cne (I:Inv X pins σ H s):∀ x c,X.env.cells.lookup x=some c->c≠X.env.locals:=λx c e z=>by
 obtain⟨v,o,ho,hd⟩:=I.cell x c e;obtain⟨m,⟨o',es,ep,ho',hd',_⟩,_⟩:=I.loc;rw[z,ho'] at ho;cases ho;rw[hd'] at hd;cases hd
def Inv.funs (I:Inv X pins σ H s):s.heap.FunFrames X.base X.outer:=by
 have all:∀ (l:List Env),(∀ b∈frs l,b∈X.fs)->X.s₀.heap.FunFrames X.base l->s.heap.FunFrames X.base l:=by
  intro l
  induction l with
  | nil=>intro _ _;trivial
  | cons env r ih =>
   intro hs hl;obtain⟨hk,⟨L,o,hf,hn,ho,hd⟩,hr⟩:=hl;have hL:L∈X.fs:=hs L (by unfold frs;rw[List.filterMap_cons,hf];exact mCS);obtain⟨sl,e⟩:=I.base.slot L o ho (I.ok.frf L hL) hL λz=>I.ok.exfs L z hL;exact⟨hk,⟨L,_,hf,hn,e,hd⟩,ih (λb hb=>hs b (by unfold frs;rw[List.filterMap_cons,hf];exact mCM _ hb)) hr⟩
 exact all X.outer (λ_ hb=>hb) I.ok.funs
def Inv.stack (I:Inv X pins σ H s):s.heap.FunFrames X.base X.stack:=by
 rcases I.ok.stk with e | ⟨e,hf⟩
 · rw[e];exact I.funs
 · rw[e];obtain⟨m,hn,_⟩:=I.loc;refine .cons (by rw[I.ok.kind];decide) hf hn ?_ I.funs;exact Heap.get?_none_of_le (Nat.le_trans I.ok.bsz I.ok.above)
def Inv.stkSub (I:Inv X pins σ H s):∀ b∈frs X.stack,b∈X.env.locals::X.fs:=λb hb=>by
 rcases I.ok.stk with e | ⟨e,hf⟩
 · rw[e] at hb;exact mCM _ hb
 · rw[e] at hb;unfold frs at hb;rw[List.filterMap_cons,hf] at hb;exact hb
def Inv.stkFree (I:Inv X pins σ H s):∀ b∈frs X.stack,H b=none:=λb hb=>by
 rcases List.mem_cons.mp (I.stkSub b hb) with e | hb
 · rw[e];exact I.free
 · obtain⟨_,o,ho,_⟩:=I.ok.funs.mem hb;exact I.base.free b o ho (I.ok.frf b hb) λz=>I.ok.exfs b z hb
def Inv.step {g':Array GenState} {t':Nat} {d':Drawn} {ch:List Addr} (I:Inv X pins σ H s)
 (hch:∀ b∈ch,(b∈X.ex\/X.s₀.heap.objs.size<=b)/\b≠X.env.locals/\(∀ x c,X.env.cells.lookup x=some c->c≠b)/\∀ p∈X.pn++pins,p.1≠b)
 (keep:∀ b o,b≠X.env.locals->b∉X.fs->b∉ch->s.heap.get? b=some o->H b=none->h'.get? b=some o)
 (slot:∀ b o,b≠X.env.locals->b∈X.fs->b∉ch->s.heap.get? b=some o->H b=none->∃ sl,h'.get? b=some {o with slots:=sl}) (free:∀ b o,b∉ch->s.heap.get? b=some o->H b=none->H' b=none)
 (there:∀ b o,b∉ch->s.heap.get? b=some o->∃ o',h'.get? b=some o')
 (tups:∀ b xs,H b=some (.tup xs)->H' b=some (.tup xs)) (frzs:∀ b o u,H b=some (.frz o u)->H' b=some (.frz o u)) (tbls:∀ b ps,H b=some (.tbl ps)->∃ more,H' b=some (.tbl (ps++more)))
 (ns:∀ m,s.heap.Ns X.env.locals m->h'.Ns X.env.locals m) (hok:HOk X.prog X.w H' h') (hg:AllBare g') :
 Inv X pins σ H' {s with heap:=h',gens:=g',drawn:=d',toks:=t'}:=by
 have neL:∀ b o,X.s₀.heap.get? b=some o->b≠X.env.locals:=λb o e=>Nat.ne_of_lt (Nat.lt_of_lt_of_le (Heap.lt_size e) I.ok.above);have neC:∀ b o,X.s₀.heap.get? b=some o->b∉X.ex->b∉ch:=λb o e hx hb=>by
  rcases (hch b hb).1 with z | z
  · exact hx z
  · exact absurd (Nat.lt_of_lt_of_le (Heap.lt_size e) z) (Nat.lt_irrefl _)
 have cellK:∀ x c,X.env.cells.lookup x=some c->∀ v,s.heap.IsCell c v->h'.IsCell c v:=λx c e v ⟨o,ho,hd⟩=>by
  have nch:c∉ch:=λz=>(hch c z).2.2.1 x c e rfl;by_cases hc:c∈X.fs
  · obtain⟨sl,q⟩:=slot c o (I.cne x c e) hc nch ho (I.freeC x c e);exact⟨_,q,hd⟩
  · exact⟨o,keep c o (I.cne x c e) hc nch ho (I.freeC x c e),hd⟩
 refine⟨I.ok,I.os,hg,⟨λb o e n hb hx=>?_,λb o e n hb hx=>?_,λb o e n hx=>?_,λb o e hx=>?_,λb xs e=>tups b xs (I.base.tups b xs e),λb o xs e=>frzs b o xs (I.base.frzs b o xs e),λb ps e=>?_⟩,?_,λx c e=>?_,?_,λx c e=>?_,λp hp=>?_,hok,I.len⟩
 · exact keep b o (neL b o e) hb (neC b o e hx) (I.base.keep b o e n hb hx) (I.base.free b o e n hx)
 · obtain⟨sl,e1⟩:=I.base.slot b o e n hb hx;obtain⟨sl',e2⟩:=slot b _ (neL b o e) hb (neC b o e hx) e1 (I.base.free b o e n hx);exact⟨sl',e2⟩
 · obtain⟨o',e1⟩:=I.base.there b o e hx;exact free b o' (neC b o e hx) e1 (I.base.free b o e n hx)
 · obtain⟨o',e1⟩:=I.base.there b o e hx;exact there b o' (neC b o e hx) e1
 · obtain⟨m1,e1⟩:=I.base.tbls b ps e;obtain⟨m2,e2⟩:=tbls b _ e1;exact⟨m1++m2,by rw[e2,Array.append_assoc]⟩
 · obtain⟨m,hn,hl⟩:=I.loc;refine⟨m,ns m hn,λi x v e1 e2 e3=>?_⟩;obtain⟨u,r,l⟩:=hl i x v e1 e2 e3;refine⟨u,r,?_⟩
   rcases l with l | ⟨k,c,e,z⟩
   · exact .inl l
   · exact .inr ⟨k,c,e,cellK x c e _ z⟩
 · obtain⟨v,z⟩:=I.cell x c e;exact⟨v,cellK x c e v z⟩
 · obtain⟨m,⟨o,_,_,ho,_⟩,_⟩:=I.loc;exact free _ o (λz=>(hch _ z).2.1 U) ho I.free
 · obtain⟨v,o,ho,hd⟩:=I.cell x c e;exact free c o (λz=>(hch c z).2.2.1 x c e U) ho (I.freeC x c e)
 · obtain⟨e,n,ne,nf,d⟩:=I.pin p hp;have nch:p.1∉ch:=λz=>(hch p.1 z).2.2.2 p hp rfl;exact⟨keep p.1 p.2 ne nf nch e n,free p.1 p.2 nch e n,ne,nf,d⟩
def Inv.un {t':Nat} (I:Inv X pins σ H s) (u:Un X.fs [] H H' s.heap h') (hok:HOk X.prog X.w H' h'):Inv X pins σ H' {s with heap:=h',toks:=t'}:=by
 obtain⟨m,⟨o,es,ep,ho,r⟩,_⟩:=id I.loc;obtain⟨sl,hL⟩:=u.any ho I.free (by simp);exact I.step (g':=s.gens) (d':=s.drawn) (ch:=[]) (λ_ z=>nomatch z) (λb o _ hb _ e n=>u.keep b o e n hb (by simp)) (λb o _ hb _ e n=>u.slot b o e n hb (by simp)) (λb o _ e n=>u.free b o e n (by simp)) (λb o _ e=>u.there b o e (by simp)) u.tups u.frzs u.tbls (λm' hm=>by
   obtain⟨o',es',ep',ho',r'⟩:=hm;rw[ho] at ho';cases ho';exact⟨_,es',ep',hL,r'⟩) hok I.bare
def Inv.call {g':Array GenState} {t':Nat} {d':Drawn} {ch:List Addr} (I:Inv X pins σ H s) (u:Un (frs X.stack) ch H H' s.heap h') (hok:HOk X.prog X.w H' h') (hg:AllBare g')
 (hch:∀ b∈ch,(b∈X.ex\/X.s₀.heap.objs.size<=b)/\b≠X.env.locals/\(∀ x c,X.env.cells.lookup x=some c->c≠b)/\∀ p∈X.pn++pins,p.1≠b) :
 Inv X pins σ H' {s with heap:=h',gens:=g',drawn:=d',toks:=t'}:=by
 obtain⟨m,⟨o,es,ep,ho,r⟩,_⟩:=id I.loc;obtain⟨sl,hL⟩:=u.any ho I.free λz=>(hch _ z).2.1 rfl;exact I.step (ch:=ch) hch (λb o hL hb hc e n=>u.keep b o e n (λz=>(List.mem_cons.mp (I.stkSub b z)).elim hL hb) hc) (λb o _ _ hc e n=>u.any e n hc) (λb o hc e n=>u.free b o e n hc) (λb o hc e=>u.there b o e hc) u.tups u.frzs u.tbls (λm' hm=>by
   obtain⟨o',es',ep',ho',r'⟩:=hm;rw[ho] at ho';cases ho';exact⟨_,es',ep',hL,r'⟩) hok hg
def Inv.turned {t':Nat} {it:Addr} (I:Inv X pins σ H s) (k:∀ b o,b≠it->s.heap.get? b=some o->h'.get? b=some o) (hn:H it=none) (hL:it≠X.env.locals)
 (h1:it∈X.ex\/X.s₀.heap.objs.size<=it) (h2:∀ x c,X.env.cells.lookup x=some c->c≠it) (h3:∀ p∈X.pn++pins,p.1≠it):Inv X pins σ H {s with heap:=h',toks:=t'}:=by
 have nit:∀ b u,H b=some u->b≠it:=λb u e z=>by rw[z,hn] at e;cases e
 refine I.step (g':=s.gens) (d':=s.drawn) (ch:=[it]) (λb hb=>?_) (λb o _ _ hc e _=>k b o (λz=>hc (by simp[z])) e) (λb o _ _ hc e _=>⟨o.slots,k b o (λz=>hc (by simp[z])) e⟩) (λ_ _ _ _ n=>n)
  (λb o hc e=>⟨o,k b o (λz=>hc (by simp[z])) e⟩) (λ_ _ e=>e) (λ_ _ _ e=>e) (λb ps e=>⟨#[],by rw[e];simp⟩) (λm hm=>?_) (λb u e=>?_) I.bare
 · have e:b=it:=by simpa using hb
   subst e;exact⟨h1,hL,h2,h3⟩
 · obtain⟨o,es,ep,ho,r⟩:=hm;exact⟨o,es,ep,k _ o (Ne.symm hL) ho,r⟩
 · refine (I.hok b u e).stay (λc v hc q=>k c v ?_ q) (λ_ q=>q) λ_ _ q=>q
   rcases hc with z | z
   · rw[z];exact nit b u e
   · exact nit c _ z
def Inv.tok (I:Inv X pins σ H s) (t:Nat):Inv X pins σ H {s with toks:=t}:=I.un (h':=s.heap) (t':=t) Un.refl I.hok
def Inv.kept {t':Nat} (I:Inv X pins σ H s) (k:∀ b u,s.heap.get? b=some u->h'.get? b=some u):Inv X pins σ H {s with heap:=h',toks:=t'}:=I.un (Un.kept k) (I.hok.kept k)
def Inv.laid {a:Addr} {o:HO} {t':Nat} (I:Inv X pins σ H s) (k:∀ b u,s.heap.get? b=some u->h'.get? b=some u) (hp:s.heap.objs.size<=a) (new:bQ X.prog X.w (upd H a o) h' a o) :
 Inv X pins σ (upd H a o) {s with heap:=h',toks:=t'}:=I.un (Un.laid k hp (I.hok.fresh hp)) (I.hok.laid k hp new)
def Inv.write {x e:Addr} {o:HO} {t':Nat} (I:Inv X pins σ H s) (mu:Mut (H x)) (he:e=x\/H e=some (.own x)) (k:∀ b u,b≠e->s.heap.get? b=some u->h'.get? b=some u) (heo:∃ u,h'.get? e=some u)
 (new:bQ X.prog X.w (upd H x o) h' x o):Inv X pins σ (upd H x o) {s with heap:=h',toks:=t'}:=I.un (Un.write mu he k heo) (I.hok.write mu he k heo new)
def Inv.pins_of {pins':AOs} (I:Inv X pins σ H s) (h:∀ p∈pins',s.heap.get? p.1=some p.2/\H p.1=none/\p.1≠X.env.locals/\p.1∉X.fs/\∀ v,p.2.data≠.cell v):Inv X pins' σ H s :=
 ⟨I.ok,I.os,I.bare,I.base,I.loc,I.cell,I.free,I.freeC,λp hp=>(mAp.mp hp).elim (λz=>I.pin p (List.mem_append_left _ z)) (h p),I.hok,I.len⟩
def lw {N:List Str} (hN:N.Nodup) {i j:Nat} {x:Str} (a:N[i]?=some x) (b:N[j]?=some x):i=j:=by
 obtain⟨h1,e1⟩:=gES.mp a;obtain⟨h2,e2⟩:=gES.mp b;exact (List.getElem_inj hN).mp (e1.trans e2.symm)
def jn {M:Model} {A:Around} {E:VSP} {i:Nat} {x:Str} {v:V} {u:Value} {Q:Unit->Shared->Prop} (I:Inv X pins σ H s) (hN:X.N.Nodup) (hi:X.N[i]?=some x) (hx:Loc X.env.scope x) (r:b7 v u)
 (h:∀ s',Inv X pins (σ.set i (some v)) H s'->(∃ a,Heap.SameBut a s.heap s'.heap/\(a=X.env.locals\/X.env.cells.lookup x=some a))->Q () s') (hf:X.fn x=true\/X.env.scope.names.lookup x=some .local:=by first | exact .inl U | exact .inr U | assumption):wpAny M A (storeName X.env x u) Q E s:=by
 obtain⟨m,hn,hl⟩:=id I.loc;have hcls:(X.env.scope.kind==.class||(X.env.scope.kind==.module&&X.env.locals != X.env.globals))=false:=by rw[I.ok.kind];rfl
 have hiσ:i<σ.length:=by rw[I.len];exact (gES.mp hi).1
 have cne:=I.cne;have tracked:∀ {a:Addr} {h':Heap},(∃ o,s.heap.get? a=some o/\H a=none)->Heap.SameBut a s.heap h'->HOk X.prog X.w H h':=λ{a h'} ha hs b ob e=>by
  obtain⟨_,_,hfree⟩:=ha;refine (I.hok b ob e).stay (λc w' hc q=>(hs.2 c ?_).trans q) (λ_ q=>q) λ_ _ q=>q;rintro rfl
  rcases hc with rfl | hc
  · rw[hfree] at e;cases e
  · rw[hfree] at hc;cases hc
 rcases hx with hk | hk
 · refine wpAny_storeName_local hk hn (λh' hn' hs=>?_) hcls;obtain⟨oL,_,_,hoL,_⟩:=id hn;refine h _ ⟨I.ok,I.os,I.bare,⟨λb o e n hb hx=>?_,λb o e n hb hx=>?_,I.base.free,λb o e hx=>?_,I.base.tups,I.base.frzs,I.base.tbls⟩,⟨_,hn',λj y v' e1 e2 e3=>?_⟩,λy c e=>?_,I.free,I.freeC,λp hp=>?_,tracked ⟨oL,hoL,I.free⟩ hs,by simpa using I.len⟩ ⟨_,hs,.inl U⟩
   · exact (hs.2 b (Nat.ne_of_lt (Nat.lt_of_lt_of_le (Heap.lt_size e) I.ok.above))).trans (I.base.keep b o e n hb hx)
   · obtain⟨sl,e1⟩:=I.base.slot b o e n hb hx;exact⟨sl,(hs.2 b (Nat.ne_of_lt (Nat.lt_of_lt_of_le (Heap.lt_size e) I.ok.above))).trans e1⟩
   · obtain⟨o',e1⟩:=I.base.there b o e hx;exact⟨o',(hs.2 b (Nat.ne_of_lt (Nat.lt_of_lt_of_le (Heap.lt_size e) I.ok.above))).trans e1⟩
   · by_cases hj:j=i
     · subst hj;rw[hi] at e1;cases e1;rw[List.getElem?_set_self hiσ] at e2;cases e2;exact⟨u,r,.inl ⟨hk,by simp⟩⟩
     · rw[List.getElem?_set_ne (Ne.symm hj)] at e2;obtain⟨u',r',q⟩:=hl j y v' e1 e2 e3;refine⟨u',r',?_⟩
       rcases q with ⟨k,e⟩ | ⟨k,c,e,z⟩
       · refine .inl ⟨k,?_⟩;have:y≠x:=λe=>hj (lw hN e1 (e▸hi));simp[this,e]
       · exact .inr ⟨k,c,e,z.sameBut hs (cne y c e)⟩
   · obtain⟨w',z⟩:=I.cell y c e;exact⟨w',z.sameBut hs (cne y c e)⟩
   · obtain⟨e,n,ne,nf,d⟩:=I.pin p hp;exact⟨(hs.2 p.1 ne).trans e,n,ne,nf,d⟩
 · have hfn:X.fn x=true:=by
    rcases hf with z | z
    · exact z
    · rw[z] at hk;cases hk
   obtain⟨c,hc⟩:=I.ok.has x (.inl hk);obtain⟨w',z⟩:=I.cell x c hc;refine wpAny_storeName_cell I.ok.kind hk hc z (λh' hc' hs=>?_);obtain⟨oc,hoc,hocd⟩:=id z;refine h {s with heap:=h'} ⟨I.ok,I.os,I.bare,⟨λb o e n hb hx=>?_,λb o e n hb hx=>?_,I.base.free,λb o e hx=>?_,I.base.tups,I.base.frzs,I.base.tbls⟩,⟨m,hn.sameBut hs (Ne.symm (cne x c hc)),λj y v' e1 e2 e3=>?_⟩,λy c' e=>?_,I.free,I.freeC,λp hp=>?_,tracked ⟨oc,hoc,I.freeC x c hc⟩ hs,by simpa using I.len⟩ ⟨c,hs,.inr hc⟩
   · exact (hs.2 b (Nat.ne_of_lt (Nat.lt_of_lt_of_le (Heap.lt_size e) (I.ok.cab x c hfn hc)))).trans (I.base.keep b o e n hb hx)
   · obtain⟨sl,e1⟩:=I.base.slot b o e n hb hx;exact⟨sl,(hs.2 b (Nat.ne_of_lt (Nat.lt_of_lt_of_le (Heap.lt_size e) (I.ok.cab x c hfn hc)))).trans e1⟩
   · obtain⟨o',e1⟩:=I.base.there b o e hx;exact⟨o',(hs.2 b (Nat.ne_of_lt (Nat.lt_of_lt_of_le (Heap.lt_size e) (I.ok.cab x c hfn hc)))).trans e1⟩
   · by_cases hj:j=i
     · subst hj;rw[hi] at e1;cases e1;rw[List.getElem?_set_self hiσ] at e2;cases e2;exact⟨u,r,.inr ⟨.inl hk,c,hc,hc'⟩⟩
     · rw[List.getElem?_set_ne (Ne.symm hj)] at e2;obtain⟨u',r',q⟩:=hl j y v' e1 e2 e3;refine⟨u',r',?_⟩
       rcases q with q | ⟨k,c',e,z'⟩
       · exact .inl q
       · refine .inr ⟨k,c',e,z'.sameBut hs ?_⟩;rintro rfl;exact hj (lw hN e1 (I.ok.inj _ _ _ e hc▸hi))
   · by_cases hcc:c'=c
     · subst hcc;exact⟨_,hc'⟩
     · obtain⟨w2,z2⟩:=I.cell y c' e;exact⟨w2,z2.sameBut hs hcc⟩
   · obtain⟨e,n,ne,nf,d⟩:=I.pin p hp;refine⟨(hs.2 p.1 ?_).trans e,n,ne,nf,d⟩;intro q;rw[q,hoc] at e;have q':oc=p.2:=Option.some.inj e;exact d w' (by rw[<- q'];exact hocd)
def iE {M:Model} {A:Around} {E:VSP} {i:Nat} {x:Str} {v:V} {u:Value} {Q:Unit->Shared->Prop} (I:Inv X pins σ H s) (hN:X.N.Nodup) (hi:X.N[i]?=some x) (hx:Loc X.env.scope x) (r:b7 v u)
 (h:∀ s',Inv X pins (σ.set i (some v)) H s'->Q () s') (hf:X.fn x=true\/X.env.scope.names.lookup x=some .local:=by first | exact .inl U | exact .inr U | assumption):wpAny M A (storeName X.env x u) Q E s :=
 jn I hN hi hx r (λs' I' _=>h s' I') hf
def Inv.call' {s':Shared} {ch:List Addr} (I:Inv X pins σ H s) (ho:s'.os=s.os) (u:Un (frs X.stack) ch H H' s.heap s'.heap) (hok:HOk X.prog X.w H' s'.heap) (hg:AllBare s'.gens)
 (hch:∀ b∈ch,(b∈X.ex\/X.s₀.heap.objs.size<=b)/\b≠X.env.locals/\(∀ x c,X.env.cells.lookup x=some c->c≠b)/\∀ p∈X.pn++pins,p.1≠b):Inv X pins σ H' s':=by
 obtain⟨h',g',d',t',o'⟩:=s';have e:o'=s.os:=ho;subst e;exact I.call (g':=g') (t':=t') (d':=d') u hok hg hch
end
abbrev XK:=Value->Option Addr->Hp->Prop
abbrev St:=List (Option V)
abbrev VK:=V->Hp->Prop
abbrev TE:=St->Hp->VK->Prop
abbrev TT:=St->Hp->(Bool->Hp->Prop)->Prop
abbrev TA:=St->Hp->(List V->Hp->Prop)->Prop
structure jf where
  nx:St->Hp->Prop
  rt:VK
  bk:St->Hp->Prop:=λ_ _=>False
  ct:St->Hp->Prop:=λ_ _=>False
abbrev TS:=jf->St->Hp->Prop
def EP (X:Cx) (pins:AOs) (σ:St) (Q:VK) (u:Value) (s':Shared):Prop:=∃ v H',Inv X pins σ H' s'/\b7 v u/\Q v H'
def TP (X:Cx) (pins:AOs) (σ:St) (Q:Bool->Hp->Prop) (b:Bool) (s':Shared):Prop:=∃ H',Inv X pins σ H' s'/\Q b H'
def AP (X:Cx) (pins:AOs) (σ:St) (Q:List V->Hp->Prop) (us:List Value) (s':Shared):Prop:=∃ vs H',Inv X pins σ H' s'/\aT vs us/\Q vs H'
def SP (X:Cx) (pins:AOs) (D:jf) (f:Flow) (s':Shared):Prop :=
  match f with
  | .next=>∃ σ' H',Inv X pins σ' H' s'/\D.nx σ' H'
  | .brk=>∃ σ' H',Inv X pins σ' H' s'/\D.bk σ' H'
  | .cont=>∃ σ' H',Inv X pins σ' H' s'/\D.ct σ' H'
  | .ret u=>∃ v σ' H',Inv X pins σ' H' s'/\b7 v u/\D.rt v H'
def PE (X:Cx) (e:Expr) (t:TE):Prop :=
  ∀ (pins:AOs) (s:Shared) (σ:St) (H:Hp) (Q:VK),Inv X pins σ H s->t σ H Q->wpAny (model X.prog X.w) X.A (eval e X.env) (EP X pins σ Q) X.xe s
def PT (X:Cx) (e:Expr) (t:TT):Prop :=
  ∀ (pins:AOs) (s:Shared) (σ:St) (H:Hp) (Q:Bool->Hp->Prop),Inv X pins σ H s->t σ H Q->wpAny (model X.prog X.w) X.A (isTrue e X.env (eval e X.env)) (TP X pins σ Q) X.xe s
def PW (X:Cx) (e:Expr) (t:TT):Prop :=
  ∀ (whole:Sem Value) (pins:AOs) (s:Shared) (σ:St) (H:Hp) (Q:Bool->Hp->Prop),Inv X pins σ H s->t σ H Q->wpAny (model X.prog X.w) X.A (isTrue e X.env whole) (TP X pins σ Q) X.xe s
def PW.pt {X:Cx} {e:Expr} {t:TT} (h:PW X e t):PT X e t:=h _
def PA (X:Cx) (es:List Expr) (t:TA):Prop :=
  ∀ (pos:Pos) (pins:AOs) (s:Shared) (σ:St) (H:Hp) (Q:List V->Hp->Prop),Inv X pins σ H s->t σ H Q->wpAny (model X.prog X.w) X.A (spliced (backTo pos (starEach es X.env))) (AP X pins σ Q) X.xe s
def PS (X:Cx) (st:Stmt) (t:TS):Prop :=
  ∀ (pins:AOs) (s:Shared) (σ:St) (H:Hp) (D:jf),Inv X pins σ H s->t D σ H->wpAny (model X.prog X.w) X.A (exec st X.env) (SP X pins D) X.xe s
def PSs (X:Cx) (st:List Stmt) (t:TS):Prop :=
  ∀ (pins:AOs) (s:Shared) (σ:St) (H:Hp) (D:jf),Inv X pins σ H s->t D σ H->wpAny (model X.prog X.w) X.A (execs st X.env) (SP X pins D) X.xe s
def thn {α:Type} {t:Sem α} {Q Q':α->Shared->Prop} {M:Model} {A:Around} {E:VSP} {s:Shared} (h:wpAny M A t Q E s) (hQ:∀ a s,Q a s->Q' a s):wpAny M A t Q' E s:=wpAny_mono h hQ λ_ _ x=>x
section
variable {X:Cx}
inductive BE (o:Option (Option V)) (H:Hp) (Q:VK):Prop
  | mk (v:V) (h:o=some (some v)) (q:Q v H):BE o H Q
inductive BlR (x:V) (H:Hp) (Q:Bool->Hp->Prop):Prop
  | mk (c:Bool) (h:x=.bl c) (q:Q c H):BlR x H Q
inductive zb (x:V) (H:Hp) (Q:Int->Hp->Prop):Prop
  | mk (i:Int) (h:x=.int i) (q:Q i H):zb x H Q
inductive wV (x y:V) (H:Hp) (C:Int->Int->Prop) (g:Int->Int->V) (Q:VK):Prop
  | mk (i j:Int) (h:x=.int i) (h':y=.int j) (c:C i j) (q:Q (g i j) H):wV x y H C g Q
inductive tm (x y:V) (H:Hp) (g:Int->Int->V) (Q:VK):Prop
  | mk (i j:Int) (h:x=.int i) (h':y=.int j) (q:Q (g i j) H):tm x y H g Q
def dr (i:Nat):TE:=λσ H Q=>BE σ[i]? H Q
def tC (v:V):TE:=λ_ H Q=>Q v H
def xH {i:Nat} {x:Str} {pos:Pos} (hN:X.N[i]?=some x) (hv:Vis X.env.scope x) (hd:(x==("__debug__":Str))=false:=by decide) (hcd:(x==("__classdict__":Str))=false:=by decide):PE X (.Name x pos) (dr i):=by
 intro pins s σ H Q I h;obtain⟨v,e,h⟩:=h;obtain⟨m,hn,hl⟩:=I.loc;obtain⟨u,r,l⟩:=hl i x v hN e hv;have fin:EP X pins σ Q u s:=⟨v,H,I,r,h⟩
 rcases l with ⟨hk,hm⟩ | ⟨hk,c,hc,hcell⟩
 · exact wpAny_Name (wpAny_loadName_local I.ok.kind hk hn hm fin) hd
 · rcases hk with hk | hk
   · exact wpAny_Name (wpAny_loadName_cell I.ok.kind hk hc hcell fin) hd
   · exact wpAny_Name (wpAny_loadName_free I.ok.kind hk hc hcell fin hcd) hd
def pF {i j pos}:PE X (.Constant (.int i) j pos) (tC (.int i)):=λ_ _ _ H _ I h=>wpAny_Constant_int ⟨.int i,H,I.tok _,⟨_,U⟩,h⟩
def ld {b j pos}:PE X (.Constant (.bool b) j pos) (tC (.bl b)):=λ_ _ _ H _ I h=>Constant_bool ⟨.bl b,H,I,U,h⟩
def bR {j pos}:PE X (.Constant .none j pos) (tC .non):=λ_ _ _ H _ I h=>Constant_none ⟨.non,H,I,U,h⟩
def pC {x j pos}:PE X (.Constant (.str x) j pos) (tC (.str x)):=λ_ _ _ H _ I h=>Calls.Constant_str ⟨.str x,H,I.tok _,⟨_,U⟩,h⟩
def Gl (X:Cx) (x:Str):Prop:=X.env.kindOf x=some .globalImplicit
def jU {E:VSP} {pins:AOs} {s:Shared} {σ:St} {H:Hp} {x:Str} {u:Value} {pos:Pos} {Q:VSP} (I:Inv X pins σ H s) (hg:Gl X x) (hm:X.mg x=some u) (h:Q u s)
 (hd:(x==("__debug__":Str))=false:=by decide):wpAny (model X.prog X.w) X.A (eval (.Name x pos) X.env) Q E s :=
 Calls.Name_function_global I.ok.kind hg (Calls.loadGlobal_global (by rw[I.ok.glob];exact I.mod.glob.keeps I.bk) hm h) hd
def dW {E:VSP} {pins:AOs} {s:Shared} {σ:St} {H:Hp} {x:Str} {u:Value} {pos:Pos} {Q:VSP} (I:Inv X pins σ H s) (hg:Gl X x) (hm:X.mg x=none) (hv:bootBuiltins x=some u) (h:Q u s)
 (hn:x≠"__name__":=by decide) (hd:(x==("__debug__":Str))=false:=by decide):wpAny (model X.prog X.w) X.A (eval (.Name x pos) X.env) Q E s:=by
 obtain⟨mb,h1,h2⟩:=I.mod.blt;exact Calls.Name_function_global I.ok.kind hg (Calls.loadGlobal_builtin (by rw[I.ok.glob];exact I.mod.glob.keeps I.bk) hm (by rw[I.ok.blt];exact h1.keeps I.bk) ((h2 x hn).trans hv) h) hd
def ee {x:Str} {v:V} {u:Value} {pos:Pos} (hg:Gl X x) (hm:X.mg x=some u) (r:b7 v u) (hd:(x==("__debug__":Str))=false:=by decide):PE X (.Name x pos) (tC v) :=
 λ_ _ _ H _ I h=>jU I hg hm ⟨v,H,I,r,h⟩ hd
def cu {x:Str} {v:V} {u:Value} {pos:Pos} (hg:Gl X x) (hm:X.mg x=none) (hv:bootBuiltins x=some u) (r:b7 v u) (hn:x≠"__name__":=by decide) (hd:(x==("__debug__":Str))=false:=by decide):PE X (.Name x pos) (tC v) :=
 λ_ _ _ H _ I h=>dW I hg hm hv ⟨v,H,I,r,h⟩ hn hd
variable {a b:Expr} {ta tb:TE} {pos:Pos}
def tB (t:TE):TT:=λσ H Q=>t σ H λx H1=>BlR x H1 Q
def bN {e:Expr} {t:TE} (h:PE X e t) (he:∀ whole,isTrue e X.env whole=(do let v <- whole;standAt e.pos;holding [v] (truthy v)):=by intro _;rfl):PT X e (tB t):=by
 intro pins s σ H Q I hw;refine isTrue_plain (thn (h pins s σ H _ I hw) λv s1 zy6=>?_) (he _);obtain⟨x,H1,I1,r1,q1⟩:=zy6;obtain⟨d,rfl,q⟩:=q1;cases r1;exact wpAny_truthy_bool ⟨H1,I1,q⟩
variable {tA tB':TT} {eR:List Expr}
def zN (t u:TT):TT:=λσ H Q=>t σ H λc H1=>if c=true then u σ H1 Q else Q false H1
def tOr (t u:TT):TT:=λσ H Q=>t σ H λc H1=>if c=true then Q true H1 else u σ H1 Q
def zH (t:TT):TT:=λσ H Q=>t σ H λc H1=>Q (!c) H1
def bW (ha:PT X a tA):PW X (.BoolOp .And [a] pos) tA:=by
 intro wh pins s σ H Q I h;refine isTrue_and (thn (ha pins s σ H Q I h) λc s1 e=>?_);cases c with
 | true=>exact isTrue_and_nil e
 | false=>exact e
def cP (ha:PT X a tA):PW X (.BoolOp .Or [a] pos) tA:=by
 intro wh pins s σ H Q I h;refine isTrue_or (thn (ha pins s σ H Q I h) λc s1 e=>?_);cases c with
 | false=>exact isTrue_or_nil e
 | true=>exact e
def cM (ha:PT X a tA) (hb:PW X (.BoolOp .And (b::eR) pos) tB'):PW X (.BoolOp .And (a::b::eR) pos) (zN tA tB'):=by
 intro wh pins s σ H Q I h;refine isTrue_and (thn (ha pins s σ H _ I h) λc s1 zy7=>?_);obtain⟨H1,I1,q1⟩:=zy7;cases c with
 | true=>exact hb wh pins s1 σ H1 Q I1 q1
 | false=>exact⟨H1,I1,q1⟩
def dk (ha:PT X a tA) (hb:PW X (.BoolOp .Or (b::eR) pos) tB'):PW X (.BoolOp .Or (a::b::eR) pos) (tOr tA tB'):=by
 intro wh pins s σ H Q I h;refine isTrue_or (thn (ha pins s σ H _ I h) λc s1 zy8=>?_);obtain⟨H1,I1,q1⟩:=zy8;cases c with
 | true=>exact⟨H1,I1,q1⟩
 | false=>exact hb wh pins s1 σ H1 Q I1 q1
def f8 (ha:PT X a tA):PT X (.UnaryOp .Not a pos) (zH tA):=by
 intro pins s σ H Q I h;exact isTrue_not (ha pins s σ H (λc H1=>Q (!c) H1) I h)
def vL (ta tb:TE):TE:=λσ H Q=>ta σ H λx H1=>∃ c,x=.bl c/\if c=true then tb σ H1 Q else Q (.bl false) H1
def Cb (ta tb:TE):TE:=λσ H Q=>ta σ H λx H1=>∃ c,x=.bl c/\if c=true then Q (.bl true) H1 else tb σ H1 Q
def zG (ta:TE):TE:=λσ H Q=>ta σ H λx H1=>∃ c,x=.bl c/\Q (.bl (!c)) H1
def xI {op} {t:TE} (h:PE X a t):PE X (.BoolOp op [a] pos) t:=λpins s σ H Q I hw=>BoolOp_one (h pins s σ H Q I hw)
def xK (ha:PE X a ta) (hb:PE X (.BoolOp .And (b::eR) pos) tb):PE X (.BoolOp .And (a::b::eR) pos) (vL ta tb):=by
 intro pins s σ H Q I h;refine BoolOp_and (thn (ha pins s σ H _ I h) λv s1 zy9=>?_);obtain⟨x,H1,I1,r1,q1⟩:=zy9;obtain⟨c,rfl,q1⟩:=q1;cases r1;refine wpAny_truthy_bool ?_;cases c with
 | true=>exact hb pins s1 σ H1 Q I1 q1
 | false=>exact⟨.bl false,H1,I1,U,q1⟩
def tIf (t:TT) (ta tb:TE):TE:=λσ H Q=>t σ H λc H1=>if c=true then ta σ H1 Q else tb σ H1 Q
def bJ {c:Expr} (hc:PT X c tA) (ha:PE X a ta) (hb:PE X b tb):PE X (.IfExp c a b pos) (tIf tA ta tb):=by
 intro pins s σ H Q I h;refine wpAny_IfExp (thn (hc pins s σ H _ I h) λd s1 zy12=>?_);obtain⟨H1,I1,q1⟩:=zy12;cases d with
 | true=>exact ha pins s1 σ H1 Q I1 q1
 | false=>exact hb pins s1 σ H1 Q I1 q1
end
def SqL (K:Fg) (H:Hp) (a:Addr) (xs:List V):Prop :=
  Rd H a (.lst xs) \/
    ∃ (o:Obj) (its:Array Value) (n:Nat),K.lookup a=some o/\o.cls=.type "list"/\o.dict=none/\o.data=.seq its n/\its.size<=sizeLine/\aT xs its.toList
def SqT (K:Fg) (H:Hp) (a:Addr) (xs:List V):Prop :=
  Rd H a (.tup xs) \/
    ∃ (o:Obj) (its:Array Value) (n:Nat),K.lookup a=some o/\o.cls=.type "tuple"/\o.data=.seq its n/\its.size<=sizeLine/\aT xs its.toList
def Dd:Value->Option V
  | .none=>some .non
  | .bool b=>some (.bl b)
  | .int i _=>some (.int i)
  | .str x _=>some (.str x)
  | .bytes b _=>some (.byt b)
  | .float b _=>some (.flt b)
  | .ref a=>some (.ref a)
  | .type n=>some (.ty n)
  | _=>none
def b7.abs {x:V} {u:Value} (r:b7 x u):Dd u=some x:=by
 cases x with
 | non=>cases r;rfl
 | bl _=>cases r;rfl
 | int _=>obtain⟨t,rfl⟩:=r;rfl
 | str _=>obtain⟨t,rfl⟩:=r;rfl
 | byt _=>obtain⟨t,rfl⟩:=r;rfl
 | flt _=>obtain⟨t,rfl⟩:=r;rfl
 | _=>cases r;rfl
def b7.inj {x y:V} {u:Value} (r:b7 x u) (q:b7 y u):x=y:=Option.some.inj (r.abs.symm.trans q.abs)
def aT.inj:∀ {xs ys:List V} {us:List Value},aT xs us->aT ys us->xs=ys:=by
 intro xs ys us h
 induction h generalizing ys with
 | nil=>intro h';cases h';rfl
 | cons r t ih=>intro h';cases h' with | cons r' t'=>rw[r.inj r',ih t']
section
variable {X:Cx} {pins:AOs} {σ:St} {H:Hp} {s:Shared} {a:Addr} {xs ys:List V}
def SqL.of {K:Fg} (h:H a=some (.lst xs)):SqL K H a xs:=.inl (.inl h)
def SqT.of {K:Fg} (h:H a=some (.tup xs)):SqT K H a xs:=.inl (.inl h)
def Inv.list (I:Inv X pins σ H s) (h:SqL X.K H a xs):∃ its:List Value,aT xs its/\PlainL s.heap a its.toArray/\xs.length<=sizeLine:=by
 rcases h with h | ⟨o,its,n,hk,hc,hd,hs,hz,r⟩
 · obtain⟨z,its,n,r,e⟩:=h.ok I.hok;exact⟨its,r,⟨_,n,e,U,U,U⟩,z⟩
 · refine⟨its.toList,r,⟨o,n,I.kIn a o hk,hc,hd,by simpa using hs⟩,?_⟩;have e:=r.length;simp only[Array.length_toList] at e;lia
def Inv.tuple (I:Inv X pins σ H s) (h:SqT X.K H a xs):∃ its:List Value,aT xs its/\IsTup s.heap a its.toArray/\xs.length<=sizeLine:=by
 rcases h with h | ⟨o,its,n,hk,hc,hs,hz,r⟩
 · obtain⟨z,its,r,p⟩:=h.ok I.hok;exact⟨its,r,p,z⟩
 · refine⟨its.toList,r,⟨o,I.kIn a o hk,hc,n,by simpa using hs⟩,?_⟩;have e:=r.length;simp only[Array.length_toList] at e;lia
def Inv.list_inj (I:Inv X pins σ H s) (h:SqL X.K H a xs) (h':SqL X.K H a ys):xs=ys:=by
 obtain⟨its,r,⟨o,n,e,_,_,d⟩,_⟩:=I.list h;obtain⟨its',r',⟨o',n',e',_,_,d'⟩,_⟩:=I.list h';rw[e] at e';cases e';rw[d] at d'
 injection d' with d1 _
 have:its=its':=by simpa using congrArg Array.toList d1
 subst this;exact r.inj r'
def Inv.tuple_inj (I:Inv X pins σ H s) (h:SqT X.K H a xs) (h':SqT X.K H a ys):xs=ys:=by
 obtain⟨its,r,⟨o,e,_,n,d⟩,_⟩:=I.tuple h;obtain⟨its',r',⟨o',e',_,n',d'⟩,_⟩:=I.tuple h';rw[e] at e';cases e';rw[d] at d'
 injection d' with d1 _
 have:its=its':=by simpa using congrArg Array.toList d1
 subst this;exact r.inj r'
end
abbrev Cx.wish (X:Cx) (E:VSP):Cx:={X with xe:=E}
abbrev Cx.nox (X:Cx):Cx:=X.wish λ_ _=>False
def Cx.Ok.wish {X:Cx} (ok:X.Ok) (E:VSP):(X.wish E).Ok :=
 ⟨ok.mod,ok.kind,ok.glob,ok.blt,ok.above,ok.inj,ok.has,ok.cab,ok.hd,ok.frames,ok.stk,ok.exf,ok.bs,ok.bsz,ok.noex,ok.exfs,ok.funs,ok.frf⟩
def Cx.Ok.unwish {X:Cx} {E:VSP} (ok:(X.wish E).Ok):X.Ok :=
 ⟨ok.mod,ok.kind,ok.glob,ok.blt,ok.above,ok.inj,ok.has,ok.cab,ok.hd,ok.frames,ok.stk,ok.exf,ok.bs,ok.bsz,ok.noex,ok.exfs,ok.funs,ok.frf⟩
section
variable {X:Cx} {pins:AOs} {σ:St} {H:Hp} {s:Shared} {E:VSP}
def Inv.wish (I:Inv X pins σ H s) (E:VSP):Inv (X.wish E) pins σ H s:=⟨I.ok.wish E,I.os,I.bare,I.base,I.loc,I.cell,I.free,I.freeC,I.pin,I.hok,I.len⟩
def Inv.unwish (I:Inv (X.wish E) pins σ H s):Inv X pins σ H s:=⟨I.ok.unwish,I.os,I.bare,I.base,I.loc,I.cell,I.free,I.freeC,I.pin,I.hok,I.len⟩
def SP.unwish {D:jf} {f:Flow} {s':Shared} (h:SP (X.wish E) pins D f s'):SP X pins D f s':=by
 cases f with
 | next=>obtain⟨σ',H',I,q⟩:=h;exact⟨σ',H',I.unwish,q⟩
 | brk=>obtain⟨σ',H',I,q⟩:=h;exact⟨σ',H',I.unwish,q⟩
 | cont=>obtain⟨σ',H',I,q⟩:=h;exact⟨σ',H',I.unwish,q⟩
 | ret u=>obtain⟨v,σ',H',I,r,q⟩:=h;exact⟨v,σ',H',I.unwish,r,q⟩
def PSs.nox {st:List Stmt} {t:TS} (h:PSs X.nox st t):PSs X st t:=λpins s σ H D I hw =>
 wpAny_mono (h pins s σ H D (I.wish _) hw) (λ_ _ q=>q.unwish) λ_ _ z=>False.elim z
end
section
variable {X:Cx} {st:Stmt} {eR:List Stmt} {t u:TS} {e:Expr} {te:TE} {pos:Pos}
def vH:TS:=λD σ H=>D.nx σ H
def xm (t u:TS):TS:=λD σ H=>t {D with nx:=u D} σ H
def aq:PSs X [] vH:=λ_ _ σ H _ I h=>wpAny_execs_nil ⟨σ,H,I,h⟩
def pD (h1:PS X st t) (h2:PSs X eR u):PSs X (st::eR) (xm t u):=by
 intro pins s σ H D I h;refine wpAny_execs_cons (thn (h1 pins s σ H {D with nx:=u D} I h) λf s1 q=>?_);cases f with
 | next =>
  obtain⟨σ',H',I',q⟩:=q;exact h2 pins s1 σ' H' D I' q
 | _=>exact q
def pG (h1:PS X st t):PSs X [st] t:=by
 intro pins s σ H D I h;refine wpAny_execs_cons (thn (h1 pins s σ H D I h) λf s1 q=>?_);cases f with
 | next=>exact wpAny_execs_nil q
 | _=>exact q
def Inv.quiet {pins:AOs} {σ:St} {H:Hp} {s:Shared} (I:Inv X pins σ H s):interactive X.env=false:=by simp[interactive,I.ok.kind]
def vJ (te:TE):TS:=λD σ H=>te σ H λ_ H1=>D.nx σ H1
def aH (he:PE X e te) (hs:swapsWith e none pos.line X.env=pure false:=by rfl):PS X (.Expr e pos) (vJ te):=by
 intro pins s σ H D I h;refine wpAny_Expr_any (thn (he pins s σ H _ I h) λv s1 zy13=>?_) I.quiet hs;obtain⟨x,H1,I1,r1,q1⟩:=zy13;exact⟨σ,H1,I1,q1⟩
def zF (te:TE):TS:=λD σ H=>te σ H D.rt
def ak (he:PE X e te):PS X (.Return (some e) pos) (zF te):=by
 intro pins s σ H D I h;refine wpAny_Return_some (thn (he pins s σ H _ I h) λv s1 zy14=>?_);obtain⟨x,H1,I1,r1,q1⟩:=zy14;exact⟨x,σ,H1,I1,r1,q1⟩
def zJ (c:TT) (t u:TS):TS:=λD σ H=>c σ H λb H1=>if b=true then t D σ H1 else u D σ H1
def az {c:Expr} {a b:List Stmt} {tc:TT} (hc:PT X c tc) (ha:PSs X a t) (hb:PSs X b u):PS X (.If c a b pos) (zJ tc t u):=by
 intro pins s σ H D I h;refine wpAny_If (thn (hc pins s σ H _ I h) λd s1 zy15=>?_);obtain⟨H1,I1,q1⟩:=zy15;cases d with
 | true=>exact ha pins s1 σ H1 D I1 q1
 | false=>exact hb pins s1 σ H1 D I1 q1
def qw:TS:=λ_ _ _=>False
def qY:PS X st qw:=λ_ _ _ _ _ _ h=>h.elim
def p4 {sts:List Stmt}:PSs X sts qw:=λ_ _ _ _ _ _ h=>h.elim
end
abbrev TG:=V->St->Hp->(St->Hp->Prop)->Prop
abbrev TGs:=List V->St->Hp->(St->Hp->Prop)->Prop
def PG (X:Cx) (target:Expr) (t:TG):Prop :=
  ∀ (pins:AOs) (s:Shared) (σ:St) (H:Hp) (v:V) (u:Value) (Q:St->Hp->Prop),Inv X pins σ H s->b7 v u->t v σ H Q ->
    wpAny (model X.prog X.w) X.A (assign target X.env u) (λ_ s'=>∃ σ' H',Inv X pins σ' H' s'/\Q σ' H') X.xe s
def PGs (X:Cx) (ts:List Expr) (t:TGs):Prop :=
  ∀ (pins:AOs) (s:Shared) (σ:St) (H:Hp) (vs:List V) (us:List Value) (Q:St->Hp->Prop),Inv X pins σ H s->aT vs us->t vs σ H Q ->
    wpAny (model X.prog X.w) X.A (assignInOrder ((assignEach ts X.env).map (·.2)) us) (λ_ s'=>∃ σ' H',Inv X pins σ' H' s'/\Q σ' H') X.xe s
abbrev yY:=V->V->V->Hp->(Hp->Prop)->Prop
def BI (X:Cx) (t:yY):Prop :=
  ∀ (pins:AOs) (s:Shared) (σ:St) (H:Hp) (o i v:V) (ov iv u:Value) (Q:Hp->Prop),Inv X pins σ H s->b7 o ov->b7 i iv->b7 v u->t o i v H Q ->
    wpAny (model X.prog X.w) X.A (setItem ov iv u) (λ_ s'=>∃ H',Inv X pins σ H' s'/\Q H') X.xe s
abbrev TIp:=V->V->Hp->VK->Prop
def PIp (X:Cx) (op:Operator) (t:TIp):Prop :=
  ∀ (pins:AOs) (s:Shared) (σ:St) (H:Hp) (x y:V) (v u:Value) (Q:VK),Inv X pins σ H s->b7 x v->b7 y u->t x y H Q ->
    wpAny (model X.prog X.w) X.A (inplaceOp op v u) (EP X pins σ Q) X.xe s
section
variable {X:Cx} {pos:Pos}
def lG (i:Nat):TG:=λv σ H Q=>Q (σ.set i (some v)) H
def aC {i:Nat} {x:Str} (hN:X.N.Nodup) (hi:X.N[i]?=some x) (hx:Loc X.env.scope x) (hf:X.fn x=true\/X.env.scope.names.lookup x=some .local:=by first | exact .inl U | exact .inr U | assumption):PG X (.Name x pos) (lG i):=by
 intro pins s σ H v u Q I r h;exact wpAny_assign_Name (iE I hN hi hx r (λs' I'=>⟨_,H,I',h⟩) hf)
def D1:TGs:=λvs σ H Q=>vs=[]/\Q σ H
inductive tq (t:TG) (u:TGs) (vs:List V) (σ:St) (H:Hp) (Q:St->Hp->Prop):Prop
  | mk (v:V) (r:List V) (h:vs=v::r) (q:t v σ H λσ' H'=>u r σ' H' Q):tq t u vs σ H Q
def Bx (t:TG) (u:TGs):TGs:=λvs σ H Q=>tq t u vs σ H Q
def d9:PGs X [] D1:=by
 intro pins s σ H vs us Q I r h;obtain⟨e,h⟩:=h;subst e;cases r;exact assignInOrder_nil ⟨σ,H,I,h⟩
def aU {e:Expr} {es:List Expr} {t:TG} {u:TGs} (h1:PG X e t) (h2:PGs X es u)
 (hs:(assignEach (e::es) X.env).map (·.2)=assign e X.env::(assignEach es X.env).map (·.2):=by rfl):PGs X (e::es) (Bx t u):=by
 intro pins s σ H vs us Q I r h;obtain⟨v,vr,e1,h⟩:=h;subst e1;cases r with
 | cons r rr =>
  rw[hs];refine assignInOrder_cons (thn (h1 pins s σ H _ _ _ I r h) λ_ s1 zy16=>?_);obtain⟨σ1,H1,I1,q1⟩:=zy16;exact h2 pins s1 σ1 H1 _ _ Q I1 rr q1
inductive wW (K:Fg) (n:Nat) (t:TGs) (v:V) (σ:St) (H:Hp) (Q:St->Hp->Prop):Prop
  | mk (a:Addr) (xs:List V) (h:v=.ref a) (s:SqT K H a xs) (l:xs.length=n) (q:t xs σ H Q):wW K n t v σ H Q
def CZ (K:Fg) (n:Nat) (t:TGs):TG:=λv σ H Q=>wW K n t v σ H Q
def dQ {es:List Expr} {k:Nat} {t:TGs} {n:Nat} (hc:X.calm=true) (h:PGs X es t)
 (hn:(assignEach es X.env).length=n:=by rfl) (hst:(assignEach es X.env).findIdx? (·.1)=none:=by rfl):PG X (.Tuple es k pos) (CZ X.K n t):=by
 intro pins s σ H v u Q I r hw;obtain⟨a,xs,e1,hq,hl,hw⟩:=hw;subst e1;cases r;obtain⟨its,rv,ht,hz⟩:=I.tuple hq;refine assign_Tuple_tuple (I.ok.hd hc) ht (by simp[hn,<- hl,rv.length]) hst λh' hx=>?_;have I1:Inv X pins σ H {s with heap:=h'}:=I.kept (t':=s.toks) λb o e=>hx b o (Nat.ne_of_lt (Heap.lt_size e)) e;exact h pins _ σ H xs _ Q I1 (by simpa using rv) hw
def D0 (to ti:TE) (t:yY):TG:=λv σ H Q=>to σ H λo H1=>ti σ H1 λi H2=>t o i v H2 λH3=>Q σ H3
def mD {o i:Expr} {to ti:TE} {t:yY} (ho:PE X o to) (hi:PE X i ti) (hs:BI X t)
 (ha:∀ v,assign (.Subscript o i pos) X.env v=(do
   let ov <- holding [v] (eval o X.env)
   let iv <- holding [v,ov] (eval i X.env)
   standAt pos
   holding [v,ov,iv] (setItem ov iv v)
   release [v,ov,iv] []):=by intro _;rfl):PG X (.Subscript o i pos) (D0 to ti t):=by
 intro pins s σ H v u Q I r h;rw[ha];refine wB (wpAny_holding (thn (ho pins s σ H _ I h) λov s1 zy17=>?_));obtain⟨x,H1,I1,r1,q1⟩:=zy17;refine wB (wpAny_holding (thn (hi pins s1 σ H1 _ I1 q1) λiv s2 zy18=>?_));obtain⟨y,H2,I2,r2,q2⟩:=zy18;refine wB (wpAny_standAt (wB (wpAny_holding (thn (hs pins s2 σ H2 x y v ov iv u _ I2 r1 r2 r q2) λ_ s3 zy19=>?_))));obtain⟨H3,I3,q3⟩:=zy19;exact wpAny_release ⟨σ,H3,I3,q3⟩
def qy (te:TE) (g:TG):TS:=λD σ H=>te σ H λx H1=>g x σ H1 D.nx
def f9 {tg e:Expr} {te:TE} {g:TG} (he:PE X e te) (hg:PG X tg g) (hs:swapsWithSole [tg] e pos.line X.env=pure false:=by rfl) (hw:swappedStores [tg] e X.env=pure none:=by rfl)
 (h1:(assignEach [tg] X.env).map (·.2)=[assign tg X.env]:=by rfl):PS X (.Assign [tg] e pos) (qy te g):=by
 intro pins s σ H D I h;refine wpAny_Assign_stores (thn (he pins s σ H _ I h) λv s1 zy20=>?_) hs hw;obtain⟨x,H1,I1,r1,q1⟩:=zy20;rw[h1];exact thn (hg pins s1 σ H1 x v _ I1 r1 q1) λ_ s2 q=>q
def pL {i:Nat} {x:Str} {e:Expr} {te:TE} {pos':Pos} (hN:X.N.Nodup) (hi:X.N[i]?=some x) (hx:Loc X.env.scope x) (he:PE X e te) (hs:swapsWith e (some (.Name x pos')) pos.line X.env=pure false:=by rfl) (hf:X.fn x=true\/X.env.scope.names.lookup x=some .local:=by first | exact .inl U | exact .inr U | assumption) :
 PS X (.Assign [.Name x pos'] e pos) (qy te (lG i)):=by
 intro pins s σ H D I h;refine wpAny_Assign_Name (thn (he pins s σ H _ I h) λv s1 zy21=>?_) hs;obtain⟨y,H1,I1,r1,q1⟩:=zy21;exact iE I1 hN hi hx r1 (λs2 I2=>⟨_,H1,I2,q1⟩) hf
def Ce (i:Nat) (te:TE) (ti:TIp):TS:=λD σ H=>∃ x,σ[i]?=some (some x)/\te σ H λy H1=>ti x y H1 λz H2=>D.nx (σ.set i (some z)) H2
def re {i:Nat} {x:Str} {e:Expr} {te:TE} {op:Operator} {ti:TIp} {pos':Pos} (hN:X.N.Nodup) (hi:X.N[i]?=some x) (hx:Loc X.env.scope x) (he:PE X e te) (ho:PIp X op ti) (hf:X.fn x=true\/X.env.scope.names.lookup x=some .local:=by first | exact .inl U | exact .inr U | assumption) :
 PS X (.AugAssign (.Name x pos') op e pos) (Ce i te ti):=by
 intro pins s σ H D I h;obtain⟨v,e1,h⟩:=h;obtain⟨m,hn,hl⟩:=I.loc;have vis:Vis X.env.scope x:=by rcases hx with k | k;exact .inl k;exact .inr (.inl k)
 obtain⟨u,r,l⟩:=hl i x v hi e1 vis;refine wpAny_AugAssign_Name ?_;have go:wpAny (model X.prog X.w) X.A (eval e X.env) (λw s₂=>wpAny (model X.prog X.w) X.A (inplaceOp op u w) (λr s₃=>wpAny (model X.prog X.w) X.A (storeName X.env x r) (λ_=>SP X pins D .next) X.xe s₃) X.xe s₂) X.xe s:=by
  refine thn (he pins s σ H _ I h) λw s1 zy23=>?_;obtain⟨y,H1,I1,r1,q1⟩:=zy23;refine thn (ho pins s1 σ H1 v y u w _ I1 r r1 q1) λz s2 zy24=>?_;obtain⟨zv,H2,I2,r2,q2⟩:=zy24;exact iE I2 hN hi hx r2 (λs3 I3=>⟨_,H2,I3,q2⟩) hf
 rcases l with ⟨hk,hm⟩ | ⟨hk,c,hc,hcell⟩
 · exact wpAny_loadName_local I.ok.kind hk hn hm go
 · rcases hk with hk | hk
   · exact wpAny_loadName_cell I.ok.kind hk hc hcell go
   · rcases hx with k | k
     · have:X.env.scope.names.lookup x=some .free:=hk;rw[k] at this;cases this
     · have:X.env.scope.names.lookup x=some .free:=hk;rw[k] at this;cases this
end
section
variable {X:Cx} {pos:Pos}
def xk (c:TT) (tb:TS):TS:=λD σ H=>∃ W:Nat->St->Hp->Prop,(∃ m,W m σ H)/\∀ m σ H,W m σ H ->
  c σ H λb H1=>if b=true then ∃ N:St->Hp->Prop,(∀ σ' H',N σ' H'->∃ m',m'<m/\W m' σ' H')/\tb {D with nx:=N,ct:=N,bk:=D.nx} σ H1 else D.nx σ H1
def iL {c:Expr} {body:List Stmt} {tc:TT} {tb:TS} (hp:PassesOwn (model X.prog X.w) X.A X.env X.xe) (hc:PT X c tc) (hb:PSs X body tb):PS X (.While c body [] pos) (xk tc tb):=by
 intro pins s σ H D I h;obtain⟨W,⟨m0,w0⟩,turn⟩:=h;refine wpAny_While (codeAny_whileLoop (λn s'=>∃ σ' H',Inv X pins σ' H' s'/\W n σ' H') ?_ m0 ⟨σ,H,I,w0⟩);rintro n s1 ⟨σ1,H1,I1,w1⟩;refine wpAny_passesOwn hp (thn (hc pins s1 σ1 H1 _ I1 (turn n σ1 H1 w1)) λb s2 zy31=>?_);obtain⟨H2,I2,q2⟩:=zy31;cases b with
 | true =>
  obtain⟨N,hN,q2⟩:=q2;rw[if_pos U];refine wpAny_passesOwn hp (thn (hb pins s2 σ1 H2 _ I2 q2) λf s3 q3=>?_);cases f with
  | next =>
   obtain⟨σ3,H3,I3,n3⟩:=q3;obtain⟨m',hm,w3⟩:=hN σ3 H3 n3;exact⟨m',hm,σ3,H3,I3,w3⟩
  | cont =>
   obtain⟨σ3,H3,I3,n3⟩:=q3;obtain⟨m',hm,w3⟩:=hN σ3 H3 n3;exact⟨m',hm,σ3,H3,I3,w3⟩
  | _=>exact q3
 | false =>
  rw[if_neg Bool.false_ne_true];exact wpAny_execs_nil ⟨σ1,H2,I2,q2⟩
end
structure It where
  go:Nat->Hp->Prop
  yld:Nat->Hp->V->Hp->Prop
  stop:Nat->Hp->Prop
def jb (X:Cx) (pins:AOs) (H:Hp) (b:Addr):Prop :=
  H b=none/\b≠X.env.locals/\b∉X.fs/\(b∈X.ex\/X.s₀.heap.objs.size<=b)/\(∀ x c,X.env.cells.lookup x=some c->c≠b)/\∀ p∈X.pn++pins,p.1≠b
def Inv.fpOk {X:Cx} {pins:AOs} {σ:St} {H H':Hp} {s:Shared} {b:Addr} (I:Inv X pins σ H s) (hb:s.heap.objs.size<=b) (hn:H' b=none):jb X pins H' b:=by
 refine⟨hn,Nat.ne_of_gt (Nat.lt_of_lt_of_le I.lt hb),I.nofs hb,.inr (Nat.le_trans I.sz hb),λx c e z=>?_,λp hp z=>?_⟩
 · obtain⟨v,q⟩:=I.cell x c e;exact absurd (Nat.lt_of_lt_of_le q.lt (by rw[z];exact hb)) (Nat.lt_irrefl _)
 · exact absurd (Nat.lt_of_lt_of_le (Heap.lt_size (I.pin p hp).1) (by rw[z];exact hb)) (Nat.lt_irrefl _)
structure qh (P:Program) (w:World) (K:Fg) (tg:Expr) (J:It) (fp:List Addr) (it:Addr) (tn:Nat->Heap->Prop):Prop where
  mem:it∈fp
  obj:∀ i h,tn i h->∀ b∈fp,∃ o,h.get? b=some o/\∀ v,o.data≠.cell v
  keep:∀ i h h',tn i h->(∀ b∈fp,∀ o,h.get? b=some o->h'.get? b=some o)->tn i h'
  item:∀ (X:Cx),X.prog=P->X.w=w->X.K=K->X.calm=true->∀ (i:Nat) (pins:AOs) (s:Shared) (σ:St) (H:Hp) (E:VSP),Inv X pins σ H s->(∀ b∈fp,jb X pins H b)->tn i s.heap->J.go i H ->
    wpAny (model P w) X.A (pyNext (.ref it)) (λr s1=>∃ u,r=some u /\
      wpAny (model P w) X.A (letOwnedTupleGo tg (.ref it) u) (λ_ s2=>∃ x H',Inv X pins σ H' s2/\b7 x u/\J.yld i H x H'/\tn (i+1) s2.heap/\∀ b∈fp,H' b=none) E s1) E s
  done:∀ (X:Cx),X.prog=P->X.w=w->X.K=K->X.calm=true->∀ (i:Nat) (pins:AOs) (s:Shared) (σ:St) (H:Hp) (E:VSP),Inv X pins σ H s->(∀ b∈fp,jb X pins H b)->tn i s.heap->J.stop i H ->
    wpAny (model P w) X.A (pyNext (.ref it)) (λr s1=>r=none/\Inv X pins σ H s1) E s
  self:∀ (A:Around) (i:Nat) (s:Shared) (Q:VSP) (E:VSP),tn i s.heap->Q (.ref it) s->wpAny (model P w) A (pyIter (.ref it)) Q E s
abbrev TI:=St->Hp->(It->Hp->Prop)->Prop
def PIE (X:Cx) (pins:AOs) (σ:St) (tg:Expr) (R:It->Hp->Prop) (itv:Value) (s2:Shared):Prop :=
  ∃ (it:Addr) (fp:List Addr) (tn:Nat->Heap->Prop) (J:It) (H':Hp),itv=.ref it/\Inv X pins σ H' s2/\qh X.prog X.w X.K tg J fp it tn/\tn 0 s2.heap/\(∀ b∈fp,jb X pins H' b)/\R J H'
def PI (X:Cx) (tg iter:Expr) (wi:TI):Prop :=
  ∀ (pins:AOs) (s:Shared) (σ:St) (H:Hp) (R:It->Hp->Prop),Inv X pins σ H s->wi σ H R ->
    wpAny (model X.prog X.w) X.A (eval iter X.env) (λv s1=>wpAny (model X.prog X.w) X.A (pyIter v) (PIE X pins σ tg R) X.xe s1) X.xe s
def sf {M:Model} {A:Around} {E:VSP} {s:Shared} {tg:Expr} {it:Addr} {u:Value} {o:Obj} {n:String} {vs:Array Value} {Q:Unit->Shared->Prop} (ho:s.heap.get? it=some o) (hc:o.cls=.type n) (hd:o.data=.fields vs)
 (hn:["enumerate","zip","dict_itemiterator","dict_reverseitemiterator","odict_iterator","itertools.zip_longest","itertools.pairwise"].contains n=false) (hQ:Q () s):wpAny M A (letOwnedTupleGo tg (.ref it) u) Q E s:=by
 unfold letOwnedTupleGo;cases tg <;> first
  | exact wP hQ
  | (cases u <;> first
      | exact wP hQ
      | (refine wB (wpAny_load ho ?_)
         rw[hc,hd];show wpAny M A (if (["enumerate","zip","dict_itemiterator","dict_reverseitemiterator","odict_iterator","itertools.zip_longest","itertools.pairwise"].contains n&&vs[0]?==some (rawInt _))=true then _ else _) Q E s;rw[if_neg (by intro h;rw[hn,Bool.false_and] at h;cases h)];exact wP hQ))
def Itl (K:Fg) (a:Addr):It :=
  ⟨λi H=>∃ xs x,SqL K H a xs/\xs[i]?=some x,λi H x H'=>H'=H/\∀ xs,SqL K H a xs->xs[i]?=some x,λi H=>∃ xs,SqL K H a xs/\xs.length<=i⟩
def Itt (K:Fg) (a:Addr):It :=
  ⟨λi H=>∃ xs x,SqT K H a xs/\xs[i]?=some x,λi H x H'=>H'=H/\∀ xs,SqT K H a xs->xs[i]?=some x,λi H=>∃ xs,SqT K H a xs/\xs.length<=i⟩
def Itr (lo:Int) (n:Nat):It:=⟨λi _=>i<n,λi H x H'=>H'=H/\x=.int (lo+i),λi _=>n<=i⟩
def oT {P:Program} {w:World} {K:Fg} {tg:Expr} (a it:Addr):qh P w K tg (Itl K a) [it] it (λi h=>h.IsListIter it a i) where
 mem:=by simp
 obj:=λi h st b hb=>by
  have e:b=it:=by simpa using hb
  subst e;obtain⟨o,e,c,d⟩:=st;exact⟨o,e,λv z=>by rw[d] at z;cases z⟩
 keep:=λi h h' st k=>st.at λo e=>k it (by simp) o e
 item:=by
  intro X hP hw hK hc i pins s σ H E I hf st hg;subst hP hw hK;obtain⟨xs,x,hq,hx⟩:=hg;obtain⟨its,rv,p,hz⟩:=I.list hq;obtain⟨u,hu,ru⟩:=rv.get hx;obtain⟨f0,f1,f2,f3,f4,f5⟩:=hf it (by simp);refine wpAny_pyNext_list_item st p.isList (x:=u) (by simpa using hu) λh' st' sb=>?_;have I1:Inv X pins σ H {s with heap:=h'}:=I.turned (t':=s.toks) (λb o hb e=>(sb.2 b hb).trans e) f0 f1 f3 f4 f5;obtain⟨o,e,c,d⟩:=id st';exact⟨u,U,sf (s:={s with heap:=h'}) e c d ∅ ⟨x,H,I1,ru,⟨U,λys hy=>by rw[I.list_inj hy hq];exact hx⟩,st',λb hb=>(hf b hb).1⟩⟩
 done:=by
  intro X hP hw hK hc i pins s σ H E I hf st hg;subst hP hw hK;obtain⟨xs,hq,hx⟩:=hg;obtain⟨its,rv,p,hz⟩:=I.list hq;obtain⟨f0,f1,f2,f3,f4,f5⟩:=hf it (by simp);have hl:=rv.length;exact wpAny_pyNext_list_end (I.ok.hd hc) st p.isList (by simp;lia) λh' eb=>⟨U,I.turned (t':=s.toks) (λb o hb e=>eb b o hb e) f0 f1 f3 f4 f5⟩
 self:=λ_ _ _ _ _ st h=>wpAny_pyIter_listiter st h
def mm {P:Program} {w:World} {K:Fg} {tg:Expr} (a it:Addr):qh P w K tg (Itt K a) [it] it (λi h=>h.IsTupleIter it a i) where
 mem:=by simp
 obj:=λi h st b hb=>by
  have e:b=it:=by simpa using hb
  subst e;obtain⟨o,e,c,d⟩:=st;exact⟨o,e,λv z=>by rw[d] at z;cases z⟩
 keep:=λi h h' st k=>st.at λo e=>k it (by simp) o e
 item:=by
  intro X hP hw hK hc i pins s σ H E I hf st hg;subst hP hw hK;obtain⟨xs,x,hq,hx⟩:=hg;obtain⟨its,rv,p,hz⟩:=I.tuple hq;obtain⟨u,hu,ru⟩:=rv.get hx;obtain⟨f0,f1,f2,f3,f4,f5⟩:=hf it (by simp);refine wpAny_pyNext_tuple_item st (show s.heap.IsTuple a its.toArray from p) (x:=u) (by simpa using hu) λh' st' sb=>?_;have I1:Inv X pins σ H {s with heap:=h'}:=I.turned (t':=s.toks) (λb o hb e=>(sb.2 b hb).trans e) f0 f1 f3 f4 f5;obtain⟨o,e,c,d⟩:=id st';exact⟨u,U,sf (s:={s with heap:=h'}) e c d ∅ ⟨x,H,I1,ru,⟨U,λys hy=>by rw[I.tuple_inj hy hq];exact hx⟩,st',λb hb=>(hf b hb).1⟩⟩
 done:=by
  intro X hP hw hK hc i pins s σ H E I hf st hg;subst hP hw hK;obtain⟨xs,hq,hx⟩:=hg;obtain⟨its,rv,p,hz⟩:=I.tuple hq;obtain⟨f0,f1,f2,f3,f4,f5⟩:=hf it (by simp);have hl:=rv.length;exact wpAny_pyNext_tuple_end (I.ok.hd hc) st (show s.heap.IsTuple a its.toArray from p) (by simp;lia) λh' eb=>⟨U,I.turned (t':=s.toks) (λb o hb e=>eb b o hb e) f0 f1 f3 f4 f5⟩
 self:=λ_ _ _ _ _ st h=>wpAny_pyIter_tupleiter st h
def mn {P:Program} {w:World} {K:Fg} {tg:Expr} (it:Addr) (lo:Int) (n:Nat):qh P w K tg (Itr lo n) [it] it (λi h=>IsRangeIter h it (lo+(i:Nat)*1) ((n:Int)-(i:Nat)) 1) where
 mem:=by simp
 obj:=λi h st b hb=>by
  have e:b=it:=by simpa using hb
  subst e;exact⟨_,st,λv z=>by
    have z':Data.fields _=Data.cell v:=z;cases z'⟩
 keep:=λi h h' st k=>k it (by simp) _ st
 item:=by
  intro X hP hw hK hc i pins s σ H E I hf st hg;subst hP hw hK;obtain⟨f0,f1,f2,f3,f4,f5⟩:=hf it (by simp);have W:=Walks.range (prog:=X.prog) (w:=X.w) (I.ok.hd hc) it lo 1 n;refine W.item i s _ _ hg st λv h' tk hv st' kk=>?_;obtain⟨t,rfl⟩:=hv;have I1:Inv X pins σ H {s with heap:=h',toks:=tk}:=I.turned (λb o hb e=>kk b o (by simpa using hb) e) f0 f1 f3 f4 f5;refine⟨_,U,sf (s:={s with heap:=h',toks:=tk}) (n:="range_iterator") st' U U ∅ ⟨.int (lo+i),H,I1,⟨t,?_⟩,⟨U,U⟩,st',λb hb=>(hf b hb).1⟩⟩;rw[Int.mul_one]
 done:=by
  intro X hP hw hK hc i pins s σ H E I hf st hg;subst hP hw hK;obtain⟨f0,f1,f2,f3,f4,f5⟩:=hf it (by simp);exact wpAny_pyNext_range_end (I.ok.hd hc) st (by have:n<=i:=hg;lia) λh' eb=>⟨U,I.turned (t':=s.toks) (λb o hb e=>eb b o hb e) f0 f1 f3 f4 f5⟩
 self:=λ_ _ _ _ _ st h=>wpAny_pyIter_rangeiter st h
section
variable {X:Cx} {tg:Expr}
def vY (K:Fg) (tl:TE):TI:=λσ H R=>tl σ H λx H1=>∃ a,x=.ref a/\(∃ xs,SqL K H1 a xs)/\R (Itl K a) H1
def CK (K:Fg) (tl:TE):TI:=λσ H R=>tl σ H λx H1=>∃ a,x=.ref a/\(∃ xs,SqT K H1 a xs)/\R (Itt K a) H1
def gw {l:Expr} {tl:TE} (hl:PE X l tl):PI X tg l (vY X.K tl):=by
 intro pins s σ H R I h;refine thn (hl pins s σ H _ I h) λv s1 zy32=>?_;obtain⟨x,H1,I1,r1,q1⟩:=zy32;obtain⟨a,e,⟨xs,hq⟩,q⟩:=q1;subst e;cases r1;obtain⟨its,rv,p,hz⟩:=I1.list hq;refine wpAny_pyIter_list p.isList ?_;refine⟨s1.heap.objs.size,[s1.heap.objs.size],_,_,H1,U,I1.kept (t':=s1.toks) λb o e=>hpS _ e,oT a _,⟨_,Heap.get?_push_size _ U,U,U⟩,λb hb=>?_,q⟩;have e:b=s1.heap.objs.size:=by simpa using hb
 subst e;exact I1.fpOk (Nat.le_refl _) (I1.hok.fresh (Nat.le_refl _))
def hU {l:Expr} {tl:TE} (hl:PE X l tl):PI X tg l (CK X.K tl):=by
 intro pins s σ H R I h;refine thn (hl pins s σ H _ I h) λv s1 zy33=>?_;obtain⟨x,H1,I1,r1,q1⟩:=zy33;obtain⟨a,e,⟨xs,hq⟩,q⟩:=q1;subst e;cases r1;obtain⟨its,rv,p,hz⟩:=I1.tuple hq;refine wpAny_pyIter_tuple (show s1.heap.IsTuple a its.toArray from p) ?_;refine⟨s1.heap.objs.size,[s1.heap.objs.size],_,_,H1,U,I1.kept (t':=s1.toks) λb o e=>hpS _ e,mm a _,⟨_,Heap.get?_push_size _ U,U,U⟩,λb hb=>?_,q⟩;have e:b=s1.heap.objs.size:=by simpa using hb
 subst e;exact I1.fpOk (Nat.le_refl _) (I1.hok.fresh (Nat.le_refl _))
def qQ {pins:AOs} {σ:St} {H:Hp} {s:Shared} {R:It->Hp->Prop} {E:VSP} {lo hi:Int} {t u v:Tok} {tk:Nat} (I:Inv X pins σ H s) (h1:-(2 ^ 62)<=lo) (h2:lo<2 ^ 62) (h3:-(2 ^ 62)<=hi) (h4:hi<2 ^ 62)
 (q:R (Itr lo (hi-lo).toNat) H):wpAny (model X.prog X.w) X.A (pyIter (.ref s.heap.objs.size)) (PIE X pins σ tg R) E {s with heap:=s.heap.push {cls:=.type "range",data:=.fields #[.int lo t,.int hi u,.int 1 v]},toks:=tk}:=by
 refine wpAny_pyIter_range (IsRange.new ..) (small_one h1 h2 h3 h4) ?_;have I1:Inv X pins σ H {s with heap:=s.heap.push {cls:=.type "range",data:=.fields #[.int lo t,.int hi u,.int 1 v]},toks:=tk}:=I.kept λb o e=>hpS _ e;refine⟨(s.heap.push {cls:=.type "range",data:=.fields #[.int lo t,.int hi u,.int 1 v]}).objs.size,[(s.heap.push {cls:=.type "range",data:=.fields #[.int lo t,.int hi u,.int 1 v]}).objs.size],_,_,H,U,
   I1.kept (t':=tk) λb o e=>hpS _ e,mn _ lo (hi-lo).toNat,?_,λb hb=>?_,q⟩
 · have e1:lo+((0:Nat):Int)*1=lo:=by simp
   have e2:(((hi-lo).toNat:Nat):Int)-((0:Nat):Int)=Builtin.Range.rangeSize lo hi 1:=by rw[rangeSize_one];split <;> lia
   show IsRangeIter _ _ (lo+((0:Nat):Int)*1) ((((hi-lo).toNat:Nat):Int)-((0:Nat):Int)) 1;rw[e1,e2];exact Heap.get?_push_size _ U
 · have e:b=(s.heap.push {cls:=.type "range",data:=.fields #[.int lo t,.int hi u,.int 1 v]}).objs.size:=by simpa using hb
   subst e;exact I1.fpOk (Nat.le_refl _) (I1.hok.fresh (Nat.le_refl _))
def vX (ta:TA):TI:=λσ H R=>ta σ H λvs H1=>∃ j:Int,vs=[.int j]/\-(2 ^ 62)<=j/\j<2 ^ 62/\R (Itr 0 j.toNat) H1
def bO {a:Expr} {ta:TA} {p pos:Pos} (hg:Gl X "range") (hm:X.mg "range"=none) (ha:PA X [a] ta) (hs:starEach [a] X.env=[(false,eval a X.env)]:=by rfl):PI X tg (.Call (.Name "range" p) [a] [] pos) (vX ta):=by
 intro pins s σ H R I h;refine Call_ (dW I hg hm boot_range (PyProof.Rows.callWith_type1 (thn (ha pos pins s σ H _ I h) λus s1 zy34=>?_) hs U));obtain⟨vs,H1,I1,r1,q1⟩:=zy34;obtain⟨j,e,q1,q2,q⟩:=q1;subst e;cases r1 with
 | cons r rr =>
  cases rr;obtain⟨t,rfl⟩:=r;exact call_range_1 (qQ I1 (by lia) (by lia) q1 q2 (by simpa using q))
def zK (wi:TI) (g:TG) (tb:TS):TS:=λD σ H=>wi σ H λJ H1=>∃ W:Nat->Nat->St->Hp->Prop,(∃ m,W 0 m σ H1)/\∀ i m σ H,W i m σ H ->
  (J.stop i H/\D.nx σ H)\/(J.go i H/\∃ N:St->Hp->Prop,(∀ σ' H',N σ' H'->∃ m',m'<m/\W (i+1) m' σ' H')/\∀ x H',J.yld i H x H'->g x σ H' λσ2 H2=>tb {D with nx:=N,ct:=N,bk:=D.nx} σ2 H2)
def iN (fp:List Addr) (h:Heap):AOs:=fp.filterMap λb=>(h.get? b).map λo=>(b,o)
def eI {fp:List Addr} {h:Heap} {b:Addr} {o:Obj} (hb:b∈fp) (e:h.get? b=some o):(b,o)∈iN fp h:=List.mem_filterMap.mpr ⟨b,hb,by rw[e];rfl⟩
def p7 {fp:List Addr} {h:Heap} {p:Addr×Obj} (hp:p∈iN fp h):p.1∈fp/\h.get? p.1=some p.2:=by
 obtain⟨b,hb,e⟩:=List.mem_filterMap.mp hp;cases q:h.get? b with
 | none=>rw[q] at e;cases e
 | some o =>
  rw[q] at e;have e':(b,o)=p:=Option.some.inj e;subst e';exact⟨hb,q⟩
def Inv.pinned {pins:AOs} {σ:St} {H:Hp} {s:Shared} {fp:List Addr} (I:Inv X pins σ H s) (hf:∀ b∈fp,jb X pins H b) (ho:∀ b∈fp,∃ o,s.heap.get? b=some o/\∀ v,o.data≠.cell v):Inv X (pins++iN fp s.heap) σ H s :=
 I.pins_of λp hp=>(mAp.mp hp).elim (λz=>I.pin p (List.mem_append_right _ z)) λz=>by
  obtain⟨hb,e⟩:=p7 z;obtain⟨f0,f1,f2,_⟩:=hf p.1 hb;obtain⟨o,e',d⟩:=ho p.1 hb;rw[e] at e';cases e';exact⟨e,f0,f1,f2,d⟩
def Inv.unpinned {pins pl:AOs} {σ:St} {H:Hp} {s:Shared} (I:Inv X (pins++pl) σ H s):Inv X pins σ H s:=I.pins_of λp hp=>I.pin p (List.mem_append_right _ (List.mem_append_left _ hp))
def cR {iter:Expr} {body:List Stmt} {wi:TI} {g:TG} {tb:TS} {pos:Pos} (hp:PassesOwn (model X.prog X.w) X.A X.env X.xe) (hc:X.calm=true) (hi:PI X tg iter wi) (hg:PG X tg g) (hb:PSs X body tb)
 (hs:∀ x,foldedSetIterable iter X.env x=pure x:=by intro _;rfl):PS X (.For tg iter body [] pos) (zK wi g tb):=by
 intro pins s σ H D I h;refine wpAny_For (thn (hi pins s σ H _ I h) λv s1 h1=>thn h1 λitv s2 h2=>?_) hs;obtain⟨it,fp,tn,J,H2,e,I2,T,st2,f2,W,⟨m0,w0⟩,turn⟩:=h2;subst e;have stat:∀ {H':Hp},(∀ b∈fp,H' b=none)->∀ b∈fp,jb X pins H' b:=λhn b hb=>⟨hn b hb,(f2 b hb).2⟩;refine codeAny_forLoop_any (λn s'=>∃ i σ' H',Inv X pins σ' H' s'/\tn i s'.heap/\(∀ b∈fp,H' b=none)/\W i n σ' H') ?_ m0 ⟨0,σ,H2,I2,st2,λb hb=>(f2 b hb).1,w0⟩;rintro n s3 ⟨i,σ3,H3,I3,st3,fr3,w3⟩
 rcases turn i n σ3 H3 w3 with ⟨stop,qn⟩ | ⟨go,N,hN,step⟩
 · refine wpAny_passesOwn hp (thn (T.done X U U U hc i pins s3 σ3 H3 X.xe I3 (stat fr3) st3 stop) λr s4 zy36=>?_);obtain⟨hr,I4⟩:=zy36;subst hr;exact wpAny_execs_nil ⟨σ3,H3,I4,qn⟩
 · refine wpAny_passesOwn hp (thn (T.item X U U U hc i pins s3 σ3 H3 X.xe I3 (stat fr3) st3 go) λr s4 zy37=>?_);obtain⟨u,hr,h4⟩:=zy37;subst hr;refine wpAny_passesOwn hp (thn h4 λ_ s5 zy38=>?_);obtain⟨x,H5,I5,r5,y5,st5,fr5⟩:=zy38;have I5':=I5.pinned (stat fr5) (T.obj _ _ st5);refine wpAny_passesOwn hp (thn (hg _ s5 σ3 H5 x u _ I5' r5 (step x H5 y5)) λ_ s6 zy39=>?_);obtain⟨σ6,H6,I6,q6⟩:=zy39;refine wpAny_passesOwn hp (thn (hb _ s6 σ6 H6 _ I6 q6) λf s7 q7=>?_);have again:∀ {σ7:St} {H7:Hp},Inv X (pins++iN fp s5.heap) σ7 H7 s7->N σ7 H7->∃ m,m<n/\∃ i σ' H',Inv X pins σ' H' s7/\tn i s7.heap/\(∀ b∈fp,H' b=none)/\W i m σ' H':=λ{σ7 H7} I7 n7=>by
    obtain⟨m',hm,w7⟩:=hN σ7 H7 n7;refine⟨m',hm,i+1,σ7,H7,I7.unpinned,T.keep _ _ _ st5 λb hb o e=>(I7.pin (b,o) (List.mem_append_right _ (List.mem_append_right _ (eI hb e)))).1,λb hb=>?_,w7⟩;obtain⟨o,e,d⟩:=T.obj _ _ st5 b hb;exact (I7.pin (b,o) (List.mem_append_right _ (List.mem_append_right _ (eI hb e)))).2.1
   cases f with
   | next=>obtain⟨σ7,H7,I7,n7⟩:=q7;exact again I7 n7
   | cont=>obtain⟨σ7,H7,I7,n7⟩:=q7;exact again I7 n7
   | brk=>obtain⟨σ7,H7,I7,q7⟩:=q7;exact⟨σ7,H7,I7.unpinned,q7⟩
   | ret v=>obtain⟨x7,σ7,H7,I7,r7,q7⟩:=q7;exact⟨x7,σ7,H7,I7.unpinned,r7,q7⟩
end
abbrev R2:=V->V->Hp->VK->Prop
def OpR (X:Cx) (f:Value->Value->Sem Value) (r:R2):Prop :=
  ∀ (pins:AOs) (s:Shared) (σ:St) (H:Hp) (x y:V) (v u:Value) (Q:VK),Inv X pins σ H s->b7 x v->b7 y u->r x y H Q ->
    wpAny (model X.prog X.w) X.A (f v u) (EP X pins σ Q) X.xe s
def UnR (X:Cx) (f:Value->Sem Value) (r:V->Hp->VK->Prop):Prop :=
  ∀ (pins:AOs) (s:Shared) (σ:St) (H:Hp) (x:V) (v:Value) (Q:VK),Inv X pins σ H s->b7 x v->r x H Q ->
    wpAny (model X.prog X.w) X.A (f v) (EP X pins σ Q) X.xe s
def ga (X:Cx) (f:Value) (r:List V->Hp->VK->Prop):Prop :=
  ∀ (pins:AOs) (s:Shared) (σ:St) (H:Hp) (xs:List V) (us:List Value) (Q:VK),Inv X pins σ H s->aT xs us->r xs H Q ->
    wpAny (model X.prog X.w) X.A (call f us) (EP X pins σ Q) X.xe s
def Dg (X:Cx) (r:V->Hp->(Bool->Hp->Prop)->Prop):Prop :=
  ∀ (pins:AOs) (s:Shared) (σ:St) (H:Hp) (x:V) (v:Value) (Q:Bool->Hp->Prop),Inv X pins σ H s->b7 x v->r x H Q ->
    wpAny (model X.prog X.w) X.A (truthy v) (TP X pins σ Q) X.xe s
def tOp (r:R2) (ta tb:TE):TE:=λσ H Q=>ta σ H λx H1=>tb σ H1 λy H2=>r x y H2 Q
def tUn (r:V->Hp->VK->Prop) (ta:TE):TE:=λσ H Q=>ta σ H λx H1=>r x H1 Q
def rI (C:Int->Int->Prop) (g:Int->Int->V):R2:=λx y H Q=>wV x y H C g Q
def rI0 (g:Int->Int->V):R2:=λx y H Q=>tm x y H g Q
def rU (g:Int->V):V->Hp->VK->Prop:=λx H Q=>∃ i,x=.int i/\Q (g i) H
section
variable {X:Cx} {a b c:Expr} {ta tb tc:TE} {pos:Pos}
def yH (ha:PE X a ta) (hb:PE X b tb) {pins:AOs} {s:Shared} {σ:St} {H:Hp} {R:V->V->Hp->Prop} (I:Inv X pins σ H s)
 (h:ta σ H λx H1=>tb σ H1 λy H2=>R x y H2) {Q:VSP} {f:Value->Value->Sem Value}
 (hf:∀ v u s2 x y H2,Inv X pins σ H2 s2->b7 x v->b7 y u->R x y H2->wpAny (model X.prog X.w) X.A (f v u) Q X.xe s2) :
 wpAny (model X.prog X.w) X.A (eval a X.env) (λv s₁=>wpAny (model X.prog X.w) X.A (eval b X.env) (λu s₂=>wpAny (model X.prog X.w) X.A (f v u) Q X.xe s₂) X.xe s₁) X.xe s:=by
 refine thn (ha pins s σ H _ I h) λv s1 zy41=>?_;obtain⟨x,H1,I1,r1,q1⟩:=zy41;refine thn (hb pins s1 σ H1 _ I1 q1) λu s2 zy42=>?_;obtain⟨y,H2,I2,r2,q2⟩:=zy42;exact hf v u s2 x y H2 I2 r1 r2 q2
def aN {op:Operator} {r:R2} (ho:OpR X (binaryOp op) r) (ha:PE X a ta) (hb:PE X b tb):PE X (.BinOp a op b pos) (tOp r ta tb):=by
 intro pins s σ H Q I h;exact wpAny_BinOp (yH ha hb I h λv u s2 x y H2 I2 rx ry q=>ho pins s2 σ H2 x y v u Q I2 rx ry q)
def jp {op:UnaryOp} {r:V->Hp->VK->Prop} (ho:UnR X (unaryOp op) r) (ha:PE X a ta):PE X (.UnaryOp op a pos) (tUn r ta):=by
 intro pins s σ H Q I h;refine UnaryOp_ (thn (ha pins s σ H _ I h) λv s1 zy43=>?_);obtain⟨x,H1,I1,r1,q1⟩:=zy43;exact ho pins s1 σ H1 x v Q I1 r1 q1
def opI {f:Value->Value->Sem Value} {C:Int->Int->Prop} {g:Int->Int->Int}
 (rule:∀ (i j:Int) (t u:Tok) (s:Shared) (Q:VSP) (E:VSP),C i j->Q (.int (g i j) s.toks) {s with toks:=s.toks+1}->wpAny (model X.prog X.w) X.A (f (.int i t) (.int j u)) Q E s) :
 OpR X f (rI C λi j=>.int (g i j)):=by
 intro pins s σ H x y v u Q I rx ry h;obtain⟨i,j,rfl,rfl,hc,q⟩:=h;obtain⟨t,rfl⟩:=rx;obtain⟨t',rfl⟩:=ry;exact rule i j t t' s _ _ hc ⟨.int (g i j),H,I.tok _,⟨_,U⟩,q⟩
def AH {f:Value->Value->Sem Value} {g:Int->Int->Int}
 (rule:∀ (i j:Int) (t u:Tok) (s:Shared) (Q:VSP) (E:VSP),Q (.int (g i j) s.toks) {s with toks:=s.toks+1}->wpAny (model X.prog X.w) X.A (f (.int i t) (.int j u)) Q E s) :
 OpR X f (rI0 λi j=>.int (g i j)):=by
 intro pins s σ H x y v u Q I rx ry h;obtain⟨i,j,rfl,rfl,q⟩:=h;obtain⟨t,rfl⟩:=rx;obtain⟨t',rfl⟩:=ry;exact rule i j t t' s _ _ ⟨.int (g i j),H,I.tok _,⟨_,U⟩,q⟩
def uG {f:Value->Value->Sem Value} {g:Int->Int->Bool}
 (rule:∀ (i j:Int) (t u:Tok) (s:Shared) (Q:VSP) (E:VSP),Q (.bool (g i j)) s->wpAny (model X.prog X.w) X.A (f (.int i t) (.int j u)) Q E s) :
 OpR X f (rI0 λi j=>.bl (g i j)):=by
 intro pins s σ H x y v u Q I rx ry h;obtain⟨i,j,rfl,rfl,q⟩:=h;obtain⟨t,rfl⟩:=rx;obtain⟨t',rfl⟩:=ry;exact rule i j t t' s _ _ ⟨.bl (g i j),H,I,U,q⟩
def Dk (i j:Int):Prop:=0<j/\j<1073741824
def BS (i j:Int):Prop:=j≠0/\j.natAbs<1073741824
def Dj (i j:Int):Prop:=0<=j/\j<=1000000/\i.natAbs<2 ^ 64
def zg (i j:Int):Prop:=(-(2 ^ 64)<i/\i<2 ^ 64)\/(-(2 ^ 64)<j/\j<2 ^ 64)
def zg.ok {i j:Int} (h:zg i j):IntMulOk i j:=by
 rcases h with ⟨h1,h2⟩ | ⟨h1,h2⟩
 · exact .of_left (intBits_le_64 h1 h2)
 · exact .of_right (intBits_le_64 h1 h2)
def cG:OpR X (binaryOp .Add) (rI0 λi j=>.int (i+j)):=AH λ_ _ _ _ _ _ _ q=>add_int q
def cF:OpR X (binaryOp .Sub) (rI0 λi j=>.int (i-j)):=AH λ_ _ _ _ _ _ _ q=>sub_int q
def dR:OpR X (binaryOp .Mult) (rI zg λi j=>.int (i*j)):=opI λ_ _ _ _ _ _ _ hc q=>mul_int q hc.ok
def ir:OpR X (binaryOp .FloorDiv) (rI Dk λi j=>.int (i / j)):=opI λi j _ _ _ _ _ hc q=>by
 have h1:(0:Int)<j:=hc.1;have h2:j<1073741824:=hc.2;exact floordiv_int (by lia) (by rw[Int.fdiv_eq_ediv_of_nonneg i (by lia)];exact q) (.inl (PyProof.noPylong_small (by lia)))
def lp:OpR X (binaryOp .FloorDiv) (rI BS λi j=>.int (i.fdiv j)):=opI λ_ _ _ _ _ _ _ hc q=>floordiv_int hc.1 q (.inl (PyProof.noPylong_small hc.2))
def fq:OpR X (binaryOp .Mod) (rI (λ_ j=>0<j) λi j=>.int (i % j)):=opI λi j _ _ _ _ _ hc q=>by
 have h1:(0:Int)<j:=hc;exact mod_int' (by lia) (by rw[Int.fmod_eq_emod_of_nonneg i (by lia)];exact q)
def xN:OpR X (binaryOp .Pow) (rI Dj λi j=>.int (i ^ j.toNat)):=opI λ_ _ _ _ _ _ _ hc q=>pow_int_small hc.1 hc.2.1 hc.2.2 q
def unI {f:Value->Sem Value} {g:Int->Int}
 (rule:∀ (i:Int) (t:Tok) (s:Shared) (Q:VSP) (E:VSP),Q (.int (g i) s.toks) {s with toks:=s.toks+1}->wpAny (model X.prog X.w) X.A (f (.int i t)) Q E s) :
 UnR X f (rU λi=>.int (g i)):=by
 intro pins s σ H x v Q I rx h;obtain⟨i,rfl,q⟩:=h;obtain⟨t,rfl⟩:=rx;exact rule i t s _ _ ⟨.int (g i),H,I.tok _,⟨_,U⟩,q⟩
def gU:UnR X (unaryOp .USub) (rU λi=>.int (-i)):=unI λ_ _ _ _ _ q=>neg_int q
end
def uq:V->V->Bool
  | .non,.non=>true | .non,.int _=>true | .int _,.non=>true | .non,.bl _=>true | .bl _,.non=>true | .non,.str _=>true | .str _,.non=>true
  | .int _,.int _=>true | .bl _,.bl _=>true | .str _,.str _=>true | .byt _,.byt _=>true
  | .int _,.str _=>true | .str _,.int _=>true | .bl _,.str _=>true | .str _,.bl _=>true
  | _,_=>false
def rEq:R2:=λx y H Q=>uq x y=true/\Q (.bl (decide (x=y))) H
def rNe:R2:=λx y H Q=>uq x y=true/\Q (.bl (!decide (x=y))) H
def oE {i j:Int}:decide (V.int i=V.int j)=(i==j):=by
 rw[Bool.eq_iff_iff];simp
def sH {i j:Bool}:decide (V.bl i=V.bl j)=(i==j):=by
 rw[Bool.eq_iff_iff];simp
def oC {i j:Str}:decide (V.str i=V.str j)=(i==j):=by
 rw[Bool.eq_iff_iff];simp
def oF {i j:Array UInt8}:decide (V.byt i=V.byt j)=(i.toList==j.toList):=by
 rw[Bool.eq_iff_iff];cases i;cases j;simp
section
variable {X:Cx} {a b c:Expr} {ta tb tc:TE} {pos:Pos}
def b9 {pins:AOs} {σ:St} {H:Hp} {s:Shared} {Q:VK} {k k':Bool} (I:Inv X pins σ H s) (q:Q (.bl k) H) (e:k=k'):EP X pins σ Q (.bool k') s:=by
 subst e;exact⟨.bl k,H,I,U,q⟩
def aB:OpR X (compareOp .Eq) rEq:=by
 intro pins s σ H x y v u Q I rx ry h;obtain⟨hs,q⟩:=h;cases x with
 | non =>
  cases rx;cases y with
  | non=>cases ry;exact PySem.EqNone.eq_none_none (b9 I q (by simp))
  | bl j=>cases ry;exact PySem.EqNone.eq_none_bool (b9 I q (by simp))
  | int j=>obtain⟨t',rfl⟩:=ry;exact PySem.EqNone.eq_none_int (b9 I q (by simp))
  | str j=>obtain⟨t',rfl⟩:=ry;exact PySem.EqNone.eq_none_str (b9 I q (by simp))
  | _=>exact absurd (show false=true from hs) Bool.false_ne_true
 | bl i =>
  cases rx;cases y with
  | non=>cases ry;exact PySem.EqNone.eq_bool_none (b9 I q (by simp))
  | bl j=>cases ry;exact eq_bool (b9 I q sH)
  | str j=>obtain⟨t',rfl⟩:=ry;exact PySem.EqMixed.eq_bool_str (b9 I q (by simp))
  | _=>exact absurd (show false=true from hs) Bool.false_ne_true
 | int i =>
  obtain⟨t,rfl⟩:=rx;cases y with
  | non=>cases ry;exact PySem.EqNone.eq_int_none (b9 I q (by simp))
  | int j=>obtain⟨t',rfl⟩:=ry;exact eq_int (b9 I q oE)
  | str j=>obtain⟨t',rfl⟩:=ry;exact PySem.EqMixed.eq_int_str (b9 I q (by simp))
  | _=>exact absurd (show false=true from hs) Bool.false_ne_true
 | str i =>
  obtain⟨t,rfl⟩:=rx;cases y with
  | non=>cases ry;exact PySem.EqNone.eq_str_none (b9 I q (by simp))
  | bl j=>cases ry;exact PySem.EqMixed.eq_str_bool (b9 I q (by simp))
  | int j=>obtain⟨t',rfl⟩:=ry;exact PySem.EqMixed.eq_str_int (b9 I q (by simp))
  | str j=>obtain⟨t',rfl⟩:=ry;exact eq_str (b9 I q oC)
  | _=>exact absurd (show false=true from hs) Bool.false_ne_true
 | byt i =>
  obtain⟨t,rfl⟩:=rx;cases y with
  | byt j=>obtain⟨t',rfl⟩:=ry;exact PySem.W.eq_bytes (b9 I q oF)
  | _=>exact absurd (show false=true from hs) Bool.false_ne_true
 | _=>cases y <;> exact absurd (show false=true from hs) Bool.false_ne_true
def gz:OpR X (compareOp .NotEq) rNe:=by
 intro pins s σ H x y v u Q I rx ry h;obtain⟨hs,q⟩:=h;cases x with
 | non =>
  cases rx;cases y with
  | non=>cases ry;exact PySem.EqNone.ne_none_none (b9 I q (by simp))
  | bl j=>cases ry;exact PySem.EqNone.ne_none_bool (b9 I q (by simp))
  | int j=>obtain⟨t',rfl⟩:=ry;exact PySem.EqNone.ne_none_int (b9 I q (by simp))
  | str j=>obtain⟨t',rfl⟩:=ry;exact PySem.EqNone.ne_none_str (b9 I q (by simp))
  | _=>exact absurd (show false=true from hs) Bool.false_ne_true
 | bl i =>
  cases rx;cases y with
  | non=>cases ry;exact PySem.EqNone.ne_bool_none (b9 I q (by simp))
  | bl j=>cases ry;exact ne_bool (b9 I q (congrArg not sH))
  | str j=>obtain⟨t',rfl⟩:=ry;exact PySem.EqMixed.ne_bool_str (b9 I q (by simp))
  | _=>exact absurd (show false=true from hs) Bool.false_ne_true
 | int i =>
  obtain⟨t,rfl⟩:=rx;cases y with
  | non=>cases ry;exact PySem.EqNone.ne_int_none (b9 I q (by simp))
  | int j=>obtain⟨t',rfl⟩:=ry;exact ne_int (b9 I q (congrArg not oE))
  | str j=>obtain⟨t',rfl⟩:=ry;exact PySem.EqMixed.ne_int_str (b9 I q (by simp))
  | _=>exact absurd (show false=true from hs) Bool.false_ne_true
 | str i =>
  obtain⟨t,rfl⟩:=rx;cases y with
  | non=>cases ry;exact PySem.EqNone.ne_str_none (b9 I q (by simp))
  | bl j=>cases ry;exact PySem.EqMixed.ne_str_bool (b9 I q (by simp))
  | int j=>obtain⟨t',rfl⟩:=ry;exact PySem.EqMixed.ne_str_int (b9 I q (by simp))
  | str j=>obtain⟨t',rfl⟩:=ry;exact ne_str (b9 I q (congrArg not oC))
  | _=>exact absurd (show false=true from hs) Bool.false_ne_true
 | byt i =>
  obtain⟨t,rfl⟩:=rx;cases y with
  | byt j=>obtain⟨t',rfl⟩:=ry;exact PySem.W.ne_bytes (b9 I q (congrArg not oF))
  | _=>exact absurd (show false=true from hs) Bool.false_ne_true
 | _=>cases y <;> exact absurd (show false=true from hs) Bool.false_ne_true
def gA:OpR X (compareOp .Lt) (rI0 λi j=>.bl (decide (i<j))):=uG λ_ _ _ _ _ _ _ q=>lt_int q
def vR:OpR X (compareOp .LtE) (rI0 λi j=>.bl (decide (i<=j))):=uG λ_ _ _ _ _ _ _ q=>le_int q
def iP:OpR X (compareOp .Gt) (rI0 λi j=>.bl (decide (j<i))):=uG λ_ _ _ _ _ _ _ q=>gt_int q
def AG:OpR X (compareOp .GtE) (rI0 λi j=>.bl (decide (j<=i))):=uG λ_ _ _ _ _ _ _ q=>ge_int q
def eC:OpR X (compareOp .Is) (λx y H Q=>y=.non/\Q (.bl (decide (x=.non))) H):=by
 intro pins s σ H x y v u Q I rx ry h;obtain⟨rfl,q⟩:=h;cases ry;refine is_none_gen (b9 I q ?_);cases x <;> first
  | (cases rx;rfl)
  | (obtain⟨t,rfl⟩:=rx;rfl)
def gy:OpR X (compareOp .IsNot) (λx y H Q=>y=.non/\Q (.bl (!decide (x=.non))) H):=by
 intro pins s σ H x y v u Q I rx ry h;obtain⟨rfl,q⟩:=h;cases ry;refine isnot_none_gen (b9 I q ?_);cases x <;> first
  | (cases rx;rfl)
  | (obtain⟨t,rfl⟩:=rx;rfl)
def pN (b:Expr) {op:CmpOp} (h:op≠.In:=by decide) (h2:op≠.NotIn:=by decide):behindInMarks op b=false:=by
 have e1:(op==CmpOp.In)=false:=by cases op <;> first | rfl | exact absurd rfl h
 have e2:(op==CmpOp.NotIn)=false:=by cases op <;> first | rfl | exact absurd rfl h2
 cases b <;> simp[behindInMarks,e1,e2]
def dz {op:CmpOp} {r:R2} (ho:OpR X (compareOp op) r) (ha:PE X a ta) (hb:PE X b tb) (hm:behindInMarks op b=false):PE X (.Compare a [op] [b] pos) (tOp r ta tb):=by
 intro pins s σ H Q I h;exact wpAny_Compare1 (yH ha hb I h λv u s2 x y H2 I2 rx ry q=>ho pins s2 σ H2 x y v u Q I2 rx ry q) hm
def nH (t:TE):TT:=λσ H Q=>t σ H λx H'=>BlR x H' Q
def pM {op:CmpOp} {r:R2} (ho:OpR X (compareOp op) r) (ha:PE X a ta) (hb:PE X b tb) (hm:behindInMarks op b=false):PT X (.Compare a [op] [b] pos) (nH (tOp r ta tb)):=by
 intro pins s σ H Q I h;refine wpAny_isTrue_Compare1 (thn (ha pins s σ H _ I h) λv s1 zy44=>?_) hm;obtain⟨x,H1,I1,r1,q1⟩:=zy44;refine thn (hb pins s1 σ H1 _ I1 q1) λu s2 zy45=>?_;obtain⟨y,H2,I2,r2,q2⟩:=zy45;refine thn (ho pins s2 σ H2 x y v u _ I2 r1 r2 q2) λc s3 zy46=>?_;obtain⟨z,H3,I3,r3,k,e,q3⟩:=zy46;subst e;cases r3;exact wpAny_truthy_bool ⟨H3,I3,q3⟩
def qx (r r':R2) (ta tb tc:TE):TE:=λσ H Q=>ta σ H λx H1=>tb σ H1 λy H2=>r x y H2 λz H3=>∃ k,z=.bl k /\
  (if k=true then tc σ H3 λw' H4=>r' y w' H4 Q else Q (.bl false) H3)
def l7 {op op':CmpOp} {r r':R2} (ho:OpR X (compareOp op) r) (ho':OpR X (compareOp op') r') (ha:PE X a ta) (hb:PE X b tb) (hc:PE X c tc)
 (hm:lastMarks [op,op'] [b,c]=false:=by with_unfolding_all rfl):PT X (.Compare a [op,op'] [b,c] pos) (nH (qx r r' ta tb tc)):=by
 intro pins s σ H Q I h;refine isTrue_chain (thn (ha pins s σ H _ I h) λv s1 zy51=>?_) hm;obtain⟨x,H1,I1,r1,q1⟩:=zy51;refine test_link (thn (hb pins s1 σ H1 _ I1 q1) λu s2 zy52=>?_);obtain⟨y,H2,I2,r2,q2⟩:=zy52;refine thn (ho pins s2 σ H2 x y v u _ I2 r1 r2 q2) λd s3 zy53=>?_;obtain⟨z,H3,I3,r3,k,e,q3⟩:=zy53;subst e;cases r3;refine wpAny_truthy_bool ?_;cases k with
 | false =>
  obtain⟨k',e',q'⟩:=q3;cases e';exact ite_ff ⟨H3,I3,q'⟩
 | true =>
  refine ite_tt (test_last (thn (hc pins s3 σ H3 _ I3 q3) λw' s4 zy54=>?_));obtain⟨z',H4,I4,r4,q4⟩:=zy54;refine thn (ho' pins s4 σ H4 y z' u w' _ I4 r2 r4 q4) λd' s5 zy55=>?_;obtain⟨z2,H5,I5,r5,k2,e2,q5⟩:=zy55;subst e2;cases r5;exact wpAny_truthy_bool ⟨H5,I5,q5⟩
def BF (K:Fg) (x:V) (H:Hp) (k:Bool):Prop :=
  match x with
  | .non=>k=false
  | .bl b=>k=b
  | .int i=>k=(i != 0)
  | .str y=>y.length<=sizeLine/\k=((y.length:Int) != 0)
  | .byt y=>y.size<=sizeLine/\k=((y.size:Int) != 0)
  | .ref p=>(∃ xs,SqL K H p xs/\k=!xs.isEmpty)\/(∃ xs,SqT K H p xs/\k=!xs.isEmpty)\/∃ kvs,H p=some (.dK kvs)/\k=!kvs.isEmpty
  | _=>False
def mQ {κ:Type} {kvs:List (κ×V)} {vs:List (κ×Value)} (r:KV kvs vs):(!vs.isEmpty)=!kvs.isEmpty:=by
 cases r <;> rfl
def iT {xs:List V} {its:List Value} (r:aT xs its):(!its.toArray.isEmpty)=!xs.isEmpty:=by
 cases r <;> simp
def hZ:(sizeLine:Nat)<2 ^ 63:=by rw[sizeLine_eq];decide
def xh:Dg X (λx H Q=>∃ k,BF X.K x H k/\Q k H):=by
 intro pins s σ H x v Q I rx h;obtain⟨k,e,q⟩:=h;have hl:=hZ;have hs:sizeLine=16777216:=sizeLine_eq;cases x with
 | non =>
  cases rx;have e':k=false:=e;subst e';exact truthy_none ⟨H,I,q⟩
 | bl b =>
  cases rx;have e':k=b:=e;subst e';exact wpAny_truthy_bool ⟨H,I,q⟩
 | int i =>
  obtain⟨t,rfl⟩:=rx;have e':k=(i != 0):=e;subst e';exact PySem.P.truthy_int ⟨H,I,q⟩
 | str y =>
  obtain⟨t,rfl⟩:=rx;obtain⟨hy,e'⟩:y.length<=sizeLine/\k=((y.length:Int) != 0):=e;subst e';exact PySem.P.truthy_str (by lia) ⟨H,I.tok _,q⟩
 | byt y =>
  obtain⟨t,rfl⟩:=rx;obtain⟨hy,e'⟩:y.size<=sizeLine/\k=((y.size:Int) != 0):=e;subst e';exact PySem.W.truthy_bytes (by lia) ⟨H,I.tok _,q⟩
 | ref p =>
  cases rx;have e':(∃ xs,SqL X.K H p xs/\k=!xs.isEmpty)\/(∃ xs,SqT X.K H p xs/\k=!xs.isEmpty)\/∃ kvs,H p=some (.dK kvs)/\k=!kvs.isEmpty:=e
  rcases e' with ⟨xs,hx,e'⟩ | ⟨xs,hx,e'⟩ | ⟨kvs,hx,e'⟩
  · subst e';obtain⟨its,r,pl,hz⟩:=I.list hx;have hlen:=r.length;exact wpAny_truthy_list pl.isList (by simp only[List.size_toArray];lia) ⟨H,I.tok _,by rw[iT r];exact q⟩
  · subst e';obtain⟨its,r,pl,hz⟩:=I.tuple hx;have hlen:=r.length;exact truthy_tuple pl (by simp only[List.size_toArray];lia) ⟨H,I.tok _,by rw[iT r];exact q⟩
  · subst e';obtain⟨hz,hS,vs,r,m⟩:kvs.length<=sizeLine/\(p==sysModules)=false/\∃ vs,KV kvs vs/\s.heap.DictOf (aP X.prog X.w) p vs:=I.hok p _ hx;have hlen:kvs.length=vs.length:=Paired.length r;exact wpAny_truthy_dict hS m (by lia) ⟨H,I.tok _,by rw[mQ r];exact q⟩
 | _=>exact (show False from e).elim
def qX (ha:PE X a ta) (he:∀ whole,isTrue a X.env whole=(do let v <- whole;standAt a.pos;holding [v] (truthy v))) :
 PT X a (λσ H Q=>ta σ H λx H'=>∃ k,BF X.K x H' k/\Q k H'):=by
 intro pins s σ H Q I h;refine isTrue_plain (thn (ha pins s σ H _ I h) λv s1 zy56=>?_) (he _);obtain⟨x,H1,I1,r1,q1⟩:=zy56;exact xh pins s1 σ H1 x v Q I1 r1 q1
def mG:OpR X (binaryOp .Add) (λx y H Q=>∃ i j,x=.str i/\y=.str j/\i.length+j.length<=sizeLine/\Q (.str (i++j)) H):=by
 intro pins s σ H x y v u Q I rx ry h;obtain⟨i,j,rfl,rfl,hz,q⟩:=h;obtain⟨t,rfl⟩:=rx;obtain⟨t',rfl⟩:=ry;exact add_str (λt' tk=>⟨.str (i++j),H,I.tok _,⟨_,U⟩,q⟩) hz
def kP {x:V} {us:List Value} (r:aT [x] us):∃ u,us=[u]/\b7 x u:=by
 cases r with
 | cons r1 r2=>cases r2;exact⟨_,U,r1⟩
def qe:ga X (.type "int") (λxs H Q=>(∃ i,xs=[.int i]/\Q (.int i) H)\/∃ k,xs=[.bl k]/\Q (.int (if k then 1 else 0)) H):=by
 intro pins s σ H xs us Q I r h
 rcases h with ⟨i,rfl,q⟩ | ⟨k,rfl,q⟩
 · obtain⟨u,rfl,t,rfl⟩:=kP r;exact call_int_int ⟨.int i,H,I,⟨_,U⟩,q⟩
 · obtain⟨u,rfl,r1⟩:=kP r;cases r1;exact call_int_bool ⟨.int (if k then 1 else 0),H,I.tok _,⟨_,U⟩,q⟩
end
structure ni (h:Heap) (x dx C:Addr) (mA:SOV):Prop where
  obj:h.get? x=some (PySem.W.instObj C dx)
  ns:h.Ns1 dx mA
  ne:dx≠x
def pj {h:Heap} {dx:Addr} {mA:SOV} (n:h.Ns1 dx mA):∃ od,h.get? dx=some od/\∀ name,PySem.W.lookIn name od=some (mA name):=by
 obtain⟨o,es,ep,ho,hd,hk,_,hm⟩:=n;refine⟨o,ho,λname=>?_⟩;have e:=hm name;unfold nsFind findBy at e;rw[<- Array.find?_toList] at e;unfold PySem.W.lookIn;rw[hd];dsimp only;split
 · rename_i y q
   rw[q] at e;exact congrArg some e
 · rename_i q
   rw[q] at e;have a:es.toList.any (·.refKey)=false:=by
    rw[List.any_eq_false];intro y hy;obtain⟨z,t,hkey⟩:=hk y (Array.mem_toList_iff.mp hy);simp[DictEntry.refKey,hkey]
   have a':¬ es.toList.any (·.refKey)=true:=by rw[a];exact Bool.false_ne_true
   rw[if_neg a'];exact congrArg some e
def ni.look {h:Heap} {x dx C:Addr} {mA:SOV} (I:ni h x dx C mA):∃ od,PySem.W.InstAt h x (PySem.W.instObj C dx) C (some od)/\∀ name,PySem.W.lookIn name od=some (mA name) :=
 let ⟨od,ho,hl⟩:=pj I.ns
 ⟨od,⟨I.obj,U,U,ho⟩,hl⟩
section
variable {prog:Program} {w:World} {A:Around} {E:VSP} {s:Shared} {K:Fg} {x dx C f:Addr} {mA:SOV} {name:Str} {v:Value}
def uQ {expr:Bool} {Q:VSP} (X:K.In s.heap) (I:ni s.heap x dx C mA) (hg:PySem.W.plainGet K C name=true) (hh:PySem.W.hasDictIn K C=true)
 (ha:PySem.W.findIn K (.ref C) name=some none) (hv:mA name=some v) (hv':PySem.W.handedIn v=true) (h:Q v {s with toks:=s.toks+1}) :
 wpAny (model prog w) A (getAttr (.ref x) name expr) Q E s:=by
 obtain⟨od,J,hl⟩:=I.look;exact PySem.W.get_value X J (PySem.W.plainGet_of hg).1 (PySem.W.findObj_own hh ha U (by rw[hl,hv])) hv' h
def sn {pl:Sem Bool} {Q:Value×List Value->Shared->Prop} (X:K.In s.heap) (I:ni s.heap x dx C mA) (hg:PySem.W.plainGet K C name=true)
 (hf:PySem.W.findIn K (.ref C) name=some (some (.ref f))) (ht:PySem.W.isFn K (.ref f)=true) (hv:mA name=none) (h:Q (.ref f,[.ref x]) s) :
 wpAny (model prog w) A (getMethod (.ref x) name pl) Q E s:=by
 obtain⟨od,J,hl⟩:=I.look;exact PySem.W.method_fn X J (PySem.W.plainGet_of hg).1 (PySem.W.plainGet_of hg).2 hf (beq_iff_eq.mp ht) (by show (PySem.W.lookIn name od).map (·.isSome)=some false;rw[hl,hv];rfl) h
def uj {ns:List Str} {Q:Unit->Shared->Prop} (X:K.In s.heap) (I:ni s.heap x dx C mA)
 (hs:PySem.W.findIn K (.ref C) "__setattr__"=some (some (.builtin "object.__setattr__"))) (hp:PySem.W.plainOver K C=true) (ht:PySem.W.takerIn K C name=some none) (hh:PySem.W.hasDictIn K C=true)
 (hw:PySem.Within mA ns) (hsz:ns.length<=sizeLine)
 (h:∀ h',ni h' x dx C (λy=>if y=name then some v else mA y)->Heap.SameBut dx s.heap h'->Q () {s with heap:=h',toks:=s.toks+2}) :
 wpAny (model prog w) A (setAttr (.ref x) name v) Q E s:=by
 obtain⟨od,J,hl⟩:=I.look;refine PySem.W.set_plain X J hs (PySem.W.osa_open (s:={s with toks:=s.toks+1}) (r:=none) X J hp ht λb=>?_);obtain⟨cd,hc,hd'⟩:=PySem.W.any_some hh;have hx:s.heap.get? x=some ⟨.ref C,some dx,.plain,#[]⟩:=I.obj;refine wB (wP (wB (wB (wpAny_loadPart hx (wB (PySem.W.Looks.here (s:={s with toks:=s.toks+1}) (PySem.W.looks_clsIn X hc) ?_))))));rw[hd'];refine wP (a:=some dx) (wB (wP (wB ?_)));refine wpAny_nsSet1 (s:={s with toks:=s.toks+1}) I.ns λh' hn2 hs2=>?_;obtain⟨oD,esD,epD,hoD,hdD,hcD⟩:=hn2.count (PySem.Within.cons name v hw);refine wB (wpAny_lookBehind hoD (by rw[hdD];exact pastItsLine_dict (Nat.le_trans hcD (by rw[List.length_cons];lia))) ?_);exact wP (h _ ⟨(hs2.2 _ (Ne.symm I.ne)).trans I.obj,hn2,I.ne⟩ hs2)
def rN {R:Result->Shared->Prop} {vs:List Value} {kw:List (Str×Value)} (X:K.In s.heap) (hm:PySem.W.makesIn K C=true)
 (hi:PySem.W.findIn K (.ref C) "__init__"=some (some (.ref f))) (hf:PySem.W.typeIn K (.ref f)=some (.type "function"))
 (h:codeAny (model prog w) (A.under (.builtin "type.__call__" ⟨.ref C::vs,kw⟩)) (.call (.ref f) ⟨.ref (s.heap.objs.size+1)::vs,kw⟩) (PySem.W.InitBack (s.heap.objs.size+1) R)
   {s with heap:=(s.heap.push PySem.W.emptyDict).push (PySem.W.instObj C s.heap.objs.size)}) :
 codeAny (model prog w) A (.call (.ref C) ⟨vs,kw⟩) R s:=by
 obtain⟨hh,g,d,t,os⟩:=s;exact PySem.W.make_core (PySem.W.makes_of X hm) (PySem.W.looks_findIn X hi) (λself=>PySem.W.bind_fn X self hf) (.inl U) h
end
def cQ (f:Str) (v:V):List (Str×V)->List (Str×V)
  | []=>[(f,v)]
  | (g,x)::r=>if g=f then (g,v)::r else (g,x)::cQ f v r
def ia (f g:Str) (v:V):∀ fs:List (Str×V),(cQ f v fs).lookup g=if g=f then some v else fs.lookup g
 | []=>by
  show List.lookup g [(f,v)]=_;by_cases h:g=f
  · have hb:(g==f)=true:=beq_iff_eq.mpr h;simp only[List.lookup,hb,if_pos h]
  · have hb:(g==f)=false:=beq_eq_false_iff_ne.mpr h;simp only[List.lookup,hb,if_neg h]
 | (k,x)::r=>by
  have ih:=ia f g v r;rw[show cQ f v ((k,x)::r)=(if k=f then (k,v)::r else (k,x)::cQ f v r) from rfl];by_cases hk:k=f
  · rw[if_pos hk];by_cases h:g=k
    · have hb:(g==k)=true:=beq_iff_eq.mpr h;simp only[List.lookup,hb,if_pos (h.trans hk)]
    · have hb:(g==k)=false:=beq_eq_false_iff_ne.mpr h;simp only[List.lookup,hb,if_neg (λe:g=f=>h (e.trans hk.symm))]
  · rw[if_neg hk];by_cases h:g=k
    · have hb:(g==k)=true:=beq_iff_eq.mpr h;simp only[List.lookup,hb,if_neg (λe:g=f=>hk (h.symm.trans e))]
    · have hb:(g==k)=false:=beq_eq_false_iff_ne.mpr h;simp only[List.lookup,hb];exact ih
def i5 (f:Str) (v:V):∀ fs:List (Str×V),f∈(cQ f v fs).map (·.1)/\∀ g,g∈fs.map (·.1)->g∈(cQ f v fs).map (·.1)
 | []=>⟨by simp[cQ],λg h=>by simp at h⟩
 | (k,x)::r=>by
  obtain⟨i1,i2⟩:=i5 f v r;rw[show cQ f v ((k,x)::r)=(if k=f then (k,v)::r else (k,x)::cQ f v r) from rfl];by_cases hk:k=f
  · rw[if_pos hk];subst hk;exact⟨by simp,λg h=>by simpa using h⟩
  · rw[if_neg hk];refine⟨?_,λg h=>?_⟩
    · rw[List.map_cons];exact mCM _ i1
    · rw[List.map_cons] at h ⊢
      rcases List.mem_cons.mp h with e | e
      · exact List.mem_cons.mpr (.inl e)
      · exact mCM _ (i2 g e)
def ib (f:Str) (v:V):∀ fs:List (Str×V),(cQ f v fs).length<=fs.length+1
 | []=>by simp[cQ]
 | (k,x)::r=>by
  have ih:=ib f v r;rw[show cQ f v ((k,x)::r)=(if k=f then (k,v)::r else (k,x)::cQ f v r) from rfl];by_cases hk:k=f
  · rw[if_pos hk,List.length_cons,List.length_cons];lia
  · rw[if_neg hk,List.length_cons,List.length_cons];lia
def fH.some_of {v:V} {o:Option Value} (r:fH (some v) o):∃ u,o=some u/\b7 v u:=by
 cases o with
 | none=>exact (show False from r).elim
 | some u=>exact⟨u,U,r⟩
def fH.none_of {o:Option Value} (r:fH none o):o=none:=by
 cases o with
 | none=>rfl
 | some u=>exact (show False from r).elim
def pQ {v:V} {u:Value} (r:b7 v u):PySem.W.handedIn u=true:=by
 cases v with
 | non=>cases (show u=Value.none from r);rfl
 | bl b=>cases (show u=Value.bool b from r);rfl
 | int i=>obtain⟨t,e⟩:=(show ∃ t,u=Value.int i t from r);cases e;rfl
 | str x=>obtain⟨t,e⟩:=(show ∃ t,u=Value.str x t from r);cases e;rfl
 | byt b=>obtain⟨t,e⟩:=(show ∃ t,u=Value.bytes b t from r);cases e;rfl
 | flt b=>obtain⟨t,e⟩:=(show ∃ t,u=Value.float b t from r);cases e;rfl
 | ref a=>cases (show u=Value.ref a from r);rfl
 | ty n=>cases (show u=Value.type n from r);rfl
section
variable {P:Program} {w:World} {H H':Hp} {h h':Heap} {a C dx:Addr} {fs fs':List (Str×V)}
def gE (hok:HOk P w H h) (e:H a=some (.ins C dx fs)):∃ mA,ni h a dx C mA/\(∀ f,fH (fs.lookup f) (mA f))/\PySem.Within mA (fs.map (·.1))/\fs.length<=1000/\H dx=some (.own a):=by
 obtain⟨d,z,ne,ob,mA,n,r,q⟩:=(show bQ P w H h a (.ins C dx fs) from hok a _ e);exact⟨mA,⟨ob,n,ne⟩,r,q,z,d⟩
end
structure Cls (K:Fg) (C:Addr):Prop where
  pg:PySem.W.plainGet K C Str.empty=true
  hd:PySem.W.hasDictIn K C=true
  po:PySem.W.plainOver K C=true
  sa:PySem.W.findIn K (.ref C) "__setattr__"=some (some (.builtin "object.__setattr__"))
def Cls.get {K:Fg} {C:Addr} (c:Cls K C) (f:Str):PySem.W.plainGet K C f=true:=c.pg
def bp (K:Fg) (C:Addr) (f:Str):Prop:=PySem.W.findIn K (.ref C) f=some none
def bp.taker {K:Fg} {C:Addr} {f:Str} (n:bp K C f):PySem.W.takerIn K C f=some none:=by
 unfold PySem.W.takerIn;rw[show PySem.W.findIn K (.ref C) f=some none from n];rfl
structure sZ (K:Fg) (C:Addr) (m:Str) (f:Addr):Prop where
  at_:PySem.W.findIn K (.ref C) m=some (some (.ref f))
  fn:PySem.W.isFn K (.ref f)=true
  kp:PySem.W.keepIn K (.ref f)=true
section
variable {X:Cx} {pins:AOs} {σ:St} {H:Hp} {s:Shared} {a C dx:Addr} {fs:List (Str×V)} {f:Str} {v:V} {A:Around} {E:VSP}
def iW {b:Bool} {Q:VSP} (I:Inv X pins σ H s) (e:H a=some (.ins C dx fs)) (c:Cls X.K C) (n:bp X.K C f) (l:fs.lookup f=some v)
 (h:∀ u s',Inv X pins σ H s'->b7 v u->Q u s'):wpAny (model X.prog X.w) A (getAttr (.ref a) f b) Q E s:=by
 obtain⟨mA,O,r,_,_,_⟩:=gE I.hok e;obtain⟨u,hu,ru⟩:=fH.some_of (v:=v) (o:=mA f) (by rw[<- l];exact r f);exact uQ I.kIn O (c.get f) c.hd n hu (pQ ru) (h u _ (I.tok _) ru)
def iV {m:Str} {g:Addr} {pl:Sem Bool} {Q:Value×List Value->Shared->Prop} (I:Inv X pins σ H s) (e:H a=some (.ins C dx fs)) (c:Cls X.K C) (k:sZ X.K C m g) (l:fs.lookup m=none)
 (h:Q (.ref g,[.ref a]) s):wpAny (model X.prog X.w) A (getMethod (.ref a) m pl) Q E s:=by
 obtain⟨mA,O,r,_,_,_⟩:=gE I.hok e;have hn:mA m=none:=fH.none_of (by rw[<- l];exact r m);exact sn I.kIn O (c.get m) k.at_ k.fn hn h
def iG {y:V} {u:Value} {Q:Unit->Shared->Prop} (I:Inv X pins σ H s) (e:H a=some (.ins C dx fs)) (c:Cls X.K C) (n:bp X.K C f) (hl:fs.length<1000) (ry:b7 y u)
 (h:∀ s',Inv X pins σ (upd H a (.ins C dx (cQ f y fs))) s'->Q () s'):wpAny (model X.prog X.w) A (setAttr (.ref a) f u) Q E s:=by
 obtain⟨mA,O,r,wi,_,ho⟩:=gE I.hok e;have hz:(fs.map (·.1)).length<=sizeLine:=by rw[lMp,sizeLine_eq];lia
 refine uj I.kIn O c.sa c.po n.taker c.hd wi hz λh' O' sb=>h _ ?_;have hd:∃ o,h'.get? dx=some o:=let ⟨o,_,_,e',_⟩:=O'.ns;⟨o,e'⟩;refine I.write (x:=a) (e:=dx) (by rw[e];exact True.intro) (.inr ho) (λb q hb z=>(sb.2 b hb).trans z) hd ?_;refine⟨by rw[af O.ne];exact ho,?_,O.ne,O'.obj,_,O'.ns,λg=>?_,λg hg=>?_⟩
 · have:=ib f y fs;lia
 · show fH ((cQ f y fs).lookup g) (if g=f then some u else mA g);rw[ia];by_cases q:g=f
   · rw[if_pos q,if_pos q];exact ry
   · rw[if_neg q,if_neg q];exact r g
 · by_cases q:g=f
   · rw[q];exact (i5 f y fs).1
   · refine (i5 f y fs).2 g (wi g λz=>hg ?_);show (if g=f then some u else mA g)=none;rw[if_neg q];exact z
def Inv.made (I:Inv X pins σ H s):Inv X pins σ (upd (upd H s.heap.objs.size (.own (s.heap.objs.size+1))) (s.heap.objs.size+1) (.ins C s.heap.objs.size []))
 {s with heap:=(s.heap.push PySem.W.emptyDict).push (PySem.W.instObj C s.heap.objs.size)}:=by
 have e1:(s.heap.push PySem.W.emptyDict).get? s.heap.objs.size=some PySem.W.emptyDict:=Heap.get?_push_size s.heap rfl;have e2:((s.heap.push PySem.W.emptyDict).push (PySem.W.instObj C s.heap.objs.size)).get? (s.heap.objs.size+1)=some (PySem.W.instObj C s.heap.objs.size):=by
  have:=Heap.get?_push_size (s.heap.push PySem.W.emptyDict) (o:=PySem.W.instObj C s.heap.objs.size) rfl
  rwa [Heap.size_push] at this
 have e3:(s.heap.push PySem.W.emptyDict).Ns s.heap.objs.size (λ_=>none):=⟨PySem.W.emptyDict,#[],_,e1,U,(λe he=>absurd he (by simp)),λ_=>rfl⟩;have I1:=I.laid (a:=s.heap.objs.size) (o:=.own (s.heap.objs.size+1)) (h':=s.heap.push PySem.W.emptyDict) (t':=s.toks) (λb u q=>hpS _ q) (Nat.le_refl _) ⟨_,e1⟩;refine I1.laid (a:=s.heap.objs.size+1) (o:=.ins C s.heap.objs.size []) (t':=s.toks) (λb u q=>hpS _ q) (Nat.le_of_eq (Heap.size_push _ _)) ?_;have ne:s.heap.objs.size≠s.heap.objs.size+1:=Nat.ne_of_lt (Nat.lt_succ_self _);refine⟨by rw[af ne,pE],Nat.zero_le _,ne,e2,λ_=>none,(Heap.Ns1.of_empty e3).at λo q=>hpS _ q,λ_=>True.intro,λy hy=>absurd U hy⟩
def vt {prog:Program} {w:World} {env:Env} {e:Expr} {f:Str} {pos:Pos} {s:Shared} {Q:VSP} (hb:attributeBase e f env (eval e env)=eval e env)
 (h:wpAny (model prog w) A (eval e env) (λo s₁=>wpAny (model prog w) A (getAttr o f true) Q E s₁) E s):wpAny (model prog w) A (eval (.Attribute e f pos) env) Q E s :=
 Attribute_any_ h (by rw[arm_eval_Attribute,hb])
end
def Cc (K:Fg) (ta:TE) (f:Str):TE:=λσ H Q=>ta σ H λx H1=>∃ a C dx fs v,x=.ref a/\H1 a=some (.ins C dx fs)/\Cls K C/\bp K C f/\fs.lookup f=some v/\Q v H1
def Ci (K:Fg) (ta tv:TE) (f:Str):TS:=λD σ H=>tv σ H λy H1=>ta σ H1 λx H2=>∃ a C dx fs,x=.ref a/\H2 a=some (.ins C dx fs)/\Cls K C/\bp K C f/\fs.length<1000 /\
  D.nx σ (upd H2 a (.ins C dx (cQ f y fs)))
def BO (X:Cx) (op:Operator) (rd:V->V->Hp->VK->Prop):Prop :=
  ∀ (pins:AOs) (s:Shared) (σ:St) (H:Hp) (x y:V) (u v:Value) (Q:VK),Inv X pins σ H s->b7 x u->b7 y v->rd x y H Q->wpAny (model X.prog X.w) X.A (inplaceOp op u v) (EP X pins σ Q) X.xe s
def ut (K:Fg) (ta tv:TE) (rd:V->V->Hp->VK->Prop) (f:Str):TS:=λD σ H=>ta σ H λx H1=>∃ a C dx fs v,x=.ref a/\H1 a=some (.ins C dx fs)/\Cls K C/\bp K C f/\fs.lookup f=some v /\
  tv σ H1 λy H2=>rd v y H2 λz H3=>∃ dx' fs',H3 a=some (.ins C dx' fs')/\fs'.length<1000/\D.nx σ (upd H3 a (.ins C dx' (cQ f z fs')))
section
variable {X:Cx} {o e value:Expr} {f:Str} {pos pos' tpos:Pos} {ta tv:TE}
def bS (he:PE X e ta) (hb:attributeBase e f X.env (eval e X.env)=eval e X.env):PE X (.Attribute e f pos) (Cc X.K ta f):=by
 intro pins s σ H Q I h;refine vt hb (thn (he pins s σ H _ I h) λu s1 zy57=>?_);obtain⟨x,H1,I1,rx,a,C,dx,fs,v,ex,ea,c,n,l,q⟩:=zy57;subst ex;obtain rfl:u=Value.ref a:=rx;exact iW I1 ea c n l λu' s2 I2 ru=>⟨v,H1,I2,ru,q⟩
def cY (ha:PE X o ta) (hv:PE X value tv) (hs:swapsWith value (some (.Attribute o f pos')) pos.line X.env=pure false):PS X (.Assign [.Attribute o f pos'] value pos) (Ci X.K ta tv f):=by
 intro pins s σ H D I h;refine plainObj_wpAny_Assign_Attribute (thn (hv pins s σ H _ I h) λu s1 zy59=>?_) hs;obtain⟨y,H1,I1,ry,q⟩:=zy59;refine thn (ha pins s1 σ H1 _ I1 q) λov s2 zy60=>?_;obtain⟨x,H2,I2,rx,a,C,dx,fs,ex,ea,c,n,l,q2⟩:=zy60;subst ex;obtain rfl:ov=Value.ref a:=rx;exact iG I2 ea c n l ry λs3 I3=>⟨σ,_,I3,q2⟩
def p5 {op:Operator} {rd:V->V->Hp->VK->Prop} (ha:PE X o ta) (hv:PE X value tv) (hop:BO X op rd):PS X (.AugAssign (.Attribute o f tpos) op value pos) (ut X.K ta tv rd f):=by
 intro pins s σ H D I h;refine wpAny_AugAssign_AttributeAny (thn (ha pins s σ H _ I h) λov s1 zy61=>?_);obtain⟨x,H1,I1,rx,a,C,dx,fs,v,ex,ea,c,n,l,q⟩:=zy61;subst ex;obtain rfl:ov=Value.ref a:=rx;refine iW I1 ea c n l λu s2 I2 ru=>thn (hv pins s2 σ H1 _ I2 q) λw3 s3 zy62=>?_;obtain⟨y,H2,I3,ry,q3⟩:=zy62;refine thn (hop pins s3 σ H2 v y u w3 _ I3 ru ry q3) λw4 s4 zy63=>?_;obtain⟨z,H3,I4,rz,dx',fs',ea',l',q4⟩:=zy63;exact iG I4 ea' c n l' rz λs5 I5=>⟨σ,_,I5,q4⟩
def Cv:V->V->Hp->VK->Prop:=λx y H Q=>∃ i j,x=.int i/\y=.int j/\Q (.int (i-j)) H
def yq:BO X .Sub Cv:=by
 rintro pins s σ H x y u v Q I rx ry ⟨i,j,rfl,rfl,q⟩;obtain⟨t,rfl⟩:=(show ∃ t,u=Value.int i t from rx);obtain⟨t',rfl⟩:=(show ∃ t',v=Value.int j t' from ry);exact PyProof.Rows.isub_int ⟨.int (i-j),H,I.tok _,⟨_,U⟩,q⟩
end
section
variable {X:Cx} {pins:AOs} {σ:St} {H:Hp} {s:Shared} {A:Around} {E:VSP} {Q:VSP} {c:Value} {b:Bool}
inductive im (K:Fg) (H:Hp):V->Value->Prop where
  | non:im K H .non (.type "NoneType")
  | bl (x:Bool):im K H (.bl x) (.type "bool")
  | int (i:Int):im K H (.int i) (.type "int")
  | str (x:Str):im K H (.str x) (.type "str")
  | flt (x:UInt64):im K H (.flt x) (.type "float")
  | lst {a:Addr} {xs:List V} (e:H a=some (.lst xs)):im K H (.ref a) (.type "list")
  | frz {a:Addr} {o:Obj} {xs:List V} (e:H a=some (.frz o (.lst xs))):im K H (.ref a) (.type "list")
  | tup {a:Addr} {xs:List V} (e:H a=some (.tup xs)):im K H (.ref a) (.type "tuple")
  | dK {a:Addr} {kvs:List (Key×V)} (e:H a=some (.dK kvs)):im K H (.ref a) (.type "dict")
  | dT {a:Addr} {kvs:List (List Key×V)} (e:H a=some (.dT kvs)):im K H (.ref a) (.type "dict")
  | ins {a C dx:Addr} {fs:List (Str×V)} (e:H a=some (.ins C dx fs)) (cl:Cls K C) (ha:PySem.W.findIn K (.ref C) "__class__"=some (some (.builtin "object.__class__")))
      (hn:PySem.W.specialIn K (.builtin "object.__class__") "__get__"=some (some (.builtin "getset_descriptor.__get__"))) (htk:PySem.W.takesIn K (.builtin "object.__class__")=some true)
      (hm:PySem.W.mroIn K C (.type "object")=some true):im K H (.ref a) (.ref C)
def fN {x:V} {u t:Value} (I:Inv X pins σ H s) (rx:b7 x u) (ty:im X.K H x t) (e:PySem.W.kitOne X.K t c=some b) (h:∀ tk,Q (.bool b) {s with toks:=tk}) :
 wpAny (model X.prog X.w) A (call (.builtin "isinstance") [u,c]) Q E s:=by
 cases ty with
 | non=>cases (show u=Value.none from rx);exact PySem.W.kia_one PySem.W.kitx_none I.kIn True.intro e (λz=>nomatch z) h
 | bl y=>cases (show u=Value.bool y from rx);exact PySem.W.kia_one PySem.W.kitx_bool I.kIn True.intro e (λz=>nomatch z) h
 | int i=>obtain⟨t,q⟩:=(show ∃ t,u=Value.int i t from rx);cases q;exact PySem.W.kia_one PySem.W.kitx_int I.kIn True.intro e (λz=>nomatch z) h
 | str y=>obtain⟨t,q⟩:=(show ∃ t,u=Value.str y t from rx);cases q;exact PySem.W.kia_one PySem.W.kitx_str I.kIn True.intro e (λz=>nomatch z) h
 | flt y=>obtain⟨t,q⟩:=(show ∃ t,u=Value.float y t from rx);cases q;exact PySem.W.kia_one PySem.W.kitx_float I.kIn True.intro e (λz=>nomatch z) h
 | @lst a xs ea =>
  cases (show u=Value.ref a from rx);obtain⟨_,_,n,_,h1⟩:=(show bQ X.prog X.w H s.heap a (.lst xs) from I.hok a _ ea);exact PySem.W.kia_one PySem.W.kitx_list I.kIn ⟨_,h1,U⟩ e (λz=>nomatch z) h
 | @frz a ob xs ea =>
  cases (show u=Value.ref a from rx);obtain⟨_,_,_,n,_,h1⟩:=(show bQ X.prog X.w H s.heap a (.frz ob (.lst xs)) from I.hok a _ ea);exact PySem.W.kia_one PySem.W.kitx_list I.kIn ⟨_,h1,U⟩ e (λz=>nomatch z) h
 | @tup a xs ea =>
  cases (show u=Value.ref a from rx);obtain⟨_,_,_,p⟩:=(show bQ X.prog X.w H s.heap a (.tup xs) from I.hok a _ ea);obtain⟨o,h1,h2,_⟩:=p;exact PySem.W.kia_one PySem.W.kitx_tuple I.kIn ⟨o,h1,h2⟩ e (λz=>nomatch z) h
 | @dK a kvs ea =>
  cases (show u=Value.ref a from rx);obtain⟨_,_,vs,_,p⟩:=(show bQ X.prog X.w H s.heap a (.dK kvs) from I.hok a _ ea);obtain⟨o,es,ep,h1,h2,_⟩:=p;exact PySem.W.kia_one PySem.W.kitx_dict I.kIn ⟨o,h1,h2.1⟩ e (λz=>nomatch z) h
 | @dT a kvs ea =>
  cases (show u=Value.ref a from rx);obtain⟨_,_,xs,_,o,es,ep,h1,h2,_⟩:=(show bQ X.prog X.w H s.heap a (.dT kvs) from I.hok a _ ea);exact PySem.W.kia_one PySem.W.kitx_dict I.kIn ⟨o,h1,h2.1⟩ e (λz=>nomatch z) h
 | @ins a C dx fs ea cl ha hn htk hm =>
  cases (show u=Value.ref a from rx);obtain⟨mA,O,_⟩:=gE I.hok ea;obtain⟨od,J,_⟩:=O.look;exact PySem.W.kia_one (PySem.W.kitx_own (cl.get _) cl.hd ha hn htk hm) I.kIn J e (λz=>nomatch z) h
end
structure cH (k:Nat) (A:Around):Prop where
  hd:A.handled=none
  dp:A.depth+k+5<recursionLimit
  un:A.units+3*k+200<cLine
  gd:A.guards=some []
def cH.mono {j k:Nat} {A:Around} (r:cH k A) (h:j<=k):cH j A:=⟨r.hd,by have:=r.dp;lia,by have:=r.un;lia,r.gd⟩
def cH.deeper {k:Nat} {A:Around} (r:cH (k+1) A) (env:Env):cH k (A.deeper env) :=
 ⟨r.hd,by have:=r.dp;show A.depth+1+k+5<_;lia,by have:=r.un;show A.units+3+3*k+200<_;lia,r.gd⟩
def mN {A:Around} {C:Addr} {us:List Value} {kw:List (Str×Value)}:(A.under (.builtin "type.__call__" ⟨.ref C::us,kw⟩)).depth=A.depth+1:=by
 first | rfl | simp[Around.under,Code.weight,Code.isCreation,Code.isGuard,Code.isCaller,Code.frames,Code.isFrame,guardIds]
def mM {A:Around} {C:Addr} {us:List Value} {kw:List (Str×Value)}:(A.under (.builtin "type.__call__" ⟨.ref C::us,kw⟩)).units=A.units+1:=by
 first | rfl | simp[Around.under,Code.cUnits,Code.frames,Code.isFrame]
def cH.make {k:Nat} {A:Around} (r:cH (k+1) A) (C:Addr) (us:List Value) (kw:List (Str×Value)):cH k (A.under (.builtin "type.__call__" ⟨.ref C::us,kw⟩)) :=
 ⟨r.hd,by have:=r.dp;rw[mN];lia,by have:=r.un;rw[mM];lia,by first | exact r.gd | (show pushGuards _ A.guards=_;rw[r.gd];rfl)⟩
def cH.depth {k:Nat} {A:Around} (r:cH k A):A.depth<recursionLimit:=by have:=r.dp;lia
def cH.units {k:Nat} {A:Around} (r:cH k A):A.units+64<cLine:=by have:=r.un;lia
def gY:TA:=λ_ H Q=>Q [] H
def cV (ta:TE) (tr:TA):TA:=λσ H Q=>ta σ H λx H1=>tr σ H1 λxs H2=>Q (x::xs) H2
section
variable {X:Cx} {e:Expr} {es:List Expr} {te:TE} {t:TA} {pos:Pos}
def pB:PA X [] gY:=λ_ _ _ _ H Q I h=>Calls.spliced_nil ⟨[],H,I,.nil,h⟩
def pA (ha:PE X e te) (hr:PA X es t) (hs:starEach (e::es) X.env=(false,eval e X.env)::starEach es X.env:=by rfl):PA X (e::es) (cV te t):=by
 intro pos pins s σ H Q I h;rw[hs];show wpAny _ _ (spliced ((false,eval e X.env)::backTo pos (starEach es X.env))) _ _ s;refine Calls.spliced_cons (thn (ha pins s σ H _ I h) λu s1 zy65=>?_);obtain⟨x,H1,I1,r1,q1⟩:=zy65;refine thn (hr pos pins s1 σ H1 _ I1 q1) λus s2 zy66=>?_;obtain⟨xs,H2,I2,r2,q2⟩:=zy66;exact⟨x::xs,H2,I2,.cons r1 r2,q2⟩
def mr (t:TA):TE:=λσ H Q=>t σ H λxs H1=>xs.length<=sizeLine/\∀ p,H1 p=none->Q (.ref p) (upd H1 p (.tup xs))
def tZ (t:TA):TE:=λσ H Q=>t σ H λxs H1=>xs.length<=sizeLine/\∀ p,H1 p=none->Q (.ref p) (upd H1 p (.lst xs))
def ax {x1} (h:PA X es t):PE X (.Tuple es x1 pos) (mr t):=by
 intro pins s σ H Q I hq;refine wpAny_Tuple_spliced (thn (h pos pins s σ H _ I hq) λus s1 ⟨xs,H1,I1,r,z,q⟩=>⟨by rw[<- r.length];exact z,?_⟩);have hf:H1 s1.heap.objs.size=none:=I1.hok.fresh (Nat.le_refl _);refine⟨.ref s1.heap.objs.size,upd H1 s1.heap.objs.size (.tup xs),I1.laid (t':=s1.toks) (λb u e=>hpS _ e) (Nat.le_refl _) ?_,U,q _ hf⟩;exact⟨z,us,r,⟨_,Heap.get?_push_size _ U,U,_,U⟩⟩
def bE (h:PA X es t):PE X (.List es pos) (tZ t):=by
 intro pins s σ H Q I hq;refine wpAny_List_spliced (thn (h pos pins s σ H _ I hq) λus s1 ⟨xs,H1,I1,r,z,q⟩=>⟨by rw[<- r.length];exact z,?_⟩);have hf:H1 s1.heap.objs.size=none:=I1.hok.fresh (Nat.le_refl _);refine⟨.ref s1.heap.objs.size,upd H1 s1.heap.objs.size (.lst xs),I1.laid (t':=s1.toks) (λb u e=>hpS _ e) (Nat.le_refl _) ?_,U,q _ hf⟩;exact⟨z,us,0,r,Heap.get?_push_size _ U⟩
end
abbrev Sp:=List V->Hp->VK->XK->Prop
abbrev CXT:=List Env->Hp->Shared->XK->Value->Shared->Prop
structure nC (P:Program) (w:World) (K:Fg) (mg:SOV) (base:Heap) (A:Around) (outer:List Env) (s:Shared) (H:Hp):Prop where
  frames:A.frames=some outer
  mod:Mod K mg base
  bs:∀ b o,base.get? b=some o->s.heap.get? b=some o/\H b=none
  bsz:base.objs.size<=s.heap.objs.size
  funs:s.heap.FunFrames base outer
  frf:∀ b∈frs outer,H b=none
  hok:HOk P w H s.heap
  bare:AllBare s.gens
def CE (outer:List Env) (P:Program) (w:World) (H:Hp) (s:Shared) (Q:VK) (u:Value) (s':Shared):Prop :=
  ∃ v H',s'.os=s.os/\AllBare s'.gens/\Un (frs outer) [] H H' s.heap s'.heap/\HOk P w H' s'.heap/\b7 v u/\Q v H'
def CR (CX:CXT) (outer:List Env) (P:Program) (w:World) (H:Hp) (s:Shared) (Q:VK) (E:XK) (r:Result) (s':Shared):Prop :=
  match r with
  | .ok (.ret u)=>CE outer P w H s Q u s'
  | .ok _=>False
  | .error e=>CX outer H s E e s'
structure eW (P:Program) (w:World) (K:Fg) (mg:SOV) (base:Heap) (CX:CXT) (k:Nat) (f:Addr) (fd:FuncData) (ps:List Str) (sp:Sp):Prop where
  len:∀ vs H Q E,sp vs H Q E->vs.length=ps.length
  run:∀ (A:Around) (outer:List Env) (s:Shared) (H:Hp) (args:Args) (us:List Value) (vs:List V) (Q:VK) (E:XK),cH k A->nC P w K mg base A outer s H->BindsTo s fd args (ps.zip us)->aT vs us->sp vs H Q E ->
    codeAny (model P w) A (.call (.ref f) args) (CR CX outer P w H s Q E) s
def nC.make {P:Program} {w:World} {K:Fg} {mg:SOV} {base:Heap} {A:Around} {outer:List Env} {s:Shared} {H:Hp} (e:nC P w K mg base A outer s H) (C:Addr) (us:List Value) (kw:List (Str×Value)) :
 nC P w K mg base (A.under (.builtin "type.__call__" ⟨.ref C::us,kw⟩)) outer s H:=⟨by first | exact e.frames | (simpa [Around.under,Code.envs,Code.isFrame,pushEnvs] using e.frames),e.mod,e.bs,e.bsz,e.funs,e.frf,e.hok,e.bare⟩
section
variable {X:Cx} {pins:AOs} {σ:St} {H:Hp} {s s':Shared}
def Inv.env0 (I:Inv X pins σ H s):nC X.prog X.w X.K X.mg X.base X.A X.stack s H :=
 ⟨I.ok.frames,I.ok.mod,I.bs,Nat.le_trans I.ok.bsz I.sz,I.stack,I.stkFree,I.hok,I.bare⟩
def Inv.after {Q:VK} {u:Value} (I:Inv X pins σ H s) (h:CE X.stack X.prog X.w H s Q u s'):EP X pins σ Q u s':=by
 obtain⟨v,H',os,bare,un,hok,r,q⟩:=h;obtain⟨hh,g,d,t,os'⟩:=s';obtain rfl:os'=s.os:=os;exact⟨v,H',I.call (h':=hh) (g':=g) (d':=d) (t':=t) (ch:=[]) un hok bare (λb z=>absurd z (by simp)),r,q⟩
end
def kW (sp:Sp) (dvs:List V) (E:XK) (t:TA):TE:=λσ H Q=>t σ H λvs H1=>sp (vs++dvs) H1 Q E
def nK (C:Addr) (m:Str) (sp:Sp) (dvs:List V) (E:XK) (ta:TE) (t:TA):TE:=λσ H Q=>ta σ H λx H1=>∃ a dx fs,x=.ref a/\H1 a=some (.ins C dx fs)/\fs.lookup m=none /\
  t σ H1 λvs H2=>sp (x::(vs++dvs)) H2 Q E
def vI (C:Addr) (sp:Sp) (dvs:List V) (E:XK) (t:TA):TE:=λσ H Q=>t σ H λvs H1=>∀ x dx,H1 x=none->H1 dx=none->dx≠x ->
  sp (.ref x::(vs++dvs)) (upd (upd H1 dx (.own x)) x (.ins C dx [])) (λv H2=>v=.non/\Q (.ref x) H2) E
def dO (K:Fg) (fd:FuncData) (ps:List Str) (ds:List Value):Prop :=
  ∀ (s:Shared) (us:List Value),K.In s.heap->(us++ds).length=ps.length->BindsTo s fd ⟨us,[]⟩ (ps.zip (us++ds))
def dO.all {K:Fg} {fd:FuncData} {ps:List Str} (h:∀ us:List Value,us.length=ps.length->bindArgs fd ⟨us,[]⟩=pure (ps.zip us)):dO K fd ps []:=λs us _ hl=>by
 rw[List.append_nil] at hl ⊢;exact .of_eq (h us hl)
def gl (CX:CXT) (X:Cx) (E:XK):Prop:=∀ (pins:AOs) (σ:St) (H:Hp) (s:Shared) (e:Value) (s':Shared),Inv X pins σ H s->CX X.stack H s E e s'->X.xe e s'
section
variable {X:Cx} {CX:CXT} {k:Nat} {f C:Addr} {fd:FuncData} {ps:List Str} {sp:Sp} {dvs:List V} {ds:List Value} {E:XK} {x m:Str} {p pos apos:Pos} {e o:Expr} {es:List Expr} {ta:TE} {t:TA}
def jL {pins:AOs} {σ:St} {H:Hp} {s:Shared} {Q:VK} {us:List Value} {vs:List V} (F:eW X.prog X.w X.K X.mg X.base CX k f fd ps sp) (hr:cH k X.A) (hb:dO X.K fd ps ds) (hd:aT dvs ds) (hx:gl CX X E)
 (I:Inv X pins σ H s) (r:aT vs us) (h:sp (vs++dvs) H Q E):wpAny (model X.prog X.w) X.A (call (.ref f) us) (EP X pins σ Q) X.xe s:=by
 have r2:aT (vs++dvs) (us++ds):=r.append hd;have hl:(us++ds).length=ps.length:=by rw[<- r2.length];exact F.len _ _ _ _ h
 refine wpAny_call (codeAny_mono (F.run X.A X.stack s H ⟨us,[]⟩ (us++ds) (vs++dvs) Q E hr I.env0 (hb s us I.kIn hl) r2 h) λr s' hq=>?_);cases r with
 | error e=>exact hx pins σ H s e s' I hq
 | ok fl =>
  cases fl with
  | ret u=>exact I.after hq
  | _=>exact False.elim hq
def uC (F:eW X.prog X.w X.K X.mg X.base CX k f fd ps sp) (hr:cH k X.A) (hg:Gl X x) (hm:X.mg x=some (.ref f)) (hk:PySem.W.keepIn X.K (.ref f)=true) (hb:dO X.K fd ps ds) (hd:aT dvs ds) (hx:gl CX X E)
 (ha:PA X (e::es) t) (hdb:(x==("__debug__":Str))=false:=by decide) (he:starEach (e::es) X.env=(false,eval e X.env)::starEach es X.env:=by rfl) (hpl:(backTo pos (starEach es X.env)).any (·.1)=false:=by rfl) :
 PE X (.Call (.Name x p) (e::es) [] pos) (kW sp dvs E t):=by
 intro pins s σ H Q I h;refine wpAny_Call_Name_kw (jU I hg hm ?_ hdb);refine PySem.W.callWith_K (h₀:=X.base) I.ok.mod.kin hk (thn (ha pos pins s σ H _ I h) λus s1 zy67=>?_) he hpl;obtain⟨vs,H1,I1,r,q⟩:=zy67;refine⟨I1.kIn,?_⟩;exact jL F hr hb hd hx I1 r q
def uA {pl:Sem Bool} (he:PE X o ta) (c:Cls X.K C) (hm:sZ X.K C m f) (F:eW X.prog X.w X.K X.mg X.base CX k f fd ps sp) (hr:cH k X.A) (hb:dO X.K fd ps ds) (hd:aT dvs ds) (hx:gl CX X E) (ha:PA X (e::es) t)
 (hst:starEach (e::es) X.env=(false,eval e X.env)::starEach es X.env:=by rfl) (hpl:(backTo pos (starEach es X.env)).any (·.1)=false:=by rfl)
 (ht:eval (.Call (.Attribute o m apos) (e::es) [] pos) X.env=(do
   let ov <- eval o X.env
   standAt apos.atName
   let (f,first) <- holding [ov] (getMethod ov m pl)
   callWith pos f first (backTo pos (starEach (e::es) X.env)) (backToKw pos (keywordEach [] X.env))):=by rfl) :
 PE X (.Call (.Attribute o m apos) (e::es) [] pos) (nK C m sp dvs E ta t):=by
 intro pins s σ H Q I h;refine PySem.W.methodCall_KW (pl:=pl) (thn (he pins s σ H _ I h) λu s1 zy68=>?_) ht;obtain⟨x,H1,I1,rx,a,dx,fs,ex,ea,l,q⟩:=zy68;subst ex;obtain rfl:u=Value.ref a:=rx;refine iV I1 ea c hm l ?_;refine PySem.W.callWith_K (first:=[.ref a]) (h₀:=X.base) I.ok.mod.kin hm.kp (thn (ha pos pins s1 σ H1 _ I1 q) λus s2 zy69=>?_) hst hpl;obtain⟨vs,H2,I2,r,q2⟩:=zy69;refine⟨I2.kIn,?_⟩;exact jL (us:=.ref a::us) (vs:=.ref a::vs) F hr hb hd hx I2 (.cons U r) q2
def rB {pl:Sem Bool} (he:PE X o ta) (c:Cls X.K C) (hm:sZ X.K C m f) (F:eW X.prog X.w X.K X.mg X.base CX k f fd ps sp) (hr:cH k X.A) (hb:dO X.K fd ps ds) (hd:aT dvs ds) (hx:gl CX X E)
 (ht:eval (.Call (.Attribute o m apos) [] [] pos) X.env=(do
   let ov <- eval o X.env
   standAt apos.atName
   let (f,first) <- holding [ov] (getMethod ov m pl)
   callWith pos f first (backTo pos (starEach [] X.env)) (backToKw pos (keywordEach [] X.env))):=by rfl) :
 PE X (.Call (.Attribute o m apos) [] [] pos) (nK C m sp dvs E ta gY):=by
 intro pins s σ H Q I h;refine PySem.W.methodCall_KW (pl:=pl) (thn (he pins s σ H _ I h) λu s1 zy70=>?_) ht;obtain⟨x,H1,I1,rx,a,dx,fs,ex,ea,l,q⟩:=zy70;subst ex;obtain rfl:u=Value.ref a:=rx;refine iV I1 ea c hm l ?_;exact PySem.W.callWith_K0 (first:=[.ref a]) I1.kIn hm.kp (jL (us:=[.ref a]) (vs:=[.ref a]) F hr hb hd hx I1 (.cons U .nil) q)
structure Mk (K:Fg) (C f:Addr):Prop where
  makes:PySem.W.makesIn K C=true
  init:PySem.W.findIn K (.ref C) "__init__"=some (some (.ref f))
  fn:PySem.W.isFn K (.ref f)=true
  kp:PySem.W.keepIn K (.ref C)=true
def qM {pins:AOs} {σ:St} {H:Hp} {s:Shared} {Q:VK} {us:List Value} {vs:List V} (M:Mk X.K C f) (F:eW X.prog X.w X.K X.mg X.base CX k f fd ps sp) (hr:cH (k+1) X.A) (hb:dO X.K fd ps ds) (hd:aT dvs ds)
 (hx:gl CX X E) (I:Inv X pins σ H s) (r:aT vs us)
 (h:∀ x dx,H x=none->H dx=none->dx≠x->sp (.ref x::(vs++dvs)) (upd (upd H dx (.own x)) x (.ins C dx [])) (λv H2=>v=.non/\Q (.ref x) H2) E) :
 wpAny (model X.prog X.w) X.A (call (.ref C) us) (EP X pins σ Q) X.xe s:=by
 have hq:=h (s.heap.objs.size+1) s.heap.objs.size (I.hok.fresh (Nat.le_succ _)) (I.hok.fresh (Nat.le_refl _)) (Nat.ne_of_lt (Nat.lt_succ_self _));have I2:=Inv.made (C:=C) I;have r2:aT (V.ref (s.heap.objs.size+1)::(vs++dvs)) (Value.ref (s.heap.objs.size+1)::(us++ds)):=.cons rfl (r.append hd);have hl:(Value.ref (s.heap.objs.size+1)::us++ds).length=ps.length:=by
  have e:=r2.length;rw[F.len _ _ _ _ hq] at e;exact e.symm
 refine wpAny_call (rN (f:=f) I.kIn M.makes M.init (beq_iff_eq.mp M.fn) (codeAny_mono (F.run _ X.stack _ _ ⟨Value.ref (s.heap.objs.size+1)::us,[]⟩ (Value.ref (s.heap.objs.size+1)::(us++ds)) _ _ E (hr.make C us [])
   (I2.env0.make C us []) (hb _ (Value.ref (s.heap.objs.size+1)::us) I2.kIn hl) r2 hq) λr s' hq'=>?_))
 cases r with
 | error e=>exact hx pins σ _ _ e s' I2 hq'
 | ok fl =>
  cases fl with
  | ret u =>
   obtain⟨v,H',I3,rv,ev,q3⟩:=I2.after hq';subst ev;exact⟨rv,⟨V.ref (s.heap.objs.size+1),H',I3,U,q3⟩⟩
  | _=>exact False.elim hq'
def uB (M:Mk X.K C f) (F:eW X.prog X.w X.K X.mg X.base CX k f fd ps sp) (hr:cH (k+1) X.A) (hg:Gl X x) (hm:X.mg x=some (.ref C)) (hb:dO X.K fd ps ds) (hd:aT dvs ds) (hx:gl CX X E)
 (ha:PA X (e::es) t) (hdb:(x==("__debug__":Str))=false:=by decide) (he:starEach (e::es) X.env=(false,eval e X.env)::starEach es X.env:=by rfl) (hpl:(backTo pos (starEach es X.env)).any (·.1)=false:=by rfl) :
 PE X (.Call (.Name x p) (e::es) [] pos) (vI C sp dvs E t):=by
 intro pins s σ H Q I h;refine wpAny_Call_Name_kw (jU I hg hm ?_ hdb);refine PySem.W.callWith_K (h₀:=X.base) I.ok.mod.kin M.kp (thn (ha pos pins s σ H _ I h) λus s1 zy71=>?_) he hpl;obtain⟨vs,H1,I1,r,q⟩:=zy71;refine⟨I1.kIn,?_⟩;exact qM M F hr hb hd hx I1 r q
end
section
variable {X:Cx} {CX:CXT} {k:Nat} {f C:Addr} {fd:FuncData} {ps ks:List Str} {sp:Sp} {E:XK} {x m:Str} {p pos apos kpos:Pos} {e o:Expr} {es:List Expr} {kws:List Keyword} {te ta:TE} {t tk:TA} {nm:Option Str}
variable {g:List Value->List Value->List Value} {gV:List V->List V->List V}
end
structure bv (N P:List Str) (sc:Scope):Prop where
  kind:sc.kind=.function
  co:sc.isCoroutine=false
  gen:sc.isGenerator=false
  nd:N.Nodup
  pre:N.take P.length=P
  par:∀ x∈P,sc.names.lookup x=some .local\/sc.names.lookup x=some .cell
  nofree:∀ y∈sc.names,y.2≠.free
def fsM {N P:List Str} {sc:Scope} (a:sc.kind=.function:=by rfl) (b:sc.isCoroutine=false:=by rfl) (c:sc.isGenerator=false:=by rfl) (d:N.Nodup:=by left) (e:N.take P.length=P:=by rfl) (f:∀ x∈P,sc.names.lookup x=some .local\/sc.names.lookup x=some .cell:=by left) (g:∀ y∈sc.names,y.2≠.free:=by left):bv N P sc:=⟨a,b,c,d,e,f,g⟩
def jB {kindOf:Str->Option NameKind} {x:Str}:∀ {binds:List (Str×Value)} {m:SOV},(∀ v,(x,v)∉binds)->bindL kindOf binds m x=m x
 | [],_,_=>rfl
 | (n,v)::r,m,h=>by
  unfold bindL;rw[jB λw hw=>h w (mCM _ hw)];split
  · have:x≠n:=by rintro rfl;exact h v mCS
    simp[this]
  · rfl
def jD {kindOf:Str->Option NameKind} {x:Str}:∀ {binds:List (Str×Value)} {m:SOV},(∀ v,(x,v)∉binds)->bindC kindOf binds m x=m x
 | [],_,_=>rfl
 | (n,v)::r,m,h=>by
  unfold bindC;rw[jD λw hw=>h w (mCM _ hw)];split
  · rfl
  · have:x≠n:=by rintro rfl;exact h v mCS
    simp[this]
def jC {kindOf:Str->Option NameKind} {x:Str} {v:Value}:∀ {P:List Str} {vs:List Value} {i:Nat} {m:SOV},P.Nodup->P[i]?=some x->vs[i]?=some v->kindOf x=some .local ->
 bindL kindOf (P.zip vs) m x=some v
 | [],_,_,_,_,h,_,_=>by simp at h
 | _::_,[],_,_,_,_,h,_=>by simp at h
 | p::P,w::vs,0,m,nd,h1,h2,hk=>by
  simp at h1 h2;subst h1;subst h2;show bindL kindOf ((p,w)::P.zip vs) m p=_;unfold bindL;rw[jB λv hv=>(List.nodup_cons.mp nd).1 (List.of_mem_zip hv).1,if_pos hk];simp
 | p::P,w::vs,i+1,m,nd,h1,h2,hk=>by
  show bindL kindOf ((p,w)::P.zip vs) m x=_;unfold bindL;exact jC (i:=i) (List.nodup_cons.mp nd).2 (by simpa using h1) (by simpa using h2) hk
def jE {kindOf:Str->Option NameKind} {x:Str} {v:Value}:∀ {P:List Str} {vs:List Value} {i:Nat} {m:SOV},P.Nodup->P[i]?=some x->vs[i]?=some v->kindOf x≠some .local ->
 bindC kindOf (P.zip vs) m x=some v
 | [],_,_,_,_,h,_,_=>by simp at h
 | _::_,[],_,_,_,_,h,_=>by simp at h
 | p::P,w::vs,0,m,nd,h1,h2,hk=>by
  simp at h1 h2;subst h1;subst h2;show bindC kindOf ((p,w)::P.zip vs) m p=_;unfold bindC;rw[jD λv hv=>(List.nodup_cons.mp nd).1 (List.of_mem_zip hv).1,if_neg hk];simp
 | p::P,w::vs,i+1,m,nd,h1,h2,hk=>by
  show bindC kindOf ((p,w)::P.zip vs) m x=_;unfold bindC;exact jE (i:=i) (List.nodup_cons.mp nd).2 (by simpa using h1) (by simpa using h2) hk
def di (N:List Str) (vs:List V):St:=vs.map some++List.replicate (N.length-vs.length) none
def cy (CX:CXT) (P:Program) (w:World) (K:Fg) (mg:SOV) (base:Heap) (N:List Str) (qual:Str) (scope:Scope) (f:Addr) (cd:Value) (A:Around) (outer:List Env) (s:Shared) (H:Hp) (E:XK):Cx where
  prog:=P
  w:=w
  K:=K
  mg:=mg
  base:=base
  A:=A.deeper (envOfC qual scope s.heap.objs.size f cd)
  N:=N
  s₀:=s
  H₀:=H
  env:=envOfC qual scope s.heap.objs.size f cd
  outer:=outer
  stack:=envOfC qual scope s.heap.objs.size f cd::outer
  ex:=[]
  calm:=true
  fn:=λ_=>true
  pn:=[]
  xe:=λe s'=>wpAny (model P w) (A.deeper (envOfC qual scope s.heap.objs.size f cd)) (leaving (envOfC qual scope s.heap.objs.size f cd) e) (λ_ s''=>CX outer H s E e s'') (λe' s''=>CX outer H s E e' s'') s'
def lQ {sc:Scope} {n:Nat} {x:Str} (h:sc.names.lookup x=some .cell):∃ c,(cellsFrom n sc.names []).lookup x=some c:=by
 have q:=PySem.W.cellsFrom_some sc.names n [] (.inl h);exact Option.isSome_iff_exists.mp q
def pO {CX:CXT} {P:Program} {w:World} {K:Fg} {mg:SOV} {base:Heap} {N ps:List Str} {qual:Str} {scope:Scope} {f:Addr} {cd:Value} {A:Around} {outer:List Env} {s s1:Shared} {H:Hp} {E:XK} {us:List Value} {vs:List V}
 (S:bv N ps scope) (hd:A.handled=none) (e0:nC P w K mg base A outer s H) (hl:vs.length=ps.length) (r:aT vs us)
 (x:InCallC s s.heap.objs.size (bindL (envOfC qual scope s.heap.objs.size f cd).kindOf (ps.zip us) λ_=>none) (cellsFrom (s.heap.objs.size+1) scope.names []) (bindC (envOfC qual scope s.heap.objs.size f cd).kindOf (ps.zip us) λ_=>none) s1) :
 Inv (cy CX P w K mg base N qual scope f cd A outer s H E) [] (di N vs) H s1:=by
 have hpl:ps.length<=N.length:=by have:=congrArg List.length S.pre;rw[lTk] at this;lia
 obtain⟨h1,tk,rfl,hk⟩:=x.done;have noA:∀ b:Addr,b∉(cy CX P w K mg base N qual scope f cd A outer s H E).ex:=λb z=>absurd (show b∈([]:List Addr) from z) (by simp);refine⟨⟨e0.mod,S.kind,U,U,Nat.le_refl _,λy z c h1 h2=>?_,λy hy=>?_,λy c _ h=>?_,λ_=>hd,Around.frames_deeper e0.frames,.inr ⟨U,U⟩,λb z=>absurd z (noA b),e0.bs,e0.bsz,λb _ _=>noA b,λb z=>absurd z (noA b),e0.funs,e0.frf⟩,
   rfl,e0.bare,Un.kept hk,⟨_,x.toInCall.ns,λi y v h1 h2 h3=>?_⟩,λy c h=>⟨_,x.cell y c h⟩,e0.hok.fresh (Nat.le_refl _),λy c h=>?_,λp hp=>absurd (show p∈([]:AOs) from hp) (by simp),e0.hok.kept hk,?_⟩
 · exact name_of_addr x.apart (PySem.mem_of_lookup h1) (PySem.mem_of_lookup h2)
 · have hy:scope.names.lookup y=some .cell\/scope.names.lookup y=some .free:=hy
   rcases hy with hy | hy
   · exact lQ hy
   · exact absurd U (S.nofree _ (PySem.mem_of_lookup hy))
 · exact Nat.le_of_lt (x.above y c (PySem.mem_of_lookup h))
 · have hi:i<vs.length:=by
    unfold di at h2;by_cases hi:i<vs.length
    · exact hi
    · rw[List.getElem?_append_right (by simpa using hi)] at h2;rw[List.getElem?_replicate] at h2;split at h2 <;> cases h2
   have ha:vs[i]?=some v:=by
    unfold di at h2;rw[List.getElem?_append_left (by simpa using hi),gEM] at h2;cases e:vs[i]? with
    | none=>rw[e] at h2;cases h2
    | some a=>rw[e] at h2;cases h2;rfl
   obtain⟨u,hu,rv⟩:=r.get ha;have hp:ps[i]?=some y:=by
    rw[<- S.pre,List.getElem?_take_of_lt (by lia)];exact h1
   have ndP:ps.Nodup:=by rw[<- S.pre];exact S.nd.sublist (List.take_sublist _ _)
   refine⟨u,rv,?_⟩
   rcases S.par y (mGE hp) with k | k
   · exact .inl ⟨k,jC ndP hp hu k⟩
   · obtain⟨c,e⟩:=lQ (n:=s.heap.objs.size+1) k;refine .inr ⟨.inl k,c,e,?_⟩;have q:=x.cell y c e;rw[jE ndP hp hu (by show scope.names.lookup y≠_;rw[k];decide)] at q;exact q
 · exact e0.hok.fresh (Nat.le_of_lt (x.above y c (PySem.mem_of_lookup h)))
 · unfold di;show _=N.length;rw[lAp,lMp,List.length_replicate];lia
def By {CX:CXT} {P:Program} {w:World} {K:Fg} {mg:SOV} {base:Heap} {k:Nat} {f:Addr} {name qual:Str} {params:Arguments} {body:List Stmt} {scope:Scope} {dV kV doc pm cdv ct oc:Value} {an od:Option Addr}
 {osl:Array (Option Value)} {N ps:List Str} {sp:Sp} (lk:K.lookup f=some ⟨oc,od,.func (PySem.W.fnOf name qual params body scope dV kV doc pm an cdv ct),osl⟩) (hcd:PySem.W.codeIn K cdv qual=true) (S:bv N ps scope)
 (len:∀ vs H Q E,sp vs H Q E->vs.length=ps.length)
 (hbody:∀ (A:Around) (outer:List Env) (s:Shared) (H:Hp) (vs:List V) (Q:VK) (E:XK),cH k (A.deeper (envOfC qual scope s.heap.objs.size f cdv))->sp vs H Q E ->
   ∃ t,PSs (cy CX P w K mg base N qual scope f cdv A outer s H E) body t/\t {nx:=λ_ H'=>Q .non H',rt:=Q} (di N vs) H) :
 eW P w K mg base CX (k+1) f (PySem.W.fnOf name qual params body scope dV kV doc pm an cdv ct) ps sp:=by
 refine⟨len,λA outer s H args us vs Q E hr e0 hb r hsp=>?_⟩;have hl:=len _ _ _ _ hsp;have KX:K.In s.heap:=e0.mod.kin.keeps λb o e=>(e0.bs b o e).1;have lim:s.heap.NoLimit:=e0.mod.nolimit.keeps λb o e=>(e0.bs b o e).1;have hkind:∀ y∈ps.zip us,scope.names.lookup y.1=some .local\/(scope.names.lookup y.1=some .cell/\((cellsFrom (s.heap.objs.size+1) scope.names []).lookup y.1).isSome=true):=λ⟨n,v⟩ hy=>by
  rcases S.par n (List.of_mem_zip hy).1 with q | q
  · exact .inl q
  · exact .inr ⟨q,PySem.W.cellsFrom_some _ _ _ (.inl q)⟩
 refine codeAny_call_function hr.depth (KX _ _ lk) rfl S.co S.gen U (PySem.W.codeRec_of KX hcd) (hb _ _ _ _ ?_);refine wpAny_newFunctionEnv_cells S.kind hkind λenv he s1 x=>?_;subst he;refine⟨lim.keeps x.toInCall.keep,codeAny_func ?_⟩;obtain⟨t,ht,hq⟩:=hbody A outer s H vs Q E (hr.deeper _) hsp;have I:Inv (cy CX P w K mg base N qual scope f cdv A outer s H E) [] (di N vs) H s1:=pO S hr.hd e0 hl r x;refine wpAny_mono (ht [] s1 (di N vs) H _ I hq) (λfl s' hs=>?_) λe s' hs=>hs;have fin:∀ {σ':St} {H':Hp} {v:V} {u:Value},Inv (cy CX P w K mg base N qual scope f cdv A outer s H E) [] σ' H' s'->b7 v u->Q v H'->CE outer P w H s Q u s' :=
  λ{σ' H' v u} J rv q=>⟨v,H',J.os,J.bare,J.base,J.hok,rv,q⟩
 cases fl with
 | ret u =>
  obtain⟨v,σ',H',J,rv,q⟩:=hs;exact fin J rv q
 | next =>
  obtain⟨σ',H',J,q⟩:=hs;exact fin (v:=V.non) (u:=Value.none) J U q
 | brk =>
  obtain⟨_,_,_,q⟩:=hs;exact False.elim q
 | cont =>
  obtain⟨_,_,_,q⟩:=hs;exact False.elim q
section
variable {X:Cx} {x:Str} {p pos:Pos} {e:Expr} {es:List Expr} {t:TA} {id T:String} {r:List V->Hp->VK->Prop}
def tCB (r:List V->Hp->VK->Prop) (t:TA):TE:=λσ H Q=>t σ H λvs H1=>r vs H1 Q
def iO (hc:ga X (.builtin id) r) (hg:Gl X x) (hm:X.mg x=none) (hv:bootBuiltins x=some (.builtin id)) (ha:PA X (e::es) t) (hn:x≠"__name__":=by decide) (hdb:(x==("__debug__":Str))=false:=by decide)
 (he:starEach (e::es) X.env=(false,eval e X.env)::starEach es X.env:=by rfl) (hpl:(backTo pos (starEach es X.env)).any (·.1)=false:=by rfl):PE X (.Call (.Name x p) (e::es) [] pos) (tCB r t):=by
 intro pins s σ H Q I h;refine wpAny_Call_Name_kw (dW I hg hm hv ?_ hn hdb);refine PyProof.Rows.callWith_builtin1 (thn (ha pos pins s σ H _ I h) λus s1 zy76=>?_) he hpl;obtain⟨vs,H1,I1,r1,q1⟩:=zy76;exact hc pins s1 σ H1 vs us Q I1 r1 q1
def dZ (hc:ga X (.type T) r) (hg:Gl X x) (hm:X.mg x=none) (hv:bootBuiltins x=some (.type T)) (ha:PA X (e::es) t) (hn:x≠"__name__":=by decide) (hdb:(x==("__debug__":Str))=false:=by decide)
 (he:starEach (e::es) X.env=(false,eval e X.env)::starEach es X.env:=by rfl) (hpl:(backTo pos (starEach es X.env)).any (·.1)=false:=by rfl):PE X (.Call (.Name x p) (e::es) [] pos) (tCB r t):=by
 intro pins s σ H Q I h;refine wpAny_Call_Name_kw (dW I hg hm hv ?_ hn hdb);refine PyProof.Rows.callWith_type1 (thn (ha pos pins s σ H _ I h) λus s1 zy77=>?_) he hpl;obtain⟨vs,H1,I1,r1,q1⟩:=zy77;exact hc pins s1 σ H1 vs us Q I1 r1 q1
end
end L2
namespace HT
open PySem PyProof.Rows
section
open PySem.SeqAt
open PySem.AutoSeq1 (wpAny_loadPart')
open PySem.MeetsSeq PySem.MeetsSeq2 PySem.MeetsSeq3
end
section
variable {prog:Program} {w:World} {A:Around} {E:VSP} {s:Shared}
def vp {t b:Addr} {vs ws:List Value} {Q:VSP} (ht:IsTup s.heap t vs.toArray) (hb:IsTup s.heap b ws.toArray) (hv:vs≠[])
 (h1:ws=[]->Q (.ref t) s) (h2:ws≠[]->Q (.ref s.heap.objs.size) {s with heap:=s.heap.push {cls:=.type "tuple",data:=.seq (vs++ws).toArray}})
 (hsz:vs.length+ws.length<=sizeLine):wpAny (model prog w) A (binaryOp .Add (.ref t) (.ref b)) Q E s:=by
 obtain⟨⟨cls,dd,data,sl⟩,ho,hc,n,hd⟩:=id ht;obtain⟨⟨cls2,dd2,data2,sl2⟩,ho2,hc2,n2,hd2⟩:=id hb;simp only at hc hd hc2 hd2;subst hc hd hc2 hd2;have e:vs.toArray++ws.toArray=(vs++ws).toArray:=by simp
 by_cases hw:ws=[]
 · exact concat_meets ⟨_,ho,U⟩ ⟨_,ho2,U⟩ noFill_tuple_add seq_tuple_add PySem.F.slot_tuple_add PySem.F.entry_tuple_add (PySem.F.args_tuple_add_2 _ _)
    (tuple_addW1 t b vs.toArray ws.toArray n n2 dd dd2 sl sl2 (by simpa using hv) (by simp[hw])) ⟨ho,ho2,h1 hw⟩
 · refine concat_meets ⟨_,ho,U⟩ ⟨_,ho2,U⟩ noFill_tuple_add seq_tuple_add PySem.F.slot_tuple_add PySem.F.entry_tuple_add (PySem.F.args_tuple_add_2 _ _)
    (tuple_addW2 t b vs.toArray ws.toArray n n2 dd dd2 sl sl2 (by simpa using hv) (by simpa using hw) (by rw[List.size_toArray,List.size_toArray];exact hsz)) ⟨ho,ho2,?_⟩
   rw[e];exact h2 hw
def sIx (n d:Nat):Option Int->Nat
  | none=>d
  | some v=>if v<0 then (v+(n:Int)).toNat else min v.toNat n
def gu (n d:Nat):sIx n d none=d:=rfl
def ip (n d k:Nat):sIx n d (some (k:Int))=min k n:=by
 show (if (k:Int)<0 then ((k:Int)+(n:Int)).toNat else min (k:Int).toNat n)=min k n;rw[if_neg (by lia),Int.toNat_natCast]
def xw (n d:Nat) (hd:d<=n) (o:Option Int):sIx n d o<=n:=by
 cases o with
 | none=>exact hd
 | some v =>
  show (if v<0 then (v+(n:Int)).toNat else min v.toNat n)<=n;by_cases hv:v<0
  · rw[if_pos hv];lia
  · rw[if_neg hv];exact Nat.min_le_right _ _
def lN (v:Int) (n:Nat) (h:¬ v<0):min v (n:Int)=((min v.toNat n:Nat):Int):=by
 obtain⟨k,rfl⟩:=Int.eq_ofNat_of_zero_le (Int.not_lt.mp h);show min (k:Int) (n:Int)=((min k n:Nat):Int)
 rcases Nat.le_total k n with z | z
 · rw[Nat.min_eq_left z,Int.min_eq_left (Int.ofNat_le.mpr z)]
 · rw[Nat.min_eq_right z,Int.min_eq_right (Int.ofNat_le.mpr z)]
def oI (v:Int) (n d:Nat):(if v<0 then max (v+(n:Int)) 0 else min v (n:Int))=((sIx n d (some v):Nat):Int):=by
 show (if v<0 then max (v+(n:Int)) 0 else min v (n:Int))=(((if v<0 then (v+(n:Int)).toNat else min v.toNat n):Nat):Int);by_cases hv:v<0
 · simp only[if_pos hv];exact (Int.ofNat_toNat _).symm
 · simp only[if_neg hv];exact lN v n hv
def nh (lo hi:Option Int) (n:Nat):Builtin.Slice.sliceAdjust lo hi 1 (n:Int)=(((sIx n 0 lo:Nat):Int),((sIx n n hi:Nat):Int)):=by
 have h1:¬ ((1:Int)<0):=by lia
 unfold Builtin.Slice.sliceAdjust;simp only[h1,if_false];refine Prod.ext ?_ ?_
 · cases lo with
   | none=>rfl
   | some v=>exact oI v n 0
 · cases hi with
   | none=>rfl
   | some v=>exact oI v n n
def mC (i j:Nat):Builtin.Slice.slicePlaces (i:Int) (j:Int) 1=j-i:=by
 unfold Builtin.Slice.slicePlaces;have h1:(1:Int)>0:=by lia
 simp only[h1,if_true,Int.ediv_one];split <;> lia
def gb {v:Value} {o:Option Int} {Q:Option Int->Shared->Prop} (p:IsPart v o) (h:Q o s):wpAny (model prog w) A (Builtin.Slice.slicePartIndex v) Q E s:=by
 cases p with
 | none=>exact slicePart_none h
 | int i t=>exact slicePart_int h
def dY {sl:Addr} {vl vu:Value} {lo hi:Option Int} {n:Nat} {Q:Int×Int×Nat->Shared->Prop} (hs:s.heap.IsSliceOf sl vl vu .none) (pl:IsPart vl lo) (pu:IsPart vu hi)
 (h:Q (((sIx n 0 lo:Nat):Int),1,sIx n n hi-sIx n 0 lo) s):wpAny (model prog w) A (Builtin.Slice.sliceApplied (.ref sl) (pure (n:Int))) Q E s:=by
 obtain⟨os,hos,hcs,hds⟩:=id hs;unfold Builtin.Slice.sliceApplied Builtin.Slice.sliceFields;refine wB (wB (wpAny_field hos hds (x:=vl) U (wB (wpAny_field hos hds (x:=vu) U (wB (wpAny_field hos hds (x:=.none) U (wP ?_)))))));refine wB (slicePart_none ?_);show wpAny _ _ (if ((1:Int)==0)=true then _ else _) _ _ s;rw[if_neg ∅];refine wB (gb pl (wB (gb pu (wB (wP ?_)))));show wpAny _ _ (match Builtin.Slice.sliceAdjust lo hi 1 (n:Int) with | (lo,hi)=>pure (lo,(1:Int),Builtin.Slice.slicePlaces lo hi 1)) _ _ s;rw[nh lo hi n];show wpAny _ _ (pure (((sIx n 0 lo:Nat):Int),(1:Int),Builtin.Slice.slicePlaces ((sIx n 0 lo:Nat):Int) ((sIx n n hi:Nat):Int) 1)) _ _ s;rw[mC];exact wP h
def rA (xs:Array Value) (i k:Nat):((List.range k).filterMap λ(m:Nat)=>xs[((i:Int)+(m:Int)*1).toNat]?).toArray=((xs.toList.drop i).take k).toArray:=by
 have e:(λ(m:Nat)=>xs[((i:Int)+(m:Int)*1).toNat]?)=λm=>xs[i+m]?:=by
  funext m
  have:((i:Int)+(m:Int)*1).toNat=i+m:=by lia
  rw[this]
 rw[e];have:=pick_run xs i k;rw[List.filterMap_map] at this;have e2:((λx=>xs[x]?)∘λx=>i+x)=λm=>xs[i+m]?:=rfl;rw[e2] at this;rw[this]
def gI {t sl:Addr} {aK:Array Value} {vl vu:Value} {lo hi:Option Int} {Q:VSP} (ht:IsTup s.heap t aK) (hs:s.heap.IsSliceOf sl vl vu .none) (pl:IsPart vl lo) (pu:IsPart vu hi)
 (hw:¬ (sIx aK.size 0 lo=0/\sIx aK.size aK.size hi=aK.size))
 (h:Q (.ref s.heap.objs.size) {s with heap:=s.heap.push {cls:=.type "tuple",data:=.seq ((aK.toList.drop (sIx aK.size 0 lo)).take (sIx aK.size aK.size hi-sIx aK.size 0 lo)).toArray}})
 (hsz:aK.size<=sizeLine):wpAny (model prog w) A (getItem (.ref t) (.ref sl)) Q E s:=by
 have htake:sizeOk (.seq ((aK.toList.drop (sIx aK.size 0 lo)).take (sIx aK.size aK.size hi-sIx aK.size 0 lo)).toArray):=by
  show ((aK.toList.drop (sIx aK.size 0 lo)).take (sIx aK.size aK.size hi-sIx aK.size 0 lo)).toArray.size<=sizeLine;rw[List.size_toArray,lTk,List.length_drop,Array.length_toList];exact Nat.le_trans (Nat.min_le_right _ _) (Nat.le_trans (Nat.sub_le _ _) hsz)
 have hj:sIx aK.size aK.size hi<=aK.size:=xw _ _ (Nat.le_refl _) hi;obtain⟨os,hos,hcs,hds⟩:=id hs;have hTs:s.TypeIs (.ref sl) "slice":=⟨os,hos,hcs⟩;unfold getItem
 try with_reducible refine wpAny_holding ?_
 first | refine wB (wP ?_) | skip
 refine wB (wpAny_sequenceKey ht.typeIs ∅ ?_);refine wB (wpAny_callSpecial?_slot (name:=Str.ofString "__getitem__") ht.typeIs PyProof.Rows.slot_tuple_getitem
   (wpAny_call_entry PyProof.Rows.slot_tuple_getitem ht.typeIs entry_tuple_getitem ?_ (args_tuple_getitem _ _)))
 show wpAny _ _ (Builtin.Tuple.tupleItemsOf (.ref t)>>=_) _ _ s;refine wB (tupleItemsOf_ ht ?_);refine wB (wpAny_typeOf hTs ?_);rw[if_pos ∅];refine wB (dY hs pl pu ?_);have hno:¬ ((((sIx aK.size 0 lo:Nat):Int)==0&&(1:Int)==1&&(sIx aK.size aK.size hi-sIx aK.size 0 lo)==aK.size)=true):=by
  intro q;rw[Bool.and_eq_true,Bool.and_eq_true] at q;have q1:((sIx aK.size 0 lo:Nat):Int)=0:=eq_of_beq q.1.1;have q2:sIx aK.size aK.size hi-sIx aK.size 0 lo=aK.size:=eq_of_beq q.2;exact hw ⟨by lia,by lia⟩
 show wpAny _ _ (if (((sIx aK.size 0 lo:Nat):Int)==0&&(1:Int)==1&&(sIx aK.size aK.size hi-sIx aK.size 0 lo)==aK.size)=true then _ else _) _ _ s;rw[if_neg hno,rA]
 first
  | exact wB (m:=Builtin.Tuple.tupleExact _) (wpAny_newObj_type (wP ⟨_,U,wP h⟩) htake)
  | exact wB (m:=Builtin.Tuple.tupleExact _) (wpAny_newObj_type (wB (wP (wP ⟨_,U,wP h⟩))) htake)
  | exact wB (wB (m:=Builtin.Tuple.tupleExact _) (wpAny_newObj_type (wP (wP ⟨_,U,wP h⟩)) htake))
  | exact wB (wB (m:=Builtin.Tuple.tupleExact _) (wpAny_newObj_type (wP ⟨_,U,wP h⟩) htake))
end
end HT
namespace L2
open PySem PySem.Spec PyProof.Rows
abbrev TO:=St->Hp->(Option Int->Hp->Prop)->Prop
def PO (X:Cx) (e:Option Expr) (t:TO):Prop :=
  ∀ (pins:AOs) (s:Shared) (σ:St) (H:Hp) (Q:Option Int->Hp->Prop),Inv X pins σ H s->t σ H Q ->
    wpAny (model X.prog X.w) X.A (evalPart e X.env) (λu s'=>∃ o H',Inv X pins σ H' s'/\IsPart u o/\Q o H') X.xe s
def nJ:TO:=λ_ H Q=>Q none H
def vG (t:TE):TO:=λσ H Q=>t σ H λx H1=>zb x H1 λi H2=>Q (some i) H2
section
variable {X:Cx} {e:Expr} {te:TE} {lo hi:Option Expr} {tl th:TO} {pos p2:Pos}
def gv:PO X none nJ:=by
 intro pins s σ H Q I h;rw[evalPart_none];exact wP ⟨none,H,I,.none,h⟩
def dL (h:PE X e te):PO X (some e) (vG te):=by
 intro pins s σ H Q I hw;rw[evalPart_some];refine thn (h pins s σ H _ I hw) λu s1 zy78=>?_;obtain⟨x,H1,I1,r1,q1⟩:=zy78;obtain⟨i,rfl,q⟩:=q1;obtain⟨t,rfl⟩:=r1;exact⟨some i,H1,I1,.int i t,q⟩
def SlR (X:Cx) (r:V->Option Int->Option Int->Hp->VK->Prop):Prop :=
  ∀ (pins:AOs) (s:Shared) (σ:St) (H:Hp) (x:V) (v vl vu:Value) (lo hi:Option Int) (sl:Addr) (Q:VK),Inv X pins σ H s->b7 x v->s.heap.IsSliceOf sl vl vu .none->IsPart vl lo->IsPart vu hi->r x lo hi H Q ->
    ∃ T id,typeLookup (.type T) "__getitem__"=pure (some (.builtin id))/\s.TypeIs v T/\wpAny (model X.prog X.w) X.A (getItem v (.ref sl)) (EP X pins σ Q) X.xe s
def tSl (r:V->Option Int->Option Int->Hp->VK->Prop) (te:TE) (tl th:TO):TE:=λσ H Q=>te σ H λx H1=>tl σ H1 λl H2=>th σ H2 λu H3=>r x l u H3 Q
def ff {r:V->Option Int->Option Int->Hp->VK->Prop} (hr:SlR X r) (he:PE X e te) (hl:PO X lo tl) (hu:PO X hi th):PE X (.Subscript e (.Slice lo hi none p2) pos) (tSl r te tl th):=by
 intro pins s σ H Q I h;refine Subscript_ (thn (he pins s σ H _ I h) λv s1 zy79=>?_);obtain⟨x,H1,I1,r1,q1⟩:=zy79;refine wpAny_Slice (thn (hl pins s1 σ H1 _ I1 q1) λvl s2 zy80=>?_);obtain⟨l,H2,I2,pl,q2⟩:=zy80;refine thn (hu pins s2 σ H2 _ I2 q2) λvu s3 zy81=>?_;obtain⟨u,H3,I3,pu,q3⟩:=zy81;rw[evalPart_none];refine wP ?_;have I4:Inv X pins σ H3 {s3 with heap:=s3.heap.push {cls:=.type "slice",data:=.fields #[vl,vu,.none]}}:=I3.kept (t':=s3.toks) λb ob q=>hpS _ q;obtain⟨T,id,hT,ht,hg⟩:=hr pins {s3 with heap:=s3.heap.push {cls:=.type "slice",data:=.fields #[vl,vu,.none]}} σ H3 x v vl vu l u s3.heap.objs.size Q I4 r1 (Heap.IsSliceOf.new ..) pl pu q3;show wpAny (model X.prog X.w) X.A (subscriptTail e (.Slice lo hi none p2) v (.ref s3.heap.objs.size)) (EP X pins σ Q) X.xe {s3 with heap:=s3.heap.push {cls:=.type "slice",data:=.fields #[vl,vu,.none]}};exact tail_any (ops:=[.ref s3.heap.objs.size,v]) ht hT hg (by with_unfolding_all rfl)
def eM (xs:List V) (lo hi:Option Int):List V:=(xs.drop (HT.sIx xs.length 0 lo)).take (HT.sIx xs.length xs.length hi-HT.sIx xs.length 0 lo)
def ic (xs:List V) (lo hi:Option Int):(eM xs lo hi).length<=xs.length:=by
 unfold eM;rw[lTk,List.length_drop];exact Nat.le_trans (Nat.min_le_right _ _) (Nat.sub_le _ _)
def Cw (K:Fg):V->Option Int->Option Int->Hp->VK->Prop:=λx lo hi H Q=>∃ a xs,x=.ref a/\SqT K H a xs /\
  ¬ (HT.sIx xs.length 0 lo=0/\HT.sIx xs.length xs.length hi=xs.length)/\∀ p,H p=none->Q (.ref p) (upd H p (.tup (eM xs lo hi)))
def qI:SlR X (Cw X.K):=by
 intro pins s σ H x v vl vu lo hi sl Q I rx hs pl pu h;obtain⟨a,xs,rfl,hx,hw,q⟩:=h;cases rx;obtain⟨its,r,ht,hz⟩:=I.tuple hx;have hlen:its.toArray.size=xs.length:=by rw[List.size_toArray];exact r.length.symm
 refine⟨"tuple",_,PyProof.Rows.slot_tuple_getitem.lookup,ht.typeIs,?_⟩;refine HT.gI ht hs pl pu (by rw[hlen];exact hw) ?_ (by rw[hlen];exact hz);rw[hlen];refine⟨.ref s.heap.objs.size,_,I.laid (t':=s.toks) (o:=.tup (eM xs lo hi)) (λb ob q=>hpS _ q) (Nat.le_refl _) ?_,U,q _ (I.hok.fresh (Nat.le_refl _))⟩;exact⟨Nat.le_trans (ic xs lo hi) hz,_,(r.drop (HT.sIx xs.length 0 lo)).take (HT.sIx xs.length xs.length hi-HT.sIx xs.length 0 lo),IsTup.new _ _⟩
def AB (K:Fg):R2:=λx y H Q=>∃ a b xs ys,x=.ref a/\y=.ref b/\SqT K H a xs/\SqT K H b ys/\xs≠[]/\xs.length+ys.length<=sizeLine /\
  (ys=[]->Q (.ref a) H)/\(ys≠[]->∀ p,H p=none->Q (.ref p) (upd H p (.tup (xs++ys))))
def aT.nil_iff {xs:List V} {us:List Value} (r:aT xs us):us=[]↔xs=[]:=by
 cases r with
 | _=>simp
def uE:OpR X (binaryOp .Add) (AB X.K):=by
 intro pins s σ H x y v u Q I rx ry h;obtain⟨a,b,xs,ys,rfl,rfl,ha,hb,hx,hz,q1,q2⟩:=h;cases rx;cases ry;obtain⟨its,r1,p1,_⟩:=I.tuple ha;obtain⟨its2,r2,p2,_⟩:=I.tuple hb;refine HT.vp p1 p2 (λz=>hx (r1.nil_iff.mp z)) (λz=>⟨.ref a,H,I,U,q1 (r2.nil_iff.mp z)⟩) (λz=>?_) (by rw[<- r1.length,<- r2.length];exact hz);refine⟨.ref s.heap.objs.size,_,I.laid (t':=s.toks) (o:=.tup (xs++ys)) (λb ob q=>hpS _ q) (Nat.le_refl _) ?_,U,q2 (λw=>z (r2.nil_iff.mpr w)) _ (I.hok.fresh (Nat.le_refl _))⟩;exact⟨by rw[lAp];exact hz,_,r1.append r2,IsTup.new _ _⟩
end
def ixN (n:Nat) (i:Int):Option Nat:=if 0<=i then (if i<n then some i.toNat else none) else if -(n:Int)<=i then some (i+n).toNat else none
def atI {α:Type} (xs:List α) (i:Int):Option α:=(ixN xs.length i).bind λj=>xs[j]?
def ou {n:Nat} {i:Int} {j:Nat} (h:ixN n i=some j):seqIndex? i n=some j/\j<n/\-(n:Int)<=i/\i<n:=by
 unfold ixN at h;by_cases h0:0<=i
 · rw[if_pos h0] at h;by_cases h1:i<n
   · rw[if_pos h1] at h;have e:i.toNat=j:=Option.some.inj h;exact⟨by rw[seqIndex_of h0 h1,e],by lia,by lia,h1⟩
   · rw[if_neg h1] at h;cases h
 · rw[if_neg h0] at h;by_cases h1:-(n:Int)<=i
   · rw[if_pos h1] at h;have e:(i+n).toNat=j:=Option.some.inj h;exact⟨by rw[seqIndex_neg (by lia) h1,e],by lia,h1,by lia⟩
   · rw[if_neg h1] at h;cases h
def kq {α:Type} {xs:List α} {i:Int} {v:α} (h:atI xs i=some v):∃ j,seqIndex? i xs.length=some j/\xs[j]?=some v/\j<xs.length/\-(xs.length:Int)<=i/\i<xs.length:=by
 unfold atI at h;cases e:ixN xs.length i with
 | none=>rw[e] at h;cases h
 | some j =>
  rw[e] at h;obtain⟨h1,h2,h3,h4⟩:=ou e;exact⟨j,h1,h,h2,h3,h4⟩
def pH {α:Type} {xs:List α} {j:Nat} {v:α} (h:xs[j]?=some v):atI xs (j:Int)=some v:=by
 have hj:j<xs.length:=(gES.mp h).1;have e:ixN xs.length (j:Int)=some j:=by
  unfold ixN;rw[if_pos (by lia),if_pos (by lia)];simp
 unfold atI;rw[e];exact h
def sP {α:Type} (xs:List α) (v:α):atI (xs++[v]) (-1)=some v:=by
 have hl:(xs++[v]).length=xs.length+1:=by simp
 have e:ixN (xs++[v]).length (-1)=some xs.length:=by
  unfold ixN;rw[hl,if_neg ∅,if_pos (by lia)];congr 1;lia
 unfold atI;rw[e];show (xs++[v])[xs.length]?=some v;simp
def vD (b:Expr):Prop:=∀ o i,subscripted b false o i=operate [o,i] (getItem o i)
def IxR (X:Cx) (r:R2):Prop :=
  ∀ (value slice:Expr) (pins:AOs) (s:Shared) (σ:St) (H:Hp) (x y:V) (v u:Value) (Q:VK),Inv X pins σ H s->b7 x v->b7 y u->r x y H Q ->
    subscripted slice false v u=operate [v,u] (getItem v u)->wpAny (model X.prog X.w) X.A (subscriptTail value slice v u) (EP X pins σ Q) X.xe s
def MtR (X:Cx) (id:String) (r:V->List V->Hp->VK->Prop):Prop :=
  ∀ (pins:AOs) (s:Shared) (σ:St) (H:Hp) (x:V) (xs:List V) (v:Value) (us:List Value) (Q:VK),Inv X pins σ H s->b7 x v->aT xs us->r x xs H Q ->
    wpAny (model X.prog X.w) X.A (call (.builtin id) (v::us)) (EP X pins σ Q) X.xe s
inductive BK (K:Fg) (xs:List V) (H:Hp) (Q:VK):Prop
  | mk (p:Addr) (ys:List V) (h1:xs=[.ref p]) (h2:SqL K H p ys\/SqT K H p ys) (q:Q (.int ys.length) H):BK K xs H Q
def Aw (K:Fg):List V->Hp->VK->Prop:=λxs H Q=>BK K xs H Q
inductive sQ (K:Fg) (xs:List V) (H:Hp) (Q:VK):Prop
  | mk (p:Addr) (ys:List V) (h1:xs=[.ref p]) (h2:(SqL K H p ys/\∀ l,H l=none->Q (.ref l) (upd H l (.tup ys)))\/(SqT K H p ys/\Q (.ref p) H)):sQ K xs H Q
def qR (K:Fg):List V->Hp->VK->Prop:=λxs H Q=>sQ K xs H Q
section
variable {X:Cx} {a b:Expr} {ta tb:TE} {pos:Pos}
def ac {r:R2} (hr:IxR X r) (ha:PE X a ta) (hb:PE X b tb) (hs:vD b):PE X (.Subscript a b pos) (tOp r ta tb):=by
 intro pins s σ H Q I h;exact Subscript_ (yH ha hb I h λv u s2 x y H2 I2 rx ry q=>hr a b pins s2 σ H2 x y v u Q I2 rx ry q (hs _ _))
inductive BM (K:Fg) (x y:V) (H:Hp) (Q:VK):Prop
  | mk (p:Addr) (xs:List V) (i:Int) (v:V) (h:x=.ref p) (h':y=.int i) (s:SqL K H p xs) (a:atI xs i=some v) (q:Q v H):BM K x y H Q
inductive BL (K:Fg) (x y:V) (H:Hp) (Q:VK):Prop
  | mk (p:Addr) (xs:List V) (i:Int) (v:V) (h:x=.ref p) (h':y=.int i) (s:SqT K H p xs) (a:atI xs i=some v) (q:Q v H):BL K x y H Q
def oY (K:Fg):R2:=λx y H Q=>BM K x y H Q
def oX (K:Fg):R2:=λx y H Q=>BL K x y H Q
def Ax:R2:=λx y H Q=>∃ z i c,x=.str z/\y=.int i/\z.length<=sizeLine/\atI z.cps.toList i=some c/\Q (.str ⟨#[c]⟩) H
def aw:IxR X (oY X.K):=by
 intro value slice pins s σ H x y v u Q I rx ry h hs;obtain⟨p,xs,i,z,rfl,rfl,hq,he,q⟩:=h;cases rx;obtain⟨t,rfl⟩:=ry;obtain⟨its,r,pl,hz⟩:=I.list hq;obtain⟨j,h1,h2,h3,h4,h5⟩:=kq he;obtain⟨w,ew,rw'⟩:=r.get h2;have hl:=r.length;have hn:=hZ;have fin:EP X pins σ Q w s:=⟨z,H,I,rw',q⟩;by_cases h0:0<=i
 · have hj:i.toNat=j:=by
    rw[seqIndex_of h0 h5] at h1;exact Option.some.inj h1
   exact item_listR pl.isList h0 (by lia) (by rw[hj];simpa using ew) fin hs
 · have hj:(i+(its.toArray.size:Int)).toNat=j:=by
    rw[seqIndex_neg (by lia) h4] at h1;rw[List.size_toArray,<- hl];exact Option.some.inj h1
   exact subscriptTail_builtinR (x:=w) pl.isList.typeIs slot_list_getitem.lookup
    (wpAny_getItem_list_neg (Q:=λr s'=>r=w/\EP X pins σ Q r s') pl.isList (by lia) (by rw[List.size_toArray] <;> lia) (by lia) (by rw[hj];simpa using ew) ⟨U,fin⟩) hs
def ag:IxR X (oX X.K):=by
 intro value slice pins s σ H x y v u Q I rx ry h hs;obtain⟨p,xs,i,z,rfl,rfl,hq,he,q⟩:=h;cases rx;obtain⟨t,rfl⟩:=ry;obtain⟨its,r,pl,hz⟩:=I.tuple hq;obtain⟨j,h1,h2,h3,h4,h5⟩:=kq he;obtain⟨w,ew,rw'⟩:=r.get h2;have hl:=r.length;have hn:=hZ;have fin:EP X pins σ Q w s:=⟨z,H,I,rw',q⟩;exact subscriptTail_builtinR (x:=w) pl.typeIs slot_tuple_getitem.lookup
  (getItem_tuple (j:=j) (Q:=λr s'=>r=w/\EP X pins σ Q r s') pl (by lia) (by lia) (by rw[List.size_toArray,<- hl];exact h1) (by simpa using ew) ⟨U,fin⟩) hs
def yp:IxR X Ax:=by
 intro value slice pins s σ H x y v u Q I rx ry h hs;obtain⟨z,i,c,rfl,rfl,hz,he,q⟩:=h;obtain⟨t,rfl⟩:=rx;obtain⟨t',rfl⟩:=ry;obtain⟨j,h1,h2,h3,h4,h5⟩:=kq he;have hl:z.cps.toList.length=z.length:=by simp[Str.length]
 rw[hl] at h1 h4 h5;have hn:=hZ;exact tail_any (typeIs_str s z t) slot_str_getitem.lookup (getItem_str (c:=c) (by
   have e1:decide (i < -(2 ^ 63:Int))=false:=decide_eq_false (by lia);have e2:decide (i>=2 ^ 63)=false:=decide_eq_false (by lia);rw[e1,e2,Bool.or_false]) (by rw[h1];simpa using h2) ⟨.str ⟨#[c]⟩,H,I.tok _,⟨_,U⟩,q⟩) hs
def mL (its:List Value) (n j:Nat) (u:Value):Obj.mapSeq (·.setIfInBounds j u) {cls:=.type "list",data:=.seq its.toArray n}={cls:=.type "list",data:=.seq (its.set j u).toArray n}:=by
 simp[Obj.mapSeq]
def Inv.lst {pins:AOs} {σ:St} {H:Hp} {s:Shared} {p:Addr} {xs:List V} (I:Inv X pins σ H s) (h:H p=some (.lst xs)) :
 ∃ (its:List Value) (n:Nat),aT xs its/\s.heap.get? p=some {cls:=.type "list",data:=.seq its.toArray n}/\xs.length<=sizeLine:=by
 obtain⟨z,its,n,r,e⟩:=I.hok p _ h;exact⟨its,n,r,e,z⟩
def Inv.lstUpd {pins:AOs} {σ:St} {H:Hp} {s:Shared} {p:Addr} {xs ys:List V} {its its':List Value} {n n':Nat} {f:Obj->Obj} (I:Inv X pins σ H s) (h:H p=some (.lst xs))
 (ho:s.heap.get? p=some {cls:=.type "list",data:=.seq its.toArray n}) (hf:f {cls:=.type "list",data:=.seq its.toArray n}={cls:=.type "list",data:=.seq its'.toArray n'}) (r:aT ys its') (hz:ys.length<=sizeLine) (t:Nat) :
 Inv X pins σ (upd H p (.lst ys)) {s with heap:=s.heap.update p f,toks:=t}:=by
 have e:(s.heap.update p f).get? p=some {cls:=.type "list",data:=.seq its'.toArray n'}:=by
  rw[Heap.get?_update_self f ho (by rw[hf] <;> rfl),hf]
 refine I.write (x:=p) (e:=p) (by rw[h];trivial) (.inl U) (λb u hb q=>(Heap.get?_update_other _ _ (Ne.symm hb)).trans q) ⟨_,e⟩ ?_;exact⟨hz,its',n',r,e⟩
def As:V->V->V->Hp->(Hp->Prop)->Prop:=λo i v H Q=>∃ p xs k j,o=.ref p/\i=.int k/\H p=some (.lst xs)/\ixN xs.length k=some j/\Q (upd H p (.lst (xs.set j v)))
def iH:BI X As:=by
 intro pins s σ H o i v ov iv u Q I ro ri rv h;obtain⟨p,xs,k,j,rfl,rfl,hp,hj,q⟩:=h;cases ro;obtain⟨t,rfl⟩:=ri;obtain⟨its,n,r,ho,hz⟩:=I.lst hp;obtain⟨h1,h2,h3,h4⟩:=ou hj;have hl:=r.length;have hn:=hZ;have I':Inv X pins σ (upd H p (.lst (xs.set j v))) {s with heap:=s.heap.update p (Obj.mapSeq (·.setIfInBounds j u))} :=
  I.lstUpd hp ho (mL its n j u) (r.set rv j) (by rw[List.length_set];exact hz) s.toks
 by_cases h0:0<=k
 · have hk:k.toNat=j:=by
    rw[seqIndex_of h0 h4] at h1;exact Option.some.inj h1
   exact PySem.W.ki_setAt ho h0 (by lia) (by rw[List.size_toArray,<- hl];exact h4) (by rw[hk];exact⟨_,I',q⟩)
 · have hk:(k+(its.toArray.size:Int)).toNat=j:=by
    rw[seqIndex_neg (by lia) h3] at h1;rw[List.size_toArray,<- hl];exact Option.some.inj h1
   exact PySem.W.ki_setBack ho (by lia) (by rw[List.size_toArray,<- hl];exact h3) (by lia) (by rw[hk];exact⟨_,I',q⟩)
def qL {i:Int} {n:Nat} (h:i<0):max 0 (min (i+(n:Int)) (n:Int))=((i+(n:Int)).toNat:Int):=by
 rw[Int.min_eq_left (by lia),Int.ofNat_toNat,Int.max_comm]
def qK {i:Int} {n:Nat} (h:¬ i<0):max 0 (min i (n:Int))=((min i.toNat n:Nat):Int):=by
 rw[HT.lN i n h];exact Int.max_eq_right (Int.natCast_nonneg _)
def jI (lo hi:Option Int) (n:Nat):(sliceBounds lo hi none n).1=((HT.sIx n 0 lo:Nat):Int)/\(sliceBounds lo hi none n).2.1=((HT.sIx n n hi:Nat):Int)/\(sliceBounds lo hi none n).2.2=1:=by
 refine⟨?_,?_,U⟩
 · cases lo with
   | none=>simp[sliceBounds,HT.sIx]
   | some i =>
    simp only[sliceBounds,HT.sIx,Option.getD_none,show (1:Int)>0 by decide,if_true];by_cases h:i<0
    · simp only[h,if_true];exact qL h
    · simp only[h,if_false];exact qK h
 · cases hi with
   | none=>simp[sliceBounds,HT.sIx]
   | some i =>
    simp only[sliceBounds,HT.sIx,Option.getD_none,show (1:Int)>0 by decide,if_true];by_cases h:i<0
    · simp only[h,if_true];exact qL h
    · simp only[h,if_false];exact qK h
def jg (its:List Value) (lo hi:Option Int):slicePick its.toArray lo hi none=((its.drop (HT.sIx its.length 0 lo)).take (HT.sIx its.length its.length hi-HT.sIx its.length 0 lo)).toArray:=by
 obtain⟨h1,h2,h3⟩:=jI lo hi its.toArray.size;unfold slicePick;rw[h1,h2,h3];simp only[sliceRange_one,pick_run,List.size_toArray] <;> rfl
def Cy (K:Fg):V->Option Int->Option Int->Hp->VK->Prop:=λx lo hi H Q=>∃ a xs,x=.ref a/\SqL K H a xs/\∀ p,H p=none->Q (.ref p) (upd H p (.lst (eM xs lo hi)))
def nO:SlR X (Cy X.K):=by
 intro pins s σ H x v vl vu lo hi sl Q I rx hs pl pu h;obtain⟨a,xs,rfl,hx,q⟩:=h;cases rx;obtain⟨its,r,ht,hz⟩:=I.list hx;have hlen:=r.length;refine⟨"list",_,slot_list_getitem.lookup,ht.isList.typeIs,?_⟩;refine wpAny_getItem_list_slice ht.isList hs pl pu .none (by simp) ?_ (by rw[List.size_toArray] <;> lia);rw[jg,<- hlen];refine⟨.ref s.heap.objs.size,_,I.laid (t':=s.toks) (o:=.lst (eM xs lo hi)) (λb ob q=>hpS _ q) (Nat.le_refl _) ?_,U,q _ (I.hok.fresh (Nat.le_refl _))⟩;exact⟨Nat.le_trans (ic xs lo hi) hz,_,0,(r.drop (HT.sIx xs.length 0 lo)).take (HT.sIx xs.length xs.length hi-HT.sIx xs.length 0 lo),Heap.get?_push_size _ U⟩
def gJ:V->Bool
  | .non=>true
  | .bl _=>true
  | .int _=>true
  | .str _=>true
  | _=>false
def eqV:V->V->Bool
  | .non,.non=>true
  | .bl a,.bl b=>a==b
  | .bl a,.int b=>(if a then 1 else 0)==b
  | .int a,.bl b=>a==(if b then 1 else 0)
  | .int a,.int b=>a==b
  | .str a,.str b=>a==b
  | _,_=>false
def yE {A:Around} {s:Shared} {y x:V} {u v:Value} (ry:b7 y u) (rx:b7 x v) (fy:gJ y=true) (fx:gJ x=true):SeqAt.EqAt A s u v (eqV y x):=by
 cases y with
 | non =>
  cases ry;cases x with
  | non=>cases rx;exact SeqAt.EqAt.same _
  | bl b=>cases rx;exact SeqAt.EqAt.none_bool b
  | int b=>obtain⟨t,rfl⟩:=rx;exact SeqAt.EqAt.none_int b t
  | str b=>obtain⟨t,rfl⟩:=rx;exact SeqAt.EqAt.none_str b t
  | _=>exact absurd (show false=true from fx) Bool.false_ne_true
 | bl a =>
  cases ry;cases x with
  | non=>cases rx;exact SeqAt.EqAt.bool_none a
  | bl b=>cases rx;exact SeqAt.EqAt.bool_bool a b
  | int b=>obtain⟨t,rfl⟩:=rx;exact SeqAt.EqAt.bool_int a b t
  | str b=>obtain⟨t,rfl⟩:=rx;exact SeqAt.EqAt.bool_str a b t
  | _=>exact absurd (show false=true from fx) Bool.false_ne_true
 | int a =>
  obtain⟨t',rfl⟩:=ry;cases x with
  | non=>cases rx;exact SeqAt.EqAt.int_none a t'
  | bl b=>cases rx;exact SeqAt.EqAt.int_bool a t' b
  | int b=>obtain⟨t,rfl⟩:=rx;exact SeqAt.EqAt.int_int a t' b t
  | str b=>obtain⟨t,rfl⟩:=rx;exact SeqAt.EqAt.int_str a t' b t
  | _=>exact absurd (show false=true from fx) Bool.false_ne_true
 | str a =>
  obtain⟨t',rfl⟩:=ry;cases x with
  | non=>cases rx;exact SeqAt.EqAt.str_none a t'
  | bl b=>cases rx;exact SeqAt.EqAt.str_bool a t' b
  | int b=>obtain⟨t,rfl⟩:=rx;exact SeqAt.EqAt.str_int a t' b t
  | str b=>obtain⟨t,rfl⟩:=rx;exact SeqAt.EqAt.str_str a t' b t
  | _=>exact absurd (show false=true from fx) Bool.false_ne_true
 | _=>exact absurd (show false=true from fy) Bool.false_ne_true
def eqU (x:V) (u:Value):Bool:=match u with
  | .none=>eqV .non x
  | .bool b=>eqV (.bl b) x
  | .int i _=>eqV (.int i) x
  | .str z _=>eqV (.str z) x
  | _=>false
def sA {x y:V} {u:Value} (r:b7 y u) (f:gJ y=true):eqU x u=eqV y x:=by
 cases y with
 | non=>cases r;rfl
 | bl b=>cases r;rfl
 | int i=>obtain⟨t,rfl⟩:=r;rfl
 | str z=>obtain⟨t,rfl⟩:=r;rfl
 | _=>exact absurd (show false=true from f) Bool.false_ne_true
def oJ {x:V}:∀ {xs:List V} {us:List Value},aT xs us->xs.all gJ=true->us.any (eqU x)=xs.any λy=>eqV y x:=by
 intro xs us h
 induction h with
 | nil=>intro _;rfl
 | cons r t ih =>
  intro f;rw[List.all_cons,Bool.and_eq_true] at f;rw[List.any_cons,List.any_cons,sA r f.1,ih f.2]
def lD {A:Around} {s:Shared} {x:V} {v:Value} (rx:b7 x v) (fx:gJ x=true):∀ {xs:List V} {us:List Value},aT xs us->xs.all gJ=true->∀ u∈us,SeqAt.EqAt A s u v (eqU x u):=by
 intro xs us h
 induction h with
 | nil=>intro _ u hu;cases hu
 | cons r t ih =>
  intro f u hu;rw[List.all_cons,Bool.and_eq_true] at f
  rcases List.mem_cons.mp hu with rfl | hu
  · rw[sA r f.1];exact yE r rx f.1 fx
  · exact ih f.2 u hu
def inV (x:V) (xs:List V):Bool:=xs.any λy=>eqV y x
def rIn (K:Fg) (neg:Bool):R2:=λx y H Q=>∃ p xs,y=.ref p/\(SqL K H p xs\/SqT K H p xs)/\gJ x=true/\xs.all gJ=true/\Q (.bl (if neg then !inV x xs else inV x xs)) H
def jq:OpR X (compareOp .In) (rIn X.K false):=by
 intro pins s σ H x y v u Q I rx ry h;obtain⟨p,xs,rfl,hq,fx,fs,q⟩:=h;cases ry
 rcases hq with hq | hq
 · obtain⟨its,r,pl,hz⟩:=I.list hq;refine SeqAt.in_listAt (eqU x) pl.isList (λw hw=>lD rx fx r fs w (by simpa using hw)) ⟨.bl _,H,I,U,?_⟩;rw[show its.toArray.any (eqU x)=its.any (eqU x) by simp,oJ r fs];exact q
 · obtain⟨its,r,pl,hz⟩:=I.tuple hq;refine SeqAt.in_tupleAt (eqU x) pl (λw hw=>lD rx fx r fs w (by simpa using hw)) ⟨.bl _,H,I,U,?_⟩;rw[show its.toArray.any (eqU x)=its.any (eqU x) by simp,oJ r fs];exact q
def kh:ga X (.builtin "len") (Aw X.K):=by
 intro pins s σ H xs us Q I r h;obtain⟨p,ys,rfl,hq,q⟩:=h;obtain⟨u,rfl,rx⟩:=kP r;cases rx;have hn:=hZ
 rcases hq with hq | hq
 · obtain⟨its,r',pl,hz⟩:=I.list hq;have hlen:=r'.length;exact Calls.call_len_list pl.isList (by simp only[List.size_toArray] <;> lia) ⟨.int ys.length,H,I.tok _,⟨s.toks+1,by rw[List.size_toArray,hlen]⟩,q⟩
 · obtain⟨its,r',pl,hz⟩:=I.tuple hq;have hlen:=r'.length;exact len_tuple pl (by simp only[List.size_toArray] <;> lia) ⟨.int ys.length,H,I.tok _,⟨s.toks+1,by rw[List.size_toArray,hlen]⟩,q⟩
def ke:ga X (.type "list") (λxs H Q=>∃ p ys,xs=[.ref p]/\(SqL X.K H p ys\/SqT X.K H p ys)/\∀ l,H l=none->Q (.ref l) (upd H l (.lst ys))):=by
 intro pins s σ H xs us Q I r h;obtain⟨p,ys,rfl,hq,q⟩:=h;obtain⟨u,rfl,rx⟩:=kP r;cases rx;have fin:∀ (its:List Value),aT ys its->ys.length<=sizeLine->∀ (h':Heap) (c':Nat),(∀ b o',s.heap.get? b=some o'->h'.get? b=some o') ->
  h'.get? s.heap.objs.size=some {cls:=.type "list",dict:=none,data:=.seq its.toArray c',slots:=#[]}->EP X pins σ Q (.ref s.heap.objs.size) {s with heap:=h'}:=λits r' hz h' c' kp e =>
  ⟨.ref s.heap.objs.size,_,I.laid (t':=s.toks) kp (Nat.le_refl _) (show bQ X.prog X.w _ h' _ (.lst ys) from ⟨hz,its,c',r',e⟩),U,q _ (I.hok.fresh (Nat.le_refl _))⟩
 rcases hq with hq | hq
 · obtain⟨its,r',pl,hz⟩:=I.list hq;have hlen:=r'.length;obtain⟨o,ho,hc,n,hd⟩:=pl.isList;exact call_list_seq p (.inl U) ho hc hd (λh' c' kp e=>fin its r' hz h' c' kp e) (by simp only[List.size_toArray] <;> lia)
 · obtain⟨its,r',pl,hz⟩:=I.tuple hq;have hlen:=r'.length;obtain⟨o,ho,hc,n,hd⟩:=pl;exact call_list_seq p (.inr U) ho hc hd (λh' c' kp e=>fin its r' hz h' c' kp e) (by simp only[List.size_toArray] <;> lia)
def jl:ga X (.type "tuple") (qR X.K):=by
 intro pins s σ H xs us Q I r h;obtain⟨p,ys,rfl,h⟩:=h;obtain⟨u,rfl,rx⟩:=kP r;cases rx
 rcases h with ⟨hq,q⟩ | ⟨hq,q⟩
 · obtain⟨its,r',pl,hz⟩:=I.list hq;have hlen:=r'.length;refine call_tuple_list pl.isList (λh' kp=>?_) (by simp only[List.size_toArray] <;> lia);have I1:Inv X pins σ H {s with heap:=h'}:=I.kept (t':=s.toks) kp;have I2:Inv X pins σ (upd H h'.objs.size (.tup ys)) {s with heap:=h'.push {cls:=.type "tuple",data:=.seq its.toArray}} :=
    I1.laid (t':=s.toks) (λb o e=>hpS _ e) (Nat.le_refl _) (show bQ X.prog X.w _ _ _ (.tup ys) from ⟨hz,its,r',IsTup.new _ _⟩)
   exact⟨.ref h'.objs.size,_,I2,U,q _ (I1.hok.fresh (Nat.le_refl _))⟩
 · obtain⟨its,r',pl,hz⟩:=I.tuple hq;exact call_tuple_same pl ⟨.ref p,H,I,U,q⟩
def tyV (K:Fg) (T:String) (x:V) (H:Hp):Prop:=match x with
  | .str _=>T="str"
  | .int _=>T="int"
  | .ref p=>(T="list"/\∃ xs,SqL K H p xs)\/(T="tuple"/\∃ o,K.lookup p=some o/\o.cls=.type "tuple"/\o.dict=none) \/
      (T="dict"/\((∃ kvs,H p=some (.dK kvs))\/∃ kvs,H p=some (.dT kvs)))\/(T="set"/\∃ S n,H p=some (.set S n))
  | _=>False
def qt {pins:AOs} {σ:St} {H:Hp} {s:Shared} {T:String} {x:V} {v:Value} (I:Inv X pins σ H s) (r:b7 x v) (ty:tyV X.K T x H) :
 s.TypeIs v T/\∀ a,v=.ref a->∃ ob,s.heap.get? a=some ob/\ob.dict=none:=by
 cases x with
 | str z =>
  obtain⟨t,rfl⟩:=r;cases (show T="str" from ty);exact⟨typeIs_str s z t,λ_ e=>nomatch e⟩
 | int i =>
  obtain⟨t,rfl⟩:=r;cases (show T="int" from ty);exact⟨typeIs_int s i t,λ_ e=>nomatch e⟩
 | ref p =>
  cases r
  rcases ty with ⟨rfl,xs,hq⟩ | ⟨rfl,o,hk,hc,hd⟩ | ⟨rfl,hk⟩ | ⟨rfl,S,n,hk⟩
  · obtain⟨its,_,pl,_⟩:=I.list hq;refine⟨pl.isList.typeIs,λa e=>?_⟩;cases e;obtain⟨o,n,e,c,hd,_⟩:=pl;exact⟨o,e,hd⟩
  · refine⟨⟨o,I.kIn p o hk,hc⟩,λa e=>?_⟩;cases e;exact⟨o,I.kIn _ o hk,hd⟩
  · have z:∃ o,s.heap.get? p=some o/\o.ExactDict:=by
     rcases hk with ⟨kvs,hk⟩ | ⟨kvs,hk⟩
     · obtain⟨_,_,_,_,o,_,_,e,ex,_⟩:=I.hok p _ hk;exact⟨o,e,ex⟩
     · obtain⟨_,_,_,_,o,_,_,e,ex,_⟩:=I.hok p _ hk;exact⟨o,e,ex⟩
    obtain⟨o,e,ex⟩:=z;refine⟨⟨o,e,ex.1⟩,λa e2=>?_⟩;cases e2;exact⟨o,e,ex.2.1⟩
  · obtain⟨o,_,_,_,e,ex,_⟩:=I.hok p _ hk;refine⟨⟨o,e,ex.1⟩,λa e2=>?_⟩;cases e2;exact⟨o,e,ex.2.1⟩
 | _=>exact False.elim ty
def zM (K:Fg) (T:String) (r:V->List V->Hp->VK->Prop) (to:TE):TE:=λσ H Q=>to σ H λx H1=>tyV K T x H1/\r x [] H1 Q
def tBM (K:Fg) (T:String) (r:V->List V->Hp->VK->Prop) (to:TE) (t:TA):TE:=λσ H Q=>to σ H λx H1=>tyV K T x H1/\t σ H1 λxs H2=>r x xs H2 Q
variable {o e:Expr} {es:List Expr} {to:TE} {t:TA} {name:Str} {apos cpos:Pos} {T id:String} {r:V->List V->Hp->VK->Prop}
def xJ (pa:PlainAttrs T) (slot:Slot T name id) (hty:typeOf (.builtin id)=pure (.type "method_descriptor")) (hm:MtR X id r) (ho:PE X o to)
 (hbase:attributeBase o name X.env (eval o X.env)=eval o X.env:=by rfl) (hline:(apos.endLine==cpos.line)=true:=by rfl):PE X (.Call (.Attribute o name apos) [] [] cpos) (zM X.K T r to):=by
 intro pins s σ H Q I h;refine wpAny_Call_method0_late hbase hline (thn (ho pins s σ H _ I h) λv s1 zy82=>?_);obtain⟨x,H1,I1,r1,ty,q1⟩:=zy82;obtain⟨h1,h2⟩:=qt I1 r1 ty;exact⟨T,id,pa,slot,hty,h1,h2,Calls.callWith_builtin U (PySem.evalArgs_none (hm pins s1 σ H1 x [] v [] Q I1 r1 .nil q1))⟩
def AD (pa:PlainAttrs T) (slot:Slot T name id) (hty:typeOf (.builtin id)=pure (.type "method_descriptor")) (hm:MtR X id r) (ho:PE X o to) (ha:PA X (e::es) t)
 (hbase:attributeBase o name X.env (eval o X.env)=eval o X.env:=by rfl)
 (hfew:((backTo cpos (starEach (e::es) X.env)).all (λx=>!x.1)&&(backToKw cpos (keywordEach [] X.env)).all (λx=>x.1.isSome)
   && decide ((e::es).length+([]:List Keyword).length+(if ([]:List Keyword).isEmpty then 0 else 1)<30))=true:=by rfl)
 (hline:(apos.endLine==cpos.line)=true:=by rfl) (hs:starEach (e::es) X.env=(false,eval e X.env)::starEach es X.env:=by rfl) (hplain:(backTo cpos (starEach es X.env)).any (·.1)=false:=by rfl) :
 PE X (.Call (.Attribute o name apos) (e::es) [] cpos) (tBM X.K T r to t):=by
 intro pins s σ H Q I h;refine wpAny_Call_method_late hbase hfew hline U (thn (ho pins s σ H _ I h) λv s1 zy83=>?_);obtain⟨x,H1,I1,r1,ty,q1⟩:=zy83;obtain⟨h1,h2⟩:=qt I1 r1 ty;refine⟨T,id,pa,slot,hty,h1,h2,?_⟩;have hA:=ha cpos pins s1 σ H1 _ I1 q1;rw[hs] at hA ⊢;refine Calls.callWith_builtin (by show (false||(backTo cpos (starEach es X.env)).any (·.1))=false;rw[hplain] <;> rfl) (Calls.evalArgs_plain ?_);refine thn hA λus s2 zy84=>?_;obtain⟨vs,H2,I2,r2,q2⟩:=zy84;exact hm pins s2 σ H2 x vs v us Q I2 r1 r2 q2
end
def MtM (X:Cx) (id:String) (r:V->List V->Hp->VK->Prop):Prop :=
  ∀ (pins:AOs) (s:Shared) (σ:St) (H:Hp) (x:V) (xs:List V) (v:Value) (us:List Value) (Q:VK),Inv X pins σ H s->b7 x v->aT xs us->r x xs H Q ->
    wpAny (model X.prog X.w) X.A (call (.builtin id) (v::us)) (EP X pins σ Q) X.xe s
def aT.one:∀ {x:V} {us:List Value},aT [x] us->∃ u,us=[u]/\b7 x u:=by
 intro x us h;cases h with
 | cons r t=>cases t;exact⟨_,U,r⟩
def aT.two:∀ {x y:V} {us:List Value},aT [x,y] us->∃ u v,us=[u,v]/\b7 x u/\b7 y v:=by
 intro x y us h;cases h with
 | cons r t=>obtain⟨u,rfl,q⟩:=aT.one t;exact⟨_,_,U,r,q⟩
def aT.zero:∀ {us:List Value},aT [] us->us=[]
 | _,.nil=>rfl
def aT.dropLast {xs:List V} {us:List Value} (h:aT xs us):aT xs.dropLast us.dropLast:=by
 induction h with
 | nil=>exact .nil
 | cons r t ih =>
  cases t with
  | nil=>exact .nil
  | cons q t'=>exact .cons r ih
def mT {α:Type} (l:List α):l.eraseIdx (l.length-1)=l.dropLast:=by
 induction l with
 | nil=>rfl
 | cons a r ih =>
  cases r with
  | nil=>rfl
  | cons b r =>
   have e:(a::b::r).length-1=((b::r).length-1)+1:=by
    have h1:(a::b::r).length=r.length+2:=rfl;have h2:(b::r).length=r.length+1:=rfl;lia
   rw[e,List.eraseIdx_cons_succ,ih]
   all_goals rfl
section
variable {X:Cx} {pins:AOs} {σ:St} {H:Hp} {s:Shared} {l b:Addr} {xs ys zs:List V}
def Inv.lset {its its':List Value} {n:Nat} {f:Array Value->Array Value} {t':Nat} (I:Inv X pins σ H s) (hH:H l=some (.lst xs))
 (e:s.heap.get? l=some {cls:=.type "list",data:=.seq its.toArray n}) (hf:f its.toArray=its'.toArray) (hv:aT ys its') (hz:ys.length<=sizeLine) :
 Inv X pins σ (upd H l (.lst ys)) {s with heap:=s.heap.update l (Obj.mapSeq f),toks:=t'}:=by
 have q:=PySem.IsL.update e f;rw[hf] at q;refine I.write (x:=l) (e:=l) (by rw[hH];exact trivial) (.inl U) (λb' u hb hu=>(Heap.get?_update_other s.heap (Obj.mapSeq f) (Ne.symm hb)).trans hu) ⟨_,q⟩ ?_;exact⟨hz,its',_,hv,q⟩
def Inv.lnew {its:List Value} {t':Nat} (I:Inv X pins σ H s) (hv:aT ys its) (hz:ys.length<=sizeLine) :
 Inv X pins σ (upd H s.heap.objs.size (.lst ys)) {s with heap:=s.heap.push {cls:=.type "list",data:=.seq its.toArray},toks:=t'} :=
 I.laid (λ_ _ q=>hpS _ q) (Nat.le_refl _) ⟨hz,its,0,hv,Heap.get?_push_size _ U⟩
def Inv.fresh (I:Inv X pins σ H s):H s.heap.objs.size=none:=I.hok.fresh (Nat.le_refl _)
def Inv.lstM (I:Inv X pins σ H s) (hH:H l=some (.lst xs)):xs.length<=sizeLine/\∃ (its:List Value) (n:Nat),aT xs its/\xs.length=its.length/\s.heap.get? l=some {cls:=.type "list",data:=.seq its.toArray n}:=by
 obtain⟨z,its,n,r,e⟩:=I.hok l _ hH;exact⟨z,its,n,r,r.length,e⟩
end
section
variable {X:Cx}
inductive BU (x:V) (vs:List V) (H:Hp) (Q:VK):Prop
  | mk (l:Addr) (xs:List V) (y:V) (h1:x=.ref l) (h2:vs=[y]) (h3:H l=some (.lst xs)) (h4:xs.length<sizeLine) (q:Q .non (upd H l (.lst (xs++[y])))):BU x vs H Q
def nU:V->List V->Hp->VK->Prop:=λx vs H Q=>BU x vs H Q
def jt:MtM X "list.append" nU:=by
 intro pins s σ H x vs v us Q I rx rv h;obtain⟨l,xs,y,rfl,rfl,hH,hz,q⟩:=h;cases rx;obtain⟨u,rfl,ru⟩:=rv.one;obtain⟨z,its,n,r,hl,e⟩:=I.lstM hH;refine call_meets F.slot_list_append ⟨_,e,U⟩ F.entry_list_append (F.args_list_append_2 _ _) (PySem.list_append l its.toArray n u (by rw[List.size_toArray];lia)) ⟨e,?_⟩;refine⟨.non,_,I.lset (its':=its++[u]) hH e (by simp) (r.append (.cons ru .nil)) ?_,U,q⟩;rw[lAp,List.length_singleton];lia
def Au:V->List V->Hp->VK->Prop:=λx vs H Q=>∃ l xs y,x=.ref l/\vs=[]/\H l=some (.lst xs)/\xs[xs.length-1]?=some y/\Q y (upd H l (.lst xs.dropLast))
def yg:MtM X "list.pop" Au:=by
 intro pins s σ H x vs v us Q I rx rv h;obtain⟨l,xs,y,rfl,rfl,hH,hy,q⟩:=h;cases rx;have hus:=rv.zero;subst hus;obtain⟨z,its,n,r,hl,e⟩:=I.lstM hH;obtain⟨u,hu,ru⟩:=r.get hy;have hy':its.toArray[its.toArray.size-1]?=some u:=by
  show its.toArray[its.length-1]?=some u;rw[<- Array.getElem?_toList,<- hl];exact hu
 refine call_meets F.slot_list_pop ⟨_,e,U⟩ F.entry_list_pop (F.args_list_pop_1 _) (MeetsSeq.list_pop_last l its.toArray n u hy' (by rw[List.size_toArray];lia)) ⟨e,?_⟩;refine⟨y,_,I.lset (its':=its.dropLast) hH e ?_ r.dropLast ?_,ru,q⟩
 · show its.toArray.eraseIdxIfInBounds (its.toArray.size-1)=its.dropLast.toArray;rw[List.size_toArray,List.eraseIdxIfInBounds_toArray,mT]
 · rw[List.length_dropLast];lia
end
section
variable {prog:Program} {w:World} {A:Around} {E:VSP} {s:Shared}
set_option maxRecDepth 100000 in
end
section
variable {X:Cx}
end
end L2
namespace Att
open PySem PySem.W PySem.Calls PyProof.Rows
def ik {P:Params} {h:Heap}:∀ (ns:List Int) (vs:List Value),WellAll P h vs (ns.map WData.int)->IntsAre vs ns:=by
 intro ns
 induction ns with
 | nil =>
  intro vs w;rw[List.map_nil] at w;cases w;exact .nil
 | cons n ns ih =>
  intro vs w;rw[List.map_cons] at w;cases w with
  | cons a b =>
   cases a;exact .cons _ _ (ih _ b)
def oV {l:OpenLaw} {n:Nat} (hn:l.most=some n) {P:Params} {h:Heap} {args:List WData} {vals:List Value}
 (hpre:l.row.toRowW.claim.pre args=true) (hwl:WellAll P h vals args) :
 ∃ a vs ns,vals=[Value.ref a]/\args=[WData.list (ns.map WData.int)]/\h.get? a=some {cls:=.type "list",data:=.seq vs.toArray}/\IntsAre vs ns/\ns.length<=n:=by
 have hsh:WShape.hasAll [] args [.list .int]=true:=(pre_splitW hpre).1;have hc:l.pre.holds [] {args:=args}=true:=(pre_splitW hpre).2;obtain⟨d,r,rfl,h1,h2⟩:=hasAllW_cons hsh;obtain rfl:=hasAllW_nil h2;obtain⟨xs,rfl,h3⟩:=hasW_list h1;obtain⟨ns,rfl⟩:=items_int h3;have hlen:ns.length<=n:=by
  unfold OpenLaw.pre at hc;have h4:(WTm.not (.lt (.lit (.int (n:Int))) (.len (.arg 0)))).holds [] {args:=[.list (ns.map .int)]}=true:=by
   have h4:=(holds_andW hc).1;rw[hn] at h4;exact h4
  have h5:=condW_of h4 (w_not (w_lt w_lit (w_len_list (w_arg U))));rw[lMp] at h5;refine Nat.le_of_not_lt λq=>?_;have q':(n:Int)<((ns.length:Nat):Int):=by lia
  first
   | (rw[decide_eq_true q'] at h5;exact absurd h5 ∅)
   | (simp at h5;lia)
 cases hwl with
 | cons w1 w2 =>
  cases w2;cases w1 with
  | list ho hall=>exact⟨_,_,ns,U,U,ho,ik ns _ hall,hlen⟩
def p6 (l:OpenLaw) (args:List WData):l.row.toRowW.claim.post args (.bool true) args=true :=
 postW_of (r:=l.row.toRowW) (X:=(true==true))
  (show WShape.has [] (.bool true) .bool=true by first | rfl | decide | simp[WShape.has,WShape.arms,WShape.armsAll])
  (show (WTm.eq .res (.lit (.bool true))).value [] {args:=args,res:=some (.bool true),after:=args}=some (.bool (true==true)) from w_eq_bool (w_res U) w_lit) rfl
def attach_call {l:OpenLaw} {n:Nat} {q:Program} {loose:List Str} {XP:(Str->Option Value)->Heap->Prop} {YP:World->Heap->Prop} {d:DefRec}
 (hn:l.most=some n) (hdf:d.params.defaults=[])
 (call:∀ (w:World) (s₀ s₁:Shared) (mg mb:SOV) (fa:Addr) (o:Obj) (pm cd doc:Value) (a:Addr) (vs:List Value) (ns:List Int),
   Ground q loose [] XP w s₀ mg mb s₁.heap->YP w s₁.heap ->
   s₁.heap.get? fa=some o->o.data=.func (docDef d.name d.params d.body d.scope pm cd doc)->s₁.heap.CodeRec cd d.name->mg d.name=some (.ref fa) ->
   s₁.heap.get? a=some {cls:=.type "list",data:=.seq vs.toArray}->IntsAre vs ns->ns.length<=n->s₁.gens=#[] ->
   codeAny (model l.prog w) callerA (.call (.ref fa) ⟨[.ref a],[]⟩) (λr s'=>r=.ok (.ret (.bool true))/\OldK s₁.heap s'.heap/\s'.os=s₁.os/\AllBare s'.gens) s₁) :
 WalkO q loose XP YP l.row.toRowW d [] (λf vs=>PySem.call f vs):=by
 intro w s₀ s₁ mg mb G Y fa o pm cd doc dV kV ho hd hcd hD hmg hg args vals as hpre hlay hrd hwl hlo;obtain rfl:dV=.none:=Dflts.none hD hdf;obtain rfl:kV=.none:=Dflts.noKw hD;obtain⟨a,vs,ns,rfl,rfl,hobj,hints,hlen⟩:=oV hn hpre hwl;refine enter_call (codeAny_mono (call w s₀ s₁ mg mb fa o pm cd doc a vs ns G Y ho (fd_plain hd) hcd hmg hobj hints hlen hg) λr s' hq=>?_);obtain⟨rfl,h2,h3,h4⟩:=hq;exact⟨.inl ⟨.bool true,.bool true,[],U,λ_=>rfl,.bool true,p6 l _,λ_=>⟨List.Pairwise.nil,λ_ hm=>(nomatch hm)⟩⟩,h2,h3,h4⟩
section
variable {prog:Program} {w:World} {A:Around} {E:VSP} {s:Shared} {K:Frag}
end
end Att
namespace L2
open PySem PySem.Spec PyProof.Rows
def oQ:∀ {vs:List Value} {ns:List Int},IntsAre vs ns->aT (ns.map V.int) vs:=by
 intro vs ns h
 induction h with
 | nil=>exact .nil
 | cons n t h ih=>exact .cons ⟨t,U⟩ ih
def z7 (H:Hp):Prop:=∀ b,H b=none\/∃ o xs,H b=some (.frz o (.lst xs))
def rQ {P:Program} {w:World} {K:Fg} {mg mb:SOV} {CX:CXT} {k:Nat} {fa a:Addr} {fd:FuncData} {x:Str} {sp:Sp} {s₁:Shared} {vs:List Value} {ns:List Int}
 (KX:K.In s₁.heap) (hns:s₁.heap.Ns mainGlobals mg) (hb:s₁.heap.Ns builtinsNs mb) (hbb:∀ x:Str,x≠"__name__"->mb x=bootBuiltins x) (hlim:s₁.heap.NoLimit) (hg:s₁.gens=#[])
 (ha:s₁.heap.get? a=some {cls:=.type "list",data:=.seq vs.toArray}) (hi:IntsAre vs ns) (hl:ns.length<=sizeLine) (hr:cH k callerA)
 (F:∀ base:Heap,K.In base->base.Ns mainGlobals mg->eW P w K mg base CX k fa fd [x] sp) (hbind:∀ (s:Shared) (u:Value),BindsTo s fd ⟨[u],[]⟩ [(x,u)])
 (hsp:∀ H:Hp,z7 H->SqL K H a (ns.map V.int)->sp [.ref a] H (λv _=>v=.bl true) λ_ _ _=>False)
 (hCX:∀ H e s',CX [] H s₁ (λ_ _ _=>False) e s'->False) :
 codeAny (model P w) callerA (.call (.ref fa) ⟨[.ref a],[]⟩) (λr s'=>r=.ok (.ret (.bool true))/\OldK s₁.heap s'.heap/\s'.os=s₁.os/\AllBare s'.gens) s₁:=by
 have rv:=oQ hi;have lenV:=hi.length;have core:∀ H:Hp,z7 H->SqL K H a (ns.map V.int)->HOk P w H s₁.heap->(∀ b,H b≠none->b=a)->(H a≠none->K.lookup a=none) ->
  codeAny (model P w) callerA (.call (.ref fa) ⟨[.ref a],[]⟩) (λr s'=>r=.ok (.ret (.bool true))/\OldK s₁.heap s'.heap/\s'.os=s₁.os/\AllBare s'.gens) s₁:=by
  intro H hO hS hok hA hK;have base_of:∀ {b:Addr} {o:Obj},s₁.heap.get? b=some o->H b=none->(jW s₁.heap H).get? b=some o:=λe n=>rX e n;have noA:∀ {b:Addr} {o:Obj} {es:Array DictEntry} {ep:Nat},s₁.heap.get? b=some o->o.data=.dict es ep->H b=none:=λ{b o es ep} e d=>by
   cases q:H b with
   | none=>rfl
   | some u =>
    have e':b=a:=hA b (by rw[q];simp);subst e';rw[ha] at e;cases e;have d':Data.seq vs.toArray _=Data.dict es ep:=d;cases d'
  have nsK:∀ {b:Addr} {m:SOV},s₁.heap.Ns b m->(jW s₁.heap H).Ns b m:=λ{b m} ⟨o,es,ep,e,d,r⟩=>⟨o,es,ep,base_of e (noA e d),d,r⟩;have hKb:K.In (jW s₁.heap H):=λb o e=>base_of (KX b o e) (by
    cases q:H b with
    | none=>rfl
    | some u =>
      have e':b=a:=hA b (by rw[q];simp);subst e';rw[hK (by rw[q];simp)] at e;cases e)
  have hM:Mod K mg (jW s₁.heap H):=⟨hKb,nsK hns,⟨mb,nsK hb,hbb⟩,let ⟨mc,h1,h2⟩:=hlim;⟨mc,nsK h1,h2⟩⟩;have e0:nC P w K mg (jW s₁.heap H) callerA [] s₁ H:=⟨U,hM,λb o e=>uH e,Nat.le_of_eq (pP _ _),trivial,λb hb=>absurd (show b∈([]:List Addr) from hb) (by simp),hok,.of_eq hg⟩;refine codeAny_mono ((F _ hKb (nsK hns)).run callerA [] s₁ H ⟨[.ref a],[]⟩ [.ref a] [.ref a] _ _ hr e0 (hbind s₁ (.ref a)) (.cons U .nil) (hsp H hO hS)) λr s' h=>?_;cases r with
  | error e=>exact (hCX H e s' h).elim
  | ok fl =>
   cases fl with
   | next=>exact False.elim h
   | brk=>exact False.elim h
   | cont=>exact False.elim h
   | ret u =>
    obtain⟨v,H',os,bare,un,hok',r',q⟩:=h;have q':v=.bl true:=q;subst q';obtain rfl:u=Value.bool true:=r';refine⟨U,OldK.of_keep λb o e=>?_,os,bare⟩;cases q:H b with
    | none=>exact un.keep b o e q (by intro z;exact absurd (show b∈([]:List Addr) from z) (by simp)) (by simp)
    | some u =>
     rcases hO b with z | ⟨ob,xs,z⟩
     · rw[q] at z;cases z
     · have z2:=un.frzs b ob _ z;obtain⟨e1,_⟩:=hok b _ z;obtain⟨e2,_⟩:=hok' b _ z2;rw[e] at e1;cases e1;exact e2
 cases hk:K.lookup a with
 | some o =>
  have e:=KX a o hk;rw[ha] at e;cases e;refine core (λ_=>none) (λ_=>.inl U) (.inr ⟨_,vs.toArray,_,hk,U,U,U,by rw[List.size_toArray,lenV];exact hl,by simpa using rv⟩) (λb u z=>by have z':(none:Option HO)=some u:=z;cases z') (λb z=>absurd U z) λz=>absurd rfl z
 | none =>
  refine core (λb=>if b=a then some (.frz {cls:=.type "list",data:=.seq vs.toArray} (.lst (ns.map V.int))) else none) (λb=>?_) (.inl (.inr ⟨{cls:=.type "list",data:=.seq vs.toArray},if_pos U⟩)) (λb u z=>?_) (λb z=>?_) λ_=>hk
  · by_cases hb:b=a
    · exact .inr ⟨_,_,if_pos hb⟩
    · exact .inl (if_neg hb)
  · by_cases hb:b=a
    · have z':=(if_pos hb).symm.trans z;cases z';subst hb;exact⟨ha,by rw[lMp];exact hl,vs,_,rv,ha⟩
    · have z':=(if_neg hb).symm.trans z;cases z'
  · by_cases hb:b=a
    · exact hb
    · exact absurd (if_neg hb) z
abbrev KOf {K:Fg} {h:Heap} (_:K.In h):Fg:=K
def nF {l:PySem.W.OpenLaw} {n k:Nat} {q:Program} {loose:List Str} {XP:(Str->Option Value)->Heap->Prop} {YP:World->Heap->Prop} {d:DefRec} {K:Params->Fg} {CX:World->CXT} {sp:World->Sp} {x:Str}
 (hn:l.most=some n) (hn2:n<=sizeLine) (hdf:d.params.defaults=[]) (hr:cH k callerA)
 (hY:∀ (w:World) (h:Heap),YP w h->(K w.params).In h)
 (F:∀ (w:World) (mg:SOV) (fa:Addr) (h:Heap),(K w.params).In h->h.Ns mainGlobals mg->mg d.name=some (.ref fa) ->
   ∃ fd:FuncData,(∀ (s:Shared) (u:Value),BindsTo s fd ⟨[u],[]⟩ [(x,u)]) /\
     ∀ base:Heap,(K w.params).In base->base.Ns mainGlobals mg->eW l.prog w (K w.params) mg base (CX w) k fa fd [x] (sp w))
 (hsp:∀ (w:World) (H:Hp) (a:Addr) (ns:List Int),ns.length<=n->z7 H->SqL (K w.params) H a (ns.map V.int)->sp w [.ref a] H (λv _=>v=.bl true) λ_ _ _=>False)
 (hCX:∀ (w:World) (H:Hp) (s:Shared) (e:Value) (s':Shared),CX w [] H s (λ_ _ _=>False) e s'->False) :
 PySem.W.WalkO q loose XP YP l.row.toRowW d [] (λf vs=>PySem.call f vs):=by
 refine Att.attach_call hn hdf λw s₀ s₁ mg mb fa o pm cd doc a vs ns G Y ho hd hcd hmg hobj hints hlen hg=>?_;have KX:=hY w _ Y;obtain⟨fd,hb,hF⟩:=F w mg fa _ KX G.T.g hmg;exact rQ KX G.T.g G.T.b G.T.builtins G.T.nolimit hg hobj hints (Nat.le_trans hlen hn2) hr hF hb (λH hO hS=>hsp w H a ns hlen hO hS) λH e s'=>hCX w H s₁ e s'
abbrev CX0:CXT:=λ_ _ _ _ _ _=>False
abbrev E0:XK:=λ_ _ _=>False
def lh {X:Cx}:gl CX0 X E0:=λ_ _ _ _ _ _ _ h=>h.elim
structure Fun (K:Fg) (x qual:Str) (st:Stmt) (f:Addr) (fd:FuncData):Prop where
  ex:∃ (oc:Value) (od:Option Addr) (kV doc pm:Value) (an:Option Addr) (cdv ct:Value) (osl:Array (Option Value)),
    fd=PySem.W.fnOf x qual (cK st) (aM st) (am st) .none kV doc pm an cdv ct/\K.lookup f=some ⟨oc,od,.func fd,osl⟩/\PySem.W.codeIn K cdv qual=true
  kp:PySem.W.keepIn K (.ref f)=true
section
variable {P:Program} {w:World} {K:Fg} {mg:SOV} {base:Heap}
def Fun.ok {x qual:Str} {st:Stmt} {f:Addr} {fd:FuncData} {N ps:List Str} {k:Nat} {sp:Sp} (F:Fun K x qual st f fd) (S:bv N ps (am st)) (len:∀ vs H Q E,sp vs H Q E->vs.length=ps.length)
 (hbody:∀ (cdv:Value) (A:Around) (outer:List Env) (s:Shared) (H:Hp) (vs:List V) (Q:VK) (E:XK),cH k (A.deeper (envOfC qual (am st) s.heap.objs.size f cdv))->sp vs H Q E ->
   ∃ t,PSs (cy CX0 P w K mg base N qual (am st) f cdv A outer s H E).nox (aM st) t/\t {nx:=λ_ H'=>Q .non H',rt:=Q} (di N vs) H):eW P w K mg base CX0 (k+1) f fd ps sp:=by
 obtain⟨oc,od,kV,doc,pm,an,cdv,ct,osl,rfl,lk,hcd⟩:=F.ex;refine By lk hcd S len λA outer s H vs Q E hr hsp=>?_;obtain⟨t,h,q⟩:=hbody cdv A outer s H vs Q E hr hsp;exact⟨t,h.nox,q⟩
def Fun.binds {x qual:Str} {st:Stmt} {f:Addr} {fd:FuncData} {ps:List Str} (F:Fun K x qual st f fd)
 (h:∀ (kV doc pm:Value) (an:Option Addr) (cdv ct:Value) (us:List Value),us.length=ps.length->bindArgs (PySem.W.fnOf x qual (cK st) (aM st) (am st) .none kV doc pm an cdv ct) ⟨us,[]⟩=pure (ps.zip us)):dO K fd ps []:=by
 obtain⟨oc,od,kV,doc,pm,an,cdv,ct,osl,rfl,lk,hcd⟩:=F.ex;exact .all (h kV doc pm an cdv ct)
def dE {x qual:Str} {st:Stmt} {f:Addr} {oc:Value} {od an:Option Addr} {osl:Array (Option Value)} {kV doc pm cdv ct:Value} (l:K.lookup f=some ⟨oc,od,.func (PySem.W.fnOf x qual (cK st) (aM st) (am st) .none kV doc pm an cdv ct),osl⟩)
 (c:PySem.W.codeIn K cdv qual=true) (k:PySem.W.keepIn K (.ref f)=true):Fun K x qual st f (PySem.W.fnOf x qual (cK st) (aM st) (am st) .none kV doc pm an cdv ct):=⟨⟨oc,od,kV,doc,pm,an,cdv,ct,osl,U,l,c⟩,k⟩
end
def cD {A:Around} {k:Nat} (hr:cH k A):A.units+1<cLine:=Nat.lt_of_le_of_lt (Nat.add_le_add_left (by decide:1<=64) _) hr.units
section
variable {X:Cx}
def pv (i:Nat) {x:Str} {pos:Pos} (hN:X.N[i]?=some x:=by rfl) (hv:Vis X.env.scope x:=by first | exact Or.inl U | exact Or.inr (.inl U) | exact Or.inr (Or.inr U)) (hd:(x==("__debug__":Str))=false:=by decide)
 (hcd:(x==("__classdict__":Str))=false:=by decide):PE X (.Name x pos) (dr i):=xH hN hv hd hcd
end
def ai {A B:Prop} (h:B):if false=true then A else B:=by
 rw[if_neg Bool.false_ne_true];exact h
def aL {A B:Prop} (h:A):if true=true then A else B:=by
 rw[if_pos U];exact h
def cZ {c A B:Prop} [Decidable c] (h1:c->A) (h2:¬ c->B):if c then A else B:=by
 by_cases h:c
 · rw[if_pos h];exact h1 h
 · rw[if_neg h];exact h2 h
def aI (H H':Hp):Prop:=∀ b o,H b=some o->H' b=some o
def aI.refl (H:Hp):aI H H:=λ_ _ h=>h
def aI.trans {H H1 H2:Hp} (a:aI H H1) (b:aI H1 H2):aI H H2:=λc o h=>b c o (a c o h)
def aI.seq {K:Fg} {H H':Hp} {a:Addr} {xs:List V} (e:aI H H') (h:SqL K H a xs):SqL K H' a xs:=by
 rcases h with (h | ⟨o,h⟩) | h
 · exact .inl (.inl (e _ _ h))
 · exact .inl (.inr ⟨o,e _ _ h⟩)
 · exact .inr h
end L2
def eG {P:Prop} (h:∀ G:Prop,(P->G)->G):P:=h P id
set_option maxHeartbeats 4000000
namespace L2
open PySem PySem.Spec PyProof.Rows
def blk (X:Cx) (sc:Scope) (cl:List (Str×Addr)) (N':List Str) (fp:List Addr) (pins:AOs) (s:Shared) (H:Hp):Cx where
  prog:=X.prog
  w:=X.w
  K:=X.K
  mg:=X.mg
  base:=X.base
  A:=X.A
  N:=N'
  s₀:=s
  H₀:=H
  env:=compEnvC sc cl s.heap.objs.size X.env
  outer:=X.stack
  stack:=X.stack
  ex:=fp
  fn:=λ_=>false
  calm:=X.calm
  pn:=X.pn++pins
  xe:=λ_ _=>False
def dq (cells:List (Str×Addr)):List (Str×NameKind)->List (Str×Addr)->List (Str×Addr)
  | [],acc=>acc
  | (n,k)::r,acc=>dq cells r (if k==.free then (match cells.lookup n with | some c=>(n,c)::acc | none=>acc) else acc)
def lO (cells:List (Str×Addr)):∀ (ns:List (Str×NameKind)) (acc:List (Str×Addr)),(∀ x c,(x,c)∈acc->cells.lookup x=some c)->∀ x c,(x,c)∈dq cells ns acc->cells.lookup x=some c
 | [],acc,h,x,c,m=>h x c m
 | (n,k)::r,acc,h,x,c,m=>by
  unfold dq at m;refine lO cells r _ (λy d q=>?_) x c m;split at q
  · split at q
    · rename_i c' e
      rcases List.mem_cons.mp q with z | z
      · cases z;exact e
      · exact h y d z
    · exact h y d q
  · exact h y d q
def lP (cells:List (Str×Addr)):∀ (ns:List (Str×NameKind)) (acc:List (Str×Addr)) (x:Str) (c:Addr),(x,c)∈acc->∃ d,(x,d)∈dq cells ns acc
 | [],acc,x,c,m=>⟨c,m⟩
 | (n,k)::r,acc,x,c,m=>by
  unfold dq;refine lP cells r _ x c ?_;split
  · split
    · exact mCM _ m
    · exact m
  · exact m
def j5 (cells:List (Str×Addr)):∀ (ns:List (Str×NameKind)) (acc:List (Str×Addr)) (x:Str) (c:Addr),(x,NameKind.free)∈ns->cells.lookup x=some c->∃ d,(x,d)∈dq cells ns acc
 | [],acc,x,c,m,e=>by cases m
 | (n,k)::r,acc,x,c,m,e=>by
  rcases List.mem_cons.mp m with z | z
  · cases z;unfold dq;refine lP cells r _ n c ?_;rw[if_pos ∅,e];exact mCS
  · unfold dq;exact j5 cells r _ x c z e
def gc:∀ {l:List (Str×Addr)} {x:Str} {c:Addr},(x,c)∈l->∃ d,l.lookup x=some d
 | (y,d)::r,x,c,m=>by
  by_cases h:x=y
  · subst h;exact⟨d,by simp[List.lookup_cons]⟩
  · rcases List.mem_cons.mp m with z | z
    · cases z;exact absurd U h
    · obtain⟨d',e⟩:=gc z;refine⟨d',?_⟩;have:(x==y)=false:=by simpa using h
      simp[List.lookup_cons,this,e]
def ie (env:Env):∀ (ns:List (Str×NameKind)) (acc:List (Str×Addr)),(∀ y∈ns,y.2=.free->∃ c,env.cells.lookup y.1=some c) ->
 (forIn (m:=Sem) ns acc λ(x:Str×NameKind) r=>if (x.2==.free)=true then (do let a <- cellOf env x.1;pure (ForInStep.yield ((x.1,a)::r))) else pure (ForInStep.yield r))=pure (dq env.cells ns acc)
 | [],acc,_=>rfl
 | (n,k)::r,acc,h=>by
  rw[List.forIn_cons];have ih:=λacc=>ie env r acc λy hy=>h y (mCM _ hy);unfold dq;by_cases hk:k=.free
  · subst hk;obtain⟨c,e⟩:=h (n,.free) mCS rfl;have e':env.cells.lookup n=some c:=e;simp only[cellOf,e',beq_self_eq_true,if_true,pure_bind];exact ih _
  · have hb:(k==NameKind.free)=false:=by simpa using hk
    simp only[hb,Bool.false_eq_true,if_false,pure_bind];exact ih _
def mW {env:Env} {sc:Scope} (h:∀ y∈sc.names,y.2=.free->∃ c,env.cells.lookup y.1=some c):closureFor sc env=pure (dq env.cells sc.names []):=by
 have q:=ie env sc.names [] h;unfold closureFor
 first
  | (rw[show (forIn (m:=Sem) sc.names ([]:List (Str×Addr)) _)=_ from q];rfl)
  | (simp only[bind_pure];exact q)
  | exact q
section
variable {X:Cx} {pins:AOs} {σ:St} {H:Hp} {s:Shared}
def gg {sc:Scope} {x:Str} {c:Addr} (e:(dq X.env.cells sc.names []).lookup x=some c):X.env.cells.lookup x=some c :=
 lO _ _ _ (λ_ _ m=>by cases m) x c (PySem.mem_of_lookup e)
def gQ (k:Nat) (outs:List (Nat×Str)) (σ:St):St:=List.replicate k none++outs.map λp=>(σ[p.1]?).getD none
def gh (own:List Str) (outs:List (Nat×Str)):List Str:=own++outs.map (·.2)
structure br (X:Cx) (sc:Scope) (own:List Str) (outs:List (Nat×Str)):Prop where
  kind:sc.kind=.function
  nocell:∀ y∈sc.names,y.2≠.cell
  loc:∀ y∈sc.names,y.2=.local->sc.names.lookup y.1=some .local
  fr:∀ y∈sc.names,y.2=.free->X.env.kindOf y.1=some .cell\/X.env.kindOf y.1=some .free
  outNo:∀ p∈outs,(relabel sc X.env).names.lookup p.2≠some .local
  outN:∀ p∈outs,X.N[p.1]?=some p.2/\(X.env.scope.names.lookup p.2=some .cell\/X.env.scope.names.lookup p.2=some .free)
def gf {α:Type}:∀ {l:List (Str×α)} {x:Str} {k:α},l.lookup x=some k->(x,k)∈l
 | (y,d)::r,x,k,e=>by
  by_cases h:x=y
  · subst h;simp[List.lookup_cons] at e;subst e;exact mCS
  · have:(x==y)=false:=by simpa using h
    simp[List.lookup_cons,this] at e;exact mCM _ (gf e)
 | [],x,k,e=>by simp at e
def dJ {sc:Scope} {env:Env} {x:Str} {k:NameKind} (nc:∀ y∈sc.names,y.2≠.cell) (hk:k=.cell\/k=.free) (e:(relabel sc env).names.lookup x=some k):(x,NameKind.free)∈sc.names:=by
 have m:=gf e;unfold relabel at m;obtain⟨⟨n,k'⟩,m1,m2⟩:=List.mem_map.mp m;by_cases c:(k'==NameKind.free&&env.scope.kind==.function&&env.kindOf n==some .cell)=true
 · dsimp only at m2;rw[if_pos c] at m2;cases m2;have:k'=.free:=by
    have:=(Bool.and_eq_true_iff.mp (Bool.and_eq_true_iff.mp c).1).1
    simpa using this
   subst this;exact m1
 · dsimp only at m2;rw[if_neg c] at m2;cases m2
   rcases hk with z | z
   · subst z;exact absurd U (nc _ m1)
   · subst z;exact m1
def uN {sc:Scope} {own:List Str} {outs:List (Nat×Str)} {fp:List Addr} {h':Heap} {t':Nat} (I:Inv X pins σ H s) (S:br X sc own outs) (hf:∀ b∈fp,jb X pins H b) (hfo:∀ b∈fp,b<s.heap.objs.size)
 (hn:h'.Ns s.heap.objs.size λ_=>none) (hk:∀ b o,s.heap.get? b=some o->h'.get? b=some o) :
 Inv (blk X sc (dq X.env.cells sc.names []) (gh own outs) fp pins s H) [] (gQ own.length outs σ) H {s with heap:=h',toks:=t'}:=by
 have hcells:∀ y∈sc.names,y.2=.free->∃ c,X.env.cells.lookup y.1=some c:=λy hy e=>I.ok.has y.1 (S.fr y hy e);have ltL:∀ b,b<s.heap.objs.size->b≠s.heap.objs.size:=λb hb=>Nat.ne_of_lt hb;refine⟨⟨I.mod,?_,I.ok.glob,I.ok.blt,Nat.le_refl _,λx y c e1 e2=>I.ok.inj x y c (gg e1) (gg e2),λx hx=>?_,λx c z _=>absurd z Bool.false_ne_true,I.ok.hd,I.ok.frames,.inl U,λb hb=>⟨ltL b (hfo b hb),λx c e=>(hf b hb).2.2.2.2.1 x c (gg e)⟩,I.bs,
     Nat.le_trans I.ok.bsz I.sz,λb o e hb=>?_,λb hb z=>?_,I.stack,I.stkFree⟩,U,I.bare,Un.kept hk,⟨_,hn,λi x v e1 e2 e3=>?_⟩,λx c e=>?_,I.hok.fresh (Nat.le_refl _),λx c e=>I.freeC x c (gg e),λp hp=>?_,I.hok.kept hk,?_⟩
 · exact S.kind
 · have hm:(x,NameKind.free)∈sc.names:=by
    rcases hx with e | e
    · exact dJ S.nocell (.inl U) e
    · exact dJ S.nocell (.inr U) e
   obtain⟨c,e⟩:=hcells (x,.free) hm rfl;obtain⟨d,m⟩:=j5 X.env.cells sc.names [] x c hm e;exact gc m
 · rcases (hf b hb).2.2.2.1 with z | z
   · exact I.ok.noex b o e z
   · exact absurd (Nat.lt_of_lt_of_le (Heap.lt_size e) (Nat.le_trans I.ok.bsz z)) (Nat.lt_irrefl _)
 · rcases List.mem_cons.mp (I.stkSub b z) with e | e
   · exact (hf b hb).2.1 e
   · exact (hf b hb).2.2.1 e
 · 
   have e2':i<(gQ own.length outs σ).length:=(gES.mp e2).1;by_cases hi:i<own.length
   · unfold gQ at e2;rw[List.getElem?_append_left (by simpa using hi),List.getElem?_replicate] at e2;split at e2 <;> cases e2
   · have hi':own.length<=i:=Nat.not_lt.mp hi;unfold gQ at e2;rw[List.getElem?_append_right (by simpa using hi'),List.length_replicate,gEM] at e2;have e1':(gh own outs)[i]?=some x:=e1;unfold gh at e1';rw[List.getElem?_append_right hi',gEM] at e1';cases q:outs[i-own.length]? with
     | none=>rw[q] at e1';cases e1'
     | some p =>
      rw[q] at e1' e2;have ex:p.2=x:=Option.some.inj e1';have ev:(σ[p.1]?).getD none=some v:=Option.some.inj e2;have hσ:σ[p.1]?=some (some v):=by
       cases z:σ[p.1]? with
       | none=>rw[z] at ev;cases ev
       | some o=>rw[z] at ev;exact congrArg some ev
      obtain⟨hN,hkd⟩:=S.outN p (mGE q);rw[ex] at hN hkd;obtain⟨m,_,hl⟩:=I.loc;obtain⟨u,r,l⟩:=hl p.1 x v hN hσ (hkd.elim (λz=>.inr (.inl z)) λz=>.inr (.inr z));refine⟨u,r,?_⟩
      rcases l with ⟨k,_⟩ | ⟨_,c,ec,z⟩
      · have k':X.env.scope.names.lookup x=some .local:=k
        rcases hkd with y | y <;> (rw[k'] at y;cases y)
      · have hloc:(relabel sc X.env).names.lookup x=some .local\/(relabel sc X.env).names.lookup x=some .cell\/(relabel sc X.env).names.lookup x=some .free:=e3;have zc:h'.IsCell c (some u):=by
         obtain⟨o,ho,hd⟩:=z;exact⟨o,hk c o ho,hd⟩
        rcases hloc with y | y
        · 
          exact absurd y (λy=>S.outNo p (mGE q) (by rw[ex];exact y))
        · have hm:(x,NameKind.free)∈sc.names:=by
           rcases y with e | e
           · exact dJ S.nocell (.inl U) e
           · exact dJ S.nocell (.inr U) e
          obtain⟨d,md⟩:=j5 X.env.cells sc.names [] x c hm ec;obtain⟨d',ed⟩:=gc md;have e0:=gg (X:=X) (sc:=sc) ed;rw[ec] at e0;have e0':c=d':=Option.some.inj e0;subst e0';exact .inr ⟨y,c,ed,zc⟩
 · obtain⟨v,o,ho,hd⟩:=I.cell x c (gg e);exact⟨v,o,hk c o ho,hd⟩
 · have hp':p∈X.pn++pins:=by
    rcases mAp.mp hp with z | z
    · exact z
    · cases z
   obtain⟨e,n,ne,nf,d⟩:=I.pin p hp';refine⟨hk p.1 p.2 e,n,ltL p.1 (Heap.lt_size e),λz=>?_,d⟩
   rcases List.mem_cons.mp (I.stkSub p.1 z) with y | y
   · exact ne y
   · exact nf y
 · show (gQ own.length outs σ).length=(gh own outs).length;unfold gQ gh;simp
end
abbrev rW (ifs:List Expr) (env:Env):Sem Bool :=
  forIn ifs true λc r=>if r=true then do let ok <- isTrue c env (eval c env);pure (ForInStep.yield ok) else pure (ForInStep.yield r)
def sY (X:Cx) (ifs:List Expr) (t:TT):Prop :=
  ∀ (pins:AOs) (s:Shared) (σ:St) (H:Hp) (Q:Bool->Hp->Prop),Inv X pins σ H s->t σ H Q->wpAny (model X.prog X.w) X.A (rW ifs X.env) (TP X pins σ Q) X.xe s
def zD:TT:=λ_ H Q=>Q true H
def cB {X:Cx}:sY X [] zD:=λpins s σ H Q I h=>wpAny_tests_nil ⟨H,I,h⟩
def rp {X:Cx} {c:Expr} {t:TT} (hc:PT X c t):sY X [c] t:=λpins s σ H Q I h=>wpAny_tests_one (hc pins s σ H Q I h)
def rO {prog:Program} {w:World} {A:Around} {R:Result->Shared->Prop} {s:Shared} {elt tg iter:Expr} {ifs:List Expr} {sc:Scope} {pos:Pos} {it acc:Value} {env:Env} (J:Nat->Shared->Prop)
 (turn:∀ n s,J n s->wpAny (model prog w) A (pyNext it) (λr s1=>(r=none/\R (.ok .next) s1)\/∃ v,r=some v /\
   wpAny (model prog w) A (letOwnedTupleGo tg it v) (λ_ s2=>wpAny (model prog w) A (assign tg env v) (λ_ s3=>wpAny (model prog w) A (rW ifs env) (λok s4 =>
     (ok=false/\∃ m,m<n/\J m s4)\/(ok=true/\wpAny (model prog w) A (eval elt env) (λx s5=>wpAny (model prog w) A (call (.builtin "list.append") [acc,x]) (λ_ s6=>∃ m,m<n/\J m s6) (λ_ _=>False) s5) (λ_ _=>False) s4))
     (λ_ _=>False) s3) (λ_ _=>False) s2) (λ_ _=>False) s1) (λ_ _=>False) s)
 (n:Nat) (h:J n s):codeAny (model prog w) A (.compLoop (.ListComp elt [⟨tg,iter,ifs,0⟩] sc pos) 0 it acc env) R s:=by
 refine codeAny_loop U J (λn s hJ=>?_) n h;show wpAny _ _ (Sem.onRaise (compTurn (.ListComp elt [⟨tg,iter,ifs,0⟩] sc pos) 0 it acc env) (λx=>do noteFrame x env;theTreesLotGoes x)) _ _ s;refine wpAny_noted ?_;rw[compTurn_list];refine wB (wpAny_standAt (wB (wpAny_mono (turn n s hJ) (λr s1 h1=>?_) λ_ _ f=>f.elim)))
 rcases h1 with ⟨hr,h1⟩ | ⟨v,hr,h1⟩
 · subst hr;exact wP h1
 · subst hr;refine wB (wpAny_mono h1 (λ_ s2 h2=>?_) λ_ _ f=>f.elim);refine wB (wpAny_mono h2 (λ_ s3 h3=>?_) λ_ _ f=>f.elim);refine wB (wpAny_mono h3 (λok s4 h4=>?_) λ_ _ f=>f.elim)
   rcases h4 with ⟨e,h4⟩ | ⟨e,h4⟩
   · subst e;exact wP ⟨U,h4⟩
   · subst e;refine wB (wB (wpAny_mono h4 (λx s5 h5=>?_) λ_ _ f=>f.elim));exact wB (wpAny_mono h5 (λ_ s6 h6=>wP (wP ⟨U,h6⟩)) λ_ _ f=>f.elim)
def tLC (wi:TI) (k:Nat) (outs:List (Nat×Str)) (g:TG) (tc:TT) (te:TE):TE:=λσ H Q=>wi σ H λJ H1=>∀ D,H1 D=none ->
  ∃ W:Nat->Nat->St->Hp->Prop,(∃ m,W 0 m (gQ k outs σ) (upd H1 D (.lst [])))/\∀ i m σ' H',W i m σ' H' ->
    (J.stop i H'/\Q (.ref D) H')\/(J.go i H'/\∃ N:St->Hp->Prop,(∀ σ2 H2,N σ2 H2->∃ m',m'<m/\W (i+1) m' σ2 H2)/\∀ x H2,J.yld i H' x H2->g x σ' H2 λσ3 H3=>tc σ3 H3 λb H4 =>
      if b=true then te σ3 H4 λv H5=>∃ ys,H5 D=some (.lst ys)/\ys.length<sizeLine/\N σ3 (upd H5 D (.lst (ys++[v]))) else N σ3 H4)
set_option maxHeartbeats 8000000 in
def oq {X:Cx} {elt tg iter:Expr} {ifs:List Expr} {sc:Scope} {pos cpos:Pos} {wi:TI} {g:TG} {tc:TT} {te:TE} {own:List Str} {outs:List (Nat×Str)} {use:Option (Value->Sem Unit)} {PQ:VSP} {pins:AOs} {s:Shared} {σ:St} {H:Hp} {Q:VK} (hc:X.calm=true) (S:br X sc own outs) (hi:PI X tg iter wi)
 (hb:∀ (fp:List Addr) (pins:AOs) (s:Shared) (H:Hp),PG (blk X sc (dq X.env.cells sc.names []) (gh own outs) fp pins s H) tg g /\
   sY (blk X sc (dq X.env.cells sc.names []) (gh own outs) fp pins s H) ifs tc/\PE (blk X sc (dq X.env.cells sc.names []) (gh own outs) fp pins s H) elt te)
 (hs:∀ x,foldedSetIterable iter X.env x=pure x) (I:Inv X pins σ H s) (h:tLC wi own.length outs g tc te σ H Q)
 (fin:∀ (D c:Addr) (m6:SOV) (H5:Hp) (s6:Shared),Inv X pins σ H5 s6->s6.heap.Ns c m6->H5 c=none->X.env.locals≠c->X.s₀.heap.objs.size<=c->(∀ x c',X.env.cells.lookup x=some c'->c'≠c)->(∀ p∈X.pn++pins,p.1≠c)->Q (.ref D) H5 ->
   compPost (model X.prog X.w) X.A X.xe use PQ (.ref D) c (.ok .next) s6) :
 wpAny (model X.prog X.w) X.A (comprehension (.ListComp elt [⟨tg,iter,ifs,0⟩] sc pos) sc X.env cpos (newList []) false (eval iter X.env) use) PQ X.xe s:=by
 have hcl:closureFor sc X.env=pure (dq X.env.cells sc.names []):=mW λy hy e=>I.ok.has y.1 (S.fr y hy e);refine wpAny_comprehension_free (use:=use) rfl hs hcl S.kind S.loc (thn (hi pins s σ H _ I h) λv s1 h1=>thn h1 λitv s2 h2=>?_);obtain⟨it,fp,tn,J,H2,e,I2,T,st2,f2,h2⟩:=h2;subst e;refine wpAny_newObj_type ?_;generalize hD:s2.heap.objs.size=D;have fr:H2 D=none:=by rw[<- hD];exact I2.fresh
 obtain⟨W,⟨m0,w0⟩,turn⟩:=h2 D fr;have I3:Inv X pins σ (upd H2 D (.lst [])) {s2 with heap:=s2.heap.push {cls:=.type "list",data:=.seq ([]:List Value).toArray}}:=by
  have q:=I2.lnew (t':=s2.toks) (ys:=[]) (its:=[]) .nil (Nat.zero_le _);rw[hD] at q;exact q
 have hfp:∀ b∈fp,b<s2.heap.objs.size:=λb hb=>by
  obtain⟨o,e,_⟩:=T.obj _ _ st2 b hb;exact Heap.lt_size e
 have f3:∀ b∈fp,jb X pins (upd H2 D (.lst [])) b:=λb hb=>⟨by rw[af (by rw[<- hD];exact Nat.ne_of_lt (hfp b hb))];exact (f2 b hb).1,(f2 b hb).2⟩;generalize hS:({s2 with heap:=s2.heap.push {cls:=.type "list",data:=.seq ([]:List Value).toArray}}:Shared)=s3 at I3;have k3:∀ b o,s2.heap.get? b=some o->s3.heap.get? b=some o:=λb o e=>by rw[<- hS];exact hpS _ e
 have z3:s2.heap.objs.size<=s3.heap.objs.size:=by rw[<- hS];show _<=(s2.heap.push _).objs.size;rw[Heap.size_push];exact Nat.le_succ _
 have st3:tn 0 s3.heap:=T.keep _ _ _ st2 λb _ o e=>k3 b o e;refine wpAny_newFunctionEnv S.nocell (λy hy=>by cases hy) (λh4 hn4 sb4=>?_) S.kind;have k4:∀ b o,s3.heap.get? b=some o->h4.get? b=some o:=λb o e=>sb4.extBut b o (Nat.ne_of_lt (Heap.lt_size e)) (hpS _ e);have hn4':h4.Ns s3.heap.objs.size λ_=>none:=by
  have q:=hn4;simp only[List.reverse_nil,List.lookup_nil] at q;exact q
 have I4:=uN (t':=s3.toks+([]:List (Str×Value)).length) I3 S f3 (λb hb=>Nat.lt_of_lt_of_le (hfp b hb) z3) hn4' k4;have st4:tn 0 h4:=T.keep _ _ _ st3 λb _ o e=>k4 b o e;obtain⟨hg,hif,he⟩:=hb fp pins s3 (upd H2 D (.lst []));generalize hY:blk X sc (dq X.env.cells sc.names []) (gh own outs) fp pins s3 (upd H2 D (.lst []))=Y at I4 hg hif he;have yenv:Y.env=compEnvC sc (dq X.env.cells sc.names []) s3.heap.objs.size X.env:=by rw[<- hY];rfl
 have statY:∀ {H':Hp},(∀ b∈fp,H' b=none)->∀ b∈fp,jb Y [] H' b:=λ{H'} hn b hb=>by
  subst hY;obtain⟨_,a1,a2,a3,a4,a5⟩:=f3 b hb;refine⟨hn b hb,Nat.ne_of_lt (Nat.lt_of_lt_of_le (hfp b hb) z3),λz=>?_,.inl hb,λx c e=>a4 x c (gg e),λp hp=>?_⟩
  · rcases List.mem_cons.mp (I3.stkSub b z) with y | y
    · exact a1 y
    · exact a2 y
  · rcases mAp.mp hp with z | z
    · exact a5 p z
    · cases z
 have loop:codeAny (model X.prog X.w) X.A (.compLoop (.ListComp elt [⟨tg,iter,ifs,0⟩] sc pos) 0 (.ref it) (.ref D) Y.env) (compPost (model X.prog X.w) X.A X.xe use PQ (.ref D) s3.heap.objs.size)
  {s3 with heap:=h4,toks:=s3.toks+([]:List (Str×Value)).length}:=by
  have hP:Y.prog=X.prog:=by rw[<- hY];rfl
  have hw:Y.w=X.w:=by rw[<- hY];rfl
  have hA:Y.A=X.A:=by rw[<- hY];rfl
  have hK:Y.K=X.K:=by rw[<- hY];rfl
  have hxe:Y.xe=λ_ _=>False:=by rw[<- hY];rfl
  have hcm:Y.calm=true:=by rw[<- hY];exact hc
  rw[<- hP,<- hw,<- hA];rw[<- hP,<- hw,<- hK] at T;refine rO (λn s'=>∃ i σ' H',Inv Y [] σ' H' s'/\tn i s'.heap/\(∀ b∈fp,H' b=none)/\W i n σ' H') ?_ m0 ⟨0,_,_,I4,st4,λb hb=>(f3 b hb).1,w0⟩;rintro n s5 ⟨i,σ5,H5,I5,st5,fr5,w5⟩
  rcases turn i n σ5 H5 w5 with ⟨stop,q⟩ | ⟨go,N,hN,step⟩
  · refine thn (T.done Y U U U hcm i [] s5 σ5 H5 _ I5 (statY fr5) st5 stop) λr s6 zz97=>?_;obtain⟨hr,I6⟩:=zz97;refine .inl ⟨hr,?_⟩;obtain⟨m6,hn6,_⟩:=I6.loc;have yl:Y.env.locals=s3.heap.objs.size:=by rw[yenv];rfl
    have u6:Un (frs X.stack) fp (upd H2 D (.lst [])) H5 s3.heap s6.heap:=by
     have q:=I6.base;subst hY;exact q
    have I7:Inv X pins σ H5 s6:=by
     refine I3.call' (s':=s6) (ch:=fp) ?_ u6 ?_ I6.bare λb hb=>?_
     · have q:=I6.os;subst hY;exact q
     · intro a o e;have q:=I6.hok a o e;subst hY;exact q
     · obtain⟨_,a1,a2,a3,a4,a5⟩:=f3 b hb;exact⟨a3,a1,a4,a5⟩
    rw[hP,hw,hA];refine fin D s3.heap.objs.size m6 H5 s6 I7 (by rw[<- yl];exact hn6) (by rw[<- yl];exact I6.free) (Nat.ne_of_lt I3.lt) I3.sz (λx c e=>?_) (λp hp=>Nat.ne_of_lt (Heap.lt_size (I3.pin p hp).1)) q;obtain⟨v,o,z,_⟩:=I3.cell x c e;exact Nat.ne_of_lt (Heap.lt_size z)
  · refine thn (T.item Y U U U hcm i [] s5 σ5 H5 _ I5 (statY fr5) st5 go) λr s6 zz98=>?_;obtain⟨u,hr,h6⟩:=zz98;refine .inr ⟨u,hr,?_⟩;refine thn h6 λ_ s7 zz99=>?_;obtain⟨x,H7,I7,r7,y7,st7,fr7⟩:=zz99;have I7':=I7.pinned (statY fr7) (T.obj _ _ st7);have pinsOk:∀ {σ8:St} {H8:Hp} {s8:Shared},Inv Y ([]++iN fp s7.heap) σ8 H8 s8->N σ8 H8->∃ m,m<n/\∃ i σ' H',Inv Y [] σ' H' s8/\tn i s8.heap/\(∀ b∈fp,H' b=none)/\W i m σ' H':=λ{σ8 H8 s8} I8 n8=>by
     obtain⟨m',hm,w8⟩:=hN σ8 H8 n8;refine⟨m',hm,i+1,σ8,H8,I8.unpinned,T.keep _ _ _ st7 λb hb o e=>(I8.pin (b,o) (List.mem_append_right _ (List.mem_append_right _ (eI hb e)))).1,λb hb=>?_,w8⟩;obtain⟨o,e,d⟩:=T.obj _ _ st7 b hb;exact (I8.pin (b,o) (List.mem_append_right _ (List.mem_append_right _ (eI hb e)))).2.1
    have toF:∀ {α:Type} {t:Sem α} {Q':α->Shared->Prop} {s':Shared},wpAny (model Y.prog Y.w) Y.A t Q' Y.xe s'->wpAny (model Y.prog Y.w) Y.A t Q' (λ_ _=>False) s':=λ{α t Q' s'} z=>wpAny_mono z (λ_ _ a=>a) λ_ _ a=>by rw[hxe] at a;exact a
    refine toF (thn (hg _ s7 σ5 H7 x u _ I7' r7 (step x H7 y7)) λ_ s8 zz100=>?_);obtain⟨σ8,H8,I8,q8⟩:=zz100;refine toF (thn (hif _ s8 σ8 H8 _ I8 q8) λok s9 zz101=>?_);obtain⟨H9,I9,q9⟩:=zz101;cases ok with
    | false =>
     rw[if_neg Bool.false_ne_true] at q9;exact .inl ⟨U,pinsOk I9 q9⟩
    | true =>
     rw[if_pos U] at q9;refine .inr ⟨U,toF (thn (he _ s9 σ8 H9 _ I9 q9) λy s10 zz102=>?_)⟩;obtain⟨v,H10,I10,r10,ys,hy,hz,n10⟩:=zz102;have ap:=jt (X:=Y) _ s10 σ8 H10 (.ref D) [v] (.ref D) [y] (λ_ H'=>N σ8 H') I10 rfl (.cons r10 .nil) ⟨D,ys,v,U,U,hy,hz,n10⟩;refine toF (thn ap λ_ s11 zz103=>?_);obtain⟨_,H11,I11,_,n11⟩:=zz103;exact pinsOk I11 n11
 rw[yenv] at loop;refine codeAny_compStart_list ?_ (T.self _ 0 _ _ _ st4 ?_)
 · exact loop
 · exact loop
def gx {X:Cx} {elt tg iter:Expr} {ifs:List Expr} {sc:Scope} {pos:Pos} {wi:TI} {g:TG} {tc:TT} {te:TE} {own:List Str} {outs:List (Nat×Str)} (hc:X.calm=true) (S:br X sc own outs) (hi:PI X tg iter wi)
 (hb:∀ (fp:List Addr) (pins:AOs) (s:Shared) (H:Hp),PG (blk X sc (dq X.env.cells sc.names []) (gh own outs) fp pins s H) tg g /\
   sY (blk X sc (dq X.env.cells sc.names []) (gh own outs) fp pins s H) ifs tc/\PE (blk X sc (dq X.env.cells sc.names []) (gh own outs) fp pins s H) elt te)
 (hs:∀ x,foldedSetIterable iter X.env x=pure x:=by intro _;rfl):PE X (.ListComp elt [⟨tg,iter,ifs,0⟩] sc pos) (tLC wi own.length outs g tc te):=by
 intro pins s σ H Q I h;rw[eval_ListComp];exact oq hc S hi hb hs I h λD c m6 H5 s6 I6 n6 f6 cl sz cc cp q=>⟨m6,n6,λh7 sb7=>⟨.ref D,H5,I6.turned (t':=s6.toks) (λb o hb e=>(sb7.2 b hb).trans e) f6 cl.symm (.inr sz) cc cp,U,q⟩⟩
def Itx (x:Str):It:=⟨λi _=>i<x.cps.size,λi H v H'=>H'=H/\∃ c,x.cps.toList[i]?=some c/\v=.str ⟨#[c]⟩,λi _=>x.cps.size<=i⟩
def CJ (tl:TE):TI:=λσ H R=>tl σ H λv H1=>∃ x,v=.str x/\R (Itx x) H1
structure gj (J:It) (xs:List V) (Ok:Hp->Prop):Prop where
  go:∀ i H,Ok H->i<xs.length->J.go i H
  yld:∀ i H x H',J.go i H->Ok H->J.yld i H x H'->H'=H/\xs[i]?=some x
  stop:∀ i H,Ok H->xs.length<=i->J.stop i H
def df {K:Fg} {a:Addr} {xs:List V}:gj (Itl K a) xs (λH=>SqL K H a xs) :=
 ⟨λi H q hi=>⟨xs,xs[i],q,by simp[hi]⟩,λi H x H' _ q y=>⟨y.1,y.2 xs q⟩,λi H q hi=>⟨xs,q,hi⟩⟩
def cX {K:Fg} {a:Addr} {xs:List V}:gj (Itt K a) xs (λH=>SqT K H a xs) :=
 ⟨λi H q hi=>⟨xs,xs[i],q,by simp[hi]⟩,λi H x H' _ q y=>⟨y.1,y.2 xs q⟩,λi H q hi=>⟨xs,q,hi⟩⟩
def ck (lo:Int) (n:Nat):List V:=(List.range n).map λ(i:Nat)=>V.int (lo+(i:Int))
def bu {lo:Int} {n:Nat}:gj (Itr lo n) (ck lo n) (λ_=>True) :=
 ⟨λi H _ hi=>by show i<n;simpa [ck] using hi,λi H v H' hg _ y=>by
   obtain⟨e,h⟩:=y;refine⟨e,?_⟩;have hi:i<n:=hg;rw[h];simp[ck,hi],λi H _ hi=>by show n<=i;simpa [ck] using hi⟩
def yy {J:It} {xs:List V} {Ok:Hp->Prop} (Y:gj J xs Ok) {g:TG} {tb:TS} {D:jf} {σ:St} {H:Hp} (Pv:Nat->St->Hp->Prop) (h0:Pv 0 σ H) (hl:∀ i σ H,i<=xs.length->Pv i σ H->Ok H)
 (hs:∀ i x σ H,xs[i]?=some x->Pv i σ H->g x σ H λσ2 H2=>tb {D with nx:=Pv (i+1),ct:=Pv (i+1),bk:=D.nx} σ2 H2) (hd:∀ σ H,Pv xs.length σ H->D.nx σ H) :
 ∃ W:Nat->Nat->St->Hp->Prop,(∃ m,W 0 m σ H)/\∀ i m σ H,W i m σ H ->
  (J.stop i H/\D.nx σ H)\/(J.go i H/\∃ N:St->Hp->Prop,(∀ σ' H',N σ' H'->∃ m',m'<m/\W (i+1) m' σ' H')/\∀ x H',J.yld i H x H'->g x σ H' λσ2 H2=>tb {D with nx:=N,ct:=N,bk:=D.nx} σ2 H2):=by
 refine⟨λi m σ H=>m=xs.length-i/\i<=xs.length/\Pv i σ H,⟨xs.length,by simp,Nat.zero_le _,h0⟩,?_⟩;rintro i m σ H ⟨rfl,hi,p⟩;have q:=hl i σ H hi p;by_cases hlt:i<xs.length
 · refine .inr ⟨Y.go i H q hlt,Pv (i+1),λσ' H' p'=>⟨xs.length-(i+1),Nat.sub_succ_lt_self _ _ hlt,U,hlt,p'⟩,λx H' y=>?_⟩;obtain⟨e,y2⟩:=Y.yld i H x H' (Y.go i H q hlt) q y;subst e;exact hs i x σ _ y2 p
 · have e:i=xs.length:=by lia
   subst e;exact .inl ⟨Y.stop _ H q (Nat.le_refl _),hd σ H p⟩
section
variable {X:Cx}
end
def fD {α:Type}:∀ {l:List α},l.length=1->∃ a,l=[a]:=by
 intro l h;cases l with
 | nil=>cases h
 | cons a r=>cases List.eq_nil_of_length_eq_zero (Nat.succ.inj h);exact⟨a,U⟩
def i4 {α:Type}:∀ {l:List α},l.length=2->∃ a b,l=[a,b]:=by
 intro l h;cases l with
 | nil=>cases h
 | cons a r=>obtain⟨b,rfl⟩:=fD (Nat.succ.inj h);exact⟨a,b,U⟩
def jT {α:Type}:∀ {l:List α},l.length=3->∃ a b c,l=[a,b,c]:=by
 intro l h;cases l with
 | nil=>cases h
 | cons a r=>obtain⟨b,c,rfl⟩:=i4 (Nat.succ.inj h);exact⟨a,b,c,U⟩
def bL {α:Type}:∀ {l:List α},l.length=4->∃ a b c d,l=[a,b,c,d]:=by
 intro l h;cases l with
 | nil=>cases h
 | cons a r=>obtain⟨b,c,d,rfl⟩:=jT (Nat.succ.inj h);exact⟨a,b,c,d,U⟩
section
variable {CX:CXT} {P:Program} {w:World} {K:Fg} {mg:SOV} {base:Heap} {N:List Str} {q:Str} {sc:Scope} {f:Addr} {cd:Value} {A:Around} {outer:List Env} {s:Shared} {H:Hp} {E:XK}
def be:(cy CX P w K mg base N q sc f cd A outer s H E).nox.K=K:=rfl
end
structure Fn (P:Program) (w:World) (K:Fg) (mg:SOV) (base:Heap) (x:Str) (k:Nat) (ps:List Str) (sp:Sp):Prop where
  ex:∃ (f:Addr) (fd:FuncData),eW P w K mg base CX0 k f fd ps sp/\mg x=some (.ref f)/\PySem.W.keepIn K (.ref f)=true/\dO K fd ps []
def Def (K:Fg) (mg:SOV) (x:Str) (st:Stmt):Prop:=∃ (f:Addr) (fd:FuncData),Fun K x x st f fd/\mg x=some (.ref f)
section
variable {X:Cx} {x:Str} {p pos:Pos} {e:Expr} {es:List Expr} {t:TA} {k:Nat} {ps:List Str} {sp:Sp}
def aj (F:Fn X.prog X.w X.K X.mg X.base x k ps sp) (hr:cH k X.A) (hg:Gl X x) (ha:PA X (e::es) t) (hdb:(x==("__debug__":Str))=false:=by decide)
 (he:starEach (e::es) X.env=(false,eval e X.env)::starEach es X.env:=by rfl) (hpl:(backTo pos (starEach es X.env)).any (·.1)=false:=by rfl):PE X (.Call (.Name x p) (e::es) [] pos) (kW sp [] E0 t):=by
 obtain⟨f,fd,G,hm,hk,hb⟩:=F.ex;exact uC G hr hg hm hk hb .nil lh ha (hdb:=hdb) (he:=he) (hpl:=hpl)
end
section
variable {P:Program} {w:World} {K:Fg} {mg:SOV} {base:Heap}
def Def.fn {x:Str} {st:Stmt} {N ps:List Str} {k:Nat} {sp:Sp} (D:Def K mg x st) (S:bv N ps (am st)) (len:∀ vs H Q E,sp vs H Q E->vs.length=ps.length)
 (hb:∀ (kV doc pm:Value) (an:Option Addr) (cdv ct:Value) (us:List Value),us.length=ps.length->bindArgs (PySem.W.fnOf x x (cK st) (aM st) (am st) .none kV doc pm an cdv ct) ⟨us,[]⟩=pure (ps.zip us))
 (hbody:∀ (f:Addr) (cdv:Value) (A:Around) (outer:List Env) (s:Shared) (H:Hp) (vs:List V) (Q:VK) (E:XK),cH k (A.deeper (envOfC x (am st) s.heap.objs.size f cdv))->sp vs H Q E ->
   ∃ t,PSs (cy CX0 P w K mg base N x (am st) f cdv A outer s H E).nox (aM st) t/\t {nx:=λ_ H'=>Q .non H',rt:=Q} (di N vs) H):Fn P w K mg base x (k+1) ps sp:=by
 obtain⟨f,fd,F,hm⟩:=D;exact⟨f,fd,F.ok S len (hbody f),hm,F.kp,F.binds hb⟩
end
section
variable {X:Cx} {p pos:Pos} {e:Expr} {es:List Expr} {t:TA}
def cq (hm:X.mg "len"=none) (ha:PA X (e::es) t) (hg:Gl X "len":=by rfl)
 (he:starEach (e::es) X.env=(false,eval e X.env)::starEach es X.env:=by rfl) (hpl:(backTo pos (starEach es X.env)).any (·.1)=false:=by rfl):PE X (.Call (.Name "len" p) (e::es) [] pos) (tCB (Aw X.K) t):=iO kh hg hm PySem.boot_len ha (he:=he) (hpl:=hpl)
def bU:bootBuiltins "int"=some (.type "int"):=by left
def eP:bootBuiltins "isinstance"=some (.builtin "isinstance"):=by left
def i7 (hm:X.mg "int"=none) (ha:PA X (e::es) t) (hg:Gl X "int":=by rfl)
 (he:starEach (e::es) X.env=(false,eval e X.env)::starEach es X.env:=by rfl) (hpl:(backTo pos (starEach es X.env)).any (·.1)=false:=by rfl) :
 PE X (.Call (.Name "int" p) (e::es) [] pos) (tCB (λxs H Q=>(∃ i,xs=[.int i]/\Q (.int i) H)\/∃ k,xs=[.bl k]/\Q (.int (if k then 1 else 0)) H) t):=dZ qe hg hm bU ha (he:=he) (hpl:=hpl)
variable {o:Expr} {to:TE} {apos cpos:Pos}
def cT (ho:PE X o to) (ha:PA X [e] t) (hbase:attributeBase o "append" X.env (eval o X.env)=eval o X.env:=by rfl) (hline:(apos.endLine==cpos.line)=true:=by rfl)
 (hfew:((backTo cpos (starEach [e] X.env)).all (λx=>!x.1)&&(backToKw cpos (keywordEach [] X.env)).all (λx=>x.1.isSome)&&decide ([e].length+([]:List Keyword).length+(if ([]:List Keyword).isEmpty then 0 else 1)<30))=true:=by rfl)
 (hs:starEach [e] X.env=(false,eval e X.env)::starEach [] X.env:=by rfl) (hplain:(backTo cpos (starEach [] X.env)).any (·.1)=false:=by rfl) :
 PE X (.Call (.Attribute o "append" apos) [e] [] cpos) (tBM X.K "list" nU to t):=AD PySem.F.plainAttrs_list PySem.F.slot_list_append PySem.F.type_list_append jt ho ha hbase hfew hline hs hplain
end
def aO (J:It) (g:TG) (a:TS) (D:jf) (σ:St) (H1:Hp):Prop:=∃ W:Nat->Nat->St->Hp->Prop,(∃ m,W 0 m σ H1)/\∀ i m σ H,W i m σ H ->
  (J.stop i H/\D.nx σ H)\/(J.go i H/\∃ N:St->Hp->Prop,(∀ σ' H',N σ' H'->∃ m',m'<m/\W (i+1) m' σ' H')/\∀ x H',J.yld i H x H'->g x σ H' λσ2 H2=>a {D with nx:=N,ct:=N,bk:=D.nx} σ2 H2)
def sL {x:V} {H:Hp} {R:Bool->Hp->Prop}:BlR x H R=∃ k,x=.bl k/\R k H:=propext ⟨λh=>by obtain⟨v,a,b⟩:=h;exact⟨v,a,b⟩,λh=>by obtain⟨v,a,b⟩:=h;exact⟨v,a,b⟩⟩
def uO {x:V} {H:Hp} {R:Int->Hp->Prop}:zb x H R=∃ k,x=.int k/\R k H:=propext ⟨λh=>by obtain⟨v,a,b⟩:=h;exact⟨v,a,b⟩,λh=>by obtain⟨v,a,b⟩:=h;exact⟨v,a,b⟩⟩
@[simp] theorem Cs {wi:TI} {g:TG} {a:TS} {D:jf} {σ:St} {H:Hp}:zK wi g a D σ H=wi σ H λJ H1=>aO J g a D σ H1:=rfl
def aO.by {J:It} {xs:List V} {Ok:Hp->Prop} (Y:gj J xs Ok) {g:TG} {tb:TS} {D:jf} {σ:St} {H:Hp} (Pv:Nat->St->Hp->Prop) (h0:Pv 0 σ H) (hl:∀ i σ H,i<=xs.length->Pv i σ H->Ok H)
 (hs:∀ i x σ H,xs[i]?=some x->Pv i σ H->g x σ H λσ2 H2=>tb {D with nx:=Pv (i+1),ct:=Pv (i+1),bk:=D.nx} σ2 H2) (hd:∀ σ H,Pv xs.length σ H->D.nx σ H):aO J g tb D σ H:=yy Y Pv h0 hl hs hd
def cN (J:It) (g:TG) (tc:TT) (te:TE) (Q:VK) (σ0:St) (H1:Hp) (L:Addr):Prop :=
  ∃ W:Nat->Nat->St->Hp->Prop,(∃ m,W 0 m σ0 (upd H1 L (.lst [])))/\∀ i m σ' H',W i m σ' H' ->
    (J.stop i H'/\Q (.ref L) H')\/(J.go i H'/\∃ N:St->Hp->Prop,(∀ σ2 H2,N σ2 H2->∃ m',m'<m/\W (i+1) m' σ2 H2)/\∀ x H2,J.yld i H' x H2->g x σ' H2 λσ3 H3=>tc σ3 H3 λb H4 =>
      if b=true then te σ3 H4 λv H5=>∃ ys,H5 L=some (.lst ys)/\ys.length<sizeLine/\N σ3 (upd H5 L (.lst (ys++[v]))) else N σ3 H4)
@[simp] theorem eO {wi:TI} {k:Nat} {outs:List (Nat×Str)} {g:TG} {tc:TT} {te:TE} {σ:St} {H:Hp} {Q:VK}:tLC wi k outs g tc te σ H Q=wi σ H λJ H1=>∀ L,H1 L=none->cN J g tc te Q (gQ k outs σ) H1 L:=rfl
@[simp] theorem Aq {k:Nat} {outs:List (Nat×Str)} {σ:St}:gQ k outs σ=List.replicate k none++outs.map λp=>(σ[p.1]?).getD none:=rfl
section
variable {D:jf} {σ:St} {H:Hp} {Q:VK} {R:Bool->Hp->Prop} {ta tb tc te:TE} {t u v:TT} {a b:TS} {x y:V} {i:Nat} {g:TG} {al:TA} {S:List V->Hp->Prop} {r r':R2}
@[simp] theorem qP:xm a b D σ H=a {D with nx:=b D} σ H:=rfl
@[simp] theorem BZ:vH D σ H=D.nx σ H:=rfl
@[simp] theorem iK:qy te g D σ H=te σ H λx H1=>g x σ H1 D.nx:=rfl
@[simp] theorem ce {N:St->Hp->Prop}:lG i x σ H N=N (σ.set i (some x)) H:=rfl
@[simp] theorem jO:zF te D σ H=te σ H D.rt:=rfl
@[simp] theorem C2:vJ te D σ H=te σ H λ_ H1=>D.nx σ H1:=rfl
@[simp] theorem Cr:zJ t a b D σ H=t σ H λk H1=>if k=true then a D σ H1 else b D σ H1:=rfl
@[simp] theorem Cj:dr i σ H Q=∃ v,σ[i]?=some (some v)/\Q v H:=propext ⟨λh=>by obtain⟨v,a,b⟩:=h;exact⟨v,a,b⟩,λh=>by obtain⟨v,a,b⟩:=h;exact⟨v,a,b⟩⟩
@[simp] theorem Ct:tC x σ H Q=Q x H:=rfl
@[simp] theorem Dv:tOp r ta tb σ H Q=ta σ H λx H1=>tb σ H1 λy H2=>r x y H2 Q:=rfl
@[simp] theorem Dx:tIf t ta tb σ H Q=t σ H λc H1=>if c=true then ta σ H1 Q else tb σ H1 Q:=rfl
@[simp] theorem BV:nH te σ H R=te σ H λx H'=>∃ k,x=.bl k/\R k H':=congrArg (te σ H) (funext λx=>funext λH1=>sL)
@[simp] theorem Dq:tB te σ H R=te σ H λx H'=>∃ k,x=.bl k/\R k H':=congrArg (te σ H) (funext λx=>funext λH1=>sL)
@[simp] theorem Ap:qx r r' ta tb tc σ H Q=ta σ H λx H1=>tb σ H1 λy H2=>r x y H2 λz H3=>∃ k,z=.bl k/\(if k=true then tc σ H3 λw' H4=>r' y w' H4 Q else Q (.bl false) H3):=rfl
@[simp] theorem Cm:zH t σ H R=t σ H λc H1=>R (!c) H1:=rfl
@[simp] theorem Cu:zN t u σ H R=t σ H λc H1=>if c=true then u σ H1 R else R false H1:=rfl
@[simp] theorem Du:tOr t u σ H R=t σ H λc H1=>if c=true then R true H1 else u σ H1 R:=rfl
@[simp] theorem C4:vL ta tb σ H Q=ta σ H λx H1=>∃ c,x=.bl c/\if c=true then tb σ H1 Q else Q (.bl false) H1:=rfl
@[simp] theorem Cl:Cb ta tb σ H Q=ta σ H λx H1=>∃ c,x=.bl c/\if c=true then Q (.bl true) H1 else tb σ H1 Q:=rfl
@[simp] theorem BY:zG ta σ H Q=ta σ H λx H1=>∃ c,x=.bl c/\Q (.bl (!c)) H1:=rfl
@[simp] theorem Cn:gY σ H S=S [] H:=rfl
@[simp] theorem d0:cV te al σ H S=te σ H λx H1=>al σ H1 λxs H2=>S (x::xs) H2:=rfl
@[simp] theorem iJ {rr:List V->Hp->VK->Prop}:tCB rr al σ H Q=al σ H λvs H1=>rr vs H1 Q:=rfl
@[simp] theorem C3 {sp:Sp} {dvs:List V} {E:XK}:kW sp dvs E al σ H Q=al σ H λvs H1=>sp (vs++dvs) H1 Q E:=rfl
@[simp] theorem xE:mr al σ H Q=al σ H λxs H1=>xs.length<=sizeLine/\∀ p,H1 p=none->Q (.ref p) (upd H1 p (.tup xs)):=rfl
@[simp] theorem Co:tZ al σ H Q=al σ H λxs H1=>xs.length<=sizeLine/\∀ p,H1 p=none->Q (.ref p) (upd H1 p (.lst xs)):=rfl
@[simp] theorem Dz {K:Fg} {T:String} {rr:V->List V->Hp->VK->Prop}:tBM K T rr te al σ H Q=te σ H λx H1=>tyV K T x H1/\al σ H1 λxs H2=>rr x xs H2 Q:=rfl
@[simp] theorem Ds {rr:V->Option Int->Option Int->Hp->VK->Prop} {tl th:TO}:tSl rr te tl th σ H Q=te σ H λx H1=>tl σ H1 λl H2=>th σ H2 λu H3=>rr x l u H3 Q:=rfl
@[simp] theorem zk {O:Option Int->Hp->Prop}:nJ σ H O=O none H:=rfl
@[simp] theorem BX {O:Option Int->Hp->Prop}:vG te σ H O=te σ H λx H1=>∃ i,x=.int i/\O (some i) H1:=congrArg (te σ H) (funext λx=>funext λH1=>uO)
@[simp] theorem Dt {C:Int->Int->Prop} {f:Int->Int->V}:rI C f x y H Q=∃ i j,x=.int i/\y=.int j/\C i j/\Q (f i j) H:=propext ⟨λh=>by obtain⟨i,j,a,b,c,d⟩:=h;exact⟨i,j,a,b,c,d⟩,λh=>by obtain⟨i,j,a,b,c,d⟩:=h;exact⟨i,j,a,b,c,d⟩⟩
@[simp] theorem Ck {f:Int->Int->V}:rI0 f x y H Q=∃ i j,x=.int i/\y=.int j/\Q (f i j) H:=propext ⟨λh=>by obtain⟨i,j,a,b,c⟩:=h;exact⟨i,j,a,b,c⟩,λh=>by obtain⟨i,j,a,b,c⟩:=h;exact⟨i,j,a,b,c⟩⟩
@[simp] theorem Dy:rEq x y H Q=(uq x y=true/\Q (.bl (decide (x=y))) H):=rfl
@[simp] theorem Dw:rNe x y H Q=(uq x y=true/\Q (.bl (!decide (x=y))) H):=rfl
@[simp] theorem Cq {K:Fg}:oY K x y H Q=∃ p xs i v,x=.ref p/\y=.int i/\SqL K H p xs/\atI xs i=some v/\Q v H:=propext ⟨λh=>by obtain⟨p,xs,i,v,a,b,c,d,e⟩:=h;exact⟨p,xs,i,v,a,b,c,d,e⟩,λh=>by obtain⟨p,xs,i,v,a,b,c,d,e⟩:=h;exact⟨p,xs,i,v,a,b,c,d,e⟩⟩
@[simp] theorem Cp:Ax x y H Q=∃ z i c,x=.str z/\y=.int i/\z.length<=sizeLine/\atI z.cps.toList i=some c/\Q (.str ⟨#[c]⟩) H:=rfl
@[simp] theorem dC:zD σ H R=R true H:=rfl
@[simp] theorem An {N:List Str} {vs:List V}:di N vs=vs.map some++List.replicate (N.length-vs.length) none:=rfl
@[simp] theorem BW {RR:It->Hp->Prop}:vX al σ H RR=al σ H λvs H1=>∃ j:Int,vs=[.int j]/\-(2 ^ 62)<=j/\j<2 ^ 62/\RR (Itr 0 j.toNat) H1:=rfl
@[simp] theorem Ao {K:Fg} {RR:It->Hp->Prop}:vY K te σ H RR=te σ H λx H1=>∃ a,x=.ref a/\(∃ xs,SqL K H1 a xs)/\RR (Itl K a) H1:=rfl
@[simp] theorem C0 {RR:It->Hp->Prop}:CJ te σ H RR=te σ H λv H1=>∃ x,v=.str x/\RR (Itx x) H1:=rfl
end
end L2
namespace L2
open PySem PySem.Spec PyProof.Rows PySem.SeqAt
mutual
inductive cU (K:Fg) (H:Hp):V->PyData->Prop
  | non:cU K H .non .none
  | bl (b:Bool):cU K H (.bl b) (.bool b)
  | int (i:Int):cU K H (.int i) (.int i)
  | str (x:Str):cU K H (.str x) (.str x)
  | lst {a:Addr} {xs:List V} {ds:PDs}:SqL K H a xs->gT K H xs ds->cU K H (.ref a) (.list ds)
  | tup {a:Addr} {xs:List V} {ds:PDs}:SqT K H a xs->gT K H xs ds->cU K H (.ref a) (.tuple ds)
inductive gT (K:Fg) (H:Hp):List V->PDs->Prop
  | nil:gT K H [] []
  | cons {x:V} {d:PyData} {xs:List V} {ds:PDs}:cU K H x d->gT K H xs ds->gT K H (x::xs) (d::ds)
end
section
variable {X:Cx} {pins:AOs} {σ:St} {H:Hp} {s:Shared}
def cU.reads (I:Inv X pins σ H s) {v:V} {d:PyData} (h:cU X.K H v d):∀ {u:Value},b7 v u->∃ as,Reads s.heap u d as:=by
 refine cU.rec (motive_1:=λv d _=>∀ {u:Value},b7 v u->∃ as,Reads s.heap u d as) (motive_2:=λxs ds _=>∀ {us:List Value},aT xs us->∃ as,ReadsAll s.heap us ds as) ?_ ?_ ?_ ?_ ?_ ?_ ?_ ?_ h
 · intro u r;cases (show u=Value.none from r);exact⟨_,.none⟩
 · intro b u r;cases (show u=Value.bool b from r);exact⟨_,.bool b⟩
 · intro i u r;obtain⟨t,e⟩:=(show ∃ t,u=Value.int i t from r);rw[e];exact⟨_,.int i t⟩
 · intro x u r;obtain⟨t,e⟩:=(show ∃ t,u=Value.str x t from r);rw[e];exact⟨_,.str x t⟩
 · intro a xs ds hq hd ih u r;cases r;obtain⟨its,rv,p,hz⟩:=I.list hq;obtain⟨as,ra⟩:=ih rv;obtain⟨o,ho,hc,n,hdt⟩:=p.isList;exact⟨_,.list ho hc hdt (by simpa using ra)⟩
 · intro a xs ds hq hd ih u r;cases r;obtain⟨its,rv,p,hz⟩:=I.tuple hq;obtain⟨as,ra⟩:=ih rv;obtain⟨o,ho,hc,n,hdt⟩:=p;exact⟨_,.tuple ho hc hdt (by simpa using ra)⟩
 · intro us r;cases r;exact⟨_,.nil⟩
 · intro x d xs ds a b ih1 ih2 us r;cases r with
   | cons r t =>
    obtain⟨as,x⟩:=ih1 r;obtain⟨bs,y⟩:=ih2 t;exact⟨_,.cons x y⟩
inductive BJ (K:Fg) (x y:V) (H:Hp) (Q:VK):Prop
  | mk (d e:PyData) (h1:cU K H x d) (h2:cU K H y e) (h3:shaped d=true) (h4:shaped e=true) (q:Q (.bl (!PyData.eqv d e)) H):BJ K x y H Q
def Av (K:Fg):R2:=λx y H Q=>BJ K x y H Q
def jS (hu:X.A.units+64<cLine):OpR X (compareOp .NotEq) (Av X.K):=by
 intro pins s σ H x y v u Q I rx ry h;obtain⟨d,e,hd,he,sd,se,q⟩:=h;obtain⟨as,ra⟩:=hd.reads I rx;obtain⟨bs,rb⟩:=he.reads I ry;exact ne_dataH ra rb sd se hu ⟨.bl _,H,I,U,q⟩
end
section
variable {K:Fg} {H H':Hp}
def aI.seqT {a:Addr} {xs:List V} (e:aI H H') (h:SqT K H a xs):SqT K H' a xs:=by
 rcases h with (h | ⟨o,h⟩) | h
 · exact .inl (.inl (e _ _ h))
 · exact .inl (.inr ⟨o,e _ _ h⟩)
 · exact .inr h
def cU.same (e:aI H H') {v:V} {d:PyData} (h:cU K H v d):cU K H' v d :=
 cU.rec (motive_1:=λv d _=>cU K H' v d) (motive_2:=λxs ds _=>gT K H' xs ds) .non .bl .int .str (λhq _ ih=>.lst (e.seq hq) ih) (λhq _ ih=>.tup (e.seqT hq) ih) .nil (λ_ _ a b=>.cons a b) h
end
end L2
namespace L2
open PySem PySem.Spec PyProof.Rows
section
variable {X:Cx} {p pos:Pos} {e:Expr} {t:TA} {o:Expr} {to:TE} {apos cpos:Pos}
def j8:bootBuiltins "list"=some (.type "list"):=by left
def ig:bootBuiltins "tuple"=some (.type "tuple"):=by left
def zi {es:List Expr} (hm:X.mg "list"=none) (ha:PA X (e::es) t) (hg:Gl X "list":=by rfl)
 (he:starEach (e::es) X.env=(false,eval e X.env)::starEach es X.env:=by rfl) (hpl:(backTo pos (starEach es X.env)).any (·.1)=false:=by rfl) :
 PE X (.Call (.Name "list" p) (e::es) [] pos) (tCB (λxs H Q=>∃ p ys,xs=[.ref p]/\(SqL X.K H p ys\/SqT X.K H p ys)/\∀ l,H l=none->Q (.ref l) (upd H l (.lst ys))) t):=dZ ke hg hm j8 ha (he:=he) (hpl:=hpl)
end
@[simp] theorem yo:∀ ys:List Str,(Txt.join ("":Str) ys).cps.toList=(ys.map λy=>y.cps.toList).flatten:=by
 intro ys;have e:("":Str)=Str.empty:=by left
 rw[e];have key:∀ ys:List Str,(Str.join Str.empty ys).cps.toList=(ys.map λy=>y.cps.toList).flatten:=by
  intro ys
  induction ys with
  | nil=>rfl
  | cons y r ih =>
   cases r with
   | nil=>simp[Str.join]
   | cons y2 r2 =>
    show ((y++Str.empty++Str.join Str.empty (y2::r2):Str)).cps.toList=_;rw[Str.append_empty,Str.cps_append,Array.toList_append,ih];rfl
 rw[show Txt.join Str.empty ys=Str.join Str.empty ys from StrLaws.glued_eq_join _ _];exact key ys
def cN.by {J:It} {xs:List V} {Ok:Hp->Prop} (Y:gj J xs Ok) {g:TG} {tc:TT} {te:TE} {Q:VK} {σ0:St} {H1:Hp} {L:Addr} (Pv:Nat->St->Hp->Prop) (h0:Pv 0 σ0 (upd H1 L (.lst []))) (hl:∀ i σ H,i<=xs.length->Pv i σ H->Ok H)
 (hs:∀ i x σ H,xs[i]?=some x->Pv i σ H->g x σ H λσ3 H3=>tc σ3 H3 λb H4=>if b=true then te σ3 H4 λv H5=>∃ ys,H5 L=some (.lst ys)/\ys.length<sizeLine/\Pv (i+1) σ3 (upd H5 L (.lst (ys++[v]))) else Pv (i+1) σ3 H4)
 (hd:∀ σ H,Pv xs.length σ H->Q (.ref L) H):cN J g tc te Q σ0 H1 L:=by
 refine⟨λi m σ H=>m=xs.length-i/\i<=xs.length/\Pv i σ H,⟨xs.length,by simp,Nat.zero_le _,h0⟩,?_⟩;rintro i m σ H ⟨rfl,hi,p⟩;have q:=hl i σ H hi p;by_cases hlt:i<xs.length
 · refine .inr ⟨Y.go i H q hlt,Pv (i+1),λσ' H' p'=>⟨xs.length-(i+1),Nat.sub_succ_lt_self _ _ hlt,U,hlt,p'⟩,λx H' y=>?_⟩;obtain⟨e,y2⟩:=Y.yld i H x H' (Y.go i H q hlt) q y;subst e;exact hs i x σ _ y2 p
 · have e:i=xs.length:=by lia
   subst e;exact .inl ⟨Y.stop _ H q (Nat.le_refl _),hd σ H p⟩
def br.of {X:Cx} {sc:Scope} {own:List Str} {outs:List (Nat×Str)} (fsc:Scope) (N:List Str) (hX:X.env.scope=fsc:=by rfl) (hN:X.N=N:=by rfl) (k:sc.kind=.function:=by rfl) (nc:∀ y∈sc.names,y.2≠.cell:=by left) (l:∀ y∈sc.names,y.2=.local->sc.names.lookup y.1=some .local:=by left)
 (fr:∀ y∈sc.names,y.2=.free->fsc.names.lookup y.1=some .cell\/fsc.names.lookup y.1=some .free:=by left)
 (no:∀ p∈outs,sc.names.lookup p.2≠some .local:=by left) (hn:∀ p∈outs,N[p.1]?=some p.2/\(fsc.names.lookup p.2=some .cell\/fsc.names.lookup p.2=some .free):=by left):br X sc own outs:=by
 subst hX hN;refine⟨k,nc,l,fr,λp hp e=>no p hp ?_,hn⟩;have m:=gf e;unfold relabel at m;obtain⟨⟨n,k'⟩,m1,m2⟩:=List.mem_map.mp m;dsimp only at m2;split at m2
 · cases m2
 · cases m2;exact l _ m1 U
section
variable {X:Cx}
def qU (K:Fg):R2:=λx y H Q=>∃ l b xs zs,x=.ref l/\y=.ref b/\SqL K H l xs/\SqL K H b zs/\xs.length+zs.length<=sizeLine/\∀ p,H p=none->Q (.ref p) (upd H p (.lst (xs++zs)))
def gB:OpR X (binaryOp .Add) (qU X.K):=by
 intro pins s σ H x y v u Q I rx ry h;obtain⟨l,b,xs,zs,rfl,rfl,hH,hB,hz,q⟩:=h;cases rx;cases ry;obtain⟨its,r,pl,_⟩:=I.list hH;obtain⟨its2,r2,pl2,_⟩:=I.list hB;have h1:=r.length;have h2:=r2.length;obtain⟨⟨cls,dd,data,sl⟩,ho,hc,n,hd⟩:=pl.isList;obtain⟨⟨cls2,dd2,data2,sl2⟩,ho2,hc2,n2,hd2⟩:=pl2.isList;simp only at hc hd hc2 hd2;subst hc hd hc2 hd2;have e:its.toArray++its2.toArray=(its++its2).toArray:=by simp
 refine concat_meets ⟨_,ho,U⟩ ⟨_,ho2,U⟩ noFill_list_add seq_list_add PySem.F.slot_list_add PySem.F.entry_list_add (PySem.F.args_list_add_2 _ _) (list_addW l b its.toArray its2.toArray n n2 dd dd2 sl sl2 (by simp;lia)) ⟨ho,ho2,?_⟩;rw[e];exact⟨.ref _,_,I.lnew (t':=s.toks) (r.append r2) (by rw[lAp];lia),U,q _ I.fresh⟩
end
section
variable {X:Cx} {e:Expr} {t:TA} {o:Expr} {to:TE} {apos cpos:Pos}
variable {p pos:Pos} {es:List Expr}
end
section
variable {κ:Type} [DecidableEq κ]
def cz (kvs:List (κ×V)) (k:κ):Option V:=(kvs.find? λkv=>decide (kv.1=k)).map (·.2)
def dn (kvs:List (κ×V)) (k:κ) (v:V):List (κ×V) :=
  if (kvs.any λkv=>decide (kv.1=k))=true then kvs.map (λkv=>if kv.1=k then (kv.1,v) else kv) else kvs++[(k,v)]
def gn {p:κ×V} {r:List (κ×V)} {k:κ} (e:p.1=k):cz (p::r) k=some p.2:=by simp[cz,List.find?_cons,e]
def gq {p:κ×V} {r:List (κ×V)} {k:κ} (e:¬ p.1=k):cz (p::r) k=cz r k:=by simp[cz,List.find?_cons,e]
def kQ (k:κ):∀ kvs:List (κ×V),(kvs.any λkv=>decide (kv.1=k))=(cz kvs k).isSome
 | []=>rfl
 | p::r=>by
  rw[List.any_cons];by_cases e:p.1=k
  · simp only[gn e,decide_eq_true e,Bool.true_or,Option.isSome_some]
  · rw[gq e,decide_eq_false e,Bool.false_or];exact kQ k r
def fz (kvs:List (κ×V)) (k:κ) (v:V):(dn kvs k v).length<=kvs.length+1:=by
 unfold dn;split
 · rw[lMp];lia
 · rw[lAp,List.length_cons,List.length_nil];lia
def fH.isSome_eq {o:Option V} {u:Option Value} (r:fH o u):o.isSome=u.isSome:=by
 cases o with
 | none=>cases u with
  | none=>rfl
  | some _=>exact (show False from r).elim
 | some _=>cases u with
  | none=>exact (show False from r).elim
  | some _=>rfl
def KV.val {kvs:List (κ×V)} {vs:List (κ×Value)} (r:KV kvs vs) (k:κ):fH (cz kvs k) (valueAt vs k):=by
 unfold KV at r
 induction r with
 | nil=>exact True.intro
 | @cons p q ps qs h t ih =>
  obtain⟨h1,h2⟩:=h;by_cases e:p.1=k
  · have e':q.1=k:=h1.symm.trans e;have b:valueAt (q::qs) k=some q.2:=by simp[valueAt,List.find?_cons,e']
    rw[gn e,b];exact h2
  · have e':¬ q.1=k:=λz=>e (h1.trans z);have b:valueAt (q::qs) k=valueAt qs k:=by simp[valueAt,List.find?_cons,e']
    rw[gq e,b];exact ih
def KV.any {kvs:List (κ×V)} {vs:List (κ×Value)} (r:KV kvs vs) (k:κ):(kvs.any λkv=>decide (kv.1=k))=vs.any λkv=>decide (kv.1=k):=by
 unfold KV at r
 induction r with
 | nil=>rfl
 | cons h t ih=>rw[List.any_cons,List.any_cons,ih,h.1]
def KV.repl {kvs:List (κ×V)} {vs:List (κ×Value)} (r:KV kvs vs) (k:κ) {y:V} {u:Value} (ry:b7 y u) :
 KV (kvs.map λkv=>if kv.1=k then (kv.1,y) else kv) (vs.map λkv=>if kv.1=k then (kv.1,u) else kv):=by
 unfold KV at r ⊢
 induction r with
 | nil=>exact .nil
 | @cons p q ps qs h t ih =>
  rw[List.map_cons,List.map_cons];refine .cons ?_ ih;obtain⟨h1,h2⟩:=h;by_cases e:p.1=k
  · rw[if_pos e,if_pos (h1.symm.trans e)];exact⟨h1,ry⟩
  · rw[if_neg e,if_neg (λz=>e (h1.trans z))];exact⟨h1,h2⟩
def KV.put {kvs:List (κ×V)} {vs:List (κ×Value)} (r:KV kvs vs) (k:κ) {y:V} {u:Value} (ry:b7 y u):KV (dn kvs k y) (stored vs k u):=by
 unfold dn stored;rw[r.any k];by_cases e:(vs.any λkv=>decide (kv.1=k))=true
 · rw[if_pos e,if_pos e];exact r.repl k ry
 · rw[if_neg e,if_neg e];exact Paired.snoc r ⟨U,ry⟩
def KV.length {kvs:List (κ×V)} {vs:List (κ×Value)} (r:KV kvs vs):kvs.length=vs.length:=Paired.length r
end
def jv {P:Program} {w:World} {k:Key} {u:Value} (r:b7 (kV k) u):(aP P w).is k u=true:=by
 cases k with
 | inl i=>obtain⟨t,e⟩:=(show ∃ t,u=Value.int i t from r);subst e;exact lC P w i t
 | inr x=>obtain⟨t,e⟩:=(show ∃ t,u=Value.str x t from r);subst e;exact fu P w x t
def jw {P:Program} {w:World}:∀ {ks:List Key} {us:List Value},aT (ks.map kV) us->ItemsAre (aP P w) ks us
 | [],_,r=>by rw[List.map_nil] at r;cases r;exact .nil
 | k::ks,_,r=>by
  rw[List.map_cons] at r;cases r with
  | cons h t=>exact .cons (jv h) (jw t)
abbrev KT (H:Hp):List (List Key×V)->List (List Key×Addr×Value)->Prop:=Paired λp q=>p.1=q.1/\H q.2.1=some (.tup (p.1.map kV))/\b7 p.2 q.2.2
def KT.val {H:Hp} {kvs:List (List Key×V)} {xs:List (List Key×Addr×Value)} (r:KT H kvs xs) (k:List Key):fH (cz kvs k) ((atKey xs k).map (·.2)):=by
 induction r with
 | nil=>exact True.intro
 | @cons p q ps qs h t ih =>
  obtain⟨h1,_,h2⟩:=h;by_cases e:p.1=k
  · have e':q.1=k:=h1.symm.trans e;have b:atKey (q::qs) k=some q.2:=by simp[atKey,List.find?_cons,e']
    rw[gn e,b];exact h2
  · have e':¬ q.1=k:=λz=>e (h1.trans z);have b:atKey (q::qs) k=atKey qs k:=by simp[atKey,List.find?_cons,e']
    rw[gq e,b];exact ih
def KT.repl {H:Hp} {kvs:List (List Key×V)} {xs:List (List Key×Addr×Value)} (r:KT H kvs xs) (k:List Key) {y:V} {u:Value} (ry:b7 y u) :
 KT H (kvs.map λkv=>if kv.1=k then (kv.1,y) else kv) (xs.map (putAt k u)):=by
 induction r with
 | nil=>exact .nil
 | @cons p q ps qs h t ih =>
  rw[List.map_cons,List.map_cons];refine .cons ?_ ih;obtain⟨h1,h2,h3⟩:=h;unfold putAt;by_cases e:p.1=k
  · rw[if_pos e,if_pos (h1.symm.trans e)];exact⟨h1,h2,ry⟩
  · rw[if_neg e,if_neg (λz=>e (h1.trans z))];exact⟨h1,h2,h3⟩
def KT.put {H:Hp} {kvs:List (List Key×V)} {xs:List (List Key×Addr×Value)} (r:KT H kvs xs) (k:List Key) {b:Addr} {y:V} {u:Value} (hb:H b=some (.tup (k.map kV))) (ry:b7 y u) :
 KT H (dn kvs k y) (storedH xs k b u):=by
 have e:(kvs.any λkv=>decide (kv.1=k))=(atKey xs k).isSome:=by
  rw[kQ,(r.val k).isSome_eq,Option.isSome_map]
 unfold dn storedH;rw[e];by_cases q:(atKey xs k).isSome=true
 · rw[if_pos q,if_pos q];exact r.repl k ry
 · rw[if_neg q,if_neg q];exact Paired.snoc r ⟨U,hb,ry⟩
def KT.keeps {H H':Hp} {kvs:List (List Key×V)} {xs:List (List Key×Addr×Value)} (r:KT H kvs xs) (ht:∀ b ys,H b=some (.tup ys)->H' b=some (.tup ys)):KT H' kvs xs :=
 Paired.mapP r λ_ _ z=>⟨z.1,ht _ _ z.2.1,z.2.2⟩
section
variable {P:Program} {w:World} {H:Hp} {h:Heap} {a:Addr}
def vO {u:HO} (ok:HOk P w H h) (e:Rd H a u):bQ P w H h a u:=e.ok ok
def sD {kvs:List (Key×V)} (ok:HOk P w H h) (e:Rd H a (.dK kvs)):kvs.length<=sizeLine/\(a==sysModules)=false/\∃ vs,KV kvs vs/\h.DictOf (aP P w) a vs :=
 show bQ P w H h a (.dK kvs) from vO ok e
def sF {kvs:List (Key×V)} (ok:HOk P w H h) (e:H a=some (.dK kvs)):kvs.length<=sizeLine/\(a==sysModules)=false/\∃ vs,KV kvs vs/\h.DictOf (aP P w) a vs:=sD ok (.inl e)
def mP {ks:List Key} (ok:HOk P w H h) (e:H a=some (.tup (ks.map kV))):(tupleKind (aP P w)).is h ks a:=by
 obtain⟨_,its,r,o,h1,h2,n,h3⟩:=(show bQ P w H h a (.tup (ks.map kV)) from ok a _ e);exact⟨o,its.toArray,n,h1,h2,h3,by simpa using jw r⟩
def sC {kvs:List (List Key×V)} (ok:HOk P w H h) (e:Rd H a (.dT kvs)):kvs.length<=sizeLine/\(a==sysModules)=false /\
 ∃ xs,KT H kvs xs/\h.DictOfH (tupleKind (aP P w)) a xs:=by
 obtain⟨z,y,xs,r,o,es,ep,h1,h2,h3,h4,h5⟩:=(show bQ P w H h a (.dT kvs) from vO ok e);refine⟨z,y,xs,r,o,es,ep,h1,h2,h3,h4,λx hx=>?_,h5⟩;have all:∀ {l:List (List Key×V)} {m:List (List Key×Addr×Value)},KT H l m->∀ x∈m,(tupleKind (aP P w)).is h x.1 x.2.1:=by
  intro l m q
  induction q with
  | nil=>intro x hx;exact nomatch hx
  | @cons p q ps qs hq t ih =>
   intro x hx
   rcases List.mem_cons.mp hx with e | hx
   · subst e;exact mP ok (by rw[<- hq.1];exact hq.2.1)
   · exact ih x hx
 exact all r x hx
def Bz {kvs:List (List Key×V)} (ok:HOk P w H h) (e:H a=some (.dT kvs)):kvs.length<=sizeLine/\(a==sysModules)=false /\
 ∃ xs,KT H kvs xs/\h.DictOfH (tupleKind (aP P w)) a xs:=sC ok (.inl e)
end
def cE (H:Hp) (a:Addr) (y:V) (r:Option V):Prop :=
  (∃ kvs k,Rd H a (.dK kvs)/\y=kV k/\r=cz kvs k)\/∃ kvs k b,Rd H a (.dT kvs)/\y=.ref b/\H b=some (.tup (k.map kV))/\r=cz kvs k
def io (H:Hp) (a:Addr) (y v:V) (H':Hp):Prop :=
  (∃ kvs k,H a=some (.dK kvs)/\y=kV k/\kvs.length<sizeLine/\H'=upd H a (.dK (dn kvs k v))) \/
  ∃ kvs k b,H a=some (.dT kvs)/\y=.ref b/\H b=some (.tup (k.map kV))/\kvs.length<sizeLine/\H'=upd H a (.dT (dn kvs k v))
def cE.k {H:Hp} {a:Addr} {kvs:List (Key×V)} {k:Key} (e:H a=some (.dK kvs)):cE H a (kV k) (cz kvs k):=.inl ⟨kvs,k,.inl e,U,U⟩
def io.k {H:Hp} {a:Addr} {kvs:List (Key×V)} {k:Key} {v:V} (e:H a=some (.dK kvs)) (hl:kvs.length<sizeLine):io H a (kV k) v (upd H a (.dK (dn kvs k v))):=.inl ⟨kvs,k,e,U,hl,U⟩
section
variable {X:Cx} {pins:AOs} {σ:St} {H:Hp} {s:Shared} {a:Addr} {y v:V} {u r:Value} {o:Option V} {A:Around} {E:VSP}
def Inv.big (I:Inv X pins σ H s):sysModules<s.heap.objs.size:=by
 have h:mainGlobals<s.heap.objs.size:=(I.mod.glob.keeps I.bk).lt;exact Nat.lt_trans ∅ h
def qb {Q:VSP} (hu:A.units+1<cLine) (I:Inv X pins σ H s) (g:cE H a y (some v)) (ry:b7 y u) (h:∀ w' s',Inv X pins σ H s'->b7 v w'->Q w' s') :
 wpAny (model X.prog X.w) A (getItem (.ref a) u) Q E s:=by
 rcases g with ⟨kvs,k,e,ey,l⟩ | ⟨kvs,k,b,e,ey,eb,l⟩
 · subst ey;obtain⟨z,hd,vs,rel,dd⟩:=sD I.hok e;obtain⟨w',hw,rw'⟩:=fH.some_of (v:=v) (o:=valueAt vs k) (by rw[l];exact rel.val k);exact wpAny_getItem_of (jv ry) dd.mapOf hw (h w' _ (I.tok _) rw')
 · subst ey;cases (show u=Value.ref b from ry);obtain⟨z,hd,xs,rel,dd⟩:=sC I.hok e;obtain⟨w',hw,rw'⟩:=fH.some_of (v:=v) (o:=(atKey xs k).map (·.2)) (by rw[l];exact rel.val k);obtain⟨p,hp,hp2⟩:=oMS.mp hw;refine wpAny_getItem_heap (tupleKind_room_in1 hu) (mP I.hok eb) dd hp ?_;rw[hp2];exact h w' _ (I.tok _) rw'
def kc {h':Heap} {t':Nat} {ob:HO} (I:Inv X pins σ H s) (mu:Mut (H a)) (hs:Heap.SameBut a s.heap h') (he:∃ q,h'.get? a=some q) (new:bQ X.prog X.w (upd H a ob) h' a ob) :
 Inv X pins σ (upd H a ob) {s with heap:=h',toks:=t'} :=
 I.write (x:=a) (e:=a) mu (.inl U) (λb q hb z=>(hs.2 b hb).trans z) he new
def jZ {P:Program} {w:World} {H':Hp} {h':Heap} {kvs:List (Key×V)} {vs:List (Key×Value)} (z:kvs.length<=sizeLine) (hd:(a==sysModules)=false) (rel:KV kvs vs) (dd:h'.DictOf (aP P w) a vs) :
 bQ P w H' h' a (.dK kvs):=⟨z,hd,vs,rel,dd⟩
def qa {H':Hp} {Q:Unit->Shared->Prop} (hu:A.units+1<cLine) (I:Inv X pins σ H s) (g:io H a y v H') (ry:b7 y u) (rv:b7 v r) (h:∀ s',Inv X pins σ H' s'->Q () s') :
 wpAny (model X.prog X.w) A (setItem (.ref a) u r) Q E s:=by
 rcases g with ⟨kvs,k,e,ey,l,eH⟩ | ⟨kvs,k,b,e,ey,eb,l,eH⟩
 · subst ey eH;obtain⟨z,hd,vs,rel,dd⟩:=sF I.hok e;have hz:vs.length<=sizeLine:=by rw[<- rel.length];exact z
   have hl:(dn kvs k v).length<=sizeLine:=by have:=fz kvs k v;lia
   refine wpAny_setItem_pairs (hsz:=hz) (jv ry) dd λh' dd' hs=>h _ ?_;have he:∃ q,h'.get? a=some q:=let ⟨q,_,_,hq,_⟩:=dd';⟨q,hq⟩;exact kc I (by rw[e];exact True.intro) hs he (jZ hl hd (rel.put k rv) dd')
 · subst ey eH;cases (show u=Value.ref b from ry);obtain⟨z,hd,xs,rel,dd⟩:=Bz I.hok e;have hz:xs.length<=sizeLine:=by rw[<- Paired.length rel];exact z
   have hl:(dn kvs k v).length<=sizeLine:=by have:=fz kvs k v;lia
   refine wpAny_setItem_heap (hsz:=hz) (tupleKind_room_in1 hu) (mP I.hok eb) dd λh' dd' hs=>h _ ?_;obtain⟨q,es,ep,hq,h2,h3,h4,_,h5⟩:=dd';refine kc I (by rw[e];exact True.intro) hs ⟨q,hq⟩ ⟨hl,hd,_,(rel.put k eb rv).keeps λc ys ec=>?_,q,es,ep,hq,h2,h3,h4,h5⟩;rw[af (Bn ec e (λz=>nomatch z))];exact ec
end
section
variable {X:Cx} {pins:AOs} {σ:St} {H:Hp} {s:Shared} {a:Addr} {kvs:List (Key×V)} {k:Key} {u:Value} {A:Around} {E:VSP}
end
def z8 (i:Expr):Prop:=∀ ov iv,subscripted i false ov iv=operate [ov,iv] (getItem ov iv)
def nL {prog:Program} {w:World} {A:Around} {E:VSP} {s:Shared} {env:Env} {value slice:Expr} {pos:Pos} {T id:String} {Q:VSP}
 (hl:typeLookup (.type T) "__getitem__"=pure (some (.builtin id))) (hs:z8 slice)
 (h:wpAny (model prog w) A (eval value env) (λo s₁=>wpAny (model prog w) A (eval slice env) (λi s₂=>s₂.TypeIs o T/\wpAny (model prog w) A (getItem o i) Q E s₂) E s₁) E s) :
 wpAny (model prog w) A (eval (.Subscript value slice pos) env) Q E s:=by
 refine Subscript_ (wpAny_mono h (λo s₁ h₁=>wpAny_mono h₁ (λi s₂ h₂=>?_) λ_ _ x=>x) λ_ _ x=>x);obtain⟨hT,h₂⟩:=h₂;unfold subscriptTail;refine wB ?_;rw[getitemInPython_of_ne hT.not_modules];refine wB (wpAny_specialOf hT hl ?_);have fin:wpAny (model prog w) A (subscripted slice false o i) (λr s₃=>wpAny (model prog w) A (letTemporaryGo value o r>>=λ_=>pure r) Q E s₃) E s₂:=by
  rw[hs o i];exact wpAny_operating (wpAny_mono h₂ (λr s₃ h₃=>wB (wpAny_letTemporaryGo (wP h₃))) λ_ _ x=>x)
 first
  | exact wP (wB fin)
  | exact wB (wP (wB fin))
  | exact wB fin
def lL {X:Cx} {pins:AOs} {σ:St} {H:Hp} {s:Shared} {a:Addr} {y:V} {o:Option V} (I:Inv X pins σ H s) (g:cE H a y o):s.TypeIs (.ref a) "dict":=by
 rcases g with ⟨kvs,k,e,_,_⟩ | ⟨kvs,k,b,e,_,_,_⟩
 · obtain⟨_,_,vs,_,dd⟩:=sD I.hok e;exact dd.typeIs
 · obtain⟨_,_,xs,_,dd⟩:=sC I.hok e;exact dd.typeIs
inductive wZ (x y:V) (H:Hp) (Q:VK):Prop
  | mk (a:Addr) (v:V) (h:x=.ref a) (g:cE H a y (some v)) (q:Q v H):wZ x y H Q
def vK (td ty:TE):TE:=λσ H Q=>td σ H λx H1=>ty σ H1 λy H2=>wZ x y H2 Q
inductive wY (x y v:V) (H:Hp) (N:Hp->Prop):Prop
  | mk (a:Addr) (H4:Hp) (h:x=.ref a) (g:io H a y v H4) (q:N H4):wY x y v H N
def Al (td ty tv:TE):TS:=λD σ H=>tv σ H λv H1=>td σ H1 λx H2=>ty σ H2 λy H3=>wY x y v H3 (D.nx σ)
section
variable {X:Cx} {o i e value:Expr} {pos pos' tpos:Pos} {td ty tv:TE}
def pK (hu:X.A.units+1<cLine) (ho:PE X o td) (hi:PE X i ty) (hs:z8 i):PE X (.Subscript o i pos) (vK td ty):=by
 intro pins s σ H Q I h;refine nL PySem.F.slot_dict_getitem.lookup hs (thn (ho pins s σ H _ I h) λu s1 zy85=>?_);obtain⟨x,H1,I1,rx,q1⟩:=zy85;refine thn (hi pins s1 σ H1 _ I1 q1) λiv s2 zy86=>?_;obtain⟨y,H2,I2,ry,a,v,ex,g,q2⟩:=zy86;subst ex;obtain rfl:u=Value.ref a:=rx;exact⟨lL I2 g,qb hu I2 g ry λw' s3 I3 rw'=>⟨v,H2,I3,rw',q2⟩⟩
def du (hu:X.A.units+1<cLine) (ho:PE X o td) (hi:PE X i ty) (hv:PE X value tv) (hs:swapsWith value (some (.Subscript o i pos')) pos.line X.env=pure false) :
 PS X (.Assign [.Subscript o i pos'] value pos) (Al td ty tv):=by
 intro pins s σ H D I h;refine wpAny_Assign_Subscript (thn (hv pins s σ H _ I h) λr s1 zy91=>?_) hs;obtain⟨v,H1,I1,rv,q1⟩:=zy91;refine thn (ho pins s1 σ H1 _ I1 q1) λu s2 zy92=>?_;obtain⟨x,H2,I2,rx,q2⟩:=zy92;refine thn (hi pins s2 σ H2 _ I2 q2) λiv s3 zy93=>?_;obtain⟨y,H3,I3,ry,a,H4,ex,g,q3⟩:=zy93;subst ex;obtain rfl:u=Value.ref a:=rx;exact qa hu I3 g ry rv λs4 I4=>⟨σ,H4,I4,q3⟩
end
def sG {P:Program} {w:World} {H:Hp} (h:Heap) (hb:sysModules<h.objs.size):bQ P w H (h.push {cls:=.type "dict",data:=.dict #[]}) h.objs.size (.dK []) :=
 ⟨Nat.zero_le _,beq_eq_false_iff_ne.mpr (Ne.symm (Nat.ne_of_lt hb)),[],.nil,Heap.DictOf.new h⟩
section
variable {X:Cx} {pos:Pos}
end
def ms:List (TE×TE)->St->Hp->(List (V×V)->Hp->Prop)->Prop
  | [],_,H,Q=>Q [] H
  | (tk,tv)::r,σ,H,Q=>tk σ H λx H1=>tv σ H1 λy H2=>ms r σ H2 λps H3=>Q ((x,y)::ps) H3
abbrev VV:List (V×V)->List (Value×Value)->Prop:=Paired λp q=>b7 p.1 q.1/\b7 p.2 q.2
def PPs (X:Cx) (pos:Pos) (keys:List (Option Expr)) (values:List Expr) (trs:List (TE×TE)):Prop :=
  ∀ (pins:AOs) (s:Shared) (σ:St) (H:Hp) (Q:List (V×V)->Hp->Prop),Inv X pins σ H s->ms trs σ H Q ->
    wpAny (model X.prog X.w) X.A (evalPairs (pairTrees keys values X.env pos)) (λvs s'=>∃ ps H',Inv X pins σ H' s'/\VV ps vs/\Q ps H') X.xe s
def jP {X:Cx} {pos:Pos}:PPs X pos [] [] []:=λpins s σ H Q I h=>pairTrees_nil_walk ⟨[],H,I,.nil,h⟩
def cg {X:Cx} {pos:Pos} {k v:Expr} {ks:List (Option Expr)} {vs:List Expr} {tk tv:TE} {trs:List (TE×TE)} (hk:PE X k tk) (hv:PE X v tv) (hr:PPs X pos ks vs trs) :
 PPs X pos (some k::ks) (v::vs) ((tk,tv)::trs):=λpins s σ H Q I h =>
 pairTrees_cons_walk (thn (hk pins s σ H _ I h) λu s1 ⟨x,H1,I1,rx,q1⟩=>thn (hv pins s1 σ H1 _ I1 q1) λw2 s2 ⟨y,H2,I2,ry,q2⟩ =>
   thn (hr pins s2 σ H2 _ I2 q2) λws s3 ⟨ps,H3,I3,rel,q3⟩=>⟨(x,y)::ps,H3,I3,.cons ⟨rx,ry⟩ rel,q3⟩)
def cC (kvs more:List (Key×V)):List (Key×V):=more.foldl (λacc kv=>dn acc kv.1 kv.2) kvs
def KV.merge:∀ {more:List (Key×V)} {rs:List (Key×Value)} {kvs:List (Key×V)} {vs:List (Key×Value)},KV more rs->KV kvs vs->KV (cC kvs more) (merged vs rs):=by
 intro more rs kvs vs r;unfold KV at r
 induction r generalizing kvs vs with
 | nil=>intro q;exact q
 | @cons p q ps qs h t ih =>
  intro r0;have e:KV (dn kvs p.1 p.2) (stored vs q.1 q.2):=by
   have:=r0.put p.1 h.2;rw[<- h.1];exact this
  exact ih e
def dU:∀ (more kvs:List (Key×V)),(cC kvs more).length<=kvs.length+more.length
 | [],kvs=>by show kvs.length<=kvs.length+0;lia
 | p::r,kvs=>by
  have h1:=dU r (dn kvs p.1 p.2);have h2:=fz kvs p.1 p.2;show (cC (dn kvs p.1 p.2) r).length<=_;rw[List.length_cons];lia
def j7 {P:Program} {w:World}:∀ {kvs:List (Key×V)} {ws:List (Value×Value)},VV (kvs.map λkv=>(kV kv.1,kv.2)) ws->∃ rs,Carries (aP P w) ws rs/\KV kvs rs
 | [],_,r=>by rw[List.map_nil] at r;cases r;exact⟨[],True.intro,.nil⟩
 | p::kvs,_,r=>by
  rw[List.map_cons] at r;cases r with
  | @cons a b as bs h t =>
   obtain⟨rs,c,q⟩:=j7 (P:=P) (w:=w) t;obtain⟨b1,b2⟩:=b;exact⟨(p.1,b2)::rs,⟨jv h.1,U,c⟩,.cons ⟨U,h.2⟩ q⟩
def zL (trs:List (TE×TE)):TE:=λσ H Q=>∀ p,H p=none->ms trs σ (upd H p (.dK [])) λps H2=>H2 p=some (.dK [])/\∃ kvs:List (Key×V),ps=kvs.map (λkv=>(kV kv.1,kv.2))/\kvs.length<=15/\Q (.ref p) (upd H2 p (.dK (cC [] kvs)))
def jR {X:Cx} {pos:Pos} {keys:List (Option Expr)} {values:List Expr} {trs:List (TE×TE)} (h:PPs X pos keys values trs) (hall:keys.all (·.isSome)=true) (hl:keys.length=values.length) (h0:keys≠[])
 (h15:keys.length<=15):PE X (.Dict keys values pos) (zL trs):=by
 intro pins s σ H Q I q;have hn:=I.hok.fresh (Nat.le_refl s.heap.objs.size);have I1:=I.laid (a:=s.heap.objs.size) (o:=.dK []) (h':=s.heap.push {cls:=.type "dict",data:=.dict #[]}) (t':=s.toks) (λ_ _ q=>hpS _ q) (Nat.le_refl _) (sG s.heap I.big);refine wpAny_Dict_walk (knd:=aP X.prog X.w) hall hl h0 h15 (thn (h pins _ σ _ _ I1 (q _ hn)) λws s2 zy100=>?_);obtain⟨ps,H2,I2,rel,e,kvs,ep,lk,q2⟩:=zy100;subst ep;obtain⟨rs,c,rk⟩:=j7 (P:=X.prog) (w:=X.w) rel;obtain⟨z,hd,vs0,r0,dd⟩:=sF I2.hok e;cases r0;refine⟨rs,c,dd,λh' dd' hs=>⟨.ref s.heap.objs.size,_,?_,U,q2⟩⟩;have hz:(cC [] kvs).length<=sizeLine:=by
  have h1:=dU kvs [];rw[List.length_nil] at h1;rw[sizeLine_eq];lia
 have he:∃ q,h'.get? s.heap.objs.size=some q:=let ⟨q,_,_,hq,_⟩:=dd';⟨q,hq⟩;exact kc I2 (by rw[e];exact True.intro) hs he (jZ hz hd (rk.merge .nil) dd')
structure M1 (X:Cx) (o:Expr) (m:Str) (apos:Pos) (e:Expr) (cpos:Pos):Prop where
  base:attributeBase o m X.env (eval o X.env)=eval o X.env
  few:((backTo cpos (starEach [e] X.env)).all (λx=>!x.1)&&(backToKw cpos (keywordEach [] X.env)).all (λx=>x.1.isSome)
    && decide (([e]:List Expr).length+([]:List Keyword).length+(if ([]:List Keyword).isEmpty then 0 else 1)<30))=true
  line:(apos.endLine==cpos.line)=true
  trees:backTo cpos (starEach [e] X.env)=[(false,eval e X.env)]
structure M2 (X:Cx) (o:Expr) (m:Str) (apos:Pos) (e f:Expr) (cpos:Pos):Prop where
  base:attributeBase o m X.env (eval o X.env)=eval o X.env
  few:((backTo cpos (starEach [e,f] X.env)).all (λx=>!x.1)&&(backToKw cpos (keywordEach [] X.env)).all (λx=>x.1.isSome)
    && decide (([e,f]:List Expr).length+([]:List Keyword).length+(if ([]:List Keyword).isEmpty then 0 else 1)<30))=true
  line:(apos.endLine==cpos.line)=true
  trees:backTo cpos (starEach [e,f] X.env)=[(false,eval e X.env),(false,eval f X.env)]
section
variable {X:Cx} {pins:AOs} {σ:St} {H:Hp} {s:Shared} {a:Addr} {y d:V} {u r:Value} {o:Option V} {A:Around} {E:VSP}
end
section
variable {X:Cx} {o e f:Expr} {apos cpos:Pos} {td ty tx:TE}
end
section
variable {X:Cx} {pins:AOs} {σ:St} {H:Hp} {s:Shared} {a:Addr} {kvs:List (Key×V)} {A:Around} {E:VSP}
end
section
variable {X:Cx} {pins:AOs} {σ:St} {H:Hp} {s:Shared} {a:Addr} {y:V} {u:Value} {A:Around} {E:VSP}
end
section
variable {X:Cx}
def qV (K:Fg):R2:=λx y H Q=>∃ a b xs ys,x=.ref a/\y=.ref b/\SqT K H a xs/\SqT K H b ys/\xs.length+ys.length<=sizeLine /\
  (xs=[]->Q (.ref b) H)/\(xs≠[]->ys=[]->Q (.ref a) H)/\(xs≠[]->ys≠[]->∀ p,H p=none->Q (.ref p) (upd H p (.tup (xs++ys))))
def nY:OpR X (binaryOp .Add) (qV X.K):=by
 intro pins s σ H x y v u Q I rx ry h;obtain⟨a,b,xs,ys,rfl,rfl,ha,hb,hz,q0,q1,q2⟩:=h;by_cases hx:xs=[]
 · cases rx;cases ry;obtain⟨its,r1,p1,_⟩:=I.tuple ha;obtain⟨its2,r2,p2,_⟩:=I.tuple hb;have e0:its=[]:=r1.nil_iff.mpr hx;subst e0;obtain⟨⟨c1,d1,t1,s1⟩,ho,hc,n,hd⟩:=p1;obtain⟨⟨c2,d2,t2,s2⟩,ho2,hc2,n2,hd2⟩:=p2;simp only at hc hd hc2 hd2;subst hc hd hc2 hd2;exact concat_meets ⟨_,ho,U⟩ ⟨_,ho2,U⟩ noFill_tuple_add seq_tuple_add PySem.F.slot_tuple_add PySem.F.entry_tuple_add (PySem.F.args_tuple_add_2 _ _) (tuple_addW0 a b _ _ n n2 d1 d2 s1 s2 (by simp)) ⟨ho,ho2,⟨.ref b,H,I,U,q0 hx⟩⟩
 · exact uE pins s σ H _ _ v u Q I rx ry ⟨a,b,xs,ys,U,U,ha,hb,hx,hz,q1 hx,q2 hx⟩
def AA (K:Fg):R2:=λx y H Q=>∃ a b xs,x=.ref a/\y=.ref b/\SqT K H a xs/\SqT K H b []/\Q (.bl xs.isEmpty) H
def uD (hu:X.A.units+64<cLine):OpR X (compareOp .Eq) (AA X.K):=by
 intro pins s σ H x y v u Q I rx ry h;obtain⟨a,b,xs,rfl,rfl,ha,hb,q⟩:=h;cases rx;cases ry;obtain⟨its,r1,p1,_⟩:=I.tuple ha;obtain⟨its2,r2,p2,_⟩:=I.tuple hb;have e2:its2=[]:=r2.nil_iff.mpr rfl;subst e2;refine SeqAt.eq_tupleAt (e:=λ_=>true) p1 p2 (by lia) (λj h1 h2=>absurd h2 (by simp)) ?_;have e1:=r1.length;have:((List.range (min its.toArray.size ([]:List Value).toArray.size)).all (λ_=>true)&&its.toArray.size==([]:List Value).toArray.size)=xs.isEmpty:=by
  cases xs with
  | _=>simp at e1;simp[<- e1]
 rw[this];exact⟨.bl xs.isEmpty,H,I,U,q⟩
def ma (P:Program) (w:World) (K:Fg) (a:Addr) (kvs:List (Key×V)):Prop:=∃ (o:Obj) (vs:List (Key×Value)),K.lookup a=some o/\o.IsDictOf (aP P w) vs/\KV kvs vs/\(a==sysModules)=false
def ma.of {pins:AOs} {σ:St} {H:Hp} {s:Shared} {a:Addr} {kvs:List (Key×V)} (I:Inv X pins σ H s) (h:ma X.prog X.w X.K a kvs):(a==sysModules)=false/\∃ vs,KV kvs vs/\s.heap.DictOf (aP X.prog X.w) a vs:=by
 obtain⟨o,vs,h1,h2,h3,h4⟩:=h;exact⟨h4,vs,h3,Heap.dictOf_iff.mpr ⟨o,I.kIn a o h1,h2⟩⟩
variable {o i:Expr} {pos:Pos} {td ty:TE}
def zI (P:Program) (w:World) (K:Fg) (td ty:TE):TE:=λσ H Q=>td σ H λx H1=>ty σ H1 λy H2=>∃ a kvs k v,x=.ref a/\ma P w K a kvs/\y=kV k/\cz kvs k=some v/\Q v H2
def nX (ho:PE X o td) (hi:PE X i ty) (hs:z8 i):PE X (.Subscript o i pos) (zI X.prog X.w X.K td ty):=by
 intro pins s σ H Q I h;refine nL PySem.F.slot_dict_getitem.lookup hs (thn (ho pins s σ H _ I h) λu s1 zz116=>?_);obtain⟨x,H1,I1,rx,q1⟩:=zz116;refine thn (hi pins s1 σ H1 _ I1 q1) λiv s2 zz117=>?_;obtain⟨y,H2,I2,ry,a,kvs,k,v,ex,g,ey,l,q2⟩:=zz117;subst ex ey;obtain rfl:u=Value.ref a:=rx;obtain⟨hd,vs,rel,dd⟩:=g.of I2;obtain⟨w',hw,rw'⟩:=fH.some_of (v:=v) (o:=valueAt vs k) (by rw[<- l];exact rel.val k);exact⟨dd.typeIs,wpAny_getItem_of (jv ry) dd.mapOf hw ⟨v,H2,I2.tok _,rw',q2⟩⟩
end
def qZ {X:Cx} {elt tg iter:Expr} {ifs:List Expr} {sc:Scope} {pos spos py:Pos} {i0:Nat} {y0:Str} {wi:TI} {g:TG} {tc:TT} {te:TE} {own:List Str} {outs:List (Nat×Str)} (hc:X.calm=true) (S:br X sc own outs) (hi:PI X tg iter wi)
 (hb:∀ (fp:List Addr) (pins:AOs) (s:Shared) (H:Hp),PG (blk X sc (dq X.env.cells sc.names []) (gh own outs) fp pins s H) tg g /\
   sY (blk X sc (dq X.env.cells sc.names []) (gh own outs) fp pins s H) ifs tc/\PE (blk X sc (dq X.env.cells sc.names []) (gh own outs) fp pins s H) elt te)
 (hN:X.N.Nodup) (hi0:X.N[i0]?=some y0) (hx0:X.env.scope.names.lookup y0=some .local) (hsw:swapsWith (.ListComp elt [⟨tg,iter,ifs,0⟩] sc pos) (some (.Name y0 py)) spos.line X.env=pure true:=by rfl)
 (hs:∀ x,foldedSetIterable iter X.env x=pure x:=by intro _;rfl):PS X (.Assign [.Name y0 py] (.ListComp elt [⟨tg,iter,ifs,0⟩] sc pos) spos) (qy (tLC wi own.length outs g tc te) (lG i0)):=by
 intro pins s σ H DD I h;rw[exec_Assign_Name_used _ _ _ _ hsw];refine wB (wpAny_standAt (wB ?_));show wpAny _ X.A (do let _ <- comprehension (.ListComp elt [⟨tg,iter,ifs,0⟩] sc pos) sc X.env _ (newList []) false (eval iter X.env) (some (assign (.Name y0 py) X.env))) _ _ s;refine wB (wpAny_mono (Q:=λ_ s'=>∃ σ' H',Inv X pins σ' H' s'/\DD.nx σ' H') ?_ (λ_ s' hq=>wP (wP hq)) λ_ _ e=>e);refine oq hc S hi hb hs I h λD c m6 H5 s6 I7 n6 f6 cl sz cc cp q=>?_;refine wpAny_assign_Name (jn I7 hN hi0 (.inl hx0) (v:=.ref D) U (λs8 I8 z=>?_) (.inr hx0));obtain⟨a8,sb8,h8⟩:=z;have a8c:c≠a8:=by
  rcases h8 with z | z
  · rw[z];exact cl.symm
  · exact (cc _ _ z).symm
 exact⟨m6,n6.sameBut sb8 a8c,λh9 sb9=>⟨_,H5,I8.turned (t':=s8.toks) (λb o hb e=>(sb9.2 b hb).trans e) f6 cl.symm (.inr sz) cc cp,q⟩⟩
mutual
inductive TD (K:Fg) (H:Hp):V->PyData->Prop
  | bl (b:Bool):TD K H (.bl b) (.bool b)
  | int (i:Int):TD K H (.int i) (.int i)
  | str (x:Str):TD K H (.str x) (.str x)
  | tup {a:Addr} {xs:List V} {ds:PDs}:SqT K H a xs->TDs K H xs ds->TD K H (.ref a) (.tuple ds)
inductive TDs (K:Fg) (H:Hp):List V->PDs->Prop
  | nil:TDs K H [] []
  | cons {x:V} {d:PyData} {xs:List V} {ds:PDs}:TD K H x d->TDs K H xs ds->TDs K H (x::xs) (d::ds)
end
def Tk (H H':Hp):Prop:=∀ b xs,Rd H b (.tup xs)->Rd H' b (.tup xs)
section
variable {K:Fg} {H H' H2:Hp}
def aI.tk (e:aI H H'):Tk H H':=λb xs h=>by
 rcases h with h | ⟨o,h⟩
 · exact .inl (e _ _ h)
 · exact .inr ⟨o,e _ _ h⟩
def gX {L:Addr} {o:HO} (h:H L=none\/∃ ys,H L=some (.lst ys)):Tk H (upd H L o):=λb xs z=>by
 have ne:b≠L:=λe=>by
  rw[e] at z
  rcases z with z | ⟨_,z⟩ <;> rcases h with h | ⟨ys,h⟩ <;> rw[h] at z <;> cases z
 rcases z with z | ⟨o',z⟩
 · exact .inl (by rw[af ne];exact z)
 · exact .inr ⟨o',by rw[af ne];exact z⟩
def SqT.tk {a:Addr} {xs:List V} (e:Tk H H') (h:SqT K H a xs):SqT K H' a xs:=by
 rcases h with h | h
 · exact .inl (e _ _ h)
 · exact .inr h
def TD.tk (e:Tk H H') {v:V} {d:PyData} (h:TD K H v d):TD K H' v d :=
 TD.rec (motive_1:=λv d _=>TD K H' v d) (motive_2:=λxs ds _=>TDs K H' xs ds) (λb=>.bl b) (λi=>.int i) (λx=>.str x) (λhq _ ih=>.tup (hq.tk e) ih) .nil (λ_ _ a b=>.cons a b) h
def TDs.tk (e:Tk H H') {xs:List V} {ds:PDs} (h:TDs K H xs ds):TDs K H' xs ds :=
 TDs.rec (motive_1:=λv d _=>TD K H' v d) (motive_2:=λxs ds _=>TDs K H' xs ds) (λb=>.bl b) (λi=>.int i) (λx=>.str x) (λhq _ ih=>.tup (hq.tk e) ih) .nil (λ_ _ a b=>.cons a b) h
def TD.same {v:V} {d:PyData} (e:aI H H') (h:TD K H v d):TD K H' v d:=h.tk e.tk
def TDs.same {v:List V} {d:PDs} (e:aI H H') (h:TDs K H v d):TDs K H' v d:=h.tk e.tk
def TDs.length {xs:List V} {ds:PDs} (h:TDs K H xs ds):xs.length=ds.length:=by
 induction xs generalizing ds with
 | nil=>cases h;rfl
 | cons x r ih=>cases h with | cons a b=>rw[List.length_cons,List.length_cons,ih b]
def TDs.get {xs:List V} {ds:PDs} (h:TDs K H xs ds):∀ {i:Nat} {x:V},xs[i]?=some x->∃ d,ds[i]?=some d/\TD K H x d:=by
 induction xs generalizing ds with
 | nil=>intro i x z;simp at z
 | cons y r ih =>
  cases h with
  | cons a b =>
   intro i x z;cases i with
   | zero=>cases z;exact⟨_,U,a⟩
   | succ i=>exact ih b z
def TDs.snoc {xs:List V} {ds:PDs} {v:V} {d:PyData} (h:TDs K H xs ds) (hv:TD K H v d):TDs K H (xs++[v]) (ds++[d]):=by
 induction xs generalizing ds with
 | nil=>cases h;exact .cons hv .nil
 | cons y r ih=>cases h with | cons a b=>exact .cons a (ih b)
def TDs.app {xs ys:List V} {ds es:PDs} (h:TDs K H xs ds) (h2:TDs K H ys es):TDs K H (xs++ys) (ds++es):=by
 induction xs generalizing ds with
 | nil=>cases h;exact h2
 | cons y r ih=>cases h with | cons a b=>exact .cons a (ih b)
def TD.int_of {v:V} {i:Int} (h:TD K H v (.int i)):v=.int i:=by cases h;rfl
def TD.str_of {v:V} {x:Str} (h:TD K H v (.str x)):v=.str x:=by cases h;rfl
def TD.tup_of {v:V} {ds:PDs} (h:TD K H v (.tuple ds)):∃ a xs,v=.ref a/\SqT K H a xs/\TDs K H xs ds:=by
 cases h with
 | tup hq hd=>exact⟨_,_,U,hq,hd⟩
def TDs.of_ints (ns:List Nat):TDs K H (ns.map λn=>V.int ((n:Nat):Int)) (ns.map λn=>PyData.int ((n:Nat):Int)):=by
 induction ns with
 | nil=>exact .nil
 | cons s r ih=>exact .cons (.int _) ih
end
def smu {H:Hp} {L:Addr} {o:HO} (h:H L=none):aI H (upd H L o):=λb u e=>by rw[af (ao e h)];exact e
section
variable {X:Cx} {p pos apos cpos:Pos} {e:Expr} {es:List Expr} {t:TA} {o:Expr} {to:TE}
end
end L2
namespace L2
open PySem PySem.Spec PyProof.Rows
def ji:typeLookup (.type "tuple") (dunderI "add")=pure none:=by rw[typeLookup_type];right
section
variable {X:Cx}
def ox:PIp X .Add (qV X.K):=by
 intro pins s σ H x y v u Q I rx ry h;obtain⟨a,b,xs,ys,rfl,rfl,ha,hb,hz,q0,q1,q2⟩:=h;cases rx;cases ry;obtain⟨its,r1,p1,_⟩:=I.tuple ha;obtain⟨its2,r2,p2,_⟩:=I.tuple hb;obtain⟨⟨c1,d1,t1,s1⟩,ho,hc,n,hd⟩:=p1;obtain⟨⟨c2,d2,t2,s2⟩,ho2,hc2,n2,hd2⟩:=p2;simp only at hc hd hc2 hd2;subst hc hd hc2 hd2;have hsz:its.length+its2.length<=sizeLine:=by rw[<- r1.length,<- r2.length];exact hz
 have ht:s.TypeIs (.ref a) "tuple":=⟨_,ho,U⟩;have ht2:s.TypeIs (.ref b) "tuple":=⟨_,ho2,U⟩;refine wpAny_inplaceOp_concat ht ht2 ji noFill_tuple_add seq_tuple_add ?_;by_cases hx:its=[]
 · exact call_meets PySem.F.slot_tuple_add ht PySem.F.entry_tuple_add (PySem.F.args_tuple_add_2 _ _) (tuple_addW0 a b _ _ n n2 d1 d2 s1 s2 (by simp[hx])) ⟨ho,ho2,⟨.ref b,H,I,U,q0 (r1.nil_iff.mp hx)⟩⟩
 · by_cases hy:its2=[]
   · exact call_meets PySem.F.slot_tuple_add ht PySem.F.entry_tuple_add (PySem.F.args_tuple_add_2 _ _) (tuple_addW1 a b _ _ n n2 d1 d2 s1 s2 (by simpa using hx) (by simp[hy])) ⟨ho,ho2,⟨.ref a,H,I,U,q1 (λz=>hx (r1.nil_iff.mpr z)) (r2.nil_iff.mp hy)⟩⟩
   · refine call_meets PySem.F.slot_tuple_add ht PySem.F.entry_tuple_add (PySem.F.args_tuple_add_2 _ _) (tuple_addW2 a b _ _ n n2 d1 d2 s1 s2 (by simpa using hx) (by simpa using hy) (by rw[List.size_toArray,List.size_toArray];exact hsz)) ⟨ho,ho2,?_⟩;have e:its.toArray++its2.toArray=(its++its2).toArray:=by simp
     rw[e];refine⟨.ref s.heap.objs.size,_,I.laid (t':=s.toks) (o:=.tup (xs++ys)) (λb ob q=>hpS _ q) (Nat.le_refl _) ?_,U,q2 (λz=>hx (r1.nil_iff.mpr z)) (λz=>hy (r2.nil_iff.mpr z)) _ (I.hok.fresh (Nat.le_refl _))⟩;exact⟨by rw[lAp];exact hz,_,r1.append r2,IsTup.new _ _⟩
end
structure Drw (prog:Program) (w:World) (i src:Addr) (xs:Array Value) (J:Nat->Heap->Prop):Prop where
  ext:∀ k h h',J k h->(∀ o,h.get? i=some o->h'.get? i=some o)->(∀ o,h.get? src=some o->h'.get? src=some o)->J k h'
  item:∀ (A:Around) (E:VSP) (s:Shared) (k:Nat) (x:Value) (Q:VSP),J k s.heap->xs[k]?=some x->(∀ h',J (k+1) h'->Heap.SameBut i s.heap h'->Q x {s with heap:=h'}) ->
    wpAny (model prog w) A (Builtin.SmallTypes.nextOf (.ref i)) Q E s
  stop:∀ (A:Around) (E:VSP) (s:Shared) (k:Nat) (Q:VSP),A.handled=none->J k s.heap->xs[k]?=none->(∀ h' e,Heap.ExtBut i s.heap h'->(∃ o,h'.get? e=some o/\o.cls=.type "StopIteration")->E (.ref e) {s with heap:=h'}) ->
    wpAny (model prog w) A (Builtin.SmallTypes.nextOf (.ref i)) Q E s
def fR {prog:Program} {w:World} (i t:Addr) (hne:t≠i) (xs:Array Value):Drw prog w i t xs (λk h=>h.IsTupleIter i t k/\h.IsTuple t xs) where
 ext:=λk h h' ⟨⟨o,a,r⟩,o2,a2,r2⟩ e1 e2=>⟨⟨o,e1 o a,r⟩,o2,e2 o2 a2,r2⟩
 item:=by
  rintro A E s k x Q ⟨st,ht⟩ hx q;obtain⟨o,ho,hc,hd⟩:=id st;obtain⟨ot,hot,ct,nt,dt⟩:=id ht;unfold Builtin.SmallTypes.nextOf;refine wB (wpAny_callSpecial?_slot (name:=Str.ofString "__next__") st.typeIs F.slot_tuple_iterator_next (wpAny_call_entry F.slot_tuple_iterator_next st.typeIs F.entry_tuple_iterator_next ?_ (F.args_tuple_iterator_next_1 _)));show wpAny _ _ (field (.ref i) 0>>=_) _ _ s;refine wB (wpAny_field ho hd (x:=.ref t) U ?_);show wpAny _ _ (if (Value.ref t==Value.none)=true then _ else _) _ _ s;rw[if_neg (λz=>Bool.false_ne_true (show (Value.ref t==Value.none)=true from z))];show wpAny _ _ (field (.ref i) 1>>=_) _ _ s;refine wB (wpAny_field ho hd (x:=.int k 0) U ?_);show wpAny _ _ (seqItems? (.ref t)>>=_) _ _ s;refine wB (wpAny_seqItems hot dt ?_);simp only[Int.toNat_natCast,hx];refine wB (wpAny_setField ho hd (by simp) (wP ⟨x,U,wP (q _ ⟨?_,ht.extBut (Heap.SameBut.update ..).extBut hne⟩ (Heap.SameBut.update ..))⟩));exact⟨_,Heap.get?_update_self _ ho (Obj.isFreed_of_fields (Obj.data_mapFields hd _)),(Obj.cls_mapFields ..).trans hc,by rw[Obj.data_mapFields hd];simp[rawInt]⟩
 stop:=by
  rintro A E s k Q hh ⟨st,ht⟩ hx q;obtain⟨o,ho,hc,hd⟩:=id st;obtain⟨ot,hot,ct,nt,dt⟩:=id ht;unfold Builtin.SmallTypes.nextOf;refine wB (wpAny_callSpecial?_slot (name:=Str.ofString "__next__") st.typeIs F.slot_tuple_iterator_next (wpAny_call_entry F.slot_tuple_iterator_next st.typeIs F.entry_tuple_iterator_next ?_ (F.args_tuple_iterator_next_1 _)));show wpAny _ _ (field (.ref i) 0>>=_) _ _ s;refine wB (wpAny_field ho hd (x:=.ref t) U ?_);show wpAny _ _ (if (Value.ref t==Value.none)=true then _ else _) _ _ s;rw[if_neg (λz=>Bool.false_ne_true (show (Value.ref t==Value.none)=true from z))];show wpAny _ _ (field (.ref i) 1>>=_) _ _ s;refine wB (wpAny_field ho hd (x:=.int k 0) U ?_);show wpAny _ _ (seqItems? (.ref t)>>=_) _ _ s;refine wB (wpAny_seqItems hot dt ?_);simp only[Int.toNat_natCast,hx];refine wB (wpAny_rule (wB (wpAny_setField ho hd (by simp) ?_)));show wpAny _ _ (newExc (.type "StopIteration") []>>=_) _ _ _;refine wB ?_;simp only[newExc,newTuple];refine wB (wpAny_newObj_type ?_ (by size_fits));refine wB (m:=firstArgMember _ _) (wpAny_of_eq (a:=Value.none) (by first | rfl | (simp only[firstArgMember];rfl)) ?_);refine wpAny_newObj_type ?_ (by size_fits);simp only[raiseNew];refine wB (wpAny_handled ?_);first | rw[show A.in1.handled=none from hh] | rw[hh]
  refine wB (wP (wpAny_throw ?_));exact q _ _ (((Heap.SameBut.update ..).extBut.push _).push _) ⟨_,Heap.get?_push_size _ U,U⟩
def oB {prog:Program} {w:World} (i t:Addr) (hne:t≠i) (xs:Array Value):Drw prog w i t xs (λk h=>h.IsListIter i t k/\h.IsList t xs) where
 ext:=λk h h' z e1 e2=>by
  obtain⟨⟨o,a,r⟩,o2,a2,r2⟩:=z;exact⟨⟨o,e1 o a,r⟩,o2,e2 o2 a2,r2⟩
 item:=by
  rintro A E s k x Q ⟨st,ht⟩ hx q;exact wpAny_nextOf_list_item st ht hx λh' it' sb=>q h' ⟨it',ht.extBut sb.extBut hne⟩ sb
 stop:=by
  rintro A E s k Q hh ⟨st,ht⟩ hx q;exact wpAny_nextOf_list_end hh st ht hx q
section
variable {prog:Program} {w:World} {A:Around} {E:VSP} {s:Shared} {z TI TO i1 i2 l1 l2:Addr} {k:Nat} {xs ys:Array Value} {J1 J2:Nat->Heap->Prop} {a b x y:Value}
structure ZAp (z TI TO i1 i2 l1 l2:Addr):Prop where
  z_:TI≠z/\TO≠z/\i1≠z/\i2≠z/\l1≠z/\l2≠z
  o_:TI≠TO/\i1≠TO/\i2≠TO/\l1≠TO/\l2≠TO
  i_:TI≠i1/\TI≠i2/\i1≠i2
  l_:l1≠i1/\l1≠i2/\l2≠i1/\l2≠i2
def aX {c:Addr} {h h':Heap} {b:Addr} {o:Obj} (e:Heap.SameBut b h h') (n:c≠b) (g:h.get? c=some o):h'.get? c=some o:=(e.2 c n).trans g
def oO {Q:VSP} (D:ZAp z TI TO i1 i2 l1 l2) (R1:Drw prog w i1 l1 xs J1) (R2:Drw prog w i2 l2 ys J2) (hz:IsZip s.heap z TI TO .none) (hTI:IsPair s.heap TI (.ref i1) (.ref i2)) (hTO:IsPair s.heap TO a b)
 (h1:J1 k s.heap) (h2:J2 k s.heap) (hx:xs[k]?=some x) (hy:ys[k]?=some y)
 (hQ:∀ h',IsZip h' z TI TO (rawInt s.heap.objs.size)->IsPair h' TO x y->J1 (k+1) h'->J2 (k+1) h'->IsPair h' s.heap.objs.size x y->(∀ c o,c≠z->c≠TO->c≠i1->c≠i2->s.heap.get? c=some o->h'.get? c=some o)->Q (.ref s.heap.objs.size) {s with heap:=h'}) :
 wpAny (model prog w) A (Builtin.«zip.__next__» ⟨[.ref z],[]⟩) (λfin s'=>∃ v,fin=.done (.ret v)/\Q v s') E s:=by
 obtain⟨z1,z2,z3,z4,z5,z6⟩:=D.z_;obtain⟨o1,o2,o3,o4,o5⟩:=D.o_;obtain⟨j1,j2,j3⟩:=D.i_;obtain⟨m1,m2,m3,m4⟩:=D.l_;show wpAny _ _ (field (.ref z) 2>>=_) _ _ _;refine wB (wpAny_field hz U (x:=.bool false) U ?_);show wpAny _ _ (field (.ref z) 3>>=_) _ _ _;refine wB (wpAny_field hz U (x:=.ref TI) U ?_);refine wB (wpAny_seqItems hTI U ?_);show wpAny _ _ (Builtin.SmallTypes.ownedTupleIsFree (.ref z)>>=_) _ _ _;refine wB ?_;unfold Builtin.SmallTypes.ownedTupleIsFree;refine wB (wpAny_field hz U (x:=.none) U (wP ?_));simp only[if_true];refine wB (wpAny_rule ?_);refine wB (wpAny_field hz U (x:=.ref TO) U ?_);refine wB (wpAny_setField_rec hz (by simp) λg1 gz1 gs1=>?_);have gz1':IsZip g1 z TI TO .ellipsis:=gz1;refine wB ?_;simp only[List.zipIdx_cons,List.zipIdx_nil,List.forIn_cons,List.forIn_nil];refine wB (wB (wpAny_onRaise ?_));show wpAny _ _ (Builtin.SmallTypes.nextOf (.ref i1)>>=_) _ _ _;have J11:J1 k g1:=R1.ext k _ _ h1 (λo e=>aX gs1 z3 e) (λo e=>aX gs1 z5 e);refine wB (R1.item _ _ {s with heap:=g1} k x _ J11 hx λg2 J12 gs2=>wP ?_);have t2:IsPair g2 TO a b:=aX gs2 (Ne.symm o2) (aX gs1 z2 hTO);refine wB (wpAny_seqItems t2 U ?_);refine wB (wpAny_updateSeq_pair t2 λg3 t3 gs3=>?_);have t3':IsPair g3 TO x b:=t3;refine wB (wpAny_letGo (wP ?_));refine wB (wB (wpAny_onRaise ?_));show wpAny _ _ (Builtin.SmallTypes.nextOf (.ref i2)>>=_) _ _ _;have J23:J2 k g3:=R2.ext k _ _ h2 (λo e=>aX gs3 o3 (aX gs2 (Ne.symm j3) (aX gs1 z4 e))) (λo e=>aX gs3 o5 (aX gs2 m3 (aX gs1 z6 e)));refine wB (R2.item _ _ {s with heap:=g3} k y _ J23 hy λg4 J24 gs4=>wP ?_);have t4:IsPair g4 TO x b:=aX gs4 (Ne.symm o3) t3';refine wB (wpAny_seqItems t4 U ?_);refine wB (wpAny_updateSeq_pair t4 λg5 t5 gs5=>?_);have t5':IsPair g5 TO x y:=t5;refine wB (wpAny_letGo (wP (wP ?_)));refine wB (wpAny_seqItems t5' U ?_);refine wB (wpAny_newTuple ?_);have sz:g5.objs.size=s.heap.objs.size:=by rw[gs5.1,gs4.1,gs3.1,gs2.1,gs1.1]
 have zz5:IsZip g5 z TI TO .ellipsis:=aX gs5 (Ne.symm z2) (aX gs4 (Ne.symm z4) (aX gs3 (Ne.symm z2) (aX gs2 (Ne.symm z3) gz1')));have kp:∀ c o,c≠z->c≠TO->c≠i1->c≠i2->s.heap.get? c=some o->g5.get? c=some o:=λc o c1 c2 c3 c4 e=>aX gs5 c2 (aX gs4 c4 (aX gs3 c2 (aX gs2 c3 (aX gs1 c1 e))));have J15:J1 (k+1) g5:=R1.ext _ _ _ J12 (λo e=>aX gs5 o2 (aX gs4 j3 (aX gs3 o2 e))) (λo e=>aX gs5 o4 (aX gs4 m2 (aX gs3 o4 e)));have J25:J2 (k+1) g5:=R2.ext _ _ _ J24 (λo e=>aX gs5 o3 e) (λo e=>aX gs5 o5 e);have lz:z<g5.objs.size:=Heap.lt_size zz5;show wpAny _ _ (Builtin.SmallTypes.ownedTupleHandOut (.ref z) (.ref g5.objs.size)>>=_) _ _ _;refine wB ?_;unfold Builtin.SmallTypes.ownedTupleHandOut;have zz6:IsZip (g5.push {cls:=.type "tuple",data:=.seq #[x,y]}) z TI TO .ellipsis:=hpS _ zz5;refine wB (wpAny_setField_rec zz6 (by simp) λg7 zz7 gs7=>?_);have zz7':IsZip g7 z TI TO (rawInt g5.objs.size):=zz7;refine wpAny_setField_rec zz7' (by simp) λg8 zz8 gs8=>?_;have zz8':IsZip g8 z TI TO (rawInt g5.objs.size):=zz8;have up:∀ c o,c≠z->g5.get? c=some o->g8.get? c=some o:=λc o c1 e=>aX gs8 c1 (aX gs7 c1 (hpS _ e));have pT:IsPair g8 g5.objs.size x y:=aX gs8 (Nat.ne_of_gt lz) (aX gs7 (Nat.ne_of_gt lz) (Heap.get?_push_size _ U));rw[sz] at zz8' pT;refine wP ⟨_,U,?_⟩;show Q (.ref g5.objs.size) _;rw[sz];exact hQ g8 zz8' (up _ _ z2 t5') (R1.ext _ _ _ J15 (λo e=>up _ o z3 e) λo e=>up _ o z5 e) (R2.ext _ _ _ J25 (λo e=>up _ o z4 e) λo e=>up _ o z6 e) pT λc o c1 c2 c3 c4 e=>up c o c1 (kp c o c1 c2 c3 c4 e)
def qm {Q:Fin->Shared->Prop} (hh:A.handled=none) (D:ZAp z TI TO i1 i2 l1 l2) (R1:Drw prog w i1 l1 xs J1) (R2:Drw prog w i2 l2 ys J2) (hz:IsZip s.heap z TI TO .none) (hTI:IsPair s.heap TI (.ref i1) (.ref i2)) (hTO:IsPair s.heap TO a b)
 (h1:J1 k s.heap) (h2:J2 k s.heap) (hend:xs[k]?=none\/ys[k]?=none)
 (hE:∀ h' e,(∀ c o,c≠z->c≠TO->c≠i1->c≠i2->s.heap.get? c=some o->h'.get? c=some o)->(∃ o,h'.get? e=some o/\o.cls=.type "StopIteration")->E (.ref e) {s with heap:=h'}) :
 wpAny (model prog w) A (Builtin.«zip.__next__» ⟨[.ref z],[]⟩) Q E s:=by
 obtain⟨z1,z2,z3,z4,z5,z6⟩:=D.z_;obtain⟨o1,o2,o3,o4,o5⟩:=D.o_;obtain⟨j1,j2,j3⟩:=D.i_;obtain⟨m1,m2,m3,m4⟩:=D.l_;show wpAny _ _ (field (.ref z) 2>>=_) _ _ _;refine wB (wpAny_field hz U (x:=.bool false) U ?_);show wpAny _ _ (field (.ref z) 3>>=_) _ _ _;refine wB (wpAny_field hz U (x:=.ref TI) U ?_);refine wB (wpAny_seqItems hTI U ?_);show wpAny _ _ (Builtin.SmallTypes.ownedTupleIsFree (.ref z)>>=_) _ _ _;refine wB ?_;unfold Builtin.SmallTypes.ownedTupleIsFree;refine wB (wpAny_field hz U (x:=.none) U (wP ?_));simp only[if_true];refine wB (wpAny_rule ?_);refine wB (wpAny_field hz U (x:=.ref TO) U ?_);refine wB (wpAny_setField_rec hz (by simp) λg1 gz1 gs1=>?_);have gz1':IsZip g1 z TI TO .ellipsis:=gz1;refine wB ?_;simp only[List.zipIdx_cons,List.zipIdx_nil,List.forIn_cons,List.forIn_nil];refine wB (wB (wpAny_onRaise ?_));show wpAny _ _ (Builtin.SmallTypes.nextOf (.ref i1)>>=_) _ _ _;have J11:J1 k g1:=R1.ext k _ _ h1 (λo e=>aX gs1 z3 e) (λo e=>aX gs1 z5 e);cases hx:xs[k]? with
 | none =>
  refine wB (R1.stop _ _ {s with heap:=g1} k _ hh J11 hx λg2 e gs2 he=>?_);obtain⟨oe,hoe,hce⟩:=he;have zz2:IsZip g2 z TI TO .ellipsis:=gs2 _ _ (Ne.symm z3) gz1';have ez:e≠z:=λq=>by subst q;rw[zz2] at hoe;cases hoe;simp at hce
  refine wpAny_setField_rec zz2 (by simp) λg3 _ gs3=>hE g3 e (λc o c1 _ c3 _ q=>aX gs3 c1 (gs2 _ _ c3 (aX gs1 c1 q))) ⟨oe,aX gs3 ez hoe,hce⟩
 | some x =>
  have hy:ys[k]?=none:=hend.resolve_left (by rw[hx];simp);refine wB (R1.item _ _ {s with heap:=g1} k x _ J11 hx λg2 J12 gs2=>wP ?_);have t2:IsPair g2 TO a b:=aX gs2 (Ne.symm o2) (aX gs1 z2 hTO);refine wB (wpAny_seqItems t2 U ?_);refine wB (wpAny_updateSeq_pair t2 λg3 t3 gs3=>?_);refine wB (wpAny_letGo (wP ?_));refine wB (wB (wpAny_onRaise ?_));show wpAny _ _ (Builtin.SmallTypes.nextOf (.ref i2)>>=_) _ _ _;have J23:J2 k g3:=R2.ext k _ _ h2 (λo e=>aX gs3 o3 (aX gs2 (Ne.symm j3) (aX gs1 z4 e))) (λo e=>aX gs3 o5 (aX gs2 m3 (aX gs1 z6 e)));refine wB (R2.stop _ _ {s with heap:=g3} k _ hh J23 hy λg4 e gs4 he=>?_);obtain⟨oe,hoe,hce⟩:=he;have zz4:IsZip g4 z TI TO .ellipsis:=gs4 _ _ (Ne.symm z4) (aX gs3 (Ne.symm z2) (aX gs2 (Ne.symm z3) gz1'));have ez:e≠z:=λq=>by subst q;rw[zz4] at hoe;cases hoe;simp at hce
  refine wpAny_setField_rec zz4 (by simp) λg5 _ gs5=>hE g5 e (λc o c1 c2 c3 c4 q=>aX gs5 c1 (gs4 _ _ c4 (aX gs3 c2 (aX gs2 c3 (aX gs1 c1 q))))) ⟨oe,aX gs5 ez hoe,hce⟩
end
section
variable {X:Cx} {pins:AOs} {σ:St} {H:Hp} {s:Shared} {h2:Heap} {t':Nat} {ch:List Addr} {o:HO}
def Inv.turnedAll (I:Inv X pins σ H s) (hch:∀ b∈ch,jb X pins H b) (keep:∀ b u,b∉ch->s.heap.get? b=some u->h2.get? b=some u):Inv X pins σ H {s with heap:=h2,toks:=t'}:=by
 have nt:∀ {b:Addr} {u:HO},H b=some u->b∉ch:=λ{b u} q z=>by rw[(hch b z).1] at q;cases q
 refine I.step (g':=s.gens) (d':=s.drawn) (ch:=ch) (λb hb=>⟨(hch b hb).2.2.2.1,(hch b hb).2.1,(hch b hb).2.2.2.2.1,(hch b hb).2.2.2.2.2⟩) (λb u _ _ hc z _=>keep b u hc z) (λb u _ _ hc z _=>⟨u.slots,keep b u hc z⟩) (λ_ _ _ _ n=>n)
  (λb u hc z=>⟨u,keep b u hc z⟩) (λ_ _ z=>z) (λ_ _ _ z=>z) (λb ps z=>⟨#[],by rw[z];simp⟩) (λm hm=>?_) (λb u z=>?_) I.bare
 · obtain⟨o,es,ep,ho,r⟩:=hm;exact⟨o,es,ep,keep _ o (λz=>(hch _ z).2.1 U) ho,r⟩
 · refine (I.hok b u z).stay (λc v hc zc=>keep c v ?_ zc) (λ_ q=>q) λ_ _ q=>q
   rcases hc with rfl | hc
   · exact nt z
   · exact nt hc
def Inv.turnedNew (I:Inv X pins σ H s) (hch:∀ b∈ch,jb X pins H b) (keep:∀ b u,b∉ch->s.heap.get? b=some u->h2.get? b=some u) (new:bQ X.prog X.w (upd H s.heap.objs.size o) h2 s.heap.objs.size o) :
 Inv X pins σ (upd H s.heap.objs.size o) {s with heap:=h2,toks:=t'}:=by
 have hfr:H s.heap.objs.size=none:=I.hok.fresh (Nat.le_refl _);have nt:∀ {b:Addr} {u:HO},H b=some u->b∉ch:=λ{b u} q z=>by rw[(hch b z).1] at q;cases q
 have nd:∀ {b:Addr} {u:HO},H b=some u->b≠s.heap.objs.size:=λ{b u} q z=>by rw[z,hfr] at q;cases q
 refine I.step (g':=s.gens) (d':=s.drawn) (ch:=ch) (λb hb=>⟨(hch b hb).2.2.2.1,(hch b hb).2.1,(hch b hb).2.2.2.2.1,(hch b hb).2.2.2.2.2⟩) (λb u _ _ hc z _=>keep b u hc z) (λb u _ _ hc z _=>⟨u.slots,keep b u hc z⟩) (λb u _ z n=>by rw[af (Nat.ne_of_lt (Heap.lt_size z))];exact n)
  (λb u hc z=>⟨u,keep b u hc z⟩) (λb xs z=>by rw[af (nd z)];exact z) (λb u v z=>by rw[af (nd z)];exact z) (λb ps z=>⟨#[],by rw[af (nd z),z];simp⟩) (λm hm=>?_) (λb u z=>?_) I.bare
 · obtain⟨o,es,ep,ho,r⟩:=hm;exact⟨o,es,ep,keep _ o (λz=>(hch _ z).2.1 U) ho,r⟩
 · by_cases hb:b=s.heap.objs.size
   · rw[hb,pE] at z;cases z;rw[hb];exact new
   · rw[af hb] at z;refine (I.hok b u z).stay (λc v hc zc=>keep c v ?_ zc) (λc zc=>by rw[af (nd zc)];exact zc) λc xs zc=>by rw[af (nd zc)];exact zc
     rcases hc with rfl | hc
     · exact nt z
     · exact nt hc
end
def bF {h:Heap} {a b:Addr} {oa ob:Obj} (ha:h.get? a=some oa) (hb:h.get? b=some ob) (hc:oa.cls≠ob.cls):a≠b:=λz=>by
 rw[z,hb] at ha;cases ha;exact hc U
def lR:bootBuiltins "zip"=some (.type "zip"):=by left
section
variable {prog:Program} {w:World} {A:Around} {E:VSP} {s:Shared} {z TI TO i1 i2 l1 l2:Addr} {k:Nat} {xs ys:Array Value} {J1 J2:Nat->Heap->Prop} {a b x y:Value}
def iR {Q:Option Value->Shared->Prop} (D:ZAp z TI TO i1 i2 l1 l2) (R1:Drw prog w i1 l1 xs J1) (R2:Drw prog w i2 l2 ys J2) (hz:IsZip s.heap z TI TO .none) (hTI:IsPair s.heap TI (.ref i1) (.ref i2)) (hTO:IsPair s.heap TO a b)
 (h1:J1 k s.heap) (h2:J2 k s.heap) (hx:xs[k]?=some x) (hy:ys[k]?=some y)
 (hQ:∀ h',IsZip h' z TI TO (rawInt s.heap.objs.size)->IsPair h' TO x y->J1 (k+1) h'->J2 (k+1) h'->IsPair h' s.heap.objs.size x y->(∀ c o,c≠z->c≠TO->c≠i1->c≠i2->s.heap.get? c=some o->h'.get? c=some o)->Q (some (.ref s.heap.objs.size)) {s with heap:=h'}) :
 wpAny (model prog w) A (pyNext (.ref z)) Q E s:=by
 have ty:s.TypeIs (.ref z) "zip":=⟨_,hz,U⟩;unfold pyNext;exact wB (wpAny_attempt (wpAny_callSpecial?_slot (name:=Str.ofString "__next__") ty F.slot_zip_next (wpAny_call_entry F.slot_zip_next ty F.entry_zip_next (oO D R1 R2 hz hTI hTO h1 h2 hx hy λh' a1 a2 a3 a4 a5 a6=>wP (hQ h' a1 a2 a3 a4 a5 a6)) (F.args_zip_next_1 _))))
def js {Q:Option Value->Shared->Prop} (hh:A.handled=none) (D:ZAp z TI TO i1 i2 l1 l2) (R1:Drw prog w i1 l1 xs J1) (R2:Drw prog w i2 l2 ys J2) (hz:IsZip s.heap z TI TO .none) (hTI:IsPair s.heap TI (.ref i1) (.ref i2)) (hTO:IsPair s.heap TO a b)
 (h1:J1 k s.heap) (h2:J2 k s.heap) (hend:xs[k]?=none\/ys[k]?=none)
 (hQ:∀ h',(∀ c o,c≠z->c≠TO->c≠i1->c≠i2->s.heap.get? c=some o->h'.get? c=some o)->Q none {s with heap:=h'}):wpAny (model prog w) A (pyNext (.ref z)) Q E s:=by
 have ty:s.TypeIs (.ref z) "zip":=⟨_,hz,U⟩;unfold pyNext;refine wB (wpAny_attempt (wpAny_callSpecial?_slot (name:=Str.ofString "__next__") ty F.slot_zip_next (wpAny_call_entry F.slot_zip_next ty F.entry_zip_next (qm hh D R1 R2 hz hTI hTO h1 h2 hend λh' e hk he=>?_) (F.args_zip_next_1 _))));obtain⟨o,ho,hc⟩:=he;exact wB (wpAny_isInstance (T:="StopIteration") (b:=true) ⟨o,ho,hc⟩ isSubtype_stop (wP (hQ _ hk)))
end
abbrev zt1 (h:Heap) (a:Addr):Heap:=h.push {cls:=.type "tuple_iterator",data:=.fields #[.ref a,.int 0 0]}
abbrev zt2 (h:Heap) (a b:Addr):Heap:=zt1 (zt1 h a) b
abbrev zt3 (h:Heap) (a b:Addr):Heap:=(zt2 h a b).push {cls:=.type "tuple",data:=.seq #[.ref h.objs.size,.ref (zt1 h a).objs.size]}
abbrev zt4 (h:Heap) (a b:Addr):Heap:=(zt3 h a b).push {cls:=.type "tuple",data:=.seq #[.none,.none]}
abbrev zt5 (h:Heap) (a b:Addr):Heap:=(zt4 h a b).push {cls:=.type "zip",data:=.fields #[.none,.bool false,.bool false,.ref (zt2 h a b).objs.size,.ref (zt3 h a b).objs.size]}
def mJ (a b:Addr) (xs ys:Array Value):Meets (Builtin.«zip.__new__» ⟨[.type "zip",.ref a,.ref b],[]⟩) (λ_ R s=>s.heap.IsTuple a xs/\s.heap.IsTuple b ys/\R (.ok (.ret (.ref (zt4 s.heap a b).objs.size))) {s with heap:=zt5 s.heap a b}) :=
 .of_wp λprog w A R s h=>by
  obtain⟨hp,g,d,tk,os⟩:=s;obtain⟨ha,hb,h⟩:=h;have sub:=sub_zip;have e1:Heap.IsTuple (Shared.heap ⟨hp,g,d,tk,os⟩) a xs:=ha;have e2:Heap.IsTuple (Shared.heap ⟨zt1 hp a,g,d,tk,os⟩) b ys:=Heap.IsTuple.push hb _
  wp_walk using wpAny_pyIter_tuple e1,wpAny_pyIter_tuple e2
  exact⟨_,U,h⟩
def qc {prog:Program} {w:World} {A:Around} {E:VSP} {s:Shared} {a b:Addr} {xs ys:Array Value} {Q:VSP} (ha:s.heap.IsTuple a xs) (hb:s.heap.IsTuple b ys)
 (h:∀ h',IsZip h' (s.heap.objs.size+4) (s.heap.objs.size+2) (s.heap.objs.size+3) .none->IsPair h' (s.heap.objs.size+2) (.ref s.heap.objs.size) (.ref (s.heap.objs.size+1))->IsPair h' (s.heap.objs.size+3) .none .none ->
   h'.IsTupleIter s.heap.objs.size a 0->h'.IsTupleIter (s.heap.objs.size+1) b 0->(∀ c o,s.heap.get? c=some o->h'.get? c=some o)->Q (.ref (s.heap.objs.size+4)) {s with heap:=h'}) :
 wpAny (model prog w) A (call (.type "zip") [.ref a,.ref b]) Q E s:=by
 refine callType_new F.called_zip ∅ (F.typeCall_zip_2 _ _) (F.newCall_zip_2 _ _) (λobj=>F.args_object_init_3 obj _ _) F.entry_zip_new (mJ a b xs ys) ⟨ha,hb,?_⟩;have z1:(zt1 s.heap a).objs.size=s.heap.objs.size+1:=Heap.size_push ..;have z2:(zt2 s.heap a b).objs.size=s.heap.objs.size+2:=by rw[Heap.size_push,z1]
 have z3:(zt3 s.heap a b).objs.size=s.heap.objs.size+3:=by rw[Heap.size_push,z2]
 have z4:(zt4 s.heap a b).objs.size=s.heap.objs.size+4:=by rw[Heap.size_push,z3]
 have up:∀ {c:Addr} {o:Obj},(zt1 s.heap a).get? c=some o->(zt5 s.heap a b).get? c=some o:=λe=>hpS _ (hpS _ (hpS _ (hpS _ e)));have g5:(zt5 s.heap a b).get? (zt4 s.heap a b).objs.size=some _:=Heap.get?_push_size _ rfl;have g4:(zt5 s.heap a b).get? (zt3 s.heap a b).objs.size=some _:=hpS _ (Heap.get?_push_size _ U);have g3:(zt5 s.heap a b).get? (zt2 s.heap a b).objs.size=some _:=hpS _ (hpS _ (Heap.get?_push_size _ U));have g2:(zt5 s.heap a b).get? (zt1 s.heap a).objs.size=some _:=hpS _ (hpS _ (hpS _ (Heap.get?_push_size _ U)));have g1:(zt5 s.heap a b).get? s.heap.objs.size=some _:=up (Heap.get?_push_size _ U);show _/\_;rw[z2,z3,z4] at g5;rw[z1,z2] at g3;rw[z3] at g4;rw[z1] at g2;rw[z4];exact⟨⟨_,g5,U⟩,h _ g5 g3 g4 ⟨_,g1,U,U⟩ ⟨_,g2,U,U⟩ λc o e=>up (hpS _ e)⟩
def tj (K:Fg) (a b:Addr):It :=
  ⟨λi H=>∃ xs ys x y,SqT K H a xs/\SqT K H b ys/\xs[i]?=some x/\ys[i]?=some y,λi H v H'=>∃ t x y,v=.ref t/\H t=none/\H'=upd H t (.tup [x,y])/\(∀ xs,SqT K H a xs->xs[i]?=some x)/\∀ ys,SqT K H b ys->ys[i]?=some y,
    λi H=>∃ xs ys,SqT K H a xs/\SqT K H b ys/\(xs.length<=i\/ys.length<=i)⟩
def oR {P:Program} {w:World} {K:Fg} {elts:List Expr} {k} {pos:Pos} (a b z TI TO i1 i2:Addr) (h0:z≠TI/\z≠TO/\z≠i1/\z≠i2/\TI≠TO/\TI≠i1/\TI≠i2/\TO≠i1/\TO≠i2/\i1≠i2) (hab:a≠TO/\b≠TO) :
 qh P w K (.Tuple elts k pos) (tj K a b) [z,TI,TO,i1,i2] z (λi h=>IsZip h z TI TO .none/\IsPair h TI (.ref i1) (.ref i2)/\(∃ u v,IsPair h TO u v)/\h.IsTupleIter i1 a i/\h.IsTupleIter i2 b i) where
 mem:=by simp
 obj:=λi h st c hc=>by
  obtain⟨h1,h2,⟨u,v,h3⟩,⟨o4,h4,_,d4⟩,⟨o5,h5,_,d5⟩⟩:=st;simp only[List.mem_cons,nMN,or_false] at hc
  rcases hc with rfl | rfl | rfl | rfl | rfl
  · exact⟨_,h1,λv z=>by cases z⟩
  · exact⟨_,h2,λv z=>by cases z⟩
  · exact⟨_,h3,λv z=>by cases z⟩
  · exact⟨_,h4,λv z=>by rw[d4] at z;cases z⟩
  · exact⟨_,h5,λv z=>by rw[d5] at z;cases z⟩
 keep:=λi h h' st k=>by
  obtain⟨h1,h2,⟨u,v,h3⟩,⟨o4,h4,r4⟩,⟨o5,h5,r5⟩⟩:=st;exact⟨k z (by simp) _ h1,k TI (by simp) _ h2,⟨u,v,k TO (by simp) _ h3⟩,⟨o4,k i1 (by simp) _ h4,r4⟩,⟨o5,k i2 (by simp) _ h5,r5⟩⟩
 item:=by
  intro X hP hw hK hc i pins s σ H E I hf st hg;subst hP hw hK;obtain⟨xs,ys,x,y,hqx,hqy,hx,hy⟩:=hg;obtain⟨its,rv,p,hz⟩:=I.tuple hqx;obtain⟨its2,rv2,p2,hz2⟩:=I.tuple hqy;obtain⟨u,hu,ru⟩:=rv.get hx;obtain⟨v,hv,rv'⟩:=rv2.get hy;obtain⟨h1,h2,⟨u0,v0,h3⟩,h4,h5⟩:=st;obtain⟨n1,n2,n3,n4,n5,n6,n7,n8,n9,n10⟩:=h0;obtain⟨ol,hol,hcl,_⟩:=id p;obtain⟨ol2,hol2,hcl2,_⟩:=id p2;obtain⟨o4,g4,c4,d4⟩:=id h4;obtain⟨o5,g5,c5,d5⟩:=id h5;have D:ZAp z TI TO i1 i2 a b:=⟨⟨n1.symm,n2.symm,n3.symm,n4.symm,bF hol h1 (by rw[hcl];simp),bF hol2 h1 (by rw[hcl2];simp)⟩,⟨n5,n8.symm,n9.symm,hab.1,hab.2⟩,⟨n6,n7,n10⟩,
    ⟨bF hol g4 (by rw[hcl,c4];simp),bF hol g5 (by rw[hcl,c5];simp),bF hol2 g4 (by rw[hcl2,c4];simp),bF hol2 g5 (by rw[hcl2,c5];simp)⟩⟩
  refine iR D (fR i1 a D.l_.1 its.toArray) (fR i2 b D.l_.2.2.2 its2.toArray) h1 h2 h3 ⟨h4,p⟩ ⟨h5,p2⟩ (x:=u) (y:=v) (by simpa using hu) (by simpa using hv) λh' e1 e2 e3 e4 e5 e7=>?_;refine⟨_,U,wpAny_letOwnedTupleGo_zip (s:={s with heap:=h'}) e1 λh'' f1 sb=>?_⟩;have lz:z<s.heap.objs.size:=Heap.lt_size h1;have keep:∀ c o,c∉[z,TI,TO,i1,i2]->s.heap.get? c=some o->h''.get? c=some o:=λc o hc q=>by
   simp only[List.mem_cons,nMN,or_false,not_or] at hc;exact (sb.2 c hc.1).trans (e7 c o hc.1 hc.2.2.1 hc.2.2.2.1 hc.2.2.2.2 q)
  have hT:h''.get? s.heap.objs.size=some {cls:=.type "tuple",data:=.seq #[u,v]}:=(sb.2 _ (Nat.ne_of_gt lz)).trans e5;have I2:Inv X pins σ (upd H s.heap.objs.size (.tup [x,y])) {s with heap:=h''}:=I.turnedNew (t':=s.toks) hf keep ⟨dB,[u,v],.cons ru (.cons rv' .nil),⟨_,hT,U,_,U⟩⟩;refine⟨.ref s.heap.objs.size,_,I2,U,⟨_,x,y,U,I.hok.fresh (Nat.le_refl _),U,λq hq=>by rw[I.tuple_inj hq hqx];exact hx,λq hq=>by rw[I.tuple_inj hq hqy];exact hy⟩,⟨f1,?_,⟨u,v,(sb.2 TO D.z_.2.1).trans e2⟩,?_,?_⟩,λc hc=>?_⟩
  · exact (sb.2 TI D.z_.1).trans (e7 TI _ D.z_.1 D.o_.1 D.i_.1 D.i_.2.1 h2)
  · obtain⟨⟨o,q,r⟩,_⟩:=e3;exact⟨o,(sb.2 i1 D.z_.2.2.1).trans q,r⟩
  · obtain⟨⟨o,q,r⟩,_⟩:=e4;exact⟨o,(sb.2 i2 D.z_.2.2.2.1).trans q,r⟩
  · have hlt:c<s.heap.objs.size:=by
     simp only[List.mem_cons,nMN,or_false] at hc
     rcases hc with rfl | rfl | rfl | rfl | rfl
     · exact lz
     · exact Heap.lt_size h2
     · exact Heap.lt_size h3
     · exact Heap.lt_size g4
     · exact Heap.lt_size g5
    rw[af (Nat.ne_of_lt hlt)];exact (hf c hc).1
 done:=by
  intro X hP hw hK hc i pins s σ H E I hf st hg;subst hP hw hK;obtain⟨xs,ys,hqx,hqy,hlen⟩:=hg;obtain⟨its,rv,p,hz⟩:=I.tuple hqx;obtain⟨its2,rv2,p2,hz2⟩:=I.tuple hqy;obtain⟨h1,h2,⟨u0,v0,h3⟩,h4,h5⟩:=st;obtain⟨n1,n2,n3,n4,n5,n6,n7,n8,n9,n10⟩:=h0;obtain⟨ol,hol,hcl,_⟩:=id p;obtain⟨ol2,hol2,hcl2,_⟩:=id p2;obtain⟨o4,g4,c4,d4⟩:=id h4;obtain⟨o5,g5,c5,d5⟩:=id h5;have D:ZAp z TI TO i1 i2 a b:=⟨⟨n1.symm,n2.symm,n3.symm,n4.symm,bF hol h1 (by rw[hcl];simp),bF hol2 h1 (by rw[hcl2];simp)⟩,⟨n5,n8.symm,n9.symm,hab.1,hab.2⟩,⟨n6,n7,n10⟩,
    ⟨bF hol g4 (by rw[hcl,c4];simp),bF hol g5 (by rw[hcl,c5];simp),bF hol2 g4 (by rw[hcl2,c4];simp),bF hol2 g5 (by rw[hcl2,c5];simp)⟩⟩
  have e1:=rv.length;have e2:=rv2.length;refine js (I.ok.hd hc) D (fR i1 a D.l_.1 its.toArray) (fR i2 b D.l_.2.2.2 its2.toArray) h1 h2 h3 ⟨h4,p⟩ ⟨h5,p2⟩ (hlen.imp (λq=>by simp;lia) λq=>by simp;lia) λh' kp=>⟨U,I.turnedAll (t':=s.toks) hf λc o hc q=>?_⟩;simp only[List.mem_cons,nMN,or_false,not_or] at hc;exact kp c o hc.1 hc.2.2.1 hc.2.2.2.1 hc.2.2.2.2 q
 self:=λ_ _ _ _ _ st h=>wpAny_pyIter_zip st.1 h
def Bt (K:Fg) (ta:TA):TI:=λσ H R=>ta σ H λvs H1=>∃ a b xs ys,vs=[.ref a,.ref b]/\SqT K H1 a xs/\SqT K H1 b ys/\R (tj K a b) H1
def nV {X:Cx} {elts:List Expr} {k} {tpos:Pos} {e1 e2:Expr} {ta:TA} {p pos:Pos} (hg:Gl X "zip") (hm:X.mg "zip"=none) (ha:PA X [e1,e2] ta) (hs:starEach [e1,e2] X.env=[(false,eval e1 X.env),(false,eval e2 X.env)]:=by rfl) (hs2:starEach [e2] X.env=[(false,eval e2 X.env)]:=by rfl) :
 PI X (.Tuple elts k tpos) (.Call (.Name "zip" p) [e1,e2] [] pos) (Bt X.K ta):=by
 intro pins s σ H R I h;refine Call_ (dW I hg hm lR (PyProof.Rows.callWith_type1 (thn (ha pos pins s σ H _ I h) λus s1 zy16=>?_) (by rw[hs,hs2]) (by rw[hs2];rfl)));obtain⟨vs,H1,I1,r1,q1⟩:=zy16;obtain⟨a,b,xs,ys,e,hqx,hqy,q⟩:=q1;subst e;obtain⟨u,v,rfl,ru,rv⟩:=r1.two;cases ru;cases rv;obtain⟨its,rv,p1,hz⟩:=I1.tuple hqx;obtain⟨its2,rv2,p2,hz2⟩:=I1.tuple hqy;have la:a<s1.heap.objs.size:=by obtain⟨o,e,_⟩:=id p1;exact Heap.lt_size e
 have lb:b<s1.heap.objs.size:=by obtain⟨o,e,_⟩:=id p2;exact Heap.lt_size e
 refine qc p1 p2 λh' f1 f2 f3 f4 f5 f7=>?_;refine wpAny_pyIter_zip f1 ?_;have I2:Inv X pins σ H1 {s1 with heap:=h'}:=I1.kept (t':=s1.toks) f7;generalize hn:s1.heap.objs.size=n at f1 f2 f3 f4 f5 la lb;refine⟨n+4,[n+4,n+2,n+3,n,n+1],_,tj X.K a b,H1,U,I2,oR a b (n+4) (n+2) (n+3) n (n+1) (by refine⟨?_,?_,?_,?_,?_,?_,?_,?_,?_,?_⟩ <;> (intro z;have z':(_:Nat)=_:=z;lia)) ⟨Nat.ne_of_lt (Nat.lt_add_right 3 la),Nat.ne_of_lt (Nat.lt_add_right 3 lb)⟩,⟨f1,f2,⟨_,_,f3⟩,f4,f5⟩,λc hc=>?_,q⟩;have hc':s1.heap.objs.size<=c:=by
  rw[hn];simp only[List.mem_cons,nMN,or_false] at hc
  rcases hc with rfl | rfl | rfl | rfl | rfl
  · exact Nat.le_add_right _ _
  · exact Nat.le_add_right _ _
  · exact Nat.le_add_right _ _
  · exact Nat.le_refl _
  · exact Nat.le_add_right _ _
 exact I1.fpOk hc' (I1.hok.fresh hc')
def dA {X:Cx} {p pos:Pos} {e:Expr} {es:List Expr} {t:TA} (hm:X.mg "tuple"=none) (ha:PA X (e::es) t) (hg:Gl X "tuple":=by rfl)
 (he:starEach (e::es) X.env=(false,eval e X.env)::starEach es X.env:=by rfl) (hpl:(backTo pos (starEach es X.env)).any (·.1)=false:=by rfl) :
 PE X (.Call (.Name "tuple" p) (e::es) [] pos) (tCB (qR X.K) t):=dZ jl hg hm ig ha (he:=he) (hpl:=hpl)
def gP (xs:List V) (k:Nat):eM xs (some ((k:Nat):Int)) none=xs.drop k:=by
 unfold eM;rw[HT.gu,HT.ip];by_cases h:k<=xs.length
 · rw[Nat.min_eq_left h,List.take_of_length_le (by rw[List.length_drop];exact Nat.le_refl _)]
 · rw[Nat.min_eq_right (by lia),List.drop_of_length_le (Nat.le_refl _),List.drop_of_length_le (by lia)];exact List.take_nil
def aO.zipT {K:Fg} {a b:Addr} {xs ys:List V} {g:TG} {tb:TS} {D:jf} {σ:St} {H:Hp} (hlen:xs.length=ys.length) (Pv:Nat->St->Hp->Prop) (h0:Pv 0 σ H) (hl:∀ i σ H,i<=xs.length->Pv i σ H->SqT K H a xs/\SqT K H b ys)
 (hs:∀ i x y σ H t,xs[i]?=some x->ys[i]?=some y->Pv i σ H->H t=none->g (.ref t) σ (upd H t (.tup [x,y])) λσ2 H2=>tb {D with nx:=Pv (i+1),ct:=Pv (i+1),bk:=D.nx} σ2 H2) (hd:∀ σ H,Pv xs.length σ H->D.nx σ H):aO (tj K a b) g tb D σ H:=by
 refine⟨λi m σ H=>i<=xs.length/\m=xs.length-i/\Pv i σ H,⟨_,Nat.zero_le _,U,h0⟩,λi m σ H z=>?_⟩;obtain⟨hi,hm,hp⟩:=z;obtain⟨l1,l2⟩:=hl i σ H hi hp;by_cases hlt:i<xs.length
 · have hlt2:i<ys.length:=by lia
   refine .inr ⟨⟨xs,ys,xs[i],ys[i],l1,l2,by simp[hlt],by simp[hlt2]⟩,λσ' H'=>Pv (i+1) σ' H',λσ' H' q=>⟨xs.length-(i+1),by rw[hm];exact Nat.sub_succ_lt_self _ _ hlt,hlt,U,q⟩,?_⟩;rintro v H' ⟨t,x,y,rfl,ht,rfl,hx,hy⟩;exact hs i x y σ H t (hx xs l1) (hy ys l2) hp ht
 · have:i=xs.length:=by lia
   subst this;exact .inl ⟨⟨xs,ys,l1,l2,.inl (Nat.le_refl _)⟩,hd σ H hp⟩
def pI {c A B:Prop} [Decidable c] (h:¬ c) (b:B):if c then A else B:=by rw[if_neg h];exact b
def pJ {c A B:Prop} [Decidable c] (h:c) (a:A):if c then A else B:=by rw[if_pos h];exact a
def aO.zipTN {K:Fg} {a b:Addr} {xs ys:List V} {g:TG} {tb:TS} {d:St->Hp->Prop} {r:VK} {k c:St->Hp->Prop} {σ:St} {H:Hp} (hlen:xs.length=ys.length) (Pv:Nat->St->Hp->Prop) (h0:Pv 0 σ H) (hl:∀ i σ H,i<=xs.length->Pv i σ H->SqT K H a xs/\SqT K H b ys)
 (hs:∀ i x y σ H t (N B:St->Hp->Prop),(∀ σ' H',Pv (i+1) σ' H'->N σ' H')->xs[i]?=some x->ys[i]?=some y->Pv i σ H->H t=none->g (.ref t) σ (upd H t (.tup [x,y])) λσ2 H2=>tb ⟨N,r,B,N⟩ σ2 H2) (hd:∀ σ H,Pv xs.length σ H->d σ H):aO (tj K a b) g tb ⟨d,r,k,c⟩ σ H :=
 aO.zipT hlen Pv h0 hl (λi x y σ H t h1 h2 h3 h4=>hs i x y σ H t _ _ (λ_ _ z=>z) h1 h2 h3 h4) hd
end L2
namespace HT
open PySem PySem.Spec PyProof.Rows
section
variable {prog:Program} {w:World} {A:Around} {E:VSP} {s:Shared}
def fY {t sl:Addr} {aK:Array Value} {vl vu:Value} {lo hi:Option Int} {Q:VSP} (ht:IsTup s.heap t aK) (hs:s.heap.IsSliceOf sl vl vu .none) (pl:IsPart vl lo) (pu:IsPart vu hi)
 (hw:sIx aK.size 0 lo=0/\sIx aK.size aK.size hi=aK.size) (h:Q (.ref t) s):wpAny (model prog w) A (getItem (.ref t) (.ref sl)) Q E s:=by
 obtain⟨os,hos,hcs,hds⟩:=id hs;have hTs:s.TypeIs (.ref sl) "slice":=⟨os,hos,hcs⟩;unfold getItem
 try with_reducible refine wpAny_holding ?_
 first | refine wB (wP ?_) | skip
 refine wB (wpAny_sequenceKey ht.typeIs ∅ ?_);refine wB (wpAny_callSpecial?_slot (name:=Str.ofString "__getitem__") ht.typeIs PyProof.Rows.slot_tuple_getitem
   (wpAny_call_entry PyProof.Rows.slot_tuple_getitem ht.typeIs entry_tuple_getitem ?_ (args_tuple_getitem _ _)))
 show wpAny _ _ (Builtin.Tuple.tupleItemsOf (.ref t)>>=_) _ _ s;refine wB (tupleItemsOf_ ht ?_);refine wB (wpAny_typeOf hTs ?_);rw[if_pos ∅];refine wB (dY hs pl pu ?_);have hyes:((((sIx aK.size 0 lo:Nat):Int)==0&&(1:Int)==1&&(sIx aK.size aK.size hi-sIx aK.size 0 lo)==aK.size)=true):=by
  rw[hw.1,hw.2];simp
 show wpAny _ _ (if (((sIx aK.size 0 lo:Nat):Int)==0&&(1:Int)==1&&(sIx aK.size aK.size hi-sIx aK.size 0 lo)==aK.size)=true then _ else _) _ _ s;rw[if_pos hyes];unfold Builtin.Tuple.tupleIsExact;refine wB (wB (wpAny_typeOf ht.typeIs (wP ?_)));rw[if_pos ∅];exact wB (wpAny_rule (wP ⟨_,U,wP h⟩))
end
end HT
namespace L2
open PySem PySem.Spec PyProof.Rows
section
variable {X:Cx}
def vP (K:Fg):V->Option Int->Option Int->Hp->VK->Prop:=λx lo hi H Q=>∃ a xs,x=.ref a/\SqT K H a xs /\
  (eM xs lo hi=xs->Q (.ref a) H)/\∀ p,H p=none->Q (.ref p) (upd H p (.tup (eM xs lo hi)))
def nN:SlR X (vP X.K):=by
 intro pins s σ H x v vl vu lo hi sl Q I rx hs pl pu h;obtain⟨a,xs,rfl,hx,q1,q2⟩:=h;by_cases hw:HT.sIx xs.length 0 lo=0/\HT.sIx xs.length xs.length hi=xs.length
 · cases rx;obtain⟨its,r,ht,hz⟩:=I.tuple hx;have hlen:its.toArray.size=xs.length:=by rw[List.size_toArray];exact r.length.symm
   refine⟨"tuple",_,PyProof.Rows.slot_tuple_getitem.lookup,ht.typeIs,?_⟩;refine HT.fY ht hs pl pu (by rw[hlen];exact hw) ⟨.ref a,H,I,U,q1 ?_⟩;unfold eM;rw[hw.1,hw.2];simp
 · exact qI pins s σ H _ v vl vu lo hi sl Q I rx hs pl pu ⟨a,xs,U,hx,hw,q2⟩
end
end L2
namespace L2
def D9 {x a b:Nat} (h:x<=a:=by with_reducible assumption) (e:Nat.ble a b=true:=by decide):x<=b:=Nat.le_trans h (Nat.le_of_ble_eq_true e)
def D7 {b c A B:Nat} (h:b<=c:=by with_reducible assumption) (h2:c<=A:=by with_reducible assumption) (e:Nat.ble A B=true:=by decide):b<=B:=D9 (Nat.le_trans h h2) e
def D8 {b c d:Nat} (h:b=d:=by with_reducible assumption) (h2:c=d:=by with_reducible assumption):b=c:=h.trans h2.symm
end L2
namespace P10
open PySem L2
def tbl:List (Str×List Str):=[("number",["number"]),("name",["meant"]),("let",["bound","one","one"]),("var",["bound","one","one"]),("set",["meant","one"]),("do",["many"]),("if",["one","one","one"]),("while",["one","one"]),("each",["bound","one","one"]),("say",["one"]),("fault",["word"]),("op",["op","many"]),("new",["place","many"]),("get",["place","place","one"]),("fun",["bounds","one"]),("apply",["one","many"]),("call",["place","many"])]
def aK:PyData->PDs
  | .tuple l=>l
  | _=>[]
def jk (s:Str) (d:PyData):PDs:=if s="one" then [d] else if s="many" then aK d else []
def fF (sl:List Str) (ps:PDs):PDs:=(List.zipWith jk sl ps).flatten
def Shp (s:Str) (d:PyData):Prop:=(s="many"->∃ l,d=.tuple l)/\(s∈(["number","meant","bound","place"]:List Str)->∃ i,d=.int i)/\(s∈(["op","word"]:List Str)->∃ x,d=.str x)/\(s="bounds"->∃ is:List Int,d=.tuple (is.map .int)/\is.length<=3)
structure Nd (d:PyData) (h:Str) (sl:List Str) (ps:PDs):Prop where
  eq:d=.tuple (.str h::ps)
  mem:(h,sl)∈tbl
  shp:Paired Shp sl ps
  few:(fF sl ps).length<=8
def mO {sl:List Str} {ps:PDs} {i:Nat} {s:Str} {p:PyData} (h1:sl[i]?=some s) (h2:ps[i]?=some p):fF (sl.take (i+1)) (ps.take (i+1))=fF (sl.take i) (ps.take i)++jk s p:=by
 unfold fF;have hi:i<sl.length:=(gES.mp h1).1;have hj:i<ps.length:=(gES.mp h2).1;rw[tAO,tAO,h1,h2];show (List.zipWith jk (sl.take i++[s]) (ps.take i++[p])).flatten=_;rw[List.zipWith_append (by rw[lTk,lTk];lia),List.flatten_append];simp
def rS {sl:List Str} {ps:PDs} (i:Nat):(fF (sl.take i) (ps.take i)).length<=(fF sl ps).length:=by
 unfold fF;have e:List.zipWith jk (sl.take i) (ps.take i)=(List.zipWith jk sl ps).take i:=by rw[List.take_zipWith]
 rw[e];have:=congrArg (λl=>(List.flatten l).length) (List.take_append_drop i (List.zipWith jk sl ps));simp only[List.flatten_append,lAp] at this;lia
def tX {k:Str} {sl:List Str} (h:(k,sl)∈tbl):sl.length<=3:=by
 have:∀ p∈tbl,p.2.length<=3:=by left
 exact this _ h
end P10
namespace K19
open PySem L2 P10
structure Blt (mg:SOV):Prop where
  len:mg "len"=none
  range:mg "range"=none
  isinstance:mg "isinstance"=none
  tuple:mg "tuple"=none
  str:mg "str"=none
  zip:mg "zip"=none
  list:mg "list"=none
  sorted:mg "sorted"=none
structure Glb (P:Program) (w:World) (K:Fg) (mg:SOV):Prop where
  slots:∃ a kvs,mg "SLOTS"=some (.ref a)/\ma P w K a kvs/\∀ k sl,(k,sl)∈tbl->∃ r,cz kvs (.inr k)=some (.ref r)/\∀ H,SqT K H r (sl.map V.str)
section
variable {CX:CXT} {P:Program} {w:World} {K:Fg} {mg:SOV} {base:Heap} {N:List Str} {q:Str} {sc:Scope} {f:Addr} {cd:Value} {A:Around} {outer:List Env} {s:Shared} {H:Hp} {E:XK}
def be:(cy CX P w K mg base N q sc f cd A outer s H E).nox.K=K:=rfl
def D6:(cy CX P w K mg base N q sc f cd A outer s H E).nox.prog=P:=rfl
def D5:(cy CX P w K mg base N q sc f cd A outer s H E).nox.w=w:=rfl
end
def iy {K:Fg} {H:Hp} {a b:Addr} {xs ys:PDs} {Q:VK} (hA:TD K H (.ref a) (.tuple xs)) (hB:TD K H (.ref b) (.tuple ys)) (hz:xs.length+ys.length<=100000)
 (q:∀ p H',aI H H'->TD K H' (.ref p) (.tuple (xs++ys))->Q (.ref p) H'):qV K (.ref a) (.ref b) H Q:=by
 obtain⟨a',us,e,ha,hu⟩:=hA.tup_of;cases e;obtain⟨b',vs,e,hb,hv⟩:=hB.tup_of;cases e;have hz0:(100000:Nat)<sizeLine:=∅
 have l1:=hu.length;have l2:=hv.length;refine⟨a,b,us,vs,U,U,ha,hb,by lia,λe=>?_,λ_ e=>?_,λ_ _ p hp=>?_⟩
 · have:xs=[]:=by rw[e] at l1;exact List.eq_nil_of_length_eq_zero l1.symm
   rw[this,List.nil_append] at q;exact q b H (aI.refl H) hB
 · have:ys=[]:=by rw[e] at l2;exact List.eq_nil_of_length_eq_zero l2.symm
   rw[this,List.append_nil] at q;exact q a H (aI.refl H) hA
 · have k:=smu (o:=HO.tup (us++vs)) hp;exact q p _ k (.tup (SqT.of pE) ((hu.same k).app (hv.same k)))
def ui {sl:List Str} {ps:PDs} (h:Paired Shp sl ps) {i:Nat} {p:PyData} (hp:ps[i]?=some p):∃ s,sl[i]?=some s/\Shp s p:=by
 induction h generalizing i with
 | nil=>simp at hp
 | cons z t ih =>
  cases i with
  | zero=>cases hp;exact⟨_,U,z⟩
  | succ i=>exact ih hp
section
variable {P:Program} {w:World} {K:Fg} {mg:SOV} {base:Heap}
abbrev sCh:Stmt:=top 2
inductive wQ (K:Fg) (vs:List V) (H:Hp) (Q:VK):Prop
  | mk (v:V) (d:PyData) (h:Str) (sl:List Str) (ps:PDs) (g0_:vs=[v]) (g1_:TD K H v d) (g2_:Nd d h sl ps) (g3_:∀ v' H',aI H H'->TD K H' v' (.tuple (fF sl ps))->Q v' H'):wQ K vs H Q
def A7 (K:Fg):Sp:=λvs H Q _=>wQ K vs H Q
def Ah:bv ["e","children","slot","part"] ["e"] (am sCh):=fsM
def Bi (D:Def K mg "children_of" sCh) (T:Blt mg) (C:Glb P w K mg):Fn P w K mg base "children_of" 1 ["e"] (A7 K):=by
 refine D.fn Ah (λvs H Q E h=>?_) (λ_ _ _ _ _ _ us hl=>by obtain⟨a,rfl⟩:=fD hl;rfl) (λf cdv A outer s' H vs Q E hr h=>?_)
 · obtain⟨v,d,h',sl,ps,rfl,_⟩:=h;rfl
 · obtain⟨v,d,hd,sl,ps,rfl,td,nd',q⟩:=h;obtain⟨rfl,hm,hshp,hfew⟩:=nd';obtain⟨a,xs,rfl,ha,hx⟩:=td.tup_of;obtain⟨aS,kvs,gS,hS,hkv⟩:=C.slots;obtain⟨r,hr1,hr2⟩:=hkv hd sl hm;have nd:=Ah.nd;have tl:=tX hm;have hfl:=Paired.length hshp;obtain⟨x0,xr,rfl,hx0,hxr⟩:∃ x0 xr,xs=x0::xr/\TD K H x0 (.str hd)/\TDs K H xr ps:=by
    cases hx with
    | cons p q=>exact⟨_,_,U,p,q⟩
   obtain rfl:=hx0.str_of;have hxl:=hxr.length;have hz0:(1000000:Nat)<sizeLine:=∅
   refine⟨_,(pD (pL (i:=1) nd U (.inl U) (ax pB))
 (pD (cR PassesOwn.never U (nV U T.zip %[nX (ee (v:=.ref aS) U gS U) ↥↥0 Ue,ff qI ↥0 (dL pF) gv|0]) (dQ U (aU (aC (i:=2) nd U (.inl U)) (aU (aC (i:=3) nd U (.inl U)) d9)))
 (pG (az (pM aB ↥2 pC (pN _)) (pG (re (i:=1) nd U (.inl U) (ax %[3|0]) (ox))) (pG (az (pM aB ↥2 pC (pN _)) (pG (re (i:=1) nd U (.inl U) (dA T.tuple %[3|0]) (ox))) aq)))))
 (pG (ak ↥1)))),?_⟩
   dsimp only[be,D6,D5];refine⟨mh,λc hc=>?_⟩;have k1:=smu (o:=HO.tup []) hc;have dc:TD K (upd H c (.tup [])) (.ref c) (.tuple []):=.tup (SqT.of pE) .nil;generalize upd H c (.tup [])=H1 at k1 dc ⊢;refine⟨_,U,a,_,0,.str hd,U,U,k1.seqT ha,pH (j:=0) U,aS,kvs,.inr hd,.ref r,U,hS,U,hr1,_,U,_,U,a,_,U,k1.seqT ha,?_,λp2 hp2=>?_⟩
   · unfold HT.sIx;simp
   · rw[show (some (1:Int))=some (((1:Nat):Nat):Int) from rfl,gP];have k2:=smu (o:=HO.tup ((V.str hd::xr).drop 1)) hp2;have hp2':(upd H1 p2 (.tup ((V.str hd::xr).drop 1))) p2=some (.tup xr):=pE;generalize upd H1 p2 (.tup ((V.str hd::xr).drop 1))=H2 at k2 hp2' ⊢;refine⟨r,p2,_,_,U,hr2 _,SqT.of hp2',?_⟩;show aO _ _ _ _ _ _;refine aO.zipTN (xs:=sl.map V.str) (ys:=xr) (by rw[lMp];exact D8) (λi σ Hi=>aI H2 Hi/\∃ b x2 x3,σ=[some (.ref a),some (.ref b),x2,x3]/\TD K Hi (.ref b) (.tuple (fF (sl.take i) (ps.take i))))
      ⟨aI.refl _,c,_,_,U,dc.same k2⟩ ?_ ?_ ?_
     · rintro i σ Hi _ ⟨s2,_⟩;exact⟨hr2 _,SqT.of (s2 _ _ hp2')⟩
     · rintro i x y σ Hi t N_ B_ hN_ hxi hyi ⟨s2,b,x2,x3,rfl,db⟩ ht;rw[gEM] at hxi;obtain⟨slot,hsi,rfl⟩:=oMS.mp hxi;obtain⟨d,hdi,htd⟩:=hxr.get hyi;obtain⟨s0,hs0,hsh⟩:=ui hshp hdi;rw[hsi] at hs0;cases hs0;have k3:=smu (o:=HO.tup [V.str slot,y]) ht;have dy:=htd.same (k1.trans (k2.trans (s2.trans k3)));have db3:=db.same k3;have st:=mO hsi hdi;have hle:=rS (sl:=sl) (ps:=ps) (i+1);refine⟨t,_,U,SqT.of pE,U,_,_,U,_,_,U,U,?_⟩;have s3:=s2.trans k3;generalize upd Hi t (.tup [V.str slot,y])=H3 at k3 dy db3 s3 ⊢;refine⟨_,U,U,_,U,?_⟩;by_cases h1:slot="one"
       · subst h1;refine pJ (by simp) ?_;refine⟨_,U,_,U,me,λu hu=>?_⟩;have k4:=smu (o:=HO.tup [y]) hu;rw[st] at hle;refine iy (db3.same k4) (ys:=[d]) (.tup (SqT.of pE) (.cons (dy.same k4) .nil)) (by simp[jk] at hle ⊢;lia) λp H' s' dp=>?_;exact hN_ _ _ ⟨s3.trans (k4.trans s'),p,_,_,U,by rw[st];exact dp⟩
       · refine pI (by simpa using h1) ?_;refine⟨_,U,U,_,U,?_⟩;by_cases h2:slot="many"
         · subst h2;obtain⟨l,rfl⟩:=hsh.1 rfl;refine pJ (by simp) ?_;obtain⟨ay,xy,rfl,hay,hxy⟩:=dy.tup_of;refine⟨_,U,_,U,ay,xy,U,.inr ⟨hay,?_⟩⟩;rw[st] at hle;refine iy db3 (ys:=l) dy (by rw[lAp] at hle;show _+l.length<=_;have e:(jk "many" (PyData.tuple l))=l:=rfl;rw[e] at hle;exact D7) λp H' s' dp=>?_;exact hN_ _ _ ⟨s3.trans s',p,_,_,U,by rw[st];exact dp⟩
         · refine pI (by simpa using h2) ?_;have e:jk slot d=[]:=by unfold jk;rw[if_neg h1,if_neg h2]
           exact hN_ _ _ ⟨s3,b,_,_,U,by rw[st,e,List.append_nil];exact db3⟩
     · rintro σ Hi ⟨s2,b,x2,x3,rfl,db⟩;rw[lMp,List.take_length,hfl,List.take_length] at db;exact⟨_,U,q _ _ (k1.trans (k2.trans s2)) db⟩
end
end K19
namespace L2
open PySem
def TDs.at {K:Fg} {H:Hp} {xs:List V} {ds:PDs} (h:TDs K H xs ds) {i:Nat} {d:PyData} (hd:ds[i]?=some d):∃ x,xs[i]?=some x/\TD K H x d:=by
 have hi:i<ds.length:=(gES.mp hd).1;have hx:xs[i]?=some (xs[i]'(by rw[h.length];exact hi)):=gEE _;obtain⟨d',h1,h2⟩:=h.get hx;rw[hd] at h1;cases h1;exact⟨_,hx,h2⟩
def SqL.same {K:Fg} {H H':Hp} {a:Addr} {xs:List V} (s:aI H H') (h:SqL K H a xs):SqL K H' a xs:=s.seq h
end L2
namespace L2
def aE {a b:TS} {d:St->Hp->Prop} {r:VK} {k c:St->Hp->Prop} {σ:St} {H:Hp} (h:∀ N:St->Hp->Prop,(∀ σ' H',b ⟨d,r,k,c⟩ σ' H'->N σ' H')->a ⟨N,r,k,c⟩ σ H):xm a b ⟨d,r,k,c⟩ σ H:=h _ λ_ _ z=>z
def aO.byN {J:It} {xs:List V} {Ok:Hp->Prop} (Y:gj J xs Ok) {g:TG} {tb:TS} {d:St->Hp->Prop} {r:VK} {k c:St->Hp->Prop} {σ:St} {H:Hp} (Pv:Nat->St->Hp->Prop) (h0:Pv 0 σ H) (hl:∀ i σ H,i<=xs.length->Pv i σ H->Ok H)
 (hs:∀ i x σ H (N B:St->Hp->Prop),(∀ σ' H',Pv (i+1) σ' H'->N σ' H')->(∀ σ' H',d σ' H'->B σ' H')->xs[i]?=some x->Pv i σ H->g x σ H λσ2 H2=>tb ⟨N,r,B,N⟩ σ2 H2) (hd:∀ σ H,Pv xs.length σ H->d σ H):aO J g tb ⟨d,r,k,c⟩ σ H :=
 aO.by Y Pv h0 hl (λi x σ H h1 h2=>hs i x σ H _ _ (λ_ _ z=>z) (λ_ _ z=>z) h1 h2) hd
end L2
namespace P10
open PySem L2
def dN (l:List Nat):PyData:=.tuple (l.map λn=>.int ((n:Nat):Int))
end P10
namespace L2
open PySem PySem.Spec PyProof.Rows
section
variable {X:Cx}
def CA (K:Fg):R2:=λx y H Q=>∃ p q xs,x=.ref p/\y=.ref q/\SqL K H p xs/\SqL K H q []/\Q (.bl xs.isEmpty) H
def rD (hu:X.A.units+1<cLine):OpR X (compareOp .Eq) (CA X.K):=by
 intro pins s σ H x y v u Q I rx ry h;obtain⟨p,q,xs,rfl,rfl,hp,hq,k⟩:=h;cases rx;cases ry;obtain⟨its,r1,l1,z1⟩:=I.list hp;obtain⟨its2,r2,l2,z2⟩:=I.list hq;have e1:=r1.length;have e2:its2=[]:=r2.nil_iff.mpr rfl;subst e2;by_cases hl:xs=[]
 · subst hl;have e3:its=[]:=r1.nil_iff.mpr rfl;subst e3;refine SeqAt.eq_listAt (e:=λ_=>true) l1.isList l2.isList U (by lia) (λj h1 h2=>absurd h2 (by simp)) ?_;exact⟨.bl true,H,I,U,k⟩
 · have hne:its≠[]:=λz=>hl (r1.nil_iff.mp z);refine SeqAt.eq_list_lengthsAt l1.isList l2.isList (by simpa using hne) (by lia) ?_;have:xs.isEmpty=false:=by cases xs with | nil=>exact absurd U hl | cons _ _=>rfl
   rw[this] at k;exact⟨.bl false,H,I,U,k⟩
def Cz (K:Fg):R2:=λx y H Q=>∃ p q xs,x=.ref p/\y=.ref q/\SqL K H p xs/\SqL K H q []/\Q (.bl (!xs.isEmpty)) H
def xO (hu:X.A.units+1<cLine):OpR X (compareOp .NotEq) (Cz X.K):=by
 intro pins s σ H x y v u Q I rx ry h;obtain⟨p,q,xs,rfl,rfl,hp,hq,k⟩:=h;cases rx;cases ry;obtain⟨its,r1,l1,z1⟩:=I.list hp;obtain⟨its2,r2,l2,z2⟩:=I.list hq;have e1:=r1.length;have e2:its2=[]:=r2.nil_iff.mpr rfl;subst e2;by_cases hl:xs=[]
 · subst hl;have e3:its=[]:=r1.nil_iff.mpr rfl;subst e3;exact SeqAt.RcNeAt.lists (e:=λ_=>true) l1.isList l2.isList U (by lia) (λj h1 h2=>absurd h2 (by simp)) X.prog X.w X.xe _ ⟨.bl false,H,I,U,k⟩
 · have hne:its≠[]:=λz=>hl (r1.nil_iff.mp z);have:xs.isEmpty=false:=by cases xs with | nil=>exact absurd U hl | cons _ _=>rfl
   rw[this] at k;exact SeqAt.RcNeAt.lists_lengths l1.isList l2.isList (by simpa using hne) (by lia) X.prog X.w X.xe _ ⟨.bl true,H,I,U,k⟩
end
end L2
namespace L2
open PySem PySem.Spec PyProof.Rows PySem.SeqAt
section
variable {X:Cx} {pins:AOs} {σ:St} {H:Hp} {s:Shared}
end
end L2
namespace K19
open PySem L2 P10
def fZ (H:Hp) (b:Addr) (k:Int):Prop:=∃ n c:Int,H b=some (.lst [.int n,.int c,.int k])/\0<=k
def Mo (H:Hp) (f:Addr) (H':Hp):Prop:=∀ b,b≠f->H' b=H b
def Mo.put {H H':Hp} {f:Addr} {o:HO} (m:Mo H f H'):Mo H f (upd H' f o):=λb hb=>by rw[af hb];exact m b hb
def pc (x m:Int) (h:0<m):0<=x % m/\x % m<m:=⟨Int.emod_nonneg x ∅,Int.emod_lt_of_pos x h⟩
def yW {x y z:V}:atI [x,y,z] 0=some x:=pH (j:=0) rfl
def Da {x y z:V}:atI [x,y,z] 1=some y:=pH (j:=1) rfl
def yV {x y z:V}:atI [x,y,z] 2=some z:=pH (j:=2) rfl
section
variable {P:Program} {w:World} {K:Fg} {mg:SOV} {base:Heap}
abbrev sBx:Stmt:=top 44
def xu (K:Fg):Sp:=λvs H Q _=>∃ (a:Addr) (ns:List Int) (k:Int),vs=[.ref a,.int k]/\SqL K H a (ns.map V.int)/\ns.length<=63/\0<=k/\k<=1000/\∀ b H',aI H H'->H b=none->fZ H' b 0->Q (.ref b) H'
def Ai:bv ["_law_script","_law_k","_law_cell"] ["_law_script","_law_k"] (am sBx):=fsM
def Bj (D:Def K mg "_law_box" sBx) (T:Blt mg) (hint:mg "int"=none):Fn P w K mg base "_law_box" 1 ["_law_script","_law_k"] (xu K):=by
 exists D.fn Ai,i4,_,_
 · obtain⟨a,ns,k,rfl,_⟩:=h;rfl
 · obtain⟨a,ns,k,rfl,hS,hlen,k0,k1,q⟩:=h;have nd:=Ai.nd;obtain⟨t2,h2,r2⟩:∃ t,PSs (cy CX0 P w K mg base ["_law_script","_law_k","_law_cell"] "_law_box" (am sBx) f' cdv A outer s' H E).nox ((aM sBx).drop 2) t /\
    ∀ (c:Int) (x0 x1:Option V),t {nx:=λ_ H'=>Q .non H',rt:=Q} [x0,x1,some (.int c)] H:=by
    refine⟨_,(pG (ak (bE %[aN dR ↥2 (i7 hint %[dz AG ↥2 (aN xN pF pF) (pN _)|0]),2,pF|0]))),λc x0 x1=>?_⟩;refine⟨_,U,_,U,_,_,U,U,⟨∅,∅,∅⟩,_,_,U,U,.inr ⟨_,U,_,_,U,U,.inr ?_,_,U,kH,λb hb=>?_⟩⟩
    · split <;> exact⟨∅,∅⟩
    · exact q b _ (smu hb) hb ⟨_,c,pE,Int.le_refl 0⟩
   refine⟨_,(pD (pL (i:=2) nd U (.inl U) (aN dR pF ↥1))
 (pD (az (pM iP (cq T.len %[0|0]) pF (pN _)) (pG (pL (i:=2) nd U (.inl U) (aN cG (ac aw ↥0 (aN fq ↥1 (cq T.len %[0|0])) Ue) (aN dR pF (aN ir ↥1 (cq T.len %[0|0])))))) aq) h2)),?_⟩
   dsimp only[be];refine⟨_,U,_,_,U,U,.inl ⟨∅,∅⟩,?_⟩;refine⟨_,U,a,_,U,.inl hS,_,_,U,U,_,U,?_⟩;rw[lMp];by_cases hp:0<ns.length
   · refine pJ (by simpa using hp) ?_;have hb:=pc k (ns.length:Int) ∅;obtain⟨i,hi⟩:=Int.eq_ofNat_of_zero_le hb.1;have hi':i<ns.length:=∅
     refine⟨_,U,_,U,_,U,a,_,U,.inl hS,_,_,U,U,by rw[lMp];omega,a,_,_,V.int ns[i],U,U,hS,by rw[lMp,hi];exact pH (by simp[hi']),_,U,_,U,a,_,U,.inl hS,_,_,U,U,⟨by rw[lMp];omega,by rw[lMp];omega⟩,_,_,U,U,.inl ⟨∅,∅⟩,_,_,U,U,?_⟩;exact r2 _ _ _
   · exact pI (by simpa using hp) (r2 _ _ _)
abbrev sTk:Stmt:=top 45
def gZ:Sp:=λvs H Q _=>∃ (b:Addr) (k many:Int),vs=[.ref b,.int many]/\fZ H b k/\k<=1000000/\0<many/\many<=1000000/\∀ r H',0<=r->r<many->Mo H b H'->fZ H' b (k+1)->Q (.int r) H'
def A9:bv ["_law_box_here","_law_many_here","_law_found","_law_mixed"] ["_law_box_here","_law_many_here"] (am sTk):=fsM
def AL (D:Def K mg "_law_take" sTk):Fn P w K mg base "_law_take" 1 ["_law_box_here","_law_many_here"] gZ:=by
 exists D.fn A9,i4,_,_
 · obtain⟨b,k,many,rfl,_⟩:=h;rfl
 · obtain⟨b,k,many,rfl,⟨n,c,hb,k0⟩,k1,hm,hm2,q⟩:=h;have nd:=A9.nd;refine⟨_,(pD (f9 (aN cG (ac aw ↥0 pF Ue) pF) (mD ↥0 pF iH))
 (pD (az (pM iP (ac aw ↥0 pF Ue) pF (pN _)) (pD (pL (i:=2) nd U (.inl U) (aN fq (ac aw ↥0 pF Ue) ↥1))
 (pD (f9 (aN ir (ac aw ↥0 pF Ue) ↥1) (mD ↥0 pF iH))
 (pG (ak ↥2)))) aq)
 (pD (pL (i:=3) nd U (.inl U) (aN fq (aN dR (aN cG (aN fq (ac aw ↥0 pF Ue) pF) (aN dR pF (ac aw ↥0 pF Ue))) pF) pF))
 (pD (pL (i:=3) nd U (.inl U) (aN fq (aN dR (aN cG (aN ir ↥3 pF) (aN dR pF (ac aw ↥0 pF Ue))) pF) pF))
 (pG (ak (aN fq (aN ir ↥3 pF) ↥1))))))),?_⟩
   dsimp only[be];refine⟨_,U,b,_,_,_,U,U,SqL.of hb,yV,_,_,U,U,_,U,b,_,_,2,U,U,hb,U,?_⟩;have e1:(upd H b (.lst ([V.int n,V.int c,V.int k].set 2 (V.int (k+1))))) b=some (.lst [V.int n,V.int c,V.int (k+1)]):=pE;have m1:Mo H b (upd H b (.lst ([V.int n,V.int c,V.int k].set 2 (V.int (k+1))))):=Mo.put λ_ _=>rfl;generalize upd H b (.lst ([V.int n,V.int c,V.int k].set 2 (V.int (k+1))))=H1 at e1 m1 ⊢;refine⟨_,U,b,_,_,_,U,U,SqL.of e1,yW,_,_,U,U,_,U,?_⟩;refine cZ (λ_=>?_) (λ_=>?_)
   · refine⟨_,U,b,_,_,_,U,U,SqL.of e1,yW,_,U,_,_,U,U,hm,?_⟩;refine⟨_,U,b,_,_,_,U,U,SqL.of e1,yW,_,U,_,_,U,U,⟨hm,∅⟩,_,U,b,_,_,0,U,U,e1,U,?_⟩;exact⟨_,U,q _ _ (pc _ _ hm).1 (pc _ _ hm).2 m1.put ⟨_,c,pE,∅⟩⟩
   · have hc:=pc c 2147483647 ∅;refine⟨_,U,b,_,_,_,U,U,SqL.of e1,Da,_,_,U,U,show (0:Int)<2147483647 by decide,_,U,b,_,_,_,U,U,SqL.of e1,yV,_,_,U,U,.inl ⟨∅,∅⟩,_,_,U,U,_,_,U,U,.inr ⟨∅,∅⟩,_,_,U,U,show (0:Int)<2147483629 by decide,?_⟩;refine⟨_,U,_,_,U,U,⟨∅,∅⟩,_,U,b,_,_,_,U,U,SqL.of e1,yV,_,_,U,U,.inl ⟨∅,∅⟩,_,_,U,U,_,_,U,U,.inr ⟨∅,∅⟩,_,_,U,U,show (0:Int)<2147483587 by decide,?_⟩;refine⟨_,U,_,_,U,U,⟨∅,∅⟩,_,U,_,_,U,U,hm,?_⟩;exact q _ _ (pc _ _ hm).1 (pc _ _ hm).2 m1 ⟨n,c,e1,∅⟩
end
end K19
namespace P10
open PySem L2
def lT (z:Str) (ws:List Str):Bool:=ws.any λy=>y==z
def w1:List Str:=["number","name","fault"]
def w2:List Str:=["let","var","each"]
def w3:List Str:=["op","new","call"]
def w7:List Str:=["set","fun"]
def lE (z:Str) (ws:List Str):inV (V.str z) (ws.map V.str)=lT z ws:=by
 unfold inV lT;rw[List.any_map];rfl
def jx (ws:List Str):(ws.map V.str).all gJ=true:=by
 rw[List.all_map,List.all_eq_true];intro x _;rfl
end P10
namespace K19
open PySem L2 P10
section
variable {K:Fg} {H:Hp}
def C9 {xr:List V} {p:PyData} (h:TDs K H xr [p]):∃ x,xr=[x]/\TD K H x p:=by
 cases h with
 | cons a t=>cases t;exact⟨_,U,a⟩
def iD {xr:List V} {p p2:PyData} (h:TDs K H xr [p,p2]):∃ x x2,xr=[x,x2]/\TD K H x p/\TD K H x2 p2:=by
 cases h with
 | cons a t=>obtain⟨x2,rfl,h2⟩:=C9 t;exact⟨_,_,U,a,h2⟩
def cJ {xr:List V} {p p2 p3:PyData} (h:TDs K H xr [p,p2,p3]):∃ x x2 x3,xr=[x,x2,x3]/\TD K H x p/\TD K H x2 p2/\TD K H x3 p3:=by
 cases h with
 | cons a t=>obtain⟨x2,x3,rfl,h2,h3⟩:=iD t;exact⟨_,_,_,U,a,h2,h3⟩
end
section
variable {P:Program} {w:World} {K:Fg} {mg:SOV} {base:Heap}
end
end K19
namespace L2
open PySem PySem.Spec PyProof.Rows
section
variable {X:Cx} {x:Str} {p pos:Pos} {e:Expr} {es:List Expr} {t:TA} {i:Nat}
inductive VFn (X:Cx) (t:TA) (f:Addr) (σ:St) (H:Hp) (Q:VK):Prop
  | mk (fd:FuncData) (k:Nat) (ps:List Str) (sp:Sp) (h1:eW X.prog X.w X.K X.mg X.base CX0 k f fd ps sp) (h2:PySem.W.keepIn X.K (.ref f)=true) (h3:dO X.K fd ps []) (h4:cH k X.A) (q:t σ H λvs H1=>sp (vs++[]) H1 Q E0):VFn X t f σ H Q
def Ca (X:Cx) (i:Nat) (t:TA):TE:=λσ H Q=>∃ f,σ[i]?=some (some (.ref f))/\VFn X t f σ H Q
def xG (hv:PE X (.Name x p) (dr i)) (ha:PA X (e::es) t)
 (he:starEach (e::es) X.env=(false,eval e X.env)::starEach es X.env:=by rfl) (hpl:(backTo pos (starEach es X.env)).any (·.1)=false:=by rfl):PE X (.Call (.Name x p) (e::es) [] pos) (Ca X i t):=by
 intro pins s σ H Q I h;obtain⟨f,hf,fd,k,ps,sp,F,hk,hb,hr,q⟩:=h;refine wpAny_Call_Name_kw (thn (hv pins s σ H (λv H1=>v=.ref f/\H1=H) I ⟨_,hf,U,U⟩) λu s1 z=>?_);obtain⟨v,H1,I1,rv,e1,e2⟩:=z;subst e1 e2;obtain rfl:u=Value.ref f:=rv;refine PySem.W.callWith_K (h₀:=X.base) I1.ok.mod.kin hk (thn (ha pos pins s1 σ H1 _ I1 q) λus s2 z2=>?_) he hpl;obtain⟨vs,H2,I2,r,q2⟩:=z2;exact⟨I2.kIn,jL F hr hb .nil lh I2 r q2⟩
def Fn.at {P:Program} {w:World} {K:Fg} {mg:SOV} {base:Heap} {x:Str} {k:Nat} {ps:List Str} {sp:Sp} {f:Addr} (F:Fn P w K mg base x k ps sp) (h:mg x=some (.ref f)):∃ fd,eW P w K mg base CX0 k f fd ps sp/\PySem.W.keepIn K (.ref f)=true/\dO K fd ps []:=by
 obtain⟨f',fd,G,hm,hk,hb⟩:=F.ex;rw[h] at hm;cases hm;exact⟨fd,G,hk,hb⟩
end
inductive TyU (K:Fg) (H:Hp):V->Value->Prop
  | int (i:Int):TyU K H (.int i) (.type "int")
  | bl (b:Bool):TyU K H (.bl b) (.type "bool")
  | str (x:Str):TyU K H (.str x) (.type "str")
  | tup {a:Addr} {ys:List V} (h:SqT K H a ys):TyU K H (.ref a) (.type "tuple")
  | ins {a C dx:Addr} {fs:List (Str×V)} (e:H a=some (.ins C dx fs)) (cl:Cls K C) (ha:PySem.W.findIn K (.ref C) "__class__"=some (some (.builtin "object.__class__")))
      (hn:PySem.W.specialIn K (.builtin "object.__class__") "__get__"=some (some (.builtin "getset_descriptor.__get__"))) (htk:PySem.W.takesIn K (.builtin "object.__class__")=some true)
      (hm:PySem.W.mroIn K C (.type "object")=some true):TyU K H (.ref a) (.ref C)
inductive ClV:V->Value->Prop
  | ty (T:String):ClV (.ty T) (.type T)
  | own (C:Addr):ClV (.ref C) (.ref C)
inductive za (K:Fg) (xs:List V) (H:Hp) (Q:VK):Prop
  | one (x c:V) (t cv:Value) (b:Bool) (h1:xs=[x,c]) (h2:ClV c cv) (h3:TyU K H x t) (h4:PySem.W.kitOne K t cv=some b) (q:Q (.bl b) H):za K xs H Q
  | some (x:V) (tp:Addr) (t:Value) (Ts:List String) (b:Bool) (h1:xs=[x,.ref tp]) (h2:H tp=some (.tup (Ts.map V.ty))) (h3:TyU K H x t) (h4:PySem.W.kitAny K t (Ts.map Value.type)=some b) (q:Q (.bl b) H):za K xs H Q
def Ay (K:Fg):List V->Hp->VK->Prop:=λxs H Q=>za K xs H Q
def xg:∀ {Ts:List String} {its:List Value},aT (Ts.map V.ty) its->its=Ts.map Value.type:=by
 intro Ts
 induction Ts with
 | nil=>intro its h;cases h;rfl
 | cons T r ih =>
  intro its h;cases h with
  | cons r1 r2=>cases (show _=Value.type T from r1);rw[ih r2];rfl
def sJ {X:Cx}:ga X (.builtin "isinstance") (Ay X.K):=by
 intro pins s σ H xs us Q I rv h;cases h with
 | one x c t cv b h1 hc hx hk q =>
  subst h1;obtain⟨u,w',rfl,ru,rw'⟩:=rv.two;have ew:w'=cv:=by cases hc with
   | _=>exact rw'
  subst ew;have fin:∀ tk,EP X pins σ Q (.bool b) {s with toks:=tk}:=λtk=>⟨.bl b,H,I.tok _,U,q⟩;cases hx with
  | int i=>exact fN I ru (.int i) hk fin
  | bl i=>exact fN I ru (.bl i) hk fin
  | str i=>exact fN I ru (.str i) hk fin
  | @tup a ys hs =>
   cases (show u=Value.ref a from ru);obtain⟨its,_,⟨o,h1,h2,_⟩,_⟩:=I.tuple hs;exact PySem.W.kia_one PySem.W.kitx_tuple I.kIn ⟨o,h1,h2⟩ hk (λz=>nomatch z) fin
  | ins e cl ha hn htk hm=>exact fN I ru (.ins e cl ha hn htk hm) hk fin
 | some x tp t Ts b h1 ht hx hk q =>
  subst h1;obtain⟨u,w',rfl,ru,rw'⟩:=rv.two;cases (show w'=Value.ref tp from rw');have fin:∀ tk,EP X pins σ Q (.bool b) {s with toks:=tk}:=λtk=>⟨.bl b,H,I.tok _,U,q⟩;obtain⟨_,its,rit,ob,hob,hoc,n,hodt⟩:=(show bQ X.prog X.w H s.heap tp (.tup (Ts.map V.ty)) from I.hok tp _ ht);have ei:its=Ts.map Value.type:=xg rit;subst ei;obtain⟨c,d,dt,sl⟩:=ob;cases hoc;cases hodt;cases hx with
  | int i=>obtain⟨t,q⟩:=(show ∃ t,u=Value.int i t from ru);cases q;exact PySem.W.kia_tup PySem.W.kitx_int I.kIn True.intro hob hk (λz=>nomatch z) fin
  | bl y=>cases (show u=Value.bool y from ru);exact PySem.W.kia_tup PySem.W.kitx_bool I.kIn True.intro hob hk (λz=>nomatch z) fin
  | str y=>obtain⟨t,q⟩:=(show ∃ t,u=Value.str y t from ru);cases q;exact PySem.W.kia_tup PySem.W.kitx_str I.kIn True.intro hob hk (λz=>nomatch z) fin
  | @tup a ys hs =>
   cases (show u=Value.ref a from ru);obtain⟨its,_,⟨o,h1,h2,_⟩,_⟩:=I.tuple hs;exact PySem.W.kia_tup PySem.W.kitx_tuple I.kIn ⟨o,h1,h2⟩ hob hk (λz=>nomatch z) fin
  | @ins a C dx fs ea cl ha hn htk hm =>
   cases (show u=Value.ref a from ru);obtain⟨mA,O,_⟩:=gE I.hok ea;obtain⟨od,J,_⟩:=O.look;exact PySem.W.kia_tup (PySem.W.kitx_own (cl.get _) cl.hd ha hn htk hm) I.kIn J hob hk (λz=>nomatch z) fin
def dP {X:Cx} {p pos:Pos} {e:Expr} {es:List Expr} {t:TA} (hm:X.mg "isinstance"=none) (ha:PA X (e::es) t) (hg:Gl X "isinstance":=by rfl)
 (he:starEach (e::es) X.env=(false,eval e X.env)::starEach es X.env:=by rfl) (hpl:(backTo pos (starEach es X.env)).any (·.1)=false:=by rfl) :
 PE X (.Call (.Name "isinstance" p) (e::es) [] pos) (tCB (Ay X.K) t):=iO sJ hg hm eP ha (he:=he) (hpl:=hpl)
structure MFn (P:Program) (w:World) (K:Fg) (mg:SOV) (base:Heap) (C:Addr) (m:Str) (k:Nat) (ps:List Str) (sp:Sp):Prop where
  ex:∃ (f:Addr) (fd:FuncData),eW P w K mg base CX0 k f fd ps sp/\sZ K C m f/\dO K fd ps []
def gR (K:Fg) (C:Addr) (m q:Str) (st:Stmt):Prop:=∃ (f:Addr) (fd:FuncData),Fun K m q st f fd/\sZ K C m f
structure IFn (P:Program) (w:World) (K:Fg) (mg:SOV) (base:Heap) (C:Addr) (k:Nat) (ps:List Str) (sp:Sp):Prop where
  ex:∃ (f:Addr) (fd:FuncData),eW P w K mg base CX0 k f fd ps sp/\Mk K C f/\dO K fd ps []
def lU (K:Fg) (C:Addr) (q:Str) (st:Stmt):Prop:=∃ (f:Addr) (fd:FuncData),Fun K "__init__" q st f fd/\Mk K C f
section
variable {P:Program} {w:World} {K:Fg} {mg:SOV} {base:Heap} {C:Addr}
def gR.fn {m q:Str} {st:Stmt} {N ps:List Str} {k:Nat} {sp:Sp} (D:gR K C m q st) (S:bv N ps (am st)) (len:∀ vs H Q E,sp vs H Q E->vs.length=ps.length)
 (hb:∀ (kV doc pm:Value) (an:Option Addr) (cdv ct:Value) (us:List Value),us.length=ps.length->bindArgs (PySem.W.fnOf m q (cK st) (aM st) (am st) .none kV doc pm an cdv ct) ⟨us,[]⟩=pure (ps.zip us))
 (hbody:∀ (f:Addr) (cdv:Value) (A:Around) (outer:List Env) (s:Shared) (H:Hp) (vs:List V) (Q:VK) (E:XK),cH k (A.deeper (envOfC q (am st) s.heap.objs.size f cdv))->sp vs H Q E ->
   ∃ t,PSs (cy CX0 P w K mg base N q (am st) f cdv A outer s H E).nox (aM st) t/\t {nx:=λ_ H'=>Q .non H',rt:=Q} (di N vs) H):MFn P w K mg base C m (k+1) ps sp:=by
 obtain⟨f,fd,F,hm⟩:=D;exact⟨f,fd,F.ok S len (hbody f),hm,F.binds hb⟩
def lU.fn {q:Str} {st:Stmt} {N ps:List Str} {k:Nat} {sp:Sp} (D:lU K C q st) (S:bv N ps (am st)) (len:∀ vs H Q E,sp vs H Q E->vs.length=ps.length)
 (hb:∀ (kV doc pm:Value) (an:Option Addr) (cdv ct:Value) (us:List Value),us.length=ps.length->bindArgs (PySem.W.fnOf "__init__" q (cK st) (aM st) (am st) .none kV doc pm an cdv ct) ⟨us,[]⟩=pure (ps.zip us))
 (hbody:∀ (f:Addr) (cdv:Value) (A:Around) (outer:List Env) (s:Shared) (H:Hp) (vs:List V) (Q:VK) (E:XK),cH k (A.deeper (envOfC q (am st) s.heap.objs.size f cdv))->sp vs H Q E ->
   ∃ t,PSs (cy CX0 P w K mg base N q (am st) f cdv A outer s H E).nox (aM st) t/\t {nx:=λ_ H'=>Q .non H',rt:=Q} (di N vs) H):IFn P w K mg base C (k+1) ps sp:=by
 obtain⟨f,fd,F,hm⟩:=D;exact⟨f,fd,F.ok S len (hbody f),hm,F.binds hb⟩
end
section
variable {X:Cx} {x m:Str} {p pos apos:Pos} {o e a:Expr} {es:List Expr} {ta:TE} {t:TA} {k:Nat} {ps:List Str} {sp:Sp} {C:Addr}
def bo {pl:Sem Bool} (he:PE X o ta) (c:Cls X.K C) (M:MFn X.prog X.w X.K X.mg X.base C m k ps sp) (hr:cH k X.A) (ha:PA X (e::es) t)
 (hst:starEach (e::es) X.env=(false,eval e X.env)::starEach es X.env:=by rfl) (hpl:(backTo pos (starEach es X.env)).any (·.1)=false:=by rfl)
 (ht:eval (.Call (.Attribute o m apos) (e::es) [] pos) X.env=(do
   let ov <- eval o X.env
   standAt apos.atName
   let (f,first) <- holding [ov] (getMethod ov m pl)
   callWith pos f first (backTo pos (starEach (e::es) X.env)) (backToKw pos (keywordEach [] X.env))):=by rfl) :
 PE X (.Call (.Attribute o m apos) (e::es) [] pos) (nK C m sp [] E0 ta t):=by
 obtain⟨f,fd,G,hm,hb⟩:=M.ex;exact uA (pl:=pl) he c hm G hr hb .nil lh ha (hst:=hst) (hpl:=hpl) (ht:=ht)
def mE (M:IFn X.prog X.w X.K X.mg X.base C k ps sp) (hr:cH (k+1) X.A) (hg:Gl X x) (hm:X.mg x=some (.ref C)) (ha:PA X (e::es) t) (hdb:(x==("__debug__":Str))=false:=by decide)
 (he:starEach (e::es) X.env=(false,eval e X.env)::starEach es X.env:=by rfl) (hpl:(backTo pos (starEach es X.env)).any (·.1)=false:=by rfl):PE X (.Call (.Name x p) (e::es) [] pos) (vI C sp [] E0 t):=by
 obtain⟨f,fd,G,hk,hb⟩:=M.ex;exact uB hk G hr hg hm hb .nil lh ha (hdb:=hdb) (he:=he) (hpl:=hpl)
end
end L2
namespace K19
open PySem L2
inductive Ex
  | num (i:Int) | nam (x:Int) | bnd (v:Bool) (x:Int) (a b:Ex) | each (x:Int) (a b:Ex) | set (x:Int) (a:Ex) | seq (es:List Ex) | ite (a b d:Ex) | whl (a b:Ex) | say (a:Ex) | flt (w:Str)
  | op (w:Str) (es:List Ex) | new (r:Int) (es:List Ex) | get (r i:Int) (a:Ex) | fn (ids:List Int) (a:Ex) | app (a:Ex) (es:List Ex) | cal (f:Int) (es:List Ex)
inductive Lk | int (i:Int) | tup (is:List Int) | thing
inductive En | dry | long | flt (w:Str)
inductive EV | int (i:Int) | row (is:List Int) | rcd (r:Int) (xs:List EV) | fn (ids:List Int) (e:Ex) (g:List (Int×EV))
abbrev Nm:=List (Int×Nat)
inductive Vl | int (i:Int) | tup (is:List Int) | made (r:Int) (xs:List Vl) | fn (ids:List Int) (e:Ex) (n:Nm)
abbrev Env:=List (Int×EV)
structure Fun where
  hd:Str
  ct:Nat
  bd:Ex
structure St where
  left:Int
  D:List Lk
  en:Option En
  steps:Nat
abbrev R:=EV×Env×St
def aZ:EV->Int
  | .int i=>i
  | _=>0
def bC:EV->List Int
  | .row is=>is
  | _=>[]
def elk:EV->Lk
  | .int i=>.int i
  | .row is=>.tup is
  | _=>.thing
def wth:Vl->Int
  | .int i=>i
  | _=>0
def rwo:Vl->List Int
  | .tup is=>is
  | _=>[]
def lk:Vl->Lk
  | .int i=>.int i
  | .tup is=>.tup is
  | _=>.thing
inductive OR | int (i:Int) | row (is:List Int) | flt (w:Str)
def tkn (i:Int):Int:=(i+32768) % 65536-32768
def opI (w:Str) (a b:Int):Int:=if w="add" then tkn (a+b) else if w="sub" then tkn (a-b) else if w="mul" then tkn (a*b) else if w="div" then tkn (a.fdiv b) else if w="less" then (if a<b then 1 else 0) else if a=b then 1 else 0
def nat (ws:List Int) (i:Nat):Int:=(ws[i]?).getD (0:Int)
def opR (s:Str) (ws:List Int) (rs:List (List Int)):OR :=
  if s="row" then .row ws else if s="size" then .int (((rs.headD []).length:Nat):Int) else if s="not" then .int (if nat ws 0=0 then 1 else 0)
  else if s="at" then (if 0<=nat ws 1/\nat ws 1<(((rs.headD []).length:Nat):Int) then .int (nat (rs.headD []) (nat ws 1).toNat) else .flt "range")
  else if s="div"/\nat ws 1=0 then .flt "nought" else .int (opI s (nat ws 0) (nat ws 1))
def opA (w:Str) (c:Nat):Bool:=(decide (w="row")&&decide (c<=8))||((decide (w="not")||decide (w="size"))&&decide (c=1))||((decide (w="add")||decide (w="sub")||decide (w="mul")||decide (w="div")||decide (w="less")||decide (w="same")||decide (w="at"))&&decide (c=2))
def put (g:Env) (x:Int) (v:EV):Env:=match g with
  | []=>[(x,v)]
  | (y,u)::r=>if y=x then (y,v)::r else (y,u)::put r x v
def bV (s:St) (w:En):St:=match s.en with
  | none=>{s with en:=some w}
  | some _=>s
def aW (s:St):St:=if s.steps+1>4000 then bV {s with steps:=s.steps+1} .long else {s with steps:=s.steps+1}
def cb (s:St):Bool×St :=
  let s1:=if s.left=0 then bV s .dry else s
  (s1.en.isNone,{s1 with left:=s1.left-1})
def Sml (a:Int):Prop:=-70000<=a/\a<=70000
instance:DecidablePred Sml:=λ_=>inferInstanceAs (Decidable (_/\_))
def dI (g:Env):List Int->List EV->Env
  | x::xs,v::vs=>dI (put g x v) xs vs
  | _,_=>g
def eZ (V:Env->St->Ex->Option R):List Ex->Env->St->Option (List EV×Env×St)
  | [],g,s=>some ([],g,s)
  | e::es,g,s=>(V g s e).bind λr=>(eZ V es r.2.1 r.2.2).map λq=>(r.1::q.1,q.2)
def gN (V:Env->St->Ex->Option R) (x:Int) (b:Ex):List Int->Env->St->Option (Env×St)
  | [],g,s=>some (g,s)
  | i::is,g,s=>(V (put g x (.int i)) s b).bind λr=>gN V x b is r.2.1 r.2.2
def iA (G:Env->St->Option (Bool×Env×St)) (V:Env->St->Ex->Option R) (b:Ex):Nat->Env->St->Option (Env×St)
  | 0,_,_=>none
  | n+1,g,s=>(G g s).bind λq=>if q.1=false then some q.2 else
      if (cb q.2.2).1=false then some (q.2.1,(cb q.2.2).2) else (V q.2.1 (cb q.2.2).2 b).bind λr=>iA G V b n r.2.1 r.2.2
variable (F:List Fun)
mutual
def evV:Nat->Env->St->Ex->Option R
  | 0,_,_,_=>none
  | f+1,g,s,e=>if (aW s).en.isSome=true then some (.int 0,g,aW s) else match e with
    | .num i=>some (.int i,g,aW s)
    | .nam x=>(g.lookup x).map λv=>(v,g,aW s)
    | .bnd _ x a b=>evB f g (aW s) x a b
    | .whl a b=>evW f g (aW s) a b
    | .each x a b=>evE f g (aW s) x a b
    | .fn ids a=>some (.fn ids a g,g,aW s)
    | .app a es=>evA f g (aW s) a es
    | .cal k es=>evC f g (aW s) k es
    | .get r i a=>evG f g (aW s) r i a
    | e=>evO f g (aW s) e
def evL:Nat->Env->St->List Ex->Option (List EV×Env×St)
  | 0,_,_,_=>none
  | f+1,g,s,es=>if es.length<=9 then eZ (evV f) es g s else none
def evB:Nat->Env->St->Int->Ex->Ex->Option R
  | 0,_,_,_,_,_=>none
  | f+1,g,s,x,a,b=>(evV f g s a).bind λr=>evV f (put r.2.1 x r.1) r.2.2 b
def evH:Nat->Env->St->Ex->Option (Bool×Env×St)
  | 0,_,_,_=>none
  | f+1,g,s,a=>(evV f g s a).map λr=>(r.2.2.en.isNone&&decide (aZ r.1≠0),r.2)
def evW:Nat->Env->St->Ex->Ex->Option R
  | 0,_,_,_,_=>none
  | f+1,g,s,a,b=>(iA (λg s=>evH f g s a) (evV f) b 12 g s).map λq=>(.int 0,q)
def evE:Nat->Env->St->Int->Ex->Ex->Option R
  | 0,_,_,_,_,_=>none
  | f+1,g,s,x,a,b=>(evV f g s a).bind λr=>if (bC r.1).length<=8 then (gN (evV f) x b (bC r.1) r.2.1 r.2.2).map λq=>(.int 0,q) else none
def evA:Nat->Env->St->Ex->List Ex->Option R
  | 0,_,_,_,_=>none
  | f+1,g,s,a,es=>(evV f g s a).bind λr=>(evL f r.2.1 r.2.2 es).bind λq=>if q.2.2.en.isSome=true then some (.int 0,q.2) else match r.1 with
    | .fn ids e g1=>if ids.length=q.1.length then (if (cb q.2.2).1=true then (evV f (dI g1 ids q.1) (cb q.2.2).2 e).map λz=>(z.1,q.2.1,z.2.2) else some (.int 0,q.2.1,(cb q.2.2).2)) else some (.int 0,q.2.1,bV q.2.2 (.flt "apply"))
    | _=>some (.int 0,q.2.1,bV q.2.2 (.flt "apply"))
def evC:Nat->Env->St->Int->List Ex->Option R
  | 0,_,_,_,_=>none
  | f+1,g,s,k,es=>(evL f g s es).bind λq=>if 0<=k then (F[k.toNat]?).bind λfn=>if q.2.2.en.isSome=true then some (.int 0,q.2) else
      if fn.hd="deep"/\(cb q.2.2).1=false then some (.int 0,q.2.1,(cb q.2.2).2) else if q.1.length=fn.ct then
        (evV f (dI [] ((List.range fn.ct).map Int.ofNat) q.1) (if fn.hd="deep" then (cb q.2.2).2 else q.2.2) fn.bd).map λz=>(z.1,q.2.1,z.2.2) else none else none
def evG:Nat->Env->St->Int->Int->Ex->Option R
  | 0,_,_,_,_,_=>none
  | f+1,g,s,r,i,a=>(evV f g s a).bind λq=>if q.2.2.en.isSome=true then some (.int 0,q.2) else match q.1 with
    | .rcd r1 xs=>if r1=r then (if 0<=i then (xs[i.toNat]?).map λv=>(v,q.2) else none) else some (.int 0,q.2.1,bV q.2.2 (.flt "field"))
    | _=>some (.int 0,q.2.1,bV q.2.2 (.flt "field"))
def evO:Nat->Env->St->Ex->Option R
  | 0,_,_,_=>none
  | f+1,g,s,e=>match e with
    | .say a=>(evV f g s a).bind λq=>if q.2.2.en.isSome=true then some q else if q.2.2.D.length<5000 then some (q.1,q.2.1,{q.2.2 with D:=q.2.2.D++[elk q.1]}) else none
    | .new r es=>(evL f g s es).map λq=>(.rcd r q.1,q.2)
    | .op w es=>if opA w es.length=true then (evL f g s es).bind λq=>if q.2.2.en.isSome=true then some (.int 0,q.2) else if q.1.all (λv=>decide (Sml (aZ v))&&decide ((bC v).length<=8))=true then (match opR w (q.1.map aZ) (q.1.map bC) with
      | .int i=>some (.int i,q.2)
      | .row is=>some (.row is,q.2)
      | .flt w=>some (.int 0,q.2.1,bV q.2.2 (.flt w))) else none else none
    | .seq es=>(evL f g s es).bind λq=>(q.1.getLast?).map λv=>(v,q.2)
    | .ite a b d=>(evV f g s a).bind λq=>evV f q.2.1 q.2.2 (if aZ q.1=0 then d else b)
    | .set x a=>(evV f g s a).map λq=>(q.1,put q.2.1 x q.1,q.2.2)
    | .flt w=>some (.int 0,g,bV s (.flt w))
    | _=>none
end
structure Tsk where
  t:Str
  e:Ex
  n:Nm
  c:Nat
structure MS where
  W:List Tsk
  T:List Vl
  D:List Lk
  en:Option En
  k:Int
  B:List (Bool×Vl)
def rT:Ex->List Ex
  | .num _ | .nam _ | .flt _=>[]
  | .bnd _ _ a b | .each _ a b | .whl a b=>[a,b]
  | .set _ a | .say a | .get _ _ a | .fn _ a=>[a]
  | .seq es | .op _ es | .new _ es | .cal _ es=>es
  | .ite a b d=>[a,b,d]
  | .app a es=>a::es
def eK:Ex->List Ex
  | .fn _ _=>[]
  | .bnd _ _ a _ | .each _ a _ | .ite a _ _ | .whl a _=>[a]
  | e=>rT e
def bgs (es:List Ex) (n:Nm):List Tsk:=es.reverse.map λe=>⟨"begin",e,n,0⟩
def tel (S:MS) (x:Vl):MS:={S with T:=S.T++[x]}
def bgn (S:MS) (e:Ex) (n:Nm):MS:={S with W:=S.W++[⟨"begin",e,n,0⟩]}
def flt (S:MS) (w:En):MS:={S with en:=some w}
def nms (n:Nm) (b:Nat):List Int->Nm
  | []=>n
  | x::ids=>nms ((x,b)::n) (b+1) ids
def eaS (b:Ex) (x:Int) (n:Nm) (k:Nat):List Int->List Tsk
  | []=>[]
  | _::is=>eaS b x n k is++[⟨"begin",b,(x,k+is.length)::n,0⟩]
def orV:OR->Vl
  | .int i=>.int i
  | .row is=>.tup is
  | .flt _=>.int 0
inductive Fin (F:List Fun):Ex->Nm->List Vl->MS->MS->Prop
  | num {i n S}:Fin F (.num i) n [] S (tel S (.int i))
  | nam {x n S k fl v} (h:n.lookup x=some k) (hb:S.B[k]?=some (fl,v)):Fin F (.nam x) n [] S (tel S v)
  | bnd {w x a b n S v}:Fin F (.bnd w x a b) n [v] S (bgn {S with B:=S.B++[(w,v)]} b ((x,S.B.length)::n))
  | set {x a n S k u v} (h:n.lookup x=some k) (hb:S.B[k]?=some (true,u)):Fin F (.set x a) n [v] S (tel {S with B:=S.B.set k (true,v)} v)
  | seq {es n S xs v}:Fin F (.seq es) n (xs++[v]) S (tel S v)
  | ite {a b d n S v}:Fin F (.ite a b d) n [v] S (bgn S (if wth v=0 then d else b) n)
  | wh0 {a b n S v} (h:wth v=0):Fin F (.whl a b) n [v] S (tel S (.int 0))
  | wh1 {a b n S v} (h:wth v≠0) (hk:S.k≠0):Fin F (.whl a b) n [v] S (bgn {S with k:=S.k-1,W:=S.W++[⟨"again",.whl a b,n,1⟩]} b n)
  | whd {a b n S v} (h:wth v≠0) (hk:S.k=0):Fin F (.whl a b) n [v] S (flt S .dry)
  | each {x a b n S v} (h:(rwo v).length<=8):Fin F (.each x a b) n [v] S {S with W:=S.W++⟨"over",.each x a b,n,(rwo v).length⟩::eaS b x n S.B.length (rwo v),B:=S.B++(rwo v).reverse.map λi=>(false,.int i)}
  | say {a n S v}:Fin F (.say a) n [v] S (tel {S with D:=S.D++[lk v]} v)
  | flt {w n S}:Fin F (.flt w) n [] S (flt S (.flt w))
  | op {w es n S xs} (h:opA w xs.length=true) (hs:∀ x∈xs,Sml (wth x)/\(rwo x).length<=8) (ho:∀ f,opR w (xs.map wth) (xs.map rwo)≠.flt f):Fin F (.op w es) n xs S (tel S (orV (opR w (xs.map wth) (xs.map rwo))))
  | opF {w es n S xs f} (h:opA w xs.length=true) (hs:∀ x∈xs,Sml (wth x)/\(rwo x).length<=8) (ho:opR w (xs.map wth) (xs.map rwo)=.flt f):Fin F (.op w es) n xs S (K19.flt S (.flt f))
  | new {r es n S xs}:Fin F (.new r es) n xs S (tel S (.made r xs))
  | get {r i a n S ys v} (h0:0<=i) (h:ys[i.toNat]?=some v):Fin F (.get r i a) n [.made r ys] S (tel S v)
  | getF {r i a n S v} (h:∀ ys,v≠.made r ys):Fin F (.get r i a) n [v] S (K19.flt S (.flt "field"))
  | fn {ids a n S}:Fin F (.fn ids a) n [] S (tel S (.fn ids a n))
  | app {a es n S ids e n1 ys} (h:ids.length=ys.length) (hk:S.k≠0):Fin F (.app a es) n (.fn ids e n1::ys) S (bgn {S with k:=S.k-1,B:=S.B++ys.map λy=>(false,y)} e (nms n1 S.B.length ids))
  | appD {a es n S ids e n1 ys} (h:ids.length=ys.length) (hk:S.k=0):Fin F (.app a es) n (.fn ids e n1::ys) S (K19.flt S .dry)
  | appF {a es n S v ys} (h:∀ ids e n1,v=.fn ids e n1->ids.length≠ys.length):Fin F (.app a es) n (v::ys) S (K19.flt S (.flt "apply"))
  | cal {j es n S xs} {fn:Fun} (h0:0<=j) (h:F[j.toNat]?=some fn) (hk:fn.hd="deep"->S.k≠0) (hl:xs.length=fn.ct):Fin F (.cal j es) n xs S (bgn {S with k:=if fn.hd="deep" then S.k-1 else S.k,B:=S.B++xs.map λy=>(false,y)} fn.bd (nms [] S.B.length ((List.range fn.ct).map Int.ofNat)))
  | calD {j es n S xs} {fn:Fun} (h0:0<=j) (h:F[j.toNat]?=some fn) (hd:fn.hd="deep") (hk:S.k=0):Fin F (.cal j es) n xs S (K19.flt S .dry)
inductive Stp (F:List Fun):MS->MS->Prop
  | bg {S:MS} {W e n} (hn:S.en=none) (hW:S.W=W++[⟨"begin",e,n,0⟩]):Stp F S {S with W:=W++⟨"finish",e,n,(eK e).length⟩::bgs (eK e) n}
  | fin {S S':MS} {W e n T xs} (hn:S.en=none) (hW:S.W=W++[⟨"finish",e,n,xs.length⟩]) (hT:S.T=T++xs) (h:Fin F e n xs {S with W:=W,T:=T} S'):Stp F S S'
  | again {S:MS} {W e n T x} (hn:S.en=none) (hW:S.W=W++[⟨"again",e,n,1⟩]) (hT:S.T=T++[x]):Stp F S (bgn {S with W:=W,T:=T} e n)
  | over {S:MS} {W e n T xs} (hn:S.en=none) (hW:S.W=W++[⟨"over",e,n,xs.length⟩]) (hT:S.T=T++xs):Stp F S (tel {S with W:=W,T:=T} (.int 0))
def Bd (S:MS):Prop:=S.W.length<=20000/\S.T.length<=20000/\S.D.length<=20000
inductive Rn (F:List Fun):MS->MS->Prop
  | refl {S}:Rn F S S
  | step {S S1 S2} (b:Bd S) (h:Stp F S S1) (r:Rn F S1 S2):Rn F S S2
def Rn.trans {F:List Fun} {S S1 S2:MS} (h:Rn F S S1) (g:Rn F S1 S2):Rn F S S2:=by
 induction h with
 | refl=>exact g
 | step b h _ ih=>exact .step b h (ih g)
inductive Ws:List Int->List Int->Ex->Prop
  | num {L V i}:Ws L V (.num i)
  | nam {L V x} (h:x∈L\/x∈V):Ws L V (.nam x)
  | lt {L V x a b} (ha:Ws L V a) (h1:x∉L) (h2:x∉V) (hb:Ws (x::L) V b):Ws L V (.bnd false x a b)
  | vr {L V x a b} (ha:Ws L V a) (h1:x∉L) (h2:x∉V) (hb:Ws L (x::V) b):Ws L V (.bnd true x a b)
  | each {L V x a b} (ha:Ws L V a) (h1:x∉L) (h2:x∉V) (hb:Ws (x::L) V b):Ws L V (.each x a b)
  | set {L V x a} (h:x∈V) (hl:x∉L) (ha:Ws L V a):Ws L V (.set x a)
  | seq {L V es} (h:∀ e∈es,Ws L V e):Ws L V (.seq es)
  | ite {L V a b d} (ha:Ws L V a) (hb:Ws L V b) (hd:Ws L V d):Ws L V (.ite a b d)
  | whl {L V a b} (ha:Ws L V a) (hb:Ws L V b):Ws L V (.whl a b)
  | say {L V a} (ha:Ws L V a):Ws L V (.say a)
  | flt {L V w}:Ws L V (.flt w)
  | op {L V w es} (h:∀ e∈es,Ws L V e):Ws L V (.op w es)
  | new {L V r es} (h:∀ e∈es,Ws L V e):Ws L V (.new r es)
  | get {L V r i a} (ha:Ws L V a):Ws L V (.get r i a)
  | fn {L V ids a} (hn:ids.Nodup) (h1:∀ x∈ids,x∉L) (ha:Ws (ids++L) [] a):Ws L V (.fn ids a)
  | app {L V a es} (ha:Ws L V a) (h:∀ e∈es,Ws L V e):Ws L V (.app a es)
  | cal {L V f es} (h:∀ e∈es,Ws L V e):Ws L V (.cal f es)
def Dec:Nm->Nat->Prop
  | [],_=>True
  | (_,k)::n,b=>k<b/\Dec n k
def Dec.mono {n:Nm} {a b:Nat} (h:Dec n a) (l:a<=b):Dec n b:=by
 cases n with
 | nil=>trivial
 | cons p n=>exact⟨Nat.lt_of_lt_of_le h.1 l,h.2⟩
def aY {α:Type} {n:List (Int×α)} {x y:Int} {k:α}:((y,k)::n).lookup x=if x=y then some k else n.lookup x:=by
 rw[List.lookup_cons];by_cases h:x=y
 · rw[if_pos h,h];simp
 · rw[if_neg h];have:(x==y)=false:=by simpa using h
   rw[this]
def Dec.lt {n:Nm} {x:Int} {k b:Nat} (h:Dec n b) (e:n.lookup x=some k):k<b:=by
 induction n generalizing b with
 | nil=>cases e
 | cons p n ih =>
  obtain⟨y,k'⟩:=p;rw[aY] at e;by_cases hx:x=y
  · rw[if_pos hx] at e;cases e;exact h.1
  · rw[if_neg hx] at e;exact Nat.lt_trans (ih h.2 e) h.1
def Dec.inj {n:Nm} {x y:Int} {k b:Nat} (h:Dec n b) (e:n.lookup x=some k) (d:n.lookup y=some k):x=y:=by
 induction n generalizing b with
 | nil=>cases e
 | cons p n ih =>
  obtain⟨z,k'⟩:=p;rw[aY] at e d;by_cases hx:x=z
  · rw[if_pos hx] at e;cases e;by_cases hy:y=z
    · rw[hx,hy]
    · rw[if_neg hy] at d;exact absurd (Dec.lt h.2 d) (Nat.lt_irrefl _)
  · rw[if_neg hx] at e;by_cases hy:y=z
    · rw[if_pos hy] at d;cases d;exact absurd (Dec.lt h.2 e) (Nat.lt_irrefl _)
    · rw[if_neg hy] at d;exact ih h.2 e d
inductive VR (B:List (Bool×Vl)):EV->Vl->Prop
  | int (i:Int):VR B (.int i) (.int i)
  | row (is:List Int):VR B (.row is) (.tup is)
  | rcd {r:Int} {xs:List EV} {ys:List Vl} (hl:xs.length=ys.length) (h:∀ (i:Nat) (x:EV) (y:Vl),xs[i]?=some x->ys[i]?=some y->VR B x y):VR B (.rcd r xs) (.made r ys)
  | fn {ids:List Int} {e:Ex} {g:Env} {n:Nm} {L:List Int} (ge:Int->EV) (gm:Int->Vl) (h1:∀ x∈L,g.lookup x=some (ge x)) (h2:∀ x∈L,∃ k,n.lookup x=some k/\B[k]?=some (false,gm x)) (h3:∀ x∈L,VR B (ge x) (gm x))
      (hn:ids.Nodup) (hi:∀ x∈ids,x∉L) (hw:Ws (ids++L) [] e) (hd:Dec n B.length):VR B (.fn ids e g) (.fn ids e n)
structure Ext (P:Nat->Prop) (B B':List (Bool×Vl)):Prop where
  le:B.length<=B'.length
  lt:∀ (k:Nat) (v:Vl),B[k]?=some (false,v)->B'[k]?=some (false,v)
  vr:∀ (k:Nat) (v:Vl),B[k]?=some (true,v)->¬ P k->B'[k]?=some (true,v)
  fl:∀ (k:Nat) (v:Vl),B[k]?=some (true,v)->∃ u,B'[k]?=some (true,u)
def Ext.refl {P:Nat->Prop} {B:List (Bool×Vl)}:Ext P B B:=⟨Nat.le_refl _,λ_ _ h=>h,λ_ _ h _=>h,λ_ v h=>⟨v,h⟩⟩
def Ext.trans {P:Nat->Prop} {B B1 B2:List (Bool×Vl)} (h:Ext P B B1) (g:Ext P B1 B2):Ext P B B2 :=
 ⟨Nat.le_trans h.le g.le,λk v z=>g.lt k v (h.lt k v z),λk v z n=>g.vr k v (h.vr k v z n) n,λk v z=>by obtain⟨u,z⟩:=h.fl k v z;exact g.fl k u z⟩
def Ext.imp {P P':Nat->Prop} {B B':List (Bool×Vl)} (h:Ext P B B') (i:∀ k,k<B.length->P k->P' k):Ext P' B B' :=
 ⟨h.le,h.lt,λk v z n=>h.vr k v z λp=>n (i k (gES.mp z).1 p),h.fl⟩
def Ext.app {P:Nat->Prop} {B:List (Bool×Vl)} (C:List (Bool×Vl)):Ext P B (B++C):=by
 have a:∀ k p,B[k]?=some p->(B++C)[k]?=some p:=λk p z=>by
  rw[List.getElem?_append_left (gES.mp z).1];exact z
 exact⟨by rw[lAp];omega,λk v z=>a _ _ z,λk v z _=>a _ _ z,λk v z=>⟨v,a _ _ z⟩⟩
def VR.ext {P:Nat->Prop} {B B':List (Bool×Vl)} {v:EV} {x:Vl} (h:VR B v x) (g:Ext P B B'):VR B' v x:=by
 induction h with
 | int i=>exact .int i
 | row is=>exact .row is
 | rcd hl _ ih=>exact .rcd hl ih
 | fn ge gm h1 h2 _ hn hi hw hd ih=>exact .fn ge gm h1 (λx hx=>by obtain⟨k,a,b⟩:=h2 x hx;exact⟨k,a,g.lt k _ b⟩) ih hn hi hw (hd.mono g.le)
def VR.wth {B:List (Bool×Vl)} {v:EV} {x:Vl} (h:VR B v x):K19.wth x=aZ v/\rwo x=bC v/\lk x=elk v:=by
 cases h <;> exact⟨U,U,U⟩
def cj {g:Env} {x y:Int} {v:EV}:(put g x v).lookup y=if y=x then some v else g.lookup y:=by
 induction g with
 | nil =>
  show ([(x,v)]:Env).lookup y=_;rw[aY]
 | cons p r ih =>
  obtain⟨z,u⟩:=p;show (if z=x then (z,v)::r else (z,u)::put r x v:Env).lookup y=_;by_cases h:z=x
  · rw[if_pos h,aY,aY,h];by_cases hy:y=x
    · rw[if_pos hy,if_pos hy]
    · rw[if_neg hy,if_neg hy,if_neg hy]
  · rw[if_neg h,aY,aY,ih];by_cases hz:y=z
    · rw[if_pos hz,if_pos hz,if_neg (by rw[hz];exact h)]
    · rw[if_neg hz,if_neg hz]
structure ER (B:List (Bool×Vl)) (L V:List Int) (g:Env) (n:Nm):Prop where
  d:Dec n B.length
  l:∀ x∈L,∃ v k m,g.lookup x=some v/\n.lookup x=some k/\B[k]?=some (false,m)/\VR B v m
  v:∀ x∈V,∃ v k m,g.lookup x=some v/\n.lookup x=some k/\B[k]?=some (true,m)/\VR B v m
def Pv (V:List Int) (n:Nm) (k:Nat):Prop:=∃ x∈V,n.lookup x=some k
def sO {B:List (Bool×Vl)} {k:Nat} {p q:Bool×Vl} (h:B[k]?=some p):(B++[q])[k]?=some p:=by
 rw[List.getElem?_append_left (gES.mp h).1];exact h
def sN {B:List (Bool×Vl)} {q:Bool×Vl}:(B++[q])[B.length]?=some q:=by
 rw[List.getElem?_append_right (Nat.le_refl _),Nat.sub_self];rfl
def ER.old {B:List (Bool×Vl)} {L V:List Int} {g:Env} {n:Nm} (h:ER B L V g n) {x:Int} (h1:x∉L) (h2:x∉V) (v:EV) (q:Bool×Vl) :
 (∀ y∈L,∃ v' k m,(put g x v).lookup y=some v'/\((x,B.length)::n).lookup y=some k/\(B++[q])[k]?=some (false,m)/\VR (B++[q]) v' m) /\
 (∀ y∈V,∃ v' k m,(put g x v).lookup y=some v'/\((x,B.length)::n).lookup y=some k/\(B++[q])[k]?=some (true,m)/\VR (B++[q]) v' m):=by
 have ne:∀ {y:Int} {l:List Int},x∉l->y∈l->y≠x:=λnx hy e=>nx (e▸hy);refine⟨λy hy=>?_,λy hy=>?_⟩
 · obtain⟨v',k,m,a,b,d,e⟩:=h.l y hy;exact⟨v',k,m,by rw[cj,if_neg (ne h1 hy)];exact a,by rw[aY,if_neg (ne h1 hy)];exact b,sO d,e.ext (P:=λ_=>False) (.app _)⟩
 · obtain⟨v',k,m,a,b,d,e⟩:=h.v y hy;exact⟨v',k,m,by rw[cj,if_neg (ne h2 hy)];exact a,by rw[aY,if_neg (ne h2 hy)];exact b,sO d,e.ext (P:=λ_=>False) (.app _)⟩
def Dec.push {n:Nm} {B:List (Bool×Vl)} {x:Int} {q:Bool×Vl} (h:Dec n B.length):Dec ((x,B.length)::n) (B++[q]).length:=⟨by rw[lAp];exact Nat.lt_succ_self _,h⟩
def ER.lt {B:List (Bool×Vl)} {L V:List Int} {g:Env} {n:Nm} (h:ER B L V g n) {x:Int} (h1:x∉L) (h2:x∉V) {v:EV} {m:Vl} (r:VR B v m):ER (B++[(false,m)]) (x::L) V (put g x v) ((x,B.length)::n):=by
 obtain⟨a,b⟩:=h.old h1 h2 v (false,m);refine⟨h.d.push,λy hy=>?_,b⟩
 rcases List.mem_cons.mp hy with rfl | hy
 · exact⟨v,B.length,m,by rw[cj,if_pos U],by rw[aY,if_pos U],sN,r.ext (P:=λ_=>False) (.app _)⟩
 · exact a y hy
def ER.vr {B:List (Bool×Vl)} {L V:List Int} {g:Env} {n:Nm} (h:ER B L V g n) {x:Int} (h1:x∉L) (h2:x∉V) {v:EV} {m:Vl} (r:VR B v m):ER (B++[(true,m)]) L (x::V) (put g x v) ((x,B.length)::n):=by
 obtain⟨a,b⟩:=h.old h1 h2 v (true,m);refine⟨h.d.push,a,λy hy=>?_⟩
 rcases List.mem_cons.mp hy with rfl | hy
 · exact⟨v,B.length,m,by rw[cj,if_pos U],by rw[aY,if_pos U],sN,r.ext (P:=λ_=>False) (.app _)⟩
 · exact b y hy
def ER.pop {B:List (Bool×Vl)} {L L' V V':List Int} {g:Env} {n:Nm} {x:Int} {k b:Nat} (h:ER B L' V' g ((x,k)::n)) (h1:x∉L) (h2:x∉V) (sl:∀ y∈L,y∈L') (sv:∀ y∈V,y∈V'):ER B L V g n:=by
 have ne:∀ {y:Int} {l:List Int},x∉l->y∈l->y≠x:=λnx hy e=>nx (e▸hy);refine⟨h.d.2.mono (Nat.le_of_lt h.d.1),λy hy=>?_,λy hy=>?_⟩
 · obtain⟨v',k,m,a,b,d,e⟩:=h.l y (sl y hy);rw[aY,if_neg (ne h1 hy)] at b;exact⟨v',k,m,a,b,d,e⟩
 · obtain⟨v',k,m,a,b,d,e⟩:=h.v y (sv y hy);rw[aY,if_neg (ne h2 hy)] at b;exact⟨v',k,m,a,b,d,e⟩
def ER.ext {B B':List (Bool×Vl)} {L V:List Int} {g:Env} {n:Nm} (h:ER B L V g n) (e:Ext (λ_=>False) B B'):ER B' L V g n :=
 ⟨h.d.mono e.le,λy hy=>by obtain⟨v',k,m,a,b,d,z⟩:=h.l y hy;exact⟨v',k,m,a,b,e.lt _ _ d,z.ext e⟩,λy hy=>by obtain⟨v',k,m,a,b,d,z⟩:=h.v y hy;exact⟨v',k,m,a,b,e.vr _ _ d id,z.ext e⟩⟩
def Out (F:List Fun) (S:MS) (s:St) (Q:MS->Prop):Prop:=(s.en=none/\∃ S',Rn F S S'/\Q S')\/(s.en≠none/\∃ S',Rn F S S'/\S'.en=s.en/\S'.D=s.D)
def Out.step {F:List Fun} {S S1:MS} {s:St} {Q:MS->Prop} (b:Bd S) (h:Stp F S S1) (o:Out F S1 s Q):Out F S s Q:=by
 rcases o with ⟨e,S',r,q⟩ | ⟨e,S',r,q⟩
 · exact .inl ⟨e,S',.step b h r,q⟩
 · exact .inr ⟨e,S',.step b h r,q⟩
def Out.imp {F:List Fun} {S:MS} {s:St} {Q Q':MS->Prop} (o:Out F S s Q) (i:s.en=none->∀ S',Q S'->Q' S'):Out F S s Q':=by
 rcases o with ⟨e,S',r,q⟩ | o
 · exact .inl ⟨e,S',r,i e S' q⟩
 · exact .inr o
def Out.bind {F:List Fun} {S:MS} {s s':St} {Q Q':MS->Prop} (o:Out F S s Q) (k:s.en=none->∀ S',Q S'->Out F S' s' Q') (z:s.en≠none->s'.en=s.en/\s'.D=s.D):Out F S s' Q':=by
 rcases o with ⟨e,S',r,q⟩ | ⟨e,S',r,q1,q2⟩
 · rcases k e S' q with ⟨e',S2,r',q'⟩ | ⟨e',S2,r',q'⟩
   · exact .inl ⟨e',S2,r.trans r',q'⟩
   · exact .inr ⟨e',S2,r.trans r',q'⟩
 · obtain⟨z1,z2⟩:=z e;exact .inr ⟨by rw[z1];exact e,S',r,by rw[q1,z1],by rw[q2,z2]⟩
structure Fit (s:St):Prop where
  d:s.D.length<=5000
def QE (L V:List Int) (g:Env) (n:Nm) (W:List Tsk) (T:List Vl) (B:List (Bool×Vl)) (v:EV) (s:St) (S':MS):Prop :=
  ∃ B' x,S'=⟨W,T++[x],s.D,none,s.left,B'⟩/\Ext (Pv V n) B B'/\VR B' v x/\ER B' L V g n/\Fit s
def cfg (W:List Tsk) (T:List Vl) (s:St) (B:List (Bool×Vl)):MS:=⟨W,T,s.D,none,s.left,B⟩
def Sim (F:List Fun) (f:Nat):Prop:=∀ e g s v g' s',evV F f g s e=some (v,g',s')->s.en=none->s'.en≠some .long->Fit s->∀ L V n W T B,Ws L V e->ER B L V g n->W.length+12*f<=15000->T.length+12*f<=15000 ->
  Out F (cfg (W++[⟨"begin",e,n,0⟩]) T s B) s' (QE L V g' n W T B v s')
def qf {s:St} (h:s.en≠none):(aW s).en=s.en/\(aW s).D=s.D:=by
 unfold aW bV;cases e:s.en with
 | none=>exact absurd e h
 | some w =>
  split
  · simp only[e];exact⟨trivial,trivial⟩
  · exact⟨U,U⟩
def jA {s:St} (f:Fit s) (h:s.en=none) (h2:(aW s).en≠some .long):(aW s).en=none/\(aW s).D=s.D/\(aW s).left=s.left/\Fit (aW s):=by
 unfold aW at h2 ⊢;by_cases z:s.steps+1>4000
 · rw[if_pos z] at h2;exact absurd (by show (bV _ _).en=_;unfold bV;simp only[h]) h2
 · rw[if_neg z];exact⟨h,U,U,⟨f.d⟩⟩
def iY {F:List Fun} {f:Nat} {g g':Env} {s s':St} {e:Ex} {v:EV} (h:evV F f g s e=some (v,g',s')) (n:s.en≠none):v=.int 0/\g'=g/\s'.en=s.en/\s'.D=s.D:=by
 cases f with
 | zero=>cases h
 | succ f =>
  have q:∀ X:Option R,(if (aW s).en.isSome=true then some (.int 0,g,aW s) else X)=some (v,g',s')->v=.int 0/\g'=g/\s'.en=s.en/\s'.D=s.D:=by
   intro X h;have b:=qf n;rw[if_pos (by rw[b.1];exact Option.isSome_iff_ne_none.mpr n)] at h;cases h;exact⟨U,U,b⟩
  cases e <;> exact q _ h
variable {F:List Fun} {f:Nat}
def nS:∀ {es:List Ex} {g g':Env} {s s':St} {vs:List EV},eZ (evV F f) es g s=some (vs,g',s')->s.en≠none->g'=g/\s'.en=s.en/\s'.D=s.D:=by
 intro es
 induction es with
 | nil=>intro g g' s s' vs h n;cases h;exact⟨U,U,U⟩
 | cons e es ih =>
  intro g g' s s' vs h n;obtain⟨⟨v1,g1,s1⟩,e1,h⟩:=Option.bind_eq_some_iff.mp h;obtain⟨⟨vs2,g2,s2⟩,e2,h⟩:=oMS.mp h;cases h;obtain⟨_,a,b,d⟩:=iY e1 n;obtain⟨a2,b2,d2⟩:=ih e2 (by rw[b];exact n);exact⟨a2.trans a,b2.trans b,d2.trans d⟩
def iQ {s s':St} (h:s'.en≠some .long) (z:s.en≠none->s'.en=s.en/\s'.D=s.D):s.en≠some .long:=by
 intro c;exact h ((z (by rw[c];exact λe=>nomatch e)).1.trans c)
def QL (L V:List Int) (g:Env) (n:Nm) (W:List Tsk) (T:List Vl) (B:List (Bool×Vl)) (vs:List EV) (s:St) (S':MS):Prop :=
  ∃ B' xs,S'=⟨W,T++xs,s.D,none,s.left,B'⟩/\Ext (Pv V n) B B'/\Paired (VR B') vs xs/\ER B' L V g n/\Fit s
def uy {P:Nat->Prop} {B B':List (Bool×Vl)} {vs:List EV} {xs:List Vl} (h:Paired (VR B) vs xs) (e:Ext P B B'):Paired (VR B') vs xs:=by
 induction h with
 | nil=>exact .nil
 | cons z _ ih=>exact .cons (z.ext e) ih
def nP (I:Sim F f):∀ es g s vs g' s',eZ (evV F f) es g s=some (vs,g',s')->s.en=none->s'.en≠some .long->Fit s->∀ L V n W T B,(∀ e∈es,Ws L V e)->ER B L V g n->W.length+es.length+12*f<=15000->T.length+es.length+12*f<=15000 ->
 Out F (cfg (W++bgs es n) T s B) s' (QL L V g' n W T B vs s'):=by
 intro es
 induction es with
 | nil =>
  intro g s vs g' s' h n nl ft L V nm W T B ws er _ _;cases h;exact .inl ⟨n,_,.refl,B,[],by unfold cfg bgs;simp[n],.refl,.nil,er,ft⟩
 | cons e es ih =>
  intro g s vs g' s' h n nl ft L V nm W T B ws er z1 z2;obtain⟨⟨v1,g1,s1⟩,e1,h⟩:=Option.bind_eq_some_iff.mp h;obtain⟨⟨vs2,g2,s2⟩,e2,h⟩:=oMS.mp h;cases h;have zz:s1.en≠none->s'.en=s1.en/\s'.D=s1.D:=λc=>(nS e2 c).2;rw[List.length_cons] at z1 z2;have lb:(bgs es nm).length=es.length:=by unfold bgs;rw[lMp,List.length_reverse]
  have o1:=I e g s v1 g1 s1 e1 n (iQ nl zz) ft L V nm (W++bgs es nm) T B (ws e mCS) er (by rw[lAp,lb];omega) ∅;have eb:W++bgs (e::es) nm=W++bgs es nm++[⟨"begin",e,nm,0⟩]:=by unfold bgs;simp
  rw[eb];refine o1.bind (λhn S' q=>?_) zz;obtain⟨B1,x,rfl,x1,x2,x3,x4⟩:=q;refine (ih g1 s1 vs2 g' s' e2 hn nl x4 L V nm W (T++[x]) B1 (λe he=>ws e (mCM _ he)) x3 ∅ (by rw[lAp];simp only[List.length_cons,List.length_nil];omega)).imp λ_ S' q=>?_;obtain⟨B2,xs,rfl,y1,y2,y3,y4⟩:=q;exact⟨B2,x::xs,by simp,x1.trans y1,.cons (x2.ext y1) y2,y3,y4⟩
variable {F:List Fun} {f:Nat}
def At (F:List Fun) (e:Ex) (n:Nm) (W:List Tsk) (T:List Vl) (s:St) (B:List (Bool×Vl)) (s':St) (Q:MS->Prop):Prop:=Out F (cfg (W++[⟨"finish",e,n,(eK e).length⟩]++bgs (eK e) n) T s B) s' Q
def Out.fin {e:Ex} {n:Nm} {xs:List Vl} {W:List Tsk} {T:List Vl} {s s':St} {B:List (Bool×Vl)} {S':MS} {Q:MS->Prop} (h:Fin F e n xs (cfg W T s B) S') (o:Out F S' s' Q) (z1:W.length<=15000) (z2:(T++xs).length<=16000) (ft:Fit s) {c:Nat} (hc:c=xs.length) :
 Out F (cfg (W++[⟨"finish",e,n,c⟩]) (T++xs) s B) s' Q:=by
 subst hc;exact .step ⟨by show (W++[_]).length<=_;rw[lAp];simp only[List.length_cons,List.length_nil];omega,by show (T++xs).length<=_;omega,by have:=ft.d;show s.D.length<=_;omega⟩ (.fin U U U h) o
def Out.bg {e:Ex} {n:Nm} {W:List Tsk} {T:List Vl} {s s':St} {B:List (Bool×Vl)} {Q:MS->Prop} (o:At F e n W T s B s' Q) (z1:W.length<=15000) (z2:T.length<=15000) (ft:Fit s):Out F (cfg (W++[⟨"begin",e,n,0⟩]) T s B) s' Q:=by
 refine .step ⟨by show (W++[_]).length<=_;rw[lAp];simp only[List.length_cons,List.length_nil];omega,by show T.length<=_;omega,by have:=ft.d;show s.D.length<=_;omega⟩ (.bg U U) ?_;have e0:W++⟨"finish",e,n,(eK e).length⟩::bgs (eK e) n=W++[⟨"finish",e,n,(eK e).length⟩]++bgs (eK e) n:=by simp
 show Out F ⟨W++⟨"finish",e,n,(eK e).length⟩::bgs (eK e) n,T,s.D,none,s.left,B⟩ s' Q;rw[e0];exact o
def dD {L V:List Int} {g:Env} {n:Nm} {W:List Tsk} {T:List Vl} {B B':List (Bool×Vl)} {v:EV} {x:Vl} {s:St} (hn:s.en=none) (h1:Ext (Pv V n) B B') (h2:VR B' v x) (h3:ER B' L V g n) (h4:Fit s):Out F (tel (cfg W T s B') x) s (QE L V g n W T B v s) :=
 .inl ⟨hn,_,.refl,B',x,U,h1,h2,h3,h4⟩
def cO (I:Sim F f) {e a:Ex} (ha:eK e=[a]) {g g1:Env} {s s1 s':St} {v1:EV} (h:evV F f g s a=some (v1,g1,s1)) (n:s.en=none) (nl:s'.en≠some .long) (z:s1.en≠none->s'.en=s1.en/\s'.D=s1.D) (ft:Fit s) {L V:List Int} {nm:Nm} {W:List Tsk} {T:List Vl} {B:List (Bool×Vl)} (ws:Ws L V a) (er:ER B L V g nm)
 (z1:W.length+12*(f+1)<=15000) (z2:T.length+12*(f+1)<=15000) {Q:MS->Prop}
 (k:s1.en=none->Fit s1->∀ B1 x,Ext (Pv V nm) B B1->VR B1 v1 x->ER B1 L V g1 nm->∃ S',Fin F e nm [x] (cfg W T s1 B1) S'/\Out F S' s' Q):At F e nm W T s B s' Q:=by
 unfold At;rw[ha];have o1:=I a g s v1 g1 s1 h n (iQ nl z) ft L V nm (W++[⟨"finish",e,nm,1⟩]) T B ws er (by rw[lAp];simp only[List.length_cons,List.length_nil];omega) ∅;refine o1.bind (λhn S' q=>?_) z;obtain⟨B1,x,rfl,x1,x2,x3,x4⟩:=q;obtain⟨S',hS,o⟩:=k hn x4 B1 x x1 x2 x3;exact Out.fin hS o ∅ (by rw[lAp];simp only[List.length_cons,List.length_nil];omega) x4 rfl
variable {F:List Fun} {f:Nat}
section
variable {L V:List Int} {n:Nm} {W:List Tsk} {T:List Vl} {B:List (Bool×Vl)} {g g':Env} {s s':St} {v:EV}
def eE {e:Ex} {S':MS} {Q:MS->Prop} (ha:eK e=[]) (h:Fin F e n [] (cfg W T s B) S') (o:Out F S' s' Q) (z1:W.length<=15000) (z2:T.length<=15000) (ft:Fit s):At F e n W T s B s' Q:=by
 unfold At;rw[ha];have:=Out.fin (T:=T) h o z1 (by rw[List.append_nil];omega) ft rfl;rw[List.append_nil] at this;show Out F (cfg (W++[_]++[]) T s B) s' Q;rw[List.append_nil];exact this
def yM {i:Int} (hn:s.en=none) (ft:Fit s) (er:ER B L V g n) (z1:W.length<=15000) (z2:T.length<=15000):At F (.num i) n W T s B s (QE L V g n W T B (.int i) s) :=
 eE rfl .num (dD hn .refl (.int i) er ft) z1 z2 ft
def yO {x:Int} (h:g.lookup x=some v) (hx:x∈L\/x∈V) (hn:s.en=none) (ft:Fit s) (er:ER B L V g n) (z1:W.length<=15000) (z2:T.length<=15000):At F (.nam x) n W T s B s (QE L V g n W T B v s):=by
 have q:∃ k fl m,n.lookup x=some k/\B[k]?=some (fl,m)/\VR B v m:=by
  rcases hx with hx | hx
  · obtain⟨v',k,m,a,b,d,e⟩:=er.l x hx;rw[h] at a;cases a;exact⟨k,_,m,b,d,e⟩
  · obtain⟨v',k,m,a,b,d,e⟩:=er.v x hx;rw[h] at a;cases a;exact⟨k,_,m,b,d,e⟩
 obtain⟨k,fl,m,b,d,e⟩:=q;exact eE U (.nam b d) (dD hn .refl e er ft) z1 z2 ft
def BD {ids:List Int} {a:Ex} (ws:Ws L V (.fn ids a)) (hn:s.en=none) (ft:Fit s) (er:ER B L V g n) (z1:W.length<=15000) (z2:T.length<=15000):At F (.fn ids a) n W T s B s (QE L V g n W T B (.fn ids a g) s):=by
 cases ws with
 | fn h1 h2 h3 =>
  refine eE U .fn (dD hn .refl ?_ er ft) z1 z2 ft
  classical
  let ge:Int->EV:=λx=>(g.lookup x).getD (.int 0)
  let gm:Int->Vl:=λx=>((n.lookup x).bind λk=>(B[k]?).map Prod.snd).getD (.int 0)
  have q:∀ x∈L,g.lookup x=some (ge x)/\(∃ k,n.lookup x=some k/\B[k]?=some (false,gm x))/\VR B (ge x) (gm x):=by
   intro x hx;obtain⟨v',k,m,a1,b,d,e⟩:=er.l x hx;have e1:ge x=v':=by show (g.lookup x).getD _=_;rw[a1];rfl
   have e2:gm x=m:=by show ((n.lookup x).bind _).getD _=_;rw[b];show ((B[k]?).map Prod.snd).getD _=_;rw[d];rfl
   rw[e1,e2];exact⟨a1,⟨k,b,d⟩,e⟩
  exact .fn ge gm (λx hx=>(q x hx).1) (λx hx=>(q x hx).2.1) (λx hx=>(q x hx).2.2) h1 h2 h3 er.d
def yR {w:Str} {Q:MS->Prop} (hn:s.en=none) (ft:Fit s) (z1:W.length<=15000) (z2:T.length<=15000):At F (.flt w) n W T s B (bV s (.flt w)) Q:=by
 refine eE U .flt (.inr ⟨?_,_,.refl,?_,?_⟩) z1 z2 ft
 · unfold bV;rw[hn];exact λh=>nomatch h
 · unfold bV;rw[hn];rfl
 · unfold bV;rw[hn];rfl
def yT (I:Sim F f) {w:Bool} {x:Int} {a b:Ex} (h:evB F (f+1) g s x a b=some (v,g',s')) (hn:s.en=none) (nl:s'.en≠some .long) (ft:Fit s) (ws:Ws L V (.bnd w x a b)) (er:ER B L V g n) (z1:W.length+12*(f+1)<=15000) (z2:T.length+12*(f+1)<=15000) :
 At F (.bnd w x a b) n W T s B s' (QE L V g' n W T B v s'):=by
 obtain⟨⟨v1,g1,s1⟩,e1,h⟩:=Option.bind_eq_some_iff.mp h;have zz:s1.en≠none->s'.en=s1.en/\s'.D=s1.D:=λc=>(iY h c).2.2;cases ws with
 | lt wa n1 n2 wb =>
  refine cO I U e1 hn nl zz ft wa er z1 z2 λhn1 ft1 B1 y x1 x2 x3=>⟨_,.bnd,?_⟩;have o:=I b (put g1 x v1) s1 v g' s' h hn1 nl ft1 (x::L) V ((x,B1.length)::n) W T (B1++[(false,y)]) wb (x3.lt n1 n2 x2) ∅ ∅;refine o.imp λ_ S' q=>?_;obtain⟨B2,z,rfl,y1,y2,y3,y4⟩:=q;refine⟨B2,z,U,x1.trans ((Ext.app [(false,y)]).trans (y1.imp λk hk ⟨u,hu,q⟩=>⟨u,hu,?_⟩)),y2,y3.pop (b:=0) n1 n2 (λ_ h=>mCM _ h) (λ_ h=>h),y4⟩;rw[aY,if_neg (λe:u=x=>n2 (e▸hu))] at q;exact q
 | vr wa n1 n2 wb =>
  refine cO I U e1 hn nl zz ft wa er z1 z2 λhn1 ft1 B1 y x1 x2 x3=>⟨_,.bnd,?_⟩;have o:=I b (put g1 x v1) s1 v g' s' h hn1 nl ft1 L (x::V) ((x,B1.length)::n) W T (B1++[(true,y)]) wb (x3.vr n1 n2 x2) ∅ ∅;refine o.imp λ_ S' q=>?_;obtain⟨B2,z,rfl,y1,y2,y3,y4⟩:=q;refine⟨B2,z,U,x1.trans ?_,y2,y3.pop (b:=0) n1 n2 (λ_ h=>h) (λ_ h=>mCM _ h),y4⟩;have q:∀ k,k<B1.length->Pv (x::V) ((x,B1.length)::n) k->Pv V n k:=by
   rintro k hk ⟨u,hu,q⟩
   rcases List.mem_cons.mp hu with rfl | hu
   · rw[aY,if_pos U] at q;cases q;exact absurd hk (Nat.lt_irrefl _)
   · rw[aY,if_neg (λe:u=x=>n2 (e▸hu))] at q;exact⟨u,hu,q⟩
  exact ((Ext.app [(true,y)]).trans y1).imp q
end
variable {F:List Fun} {f:Nat}
section
variable {L V:List Int} {n:Nm} {W:List Tsk} {T:List Vl} {B:List (Bool×Vl)} {g g':Env} {s s':St} {v:EV}
def fQ {S:MS} {w:En} {Q:MS->Prop} (hn:s.en=none) (hD:S.D=s.D):Out F (flt S w) (bV s w) Q:=by
 refine .inr ⟨?_,_,.refl,?_,?_⟩
 · unfold bV;rw[hn];exact λh=>nomatch h
 · unfold bV;rw[hn];rfl
 · unfold bV;rw[hn];exact hD
def uk {k:Nat} {u:Vl} {x:Vl} {P:Nat->Prop} (h:B[k]?=some (true,u)) (hp:P k):Ext P B (B.set k (true,x)):=by
 have hk:=(gES.mp h).1;refine⟨by rw[List.length_set];exact Nat.le_refl _,λj w z=>?_,λj w z np=>?_,λj w z=>?_⟩
 · by_cases e:k=j
   · subst e;rw[h] at z;cases z
   · rw[List.getElem?_set_ne e];exact z
 · by_cases e:k=j
   · subst e;exact absurd hp np
   · rw[List.getElem?_set_ne e];exact z
 · by_cases e:k=j
   · subst e;exact⟨x,by rw[List.getElem?_set_self hk]⟩
   · exact⟨w,by rw[List.getElem?_set_ne e];exact z⟩
def yJ (I:Sim F f) {x:Int} {a:Ex} (h:evO F (f+1) g s (.set x a)=some (v,g',s')) (hn:s.en=none) (nl:s'.en≠some .long) (ft:Fit s) (ws:Ws L V (.set x a)) (er:ER B L V g n) (z1:W.length+12*(f+1)<=15000) (z2:T.length+12*(f+1)<=15000) :
 At F (.set x a) n W T s B s' (QE L V g' n W T B v s'):=by
 obtain⟨⟨v1,g1,s1⟩,e1,h⟩:=oMS.mp h;cases h;cases ws with
 | set hx dj wa =>
  refine cO I U e1 hn nl (λ_=>⟨U,U⟩) ft wa er z1 z2 λhn1 ft1 B1 y x1 x2 x3=>?_;obtain⟨v',k,m,a1,b,d,e⟩:=x3.v x hx;have xx:Ext (Pv V n) B1 (B1.set k (true,y)):=uk d ⟨x,hx,b⟩;refine⟨_,.set b d,dD hn1 (x1.trans xx) (x2.ext xx) ⟨x3.d.mono xx.le,λu hu=>?_,λu hu=>?_⟩ ft1⟩
  · obtain⟨w,k2,m2,q1,q2,q3,q4⟩:=x3.l u hu;exact⟨w,k2,m2,by rw[cj,if_neg (λe:u=x=>dj (e▸hu))];exact q1,q2,xx.lt _ _ q3,q4.ext xx⟩
  · by_cases e:u=x
    · subst e;exact⟨v1,k,y,by rw[cj,if_pos U],b,by show (B1.set k (true,y))[k]?=_;rw[List.getElem?_set_self (gES.mp d).1],x2.ext xx⟩
    · obtain⟨w,k2,m2,q1,q2,q3,q4⟩:=x3.v u hu;have nk:k≠k2:=λc=>e (Dec.inj x3.d q2 (c▸b));exact⟨w,k2,m2,by rw[cj,if_neg e];exact q1,q2,by show (B1.set k (true,y))[k2]?=_;rw[List.getElem?_set_ne nk];exact q3,q4.ext xx⟩
def yL (I:Sim F f) {a:Ex} (h:evO F (f+1) g s (.say a)=some (v,g',s')) (hn:s.en=none) (nl:s'.en≠some .long) (ft:Fit s) (ws:Ws L V a) (er:ER B L V g n) (z1:W.length+12*(f+1)<=15000) (z2:T.length+12*(f+1)<=15000) :
 At F (.say a) n W T s B s' (QE L V g' n W T B v s'):=by
 obtain⟨⟨v1,g1,s1⟩,e1,h⟩:=Option.bind_eq_some_iff.mp h;dsimp only at h;have zz:s1.en≠none->s'.en=s1.en/\s'.D=s1.D:=λc=>by
  rw[if_pos (Option.isSome_iff_ne_none.mpr c)] at h;cases h;exact⟨U,U⟩
 refine cO I U e1 hn nl zz ft ws er z1 z2 λhn1 ft1 B1 y x1 x2 x3=>⟨_,.say,?_⟩;rw[if_neg (by rw[hn1];exact λh=>nomatch h)] at h;by_cases l1:s1.D.length<5000
 · rw[if_pos l1] at h;cases h;rw[x2.wth.2.2];exact .inl ⟨hn1,_,.refl,B1,y,U,x1,x2,x3,⟨by show (s1.D++[_]).length<=5000;rw[lAp];exact l1⟩⟩
 · rw[if_neg l1] at h;cases h
def yQ (I:Sim F f) {r i:Int} {a:Ex} (h:evG F (f+1) g s r i a=some (v,g',s')) (hn:s.en=none) (nl:s'.en≠some .long) (ft:Fit s) (ws:Ws L V a) (er:ER B L V g n) (z1:W.length+12*(f+1)<=15000) (z2:T.length+12*(f+1)<=15000) :
 At F (.get r i a) n W T s B s' (QE L V g' n W T B v s'):=by
 obtain⟨⟨v1,g1,s1⟩,e1,h⟩:=Option.bind_eq_some_iff.mp h;have zz:s1.en≠none->s'.en=s1.en/\s'.D=s1.D:=λc=>by
  dsimp only at h;rw[if_pos (Option.isSome_iff_ne_none.mpr c)] at h;cases h;exact⟨U,U⟩
 refine cO I U e1 hn nl zz ft ws er z1 z2 λhn1 ft1 B1 y x1 x2 x3=>?_;dsimp only at h;rw[if_neg (by rw[hn1];exact λh=>nomatch h)] at h;cases x2 with
 | int j=>cases h;exact⟨_,.getF (λys c=>nomatch c),fQ hn1 U⟩
 | row j=>cases h;exact⟨_,.getF (λys c=>nomatch c),fQ hn1 U⟩
 | fn _ _ _ _ _ _ _ _ _=>cases h;exact⟨_,.getF (λys c=>nomatch c),fQ hn1 U⟩
 | rcd hl hh =>
  rename_i r1 xs ys
  dsimp only at h;by_cases e:r1=r
  · subst e;rw[if_pos U] at h;by_cases e0:0<=i
    · rw[if_pos e0] at h;obtain⟨u,e2,h⟩:=oMS.mp h;cases h;have lt:=(gES.mp e2).1;have ey:ys[i.toNat]?=some ys[i.toNat]:=gEE (hl▸lt);exact⟨_,.get e0 ey,dD hn1 x1 (hh _ _ _ e2 ey) x3 ft1⟩
    · rw[if_neg e0] at h;cases h
  · rw[if_neg e] at h;cases h;exact⟨_,.getF (λys c=>by cases c;exact e U),fQ hn1 U⟩
def yP (I:Sim F f) {a b d:Ex} (h:evO F (f+1) g s (.ite a b d)=some (v,g',s')) (hn:s.en=none) (nl:s'.en≠some .long) (ft:Fit s) (wa:Ws L V a) (wb:Ws L V b) (wd:Ws L V d) (er:ER B L V g n) (z1:W.length+12*(f+1)<=15000) (z2:T.length+12*(f+1)<=15000) :
 At F (.ite a b d) n W T s B s' (QE L V g' n W T B v s'):=by
 obtain⟨⟨v1,g1,s1⟩,e1,h⟩:=Option.bind_eq_some_iff.mp h;have zz:s1.en≠none->s'.en=s1.en/\s'.D=s1.D:=λc=>(iY h c).2.2;refine cO I U e1 hn nl zz ft wa er z1 z2 λhn1 ft1 B1 y x1 x2 x3=>⟨_,.ite,?_⟩;rw[x2.wth.1];refine (I _ g1 s1 v g' s' h hn1 nl ft1 L V n W T B1 (by split <;> assumption) x3 ∅ ∅).imp λ_ S' q=>?_;obtain⟨B2,z,rfl,y1,y2,y3,y4⟩:=q;exact⟨B2,z,U,x1.trans y1,y2,y3,y4⟩
end
variable {F:List Fun} {f:Nat}
section
variable {L V:List Int} {n:Nm} {W:List Tsk} {T:List Vl} {B:List (Bool×Vl)} {g g':Env} {s s':St} {v:EV}
def tI {a b:Ex}:∀ {c:Nat} {g g':Env} {s s':St},iA (λg s=>evH F (f+1) g s a) (evV F (f+1)) b c g s=some (g',s')->s.en≠none->s'.en=s.en/\s'.D=s.D:=by
 intro c g g' s s' h n;cases c with
 | zero=>cases h
 | succ c =>
  obtain⟨⟨t,g1,s1⟩,e1,h⟩:=Option.bind_eq_some_iff.mp h;obtain⟨⟨v2,g2,s2⟩,e2,e1⟩:=oMS.mp e1;cases e1;obtain⟨_,_,q1,q2⟩:=iY e2 n;have z:(s1.en.isNone&&decide (aZ v2≠0))=false:=by
   rw[q1];cases e:s.en with
   | none=>exact absurd e n
   | some w=>rfl
  dsimp only at h;rw[if_pos z] at h;cases h;exact⟨q1,q2⟩
def dX {s:St} (hn:s.en=none) (h:s.left=0):(cb s).1=false/\(cb s).2.en=some .dry/\(cb s).2.D=s.D:=by
 unfold cb bV;rw[if_pos h,hn];exact⟨U,U,U⟩
def fJ {s:St} (hn:s.en=none) (h:s.left≠0):(cb s).1=true/\(cb s).2={s with left:=s.left-1}:=by
 unfold cb;rw[if_neg h];exact⟨by show s.en.isNone=true;rw[hn];rfl,U⟩
def qp (I0:Sim F f) (I:Sim F (f+1)) {a b:Ex} (wa:Ws L V a) (wb:Ws L V b) (z1:W.length+12*(f+2)<=15000) (z2:T.length+12*(f+2)<=15000):∀ (c:Nat) (g g':Env) (s s':St) (B:List (Bool×Vl)),iA (λg s=>evH F (f+1) g s a) (evV F (f+1)) b c g s=some (g',s')->s.en=none->s'.en≠some .long->Fit s->ER B L V g n ->
 At F (.whl a b) n W T s B s' (QE L V g' n W T B (.int 0) s'):=by
 intro c
 induction c with
 | zero=>intro g g' s s' B h;cases h
 | succ c ih =>
  intro g g' s s' B h hn nl ft er;obtain⟨⟨t,g1,s1⟩,e1,h⟩:=Option.bind_eq_some_iff.mp h;obtain⟨⟨v2,g2,s2⟩,e2,e1⟩:=oMS.mp e1;cases e1;dsimp only at h;have zz:s1.en≠none->s'.en=s1.en/\s'.D=s1.D:=λcc=>by
   have z:(s1.en.isNone&&decide (aZ v2≠0))=false:=by
    cases e:s1.en with
    | none=>exact absurd e cc
    | some w=>rfl
   rw[if_pos z] at h;cases h;exact⟨U,U⟩
  refine cO I0 U e2 hn nl zz ft wa er ∅ ∅ λhn1 ft1 B1 y x1 x2 x3=>?_;by_cases e0:aZ v2=0
  · rw[if_pos (by rw[hn1];simp[e0])] at h;cases h;exact⟨_,.wh0 (by rw[x2.wth.1];exact e0),dD hn1 x1 (.int 0) x3 ft1⟩
  · rw[if_neg (by rw[hn1];simp[e0])] at h;by_cases el:s1.left=0
    · obtain⟨t1,t2,t3⟩:=dX hn1 el;rw[if_pos t1] at h;cases h;exact⟨_,.whd (by rw[x2.wth.1];exact e0) el,Or.inr ⟨(by rw[t2];exact λh=>nomatch h),⟨_,Rn.refl,t2.symm,t3.symm⟩⟩⟩
    · obtain⟨t1,t2⟩:=fJ hn1 el;rw[if_neg (by rw[t1];exact λh=>nomatch h),t2] at h;obtain⟨⟨v3,g3,s3⟩,e3,h⟩:=Option.bind_eq_some_iff.mp h;dsimp only at h;have z3:s3.en≠none->s'.en=s3.en/\s'.D=s3.D:=λcc=>tI h cc;refine⟨_,.wh1 (by rw[x2.wth.1];exact e0) el,?_⟩;have o:=I b g1 {s1 with left:=s1.left-1} v3 g3 s3 e3 hn1 (iQ nl z3) ⟨ft1.d⟩ L V n (W++[⟨"again",.whl a b,n,1⟩]) T B1 wb x3 (by rw[lAp];simp only[List.length_cons,List.length_nil];omega) ∅;refine o.bind (λhn3 S' q=>?_) z3;obtain⟨B2,z,rfl,y1,y2,y3,y4⟩:=q;refine .step ⟨by show (W++[_]).length<=_;rw[lAp];simp only[List.length_cons,List.length_nil];omega,by show (T++[_]).length<=_;rw[lAp];simp only[List.length_cons,List.length_nil];omega,by have:=y4.d;show s3.D.length<=_;omega⟩ (.again U U U) ?_;refine Out.bg (F:=F) (s:=s3) ((ih g3 g' s3 s' B2 h hn3 nl y4 y3).imp λ_ S' q=>?_) (show W.length<=15000 by omega) (show T.length<=15000 by omega) y4;obtain⟨B3,x,rfl,w1,w2,w3,w4⟩:=q;exact⟨B3,x,U,(x1.trans y1).trans w1,w2,w3,w4⟩
def yI (I0:Sim F f) (I:Sim F (f+1)) {a b:Ex} (h:evW F (f+2) g s a b=some (v,g',s')) (hn:s.en=none) (nl:s'.en≠some .long) (ft:Fit s) (wa:Ws L V a) (wb:Ws L V b) (er:ER B L V g n) (z1:W.length+12*(f+2)<=15000) (z2:T.length+12*(f+2)<=15000) :
 At F (.whl a b) n W T s B s' (QE L V g' n W T B v s'):=by
 obtain⟨⟨g1,s1⟩,e1,h⟩:=oMS.mp h;cases h;exact qp I0 I wa wb z1 z2 12 g _ s _ B e1 hn nl ft er
end
variable {F:List Fun} {f:Nat}
section
variable {L V:List Int} {n:Nm} {W:List Tsk} {T:List Vl} {B:List (Bool×Vl)} {g g':Env} {s s':St} {v:EV}
def lJ {x:Int} {b:Ex}:∀ {is:List Int} {g g':Env} {s s':St},gN (evV F f) x b is g s=some (g',s')->s.en≠none->s'.en=s.en/\s'.D=s.D:=by
 intro is
 induction is with
 | nil=>intro g g' s s' h n;cases h;exact⟨U,U⟩
 | cons i is ih =>
  intro g g' s s' h n;obtain⟨⟨v1,g1,s1⟩,e1,h⟩:=Option.bind_eq_some_iff.mp h;obtain⟨_,_,q1,q2⟩:=iY e1 n;obtain⟨r1,r2⟩:=ih h (by show s1.en≠none;rw[q1];exact n);exact⟨r1.trans q1,r2.trans q2⟩
def ER.ltAt (h:ER B L V g n) {x:Int} (h1:x∉L) (h2:x∉V) {v:EV} {m:Vl} {k:Nat} (hb:B[k]?=some (false,m)) (r:VR B v m) (hd:Dec n k):ER B (x::L) V (put g x v) ((x,k)::n):=by
 have ne:∀ {y:Int} {l:List Int},x∉l->y∈l->y≠x:=λnx hy e=>nx (e▸hy);refine⟨⟨(gES.mp hb).1,hd⟩,λy hy=>?_,λy hy=>?_⟩
 · rcases List.mem_cons.mp hy with rfl | hy
   · exact⟨v,k,m,by rw[cj,if_pos U],by rw[aY,if_pos U],hb,r⟩
   · obtain⟨v',k',m,a,b,d,e⟩:=h.l y hy;exact⟨v',k',m,by rw[cj,if_neg (ne h1 hy)];exact a,by rw[aY,if_neg (ne h1 hy)];exact b,d,e⟩
 · obtain⟨v',k',m,a,b,d,e⟩:=h.v y hy;exact⟨v',k',m,by rw[cj,if_neg (ne h2 hy)];exact a,by rw[aY,if_neg (ne h2 hy)];exact b,d,e⟩
def QB (L V:List Int) (g:Env) (n:Nm) (W:List Tsk) (T:List Vl) (B:List (Bool×Vl)) (c:Nat) (s:St) (S':MS):Prop :=
  ∃ B' xs,S'=⟨W,T++xs,s.D,none,s.left,B'⟩/\Ext (Pv V n) B B'/\xs.length=c/\ER B' L V g n/\Fit s
def pY (I:Sim F f) {x:Int} {b:Ex} {k:Nat} (n1:x∉L) (n2:x∉V) (wb:Ws (x::L) V b) (hd:Dec n k):∀ (is:List Int) (g g':Env) (s s':St) (T:List Vl) (B:List (Bool×Vl)),gN (evV F f) x b is g s=some (g',s')->s.en=none->s'.en≠some .long->Fit s->ER B L V g n ->
 (∀ (j:Nat) (i:Int),is.reverse[j]?=some i->B[k+j]?=some (false,.int i))->W.length+is.length+12*f<=15000->T.length+is.length+12*f<=15000 ->
 Out F (cfg (W++eaS b x n k is) T s B) s' (QB L V g' n W T B is.length s'):=by
 intro is
 induction is with
 | nil =>
  intro g g' s s' T B h hn nl ft er hb _ _;cases h;exact .inl ⟨hn,_,.refl,B,[],by unfold cfg eaS;simp,.refl,U,er,ft⟩
 | cons i is ih =>
  intro g g' s s' T B h hn nl ft er hb z1 z2;obtain⟨⟨v1,g1,s1⟩,e1,h⟩:=Option.bind_eq_some_iff.mp h;have zz:s1.en≠none->s'.en=s1.en/\s'.D=s1.D:=λc=>lJ h c;rw[List.length_cons] at z1 z2;have ll:∀ l:List Int,(eaS b x n k l).length=l.length:=by
   intro l
   induction l with
   | nil=>rfl
   | cons _ l ih=>show (eaS b x n k l++[_]).length=_;rw[lAp,ih];rfl
  have hbi:B[k+is.length]?=some (false,.int i):=hb is.length i (by rw[List.reverse_cons,List.getElem?_append_right (by rw[List.length_reverse];exact Nat.le_refl _),List.length_reverse,Nat.sub_self];rfl);have o1:=I b (put g x (.int i)) s v1 g1 s1 e1 hn (iQ nl zz) ft (x::L) V ((x,k+is.length)::n) (W++eaS b x n k is) T B wb (er.ltAt n1 n2 hbi (.int i) (hd.mono (Nat.le_add_right _ _))) (by rw[lAp,ll];omega) ∅;have eb:W++eaS b x n k (i::is)=W++eaS b x n k is++[⟨"begin",b,(x,k+is.length)::n,0⟩]:=by
   show W++(eaS b x n k is++[_])=_;rw[List.append_assoc]
  rw[eb];refine o1.bind (λhn1 S' q=>?_) zz;obtain⟨B1,y,rfl,x1,x2,x3,x4⟩:=q;have x5:Ext (Pv V n) B B1:=x1.imp λk' hk ⟨u,hu,q⟩=>⟨u,hu,by rw[aY,if_neg (λe:u=x=>n2 (e▸hu))] at q;exact q⟩;refine (ih g1 g' s1 s' (T++[y]) B1 h hn1 nl x4 (x3.pop (b:=0) n1 n2 (λ_ h=>mCM _ h) (λ_ h=>h)) (λj i' hj=>x1.lt _ _ (hb j i' ?_)) ∅ (by rw[lAp];simp only[List.length_cons,List.length_nil];omega)).imp λ_ S' q=>?_
  · rw[List.reverse_cons,List.getElem?_append_left (gES.mp hj).1];exact hj
  · obtain⟨B2,xs,rfl,y1,y2,y3,y4⟩:=q;exact⟨B2,y::xs,by simp,x5.trans y1,by rw[List.length_cons,y2];rfl,y3,y4⟩
def vA (I:Sim F f) {x:Int} {a b:Ex} (h:evE F (f+1) g s x a b=some (v,g',s')) (hn:s.en=none) (nl:s'.en≠some .long) (ft:Fit s) (wa:Ws L V a) (n1:x∉L) (n2:x∉V) (wb:Ws (x::L) V b) (er:ER B L V g n) (z1:W.length+12*(f+1)<=15000) (z2:T.length+12*(f+1)<=15000) :
 At F (.each x a b) n W T s B s' (QE L V g' n W T B v s'):=by
 obtain⟨⟨v1,g1,s1⟩,e1,h⟩:=Option.bind_eq_some_iff.mp h;dsimp only at h;by_cases l8:(bC v1).length<=8
 · rw[if_pos l8] at h;obtain⟨⟨g2,s2⟩,e2,h⟩:=oMS.mp h;cases h;have zz:s1.en≠none->s'.en=s1.en/\s'.D=s1.D:=λc=>lJ e2 c;refine cO I U e1 hn nl zz ft wa er z1 z2 λhn1 ft1 B1 y x1 x2 x3=>⟨_,.each (by rw[x2.wth.2.1];exact l8),?_⟩;rw[x2.wth.2.1];have xa:Ext (Pv V n) B1 (B1++(bC v1).reverse.map λi=>(false,Vl.int i)):=.app _;have xb:Ext (λ_=>False) B1 (B1++(bC v1).reverse.map λi=>(false,Vl.int i)):=.app _;have o:=pY (W:=W++[⟨"over",.each x a b,n,(bC v1).length⟩]) I n1 n2 wb (n:=n) (k:=B1.length) x3.d (bC v1) g1 g' s1 s' T _ e2 hn1 nl ft1 (x3.ext xb) (λj i hj=>by
     rw[List.getElem?_append_right (Nat.le_add_right _ _),Nat.add_sub_cancel_left,gEM,hj];rfl) (by rw[lAp];simp only[List.length_cons,List.length_nil];omega) ∅
   have ew:W++⟨"over",.each x a b,n,(bC v1).length⟩::eaS b x n B1.length (bC v1)=W++[⟨"over",.each x a b,n,(bC v1).length⟩]++eaS b x n B1.length (bC v1):=by simp
   show Out F ⟨W++⟨"over",.each x a b,n,(bC v1).length⟩::eaS b x n B1.length (bC v1),T,s1.D,none,s1.left,_⟩ s' _;rw[ew];refine o.bind (λhn2 S' q=>?_) (λc=>⟨U,U⟩);obtain⟨B2,xs,rfl,y1,y2,y3,y4⟩:=q;rw[<- y2];refine .step ⟨by show (W++[_]).length<=_;rw[lAp];simp only[List.length_cons,List.length_nil];omega,by show (T++xs).length<=_;rw[lAp];omega,by have:=y4.d;show s'.D.length<=_;omega⟩ (.over U U U) ?_;exact dD (W:=W) (T:=T) hn2 ((x1.trans xa).trans y1) (.int 0) y3 y4
 · rw[if_neg l8] at h;cases h
end
variable {F:List Fun} {f:Nat}
section
variable {L V:List Int} {n:Nm} {W:List Tsk} {T:List Vl} {B:List (Bool×Vl)} {g g':Env} {s s':St} {v:EV}
def fL {vs:List EV} {xs:List Vl} (h:Paired (VR B) vs xs):vs.length=xs.length:=by
 induction h with
 | nil=>rfl
 | cons _ _ ih=>rw[List.length_cons,List.length_cons,ih]
def AC {vs:List EV} {xs:List Vl} (h:Paired (VR B) vs xs):xs.map wth=vs.map aZ/\xs.map rwo=vs.map bC:=by
 induction h with
 | nil=>exact⟨U,U⟩
 | cons z _ ih=>simp only[List.map_cons,z.wth.1,z.wth.2.1,ih.1,ih.2];exact⟨trivial,trivial⟩
def rj {vs:List EV} {xs:List Vl} (h:Paired (VR B) vs xs):∀ (i:Nat) (x:EV) (y:Vl),vs[i]?=some x->xs[i]?=some y->VR B x y:=by
 induction h with
 | nil=>intro i x y e;cases e
 | cons z _ ih =>
  intro i x y e1 e2;cases i with
  | zero=>cases e1;cases e2;exact z
  | succ i=>exact ih i x y e1 e2
def rh {vs:List EV} {xs:List Vl} (h:Paired (VR B) vs xs):∀ {v:EV},vs.getLast?=some v->∃ ys y,xs=ys++[y]/\VR B v y:=by
 induction h with
 | nil=>intro v e;cases e
 | @cons a b as bs z r ih =>
  intro v e;cases as with
  | nil=>cases r;cases e;exact⟨[],b,U,z⟩
  | cons c cs =>
   rw[List.getLast?_cons_cons] at e;obtain⟨ys,y,rfl,q⟩:=ih e;exact⟨b::ys,y,U,q⟩
def eJ (I:Sim F f) {e:Ex} {es:List Ex} (ha:eK e=es) {g1:Env} {s1:St} {vs:List EV} (h:evL F (f+1) g s es=some (vs,g1,s1)) (hn:s.en=none) (nl:s'.en≠some .long) (z:s1.en≠none->s'.en=s1.en/\s'.D=s1.D) (ft:Fit s) (ws:∀ e∈es,Ws L V e) (er:ER B L V g n)
 (z1:W.length+12*(f+1)<=15000) (z2:T.length+12*(f+1)<=15000) {Q:MS->Prop}
 (k:s1.en=none->Fit s1->∀ B1 xs,Ext (Pv V n) B B1->Paired (VR B1) vs xs->ER B1 L V g1 n->vs.length=es.length->∃ S',Fin F e n xs (cfg W T s1 B1) S'/\Out F S' s' Q):At F e n W T s B s' Q:=by
 unfold At;rw[ha];have h:(if es.length<=9 then eZ (evV F f) es g s else none)=some (vs,g1,s1):=h;by_cases l9:es.length<=9
 · rw[if_pos l9] at h;have ln:∀ (es:List Ex) (g g':Env) (s s':St) (vs:List EV),eZ (evV F f) es g s=some (vs,g',s')->vs.length=es.length:=by
    intro es
    induction es with
    | nil=>intro g g' s s' vs h;cases h;rfl
    | cons e es ih =>
     intro g g' s s' vs h;obtain⟨r,_,h⟩:=Option.bind_eq_some_iff.mp h;obtain⟨⟨vs2,g2,s2⟩,e2,h⟩:=oMS.mp h;cases h;rw[List.length_cons,List.length_cons,ih _ _ _ _ _ e2]
   have l0:=ln _ _ _ _ _ _ h;have o:=nP I es g s vs g1 s1 h hn (iQ nl z) ft L V n (W++[⟨"finish",e,n,es.length⟩]) T B ws er (by rw[lAp];simp only[List.length_cons,List.length_nil];omega) ∅;refine o.bind (λhn1 S' q=>?_) z;obtain⟨B1,xs,rfl,x1,x2,x3,x4⟩:=q;obtain⟨S',hS,o⟩:=k hn1 x4 B1 xs x1 x2 x3 l0;have lx:=fL x2;exact Out.fin hS o ∅ (by rw[lAp];omega) x4 (by rw[<- lx,l0])
 · rw[if_neg l9] at h;cases h
def yK (I:Sim F f) {es:List Ex} (h:evO F (f+2) g s (.seq es)=some (v,g',s')) (hn:s.en=none) (nl:s'.en≠some .long) (ft:Fit s) (ws:∀ e∈es,Ws L V e) (er:ER B L V g n) (z1:W.length+12*(f+1)<=15000) (z2:T.length+12*(f+1)<=15000) :
 At F (.seq es) n W T s B s' (QE L V g' n W T B v s'):=by
 obtain⟨⟨vs,g1,s1⟩,e1,h⟩:=Option.bind_eq_some_iff.mp h;obtain⟨u,e2,h⟩:=oMS.mp h;cases h;refine eJ (es:=es) I U e1 hn nl (λ_=>⟨U,U⟩) ft ws er z1 z2 λhn1 ft1 B1 xs x1 x2 x3 _=>?_;obtain⟨ys,y,rfl,q⟩:=rh x2 e2;exact⟨_,.seq,dD hn1 x1 q x3 ft1⟩
def yN (I:Sim F f) {r:Int} {es:List Ex} (h:evO F (f+2) g s (.new r es)=some (v,g',s')) (hn:s.en=none) (nl:s'.en≠some .long) (ft:Fit s) (ws:∀ e∈es,Ws L V e) (er:ER B L V g n) (z1:W.length+12*(f+1)<=15000) (z2:T.length+12*(f+1)<=15000) :
 At F (.new r es) n W T s B s' (QE L V g' n W T B v s'):=by
 obtain⟨⟨vs,g1,s1⟩,e1,h⟩:=oMS.mp h;cases h;exact eJ (es:=es) I U e1 hn nl (λ_=>⟨U,U⟩) ft ws er z1 z2 λhn1 ft1 B1 xs x1 x2 x3 _=>⟨_,.new,dD hn1 x1 (.rcd (fL x2) (rj x2)) x3 ft1⟩
def BC (I:Sim F f) {w:Str} {es:List Ex} (h:evO F (f+2) g s (.op w es)=some (v,g',s')) (hn:s.en=none) (nl:s'.en≠some .long) (ft:Fit s) (ws:∀ e∈es,Ws L V e) (er:ER B L V g n) (z1:W.length+12*(f+1)<=15000) (z2:T.length+12*(f+1)<=15000) :
 At F (.op w es) n W T s B s' (QE L V g' n W T B v s'):=by
 have h:(if opA w es.length=true then (evL F (f+1) g s es).bind _ else none)=some (v,g',s'):=h;by_cases l8:opA w es.length=true
 · rw[if_pos l8] at h;obtain⟨⟨vs,g1,s1⟩,e1,h⟩:=Option.bind_eq_some_iff.mp h;dsimp only at h;have zz:s1.en≠none->s'.en=s1.en/\s'.D=s1.D:=λc=>by
    rw[if_pos (Option.isSome_iff_ne_none.mpr c)] at h;cases h;exact⟨U,U⟩
   refine eJ (es:=es) I U e1 hn nl zz ft ws er z1 z2 λhn1 ft1 B1 xs x1 x2 x3 le=>?_;rw[if_neg (by rw[hn1];exact λh=>nomatch h)] at h;obtain⟨p1,p2⟩:=AC x2;have l8:opA w xs.length=true:=by rw[<- fL x2,le];exact l8
   by_cases sm:vs.all (λv=>decide (Sml (aZ v))&&decide ((bC v).length<=8))=true
   · rw[if_pos sm,<- p1,<- p2] at h;have hs:∀ x∈xs,Sml (wth x)/\(rwo x).length<=8:=by
      intro x hx;obtain⟨i,hi⟩:=List.mem_iff_getElem?.mp hx;have lt:=(gES.mp hi).1;have ev:vs[i]?=some (vs[i]'(by rw[fL x2];exact lt)):=gEE _;have r:=rj x2 i _ _ ev hi;have q:=List.all_eq_true.mp sm _ (mGE ev);rw[Bool.and_eq_true,decide_eq_true_iff,decide_eq_true_iff] at q;rw[r.wth.1,r.wth.2.1];exact q
     cases eo:opR w (xs.map wth) (xs.map rwo) with
     | int i =>
      rw[eo] at h;cases h;refine⟨_,.op l8 hs (λf c=>by rw[eo] at c;cases c),?_⟩;rw[eo];exact dD hn1 x1 (.int i) x3 ft1
     | row is =>
      rw[eo] at h;cases h;refine⟨_,.op l8 hs (λf c=>by rw[eo] at c;cases c),?_⟩;rw[eo];exact dD hn1 x1 (.row is) x3 ft1
     | flt w2 =>
      rw[eo] at h;cases h;exact⟨_,.opF l8 hs eo,fQ hn1 U⟩
   · rw[if_neg sm] at h;cases h
 · rw[if_neg l8] at h;cases h
end
variable {F:List Fun} {f:Nat}
section
variable {L V:List Int} {n:Nm} {W:List Tsk} {T:List Vl} {B:List (Bool×Vl)} {g g':Env} {s s':St} {v:EV}
def ER.nms:∀ (ids:List Int) (vs:List EV) (xs:List Vl) {B:List (Bool×Vl)} {L V:List Int} {g:Env} {n:Nm},ER B L V g n->ids.Nodup->(∀ x∈ids,x∉L)->(∀ x∈ids,x∉V)->Paired (VR B) vs xs->ids.length=vs.length->∀ L',(∀ y∈L',y∈ids\/y∈L)->ER (B++xs.map λy=>(false,y)) L' V (dI g ids vs) (nms n B.length ids):=by
 intro ids
 induction ids with
 | nil =>
  intro vs xs B L V g n er _ _ _ p hl L' hL;cases p with
  | nil =>
   show ER (B++[]) L' V g n;rw[List.append_nil];exact⟨er.d,λy hy=>er.l y ((hL y hy).resolve_left (λh=>nomatch h)),er.v⟩
  | cons _ _=>cases hl
 | cons x ids ih =>
  intro vs xs B L V g n er nd h1 h2 p hl L' hL;cases p with
  | nil=>cases hl
  | @cons v m vs xs z r =>
   obtain⟨d1,d2⟩:=List.nodup_cons.mp nd;have q:=ih vs xs (er.lt (h1 x mCS) (h2 x mCS) z) d2 (λy hy c=>by
     rcases List.mem_cons.mp c with rfl | c
     · exact d1 hy
     · exact h1 y (mCM _ hy) c) (λy hy=>h2 y (mCM _ hy)) (uy (P:=λ_=>False) r (.app _)) (Nat.succ.inj hl) L' (λy hy=>by
     rcases hL y hy with c | c
     · rcases List.mem_cons.mp c with rfl | c
       · exact .inr mCS
       · exact .inl c
     · exact .inr (mCM _ c))
   have e1:(B++[(false,m)])++xs.map (λy=>(false,y))=B++(m::xs).map λy=>(false,y):=by simp
   have e2:(B++[(false,m)]).length=B.length+1:=by rw[lAp];rfl
   rw[e1,e2] at q;exact q
def jo (c:Nat):((List.range c).map Int.ofNat).Nodup:=List.pairwise_map.mpr (List.nodup_range.imp λh e=>h (Int.ofNat.inj e))
def sI (I:Sim F f) {e:Ex} {g0 g2:Env} {n0:Nm} {L0:List Int} {B1 B2:List (Bool×Vl)} {s1:St} (h:evV F f g0 s1 e=some (v,g2,s')) (hn:s1.en=none) (nl:s'.en≠some .long) (ft:Fit s1) (ws:Ws L0 [] e) (er0:ER B2 L0 [] g0 n0) (x1:Ext (Pv V n) B B1) (x2:Ext (λ_=>False) B1 B2) (er:ER B1 L V g' n)
 (z1:W.length+12*f<=15000) (z2:T.length+12*f<=15000):Out F (bgn (cfg W T s1 B2) e n0) s' (QE L V g' n W T B v s'):=by
 refine (I e g0 s1 v g2 s' h hn nl ft L0 [] n0 W T B2 ws er0 z1 z2).imp λ_ S' q=>?_;obtain⟨B3,z,rfl,y1,y2,y3,y4⟩:=q;have y5:Ext (λ_=>False) B2 B3:=y1.imp λk _ ⟨u,hu,_⟩=>nomatch hu;exact⟨B3,z,U,x1.trans ((x2.trans y5).imp λ_ _ c=>c.elim),y2,er.ext (x2.trans y5),y4⟩
def yS (I0:Sim F f) (I:Sim F (f+1)) (FW:∀ fn∈F,Ws ((List.range fn.ct).map Int.ofNat) [] fn.bd) {k:Int} {es:List Ex} (h:evC F (f+2) g s k es=some (v,g',s')) (hn:s.en=none) (nl:s'.en≠some .long) (ft:Fit s) (ws:∀ e∈es,Ws L V e) (er:ER B L V g n) (z1:W.length+12*(f+2)<=15000) (z2:T.length+12*(f+2)<=15000) :
 At F (.cal k es) n W T s B s' (QE L V g' n W T B v s'):=by
 obtain⟨⟨vs,g1,s1⟩,e1,h⟩:=Option.bind_eq_some_iff.mp h;dsimp only at h;by_cases k0:0<=k
 · rw[if_pos k0] at h;obtain⟨fn,ef,h⟩:=Option.bind_eq_some_iff.mp h;have zz:s1.en≠none->s'.en=s1.en/\s'.D=s1.D:=λc=>by
    rw[if_pos (Option.isSome_iff_ne_none.mpr c)] at h;cases h;exact⟨U,U⟩
   refine eJ (es:=es) I0 U e1 hn nl zz ft ws er ∅ ∅ λhn1 ft1 B1 xs x1 x2 x3 _=>?_;rw[if_neg (by rw[hn1];exact λh=>nomatch h)] at h;have body:∀ s2:St,s2.en=none->s2.D=s1.D->(if vs.length=fn.ct then (evV F (f+1) (dI [] ((List.range fn.ct).map Int.ofNat) vs) s2 fn.bd).map (λz=>(z.1,g1,z.2.2)) else none)=some (v,g',s')->xs.length=fn.ct/\Out F (bgn (cfg W T s2 (B1++xs.map λy=>(false,y))) fn.bd (K19.nms [] B1.length ((List.range fn.ct).map Int.ofNat))) s' (QE L V g' n W T B v s'):=by
    intro s2 hn2 hD h;by_cases hl:vs.length=fn.ct
    · rw[if_pos hl] at h;obtain⟨⟨v3,g3,s3⟩,e3,h⟩:=oMS.mp h;cases h;refine⟨by rw[<- fL x2];exact hl,?_⟩;have e0:ER B1 [] [] [] []:=⟨trivial,(λ_ h=>nomatch h),(λ_ h=>nomatch h)⟩;exact sI I e3 hn2 nl ⟨by rw[hD];exact ft1.d⟩ (FW fn (mGE ef)) (ER.nms _ vs xs e0 (jo _) (λ_ _ h=>nomatch h) (λ_ _ h=>nomatch h) x2 (by rw[lMp,List.length_range,hl]) _ (λy hy=>.inl hy)) x1 (.app _) x3 ∅ ∅
    · rw[if_neg hl] at h;cases h
   by_cases hd:fn.hd="deep"
   · by_cases el:s1.left=0
     · obtain⟨t1,t2,t3⟩:=dX hn1 el;rw[if_pos ⟨hd,t1⟩] at h;cases h;exact⟨_,.calD k0 ef hd el,Or.inr ⟨(by rw[t2];exact λh=>nomatch h),⟨_,Rn.refl,t2.symm,t3.symm⟩⟩⟩
     · obtain⟨t1,t2⟩:=fJ hn1 el;rw[if_neg (λc=>by rw[t1] at c;exact absurd c.2 (λh=>nomatch h)),if_pos hd,t2] at h;obtain⟨b1,b2⟩:=body {s1 with left:=s1.left-1} hn1 rfl h;refine⟨_,.cal k0 ef (λ_=>el) b1,?_⟩;rw[if_pos hd];exact b2
   · rw[if_neg (λc=>hd c.1),if_neg hd] at h;obtain⟨b1,b2⟩:=body s1 hn1 rfl h;refine⟨_,.cal k0 ef (λc=>absurd c hd) b1,?_⟩;rw[if_neg hd];exact b2
 · rw[if_neg k0] at h;cases h
end
variable {F:List Fun} {f:Nat}
section
variable {L V:List Int} {n:Nm} {W:List Tsk} {T:List Vl} {B:List (Bool×Vl)} {g g':Env} {s s':St} {v:EV}
def yU (I0:Sim F f) (I:Sim F (f+1)) {a:Ex} {es:List Ex} (h:evA F (f+2) g s a es=some (v,g',s')) (hn:s.en=none) (nl:s'.en≠some .long) (ft:Fit s) (wa:Ws L V a) (ws:∀ e∈es,Ws L V e) (er:ER B L V g n) (z1:W.length+12*(f+2)<=15000) (z2:T.length+12*(f+2)<=15000) :
 At F (.app a es) n W T s B s' (QE L V g' n W T B v s'):=by
 obtain⟨⟨v1,g1,s1⟩,e1,h⟩:=Option.bind_eq_some_iff.mp h;obtain⟨⟨vs,g2,s2⟩,e2,h⟩:=Option.bind_eq_some_iff.mp h;dsimp only at h;have e2:(if es.length<=9 then eZ (evV F f) es g1 s1 else none)=some (vs,g2,s2):=e2;by_cases l9:es.length<=9
 · rw[if_pos l9] at e2;have zz:s2.en≠none->s'.en=s2.en/\s'.D=s2.D:=λc=>by
    rw[if_pos (Option.isSome_iff_ne_none.mpr c)] at h;cases h;exact⟨U,U⟩
   have z0:s1.en≠none->s'.en=s1.en/\s'.D=s1.D:=λc=>by
    obtain⟨_,a1,a2⟩:=nS e2 c;obtain⟨b1,b2⟩:=zz (by rw[a1];exact c);exact⟨b1.trans a1,b2.trans a2⟩
   unfold At;have lb:(bgs es n).length=es.length:=by unfold bgs;rw[lMp,List.length_reverse]
   have eb:W++[⟨"finish",Ex.app a es,n,(eK (.app a es)).length⟩]++bgs (eK (.app a es)) n=W++[⟨"finish",.app a es,n,es.length+1⟩]++bgs es n++[⟨"begin",a,n,0⟩]:=by
    show W++[⟨"finish",Ex.app a es,n,(a::es).length⟩]++bgs (a::es) n=_;unfold bgs;simp
   rw[eb];have o1:=I a g s v1 g1 s1 e1 hn (iQ nl z0) ft L V n (W++[⟨"finish",.app a es,n,es.length+1⟩]++bgs es n) T B wa er (by rw[lAp,lAp,lb];simp only[List.length_cons,List.length_nil];omega) ∅;refine o1.bind (λhn1 S' q=>?_) z0;obtain⟨B1,x,rfl,x1,x2,x3,x4⟩:=q;have o2:=nP I0 es g1 s1 vs g2 s2 e2 hn1 (iQ nl zz) x4 L V n (W++[⟨"finish",.app a es,n,es.length+1⟩]) (T++[x]) B1 ws x3 (by rw[lAp];simp only[List.length_cons,List.length_nil];omega) (by rw[lAp];simp only[List.length_cons,List.length_nil];omega);refine o2.bind (λhn2 S' q=>?_) zz;obtain⟨B2,ys,rfl,y1,y2,y3,y4⟩:=q;rw[if_neg (by rw[hn2];exact λh=>nomatch h)] at h;have ly:=fL y2;have ln:vs.length=es.length:=by
    have ln:∀ (es:List Ex) (g g':Env) (s s':St) (vs:List EV),eZ (evV F f) es g s=some (vs,g',s')->vs.length=es.length:=by
     intro es
     induction es with
     | nil=>intro g g' s s' vs h;cases h;rfl
     | cons e es ih =>
      intro g g' s s' vs h;obtain⟨r,_,h⟩:=Option.bind_eq_some_iff.mp h;obtain⟨⟨vs2,g2,s2⟩,e2,h⟩:=oMS.mp h;cases h;rw[List.length_cons,List.length_cons,ih _ _ _ _ _ e2]
    exact ln _ _ _ _ _ _ e2
   have eT:T++[x]++ys=T++(x::ys):=by simp
   have go:∀ S',Fin F (.app a es) n (x::ys) (cfg W T s2 B2) S'->Out F S' s' (QE L V g' n W T B v s')->Out F ⟨W++[⟨"finish",.app a es,n,es.length+1⟩],T++[x]++ys,s2.D,none,s2.left,B2⟩ s' (QE L V g' n W T B v s'):=by
    intro S' hF o;rw[eT];exact Out.fin hF o ∅ (by rw[lAp,List.length_cons];omega) y4 (by rw[List.length_cons,<- ly,ln])
   have x2':=x2.ext y1;have bad:(∀ ids e n1,x=.fn ids e n1->ids.length≠ys.length)->some ((EV.int 0,g2,bV s2 (.flt "apply")):R)=some (v,g',s')->Out F ⟨W++[⟨"finish",.app a es,n,es.length+1⟩],T++[x]++ys,s2.D,none,s2.left,B2⟩ s' (QE L V g' n W T B v s'):=by
    intro c h;cases h;exact go _ (.appF c) (fQ hn2 U)
   cases x2' with
   | int j=>exact bad (λ_ _ _ c=>nomatch c) h
   | row j=>exact bad (λ_ _ _ c=>nomatch c) h
   | rcd _ _=>exact bad (λ_ _ _ c=>nomatch c) h
   | @fn ids e g3 n3 L0 ge gm h1 h2 h3 hnd hi hw hd =>
    dsimp only at h;by_cases hl:ids.length=vs.length
    · rw[if_pos hl] at h;by_cases el:s2.left=0
      · obtain⟨t1,t2,t3⟩:=dX hn2 el;rw[if_neg (by rw[t1];exact λh=>nomatch h)] at h;cases h;exact go _ (.appD (by rw[<- ly];exact hl) el) (Or.inr ⟨(by rw[t2];exact λh=>nomatch h),⟨_,Rn.refl,t2.symm,t3.symm⟩⟩)
      · obtain⟨t1,t2⟩:=fJ hn2 el;rw[if_pos t1,t2] at h;obtain⟨⟨v4,g4,s4⟩,e4,h⟩:=oMS.mp h;cases h;have e0:ER B2 L0 [] g3 n3:=⟨hd,λy hy=>by obtain⟨k,q1,q2⟩:=h2 y hy;exact⟨ge y,k,gm y,h1 y hy,q1,q2,h3 y hy⟩,λ_ h=>nomatch h⟩;exact go _ (.app (by rw[<- ly];exact hl) el) (sI (s1:={s2 with left:=s2.left-1}) I e4 hn2 nl ⟨y4.d⟩ hw (ER.nms ids vs ys e0 hnd hi (λ_ _ h=>nomatch h) y2 hl _ (λy hy=>mAp.mp hy)) (x1.trans y1) (.app _) y3 (show W.length+12*(f+1)<=15000 by omega) (show T.length+12*(f+1)<=15000 by omega))
    · rw[if_neg hl] at h;exact bad (λ_ _ _ c=>by cases c;rw[<- ly];exact hl) h
 · rw[if_neg l9] at e2;cases e2
end
def uh {F:List Fun} (FW:∀ fn∈F,Ws ((List.range fn.ct).map Int.ofNat) [] fn.bd):∀ f,Sim F f:=by
 intro f
 induction f using Nat.strongRecOn with
 | ind f ih =>
  intro e g s v g' s' h hn nl ft L V n W T B ws er z1 z2;cases f with
  | zero=>cases h
  | succ f =>
   have key:∀ X:Option R,(if (aW s).en.isSome=true then some (.int 0,g,aW s) else X)=some (v,g',s')->(aW s).en=none/\X=some (v,g',s'):=by
    intro X h;by_cases c:(aW s).en.isSome=true
    · rw[if_pos c] at h;cases h;obtain⟨q,_⟩:=jA ft hn nl;rw[q] at c;cases c
    · rw[if_neg c] at h;exact⟨by cases e:(aW s).en with | none=>rfl | some w=>rw[e] at c;exact absurd U c,h⟩
   have b0:(aW s).en=none->(aW s).D=s.D/\(aW s).left=s.left/\Fit (aW s):=λq=>(jA ft hn (by rw[q];exact λh=>nomatch h)).2;have w1:W.length<=15000:=∅
   have t1:T.length<=15000:=∅
   refine Out.bg ?_ w1 t1 ft;have go:(aW s).en=none->∀ Q,At F e n W T (aW s) B s' Q->At F e n W T s B s' Q:=by
    intro q Q o;obtain⟨d1,d2,_⟩:=b0 q;unfold At cfg at o ⊢;rw[d1,d2] at o;exact o
   cases e with
   | num i =>
    obtain⟨q,h⟩:=key _ h;cases h;exact go q _ (yM q (b0 q).2.2 er w1 t1)
   | nam x =>
    obtain⟨q,h⟩:=key _ h;obtain⟨u,e1,h⟩:=oMS.mp h;cases h;cases ws with
    | nam hx=>exact go q _ (yO e1 hx q (b0 q).2.2 er w1 t1)
   | fn ids a =>
    obtain⟨q,h⟩:=key _ h;cases h;exact go q _ (BD ws q (b0 q).2.2 er w1 t1)
   | bnd w x a b =>
    obtain⟨q,h⟩:=key _ h;cases f with
    | zero=>cases h
    | succ f=>exact go q _ (yT (ih f ∅) h q nl (b0 q).2.2 ws er ∅ ∅)
   | each x a b =>
    obtain⟨q,h⟩:=key _ h;cases f with
    | zero=>cases h
    | succ f =>
     cases ws with
     | each wa n1 n2 wb=>exact go q _ (vA (ih f ∅) h q nl (b0 q).2.2 wa n1 n2 wb er ∅ ∅)
   | whl a b =>
    obtain⟨q,h⟩:=key _ h;cases ws with
    | whl wa wb =>
     match f,h,ih,z1,z2 with
     | 0,h,_,_,_=>cases h
     | 1,h,_,_,_ =>
      have h:(none:Option R)=some (v,g',s'):=h;cases h
     | f+2,h,ih,z1,z2=>exact go q _ (yI (ih f ∅) (ih (f+1) ∅) h q nl (b0 q).2.2 wa wb er ∅ ∅)
   | app a es =>
    obtain⟨q,h⟩:=key _ h;cases ws with
    | app wa w2 =>
     match f,h,ih,z1,z2 with
     | 0,h,_,_,_=>cases h
     | 1,h,_,_,_ =>
      have h:(none:Option R)=some (v,g',s'):=h;cases h
     | f+2,h,ih,z1,z2=>exact go q _ (yU (ih f ∅) (ih (f+1) ∅) h q nl (b0 q).2.2 wa w2 er ∅ ∅)
   | cal k es =>
    obtain⟨q,h⟩:=key _ h;cases ws with
    | cal w2 =>
     match f,h,ih,z1,z2 with
     | 0,h,_,_,_=>cases h
     | 1,h,_,_,_ =>
      have h:(none:Option R)=some (v,g',s'):=h;cases h
     | f+2,h,ih,z1,z2=>exact go q _ (yS (ih f ∅) (ih (f+1) ∅) FW h q nl (b0 q).2.2 w2 er ∅ ∅)
   | get r i a =>
    obtain⟨q,h⟩:=key _ h;cases f with
    | zero=>cases h
    | succ f =>
     cases ws with
     | get wa=>exact go q _ (yQ (ih f ∅) h q nl (b0 q).2.2 wa er ∅ ∅)
   | set x a =>
    obtain⟨q,h⟩:=key _ h;cases f with
    | zero=>cases h
    | succ f=>exact go q _ (yJ (ih f ∅) h q nl (b0 q).2.2 ws er ∅ ∅)
   | say a =>
    obtain⟨q,h⟩:=key _ h;cases f with
    | zero=>cases h
    | succ f =>
     cases ws with
     | say wa=>exact go q _ (yL (ih f ∅) h q nl (b0 q).2.2 wa er ∅ ∅)
   | ite a b d =>
    obtain⟨q,h⟩:=key _ h;cases f with
    | zero=>cases h
    | succ f =>
     cases ws with
     | ite wa wb wd=>exact go q _ (yP (ih f ∅) h q nl (b0 q).2.2 wa wb wd er ∅ ∅)
   | flt w =>
    obtain⟨q,h⟩:=key _ h;cases f with
    | zero=>cases h
    | succ f=>cases h;exact go q _ (yR q (b0 q).2.2 w1 t1)
   | seq es =>
    obtain⟨q,h⟩:=key _ h;cases ws with
    | seq w2 =>
     match f,h,ih,z1,z2 with
     | 0,h,_,_,_=>cases h
     | 1,h,_,_,_ =>
      have h:(none:Option R)=some (v,g',s'):=h;cases h
     | f+2,h,ih,z1,z2=>exact go q _ (yK (ih f ∅) h q nl (b0 q).2.2 w2 er ∅ ∅)
   | new r es =>
    obtain⟨q,h⟩:=key _ h;cases ws with
    | new w2 =>
     match f,h,ih,z1,z2 with
     | 0,h,_,_,_=>cases h
     | 1,h,_,_,_ =>
      have h:(none:Option R)=some (v,g',s'):=h;cases h
     | f+2,h,ih,z1,z2=>exact go q _ (yN (ih f ∅) h q nl (b0 q).2.2 w2 er ∅ ∅)
   | op w es =>
    obtain⟨q,h⟩:=key _ h;cases ws with
    | op w2 =>
     match f,h,ih,z1,z2 with
     | 0,h,_,_,_=>cases h
     | 1,h,_,_,_ =>
      have h:(if opA w es.length=true then (none:Option R) else none)=some (v,g',s'):=h;by_cases l8:opA w es.length=true
      · rw[if_pos l8] at h;cases h
      · rw[if_neg l8] at h;cases h
     | f+2,h,ih,z1,z2=>exact go q _ (BC (ih f ∅) h q nl (b0 q).2.2 w2 er ∅ ∅)
inductive Fd:Ex->Nat->Prop
  | num {i d}:Fd (.num i) (d+1)
  | nam {x d}:Fd (.nam x) (d+1)
  | flt {w d}:Fd (.flt w) (d+2)
  | fn {ids a d} (h:Fd a 23):Fd (.fn ids a) (d+1)
  | bnd {w x a b d} (ha:Fd a d) (hb:Fd b d):Fd (.bnd w x a b) (d+2)
  | each {x a b d} (ha:Fd a d) (hb:Fd b d):Fd (.each x a b) (d+2)
  | set {x a d} (ha:Fd a d):Fd (.set x a) (d+2)
  | say {a d} (ha:Fd a d):Fd (.say a) (d+2)
  | get {r i a d} (ha:Fd a d):Fd (.get r i a) (d+2)
  | ite {a b e d} (ha:Fd a d) (hb:Fd b d) (he:Fd e d):Fd (.ite a b e) (d+2)
  | whl {a b d} (ha:Fd a d) (hb:Fd b (d+1)):Fd (.whl a b) (d+3)
  | seq {es d} (h:∀ e∈es,Fd e d):Fd (.seq es) (d+3)
  | op {w es d} (h:∀ e∈es,Fd e d):Fd (.op w es) (d+3)
  | new {r es d} (h:∀ e∈es,Fd e d):Fd (.new r es) (d+3)
  | app {a es d} (h3:3<=d) (ha:Fd a (d+1)) (h:∀ e∈es,Fd e d):Fd (.app a es) (d+3)
  | cal {k es d} (h3:3<=d) (h:∀ e∈es,Fd e d):Fd (.cal k es) (d+3)
def Fd.mono {e:Ex} {a:Nat} (h:Fd e a):∀ {b:Nat},a<=b->Fd e b:=by
 induction h with
 | num=>intro b l;obtain⟨c,rfl⟩:=Nat.exists_eq_add_of_le l;rw[show ∀ d c:Nat,d+1+c=(d+c)+1 by omega];exact .num
 | nam=>intro b l;obtain⟨c,rfl⟩:=Nat.exists_eq_add_of_le l;rw[show ∀ d c:Nat,d+1+c=(d+c)+1 by omega];exact .nam
 | flt=>intro b l;obtain⟨c,rfl⟩:=Nat.exists_eq_add_of_le l;rw[show ∀ d c:Nat,d+2+c=(d+c)+2 by omega];exact .flt
 | fn h=>intro b l;obtain⟨c,rfl⟩:=Nat.exists_eq_add_of_le l;rw[show ∀ d c:Nat,d+1+c=(d+c)+1 by omega];exact .fn h
 | bnd _ _ i1 i2=>intro b l;obtain⟨c,rfl⟩:=Nat.exists_eq_add_of_le l;rw[show ∀ d c:Nat,d+2+c=(d+c)+2 by omega];exact .bnd (i1 ∅) (i2 ∅)
 | each _ _ i1 i2=>intro b l;obtain⟨c,rfl⟩:=Nat.exists_eq_add_of_le l;rw[show ∀ d c:Nat,d+2+c=(d+c)+2 by omega];exact .each (i1 ∅) (i2 ∅)
 | set _ i1=>intro b l;obtain⟨c,rfl⟩:=Nat.exists_eq_add_of_le l;rw[show ∀ d c:Nat,d+2+c=(d+c)+2 by omega];exact .set (i1 ∅)
 | say _ i1=>intro b l;obtain⟨c,rfl⟩:=Nat.exists_eq_add_of_le l;rw[show ∀ d c:Nat,d+2+c=(d+c)+2 by omega];exact .say (i1 ∅)
 | get _ i1=>intro b l;obtain⟨c,rfl⟩:=Nat.exists_eq_add_of_le l;rw[show ∀ d c:Nat,d+2+c=(d+c)+2 by omega];exact .get (i1 ∅)
 | ite _ _ _ i1 i2 i3=>intro b l;obtain⟨c,rfl⟩:=Nat.exists_eq_add_of_le l;rw[show ∀ d c:Nat,d+2+c=(d+c)+2 by omega];exact .ite (i1 ∅) (i2 ∅) (i3 ∅)
 | whl _ _ i1 i2=>intro b l;obtain⟨c,rfl⟩:=Nat.exists_eq_add_of_le l;rw[show ∀ d c:Nat,d+3+c=(d+c)+3 by omega];exact .whl (i1 ∅) (i2 ∅)
 | seq _ i1=>intro b l;obtain⟨c,rfl⟩:=Nat.exists_eq_add_of_le l;rw[show ∀ d c:Nat,d+3+c=(d+c)+3 by omega];exact .seq λe he=>i1 e he ∅
 | op _ i1=>intro b l;obtain⟨c,rfl⟩:=Nat.exists_eq_add_of_le l;rw[show ∀ d c:Nat,d+3+c=(d+c)+3 by omega];exact .op λe he=>i1 e he ∅
 | new _ i1=>intro b l;obtain⟨c,rfl⟩:=Nat.exists_eq_add_of_le l;rw[show ∀ d c:Nat,d+3+c=(d+c)+3 by omega];exact .new λe he=>i1 e he ∅
 | app h3 _ _ i1 i2=>intro b l;obtain⟨c,rfl⟩:=Nat.exists_eq_add_of_le l;rw[show ∀ d c:Nat,d+3+c=(d+c)+3 by omega];exact .app ∅ (i1 ∅) λe he=>i2 e he ∅
 | cal h3 _ i1=>intro b l;obtain⟨c,rfl⟩:=Nat.exists_eq_add_of_le l;rw[show ∀ d c:Nat,d+3+c=(d+c)+3 by omega];exact .cal ∅ λe he=>i1 e he ∅
inductive Ar (F:List Fun) (rf:Nat->Nat) (R:List Nat):Nat->Ex->Prop
  | num {r i} (h:Sml i):Ar F rf R r (.num i)
  | nam {r x}:Ar F rf R r (.nam x)
  | flt {r w}:Ar F rf R r (.flt w)
  | fn {r ids a} (h:ids.length<=9) (ha:Ar F rf R 3 a):Ar F rf R r (.fn ids a)
  | bnd {r w x a b} (ha:Ar F rf R r a) (hb:Ar F rf R r b):Ar F rf R r (.bnd w x a b)
  | each {r x a b} (ha:Ar F rf R r a) (hb:Ar F rf R r b):Ar F rf R r (.each x a b)
  | set {r x a} (ha:Ar F rf R r a):Ar F rf R r (.set x a)
  | say {r a} (ha:Ar F rf R r a):Ar F rf R r (.say a)
  | get {r q i a} {c:Nat} (hq:0<=q) (h:R[q.toNat]?=some c) (h0:0<=i) (h1:i<(c:Int)) (ha:Ar F rf R r a):Ar F rf R r (.get q i a)
  | ite {r a b d} (ha:Ar F rf R r a) (hb:Ar F rf R r b) (hd:Ar F rf R r d):Ar F rf R r (.ite a b d)
  | whl {r a b} (ha:Ar F rf R r a) (hb:Ar F rf R r b):Ar F rf R r (.whl a b)
  | seq {r es} (h0:es≠[]) (h9:es.length<=9) (h:∀ e∈es,Ar F rf R r e):Ar F rf R r (.seq es)
  | op {r w es} (ho:opA w es.length=true) (h:∀ e∈es,Ar F rf R r e):Ar F rf R r (.op w es)
  | new {r q es} (hq:0<=q) (hc:R[q.toNat]?=some es.length) (h9:es.length<=9) (h:∀ e∈es,Ar F rf R r e):Ar F rf R r (.new q es)
  | app {r a es} (ha:Ar F rf R r a) (h9:es.length<=9) (h:∀ e∈es,Ar F rf R r e):Ar F rf R r (.app a es)
  | cal {r k es} {fn:Fun} (hk:0<=k) (hf:F[k.toNat]?=some fn) (hl:es.length=fn.ct) (h9:es.length<=9) (hr:fn.hd="deep"\/rf k.toNat<r) (h:∀ e∈es,Ar F rf R r e):Ar F rf R r (.cal k es)
section
variable (F:List Fun) (rf:Nat->Nat) (R:List Nat)
inductive VOk:EV->Prop
  | int {i:Int} (h:Sml i):VOk (.int i)
  | row {is:List Int} (h:is.length<=8) (hs:∀ i∈is,Sml i):VOk (.row is)
  | rcd {q:Int} {xs:List EV} (hq:0<=q) (hc:R[q.toNat]?=some xs.length) (h:∀ x∈xs,VOk x):VOk (.rcd q xs)
  | fn {ids:List Int} {e:Ex} {g:Env} {L:List Int} (ge:Int->EV) (h1:∀ x∈L,g.lookup x=some (ge x)) (h2:∀ x∈L,VOk (ge x)) (hn:ids.Nodup) (hw:Ws (ids++L) [] e) (hf:Fd e 23) (ha:Ar F rf R 3 e) (hl:ids.length<=9):VOk (.fn ids e g)
def GOk (L V:List Int) (g:Env):Prop:=∀ x,(x∈L\/x∈V)->∃ v,g.lookup x=some v/\VOk F rf R v
end
structure Le (s s':St):Prop where
  l:s'.left<=s.left
  p:s'.en=none->s.en=none/\(0<=s.left->0<=s'.left)
  d:s'.D.length+s.steps<=s.D.length+s'.steps
  t:s.steps<=s'.steps
def Le.refl {s:St}:Le s s:=⟨Int.le_refl _,λh=>⟨h,id⟩,Nat.le_refl _,Nat.le_refl _⟩
def Le.trans {s s1 s2:St} (h:Le s s1) (g:Le s1 s2):Le s s2 :=
 ⟨Int.le_trans g.l h.l,λe=>by obtain⟨a,b⟩:=g.p e;obtain⟨c,d⟩:=h.p a;exact⟨c,λz=>b (d z)⟩,by have:=h.d;have:=g.d;omega,Nat.le_trans h.t g.t⟩
def fM {s:St} {w:En}:Le s (bV s w):=by
 unfold bV;cases e:s.en with
 | none=>exact⟨Int.le_refl _,(λh=>nomatch h),Nat.le_refl _,Nat.le_refl _⟩
 | some w=>exact .refl
def oj {s:St}:Le s (aW s):=by
 have q:Le s {s with steps:=s.steps+1}:=⟨Int.le_refl _,λh=>⟨h,id⟩,by show s.D.length+s.steps<=s.D.length+(s.steps+1);omega,by show s.steps<=s.steps+1;omega⟩;unfold aW;split
 · exact q.trans fM
 · exact q
structure cI (s:St):Prop where
  d:s.D.length<=s.steps
  go:s.en=none->s.steps<=4000/\0<=s.left
  l:s.left<=8
def pR {s:St} (h:cI s):cI (aW s):=by
 have b:=oj (s:=s);refine⟨by have:=b.d;have:=h.d;omega,λe=>?_,Int.le_trans b.l h.l⟩;have q:=b.p e;refine⟨?_,q.2 (h.go q.1).2⟩;unfold aW at e ⊢;by_cases z:s.steps+1>4000
 · rw[if_pos z] at e;unfold bV at e;simp only[q.1] at e;cases e
 · rw[if_neg z];show s.steps+1<=4000;omega
def Tot (F:List Fun) (rf:Nat->Nat) (R:List Nat) (f:Nat):Prop:=∀ e g s L V r d,Ws L V e->Fd e d->Ar F rf R r e->r<=3->GOk F rf R L V g->cI s->s.left.toNat*76+r*19+d<=f ->
  ∃ v g' s',evV F f g s e=some (v,g',s')/\VOk F rf R v/\GOk F rf R L V g'/\Le s s'/\cI s'
section
variable {F:List Fun} {rf:Nat->Nat} {R:List Nat} {f:Nat} {L V:List Int} {g:Env} {s:St}
def iw {x:Int} {v:EV} {L' V':List Int} (h:GOk F rf R L V g) (hv:VOk F rf R v) (i:∀ y,(y∈L'\/y∈V')->y=x\/(y∈L\/y∈V)):GOk F rf R L' V' (put g x v):=by
 intro y hy;rw[cj];by_cases e:y=x
 · rw[if_pos e];exact⟨v,U,hv⟩
 · rw[if_neg e];exact h y ((i y hy).resolve_left e)
def jX {L' V':List Int} (h:GOk F rf R L V g) (i:∀ y,(y∈L'\/y∈V')->(y∈L\/y∈V)):GOk F rf R L' V' g:=λy hy=>h y (i y hy)
def tN (I:Tot F rf R f) {r d:Nat} (hr:r<=3):∀ es g s,(∀ e∈es,Ws L V e)->(∀ e∈es,Fd e d)->(∀ e∈es,Ar F rf R r e)->GOk F rf R L V g->cI s->s.left.toNat*76+r*19+d<=f ->
 ∃ vs g' s',eZ (evV F f) es g s=some (vs,g',s')/\(∀ v∈vs,VOk F rf R v)/\vs.length=es.length/\GOk F rf R L V g'/\Le s s'/\cI s':=by
 intro es
 induction es with
 | nil=>intro g s _ _ _ hg hs _;exact⟨[],g,s,U,(λ_ h=>nomatch h),U,hg,.refl,hs⟩
 | cons e es ih =>
  intro g s w1 w2 w3 hg hs hf;obtain⟨v,g1,s1,e1,k1,k2,k3,k4⟩:=I e g s L V r d (w1 e mCS) (w2 e mCS) (w3 e mCS) hr hg hs hf;have hl:=k3.l;obtain⟨vs,g2,s2,e2,m1,m2,m3,m4,m5⟩:=ih g1 s1 (λe h=>w1 e (mCM _ h)) (λe h=>w2 e (mCM _ h)) (λe h=>w3 e (mCM _ h)) k2 k4 ∅;refine⟨v::vs,g2,s2,?_,λu hu=>?_,by rw[List.length_cons,m2];rfl,m3,k3.trans m4,m5⟩
  · show (evV F f g s e).bind _=_;rw[e1,Option.bind_some];dsimp only;rw[e2,Option.map_some]
  · rcases List.mem_cons.mp hu with rfl | hu
    · exact k1
    · exact m1 u hu
end
section
variable {F:List Fun} {rf:Nat->Nat} {R:List Nat} {f:Nat} {L V:List Int} {g:Env} {s:St} {r d:Nat}
def Tld (F:List Fun) (rf:Nat->Nat) (Rc:List Nat) (L V:List Int) (s:St) (X:Option K19.R):Prop:=∃ v g' s',X=some (v,g',s')/\VOk F rf Rc v/\GOk F rf Rc L V g'/\Le s s'/\cI s'
def fP {w:En} (h:cI s) (n:s.en=none):cI (bV s w):=by
 have b:=fM (s:=s) (w:=w);refine⟨by have:=b.d;have:=h.d;omega,λe=>?_,Int.le_trans b.l h.l⟩;unfold bV at e;rw[n] at e;cases e
def eQ:Sml 0:=by unfold Sml;omega
def tT (I:Tot F rf R f) {w:Bool} {x:Int} {a b:Ex} (ws:Ws L V (.bnd w x a b)) (fa:Fd a d) (fb:Fd b d) (aa:Ar F rf R r a) (ab:Ar F rf R r b) (hr:r<=3) (hg:GOk F rf R L V g) (hs:cI s) (hf:s.left.toNat*76+r*19+d<=f):Tld F rf R L V s (evB F (f+1) g s x a b):=by
 have go:∀ L' V',Ws L V a->Ws L' V' b->(∀ y,(y∈L'\/y∈V')->y=x\/(y∈L\/y∈V))->(∀ y,(y∈L\/y∈V)->(y∈L'\/y∈V'))->Tld F rf R L V s (evB F (f+1) g s x a b):=by
  intro L' V' wa wb i1 i2;obtain⟨v,g1,s1,e1,k1,k2,k3,k4⟩:=I a g s L V r d wa fa aa hr hg hs hf;have hl:=k3.l;obtain⟨v2,g2,s2,e2,m1,m2,m3,m4⟩:=I b (put g1 x v) s1 L' V' r d wb fb ab hr (iw k2 k1 i1) k4 ∅;exact⟨v2,g2,s2,by show (evV F f g s a).bind _=_;rw[e1,Option.bind_some];exact e2,m1,jX m2 i2,k3.trans m3,m4⟩
 cases ws with
 | lt wa n1 n2 wb=>exact go (x::L) V wa wb (λy h=>by rcases h with h | h;rcases List.mem_cons.mp h with h | h;exact .inl h;exact .inr (.inl h);exact .inr (.inr h)) (λy h=>h.imp (mCM _) id)
 | vr wa n1 n2 wb=>exact go L (x::V) wa wb (λy h=>by rcases h with h | h;exact .inr (.inl h);rcases List.mem_cons.mp h with h | h;exact .inl h;exact .inr (.inr h)) (λy h=>h.imp id (mCM _))
def tM (I:Tot F rf R f) {x:Int} {a:Ex} (wa:Ws L V a) (fa:Fd a d) (aa:Ar F rf R r a) (hr:r<=3) (hg:GOk F rf R L V g) (hs:cI s) (hf:s.left.toNat*76+r*19+d<=f):Tld F rf R L V s (evO F (f+1) g s (.set x a)):=by
 obtain⟨v,g1,s1,e1,k1,k2,k3,k4⟩:=I a g s L V r d wa fa aa hr hg hs hf;exact⟨v,put g1 x v,s1,by show (evV F f g s a).map _=_;rw[e1];rfl,k1,iw k2 k1 (λ_ h=>.inr h),k3,k4⟩
def tQ (I:Tot F rf R f) {a b e:Ex} (wa:Ws L V a) (wb:Ws L V b) (we:Ws L V e) (fa:Fd a d) (fb:Fd b d) (fe:Fd e d) (aa:Ar F rf R r a) (ab:Ar F rf R r b) (ae:Ar F rf R r e) (hr:r<=3) (hg:GOk F rf R L V g) (hs:cI s) (hf:s.left.toNat*76+r*19+d<=f):Tld F rf R L V s (evO F (f+1) g s (.ite a b e)):=by
 obtain⟨v,g1,s1,e1,k1,k2,k3,k4⟩:=I a g s L V r d wa fa aa hr hg hs hf;have hl:=k3.l;obtain⟨v2,g2,s2,e2,m1,m2,m3,m4⟩:=I (if aZ v=0 then e else b) g1 s1 L V r d (by split <;> assumption) (by split <;> assumption) (by split <;> assumption) hr k2 k4 ∅;exact⟨v2,g2,s2,by show (evV F f g s a).bind _=_;rw[e1,Option.bind_some];exact e2,m1,m2,k3.trans m3,m4⟩
def tO (I:Tot F rf R f) {a:Ex} (wa:Ws L V a) (fa:Fd a d) (aa:Ar F rf R r a) (hr:r<=3) (hg:GOk F rf R L V g) (hs:cI s) (h1:s.D.length+1<=s.steps) (hf:s.left.toNat*76+r*19+d<=f):∃ v g' s',evO F (f+1) g s (.say a)=some (v,g',s')/\VOk F rf R v/\GOk F rf R L V g'/\s'.left<=s.left/\(s'.en=none->s.en=none/\(0<=s.left->0<=s'.left))/\s'.D.length+s.steps<=s.D.length+s'.steps+1/\s.steps<=s'.steps/\cI s':=by
 obtain⟨v,g1,s1,e1,k1,k2,k3,k4⟩:=I a g s L V r d wa fa aa hr hg hs hf;by_cases c:s1.en.isSome=true
 · exact⟨v,g1,s1,by show (evV F f g s a).bind _=_;rw[e1,Option.bind_some];exact if_pos c,k1,k2,k3.l,k3.p,by have:=k3.d;omega,k3.t,k4⟩
 · have n:s1.en=none:=by cases e:s1.en with | none=>rfl | some w=>rw[e] at c;exact absurd U c
   have q:=k4.go n;have dd:=k3.d;have l5:s1.D.length<5000:=by have:=k4.d;omega
   refine⟨v,g1,{s1 with D:=s1.D++[elk v]},by show (evV F f g s a).bind _=_;rw[e1,Option.bind_some];exact (if_neg c).trans (if_pos l5),k1,k2,k3.l,k3.p,?_,k3.t,⟨?_,k4.go,k4.l⟩⟩
   · show (s1.D++[_]).length+s.steps<=s.D.length+s1.steps+1;rw[lAp];simp only[List.length_cons,List.length_nil];omega
   · show (s1.D++[_]).length<=s1.steps;rw[lAp];simp only[List.length_cons,List.length_nil];omega
end
section
variable {F:List Fun} {rf:Nat->Nat} {R:List Nat} {f:Nat} {L V:List Int} {g:Env} {s:St} {r d:Nat}
def kS (I:Tot F rf R f) {es:List Ex} (h9:es.length<=9) (ws:∀ e∈es,Ws L V e) (fs:∀ e∈es,Fd e d) (as:∀ e∈es,Ar F rf R r e) (hr:r<=3) (hg:GOk F rf R L V g) (hs:cI s) (hf:s.left.toNat*76+r*19+d<=f) :
 ∃ vs g' s',evL F (f+1) g s es=some (vs,g',s')/\(∀ v∈vs,VOk F rf R v)/\vs.length=es.length/\GOk F rf R L V g'/\Le s s'/\cI s':=by
 obtain⟨vs,g',s',h,k⟩:=tN I hr es g s ws fs as hg hs hf;exact⟨vs,g',s',by show (if es.length<=9 then _ else none)=_;rw[if_pos h9];exact h,k⟩
def xi (I:Tot F rf R f) {es:List Ex} (h0:es≠[]) (h9:es.length<=9) (ws:∀ e∈es,Ws L V e) (fs:∀ e∈es,Fd e d) (as:∀ e∈es,Ar F rf R r e) (hr:r<=3) (hg:GOk F rf R L V g) (hs:cI s) (hf:s.left.toNat*76+r*19+d<=f):Tld F rf R L V s (evO F (f+2) g s (.seq es)):=by
 obtain⟨vs,g1,s1,e1,k1,k2,k3,k4,k5⟩:=kS I h9 ws fs as hr hg hs hf;have nv:vs≠[]:=λc=>h0 (List.length_eq_zero_iff.mp (by rw[<- k2,c];rfl));have el:vs.getLast?=some (vs.getLast nv):=List.getLast?_eq_some_getLast nv;exact⟨vs.getLast nv,g1,s1,by show (evL F (f+1) g s es).bind _=_;rw[e1,Option.bind_some];dsimp only;rw[el];rfl,k1 _ (List.getLast_mem nv),k3,k4,k5⟩
def tP (I:Tot F rf R f) {q:Int} {es:List Ex} (hq:0<=q) (hc:R[q.toNat]?=some es.length) (h9:es.length<=9) (ws:∀ e∈es,Ws L V e) (fs:∀ e∈es,Fd e d) (as:∀ e∈es,Ar F rf R r e) (hr:r<=3) (hg:GOk F rf R L V g) (hs:cI s) (hf:s.left.toNat*76+r*19+d<=f):Tld F rf R L V s (evO F (f+2) g s (.new q es)):=by
 obtain⟨vs,g1,s1,e1,k1,k2,k3,k4,k5⟩:=kS I h9 ws fs as hr hg hs hf;exact⟨.rcd q vs,g1,s1,by show (evL F (f+1) g s es).map _=_;rw[e1];rfl,.rcd hq (by rw[k2];exact hc) k1,k3,k4,k5⟩
def tR (I:Tot F rf R f) {q i:Int} {c:Nat} {a:Ex} (hq:0<=q) (hc:R[q.toNat]?=some c) (h0:0<=i) (h1:i<(c:Int)) (wa:Ws L V a) (fa:Fd a d) (aa:Ar F rf R r a) (hr:r<=3) (hg:GOk F rf R L V g) (hs:cI s) (hf:s.left.toNat*76+r*19+d<=f):Tld F rf R L V s (evG F (f+1) g s q i a):=by
 obtain⟨v,g1,s1,e1,k1,k2,k3,k4⟩:=I a g s L V r d wa fa aa hr hg hs hf;by_cases en:s1.en.isSome=true
 · exact⟨.int 0,g1,s1,by show (evV F f g s a).bind _=_;rw[e1,Option.bind_some];exact if_pos en,.int eQ,k2,k3,k4⟩
 · have n:s1.en=none:=by cases e:s1.en with | none=>rfl | some w=>rw[e] at en;exact absurd U en
   have bad:Tld F rf R L V s (some (.int 0,g1,bV s1 (.flt "field"))):=⟨_,_,_,U,.int eQ,k2,k3.trans fM,fP k4 n⟩;show Tld F rf R L V s ((evV F f g s a).bind _);rw[e1,Option.bind_some];dsimp only;rw[if_neg en];cases k1 with
   | int _=>exact bad
   | row _ _=>exact bad
   | fn _ _ _ _ _ _ _ _=>exact bad
   | @rcd q1 xs p1 p2 p3 =>
    dsimp only;by_cases e:q1=q
    · subst e;rw[p2] at hc;cases hc;have lt:i.toNat<xs.length:=∅
      rw[if_pos U,if_pos h0,gEE lt];exact⟨_,_,_,U,p3 _ (List.getElem_mem lt),k2,k3,k4⟩
    · rw[if_neg e];exact bad
end
section
variable {F:List Fun} {rf:Nat->Nat} {R:List Nat} {f:Nat} {L V:List Int} {g:Env} {s:St} {r d:Nat}
def oU (I:Tot F rf R f) {x:Int} {b:Ex} (wb:Ws (x::L) V b) (fb:Fd b d) (ab:Ar F rf R r b) (hr:r<=3):∀ is g s,(∀ i∈is,Sml i)->GOk F rf R L V g->cI s->s.left.toNat*76+r*19+d<=f ->
 ∃ g' s',gN (evV F f) x b is g s=some (g',s')/\GOk F rf R L V g'/\Le s s'/\cI s':=by
 intro is
 induction is with
 | nil=>intro g s _ hg hs _;exact⟨g,s,U,hg,.refl,hs⟩
 | cons i is ih =>
  intro g s hi hg hs hf;obtain⟨v,g1,s1,e1,k1,k2,k3,k4⟩:=I b (put g x (.int i)) s (x::L) V r d wb fb ab hr (iw hg (.int (hi i mCS)) (λy h=>by rcases h with h | h;rcases List.mem_cons.mp h with h | h;exact .inl h;exact .inr (.inl h);exact .inr (.inr h))) hs hf;have hl:=k3.l;obtain⟨g2,s2,e2,m1,m2,m3⟩:=ih g1 s1 (λj h=>hi j (mCM _ h)) (jX k2 (λy h=>h.imp (mCM _) id)) k4 ∅;exact⟨g2,s2,by show (evV F f (put g x (.int i)) s b).bind _=_;rw[e1,Option.bind_some];exact e2,m1,k3.trans m2,m3⟩
def qv (I:Tot F rf R f) {x:Int} {a b:Ex} (wa:Ws L V a) (wb:Ws (x::L) V b) (fa:Fd a d) (fb:Fd b d) (aa:Ar F rf R r a) (ab:Ar F rf R r b) (hr:r<=3) (hg:GOk F rf R L V g) (hs:cI s) (hf:s.left.toNat*76+r*19+d<=f):Tld F rf R L V s (evE F (f+1) g s x a b):=by
 obtain⟨v,g1,s1,e1,k1,k2,k3,k4⟩:=I a g s L V r d wa fa aa hr hg hs hf;have hl:=k3.l;have hv:(bC v).length<=8/\∀ i∈bC v,Sml i:=by
  cases k1 with
  | row h1 h2=>exact⟨h1,h2⟩
  | _=>exact⟨by show 0<=8;omega,(λ_ h=>nomatch h)⟩
 obtain⟨g2,s2,e2,m1,m2,m3⟩:=oU I wb fb ab hr (bC v) g1 s1 hv.2 k2 k4 ∅;refine⟨.int 0,g2,s2,?_,.int eQ,m1,k3.trans m2,m3⟩;show (evV F f g s a).bind _=_;rw[e1,Option.bind_some];dsimp only;rw[if_pos hv.1,e2];rfl
def qr {v:EV} (h:VOk F rf R v):Sml (aZ v)/\(bC v).length<=8/\∀ i∈bC v,Sml i:=by
 cases h with
 | row h1 h2=>exact⟨eQ,h1,h2⟩
 | int h=>exact⟨h,by show 0<=8;omega,(λ_ h=>nomatch h)⟩
 | _=>exact⟨eQ,by show 0<=8;omega,(λ_ h=>nomatch h)⟩
end
section
variable {F:List Fun} {rf:Nat->Nat} {R:List Nat} {f:Nat} {L V:List Int} {g:Env} {s:St} {r d:Nat}
def rG {w:Str} {c:Nat} (ha:opA w c=true):c<=8:=by
 unfold opA at ha;simp only[Bool.or_eq_true,Bool.and_eq_true,decide_eq_true_iff] at ha
 rcases ha with (⟨_,h⟩ | ⟨_,h⟩) | ⟨_,h⟩ <;> omega
def uf {ws:List Int} (h:∀ i∈ws,Sml i) (k:Nat):Sml (nat ws k):=by
 unfold nat;cases e:ws[k]? with
 | none=>exact eQ
 | some i=>exact h i (mGE e)
def ud (i:Int):Sml (tkn i):=by unfold Sml tkn;omega
def ue {w:Str} {a b:Int}:Sml (opI w a b):=by
 unfold opI
 repeat' split
 all_goals first | exact ud _ | (unfold Sml;omega)
def xP {w:Str} {ws:List Int} {rs:List (List Int)} (ha:opA w ws.length=true) (h1:∀ i∈ws,Sml i) (h2:∀ l∈rs,l.length<=8/\∀ i∈l,Sml i):(∀ i,opR w ws rs=.int i->Sml i)/\(∀ is,opR w ws rs=.row is->is.length<=8/\∀ i∈is,Sml i):=by
 have hh:(rs.headD []).length<=8/\∀ i∈rs.headD [],Sml i:=by
  cases rs with
  | nil=>exact⟨by show 0<=8;omega,(λ_ h=>nomatch h)⟩
  | cons l rs=>exact h2 l mCS
 unfold opR;refine⟨λi e=>?_,λis e=>?_⟩
 · split at e
   · cases e
   · split at e
     · cases e;have:=hh.1;unfold Sml;omega
     · split at e
       · cases e;split <;> (unfold Sml;omega)
       · split at e
         · split at e
           · cases e;exact uf hh.2 _
           · cases e
         · split at e
           · cases e
           · cases e;exact ue
 · split at e
   · cases e;exact⟨rG ha,h1⟩
   · split at e
     · cases e
     · split at e
       · cases e
       · split at e
         · split at e <;> cases e
         · split at e <;> cases e
def xj (I:Tot F rf R f) {w:Str} {es:List Ex} (ho:opA w es.length=true) (ws:∀ e∈es,Ws L V e) (fs:∀ e∈es,Fd e d) (as:∀ e∈es,Ar F rf R r e) (hr:r<=3) (hg:GOk F rf R L V g) (hs:cI s) (hf:s.left.toNat*76+r*19+d<=f):Tld F rf R L V s (evO F (f+2) g s (.op w es)):=by
 obtain⟨vs,g1,s1,e1,k1,k2,k3,k4,k5⟩:=kS I (Nat.le_trans (rG ho) ∅) ws fs as hr hg hs hf;show Tld F rf R L V s (if opA w es.length=true then (evL F (f+1) g s es).bind _ else none);rw[if_pos ho,e1,Option.bind_some];dsimp only;by_cases en:s1.en.isSome=true
 · rw[if_pos en];exact⟨_,_,_,U,.int eQ,k3,k4,k5⟩
 · rw[if_neg en];have n:s1.en=none:=by cases e:s1.en with | none=>rfl | some w=>rw[e] at en;exact absurd U en
   have sm:vs.all (λv=>decide (Sml (aZ v))&&decide ((bC v).length<=8))=true:=by
    refine List.all_eq_true.mpr λv hv=>?_;obtain⟨q1,q2,_⟩:=qr (k1 v hv);rw[Bool.and_eq_true,decide_eq_true_iff,decide_eq_true_iff];exact⟨q1,q2⟩
   rw[if_pos sm];obtain⟨o1,o2⟩:=xP (w:=w) (ws:=vs.map aZ) (rs:=vs.map bC) (by rw[lMp,k2];exact ho) (λi hi=>by obtain⟨v,hv,rfl⟩:=List.mem_map.mp hi;exact (qr (k1 v hv)).1) (λl hl=>by obtain⟨v,hv,rfl⟩:=List.mem_map.mp hl;exact (qr (k1 v hv)).2);cases eo:opR w (vs.map aZ) (vs.map bC) with
   | int i=>exact⟨_,_,_,U,.int (o1 i eo),k3,k4,k5⟩
   | row is=>exact⟨_,_,_,U,.row (o2 is eo).1 (o2 is eo).2,k3,k4,k5⟩
   | flt w2=>exact⟨_,_,_,U,.int eQ,k3,k4.trans fM,fP k5 n⟩
end
section
variable {F:List Fun} {rf:Nat->Nat} {R:List Nat} {f:Nat} {L V:List Int} {g:Env} {s:St} {r d:Nat}
def iU:∀ (ids:List Int) (vs:List EV) {g:Env} {L:List Int},GOk F rf R L V g->(∀ v∈vs,VOk F rf R v)->ids.length=vs.length->∀ L',(∀ y∈L',y∈ids\/y∈L)->GOk F rf R L' V (dI g ids vs):=by
 intro ids
 induction ids with
 | nil =>
  intro vs g L hg _ hl L' h;cases vs with
  | nil=>exact jX hg (λy hy=>hy.imp (λc=>(h y c).resolve_left (λz=>nomatch z)) id)
  | cons _ _=>cases hl
 | cons x ids ih =>
  intro vs g L hg hv hl L' h;cases vs with
  | nil=>cases hl
  | cons v vs =>
   refine ih vs (L:=x::L) (iw hg (hv v mCS) λy hy=>?_) (λu hu=>hv u (mCM _ hu)) (Nat.succ.inj hl) L' λy hy=>?_
   · rcases hy with hy | hy
     · rcases List.mem_cons.mp hy with c | c
       · exact .inl c
       · exact .inr (.inl c)
     · exact .inr (.inr hy)
   · rcases h y hy with c | c
     · rcases List.mem_cons.mp c with c | c
       · exact .inr (c▸mCS)
       · exact .inl c
     · exact .inr (mCM _ c)
def sk (h:cI s) (n:s.en=none) (z:s.left≠0):Le s {s with left:=s.left-1}/\cI {s with left:=s.left-1}:=by
 have q:=h.go n;have hl:=h.l;exact⟨⟨by show s.left-1<=s.left;omega,λ_=>⟨n,λ_=>by show 0<=s.left-1;omega⟩,Nat.le_refl _,Nat.le_refl _⟩,⟨h.d,λ_=>⟨q.1,by show 0<=s.left-1;omega⟩,by show s.left-1<=8;omega⟩⟩
def mV (h:cI s) (n:s.en=none) (z:s.left=0):Le s (cb s).2/\cI (cb s).2:=by
 have e:(cb s).2={s with en:=some .dry,left:=s.left-1}:=by
  unfold cb bV;rw[if_pos z,n]
 have hl:=h.l;rw[e];exact⟨⟨by show s.left-1<=s.left;omega,(λc=>nomatch c),Nat.le_refl _,Nat.le_refl _⟩,⟨h.d,(λc=>nomatch c),by show s.left-1<=8;omega⟩⟩
end
section
variable {F:List Fun} {rf:Nat->Nat} {R:List Nat} {f:Nat} {L V:List Int} {g:Env} {s:St} {r d:Nat}
def FOk (F:List Fun) (rf:Nat->Nat) (R:List Nat):Prop:=∀ (k:Nat) (fn:Fun),F[k]?=some fn->Ws ((List.range fn.ct).map Int.ofNat) [] fn.bd/\Fd fn.bd 23/\Ar F rf R (if fn.hd="deep" then 3 else rf k) fn.bd/\rf k<=3
def tS (FO:FOk F rf R) (I0:Tot F rf R f) (I:Tot F rf R (f+1)) {k:Int} {es:List Ex} {fn:Fun} (hk:0<=k) (ef:F[k.toNat]?=some fn) (hl:es.length=fn.ct) (h9:es.length<=9) (hd:fn.hd="deep"\/rf k.toNat<r) (ws:∀ e∈es,Ws L V e) (h3:3<=d) (fs:∀ e∈es,Fd e d) (as:∀ e∈es,Ar F rf R r e) (hr:r<=3) (hg:GOk F rf R L V g) (hs:cI s) (hf:s.left.toNat*76+r*19+d<=f):Tld F rf R L V s (evC F (f+2) g s k es):=by
 obtain⟨vs,g1,s1,e1,k1,k2,k3,k4,k5⟩:=kS I0 h9 ws fs as hr hg hs hf;obtain⟨b1,b2,b3,b4⟩:=FO _ _ ef;show Tld F rf R L V s ((evL F (f+1) g s es).bind _);rw[e1,Option.bind_some];dsimp only;rw[if_pos hk,ef,Option.bind_some];by_cases en:s1.en.isSome=true
 · rw[if_pos en];exact⟨_,_,_,U,.int eQ,k3,k4,k5⟩
 · rw[if_neg en];have n:s1.en=none:=by cases e:s1.en with | none=>rfl | some w=>rw[e] at en;exact absurd U en
   have hll:=k4.l;have gp:GOk F rf R ((List.range fn.ct).map Int.ofNat) [] (dI [] ((List.range fn.ct).map Int.ofNat) vs):=iU _ vs (L:=[]) (λy h=>by rcases h with h | h <;> cases h) k1 (by rw[lMp,List.length_range,k2,hl]) _ (λy h=>.inl h);by_cases h1:fn.hd="deep"
   · by_cases el:s1.left=0
     · obtain⟨t1,t2,t3⟩:=dX n el;rw[if_pos ⟨h1,t1⟩];obtain⟨q1,q2⟩:=mV k5 n el;exact⟨_,_,_,U,.int eQ,k3,k4.trans q1,q2⟩
     · obtain⟨t1,t2⟩:=fJ n el;obtain⟨q1,q2⟩:=sk k5 n el;have p0:=(k5.go n).2;rw[if_neg (λc=>by rw[t1] at c;exact absurd c.2 (λh=>nomatch h)),if_pos (by rw[k2,hl]),if_pos h1,t2];rw[if_pos h1] at b3;obtain⟨v2,g2,s2,e2,m1,m2,m3,m4⟩:=I fn.bd _ {s1 with left:=s1.left-1} _ [] 3 23 b1 b2 b3 ∅ gp q2 (by show (s1.left-1).toNat*76+3*19+23<=f+1;omega);rw[e2];exact⟨_,_,_,U,m1,k3,(k4.trans q1).trans m3,m4⟩
   · rw[if_neg (λc=>h1 c.1),if_pos (by rw[k2,hl]),if_neg h1];rw[if_neg h1] at b3;have hlt:=hd.resolve_left h1;obtain⟨v2,g2,s2,e2,m1,m2,m3,m4⟩:=I fn.bd _ s1 _ [] (rf k.toNat) 23 b1 b2 b3 b4 gp k5 ∅;rw[e2];exact⟨_,_,_,U,m1,k3,k4.trans m3,m4⟩
end
section
variable {F:List Fun} {rf:Nat->Nat} {R:List Nat} {f:Nat} {L V:List Int} {g:Env} {s:St} {r d:Nat}
def tU (I0:Tot F rf R f) (I:Tot F rf R (f+1)) {a:Ex} {es:List Ex} (wa:Ws L V a) (h3:3<=d) (fa:Fd a (d+1)) (aa:Ar F rf R r a) (h9:es.length<=9) (ws:∀ e∈es,Ws L V e) (fs:∀ e∈es,Fd e d) (as:∀ e∈es,Ar F rf R r e) (hr:r<=3) (hg:GOk F rf R L V g) (hs:cI s) (hf:s.left.toNat*76+r*19+d<=f):Tld F rf R L V s (evA F (f+2) g s a es):=by
 obtain⟨v0,g0,s0,e0,j1,j2,j3,j4⟩:=I a g s L V r (d+1) wa fa aa hr hg hs ∅;have hl0:=j3.l;obtain⟨vs,g1,s1,e1,k1,k2,k3,k4,k5⟩:=kS (s:=s0) I0 h9 ws fs as hr j2 j4 ∅;show Tld F rf R L V s ((evV F (f+1) g s a).bind _);rw[e0,Option.bind_some];dsimp only;rw[e1,Option.bind_some];dsimp only;have k4:=j3.trans k4;by_cases en:s1.en.isSome=true
 · rw[if_pos en];exact⟨_,_,_,U,.int eQ,k3,k4,k5⟩
 · rw[if_neg en];have n:s1.en=none:=by cases e:s1.en with | none=>rfl | some w=>rw[e] at en;exact absurd U en
   have hll:=k4.l;have bad:Tld F rf R L V s (some (.int 0,g1,bV s1 (.flt "apply"))):=⟨_,_,_,U,.int eQ,k3,k4.trans fM,fP k5 n⟩;cases j1 with
   | int _=>exact bad
   | row _ _=>exact bad
   | rcd _ _ _=>exact bad
   | @fn ids e g3 L0 ge h1 h2 hn hw hfd har hl =>
    dsimp only;by_cases hle:ids.length=vs.length
    · rw[if_pos hle];by_cases el:s1.left=0
      · obtain⟨t1,t2,t3⟩:=dX n el;rw[if_neg (by rw[t1];exact λh=>nomatch h)];obtain⟨q1,q2⟩:=mV k5 n el;exact⟨_,_,_,U,.int eQ,k3,k4.trans q1,q2⟩
      · obtain⟨t1,t2⟩:=fJ n el;obtain⟨q1,q2⟩:=sk k5 n el;have p0:=(k5.go n).2;rw[if_pos t1,t2];have gp:GOk F rf R (ids++L0) [] (dI g3 ids vs):=iU ids vs (L:=L0) (λy h=>by rcases h with h | h;exact⟨ge y,h1 y h,h2 y h⟩;cases h) k1 hle _ (λy h=>mAp.mp h);obtain⟨v2,g2,s2,e2,m1,m2,m3,m4⟩:=I e _ {s1 with left:=s1.left-1} _ [] 3 23 hw hfd har ∅ gp q2 (by show (s1.left-1).toNat*76+3*19+23<=f+1;omega);rw[e2];exact⟨_,_,_,U,m1,k3,(k4.trans q1).trans m3,m4⟩
    · rw[if_neg hle];exact bad
end
section
variable {F:List Fun} {rf:Nat->Nat} {R:List Nat} {f:Nat} {L V:List Int} {g:Env} {s:St} {r d:Nat}
def qu (I0:Tot F rf R f) (I:Tot F rf R (f+1)) {a b:Ex} (wa:Ws L V a) (wb:Ws L V b) (fa:Fd a d) (fb:Fd b (d+1)) (aa:Ar F rf R r a) (ab:Ar F rf R r b) (hr:r<=3):∀ c g s,GOk F rf R L V g->cI s->s.left.toNat*76+r*19+d<=f->s.left.toNat+2<=c ->
 ∃ g' s',iA (λg s=>evH F (f+1) g s a) (evV F (f+1)) b c g s=some (g',s')/\GOk F rf R L V g'/\Le s s'/\cI s':=by
 intro c
 induction c with
 | zero=>intro g s _ _ _ h;omega
 | succ c ih =>
  intro g s hg hs hf hc;obtain⟨v1,g1,s1,e1,k1,k2,k3,k4⟩:=I0 a g s L V r d wa fa aa hr hg hs hf;have hl:=k3.l;have eh:evH F (f+1) g s a=some (s1.en.isNone&&decide (aZ v1≠0),g1,s1):=by show (evV F f g s a).map _=_;rw[e1];rfl
  show ∃ g' s',(evH F (f+1) g s a).bind _=some (g',s')/\_;rw[eh,Option.bind_some];dsimp only;by_cases q:(s1.en.isNone&&decide (aZ v1≠0))=false
  · rw[if_pos q];exact⟨_,_,U,k2,k3,k4⟩
  · rw[if_neg q];have n:s1.en=none:=by cases e:s1.en with | none=>rfl | some w=>rw[e] at q;exact absurd U q
    by_cases el:s1.left=0
    · obtain⟨t1,t2,t3⟩:=dX n el;obtain⟨q1,q2⟩:=mV k4 n el;rw[if_pos t1];exact⟨_,_,U,k2,k3.trans q1,q2⟩
    · obtain⟨t1,t2⟩:=fJ n el;obtain⟨q1,q2⟩:=sk k4 n el;have p0:=(k4.go n).2;rw[if_neg (by rw[t1];exact λh=>nomatch h),t2];obtain⟨v2,g2,s2,e2,m1,m2,m3,m4⟩:=I b g1 {s1 with left:=s1.left-1} L V r (d+1) wb fb ab hr k2 q2 (by show (s1.left-1).toNat*76+r*19+(d+1)<=f+1;omega);have hl2:s2.left<=s1.left-1:=m3.l;rw[e2,Option.bind_some];obtain⟨g3,s3,e3,p1,p2,p3⟩:=ih g2 s2 m2 m4 ∅ ∅;exact⟨g3,s3,e3,p1,((k3.trans q1).trans m3).trans p2,p3⟩
end
section
variable {F:List Fun} {rf:Nat->Nat} {R:List Nat} {f:Nat} {L V:List Int} {g:Env} {s:St} {r d:Nat}
def tL (I0:Tot F rf R f) (I:Tot F rf R (f+1)) {a b:Ex} (wa:Ws L V a) (wb:Ws L V b) (fa:Fd a d) (fb:Fd b (d+1)) (aa:Ar F rf R r a) (ab:Ar F rf R r b) (hr:r<=3) (hg:GOk F rf R L V g) (hs:cI s) (hf:s.left.toNat*76+r*19+d<=f):Tld F rf R L V s (evW F (f+2) g s a b):=by
 have:=hs.l;obtain⟨g',s',e,k1,k2,k3⟩:=qu I0 I wa wb fa fb aa ab hr 12 g s hg hs hf ∅;exact⟨.int 0,g',s',by show Option.map _ (iA _ _ b 12 g s)=_;rw[e];rfl,.int eQ,k1,k2,k3⟩
def tV (FO:FOk F rf R):∀ f,Tot F rf R f:=by
 intro f
 induction f using Nat.strongRecOn with
 | ind f ih =>
  intro e g s L V r d ws fd ar hr hg hs hf;cases f with
  | zero=>cases fd <;> omega
  | succ f =>
   have hb:=pR hs;have lb:=oj (s:=s);have lf:=lb.l;have fin:∀ X:Option K19.R,((aW s).en=none->Tld F rf R L V (aW s) X)->∃ v g' s',(if (aW s).en.isSome=true then some (.int 0,g,aW s) else X)=some (v,g',s')/\VOk F rf R v/\GOk F rf R L V g'/\Le s s'/\cI s':=by
    intro X hX;by_cases c:(aW s).en.isSome=true
    · rw[if_pos c];exact⟨_,_,_,U,.int eQ,hg,lb,hb⟩
    · rw[if_neg c];obtain⟨v,g',s',e1,e2,e3,e4,e5⟩:=hX (by cases e:(aW s).en with | none=>rfl | some w=>rw[e] at c;exact absurd rfl c);exact⟨v,g',s',e1,e2,e3,lb.trans e4,e5⟩
   cases fd with
   | num =>
    cases ar with | num h=>exact fin _ λ_=>⟨_,_,_,U,.int h,hg,.refl,hb⟩
   | @nam x =>
    cases ws with
    | nam hx =>
     obtain⟨v,e1,hv⟩:=hg x hx;exact fin _ λ_=>⟨v,g,aW s,by rw[e1];rfl,hv,hg,.refl,hb⟩
   | fn h =>
    cases ar with
    | fn h9 ha =>
     cases ws with
     | fn hn h1 wa =>
      refine fin _ λ_=>⟨_,_,_,U,?_,hg,.refl,hb⟩;have hL:∀ x∈L,∃ v,g.lookup x=some v/\VOk F rf R v:=λx hx=>hg x (.inl hx);refine .fn (L:=L) (λx=>(g.lookup x).getD (.int 0)) (λx hx=>?_) (λx hx=>?_) hn wa h ha h9
      · obtain⟨v,e,_⟩:=hL x hx;rw[e];rfl
      · obtain⟨v,e,hv⟩:=hL x hx;rw[e];exact hv
   | flt =>
    match f,hf,ih with
    | 0,hf,_=>omega
    | f+1,hf,ih=>exact fin _ λn=>⟨_,_,_,U,.int eQ,hg,fM,fP hb n⟩
   | bnd ha hb' =>
    match f,hf,ih with
    | 0,hf,_=>omega
    | f+1,hf,ih=>cases ar with | bnd aa ab=>exact fin _ λn=>tT (ih f ∅) ws ha hb' aa ab hr hg hb ∅
   | each ha hb' =>
    match f,hf,ih with
    | 0,hf,_=>omega
    | f+1,hf,ih=>cases ar with | each aa ab=>cases ws with | each wa _ _ wb=>exact fin _ λn=>qv (ih f ∅) wa wb ha hb' aa ab hr hg hb ∅
   | set ha =>
    match f,hf,ih with
    | 0,hf,_=>omega
    | f+1,hf,ih=>cases ar with | set aa=>cases ws with | set _ _ wa=>exact fin _ λn=>tM (ih f ∅) wa ha aa hr hg hb ∅
   | @say a d ha =>
    match f,hf,ih with
    | 0,hf,_=>omega
    | f+1,hf,ih =>
     cases ar with
     | say aa =>
      cases ws with
      | say wa =>
       by_cases c:(aW s).en.isSome=true
       · exact⟨_,_,_,if_pos c,.int eQ,hg,lb,hb⟩
       · have n:(aW s).en=none:=by cases e:(aW s).en with | none=>rfl | some w=>rw[e] at c;exact absurd U c
         have bs:(aW s).D=s.D/\(aW s).steps=s.steps+1:=by
          have n0:=(lb.p n).1;unfold aW at n ⊢;by_cases z:s.steps+1>4000
          · rw[if_pos z] at n;unfold bV at n;simp only[n0] at n;cases n
          · rw[if_neg z];exact⟨U,U⟩
         have h1:(aW s).D.length+1<=(aW s).steps:=by rw[bs.1,bs.2];have:=hs.d;omega
         obtain⟨v,g',s',e1,e2,e3,e4,e5,e6,e7,e8⟩:=tO (ih f ∅) wa ha aa hr hg hb h1 ∅;refine⟨v,g',s',(if_neg c).trans e1,e2,e3,⟨Int.le_trans e4 lf,λe=>?_,?_,?_⟩,e8⟩
         · obtain⟨q1,q2⟩:=e5 e;obtain⟨q3,q4⟩:=lb.p q1;exact⟨q3,λz=>q2 (q4 z)⟩
         · rw[bs.1,bs.2] at e6;omega
         · rw[bs.2] at e7;omega
   | get ha =>
    match f,hf,ih with
    | 0,hf,_=>omega
    | f+1,hf,ih=>cases ar with | get hq h h0 h1 aa=>cases ws with | get wa=>exact fin _ λn=>tR (ih f ∅) hq h h0 h1 wa ha aa hr hg hb ∅
   | ite ha hb' he =>
    match f,hf,ih with
    | 0,hf,_=>omega
    | f+1,hf,ih=>cases ar with | ite aa ab ae=>cases ws with | ite wa wb we=>exact fin _ λn=>tQ (ih f ∅) wa wb we ha hb' he aa ab ae hr hg hb ∅
   | whl ha hb' =>
    match f,hf,ih with
    | 0,hf,_=>omega
    | 1,hf,_=>omega
    | f+2,hf,ih=>cases ar with | whl aa ab=>cases ws with | whl wa wb=>exact fin _ λn=>tL (ih f ∅) (ih (f+1) ∅) wa wb ha hb' aa ab hr hg hb ∅
   | seq h =>
    match f,hf,ih with
    | 0,hf,_=>omega
    | 1,hf,_=>omega
    | f+2,hf,ih=>cases ar with | seq h0 h9 as=>cases ws with | seq wl=>exact fin _ λn=>xi (ih f ∅) h0 h9 wl h as hr hg hb ∅
   | op h =>
    match f,hf,ih with
    | 0,hf,_=>omega
    | 1,hf,_=>omega
    | f+2,hf,ih=>cases ar with | op ho as=>cases ws with | op wl=>exact fin _ λn=>xj (ih f ∅) ho wl h as hr hg hb ∅
   | new h =>
    match f,hf,ih with
    | 0,hf,_=>omega
    | 1,hf,_=>omega
    | f+2,hf,ih=>cases ar with | new hq hc h9 as=>cases ws with | new wl=>exact fin _ λn=>tP (ih f ∅) hq hc h9 wl h as hr hg hb ∅
   | app h3 ha h =>
    match f,hf,ih with
    | 0,hf,_=>omega
    | 1,hf,_=>omega
    | f+2,hf,ih=>cases ar with | app aa h9 as=>cases ws with | app wa wl=>exact fin _ λn=>tU (ih f ∅) (ih (f+1) ∅) wa h3 ha aa h9 wl h as hr hg hb ∅
   | cal h3 h =>
    match f,hf,ih with
    | 0,hf,_=>omega
    | 1,hf,_=>omega
    | f+2,hf,ih=>cases ar with | cal hk ef hl h9 hd as=>cases ws with | cal wl=>exact fin _ λn=>tS FO (ih f ∅) (ih (f+1) ∅) hk ef hl h9 hd wl h3 h as hr hg hb ∅
end
def wB (w:Bool):Str:=if w=true then "var" else "let"
mutual
def exD:Ex->PyData
  | .num i=>.tuple [.str "number",.int i]
  | .nam x=>.tuple [.str "name",.int x]
  | .bnd w x a b=>.tuple [.str (wB w),.int x,exD a,exD b]
  | .each x a b=>.tuple [.str "each",.int x,exD a,exD b]
  | .set x a=>.tuple [.str "set",.int x,exD a]
  | .seq es=>.tuple [.str "do",.tuple (cx es)]
  | .ite a b d=>.tuple [.str "if",exD a,exD b,exD d]
  | .whl a b=>.tuple [.str "while",exD a,exD b]
  | .say a=>.tuple [.str "say",exD a]
  | .flt w=>.tuple [.str "fault",.str w]
  | .op w es=>.tuple [.str "op",.str w,.tuple (cx es)]
  | .new r es=>.tuple [.str "new",.int r,.tuple (cx es)]
  | .get r i a=>.tuple [.str "get",.int r,.int i,exD a]
  | .fn ids a=>.tuple [.str "fun",.tuple (ids.map .int),exD a]
  | .app a es=>.tuple [.str "apply",exD a,.tuple (cx es)]
  | .cal f es=>.tuple [.str "call",.int f,.tuple (cx es)]
def cx:List Ex->PDs
  | []=>[]
  | e::es=>exD e::cx es
end
def gL:∀ es:List Ex,cx es=es.map exD
 | []=>rfl
 | e::es=>by rw[List.map_cons,<- gL es];rfl
def fnD (f:Fun):PyData:=.tuple [.str f.hd,.int ((f.ct:Nat):Int),exD f.bd]
structure Ks where
  cm:Addr
  cf:Addr
  cc:Addr
structure Ad where
  m:Addr
  dx:Addr
  wa:Addr
  ta:Addr
  da:Addr
  vf:V
  bs:List Addr
def Ad.own (A:Ad) (a:Addr):Prop:=a=A.m\/a=A.wa\/a=A.ta\/a=A.da
def Ad.av (A:Ad) (a:Addr):Prop:=A.own a\/a∈A.bs
def Ad.more (A:Ad) (t:List Addr):Ad:={A with bs:=A.bs++t}
section
variable (K:Fg) (c:Ks) (A:Ad) (H:Hp)
inductive NmV:V->Nm->Prop
  | nil:NmV .non []
  | cons {a bx:Addr} {vn:V} {n:Int} {k:Nat} {nm:Nm} (h:SqT K H a [.int n,.ref bx,vn]) (hb:A.bs[k]?=some bx) (hn:NmV vn nm):NmV (.ref a) ((n,k)::nm)
inductive VlV:V->Vl->Prop
  | int (i:Int):VlV (.int i) (.int i)
  | tup {a:Addr} {is:List Int} (h:SqT K H a (is.map V.int)):VlV (.ref a) (.tup is)
  | made {x dx l:Addr} {us:List V} {r:Int} {xs:List Vl} (h:H x=some (.ins c.cm dx [("record",.int r),("things",.ref l)])) (hl:H l=some (.lst us)) (n1:¬ A.av x) (n2:¬ A.av l) (hz:us.length=xs.length) (hu:∀ (i:Nat) (u:V) (y:Vl),us[i]?=some u->xs[i]?=some y->VlV u y):VlV (.ref x) (.made r xs)
  | fn {x dx t:Addr} {vb vn:V} {ids:List Int} {e:Ex} {n:Nm} (h:H x=some (.ins c.cf dx [("ids",.ref t),("body",vb),("names",vn)])) (ht:SqT K H t (ids.map V.int)) (hb:TD K H vb (exD e)) (hn:NmV K A H vn n) (n1:¬ A.av x):VlV (.ref x) (.fn ids e n)
inductive ku:V->Tsk->Prop
  | mk {a:Addr} {ve vn:V} {t:Tsk} (h:SqT K H a [.str t.t,ve,vn,.int ((t.c:Nat):Int)]) (he:TD K H ve (exD t.e)) (hn:NmV K A H vn t.n):ku (.ref a) t
inductive LkV:V->Lk->Prop
  | int (i:Int):LkV (.int i) (.int i)
  | tup {a:Addr} {is:List Int} (h:SqT K H a (is.map V.int)):LkV (.ref a) (.tup is)
  | thing:LkV (.str "thing") .thing
inductive EnV:V->Option En->Prop
  | non:EnV .non none
  | flt {a:Addr} {w:Str} (h:SqT K H a [.str "fault",.str w]):EnV (.ref a) (some (.flt w))
  | dry {a:Addr} (h:SqT K H a [.str "dry"]):EnV (.ref a) (some .dry)
inductive BxV:Addr->Bool×Vl->Prop
  | mk {a:Addr} {p:Bool×Vl} {v:V} (h:H a=some (.lst [v])) (hv:VlV K c A H v p.2):BxV a p
end
def mF (A:Ad) (k:Int) (ve:V):List (Str×V):=[("functions",A.vf),("ticks",.int k),("waiting",.ref A.wa),("told",.ref A.ta),("deeds",.ref A.da),("end",ve)]
structure Di (A:Ad):Prop where
  mw:A.m≠A.wa
  mt:A.m≠A.ta
  md:A.m≠A.da
  wt:A.wa≠A.ta
  wd:A.wa≠A.da
  td:A.ta≠A.da
  nb:∀ a∈A.bs,¬ A.own a
  un:A.bs.Nodup
structure MV (K:Fg) (c:Ks) (A:Ad) (H:Hp) (S:MS):Prop where
  d:Di A
  m:∃ ve,H A.m=some (.ins c.cc A.dx (mF A S.k ve))/\EnV K H ve S.en
  w:∃ ws,H A.wa=some (.lst ws)/\Paired (ku K A H) ws S.W
  t:∃ ts,H A.ta=some (.lst ts)/\Paired (VlV K c A H) ts S.T
  s:∃ ds,H A.da=some (.lst ds)/\Paired (LkV K H) ds S.D
  b:Paired (BxV K c A H) A.bs S.B
  zw:S.W.length<=30000
  zt:S.T.length<=30000
  zd:S.D.length<=30000
structure Fr (A A':Ad) (H H':Hp):Prop where
  ex:∃ t,A'=A.more t
  kp:∀ a u,¬ A.av a->H a=some u->H' a=some u/\¬ A'.av a
  tk:Tk H H'
section
variable {K:Fg} {c:Ks} {A A' A2:Ad} {H H' H2:Hp}
def iS:A.more []=A:=by show ({A with bs:=A.bs++[]}:Ad)=A;rw[List.append_nil]
def p9 {s t:List Addr}:(A.more s).more t=A.more (s++t):=by show ({A with bs:=A.bs++s++t}:Ad)=_;rw[List.append_assoc];rfl
def Fr.refl:Fr A A H H:=⟨⟨[],iS.symm⟩,λ_ _ n h=>⟨h,n⟩,λ_ _ h=>h⟩
def Fr.trans (f:Fr A A' H H') (g:Fr A' A2 H' H2):Fr A A2 H H2:=⟨by obtain⟨s,rfl⟩:=f.ex;obtain⟨t,rfl⟩:=g.ex;exact⟨_,p9⟩,λa u n h=>by obtain⟨p,q⟩:=f.kp a u n h;exact g.kp a u q p,λa xs h=>g.tk a xs (f.tk a xs h)⟩
def Fr.of (s:aI H H'):Fr A A H H':=⟨⟨[],iS.symm⟩,λa u n h=>⟨s a u h,n⟩,s.tk⟩
def Fr.bs (f:Fr A A' H H') {k:Nat} {a:Addr} (h:A.bs[k]?=some a):A'.bs[k]?=some a:=by
 obtain⟨t,rfl⟩:=f.ex;show (A.bs++t)[k]?=some a;rw[List.getElem?_append_left (gES.mp h).1];exact h
def NmV.fr {v:V} {n:Nm} (h:NmV K A H v n) (f:Fr A A' H H'):NmV K A' H' v n:=by
 induction h with
 | nil=>exact .nil
 | cons h hb _ ih=>exact .cons (h.tk f.tk) (f.bs hb) ih
def VlV.fr {v:V} {x:Vl} (h:VlV K c A H v x) (f:Fr A A' H H'):VlV K c A' H' v x:=by
 induction h with
 | int i=>exact .int i
 | tup h=>exact .tup (h.tk f.tk)
 | made h hl n1 n2 hz _ ih =>
  obtain⟨a1,a2⟩:=f.kp _ _ n1 h;obtain⟨b1,b2⟩:=f.kp _ _ n2 hl;exact .made a1 b1 a2 b2 hz ih
 | fn h ht hb hn n1 =>
  obtain⟨a1,a2⟩:=f.kp _ _ n1 h;exact .fn a1 (ht.tk f.tk) (hb.tk f.tk) (hn.fr f) a2
def ku.fr {v:V} {t:Tsk} (h:ku K A H v t) (f:Fr A A' H H'):ku K A' H' v t:=by
 cases h with
 | mk h he hn=>exact .mk (h.tk f.tk) (he.tk f.tk) (hn.fr f)
def LkV.fr {v:V} {t:Lk} (h:LkV K H v t) (f:Fr A A' H H'):LkV K H' v t:=by
 cases h with
 | int i=>exact .int i
 | tup h=>exact .tup (h.tk f.tk)
 | thing=>exact .thing
def EnV.fr {v:V} {t:Option En} (h:EnV K H v t) (f:Fr A A' H H'):EnV K H' v t:=by
 cases h with
 | non=>exact .non
 | flt h=>exact .flt (h.tk f.tk)
 | dry h=>exact .dry (h.tk f.tk)
def ah {α β:Type} {R S:α->β->Prop} {xs:List α} {ys:List β} (h:Paired R xs ys) (i:∀ a b,R a b->S a b):Paired S xs ys:=by
 induction h with
 | nil=>exact .nil
 | cons z _ ih=>exact .cons (i _ _ z) ih
def bK {α β:Type} {R:α->β->Prop} {xs xs':List α} {ys ys':List β} (h:Paired R xs ys) (g:Paired R xs' ys'):Paired R (xs++xs') (ys++ys'):=by
 induction h with
 | nil=>exact g
 | cons z _ ih=>exact .cons z ih
def aA {α β:Type} {R:α->β->Prop} {xs:List α} {ys:List β} (h:Paired R xs ys):xs.length=ys.length:=by
 induction h with
 | nil=>rfl
 | cons z _ ih=>rw[List.length_cons,List.length_cons,ih]
def i9 {α β:Type} {R:α->β->Prop} {xs:List α} {ys:List β} (h:Paired R xs ys):∀ n,Paired R (xs.drop n) (ys.drop n):=by
 induction h with
 | nil=>intro n;cases n <;> exact .nil
 | cons z r ih =>
  intro n;cases n with
  | zero=>exact .cons z r
  | succ n=>exact ih n
def lj {α β:Type} {R:α->β->Prop} {xs:List α} {ys:List β} (h:Paired R xs ys):∀ n,Paired R (xs.take n) (ys.take n):=by
 induction h with
 | nil=>intro n;cases n <;> exact .nil
 | cons z r ih =>
  intro n;cases n with
  | zero=>exact .nil
  | succ n=>exact .cons z (ih n)
def aJ {α β:Type} {R:α->β->Prop} {xs:List α} {ys:List β} (h:Paired R xs ys):∀ {i:Nat} {y:β},ys[i]?=some y->∃ x,xs[i]?=some x/\R x y:=by
 induction h with
 | nil=>intro i y e;cases e
 | cons z r ih =>
  intro i y e;cases i with
  | zero=>cases e;exact⟨_,U,z⟩
  | succ i=>exact ih e
def ba {α β:Type} {R:α->β->Prop} {xs:List α} {ys:List β} (h:Paired R xs ys):∀ {i:Nat} {x:α} {y:β},xs[i]?=some x->ys[i]?=some y->R x y:=by
 intro i x y e1 e2;obtain⟨x',e3,r⟩:=aJ h e2;rw[e1] at e3;cases e3;exact r
def hV {α β:Type} {R:α->β->Prop}:∀ {xs:List α} {ys:List β},xs.length=ys.length->(∀ (i:Nat) (x:α) (y:β),xs[i]?=some x->ys[i]?=some y->R x y)->Paired R xs ys:=by
 intro xs
 induction xs with
 | nil=>intro ys h _;cases ys with | nil=>exact .nil | cons y r=>cases h
 | cons x r ih =>
  intro ys h g;cases ys with
  | nil=>cases h
  | cons y q=>exact .cons (g 0 x y U U) (ih (Nat.succ.inj h) λi x y a b=>g (i+1) x y a b)
def MV.notup {S:MS} (h:MV K c A H S) {a:Addr} {xs:List V} (o:A.av a):¬ (H a=some (.tup xs)\/∃ o,H a=some (.frz o (.tup xs))):=by
 obtain⟨ve,h1,_⟩:=h.m;obtain⟨ws,h2,_⟩:=h.w;obtain⟨ts,h3,_⟩:=h.t;obtain⟨ds,h4,_⟩:=h.s
 rcases o with (rfl | rfl | rfl | rfl) | hb
 · rintro (z | ⟨_,z⟩) <;> (rw[h1] at z;cases z)
 · rintro (z | ⟨_,z⟩) <;> (rw[h2] at z;cases z)
 · rintro (z | ⟨_,z⟩) <;> (rw[h3] at z;cases z)
 · rintro (z | ⟨_,z⟩) <;> (rw[h4] at z;cases z)
 · obtain⟨i,hi,rfl⟩:=List.getElem_of_mem hb;have hl:i<S.B.length:=by rw[<- aA h.b];exact hi
   have z0:=ba h.b (gEE hi) (gEE hl);cases z0 with
   | mk z1 _=>rintro (z | ⟨_,z⟩) <;> (rw[z1] at z;cases z)
def MV.isS {S:MS} (h:MV K c A H S) {a:Addr} (o:A.av a):H a≠none:=by
 obtain⟨ve,h1,_⟩:=h.m;obtain⟨ws,h2,_⟩:=h.w;obtain⟨ts,h3,_⟩:=h.t;obtain⟨ds,h4,_⟩:=h.s
 rcases o with (rfl | rfl | rfl | rfl) | hb
 · rw[h1];exact λz=>nomatch z
 · rw[h2];exact λz=>nomatch z
 · rw[h3];exact λz=>nomatch z
 · rw[h4];exact λz=>nomatch z
 · obtain⟨i,hi,rfl⟩:=List.getElem_of_mem hb;have hl:i<S.B.length:=by rw[<- aA h.b];exact hi
   have z0:=ba h.b (gEE hi) (gEE hl);cases z0 with
   | mk z1 _=>rw[z1];exact λz=>nomatch z
def MV.new {S:MS} (h:MV K c A H S) {p:Addr} (hp:H p=none):¬ A.av p:=λo=>h.isS o hp
def MV.upd_fv {S:MS} {a:Addr} {o:HO} (h:MV K c A H S) (ha:A.av a):Fr A A H (upd H a o) :=
 ⟨⟨[],iS.symm⟩,λb u n e=>by
   have nb:b≠a:=λz=>n (by rw[z];exact ha);rw[af nb];exact⟨e,n⟩,λb xs z=>by
   have n:b≠a:=λe=>h.notup (show A.av b by rw[e];exact ha) z
   rcases z with z | ⟨o',z⟩
   · exact .inl (by rw[af n];exact z)
   · exact .inr ⟨o',by rw[af n];exact z⟩⟩
def MV.upd_fr {S:MS} {a:Addr} {o:HO} (h:MV K c A H S) (ha:A.own a):Fr A A H (upd H a o):=h.upd_fv (.inl ha)
def kn {B:List (Bool×Vl)} (p:Paired (BxV K c A H) A.bs B) (f:Fr A A' H H') (k:∀ a∈A.bs,∀ v,H a=some (.lst [v])->H' a=some (.lst [v])):Paired (BxV K c A' H') A.bs B:=by
 refine hV (aA p) λi x y e1 e2=>?_;have z:=ba p e1 e2;cases z with
 | mk h hv=>exact .mk (k _ (mGE e1) _ h) (hv.fr f)
def MV.bown {S:MS} (h:MV K c A H S) {a:Addr} {o:HO} (ha:A.own a):Paired (BxV K c A (upd H a o)) A.bs S.B:=by
 refine kn h.b (h.upd_fr ha) λb hb v z=>?_;have n:b≠a:=λe=>h.d.nb b hb (by rw[e];exact ha);rw[af n];exact z
def MV.same {S:MS} (h:MV K c A H S) (s:aI H H'):MV K c A H' S:=by
 obtain⟨ve,h1,e1⟩:=h.m;obtain⟨ws,h2,e2⟩:=h.w;obtain⟨ts,h3,e3⟩:=h.t;obtain⟨ds,h4,e4⟩:=h.s;have f:Fr A A H H':=.of s;exact⟨h.d,⟨ve,s _ _ h1,e1.fr f⟩,⟨ws,s _ _ h2,ah e2 λ_ _ z=>z.fr f⟩,⟨ts,s _ _ h3,ah e3 λ_ _ z=>z.fr f⟩,⟨ds,s _ _ h4,ah e4 λ_ _ z=>z.fr f⟩,kn h.b f λ_ _ _ z=>s _ _ z,h.zw,h.zt,h.zd⟩
def MV.putW {S:MS} {ws:List V} {W:List Tsk} (h:MV K c A H S) (p:Paired (ku K A H) ws W) (z:W.length<=30000):MV K c A (upd H A.wa (.lst ws)) {S with W:=W}:=by
 obtain⟨ve,h1,e1⟩:=h.m;obtain⟨ts,h3,e3⟩:=h.t;obtain⟨ds,h4,e4⟩:=h.s;have f:Fr A A H (upd H A.wa (.lst ws)):=h.upd_fr (.inr (.inl U));exact⟨h.d,⟨ve,by rw[af h.d.mw];exact h1,e1.fr f⟩,⟨ws,pE,ah p λ_ _ z=>z.fr f⟩,⟨ts,by rw[af h.d.wt.symm];exact h3,ah e3 λ_ _ z=>z.fr f⟩,⟨ds,by rw[af h.d.wd.symm];exact h4,ah e4 λ_ _ z=>z.fr f⟩,h.bown (.inr (.inl U)),z,h.zt,h.zd⟩
def MV.putT {S:MS} {ts:List V} {T:List Vl} (h:MV K c A H S) (p:Paired (VlV K c A H) ts T) (z:T.length<=30000):MV K c A (upd H A.ta (.lst ts)) {S with T:=T}:=by
 obtain⟨ve,h1,e1⟩:=h.m;obtain⟨ws,h2,e2⟩:=h.w;obtain⟨ds,h4,e4⟩:=h.s;have f:Fr A A H (upd H A.ta (.lst ts)):=h.upd_fr (.inr (.inr (.inl U)));exact⟨h.d,⟨ve,by rw[af h.d.mt];exact h1,e1.fr f⟩,⟨ws,by rw[af h.d.wt];exact h2,ah e2 λ_ _ z=>z.fr f⟩,⟨ts,pE,ah p λ_ _ z=>z.fr f⟩,⟨ds,by rw[af h.d.td.symm];exact h4,ah e4 λ_ _ z=>z.fr f⟩,h.bown (.inr (.inr (.inl U))),h.zw,z,h.zd⟩
def MV.putD {S:MS} {ds:List V} {D:List Lk} (h:MV K c A H S) (p:Paired (LkV K H) ds D) (z:D.length<=30000):MV K c A (upd H A.da (.lst ds)) {S with D:=D}:=by
 obtain⟨ve,h1,e1⟩:=h.m;obtain⟨ws,h2,e2⟩:=h.w;obtain⟨ts,h3,e3⟩:=h.t;have f:Fr A A H (upd H A.da (.lst ds)):=h.upd_fr (.inr (.inr (.inr U)));exact⟨h.d,⟨ve,by rw[af h.d.md];exact h1,e1.fr f⟩,⟨ws,by rw[af h.d.wd];exact h2,ah e2 λ_ _ z=>z.fr f⟩,⟨ts,by rw[af h.d.td];exact h3,ah e3 λ_ _ z=>z.fr f⟩,⟨ds,pE,ah p λ_ _ z=>z.fr f⟩,h.bown (.inr (.inr (.inr U))),h.zw,h.zt,z⟩
def MV.putM {S:MS} {k:Int} {ve:V} {en:Option En} (h:MV K c A H S) (p:EnV K H ve en):MV K c A (upd H A.m (.ins c.cc A.dx (mF A k ve))) {S with k:=k,en:=en}:=by
 obtain⟨ws,h2,e2⟩:=h.w;obtain⟨ts,h3,e3⟩:=h.t;obtain⟨ds,h4,e4⟩:=h.s;have f:Fr A A H (upd H A.m (.ins c.cc A.dx (mF A k ve))):=h.upd_fr (.inl U);exact⟨h.d,⟨ve,pE,p.fr f⟩,⟨ws,by rw[af h.d.mw.symm];exact h2,ah e2 λ_ _ z=>z.fr f⟩,⟨ts,by rw[af h.d.mt.symm];exact h3,ah e3 λ_ _ z=>z.fr f⟩,⟨ds,by rw[af h.d.md.symm];exact h4,ah e4 λ_ _ z=>z.fr f⟩,h.bown (.inl U),h.zw,h.zt,h.zd⟩
def MV.box {S:MS} {bx:Addr} {v:V} {p:Bool×Vl} (h:MV K c A H S) (hb:H bx=none) (s:aI H H') (e:H' bx=some (.lst [v])) (hv:VlV K c A H v p.2):Fr A (A.more [bx]) H H'/\MV K c (A.more [bx]) H' {S with B:=S.B++[p]}:=by
 have nb:=h.new hb;have f:Fr A (A.more [bx]) H H':=⟨⟨[bx],U⟩,λa u n z=>⟨s _ _ z,λo=>by
   rcases o with o | o
   · exact n (.inl o)
   · rcases mAp.mp o with o | o
     · exact n (.inr o)
     · rw[mSg.mp o,hb] at z;cases z⟩,s.tk⟩
 obtain⟨ve,h1,e1⟩:=h.m;obtain⟨ws,h2,e2⟩:=h.w;obtain⟨ts,h3,e3⟩:=h.t;obtain⟨ds,h4,e4⟩:=h.s;refine⟨f,⟨h.d.mw,h.d.mt,h.d.md,h.d.wt,h.d.wd,h.d.td,λa ha=>?_,?_⟩,⟨ve,s _ _ h1,e1.fr f⟩,⟨ws,s _ _ h2,ah e2 λ_ _ z=>z.fr f⟩,⟨ts,s _ _ h3,ah e3 λ_ _ z=>z.fr f⟩,⟨ds,s _ _ h4,ah e4 λ_ _ z=>z.fr f⟩,bK (kn h.b f λ_ _ _ z=>s _ _ z) (.cons (.mk e (hv.fr f)) .nil),h.zw,h.zt,h.zd⟩
 · rcases mAp.mp ha with ha | ha
   · exact h.d.nb a ha
   · rw[mSg.mp ha];exact λo=>nb (.inl o)
 · show (A.bs++[bx]).Nodup;refine List.nodup_append.mpr ⟨h.d.un,by simp,λa ha b hb' e=>?_⟩;rw[mSg.mp hb'] at e;exact nb (.inr (e▸ha))
def MV.setb {S:MS} {bx:Addr} {v:V} {k:Nat} {u x:Vl} (h:MV K c A H S) (hk:A.bs[k]?=some bx) (hb:S.B[k]?=some (true,u)) (hv:VlV K c A H v x):Fr A A H (upd H bx (.lst [v]))/\MV K c A (upd H bx (.lst [v])) {S with B:=S.B.set k (true,x)}:=by
 have mem:bx∈A.bs:=mGE hk;have no:=h.d.nb bx mem;have f:Fr A A H (upd H bx (.lst [v])):=h.upd_fv (.inr mem);obtain⟨ve,h1,e1⟩:=h.m;obtain⟨ws,h2,e2⟩:=h.w;obtain⟨ts,h3,e3⟩:=h.t;obtain⟨ds,h4,e4⟩:=h.s;have ne:∀ {a:Addr},A.own a->a≠bx:=λo e=>no (e▸o);refine⟨f,h.d,⟨ve,by rw[af (ne (.inl U))];exact h1,e1.fr f⟩,⟨ws,by rw[af (ne (.inr (.inl U)))];exact h2,ah e2 λ_ _ z=>z.fr f⟩,⟨ts,by rw[af (ne (.inr (.inr (.inl U))))];exact h3,ah e3 λ_ _ z=>z.fr f⟩,⟨ds,by rw[af (ne (.inr (.inr (.inr U))))];exact h4,ah e4 λ_ _ z=>z.fr f⟩,?_,h.zw,h.zt,h.zd⟩;refine hV (by rw[List.length_set];exact aA h.b) λi a y e1 e2=>?_;by_cases hi:i=k
 · subst hi;rw[hk] at e1;cases e1;rw[List.getElem?_set_self (gES.mp hb).1] at e2;cases e2;exact .mk pE (hv.fr f)
 · rw[List.getElem?_set_ne (Ne.symm hi)] at e2;have z:=ba h.b e1 e2;have na:a≠bx:=λe=>hi ((List.getElem?_inj (gES.mp e1).1 h.d.un).mp (by rw[e1,hk,e]));cases z with
   | mk z1 z2=>exact .mk (by rw[af na];exact z1) (z2.fr f)
end
def isI:Vl->Bool
  | .int _=>true
  | _=>false
def isT:Vl->Bool
  | .tup _=>true
  | _=>false
def isM:Vl->Bool
  | .made _ _=>true
  | _=>false
def isF:Vl->Bool
  | .fn _ _ _=>true
  | _=>false
def tyC (c:Ks):Vl->Value
  | .int _=>.type "int"
  | .tup _=>.type "tuple"
  | .made _ _=>.ref c.cm
  | .fn _ _ _=>.ref c.cf
structure Own (K:Fg) (C:Addr):Prop where
  cl:Cls K C
  ha:PySem.W.findIn K (.ref C) "__class__"=some (some (.builtin "object.__class__"))
  hn:PySem.W.specialIn K (.builtin "object.__class__") "__get__"=some (some (.builtin "getset_descriptor.__get__"))
  htk:PySem.W.takesIn K (.builtin "object.__class__")=some true
  hm:PySem.W.mroIn K C (.type "object")=some true
structure KC (K:Fg) (mg:SOV) (c:Ks):Prop where
  om:Own K c.cm
  of:Own K c.cf
  oc:Cls K c.cc
  kI:∀ x,PySem.W.kitOne K (tyC c x) (.type "int")=some (isI x)
  kT:∀ x,PySem.W.kitOne K (tyC c x) (.type "tuple")=some (isT x)
  kA:∀ x,PySem.W.kitAny K (tyC c x) [.type "int",.type "tuple"]=some (isI x||isT x)
  kM:∀ x,PySem.W.kitOne K (tyC c x) (.ref c.cm)=some (isM x)
  kF:∀ x,PySem.W.kitOne K (tyC c x) (.ref c.cf)=some (isF x)
  n1:bp K c.cm "record"
  n2:bp K c.cm "things"
  n3:bp K c.cf "ids"
  n4:bp K c.cf "body"
  n5:bp K c.cf "names"
  n6:bp K c.cc "functions"
  n7:bp K c.cc "ticks"
  n8:bp K c.cc "waiting"
  n9:bp K c.cc "told"
  n10:bp K c.cc "deeds"
  n11:bp K c.cc "end"
  gM:mg "Made"=some (.ref c.cm)
  gF:mg "Fun"=some (.ref c.cf)
  gC:mg "Machine"=some (.ref c.cc)
  bI:mg "int"=none
  gH:∃ t,mg "HALF"=some (.int 32768 t)
  gW:∃ t,mg "WHOLE"=some (.int 65536 t)
section
variable {P:Program} {w:World} {K:Fg} {mg:SOV} {base:Heap} {c:Ks}
def KC.ty {A:Ad} {H:Hp} {v:V} {x:Vl} (k:KC K mg c) (h:VlV K c A H v x):TyU K H v (tyC c x):=by
 cases h with
 | int i=>exact .int i
 | tup h=>exact .tup h
 | made h _ _ _ _ _=>exact .ins h k.om.cl k.om.ha k.om.hn k.om.htk k.om.hm
 | fn h _ _ _ _=>exact .ins h k.of.cl k.of.ha k.of.hn k.of.htk k.of.hm
abbrev sWo:Stmt:=top 11
inductive wc (K:Fg) (c:Ks) (vs:List V) (H:Hp) (Q:VK):Prop
  | mk (A:Ad) (v:V) (x:Vl) (h0:vs=[v]) (h1:VlV K c A H v x) (q:Q (.int (wth x)) H):wc K c vs H Q
def qD (K:Fg) (c:Ks):Sp:=λvs H Q _=>wc K c vs H Q
def AJ (D:Def K mg "worth" sWo) (T:Blt mg) (k:KC K mg c):Fn P w K mg base "worth" 1 ["value"] (qD K c):=by
 exists D.fn (N:=["value"]) fsM,fD,_
 · obtain⟨A,v,x,rfl,_⟩:=h;rfl
 · obtain⟨A,v,x,rfl,hv,q⟩:=h;refine⟨_,(pG (ak (bJ (bN (dP T.isinstance %[0,cu (v:=.ty "int") U k.bI bU U|0])) ↥0 pF))),?_⟩;refine⟨_,U,.one v _ _ _ _ U (.ty "int") (k.ty hv) (k.kI x) ⟨_,U,?_⟩⟩;cases hv with
   | int i=>exact aL ⟨_,U,q⟩
   | _=>exact ai q
abbrev sLk:Stmt:=top 12
inductive wD (K:Fg) (c:Ks) (vs:List V) (H:Hp) (Q:VK):Prop
  | mk (A:Ad) (v:V) (x:Vl) (h0:vs=[v]) (h1:VlV K c A H v x) (q:∀ v' H',aI H H'->LkV K H' v' (lk x)->Q v' H'):wD K c vs H Q
def xp (K:Fg) (c:Ks):Sp:=λvs H Q _=>wD K c vs H Q
def B6 (D:Def K mg "look" sLk) (T:Blt mg) (k:KC K mg c):Fn P w K mg base "look" 1 ["value"] (xp K c):=by
 exists D.fn (N:=["value"]) fsM,fD,_
 · obtain⟨A,v,x,rfl,_⟩:=h;rfl
 · obtain⟨A,v,x,rfl,hv,q⟩:=h;refine⟨_,(pG (ak (bJ (bN (dP T.isinstance %[0,ax %[cu (v:=.ty "int") U k.bI bU U,cu (v:=.ty "tuple") U T.tuple (u:=.type "tuple") (by left) U|0]|0])) ↥0 pC))),?_⟩;refine⟨_,U,dB,λp hp=>?_⟩;have s:=smu (o:=HO.tup [.ty "int",.ty "tuple"]) hp;refine .some v p _ ["int","tuple"] _ U pE (k.ty (hv.fr (.of s))) (k.kA x) ⟨_,U,?_⟩;cases hv with
   | int i=>exact aL ⟨_,U,q _ _ s (.int i)⟩
   | tup h=>exact aL ⟨_,U,q _ _ s (.tup (h.tk s.tk))⟩
   | _=>exact ai (q _ _ s .thing)
abbrev sRo:Stmt:=top 13
inductive wo (K:Fg) (c:Ks) (vs:List V) (H:Hp) (Q:VK):Prop
  | mk (A:Ad) (v:V) (x:Vl) (h0:vs=[v]) (h1:VlV K c A H v x) (q:∀ a H',aI H H'->SqT K H' a ((rwo x).map V.int)->Q (.ref a) H'):wo K c vs H Q
def ua (K:Fg) (c:Ks):Sp:=λvs H Q _=>wo K c vs H Q
def AS (D:Def K mg "row_of" sRo) (T:Blt mg) (k:KC K mg c):Fn P w K mg base "row_of" 1 ["value"] (ua K c):=by
 exists D.fn (N:=["value"]) fsM,fD,_
 · obtain⟨A,v,x,rfl,_⟩:=h;rfl
 · obtain⟨A,v,x,rfl,hv,q⟩:=h;refine⟨_,(pG (ak (bJ (bN (dP T.isinstance %[0,cu (v:=.ty "tuple") U T.tuple (u:=.type "tuple") (by left) U|0])) ↥0 (ax pB)))),?_⟩;refine⟨_,U,.one v _ _ _ _ U (.ty "tuple") (k.ty hv) (k.kT x) ⟨_,U,?_⟩⟩;have none_:rwo x=[]->mr gY [some v] H Q:=λe=>⟨mh,λp hp=>q p _ (smu hp) (by rw[e];exact SqT.of pE)⟩;cases hv with
   | int i=>exact ai (none_ U)
   | tup h=>exact aL ⟨_,U,q _ _ (aI.refl _) h⟩
   | _=>exact ai (none_ U)
abbrev sTi:Stmt:=top 14
def zO:Sp:=λvs H Q _=>∃ i,vs=[.int i]/\Q (.int (tkn i)) H
def AM (D:Def K mg "taken_in" sTi) (k:KC K mg c):Fn P w K mg base "taken_in" 1 ["number"] zO:=by
 exists D.fn (N:=["number"]) fsM,fD,_
 · obtain⟨i,rfl,_⟩:=h;rfl
 · obtain⟨i,rfl,q⟩:=h;obtain⟨t1,g1⟩:=k.gH;obtain⟨t2,g2⟩:=k.gW;refine⟨_,(pG (ak (aN cF (aN fq (aN cG ↥0 (ee (v:=.int 32768) U g1 ⟨t1,U⟩)) (ee (v:=.int 65536) U g2 ⟨t2,U⟩)) (ee (v:=.int 32768) U g1 ⟨t1,U⟩)))),?_⟩;exact⟨_,U,_,_,U,U,_,_,U,U,∅,_,_,U,U,q⟩
abbrev sOw:Stmt:=top 15
inductive wq (vs:List V) (H:Hp) (Q:VK):Prop
  | mk (s:Str) (a b:Int) (h0:vs=[.str s,.int a,.int b]) (h1:Sml a) (h2:Sml b) (h3:s="div"->b≠0) (q:Q (.int (opI s a b)) H):wq vs H Q
def zR:Sp:=λvs H Q _=>wq vs H Q
def AU (D:Def K mg "of_worths" sOw) (eN:Fn P w K mg base "taken_in" 1 ["number"] zO):Fn P w K mg base "of_worths" 2 ["word","one","other"] zR:=by
 exists D.fn (N:=["word","one","other"]) fsM,jT,_,_,_
 · obtain⟨s,a,b,rfl,_⟩:=h;rfl
 · obtain⟨s,a,b,rfl,ha,hb,hd,q⟩:=h;refine⟨_,(pD (az (pM aB ↥0 pC (pN _)) (pG (ak (aj eN ⇑hr U %[aN cG ↥1 ↥2|0]))) aq)
 (pD (az (pM aB ↥0 pC (pN _)) (pG (ak (aj eN ⇑hr U %[aN cF ↥1 ↥2|0]))) aq)
 (pD (az (pM aB ↥0 pC (pN _)) (pG (ak (aj eN ⇑hr U %[aN dR ↥1 ↥2|0]))) aq)
 (pD (az (pM aB ↥0 pC (pN _)) (pG (ak (aj eN ⇑hr U %[aN lp ↥1 ↥2|0]))) aq)
 (pD (az (pM aB ↥0 pC (pN _)) (pG (ak (bJ (pM gA ↥1 ↥2 (pN _)) pF pF))) aq)
 (pG (ak (bJ (pM aB ↥1 ↥2 (pN _)) pF pF)))))))),?_⟩
   unfold opI at q;unfold Sml at ha hb;refine⟨_,U,U,_,U,?_⟩;by_cases e1:s="add"
   · rw[if_pos e1] at q;exact pJ (by simp[e1]) ⟨_,U,_,U,_,_,U,U,_,U,q⟩
   rw[if_neg e1] at q;refine pI (by simpa using e1) ⟨_,U,U,_,U,?_⟩;by_cases e2:s="sub"
   · rw[if_pos e2] at q;exact pJ (by simp[e2]) ⟨_,U,_,U,_,_,U,U,_,U,q⟩
   rw[if_neg e2] at q;refine pI (by simpa using e2) ⟨_,U,U,_,U,?_⟩;by_cases e3:s="mul"
   · rw[if_pos e3] at q;exact pJ (by simp[e3]) ⟨_,U,_,U,_,_,U,U,.inl ⟨∅,∅⟩,_,U,q⟩
   rw[if_neg e3] at q;refine pI (by simpa using e3) ⟨_,U,U,_,U,?_⟩;by_cases e4:s="div"
   · rw[if_pos e4] at q;exact pJ (by simp[e4]) ⟨_,U,_,U,_,_,U,U,⟨hd e4,∅⟩,_,U,q⟩
   rw[if_neg e4] at q;refine pI (by simpa using e4) ⟨_,U,U,_,U,?_⟩;by_cases e5:s="less"
   · rw[if_pos e5] at q;refine pJ (by simp[e5]) ⟨_,U,_,U,_,_,U,U,_,U,?_⟩;by_cases e:a<b
     · rw[if_pos e] at q;exact pJ (by simpa using e) q
     · rw[if_neg e] at q;exact pI (by simpa using e) q
   rw[if_neg e5] at q;refine pI (by simpa using e5) ⟨_,U,_,U,U,_,U,?_⟩;by_cases e:a=b
   · rw[if_pos e] at q;exact pJ (by simp[e]) q
   · rw[if_neg e] at q;exact pI (by simpa using e) q
inductive OpA:Str->List Vl->Prop
  | row (xs:List Vl):OpA "row" xs
  | one {s:Str} (x:Vl) (h:s∈(["size","not"]:List Str)):OpA s [x]
  | two {s:Str} (x y:Vl) (h:s∈(["add","sub","mul","div","less","same","at"]:List Str)) (h1:Sml (wth x)) (h2:Sml (wth y)):OpA s [x,y]
def x0 (xs:List Vl):Vl:=xs[0]?.getD (.int 0)
def x1 (xs:List Vl):Vl:=xs[1]?.getD (.int 0)
def inR (xs:List Vl):Prop:=0<=wth (x1 xs)/\wth (x1 xs)<(((rwo (x0 xs)).length:Nat):Int)
instance (xs:List Vl):Decidable (inR xs):=inferInstanceAs (Decidable (_/\_))
def opF (s:Str) (xs:List Vl):Option Str:=if s="div"/\wth (x1 xs)=0 then some "nought" else if s="at"/\¬ inR xs then some "range" else none
def opV (s:Str) (xs:List Vl):Vl:=if s="row" then .tup (xs.map wth) else if s="size" then .int (((rwo (x0 xs)).length:Nat):Int) else if s="not" then .int (if wth (x0 xs)=0 then 1 else 0) else if s="at" then .int ((rwo (x0 xs))[(wth (x1 xs)).toNat]?.getD 0) else .int (opI s (wth (x0 xs)) (wth (x1 xs)))
def fO:Option Str->V
  | none=>.non
  | some s=>.str s
abbrev sOf:Stmt:=top 16
inductive wv (K:Fg) (c:Ks) (vs:List V) (H:Hp) (Q:VK):Prop
  | mk (A:Ad) (s:Str) (l:Addr) (us:List V) (xs:List Vl) (h0:vs=[.str s,.ref l]) (h1:H l=some (.lst us)) (h2:Paired (VlV K c A H) us xs) (h3:OpA s xs) (q:∀ H',aI H H'->Q (fO (opF s xs)) H'):wv K c vs H Q
def zU (K:Fg) (c:Ks):Sp:=λvs H Q _=>wv K c vs H Q
def op2 {s:Str} {xs:List Vl} (h:OpA s xs) (e:s="div"\/s="at"):∃ x y,xs=[x,y]/\Sml (wth x)/\Sml (wth y):=by
 cases h with
 | row=>rcases e with e | e <;> exact absurd e (by left)
 | one x h =>
  rcases e with rfl | rfl <;> exact absurd h (by left)
 | two x y h h1 h2=>exact⟨x,y,U,h1,h2⟩
def AX (D:Def K mg "op_fault" sOf) (T:Blt mg) (cL:Fn P w K mg base "worth" 1 ["value"] (qD K c)) (fI:Fn P w K mg base "row_of" 1 ["value"] (ua K c)):Fn P w K mg base "op_fault" 2 ["word","things"] (zU K c):=by
 exists D.fn (N:=["word","things"]) fsM,i4,_,_
 · obtain⟨A,s,l,us,xs,rfl,_⟩:=h;rfl
 · obtain⟨A,s,l,us,xs,rfl,hl,hu,ho,q⟩:=h;have hz0:(40000:Nat)<sizeLine:=∅
   refine⟨_,(pD (az (PW.pt (cM (pM aB ↥0 pC (pN _)) (bW (pM aB (aj cL ⇑hr U %[ac aw ↥1 pF Ue|0]) pF (pN _))))) (pG (ak pC)) aq)
 (pD (az (PW.pt (cM (pM aB ↥0 pC (pN _)) (bW (f8 (l7 vR gA pF (aj cL ⇑hr U %[ac aw ↥1 pF Ue|0]) (cq T.len %[aj fI ⇑hr U %[ac aw ↥1 pF Ue|0]|0])))))) (pG (ak pC)) aq)
 (pG (ak bR)))),?_⟩
   dsimp only[be];unfold opF at q;have last:(¬ (s="div"/\wth (x1 xs)=0))->¬ (s="at"/\¬ inR xs)->∀ H',aI H H'->Q .non H':=λe1 e2 H' s'=>by
    have:=q H' s';rw[if_neg e1,if_neg e2] at this;exact this
   refine aE λlB kJ=>?_;have second:(¬ (s="div"/\wth (x1 xs)=0))->lB [some (.str s),some (.ref l)] H:=λe1=>by
    refine kJ _ _ (aE λvW tE=>?_);refine⟨_,U,U,_,U,?_⟩;by_cases e2:s="at"
    · refine pJ (by simp[e2]) ?_;obtain⟨x,y,rfl,sx,sy⟩:=op2 ho (.inr e2);obtain⟨v1,hv1,a1⟩:=aJ hu (i:=0) rfl;obtain⟨v2,hv2,a2⟩:=aJ hu (i:=1) rfl;refine⟨_,U,l,_,_,_,U,U,SqL.of hl,pH (j:=1) hv2,A,v2,y,U,a2,_,_,U,U,?_⟩;have bad:¬ inR [x,y]->∀ H',aI H H'->Q (.str "range") H':=λz H' s'=>by
       have:=q H' s';rw[if_neg e1,if_pos ⟨e2,z⟩] at this;exact this
      refine⟨_,U,?_⟩;by_cases e:0<=wth y
      · refine pJ (by simpa using e) ?_;refine⟨_,U,l,_,_,_,U,U,SqL.of hl,pH (j:=0) hv1,A,v1,x,U,a1,λra H2 s2 hra=>⟨ra,_,U,.inr hra,_,_,U,U,_,U,?_⟩⟩;rw[lMp];by_cases e':wth y<(((rwo x).length:Nat):Int)
        · refine pI (by simpa using e') (tE _ _ (last e1 (λz=>z.2 ⟨e,e'⟩) H2 s2))
        · refine pJ (by simpa using e') (bad (λz=>e' z.2) H2 s2)
      · exact pI (by simpa using e) ⟨_,U,aL (bad (λz=>e z.1) H (aI.refl _))⟩
    · exact pI (by simpa using e2) (ai (tE _ _ (last e1 (λz=>e2 z.1) H (aI.refl _))))
   refine⟨_,U,U,_,U,?_⟩;by_cases e1:s="div"
   · refine pJ (by simp[e1]) ?_;obtain⟨x,y,rfl,sx,sy⟩:=op2 ho (.inl e1);obtain⟨v2,hv2,a2⟩:=aJ hu (i:=1) rfl;refine⟨_,U,l,_,_,_,U,U,SqL.of hl,pH (j:=1) hv2,A,v2,y,U,a2,U,_,U,?_⟩;by_cases e:wth y=0
     · have:=q H (aI.refl _);rw[if_pos ⟨e1,e⟩] at this;exact pJ (by simpa using e) this
     · exact pI (by simpa using e) (second λz=>e z.2)
   · exact pI (by simpa using e1) (ai (second λz=>e1 z.1))
abbrev sOv:Stmt:=top 17
inductive wr (K:Fg) (c:Ks) (vs:List V) (H:Hp) (Q:VK):Prop
  | mk (A:Ad) (s:Str) (l:Addr) (us:List V) (xs:List Vl) (h0:vs=[.str s,.ref l]) (h1:H l=some (.lst us)) (h2:Paired (VlV K c A H) us xs) (h3:OpA s xs) (h4:opF s xs=none) (h5:xs.length<=8) (q:∀ v H',aI H H'->VlV K c A H' v (opV s xs)->Q v H'):wr K c vs H Q
def zS (K:Fg) (c:Ks):Sp:=λvs H Q _=>wr K c vs H Q
def CG:(["thing"]:List Str).Nodup:=by left
def AV (D:Def K mg "op_value" sOv) (T:Blt mg) (cL:Fn P w K mg base "worth" 1 ["value"] (qD K c)) (fI:Fn P w K mg base "row_of" 1 ["value"] (ua K c)) (lW:Fn P w K mg base "of_worths" 2 ["word","one","other"] zR):Fn P w K mg base "op_value" 3 ["word","things"] (zS K c):=by
 exists D.fn (N:=["word","things"]) fsM,i4,_,_
 · obtain⟨A,s,l,us,xs,rfl,_⟩:=h;rfl
 · obtain⟨A,s,l,us,xs,rfl,hl,hu,ho,hf,h8,q⟩:=h;have hz0:(40000:Nat)<sizeLine:=∅
   have ul:=aA hu;refine⟨_,(pD (az (pM aB ↥0 pC (pN _)) (pG (ak (dA T.tuple %[gx (own:=["thing"]) (outs:=[]) U (br.of (am sOv) ["word","things"]) (gw ↥1) (λ_ _ _ _=>⟨(aC (i:=0) CG U (.inl U)),cB,(aj cL ⇑hr U %[0|0])⟩)|0]))) aq)
 (pD (az (pM aB ↥0 pC (pN _)) (pG (ak (cq T.len %[aj fI ⇑hr U %[ac aw ↥1 pF Ue|0]|0]))) aq)
 (pD (az (pM aB ↥0 pC (pN _)) (pG (ak (bJ (pM aB (aj cL ⇑hr U %[ac aw ↥1 pF Ue|0]) pF (pN _)) pF pF))) aq)
 (pD (az (pM aB ↥0 pC (pN _)) (pG (ak (ac ag (ac aw ↥1 pF Ue) (aj cL ⇑hr U %[ac aw ↥1 pF Ue|0]) Ue))) aq)
 (pG (ak (aj lW ⇑hr U %[0,aj cL ⇑hr U %[ac aw ↥1 pF Ue|0],aj cL ⇑hr U %[ac aw ↥1 pF Ue|0]|0]))))))),?_⟩
   dsimp only[be];unfold opV at q;refine⟨_,U,U,_,U,?_⟩;by_cases e1:s="row"
   · simp only[if_pos e1] at q;refine pJ (by simp[e1]) ?_;rw[jO,iJ,d0,eO];refine⟨_,U,l,U,⟨_,SqL.of hl⟩,λG hG=>?_⟩;have nl:G≠l:=Ne.symm (ao hl hG);have k0:=smu (o:=HO.lst []) hG;refine cN.by (df (xs:=us)) (λi σ Hi=>aI H Hi/\Hi G=some (.lst (((xs.take i).map wth).map V.int))/\∃ y,σ=[y]) ⟨k0,pE,_,U⟩ (λ_ _ _ _ z=>SqL.of (z.1 _ _ hl)) ?_ ?_
     · rintro i u σ Hi hu' ⟨si,hGi,y,rfl⟩;have hi:i<us.length:=(gES.mp hu').1;have hxi:xs[i]?=some (xs[i]'∅):=gEE _;obtain⟨u2,hu2,vu⟩:=aJ hu hxi;rw[hu'] at hu2;cases hu2;rw[ce,dC];refine aL ⟨_,U,A,u,_,U,vu.fr (.of si),_,hGi,?_,λa v e=>?_,?_,_,U⟩
       · simp only[lMp,lTk];omega
       · rw[af (ao e hG)];exact si _ _ e
       · rw[pE,tAO,hxi,List.map_append,List.map_append];rfl
     · rintro σ Hi ⟨si,hGi,y,rfl⟩;rw[ul,List.take_length] at hGi;exact⟨G,_,U,.inl ⟨SqL.of hGi,λF hF=>q _ _ (si.trans (smu hF)) (.tup (SqT.of pE))⟩⟩
   simp only[if_neg e1] at q;refine pI (by simpa using e1) ⟨_,U,U,_,U,?_⟩;obtain⟨x,r,rfl⟩:∃ x r,xs=x::r:=by
    cases ho with
    | row=>exact absurd U e1
    | one x=>exact⟨x,[],U⟩
    | two x y=>exact⟨x,[y],U⟩
   obtain⟨v1,hv1,a1⟩:=aJ hu (i:=0) rfl;by_cases e2:s="size"
   · simp only[if_pos e2] at q;refine pJ (by simp[e2]) ⟨_,U,l,_,_,_,U,U,SqL.of hl,pH (j:=0) hv1,A,v1,x,U,a1,λra H2 s2 hra=>⟨ra,_,U,.inr hra,?_⟩⟩;rw[lMp];exact q _ _ s2 (.int _)
   simp only[if_neg e2] at q;refine pI (by simpa using e2) ⟨_,U,U,_,U,?_⟩;by_cases e3:s="not"
   · simp only[if_pos e3] at q;refine pJ (by simp[e3]) ⟨_,U,l,_,_,_,U,U,SqL.of hl,pH (j:=0) hv1,A,v1,x,U,a1,U,_,U,?_⟩;have q':=q _ H (aI.refl _) (.int _);by_cases e:wth x=0
     · rw[show x0 (x::r)=x from rfl,if_pos e] at q';exact pJ (by simpa using e) q'
     · rw[show x0 (x::r)=x from rfl,if_neg e] at q';exact pI (by simpa using e) q'
   simp only[if_neg e3] at q;refine pI (by simpa using e3) ⟨_,U,U,_,U,?_⟩;obtain⟨y,rfl,sx,sy⟩:∃ y,r=[y]/\Sml (wth x)/\Sml (wth y):=by
    cases ho with
    | row=>exact absurd U e1
    | one x h =>
     simp only[List.mem_cons,nMN,or_false] at h;exact h.elim (λz=>absurd z e2) λz=>absurd z e3
    | two x y _ h1 h2=>exact⟨y,U,h1,h2⟩
   obtain⟨v2,hv2,a2⟩:=aJ hu (i:=1) rfl;by_cases e4:s="at"
   · simp only[if_pos e4] at q;have hin:inR [x,y]:=by
      unfold opF at hf;rw[if_neg (λz=>by rw[e4] at z;exact absurd z.1 (by left))] at hf;by_cases z:inR [x,y]
      · exact z
      · rw[if_pos ⟨e4,z⟩] at hf;cases hf
     obtain⟨i0,i1⟩:=hin;have i0':0<=wth y:=i0;have i1':wth y<(((rwo x).length:Nat):Int):=i1;refine pJ (by simp[e4]) ?_;cases a1 with
     | int i=>exact absurd i1' (by show ¬ wth y<0;omega)
     | made _ _ _ _ _ _=>exact absurd i1' (by show ¬ wth y<0;omega)
     | fn _ _ _ _ _=>exact absurd i1' (by show ¬ wth y<0;omega)
     | @tup a is hs =>
      have i2:wth y<((is.length:Nat):Int):=i1';obtain⟨j,ej⟩:=Int.eq_ofNat_of_zero_le i0';have hj:j<is.length:=∅
      have ea:atI (is.map V.int) (wth y)=some (.int is[j]):=by rw[ej];exact pH (by rw[gEM,gEE hj];rfl)
      refine⟨_,U,l,_,_,_,U,U,SqL.of hl,pH (j:=0) hv1,_,U,l,_,_,_,U,U,SqL.of hl,pH (j:=1) hv2,A,v2,y,U,a2,a,_,_,_,U,U,hs,ea,?_⟩;refine q _ H (aI.refl _) ?_;rw[show (rwo (x0 [Vl.tup is,y]))=is from rfl,show wth (x1 [Vl.tup is,y])=wth y from rfl,ej];rw[show ((j:Nat):Int).toNat=j from Int.toNat_natCast _,gEE hj];exact .int _
   simp only[if_neg e4] at q;refine pI (by simpa using e4) ?_;refine⟨_,U,_,U,l,_,_,_,U,U,SqL.of hl,pH (j:=0) hv1,A,v1,x,U,a1,_,U,l,_,_,_,U,U,SqL.of hl,pH (j:=1) hv2,A,v2,y,U,a2,s,_,_,U,sx,sy,λe=>?_,q _ H (aI.refl _) (.int _)⟩;intro z;unfold opF at hf;rw[if_pos ⟨e,z⟩] at hf;cases hf
end
end K19
namespace L2
open PySem PySem.Spec PyProof.Rows
section
variable {X:Cx} {e st:Expr} {te:TE} {tst:TO} {p2 pos:Pos}
def aT.reverse':∀ {xs:List V} {us:List Value},aT xs us->aT xs.reverse us.reverse
 := by
  intro xs us h
  induction h with
  | nil=>exact .nil
  | cons r t ih =>
   rw[List.reverse_cons,List.reverse_cons];exact aT.append ih (.cons r .nil)
end
end L2
namespace HT
open PySem PySem.Spec PyProof.Rows
def mZ (n:Nat):Builtin.Slice.sliceAdjust none none (-1) (n:Int)=((n:Int)-1,-1):=rfl
def mB (n:Nat):Builtin.Slice.slicePlaces ((n:Int)-1) (-1) (-1)=n:=by
 unfold Builtin.Slice.slicePlaces;rw[if_neg ∅];by_cases h:(n:Int)-1>-1
 · rw[if_pos h,show (-(-1):Int)=1 from rfl,Int.ediv_one];omega
 · rw[if_neg h];omega
def rq (xs:Array Value):((List.range xs.size).filterMap λ(m:Nat)=>xs[(((xs.size:Int)-1)+(m:Int)*(-1)).toNat]?).toArray=xs.toList.reverse.toArray:=by
 have e:(List.range xs.size).filterMap (λ(m:Nat)=>xs[(((xs.size:Int)-1)+(m:Int)*(-1)).toNat]?)=((List.range xs.size).map λk=>xs.size-1-k).filterMap (xs[·]?):=by
  rw[List.filterMap_map];have g:∀ l:List Nat,(∀ m∈l,m<xs.size)->l.filterMap (λ(m:Nat)=>xs[(((xs.size:Int)-1)+(m:Int)*(-1)).toNat]?)=l.filterMap ((xs[·]?)∘λk=>xs.size-1-k):=by
   intro l
   induction l with
   | nil=>intro _;rfl
   | cons m l ih =>
    intro h;have hm:=h m mCS;have e1:xs[(((xs.size:Int)-1)+(m:Int)*(-1)).toNat]?=((xs[·]?)∘λk=>xs.size-1-k) m:=by
     show _=xs[xs.size-1-m]?;congr 1;omega
    rw[List.filterMap_cons,List.filterMap_cons,e1,ih λx hx=>h x (mCM _ hx)]
  exact g _ λm hm=>List.mem_range.mp hm
 rw[e,PySem.W.krv_range,List.filterMap_reverse,PySem.W.krv_all]
section
variable {prog:Program} {w:World} {A:Around} {E:VSP} {s:Shared}
def hC {sl:Addr} {vk:Value} {n:Nat} {Q:Int×Int×Nat->Shared->Prop} (hs:s.heap.IsSliceOf sl .none .none vk) (pk:IsPart vk (some (-1)))
 (h:Q ((n:Int)-1,-1,n) s):wpAny (model prog w) A (Builtin.Slice.sliceApplied (.ref sl) (pure (n:Int))) Q E s:=by
 obtain⟨os,hos,hcs,hds⟩:=id hs;unfold Builtin.Slice.sliceApplied Builtin.Slice.sliceFields;refine wB (wB (wpAny_field hos hds (x:=.none) U (wB (wpAny_field hos hds (x:=.none) U (wB (wpAny_field hos hds (x:=vk) U (wP ?_)))))));refine wB (gb pk ?_);show wpAny _ _ (if ((-1:Int)==0)=true then _ else _) _ _ s;rw[if_neg ∅];refine wB (slicePart_none (wB (slicePart_none (wB (wP ?_)))));show wpAny _ _ (match Builtin.Slice.sliceAdjust none none (-1) (n:Int) with | (lo,hi)=>pure (lo,(-1:Int),Builtin.Slice.slicePlaces lo hi (-1))) _ _ s;rw[mZ n];show wpAny _ _ (pure ((n:Int)-1,(-1:Int),Builtin.Slice.slicePlaces ((n:Int)-1) (-1) (-1))) _ _ s;rw[mB];exact wP h
def gG {t sl:Addr} {aK:Array Value} {vk:Value} {Q:VSP} (ht:IsTup s.heap t aK) (hs:s.heap.IsSliceOf sl .none .none vk) (pk:IsPart vk (some (-1)))
 (h:Q (.ref s.heap.objs.size) {s with heap:=s.heap.push {cls:=.type "tuple",data:=.seq aK.toList.reverse.toArray}})
 (hsz:aK.size<=sizeLine):wpAny (model prog w) A (getItem (.ref t) (.ref sl)) Q E s:=by
 have htake:sizeOk (.seq aK.toList.reverse.toArray):=by
  show aK.toList.reverse.toArray.size<=sizeLine;rw[List.size_toArray,List.length_reverse,Array.length_toList];exact hsz
 obtain⟨os,hos,hcs,hds⟩:=id hs;have hTs:s.TypeIs (.ref sl) "slice":=⟨os,hos,hcs⟩;unfold getItem
 try with_reducible refine wpAny_holding ?_
 first | refine wB (wP ?_) | skip
 refine wB (wpAny_sequenceKey ht.typeIs ∅ ?_);refine wB (wpAny_callSpecial?_slot (name:=Str.ofString "__getitem__") ht.typeIs PyProof.Rows.slot_tuple_getitem
   (wpAny_call_entry PyProof.Rows.slot_tuple_getitem ht.typeIs entry_tuple_getitem ?_ (args_tuple_getitem _ _)))
 show wpAny _ _ (Builtin.Tuple.tupleItemsOf (.ref t)>>=_) _ _ s;refine wB (tupleItemsOf_ ht ?_);refine wB (wpAny_typeOf hTs ?_);rw[if_pos ∅];refine wB (hC hs pk ?_);have hno:¬ ((((aK.size:Int)-1)==0&&(-1:Int)==1&&aK.size==aK.size)=true):=by
  rw[show ((-1:Int)==1)=false from rfl,Bool.and_false,Bool.false_and]
  decide
 show wpAny _ _ (if (((aK.size:Int)-1)==0&&(-1:Int)==1&&aK.size==aK.size)=true then _ else _) _ _ s;rw[if_neg hno,rq]
 first
  | exact wB (m:=Builtin.Tuple.tupleExact _) (wpAny_newObj_type (wP ⟨_,U,wP h⟩) htake)
  | exact wB (m:=Builtin.Tuple.tupleExact _) (wpAny_newObj_type (wB (wP (wP ⟨_,U,wP h⟩))) htake)
  | exact wB (wB (m:=Builtin.Tuple.tupleExact _) (wpAny_newObj_type (wP (wP ⟨_,U,wP h⟩)) htake))
  | exact wB (wB (m:=Builtin.Tuple.tupleExact _) (wpAny_newObj_type (wP ⟨_,U,wP h⟩) htake))
end
end HT
namespace L2
open PySem PySem.Spec PyProof.Rows
section
variable {X:Cx} {e st:Expr} {te:TE} {tst:TO} {p2 pos:Pos}
inductive wT (K:Fg) (x:V) (o:Option Int) (H:Hp) (Q:VK):Prop
  | mk (a:Addr) (xs:List V) (h1:o=some (-1)) (h2:x=.ref a) (h3:SqT K H a xs) (q:∀ p,H p=none->Q (.ref p) (upd H p (.tup xs.reverse))):wT K x o H Q
def zE (K:Fg) (te:TE) (tst:TO):TE:=λσ H Q=>te σ H λx H1=>tst σ H1 λo H2=>wT K x o H2 Q
def nW (he:PE X e te) (hst:PO X (some st) tst):PE X (.Subscript e (.Slice none none (some st) p2) pos) (zE X.K te tst):=by
 intro pins s σ H Q I h;refine Subscript_ (thn (he pins s σ H _ I h) λv s1 zz122=>?_);obtain⟨x,H1,I1,r1,q1⟩:=zz122;refine wpAny_Slice ?_;rw[evalPart_none];refine wP (wP (thn (hst pins s1 σ H1 _ I1 q1) ?_));rintro vk s3 ⟨o,H3,I3,pk,a,xs,rfl,rfl,hx,q⟩;cases r1;have I4:Inv X pins σ H3 {s3 with heap:=s3.heap.push {cls:=.type "slice",data:=.fields #[.none,.none,vk]}}:=I3.kept (t':=s3.toks) λb ob q=>hpS _ q;obtain⟨its,r,ht,hz⟩:=I4.tuple hx;have hlen:=r.length;show wpAny (model X.prog X.w) X.A (subscriptTail e (.Slice none none (some st) p2) (.ref a) (.ref s3.heap.objs.size)) (EP X pins σ Q) X.xe {s3 with heap:=s3.heap.push {cls:=.type "slice",data:=.fields #[.none,.none,vk]}};refine tail_any (ops:=[.ref a,.ref s3.heap.objs.size]) ht.typeIs PyProof.Rows.slot_tuple_getitem.lookup ?_ (by with_unfolding_all rfl);refine HT.gG ht (Heap.IsSliceOf.new ..) pk ?_ (by rw[List.size_toArray] <;> omega);refine⟨.ref _,_,I4.laid (t':=s3.toks) (o:=.tup xs.reverse) (λb ob q=>hpS _ q) (Nat.le_refl _) ?_,U,q _ (I4.hok.fresh (Nat.le_refl _))⟩;exact⟨by rw[List.length_reverse];exact hz,its.reverse,r.reverse',⟨_,Heap.get?_push_size _ U,U,0,U⟩⟩
end
end L2
namespace L2
open PySem PySem.Spec PyProof.Rows PySem.AutoSeq1
section
variable {X:Cx} {o e:Expr} {to:TE} {t:TA} {apos cpos:Pos}
def z9 (ho:PE X o to) (hbase:attributeBase o "pop" X.env (eval o X.env)=eval o X.env:=by rfl) (hline:(apos.endLine==cpos.line)=true:=by rfl) :
 PE X (.Call (.Attribute o "pop" apos) [] [] cpos) (zM X.K "list" Au to):=xJ PySem.F.plainAttrs_list PySem.F.slot_list_pop PySem.F.type_list_pop yg ho hbase hline
end
end L2
namespace HT
open PySem PySem.Spec PyProof.Rows
def pz {α:Type} {g:Nat->Bool} {k n:Nat} (hg:∀ i,g i=(decide ((k:Int)<=(i:Int))&&decide ((i:Int)<(n:Int))&&(((i:Int)-(k:Int)) % 1==0))):∀ (xs:List α) (j:Nat),j+xs.length<=n->((xs.zipIdx j).filterMap λp=>if g p.2=true then none else some p.1)=xs.take (k-j):=by
 intro xs
 induction xs with
 | nil=>intro j _;simp
 | cons x r ih =>
  intro j hj;rw[List.length_cons] at hj;rw[List.zipIdx_cons,List.filterMap_cons];have e:=hg j;rw[Int.emod_one] at e;by_cases h:k<=j
  · have e1:g j=true:=by rw[e,decide_eq_true ∅,decide_eq_true ∅];rfl
    dsimp only;rw[if_pos e1,ih (j+1) ∅];rw[show k-j=0 by omega,show k-(j+1)=0 by omega];rfl
  · have e1:¬ g j=true:=by rw[e,decide_eq_false ∅];exact Bool.false_ne_true
    dsimp only;rw[if_neg e1,ih (j+1) ∅];rw[show k-j=(k-(j+1))+1 by omega];rfl
def qg (n k:Nat) (h:k<=n):sliceBounds (some (k:Int)) none none n=((k:Int),(n:Int),1):=by
 simp only[sliceBounds,Option.getD_none];have h1:¬ ((k:Int)<0):=∅
 simp only[h1,if_false,show (1:Int)>0 by decide,if_true];congr 1;omega
section
variable {prog:Program} {w:World} {A:Around} {E:VSP} {s:Shared}
def ka {l sl:Addr} {its:List Value} {n k:Nat} {t:Tok} {Q:Unit->Shared->Prop} (ho:s.heap.get? l=some {cls:=.type "list",data:=.seq its.toArray n}) (hs:s.heap.IsSliceOf sl (.int (k:Int) t) .none .none) (hk:k<=its.length) (hz:its.length<=sizeLine)
 (h:∀ f:Array Value->Array Value,f its.toArray=(its.take k).toArray->Q () {s with heap:=s.heap.update l (Obj.mapSeq f),toks:=s.toks}):wpAny (model prog w) A (delItem (.ref l) (.ref sl)) Q E s:=by
 obtain⟨os,hos,hcs,hds⟩:=id hs;have hTs:s.TypeIs (.ref sl) "slice":=⟨os,hos,hcs⟩;have hTl:s.TypeIs (.ref l) "list":=⟨_,ho,U⟩;refine wpAny_delItem_slot hTl ∅ F.slot_list_delitem (wpAny_call_entry F.slot_list_delitem hTl F.entry_list_delitem ?_ (F.args_list_delitem_2 _ _));show wpAny _ _ (Builtin.List.listSubscript? (.ref sl)>>=_) _ _ s;refine wB ?_;unfold Builtin.List.listSubscript?;refine wB (wpAny_specialOf hTs slice_no_index ?_);simp only[Option.isNone_none,if_true];refine wP ?_;show wpAny _ _ (typeOf (.ref sl)>>=_) _ _ s;refine wB (wpAny_typeOf hTs ?_);rw[if_neg ∅];rw[listSliceParts_eq];refine wB (wB (wpAny_field hos hds (x:=.none) U (wB (wpAny_listPart .none ?_))));have hstep:¬ ((rawPart none==rawInt 0)=true):=Bool.false_ne_true;rw[if_neg hstep];refine wB (wpAny_field hos hds (x:=.int (k:Int) t) U (wB (wpAny_listPart (.int _ t) ?_)));refine wB (wpAny_field hos hds (x:=.none) U (wB (wpAny_listPart .none (wP ?_))));refine wB (m:=Builtin.List.listItems (.ref l)) ?_;unfold Builtin.List.listItems;refine wB (wpAny_seqItems ho U (wP ?_));refine wB (wpAny_of_eq (sliceIndices_raw (some (k:Int)) none none its.toArray.size (by simp)) ?_);rw[qg _ _ (by rw[List.size_toArray];exact hk)];dsimp only;refine wB (wpAny_rule ?_);have key:∀ f:Array Value->Array Value,f its.toArray=(its.take k).toArray->wpAny (model prog w) A.in1 (Builtin.List.listUpdate (.ref l) f) (λ_ s'=>Q () s'/\True) E s:=λf hf=>by
  show wpAny _ _ (updateSeq l f) _ _ s;refine wpAny_updateSeq ho U ⟨h f hf,trivial⟩ (hz:=by rw[List.size_toArray];exact hz) (_hz':=?_);rw[hf,List.size_toArray,lTk];omega
 refine wB (wpAny_mono (key _ ?_) (λ_ s1 z=>?_) λ_ _ e=>e)
 · refine congrArg List.toArray ((pz (k:=k) (n:=its.toArray.size) (λi=>rfl) its 0 (by rw[List.size_toArray];omega)).trans ?_);rw[Nat.sub_zero]
 · refine wB (wpAny_letGo ?_);exact wP ⟨_,U,z.1⟩
end
end HT
namespace L2
open PySem PySem.Spec PyProof.Rows
section
variable {X:Cx} {o lo:Expr} {to:TE} {tl:TO} {tpos pos p2:Pos}
inductive wX (x:V) (o:Option Int) (H:Hp) (Q:Hp->Prop):Prop
  | mk (l:Addr) (xs:List V) (k:Nat) (h1:x=.ref l) (h2:o=some ((k:Nat):Int)) (h3:H l=some (.lst xs)) (h4:k<=xs.length) (q:Q (upd H l (.lst (xs.take k)))):wX x o H Q
def Ak (to:TE) (tl:TO):TS:=λD σ H=>to σ H λx H1=>tl σ H1 λo H2=>wX x o H2 (D.nx σ)
def ux (ho:PE X o to) (hl:PO X (some lo) tl):PS X (.Delete [.Subscript o (.Slice (some lo) none none p2) tpos] pos) (Ak to tl):=by
 intro pins s σ H D I h;refine wpAny_Delete (wpAny_deleteEach_cons (wpAny_delete_Subscript (thn (ho pins s σ H _ I h) λu s1 zz=>?_)));obtain⟨x,H1,I1,rx,q1⟩:=zz;refine wpAny_Slice (thn (hl pins s1 σ H1 _ I1 q1) λvl s2 zz2=>?_);rw[evalPart_none];refine wP (wP ?_);obtain⟨o',H2,I2,pl,l,xs,k,rfl,rfl,hH,hk,q⟩:=zz2;cases rx;cases pl;have I4:Inv X pins σ H2 {s2 with heap:=s2.heap.push {cls:=.type "slice",data:=.fields #[.int (k:Int) ‹_›,.none,.none]}}:=I2.kept (t':=s2.toks) λb ob q=>hpS _ q;obtain⟨z,its,n,r,hl',e⟩:=I4.lstM hH;have rl:=r.length;refine HT.ka e (Heap.IsSliceOf.new ..) ∅ ∅ λf hf=>wpAny_deleteEach_nil ⟨σ,_,I4.lset (its':=its.take k) hH e hf (r.take k) ?_,q⟩;rw[lTk];omega
end
def jQ {X:Cx} {m:Str} {pos apos:Pos} {o:Expr} {ta:TE} {k:Nat} {ps:List Str} {sp:Sp} {C:Addr} {pl:Sem Bool} (he:PE X o ta) (c:Cls X.K C) (M:MFn X.prog X.w X.K X.mg X.base C m k ps sp) (hr:cH k X.A)
 (ht:eval (.Call (.Attribute o m apos) [] [] pos) X.env=(do
   let ov <- eval o X.env
   standAt apos.atName
   let (f,first) <- holding [ov] (getMethod ov m pl)
   callWith pos f first (backTo pos (starEach [] X.env)) (backToKw pos (keywordEach [] X.env))):=by rfl) :
 PE X (.Call (.Attribute o m apos) [] [] pos) (nK C m sp [] E0 ta gY):=by
 obtain⟨f,fd,G,hm,hb⟩:=M.ex;exact rB (pl:=pl) he c hm G hr hb .nil lh (ht:=ht)
end L2
namespace K19
open PySem L2 P10
abbrev sM (j:Nat):Stmt:=aQ (top 19) j
section
variable {P:Program} {w:World} {K:Fg} {mg:SOV} {base:Heap} {c:Ks}
inductive wx (c:Ks) (vs:List V) (H:Hp) (Q:VK):Prop
  | mk (x dx:Addr) (v u:V) (h0:vs=[.ref x,v,u]) (h1:H x=some (.ins c.cm dx [])) (q:∀ H',(∀ a u,a≠x->H a=some u->H' a=some u)->H' x=some (.ins c.cm dx [("record",v),("things",u)])->Q .non H'):wx c vs H Q
def zV (c:Ks):Sp:=λvs H Q _=>wx c vs H Q
def AY (D:lU K c.cm "Made.__init__" (aQ (top 9) 0)) (k:KC K mg c):IFn P w K mg base c.cm 1 ["self","record","things"] (zV c):=by
 exists D.fn (N:=["self","record","things"]) fsM,jT,_,_,_
 · obtain⟨x,dx,v,u,rfl,_⟩:=h;rfl
 · obtain⟨x,dx,v,u,rfl,hx,q⟩:=h;refine⟨_,(pD (cY ↥0 ↥1 U) (pG (cY ↥0 ↥2 U))),?_⟩;refine⟨_,U,_,U,x,c.cm,dx,[],U,hx,k.om.cl,k.n1,∅,?_⟩;refine⟨_,U,_,U,x,c.cm,dx,_,U,pE,k.om.cl,k.n2,by show 1<1000;decide,?_⟩;exact q _ (λa u ha e=>by rw[af ha,af ha];exact e) pE
inductive wL (c:Ks) (vs:List V) (H:Hp) (Q:VK):Prop
  | mk (x dx:Addr) (v u z:V) (h0:vs=[.ref x,v,u,z]) (h1:H x=some (.ins c.cf dx [])) (q:∀ H',(∀ a u,a≠x->H a=some u->H' a=some u)->H' x=some (.ins c.cf dx [("ids",v),("body",u),("names",z)])->Q .non H'):wL c vs H Q
def zZ (c:Ks):Sp:=λvs H Q _=>wL c vs H Q
def Ba (D:lU K c.cf "Fun.__init__" (aQ (top 10) 0)) (k:KC K mg c):IFn P w K mg base c.cf 1 ["self","ids","body","names"] (zZ c):=by
 exists D.fn (N:=["self","ids","body","names"]) fsM,bL
 · obtain⟨x,dx,v,u,z,rfl,_⟩:=h;rfl
 · obtain⟨x,dx,v,u,z,rfl,hx,q⟩:=h;refine⟨_,(pD (cY ↥0 ↥1 U) (pD (cY ↥0 ↥2 U) (pG (cY ↥0 ↥3 U)))),?_⟩;refine⟨_,U,_,U,x,c.cf,dx,[],U,hx,k.of.cl,k.n3,∅,?_⟩;refine⟨_,U,_,U,x,c.cf,dx,_,U,pE,k.of.cl,k.n4,by show 1<1000;decide,?_⟩;refine⟨_,U,_,U,x,c.cf,dx,_,U,pE,k.of.cl,k.n5,by show 2<1000;decide,?_⟩;exact q _ (λa u ha e=>by rw[af ha,af ha,af ha];exact e) pE
inductive vZ (K:Fg) (c:Ks) (vs:List V) (H:Hp) (Q:VK):Prop
  | mk (A:Ad) (S:MS) (t:Tsk) (ve vn:V) (h0:vs=[.ref A.m,.str t.t,ve,vn,.int ((t.c:Nat):Int)]) (h1:MV K c A H S) (h2:TD K H ve (exD t.e)) (h3:NmV K A H vn t.n) (h4:S.W.length<30000) (q:∀ H',Fr A A H H'->MV K c A H' {S with W:=S.W++[t]}->Q .non H'):vZ K c vs H Q
def qz (K:Fg) (c:Ks):Sp:=λvs H Q _=>vZ K c vs H Q
def Br {α:Type} {l:List α} (h:l.length=5):∃ a b c d e,l=[a,b,c,d,e]:=by
 obtain⟨a,r,rfl⟩:=List.exists_cons_of_length_eq_add_one h;obtain⟨b,c,d,e,rfl⟩:=bL (show r.length=4 by simpa using h);exact⟨a,b,c,d,e,U⟩
def AI (D:gR K c.cc "wait" "Machine.wait" (sM 1)) (k:KC K mg c):MFn P w K mg base c.cc "wait" 1 ["self","task","e","names","count"] (qz K c):=by
 refine D.fn (N:=["self","task","e","names","count"]) fsM (λvs H Q E h=>?_) (λ_ _ _ _ _ _ us hl=>by obtain⟨a,b,d,e,f,rfl⟩:=Br hl;rfl) (λf' cdv A outer s' H vs Q E hr h=>?_)
 · obtain⟨A,S,t,ve,vn,rfl,_⟩:=h;rfl
 · obtain⟨A,S,t,ve,vn,rfl,m,he,hn,h2,q⟩:=h;have hz0:(40000:Nat)<sizeLine:=∅
   refine⟨_,(pG (aH (cT (bS ↥0 U) %[ax %[1,2,3,4|0]|0]))),?_⟩;obtain⟨vd,h1,e1⟩:=m.m;obtain⟨ws,hw,ew⟩:=m.w;have wl:=aA ew;refine⟨_,U,A.m,c.cc,A.dx,_,_,U,h1,k.oc,k.n8,U,.inl ⟨U,_,SqL.of hw⟩,_,U,_,U,_,U,_,U,vF,λp hp=>?_⟩;have s1:=smu (o:=HO.tup [.str t.t,ve,vn,.int ((t.c:Nat):Int)]) hp;have m1:=m.same s1;have hw1:=s1 _ _ hw;have pt:ku K A (upd H p (.tup [.str t.t,ve,vn,.int ((t.c:Nat):Int)])) (.ref p) t:=.mk (SqT.of pE) (he.same s1) (hn.fr (.of s1));refine⟨A.wa,ws,_,U,U,hw1,∅,?_⟩;refine q _ ((Fr.of s1).trans (m1.upd_fr (.inr (.inl U)))) (m1.putW (bK (ah ew λ_ _ z=>z.fr (.of s1)) (.cons pt .nil)) ?_);rw[lAp];show S.W.length+1<=30000;omega
inductive wS (K:Fg) (c:Ks) (vs:List V) (H:Hp) (Q:VK):Prop
  | mk (A:Ad) (S:MS) (e:Ex) (n:Nm) (ve vn:V) (h0:vs=[.ref A.m,ve,vn]) (h1:MV K c A H S) (h2:TD K H ve (exD e)) (h3:NmV K A H vn n) (h4:S.W.length<30000) (q:∀ H',Fr A A H H'->MV K c A H' {S with W:=S.W++[⟨"begin",e,n,0⟩]}->Q .non H'):wS K c vs H Q
def jH (K:Fg) (c:Ks):Sp:=λvs H Q _=>wS K c vs H Q
def Bl (D:gR K c.cc "begin" "Machine.begin" (sM 2)) (k:KC K mg c) (M_wait:MFn P w K mg base c.cc "wait" 1 ["self","task","e","names","count"] (qz K c)):MFn P w K mg base c.cc "begin" 2 ["self","e","names"] (jH K c):=by
 exists D.fn (N:=["self","e","names"]) fsM,jT,_,_,_
 · obtain⟨A,S,e,n,ve,vn,rfl,_⟩:=h;rfl
 · obtain⟨A,S,e,n,ve,vn,rfl,m,he,hn,h2,q⟩:=h;refine⟨_,(pG (aH (bo ↥0 k.oc M_wait ⇑hr %[pC,1,2,pF|0]))),?_⟩;obtain⟨vd,h1,e1⟩:=m.m;exact⟨_,U,A.m,A.dx,_,U,h1,U,_,U,_,U,A,S,⟨"begin",e,n,0⟩,ve,vn,U,m,he,hn,h2,q⟩
inductive wf (K:Fg) (c:Ks) (vs:List V) (H:Hp) (Q:VK):Prop
  | mk (A:Ad) (S:MS) (v:V) (x:Vl) (h0:vs=[.ref A.m,v]) (h1:MV K c A H S) (h2:VlV K c A H v x) (h4:S.T.length<30000) (q:∀ H',Fr A A H H'->MV K c A H' {S with T:=S.T++[x]}->Q .non H'):wf K c vs H Q
def ij (K:Fg) (c:Ks):Sp:=λvs H Q _=>wf K c vs H Q
def AK (D:gR K c.cc "tell" "Machine.tell" (sM 3)) (k:KC K mg c):MFn P w K mg base c.cc "tell" 1 ["self","value"] (ij K c):=by
 exists D.fn (N:=["self","value"]) fsM,i4,_,_
 · obtain⟨A,S,v,x,rfl,_⟩:=h;rfl
 · obtain⟨A,S,v,x,rfl,m,hv,h2,q⟩:=h;have hz0:(40000:Nat)<sizeLine:=∅
   refine⟨_,(pG (aH (cT (bS ↥0 U) %[1|0]))),?_⟩;obtain⟨vd,h1,e1⟩:=m.m;obtain⟨ts,ht,et⟩:=m.t;have tl:=aA et;refine⟨_,U,A.m,c.cc,A.dx,_,_,U,h1,k.oc,k.n9,U,.inl ⟨U,_,SqL.of ht⟩,_,U,A.ta,ts,_,U,U,ht,∅,?_⟩;refine q _ (m.upd_fr (.inr (.inr (.inl U)))) (m.putT (bK et (.cons hv .nil)) ?_);rw[lAp];show S.T.length+1<=30000;omega
def gP {xs:List V} {n:Nat} (h:n<=xs.length):eM xs (some ((n:Nat):Int)) none=xs.drop n:=by
 unfold eM;rw[HT.ip,HT.gu,Nat.min_eq_left h];exact List.take_of_length_le (by rw[List.length_drop];omega)
inductive wj (K:Fg) (c:Ks) (vs:List V) (H:Hp) (Q:VK):Prop
  | mk (A:Ad) (S:MS) (T1 T2:List Vl) (h0:vs=[.ref A.m,.int ((T2.length:Nat):Int)]) (h1:MV K c A H S) (h2:S.T=T1++T2) (q:∀ l us H',Fr A A H H'->¬ A.av l->H' l=some (.lst us)->Paired (VlV K c A H') us T2->MV K c A H' {S with T:=T1}->Q (.ref l) H'):wj K c vs H Q
def zP (K:Fg) (c:Ks):Sp:=λvs H Q _=>wj K c vs H Q
def AO (D:gR K c.cc "take" "Machine.take" (sM 4)) (T:Blt mg) (k:KC K mg c):MFn P w K mg base c.cc "take" 1 ["self","count"] (zP K c):=by
 have nd:(["self","count","first","taken"]:List Str).Nodup:=by left
 exists D.fn (N:=["self","count","first","taken"]) (~~~nd),i4,_,_
 · obtain⟨A,S,T1,T2,rfl,_⟩:=h;rfl
 · obtain⟨A,S,T1,T2,rfl,m,hT,q⟩:=h;have hz0:(40000:Nat)<sizeLine:=∅
   refine⟨_,(pD (pL (i:=2) nd U (.inl U) (aN cF (cq T.len %[bS ↥0 U|0]) ↥1))
     (pD (pL (i:=3) nd U (.inl U) (ff nO (bS ↥0 U) (dL ↥2) gv))
     (pD (ux (bS ↥0 U) (dL ↥2))
     (pG (ak ↥3))))),?_⟩
   dsimp only[be];obtain⟨vd,h1,e1⟩:=m.m;obtain⟨ts,ht,et⟩:=m.t;have tl:=aA et;have zt:=m.zt;have tl2:S.T.length=T1.length+T2.length:=by rw[hT,lAp]
   refine⟨_,U,A.m,c.cc,A.dx,_,_,U,h1,k.oc,k.n9,U,A.ta,ts,U,.inl (SqL.of ht),_,U,_,_,U,U,?_⟩;rw[show ((ts.length:Nat):Int)-((T2.length:Nat):Int)=((T1.length:Nat):Int) by omega];refine⟨_,U,A.m,c.cc,A.dx,_,_,U,h1,k.oc,k.n9,U,_,U,_,U,A.ta,ts,U,SqL.of ht,λp hp=>?_⟩;rw[gP ∅] at *;have s1:=smu (o:=HO.lst (ts.drop T1.length)) hp;have m1:=m.same s1;have ht1:=s1 _ _ ht;have hp1:(upd H p (.lst (ts.drop T1.length))) p=some (.lst (ts.drop T1.length)):=pE;have np:=m.new hp;have h11:=s1 _ _ h1;refine⟨_,U,A.m,c.cc,A.dx,_,_,U,h11,k.oc,k.n9,U,_,U,_,U,A.ta,ts,T1.length,U,U,ht1,∅,?_⟩;have f1:Fr A A H (upd H p (.lst (ts.drop T1.length))):=.of s1;have e2:=ah et λ_ _ z=>z.fr f1;have d2:=i9 e2 T1.length;have t2:=lj e2 T1.length;rw[hT,List.drop_left] at d2;rw[hT,List.take_left] at t2;have f2:=m1.upd_fr (o:=.lst (ts.take T1.length)) (.inr (.inr (.inl U)));refine⟨_,U,q p _ _ (f1.trans f2) np (f2.kp _ _ np hp1).1 (ah d2 λ_ _ z=>z.fr f2) (m1.putT t2 ∅)⟩
inductive wK (K:Fg) (c:Ks) (vs:List V) (H:Hp) (Q:VK):Prop
  | mk (A:Ad) (S:MS) (s:Str) (h0:vs=[.ref A.m,.str s]) (h1:MV K c A H S) (q:∀ H',Fr A A H H'->MV K c A H' {S with en:=some (.flt s)}->Q .non H'):wK K c vs H Q
def qH (K:Fg) (c:Ks):Sp:=λvs H Q _=>wK K c vs H Q
def B9 (D:gR K c.cc "fault" "Machine.fault" (sM 5)) (k:KC K mg c):MFn P w K mg base c.cc "fault" 1 ["self","word"] (qH K c):=by
 exists D.fn (N:=["self","word"]) fsM,i4,_,_
 · obtain⟨A,S,s,rfl,_⟩:=h;rfl
 · obtain⟨A,S,s,rfl,m,q⟩:=h;refine⟨_,(pG (cY ↥0 (ax %[pC,1|0]) U)),?_⟩;obtain⟨vd,h1,e1⟩:=m.m;refine⟨_,U,dB,λp hp=>?_⟩;have s1:=smu (o:=HO.tup [.str "fault",.str s]) hp;have m1:=m.same s1;refine⟨_,U,A.m,c.cc,A.dx,_,U,s1 _ _ h1,k.oc,k.n11,by show 6<1000;decide,?_⟩;exact q _ ((Fr.of s1).trans (m1.upd_fr (.inl U))) (m1.putM (k:=S.k) (ve:=.ref p) (en:=some (.flt s)) (.flt (SqT.of pE)))
inductive wg (K:Fg) (c:Ks) (vs:List V) (H:Hp) (Q:VK):Prop
  | mk (A:Ad) (S:MS) (h0:vs=[.ref A.m]) (h1:MV K c A H S) (q:S.k≠0->∀ H',Fr A A H H'->MV K c A H' {S with k:=S.k-1}->Q (.bl true) H') (q0:S.k=0->∀ H',Fr A A H H'->MV K c A H' {S with en:=some .dry}->Q (.bl false) H'):wg K c vs H Q
def u9 (K:Fg) (c:Ks):Sp:=λvs H Q _=>wg K c vs H Q
def AN (D:gR K c.cc "tick" "Machine.tick" (sM 6)) (k:KC K mg c):MFn P w K mg base c.cc "tick" 1 ["self"] (u9 K c):=by
 exists D.fn (N:=["self"]) fsM,fD,_
 · obtain⟨A,S,rfl,_⟩:=h;rfl
 · obtain⟨A,S,rfl,m,q,q0⟩:=h;refine⟨_,(pD (az (pM aB (bS ↥0 U) pF (pN _)) (pD (cY ↥0 (ax %[pC|0]) U) (pG (ak ld))) aq)
     (pD (p5 ↥0 pF yq) (pG (ak ld)))),?_⟩
   dsimp only[be];obtain⟨vd,h1,e1⟩:=m.m;refine⟨_,U,A.m,c.cc,A.dx,_,_,U,h1,k.oc,k.n7,U,U,_,U,?_⟩;by_cases hk:S.k=0
   · refine pJ (by simpa using hk) ?_;refine⟨me,λp hp=>?_⟩;have s1:=smu (o:=HO.tup [.str "dry"]) hp;have m1:=m.same s1;refine⟨_,U,A.m,c.cc,A.dx,_,U,s1 _ _ h1,k.oc,k.n11,by show 6<1000;decide,?_⟩;exact q0 hk _ ((Fr.of s1).trans (m1.upd_fr (.inl U))) (m1.putM (k:=S.k) (ve:=.ref p) (en:=some .dry) (.dry (SqT.of pE)))
   · refine pI (by simpa using hk) ?_;refine⟨_,U,A.m,c.cc,A.dx,_,_,U,h1,k.oc,k.n7,U,_,_,U,U,A.dx,_,h1,by show 6<1000;decide,?_⟩;exact q hk _ (m.upd_fr (.inl U)) (m.putM (k:=S.k-1) (ve:=vd) (en:=S.en) e1)
end
end K19
namespace L2
open PySem PySem.Spec PyProof.Rows
abbrev zl1 (h:Heap) (a:Addr):Heap:=h.push {cls:=.type "list_iterator",data:=.fields #[.ref a,.int 0 0]}
abbrev zm2 (h:Heap) (a b:Addr):Heap:=zl1 (zt1 h a) b
abbrev zm3 (h:Heap) (a b:Addr):Heap:=(zm2 h a b).push {cls:=.type "tuple",data:=.seq #[.ref h.objs.size,.ref (zt1 h a).objs.size]}
abbrev zm4 (h:Heap) (a b:Addr):Heap:=(zm3 h a b).push {cls:=.type "tuple",data:=.seq #[.none,.none]}
abbrev zm5 (h:Heap) (a b:Addr):Heap:=(zm4 h a b).push {cls:=.type "zip",data:=.fields #[.none,.bool false,.bool false,.ref (zm2 h a b).objs.size,.ref (zm3 h a b).objs.size]}
def mK (a b:Addr) (xs ys:Array Value):Meets (Builtin.«zip.__new__» ⟨[.type "zip",.ref a,.ref b],[]⟩) (λ_ R s=>s.heap.IsTuple a xs/\s.heap.IsList b ys/\R (.ok (.ret (.ref (zm4 s.heap a b).objs.size))) {s with heap:=zm5 s.heap a b}) :=
 .of_wp λprog w A R s h=>by
  obtain⟨hp,g,d,tk,os⟩:=s;obtain⟨ha,hb,h⟩:=h;have sub:=sub_zip;have e1:Heap.IsTuple (Shared.heap ⟨hp,g,d,tk,os⟩) a xs:=ha;have e2:Heap.IsList (Shared.heap ⟨zt1 hp a,g,d,tk,os⟩) b ys:=Heap.IsList.push hb _
  wp_walk using wpAny_pyIter_tuple e1,wpAny_pyIter_list e2
  exact⟨_,U,h⟩
def qd {prog:Program} {w:World} {A:Around} {E:VSP} {s:Shared} {a b:Addr} {xs ys:Array Value} {Q:VSP} (ha:s.heap.IsTuple a xs) (hb:s.heap.IsList b ys)
 (h:∀ h',IsZip h' (s.heap.objs.size+4) (s.heap.objs.size+2) (s.heap.objs.size+3) .none->IsPair h' (s.heap.objs.size+2) (.ref s.heap.objs.size) (.ref (s.heap.objs.size+1))->IsPair h' (s.heap.objs.size+3) .none .none ->
   h'.IsTupleIter s.heap.objs.size a 0->h'.IsListIter (s.heap.objs.size+1) b 0->(∀ c o,s.heap.get? c=some o->h'.get? c=some o)->Q (.ref (s.heap.objs.size+4)) {s with heap:=h'}) :
 wpAny (model prog w) A (call (.type "zip") [.ref a,.ref b]) Q E s:=by
 refine callType_new F.called_zip ∅ (F.typeCall_zip_2 _ _) (F.newCall_zip_2 _ _) (λobj=>F.args_object_init_3 obj _ _) F.entry_zip_new (mK a b xs ys) ⟨ha,hb,?_⟩;have z1:(zt1 s.heap a).objs.size=s.heap.objs.size+1:=Heap.size_push ..;have z2:(zm2 s.heap a b).objs.size=s.heap.objs.size+2:=by rw[Heap.size_push,z1]
 have z3:(zm3 s.heap a b).objs.size=s.heap.objs.size+3:=by rw[Heap.size_push,z2]
 have z4:(zm4 s.heap a b).objs.size=s.heap.objs.size+4:=by rw[Heap.size_push,z3]
 have up:∀ {c:Addr} {o:Obj},(zt1 s.heap a).get? c=some o->(zm5 s.heap a b).get? c=some o:=λe=>hpS _ (hpS _ (hpS _ (hpS _ e)));have g5:(zm5 s.heap a b).get? (zm4 s.heap a b).objs.size=some _:=Heap.get?_push_size _ rfl;have g4:(zm5 s.heap a b).get? (zm3 s.heap a b).objs.size=some _:=hpS _ (Heap.get?_push_size _ U);have g3:(zm5 s.heap a b).get? (zm2 s.heap a b).objs.size=some _:=hpS _ (hpS _ (Heap.get?_push_size _ U));have g2:(zm5 s.heap a b).get? (zt1 s.heap a).objs.size=some _:=hpS _ (hpS _ (hpS _ (Heap.get?_push_size _ U)));have g1:(zm5 s.heap a b).get? s.heap.objs.size=some _:=up (Heap.get?_push_size _ U);show _/\_;rw[z2,z3,z4] at g5;rw[z1,z2] at g3;rw[z3] at g4;rw[z1] at g2;rw[z4];exact⟨⟨_,g5,U⟩,h _ g5 g3 g4 ⟨_,g1,U,U⟩ ⟨_,g2,U,U⟩ λc o e=>up (hpS _ e)⟩
def vE (K:Fg) (a b:Addr):It :=
  ⟨λi H=>∃ xs ys x y,SqT K H a xs/\SqL K H b ys/\xs[i]?=some x/\ys[i]?=some y,λi H v H'=>∃ t x y,v=.ref t/\H t=none/\H'=upd H t (.tup [x,y])/\(∀ xs,SqT K H a xs->xs[i]?=some x)/\∀ ys,SqL K H b ys->ys[i]?=some y,
    λi H=>∃ xs ys,SqT K H a xs/\SqL K H b ys/\(xs.length<=i\/ys.length<=i)⟩
def oS {P:Program} {w:World} {K:Fg} {elts:List Expr} {k} {pos:Pos} (a b z TI TO i1 i2:Addr) (h0:z≠TI/\z≠TO/\z≠i1/\z≠i2/\TI≠TO/\TI≠i1/\TI≠i2/\TO≠i1/\TO≠i2/\i1≠i2) (hab:a≠TO/\b≠TO) :
 qh P w K (.Tuple elts k pos) (vE K a b) [z,TI,TO,i1,i2] z (λi h=>IsZip h z TI TO .none/\IsPair h TI (.ref i1) (.ref i2)/\(∃ u v,IsPair h TO u v)/\h.IsTupleIter i1 a i/\h.IsListIter i2 b i) where
 mem:=by simp
 obj:=λi h st c hc=>by
  obtain⟨h1,h2,⟨u,v,h3⟩,⟨o4,h4,_,d4⟩,⟨o5,h5,_,d5⟩⟩:=st;simp only[List.mem_cons,nMN,or_false] at hc
  rcases hc with rfl | rfl | rfl | rfl | rfl
  · exact⟨_,h1,λv z=>by cases z⟩
  · exact⟨_,h2,λv z=>by cases z⟩
  · exact⟨_,h3,λv z=>by cases z⟩
  · exact⟨_,h4,λv z=>by rw[d4] at z;cases z⟩
  · exact⟨_,h5,λv z=>by rw[d5] at z;cases z⟩
 keep:=λi h h' st k=>by
  obtain⟨h1,h2,⟨u,v,h3⟩,⟨o4,h4,r4⟩,⟨o5,h5,r5⟩⟩:=st;exact⟨k z (by simp) _ h1,k TI (by simp) _ h2,⟨u,v,k TO (by simp) _ h3⟩,⟨o4,k i1 (by simp) _ h4,r4⟩,⟨o5,k i2 (by simp) _ h5,r5⟩⟩
 item:=by
  intro X hP hw hK hc i pins s σ H E I hf st hg;subst hP hw hK;obtain⟨xs,ys,x,y,hqx,hqy,hx,hy⟩:=hg;obtain⟨its,rv,p,hz⟩:=I.tuple hqx;obtain⟨its2,rv2,p2,hz2⟩:=I.list hqy;obtain⟨u,hu,ru⟩:=rv.get hx;obtain⟨v,hv,rv'⟩:=rv2.get hy;obtain⟨h1,h2,⟨u0,v0,h3⟩,h4,h5⟩:=st;obtain⟨n1,n2,n3,n4,n5,n6,n7,n8,n9,n10⟩:=h0;obtain⟨ol,hol,hcl,_⟩:=id p;obtain⟨ol2,hol2,hcl2,_⟩:=p2.isList;obtain⟨o4,g4,c4,d4⟩:=id h4;obtain⟨o5,g5,c5,d5⟩:=id h5;have D:ZAp z TI TO i1 i2 a b:=⟨⟨n1.symm,n2.symm,n3.symm,n4.symm,bF hol h1 (by rw[hcl];simp),bF hol2 h1 (by rw[hcl2];simp)⟩,⟨n5,n8.symm,n9.symm,hab.1,hab.2⟩,⟨n6,n7,n10⟩,
    ⟨bF hol g4 (by rw[hcl,c4];simp),bF hol g5 (by rw[hcl,c5];simp),bF hol2 g4 (by rw[hcl2,c4];simp),bF hol2 g5 (by rw[hcl2,c5];simp)⟩⟩
  refine iR D (fR i1 a D.l_.1 its.toArray) (oB i2 b D.l_.2.2.2 its2.toArray) h1 h2 h3 ⟨h4,p⟩ ⟨h5,p2.isList⟩ (x:=u) (y:=v) (by simpa using hu) (by simpa using hv) λh' e1 e2 e3 e4 e5 e7=>?_;refine⟨_,U,wpAny_letOwnedTupleGo_zip (s:={s with heap:=h'}) e1 λh'' f1 sb=>?_⟩;have lz:z<s.heap.objs.size:=Heap.lt_size h1;have keep:∀ c o,c∉[z,TI,TO,i1,i2]->s.heap.get? c=some o->h''.get? c=some o:=λc o hc q=>by
   simp only[List.mem_cons,nMN,or_false,not_or] at hc;exact (sb.2 c hc.1).trans (e7 c o hc.1 hc.2.2.1 hc.2.2.2.1 hc.2.2.2.2 q)
  have hT:h''.get? s.heap.objs.size=some {cls:=.type "tuple",data:=.seq #[u,v]}:=(sb.2 _ (Nat.ne_of_gt lz)).trans e5;have I2:Inv X pins σ (upd H s.heap.objs.size (.tup [x,y])) {s with heap:=h''}:=I.turnedNew (t':=s.toks) hf keep ⟨dB,[u,v],.cons ru (.cons rv' .nil),⟨_,hT,U,_,U⟩⟩;refine⟨.ref s.heap.objs.size,_,I2,U,⟨_,x,y,U,I.hok.fresh (Nat.le_refl _),U,λq hq=>by rw[I.tuple_inj hq hqx];exact hx,λq hq=>by rw[I.list_inj hq hqy];exact hy⟩,⟨f1,?_,⟨u,v,(sb.2 TO D.z_.2.1).trans e2⟩,?_,?_⟩,λc hc=>?_⟩
  · exact (sb.2 TI D.z_.1).trans (e7 TI _ D.z_.1 D.o_.1 D.i_.1 D.i_.2.1 h2)
  · obtain⟨⟨o,q,r⟩,_⟩:=e3;exact⟨o,(sb.2 i1 D.z_.2.2.1).trans q,r⟩
  · obtain⟨⟨o,q,r⟩,_⟩:=e4;exact⟨o,(sb.2 i2 D.z_.2.2.2.1).trans q,r⟩
  · have hlt:c<s.heap.objs.size:=by
     simp only[List.mem_cons,nMN,or_false] at hc
     rcases hc with rfl | rfl | rfl | rfl | rfl
     · exact lz
     · exact Heap.lt_size h2
     · exact Heap.lt_size h3
     · exact Heap.lt_size g4
     · exact Heap.lt_size g5
    rw[af (Nat.ne_of_lt hlt)];exact (hf c hc).1
 done:=by
  intro X hP hw hK hc i pins s σ H E I hf st hg;subst hP hw hK;obtain⟨xs,ys,hqx,hqy,hlen⟩:=hg;obtain⟨its,rv,p,hz⟩:=I.tuple hqx;obtain⟨its2,rv2,p2,hz2⟩:=I.list hqy;obtain⟨h1,h2,⟨u0,v0,h3⟩,h4,h5⟩:=st;obtain⟨n1,n2,n3,n4,n5,n6,n7,n8,n9,n10⟩:=h0;obtain⟨ol,hol,hcl,_⟩:=id p;obtain⟨ol2,hol2,hcl2,_⟩:=p2.isList;obtain⟨o4,g4,c4,d4⟩:=id h4;obtain⟨o5,g5,c5,d5⟩:=id h5;have D:ZAp z TI TO i1 i2 a b:=⟨⟨n1.symm,n2.symm,n3.symm,n4.symm,bF hol h1 (by rw[hcl];simp),bF hol2 h1 (by rw[hcl2];simp)⟩,⟨n5,n8.symm,n9.symm,hab.1,hab.2⟩,⟨n6,n7,n10⟩,
    ⟨bF hol g4 (by rw[hcl,c4];simp),bF hol g5 (by rw[hcl,c5];simp),bF hol2 g4 (by rw[hcl2,c4];simp),bF hol2 g5 (by rw[hcl2,c5];simp)⟩⟩
  have e1:=rv.length;have e2:=rv2.length;refine js (I.ok.hd hc) D (fR i1 a D.l_.1 its.toArray) (oB i2 b D.l_.2.2.2 its2.toArray) h1 h2 h3 ⟨h4,p⟩ ⟨h5,p2.isList⟩ (hlen.imp (λq=>by simp;lia) λq=>by simp;lia) λh' kp=>⟨U,I.turnedAll (t':=s.toks) hf λc o hc q=>?_⟩;simp only[List.mem_cons,nMN,or_false,not_or] at hc;exact kp c o hc.1 hc.2.2.1 hc.2.2.2.1 hc.2.2.2.2 q
 self:=λ_ _ _ _ _ st h=>wpAny_pyIter_zip st.1 h
def Bu (K:Fg) (ta:TA):TI:=λσ H R=>ta σ H λvs H1=>∃ a b xs ys,vs=[.ref a,.ref b]/\SqT K H1 a xs/\SqL K H1 b ys/\R (vE K a b) H1
def uz {X:Cx} {elts:List Expr} {k} {tpos:Pos} {e1 e2:Expr} {ta:TA} {p pos:Pos} (hg:Gl X "zip") (hm:X.mg "zip"=none) (ha:PA X [e1,e2] ta) (hs:starEach [e1,e2] X.env=[(false,eval e1 X.env),(false,eval e2 X.env)]:=by rfl) (hs2:starEach [e2] X.env=[(false,eval e2 X.env)]:=by rfl) :
 PI X (.Tuple elts k tpos) (.Call (.Name "zip" p) [e1,e2] [] pos) (Bu X.K ta):=by
 intro pins s σ H R I h;refine Call_ (dW I hg hm lR (PyProof.Rows.callWith_type1 (thn (ha pos pins s σ H _ I h) λus s1 zy16=>?_) (by rw[hs,hs2]) (by rw[hs2];rfl)));obtain⟨vs,H1,I1,r1,q1⟩:=zy16;obtain⟨a,b,xs,ys,e,hqx,hqy,q⟩:=q1;subst e;obtain⟨u,v,rfl,ru,rv⟩:=r1.two;cases ru;cases rv;obtain⟨its,rv,p1,hz⟩:=I1.tuple hqx;obtain⟨its2,rv2,p2,hz2⟩:=I1.list hqy;have la:a<s1.heap.objs.size:=by obtain⟨o,e,_⟩:=id p1;exact Heap.lt_size e
 have lb:b<s1.heap.objs.size:=by obtain⟨o,e,_⟩:=p2.isList;exact Heap.lt_size e
 refine qd p1 p2.isList λh' f1 f2 f3 f4 f5 f7=>?_;refine wpAny_pyIter_zip f1 ?_;have I2:Inv X pins σ H1 {s1 with heap:=h'}:=I1.kept (t':=s1.toks) f7;generalize hn:s1.heap.objs.size=n at f1 f2 f3 f4 f5 la lb;refine⟨n+4,[n+4,n+2,n+3,n,n+1],_,vE X.K a b,H1,U,I2,oS a b (n+4) (n+2) (n+3) n (n+1) (by refine⟨?_,?_,?_,?_,?_,?_,?_,?_,?_,?_⟩ <;> (intro z;have z':(_:Nat)=_:=z;lia)) ⟨Nat.ne_of_lt (Nat.lt_add_right 3 la),Nat.ne_of_lt (Nat.lt_add_right 3 lb)⟩,⟨f1,f2,⟨_,_,f3⟩,f4,f5⟩,λc hc=>?_,q⟩;have hc':s1.heap.objs.size<=c:=by
  rw[hn];simp only[List.mem_cons,nMN,or_false] at hc
  rcases hc with rfl | rfl | rfl | rfl | rfl
  · exact Nat.le_add_right _ _
  · exact Nat.le_add_right _ _
  · exact Nat.le_add_right _ _
  · exact Nat.le_refl _
  · exact Nat.le_add_right _ _
 exact I1.fpOk hc' (I1.hok.fresh hc')
def aO.zipM {K:Fg} {a b:Addr} {xs ys:List V} {g:TG} {tb:TS} {d:St->Hp->Prop} {r:VK} {k c:St->Hp->Prop} {σ:St} {H:Hp} (hlen:xs.length=ys.length) (Pv:Nat->St->Hp->Prop) (h0:Pv 0 σ H) (hl:∀ i σ H,i<=xs.length->Pv i σ H->SqT K H a xs/\SqL K H b ys)
 (hs:∀ i x y σ H t (N B:St->Hp->Prop),(∀ σ' H',Pv (i+1) σ' H'->N σ' H')->xs[i]?=some x->ys[i]?=some y->Pv i σ H->H t=none->g (.ref t) σ (upd H t (.tup [x,y])) λσ2 H2=>tb ⟨N,r,B,N⟩ σ2 H2) (hd:∀ σ H,Pv xs.length σ H->d σ H):aO (vE K a b) g tb ⟨d,r,k,c⟩ σ H:=by
 refine⟨λi m σ H=>i<=xs.length/\m=xs.length-i/\Pv i σ H,⟨_,Nat.zero_le _,U,h0⟩,λi m σ H z=>?_⟩;obtain⟨hi,hm,hp⟩:=z;obtain⟨l1,l2⟩:=hl i σ H hi hp;by_cases hlt:i<xs.length
 · have hlt2:i<ys.length:=∅
   refine .inr ⟨⟨xs,ys,xs[i],ys[i],l1,l2,by simp[hlt],by simp[hlt2]⟩,λσ' H'=>Pv (i+1) σ' H',λσ' H' q=>⟨xs.length-(i+1),by rw[hm];exact Nat.sub_succ_lt_self _ _ hlt,hlt,U,q⟩,?_⟩;rintro v H' ⟨t,x,y,rfl,ht,rfl,hx,hy⟩;exact hs i x y σ H t _ _ (λ_ _ z=>z) (hx xs l1) (hy ys l2) hp ht
 · have:i=xs.length:=∅
   subst this;exact .inl ⟨⟨xs,ys,l1,l2,.inl (Nat.le_refl _)⟩,hd σ H hp⟩
end L2
namespace K19
open PySem L2 P10
def cA {K:Fg} {H:Hp} {xr:List V} {ds:PDs} {d:PyData} (h:TDs K H xr (d::ds)):∃ y yr,xr=y::yr/\TD K H y d/\TDs K H yr ds:=by
 cases h with
 | cons p q=>exact⟨_,_,U,p,q⟩
def gr {K:Fg} {H:Hp}:∀ {is:List Int} {xs:List V},TDs K H xs (is.map .int)->xs=is.map V.int:=by
 intro is
 induction is with
 | nil=>intro xs h;cases h;rfl
 | cons i r ih =>
  intro xs h;obtain⟨y,yr,rfl,a,b⟩:=cA h;cases a;rw[ih b];rfl
def lA:∀ {is:List Int} {n:Nm} {b:Nat} {i:Int},nms n b (is++[i])=(i,b+is.length)::nms n b is:=by
 intro is
 induction is with
 | nil=>intro n b i;rfl
 | cons j r ih =>
  intro n b i;show nms ((j,b)::n) (b+1) (r++[i])=_;rw[ih,List.length_cons,show b+1+r.length=b+(r.length+1) by omega];rfl
section
variable {P:Program} {w:World} {K:Fg} {mg:SOV} {base:Heap} {c:Ks}
abbrev sBn:Stmt:=top 20
abbrev nBn:List Str:=["names","ids","values","number","value"]
abbrev lc:List Str:=["names","ids","values"]
def ur:bv nBn lc (am sBn):=fsM
inductive sX (K:Fg) (c:Ks) (vs:List V) (H:Hp) (Q:VK):Prop
  | mk (A:Ad) (S:MS) (n:Nm) (vn:V) (a b:Addr) (is:List Int) (us:List V) (xs:List Vl) (fl:Bool) (h0:vs=[vn,.ref a,.ref b]) (h1:MV K c A H S) (h2:NmV K A H vn n) (h3:SqT K H a (is.map V.int)) (h4:SqL K H b us) (h5:Paired (VlV K c A H) us xs) (h6:is.length=xs.length)
    (q:∀ A' v H',aI H H'->Fr A A' H H'->MV K c A' H' {S with B:=S.B++xs.map λy=>(fl,y)}->NmV K A' H' v (nms n S.B.length is)->Q v H'):sX K c vs H Q
def kZ (K:Fg) (c:Ks):Sp:=λvs H Q _=>sX K c vs H Q
def yd (D:Def K mg "bound_names" sBn) (T:Blt mg):Fn P w K mg base "bound_names" 1 lc (kZ K c):=by
 exists D.fn ur,jT,_,_,_
 · obtain⟨A,S,n,vn,a,b,is,us,xs,fl,rfl,_⟩:=h;rfl
 · obtain⟨A,S,n,vn,a,b,is,us,xs,fl,rfl,m,hn,ha,hb,hu,hl,q⟩:=h;have nd:=ur.nd;have ul:=aA hu;refine⟨_,(pD (cR PassesOwn.never U (uz U T.zip %[1,2|0]) (dQ U (aU (aC (i:=3) nd U (.inl U)) (aU (aC (i:=4) nd U (.inl U)) d9)))
 (pG (pL (i:=0) nd U (.inl U) (ax %[3,bE %[4|0],0|0]))))
 (pG (ak ↥0))),?_⟩
   dsimp only[be];refine⟨_,U,_,U,a,b,_,us,U,ha,hb,?_⟩;show aO _ _ _ _ _ _;refine aO.zipM (xs:=is.map V.int) (ys:=us) (by rw[lMp];omega) (λj σ Hj=>aI H Hj/\∃ A',Fr A A' H Hj/\MV K c A' Hj {S with B:=S.B++(xs.take j).map λy=>(fl,y)}/\∃ v x3 x4,σ=[some v,some (.ref a),some (.ref b),x3,x4]/\NmV K A' Hj v (nms n S.B.length (is.take j))) ⟨aI.refl _,A,Fr.refl,by rw[List.take_zero,List.map_nil,List.append_nil];exact m,_,_,_,U,hn⟩ (λi σ Hi _ z=>⟨ha.tk z.1.tk,hb.same z.1⟩) ?_ ?_
   · rintro j y z σ Hj t N_ B_ hN_ hy hz ⟨sj,A',fA,mj,v,x3,x4,rfl,hv⟩ ht;have hj:j<is.length:=by have:=(gES.mp hy).1;rwa [lMp] at this
     rw[gEM,gEE hj] at hy;cases hy;have hx:xs[j]?=some (xs[j]'∅):=gEE _;obtain⟨z',hz',vz⟩:=aJ hu hx;rw[hz] at hz';cases hz';have k1:=smu (o:=HO.tup [.int is[j],z]) ht;have s1:=sj.trans k1;refine⟨t,_,U,SqT.of pE,U,_,_,U,_,_,U,U,?_⟩;have hv1:=hv.fr (.of k1);have mj1:=mj.same k1;generalize upd Hj t (.tup [.int is[j],z])=H1 at k1 s1 hv1 mj1 ⊢;refine⟨_,U,_,U,me,λbx hbx=>?_⟩;have k2:=smu (o:=HO.lst [z]) hbx;refine⟨_,U,kH,λp hp=>?_⟩;have k3:=smu (o:=HO.tup [.int is[j],.ref bx,v]) hp;have F1:=fA.trans (.of k1);obtain⟨fb,mb⟩:=mj1.box (p:=(fl,xs[j]'∅)) hbx (k2.trans k3) (k3 _ _ pE) (vz.fr F1);have bl:=aA mj1.b;rw[lAp,lMp,lTk] at bl;refine hN_ _ _ ⟨(s1.trans k2).trans k3,A'.more [bx],F1.trans fb,?_,_,_,_,U,?_⟩
     · rw[tAO,hx,List.map_append,<- List.append_assoc];exact mb
     · have hi2:is[j]?=some is[j]:=gEE hj;rw[tAO,hi2];show NmV _ _ _ _ (nms n S.B.length (is.take j++[is[j]]));rw[lA];refine .cons (SqT.of pE) ?_ (hv1.fr fb);show (A'.bs++[bx])[_]?=_;rw[lTk,show S.B.length+min j is.length=A'.bs.length by omega,List.getElem?_append_right (Nat.le_refl _),Nat.sub_self];rfl
   · rintro σ Hj ⟨sj,A',fA,mj,v,x3,x4,rfl,hv⟩;rw[lMp,show xs.take is.length=xs by rw[hl];exact List.take_length] at mj;rw[lMp,List.take_length] at hv;exact⟨_,U,q A' v Hj sj fA mj hv⟩
inductive sW (K:Fg) (c:Ks) (vs:List V) (H:Hp) (Q:VK):Prop
  | mk (A:Ad) (S:MS) (n:Nm) (vn:V) (a b:Addr) (is:List Int) (us:List V) (xs:List Vl) (fl:Bool) (h0:vs=[vn,.ref a,.ref b]) (h1:MV K c A H S) (h2:NmV K A H vn n) (h3:SqT K H a (is.map V.int)) (h4:SqT K H b us) (h5:Paired (VlV K c A H) us xs) (h6:is.length=xs.length)
    (q:∀ A' v H',aI H H'->Fr A A' H H'->MV K c A' H' {S with B:=S.B++xs.map λy=>(fl,y)}->NmV K A' H' v (nms n S.B.length is)->Q v H'):sW K c vs H Q
def vM (K:Fg) (c:Ks):Sp:=λvs H Q _=>sW K c vs H Q
def yc (D:Def K mg "bound_names" sBn) (T:Blt mg):Fn P w K mg base "bound_names" 1 lc (vM K c):=by
 exists D.fn ur,jT,_,_,_
 · obtain⟨A,S,n,vn,a,b,is,us,xs,fl,rfl,_⟩:=h;rfl
 · obtain⟨A,S,n,vn,a,b,is,us,xs,fl,rfl,m,hn,ha,hb,hu,hl,q⟩:=h;have nd:=ur.nd;have ul:=aA hu;refine⟨_,(pD (cR PassesOwn.never U (nV U T.zip %[1,2|0]) (dQ U (aU (aC (i:=3) nd U (.inl U)) (aU (aC (i:=4) nd U (.inl U)) d9)))
 (pG (pL (i:=0) nd U (.inl U) (ax %[3,bE %[4|0],0|0]))))
 (pG (ak ↥0))),?_⟩
   dsimp only[be];refine⟨_,U,_,U,a,b,_,us,U,ha,hb,?_⟩;show aO _ _ _ _ _ _;refine aO.zipTN (xs:=is.map V.int) (ys:=us) (by rw[lMp];omega) (λj σ Hj=>aI H Hj/\∃ A',Fr A A' H Hj/\MV K c A' Hj {S with B:=S.B++(xs.take j).map λy=>(fl,y)}/\∃ v x3 x4,σ=[some v,some (.ref a),some (.ref b),x3,x4]/\NmV K A' Hj v (nms n S.B.length (is.take j))) ⟨aI.refl _,A,Fr.refl,by rw[List.take_zero,List.map_nil,List.append_nil];exact m,_,_,_,U,hn⟩ (λi σ Hi _ z=>⟨ha.tk z.1.tk,hb.tk z.1.tk⟩) ?_ ?_
   · rintro j y z σ Hj t N_ B_ hN_ hy hz ⟨sj,A',fA,mj,v,x3,x4,rfl,hv⟩ ht;have hj:j<is.length:=by have:=(gES.mp hy).1;rwa [lMp] at this
     rw[gEM,gEE hj] at hy;cases hy;have hx:xs[j]?=some (xs[j]'∅):=gEE _;obtain⟨z',hz',vz⟩:=aJ hu hx;rw[hz] at hz';cases hz';have k1:=smu (o:=HO.tup [.int is[j],z]) ht;have s1:=sj.trans k1;refine⟨t,_,U,SqT.of pE,U,_,_,U,_,_,U,U,?_⟩;have hv1:=hv.fr (.of k1);have mj1:=mj.same k1;generalize upd Hj t (.tup [.int is[j],z])=H1 at k1 s1 hv1 mj1 ⊢;refine⟨_,U,_,U,me,λbx hbx=>?_⟩;have k2:=smu (o:=HO.lst [z]) hbx;refine⟨_,U,kH,λp hp=>?_⟩;have k3:=smu (o:=HO.tup [.int is[j],.ref bx,v]) hp;have F1:=fA.trans (.of k1);obtain⟨fb,mb⟩:=mj1.box (p:=(fl,xs[j]'∅)) hbx (k2.trans k3) (k3 _ _ pE) (vz.fr F1);have bl:=aA mj1.b;rw[lAp,lMp,lTk] at bl;refine hN_ _ _ ⟨(s1.trans k2).trans k3,A'.more [bx],F1.trans fb,?_,_,_,_,U,?_⟩
     · rw[tAO,hx,List.map_append,<- List.append_assoc];exact mb
     · have hi2:is[j]?=some is[j]:=gEE hj;rw[tAO,hi2];show NmV _ _ _ _ (nms n S.B.length (is.take j++[is[j]]));rw[lA];refine .cons (SqT.of pE) ?_ (hv1.fr fb);show (A'.bs++[bx])[_]?=_;rw[lTk,show S.B.length+min j is.length=A'.bs.length by omega,List.getElem?_append_right (Nat.le_refl _),Nat.sub_self];rfl
   · rintro σ Hj ⟨sj,A',fA,mj,v,x3,x4,rfl,hv⟩;rw[lMp,show xs.take is.length=xs by rw[hl];exact List.take_length] at mj;rw[lMp,List.take_length] at hv;exact⟨_,U,q A' v Hj sj fA mj hv⟩
abbrev sBo:Stmt:=top 21
inductive wR (K:Fg) (vs:List V) (H:Hp) (Q:VK):Prop
  | mk (A:Ad) (n:Nm) (vn:V) (i:Int) (k:Nat) (h0:vs=[vn,.int i]) (h1:NmV K A H vn n) (h2:n.lookup i=some k) (q:∀ bx,A.bs[k]?=some bx->Q (.ref bx) H):wR K vs H Q
def xv (K:Fg):Sp:=λvs H Q _=>wR K vs H Q
def Bk (D:Def K mg "box_of" sBo):Fn P w K mg base "box_of" 1 ["names","number"] (xv K):=by
 have nd:(["names","number"]:List Str).Nodup:=by left
 exists D.fn (N:=["names","number"]) (~~~nd),i4,_,_
 · obtain⟨A,n,vn,i,x,rfl,_⟩:=h;rfl
 · obtain⟨A,n,vn,i,x,rfl,hn,hx,q⟩:=h;refine⟨_,(pD (iL PassesOwn.never (pM gz ↥↥0 ↥1 (pN _))
 (pG (pL (i:=0) nd U (.inl U) ↥↥0)))
 (pG (ak ↥↥0))),?_⟩
   dsimp only[be];refine aE λlB kJ=>?_;refine⟨λm σ Hi=>Hi=H/\∃ (v:V) (l:Nm),l.length=m/\σ=[some v,some (.int i)]/\NmV K A H v l/\l.lookup i=some x,⟨n.length,U,vn,n,U,U,hn,hx⟩,?_⟩;rintro m σ Hi ⟨rfl,v,l,rfl,rfl,hv,hl⟩;cases hv with
   | nil=>cases hl
   | @cons a bx vr j x' r h hb hr' =>
    refine⟨_,U,a,_,_,_,U,U,h,pH (j:=0) U,_,U,U,_,U,?_⟩;by_cases e:i=j
    · refine pI (by simp[e]) (kJ _ _ ⟨_,U,a,_,_,_,U,U,h,pH (j:=1) U,?_⟩);rw[List.lookup_cons,show (i==j)=true by simpa using e] at hl;cases hl;exact q bx hb
    · refine pJ (by simpa using Ne.symm e) ?_;rw[List.lookup_cons,show (i==j)=false by simpa using e] at hl;refine⟨λσ' H'=>H'=Hi/\σ'=[some vr,some (.int i)],λσ' H' z=>⟨r.length,Nat.lt_succ_self _,z.1,vr,r,U,z.2,hr',hl⟩,?_⟩;exact⟨_,U,a,_,_,_,U,U,h,pH (j:=2) U,U,U⟩
end
end K19
namespace PySem
open Sem (wp)
open AutoSeq1 (wpAny_loadPart')
section
variable {prog:Program} {w:World} {A:Around} {E:VSP} {s:Shared}
def lM {Q:List Value->Shared->Prop} {r:Addr} {a b c:Int} {t u v:Tok} {n:Nat} (hh:A.handled=none) (hr:IsRange s.heap r a b c t u v) (hs:Builtin.Range.small a b c=true) (hn:Builtin.Range.rangeSize a b c=n) (hl:n<=2 ^ 24)
 (q:∀ h' tk acc,(∀ b o,s.heap.get? b=some o->h'.get? b=some o)->ItemsOf (λi v=>∃ t,v=.int (a+i*c) t) acc n->Q acc.toList {s with heap:=h',toks:=tk}):wpAny (model prog w) A (collect (.ref r)) Q E s:=by
 unfold collect;have hS:(s.heap.push {cls:=.type "list",data:=.seq ([]:List Value).toArray}).get? s.heap.objs.size=some {cls:=.type "list",data:=.seq #[] 0}:=Heap.get?_push_size _ rfl;have go:∀ (h':Heap) (tk:Nat) (acc:Array Value) (c':Nat),(∀ b o,b≠s.heap.objs.size->(s.heap.push {cls:=.type "list",data:=.seq ([]:List Value).toArray}).get? b=some o->h'.get? b=some o)->h'.get? s.heap.objs.size=some {cls:=.type "list",dict:=none,data:=.seq acc c',slots:=#[]}->ItemsOf (λi v=>∃ t,v=.int (a+i*c) t) acc n ->
  wpAny (model prog w) A (load s.heap.objs.size>>=λo=>match o.data with | Data.seq xs _=>pure xs.toList | _=>unsupported "internal:collect") Q E {s with heap:=h',toks:=tk}:=by
  intro h' tk acc c' k1 k2 k3;refine wB (wpAny_load k2 (wP (q h' tk acc (λb o z=>k1 b o (Nat.ne_of_lt (Heap.lt_size z)) (hpS _ z)) k3)))
 refine wB (wpAny_runValue (codeAny_builtin F.entry_proto_collect ?_));rw[Around.under_plainId F.plain_proto_collect _];refine wB (m:=newList []) (wpAny_newObj_type (wP ⟨plainId_quiet F.plain_list_iadd _,codeAny_builtin F.entry_list_iadd ?_⟩));rw[Around.under_plainId F.plain_list_iadd _];show wpAny _ A.in1 (Builtin.List.listExtendWith (.ref s.heap.objs.size) (.ref r) (.ref s.heap.objs.size)) _ _ _;refine wpAny_mono (wpAny_extend_range (A:=A) (s:={s with heap:=s.heap.push {cls:=.type "list",data:=.seq ([]:List Value).toArray}}) (R:=λx s'=>x=.ok (.ret (.ref s.heap.objs.size))/\∃ h' tk acc c',s'={s with heap:=h',toks:=tk}/\(∀ b o,b≠s.heap.objs.size->(s.heap.push {cls:=.type "list",data:=.seq ([]:List Value).toArray}).get? b=some o->h'.get? b=some o)/\h'.get? s.heap.objs.size=some {cls:=.type "list",dict:=none,data:=.seq acc c',slots:=#[]}/\ItemsOf (λi v=>∃ t,v=.int (a+i*c) t) acc n) hh (hpS _ hr) hs hn hl _ _ 0 hS λh' tk acc c' k1 k2 k3=>⟨U,h',tk,acc,c',U,k1,k2,k3⟩) (λfin s' h=>?_) (λe s' h=>?_)
 · cases fin with
   | done f =>
    obtain⟨e,h',tk,acc,c',rfl,k1,k2,k3⟩:=h;cases e;exact go h' tk acc c' k1 k2 k3
   | again c1=>exact⟨h.1,codeAny_mono h.2 λx s2 z=>by obtain⟨rfl,h',tk,acc,c',rfl,k1,k2,k3⟩:=z;exact go h' tk acc c' k1 k2 k3⟩
 · exact absurd h.1 (by simp)
end
def kR (r:Addr) (a b c:Int) (t u v:Tok) (n:Nat) (hs:Builtin.Range.small a b c=true) (hn:Builtin.Range.rangeSize a b c=n) (hl:n<=2 ^ 24) :
 Meets (Builtin.«tuple.__new__» ⟨[.type "tuple",.ref r],[]⟩) (λA R s=>A.handled=none/\IsRange s.heap r a b c t u v/\∀ (h':Heap) (tk:Nat) (acc:Array Value),(∀ b o,s.heap.get? b=some o->h'.get? b=some o)->ItemsOf (λi v=>∃ t,v=.int (a+i*c) t) acc n->R (.ok (.ret (.ref h'.objs.size))) {s with heap:=h'.push {cls:=.type "tuple",data:=.seq acc},toks:=tk}) :=
 .of_wp λprog w A R s h=>by
  obtain⟨hh,hr,h⟩:=h;have z1:=sub_tuple_self;have z2:=init_tuple_lookup;have z3:=madeHere_tuple;have hT:s.TypeIs (.ref r) "range":=⟨_,hr,U⟩;have hh1:A.in1.handled=none:=hh
  wp_walk using wpAny_typeOf hT,lM hh1 hr hs hn hl
  intro h' tk acc k1 k2;show wpAny _ _ (Builtin.Tuple.tupleExact acc.toList.toArray>>=λv=>ret v) _ _ _;unfold Builtin.Tuple.tupleExact;have e:acc.toList.toArray=acc:=by simp
  rw[e];exact wB (wpAny_newObj_type (wP ⟨_,U,h h' tk acc k1 k2⟩) (by show acc.size<=sizeLine;rw[k2.1,sizeLine_eq];omega))
def kd {prog:Program} {w:World} {A:Around} {E:VSP} {s:Shared} {Q:VSP} {r:Addr} {a b c:Int} {t u v:Tok} {n:Nat} (hh:A.handled=none) (hr:IsRange s.heap r a b c t u v) (hs:Builtin.Range.small a b c=true) (hn:Builtin.Range.rangeSize a b c=n) (hl:n<=2 ^ 24)
 (q:∀ (h':Heap) (tk:Nat) (acc:Array Value),(∀ b o,s.heap.get? b=some o->h'.get? b=some o)->ItemsOf (λi v=>∃ t,v=.int (a+i*c) t) acc n->Q (.ref h'.objs.size) {s with heap:=h'.push {cls:=.type "tuple",data:=.seq acc},toks:=tk}):wpAny (model prog w) A (call (.type "tuple") [.ref r]) Q E s :=
 callType_new F.called_tuple ∅ (F.typeCall_tuple_1 _) (F.newCall_tuple_1 _) (λobj=>F.args_object_init_2 obj _) F.entry_tuple_new (kR r a b c t u v n hs hn hl) ⟨hh,hr,λh' tk acc k1 k2=>⟨⟨_,Heap.get?_push_size _ U,U⟩,q h' tk acc k1 k2⟩⟩
end PySem
namespace L2
open PySem PySem.Spec PyProof.Rows
def kO {i:Int}:∀ {k:Nat} {acc:Array Value},ItemsOf (λj v=>∃ t,v=.int (i+j*1) t) acc k->aT ((List.range k).map λj=>V.int (i+((j:Nat):Int))) acc.toList:=by
 intro k acc h;have g:∀ (l:List Value) (o:Nat),(∀ j v,l[j]?=some v->∃ t,v=Value.int (i+((o+j:Nat):Int)*1) t)->aT ((List.range' o l.length).map λj=>V.int (i+((j:Nat):Int))) l:=by
  intro l
  induction l with
  | nil=>intro o _;exact .nil
  | cons v r ih =>
   intro o hl;obtain⟨t,ht⟩:=hl 0 v rfl;refine .cons ⟨t,by rw[ht];simp⟩ (ih (o+1) λj v hv=>?_);obtain⟨t,ht⟩:=hl (j+1) v hv;exact⟨t,by rw[ht];congr 3;omega⟩
 have z:=g acc.toList 0 λj v hv=>by
  obtain⟨t,ht⟩:=h.2 j v (by simpa using hv);exact⟨t,by rw[ht,Nat.zero_add]⟩
 rw[Array.length_toList,h.1,<- List.range_eq_range'] at z;exact z
def xF (xs:List V) (H:Hp) (Q:VK):Prop:=∃ k:Nat,xs=[.int ((k:Nat):Int)]/\k<=1000/\∀ t,H t=none->Q (.ref t) (upd H t (.tup ((List.range k).map λj=>V.int (0+((j:Nat):Int)))))
def oK {X:Cx} {p1 p2 pos1 pos2:Pos} {a:Expr} {ta:TA} (hm:X.mg "tuple"=none) (hm2:X.mg "range"=none) (ha:PA X [a] ta) (hc:X.calm=true:=by rfl) (hg:Gl X "tuple":=by rfl) (hg2:Gl X "range":=by rfl)
 (s1:starEach [.Call (.Name "range" p2) [a] [] pos2] X.env=(false,eval (.Call (.Name "range" p2) [a] [] pos2) X.env)::starEach [] X.env:=by rfl) (hs:starEach [a] X.env=[(false,eval a X.env)]:=by rfl)
 (s3:(backTo pos1 (starEach [] X.env)).any (·.1)=false:=by rfl) (s5:backTo pos1 (starEach [] X.env)=[]:=by rfl) :
 PE X (.Call (.Name "tuple" p1) [.Call (.Name "range" p2) [a] [] pos2] [] pos1) (tCB xF ta):=by
 intro pins s σ H Q I h;have hh:X.A.handled=none:=I.ok.hd hc;refine wpAny_Call_Name_kw (dW I hg hm ig (PyProof.Rows.callWith_type1 ?_ s1 s3));rw[s1];show wpAny _ _ (spliced ((false,eval (.Call (.Name "range" p2) [a] [] pos2) X.env)::backTo pos1 (starEach [] X.env))) _ _ s;rw[s5];refine Calls.spliced_cons (wpAny_Call_Name_kw (dW I hg2 hm2 boot_range (PyProof.Rows.callWith_type1 (thn (ha pos2 pins s σ H _ I h) λus s1 z=>?_) hs U)));obtain⟨vs,H1,I1,r1,k,rfl,hk,q⟩:=z;cases r1 with
 | cons r rr =>
  cases rr;obtain⟨t,rfl⟩:=r;refine call_range_1 (Calls.spliced_nil (kd hh (IsRange.new ..) (small_one ∅ ∅ ∅ ∅) (n:=k) (by rw[rangeSize_one];split <;> omega) ∅ λh' tk acc k1 k2=>?_));have I3:Inv X pins σ H1 {s1 with heap:=h',toks:=tk}:=I1.kept (t':=tk) λb o z=>k1 _ _ (hpS _ z);refine⟨.ref h'.objs.size,_,I3.laid (t':=tk) (o:=.tup ((List.range k).map λj=>V.int (0+((j:Nat):Int)))) (λb o e=>hpS _ e) (Nat.le_refl _) ⟨?_,acc.toList,kO k2,?_⟩,U,q _ (I3.hok.fresh (Nat.le_refl _))⟩
  · rw[lMp,List.length_range,sizeLine_eq];omega
  · rw[Array.toArray_toList];exact IsTup.new _ _
end L2
namespace K19
open PySem L2 P10
section
variable {P:Program} {w:World} {K:Fg} {mg:SOV} {base:Heap} {c:Ks}
inductive sU (K:Fg) (c:Ks) (ok:Ex->Prop) (vs:List V) (H:Hp) (Q:VK):Prop
  | mk (F:List Fun) (A:Ad) (S S':MS) (e:Ex) (n:Nm) (xs:List Vl) (us:List V) (l:Addr) (ve vn:V) (h0:vs=[.ref A.m,ve,vn,.ref l]) (h1:MV K c A H S) (h2:TD K H ve (exD e)) (h3:NmV K A H vn n) (h4:H l=some (.lst us)) (h5:¬ A.av l) (h6:Paired (VlV K c A H) us xs) (h7:ok e) (h8:Fin F e n xs S S') (h9:TD K H A.vf (.tuple (F.map fnD))) (h10:∀ f∈F,f.ct<=9) (h11:Bd S) (q:∀ A' H',Fr A A' H H'->MV K c A' H' S'->Q .non H'):sU K c ok vs H Q
def cW (K:Fg) (c:Ks) (ok:Ex->Prop):Sp:=λvs H Q _=>sU K c ok vs H Q
abbrev bq:List Str:=["machine","e","names","values"]
def jr (e:Ex):Prop:=∃ i,e=.num i
def mS (D:Def K mg "finish_number" (top 22)) (k:KC K mg c) (M_tell:MFn P w K mg base c.cc "tell" 1 ["self","value"] (ij K c)):Fn P w K mg base "finish_number" 5 bq (cW K c jr):=by
 have nd:(bq:List Str).Nodup:=by left
 exists D.fn (N:=bq) (~~~nd),bL
 · obtain⟨F,A,S,S',e,n,xs,us,l,ve,vn,rfl,_⟩:=h;rfl
 · obtain⟨F,A,S,S',e,n,xs,us,l,ve,vn,rfl,m,he,hn,hl,nl,hu,okk,fin,hF,hc9,bd,q⟩:=h;have hz0:(40000:Nat)<sizeLine:=∅
   obtain⟨vd,h1,e1⟩:=m.m;obtain⟨bw,bt,bD⟩:=bd;refine⟨_,(pG (aH (bo ↥0 k.oc M_tell ⇑hr %[↥↥1|0]))),?_⟩;dsimp only[be];obtain⟨i,rfl⟩:=okk;cases fin;obtain⟨ad,ys,rfl,ha,hy⟩:=(show TD K H ve (.tuple [.str "number",.int i]) from he).tup_of;obtain⟨y1,y2,rfl,t1,t2⟩:=iD hy;cases t2;exact⟨_,U,A.m,A.dx,_,U,h1,U,_,U,ad,_,_,_,U,U,ha,pH (j:=1) U,A,S,_,.int i,U,m,.int i,(by show S.T.length<30000;omega),q A⟩
def o6 (e:Ex):Prop:=∃ x,e=.nam x
def sr (D:Def K mg "finish_name" (top 23)) (k:KC K mg c) (M_tell:MFn P w K mg base c.cc "tell" 1 ["self","value"] (ij K c)) (je:Fn P w K mg base "box_of" 1 ["names","number"] (xv K)):Fn P w K mg base "finish_name" 5 bq (cW K c o6):=by
 have nd:(["machine","e","names","values","box"]:List Str).Nodup:=by left
 exists D.fn (N:=["machine","e","names","values","box"]) (~~~nd),bL
 · obtain⟨F,A,S,S',e,n,xs,us,l,ve,vn,rfl,_⟩:=h;rfl
 · obtain⟨F,A,S,S',e,n,xs,us,l,ve,vn,rfl,m,he,hn,hl,nl,hu,okk,fin,hF,hc9,bd,q⟩:=h;have hz0:(40000:Nat)<sizeLine:=∅
   obtain⟨vd,h1,e1⟩:=m.m;obtain⟨bw,bt,bD⟩:=bd;refine⟨_,(pD (pL (i:=4) nd U (.inl U) (aj je ⇑hr U %[2,↥↥1|0])) (pG (aH (bo ↥0 k.oc M_tell ⇑hr %[ac aw ↥4 pF Ue|0])))),?_⟩;dsimp only[be];obtain⟨x,rfl⟩:=okk;cases fin with
   | @nam _ _ _ kx fl v hx hb =>
    obtain⟨ad,ys,rfl,ha,hy⟩:=(show TD K H ve (.tuple [.str "name",.int x]) from he).tup_of;obtain⟨y1,y2,rfl,t1,t2⟩:=iD hy;cases t2;refine⟨_,U,_,U,ad,_,_,_,U,U,ha,pH (j:=1) U,A,n,vn,x,kx,U,hn,hx,λbx hbx=>?_⟩;have bz:=ba m.b hbx hb;cases bz with
    | mk hb1 hv1=>exact⟨_,U,A.m,A.dx,_,U,h1,U,_,U,bx,_,_,_,U,U,SqL.of hb1,pH (j:=0) U,A,S,_,v,U,m,hv1,(by show S.T.length<30000;omega),q A⟩
def mH (e:Ex):Prop:=∃ w x a b,e=.bnd w x a b
def oy (D:Def K mg "finish_let" (top 24)) (k:KC K mg c) (M_begin:MFn P w K mg base c.cc "begin" 2 ["self","e","names"] (jH K c)) (bB:Fn P w K mg base "bound_names" 1 lc (kZ K c)):Fn P w K mg base "finish_let" 5 bq (cW K c mH):=by
 have nd:(bq:List Str).Nodup:=by left
 exists D.fn (N:=bq) (~~~nd),bL
 · obtain⟨F,A,S,S',e,n,xs,us,l,ve,vn,rfl,_⟩:=h;rfl
 · obtain⟨F,A,S,S',e,n,xs,us,l,ve,vn,rfl,m,he,hn,hl,nl,hu,okk,fin,hF,hc9,bd,q⟩:=h;have hz0:(40000:Nat)<sizeLine:=∅
   obtain⟨vd,h1,e1⟩:=m.m;obtain⟨bw,bt,bD⟩:=bd;refine⟨_,(pG (aH (bo ↥0 k.oc M_begin ⇑hr %[↥↥1,aj bB ⇑hr U %[2,ax %[↥↥1|0],3|0]|0]))),?_⟩;dsimp only[be];obtain⟨w0,x,a,b,rfl⟩:=okk;cases fin with
   | @bnd _ _ _ _ _ _ v =>
    obtain⟨ad,ys,rfl,ha,hy⟩:=(show TD K H ve (.tuple [.str (wB w0),.int x,exD a,exD b]) from he).tup_of;obtain⟨y1,yr,rfl,t1,tr⟩:=cA hy;obtain⟨y2,y3,y4,rfl,t2,t3,t4⟩:=cJ tr;cases t2;refine⟨_,U,A.m,A.dx,_,U,h1,U,_,U,ad,_,_,_,U,U,ha,pH (j:=3) U,_,U,_,U,ad,_,_,_,U,U,ha,pH (j:=1) U,me,λp1 hp1=>?_⟩;have k1:=smu (o:=HO.tup [.int x]) hp1;refine⟨_,U,A,S,n,vn,p1,l,[x],us,[v],w0,U,m.same k1,hn.fr (.of k1),SqT.of pE,SqL.of (k1 _ _ hl),ah hu λ_ _ z=>z.fr (.of k1),U,λA' v' H5 s5 f5 m5 hv'=>?_⟩;obtain⟨t,rfl⟩:=f5.ex;exact⟨A.more t,_,b,_,_,v',U,m5,(t4.same k1).same s5,hv',(by show S.W.length<30000;omega),λH' f' m'=>q _ H' (((Fr.of k1).trans f5).trans f') m'⟩
def rH (e:Ex):Prop:=∃ x a,e=.set x a
def uS (D:Def K mg "finish_set" (top 25)) (k:KC K mg c) (M_tell:MFn P w K mg base c.cc "tell" 1 ["self","value"] (ij K c)) (je:Fn P w K mg base "box_of" 1 ["names","number"] (xv K)):Fn P w K mg base "finish_set" 5 bq (cW K c rH):=by
 have nd:(["machine","e","names","values","box"]:List Str).Nodup:=by left
 exists D.fn (N:=["machine","e","names","values","box"]) (~~~nd),bL
 · obtain⟨F,A,S,S',e,n,xs,us,l,ve,vn,rfl,_⟩:=h;rfl
 · obtain⟨F,A,S,S',e,n,xs,us,l,ve,vn,rfl,m,he,hn,hl,nl,hu,okk,fin,hF,hc9,bd,q⟩:=h;have hz0:(40000:Nat)<sizeLine:=∅
   obtain⟨vd,h1,e1⟩:=m.m;obtain⟨bw,bt,bD⟩:=bd;refine⟨_,(pD (pL (i:=4) nd U (.inl U) (aj je ⇑hr U %[2,↥↥1|0])) (pD (f9 (ac aw ↥3 pF Ue) (mD ↥4 pF iH)) (pG (aH (bo ↥0 k.oc M_tell ⇑hr %[ac aw ↥3 pF Ue|0]))))),?_⟩;dsimp only[be];obtain⟨x,a,rfl⟩:=okk;cases fin with
   | @set _ _ _ _ kx u v hx hb =>
    obtain⟨ad,ys,rfl,ha,hy⟩:=(show TD K H ve (.tuple [.str "set",.int x,exD a]) from he).tup_of;obtain⟨y1,y2,y3,rfl,t1,t2,t3⟩:=cJ hy;cases t2;obtain⟨v0,hv,vv⟩:=aJ hu (i:=0) rfl;refine⟨_,U,_,U,ad,_,_,_,U,U,ha,pH (j:=1) U,A,n,vn,x,kx,U,hn,hx,λbx hbx=>?_⟩;have bz:=ba m.b hbx hb;cases bz with
    | mk hb1 hv1 =>
     refine⟨_,U,l,_,_,_,U,U,SqL.of hl,pH (j:=0) hv,_,U,bx,_,_,0,U,U,hb1,U,?_⟩;obtain⟨f2,m2⟩:=m.setb hbx hb vv;obtain⟨vd2,h12,e12⟩:=m2.m;have hl2:=(f2.kp _ _ nl hl).1;exact⟨_,U,A.m,A.dx,_,U,h12,U,_,U,l,_,_,_,U,U,SqL.of hl2,pH (j:=0) hv,A,_,_,v,U,m2,vv.fr f2,(by show S.T.length<30000;omega),λH' f' m'=>q A H' (f2.trans f') m'⟩
def vU (e:Ex):Prop:=∃ es,e=.seq es
def yC (D:Def K mg "finish_do" (top 26)) (k:KC K mg c) (M_tell:MFn P w K mg base c.cc "tell" 1 ["self","value"] (ij K c)):Fn P w K mg base "finish_do" 5 bq (cW K c vU):=by
 have nd:(bq:List Str).Nodup:=by left
 exists D.fn (N:=bq) (~~~nd),bL
 · obtain⟨F,A,S,S',e,n,xs,us,l,ve,vn,rfl,_⟩:=h;rfl
 · obtain⟨F,A,S,S',e,n,xs,us,l,ve,vn,rfl,m,he,hn,hl,nl,hu,okk,fin,hF,hc9,bd,q⟩:=h;have hz0:(40000:Nat)<sizeLine:=∅
   obtain⟨vd,h1,e1⟩:=m.m;obtain⟨bw,bt,bD⟩:=bd;refine⟨_,(pG (aH (bo ↥0 k.oc M_tell ⇑hr %[ac aw ↥3 (jp gU pF) Ue|0]))),?_⟩;dsimp only[be];obtain⟨es,rfl⟩:=okk;cases fin with
   | @seq _ _ _ ys x =>
    have ul:=aA hu;rw[lAp] at ul;obtain⟨v,hv,vv⟩:=aJ hu (i:=ys.length) (y:=x) (by rw[List.getElem?_append_right (Nat.le_refl _),Nat.sub_self];rfl);have el:atI us (-1)=some v:=by
     have ne:us≠[]:=λe=>by rw[e] at ul;cases ul
     rw[<- List.dropLast_concat_getLast ne,sP];rw[List.getLast_eq_getElem ne];have hh:=(gES.mp hv).2;rw[<- hh];congr 1;congr 1;show us.length-1=ys.length;have:us.length=ys.length+1:=ul;omega
    exact⟨_,U,A.m,A.dx,_,U,h1,U,_,U,_,U,l,_,_,_,U,U,SqL.of hl,el,A,S,_,x,U,m,vv,(by show S.T.length<30000;omega),q A⟩
def vT (e:Ex):Prop:=∃ a b d,e=.ite a b d
def yB (D:Def K mg "finish_if" (top 27)) (k:KC K mg c) (M_begin:MFn P w K mg base c.cc "begin" 2 ["self","e","names"] (jH K c)) (cL:Fn P w K mg base "worth" 1 ["value"] (qD K c)):Fn P w K mg base "finish_if" 5 bq (cW K c vT):=by
 have nd:(bq:List Str).Nodup:=by left
 exists D.fn (N:=bq) (~~~nd),bL
 · obtain⟨F,A,S,S',e,n,xs,us,l,ve,vn,rfl,_⟩:=h;rfl
 · obtain⟨F,A,S,S',e,n,xs,us,l,ve,vn,rfl,m,he,hn,hl,nl,hu,okk,fin,hF,hc9,bd,q⟩:=h;have hz0:(40000:Nat)<sizeLine:=∅
   obtain⟨vd,h1,e1⟩:=m.m;obtain⟨bw,bt,bD⟩:=bd;refine⟨_,(pG (aH (bo ↥0 k.oc M_begin ⇑hr %[bJ (pM gz (aj cL ⇑hr U %[ac aw ↥3 pF Ue|0]) pF (pN _)) ↥↥1 ↥↥1,2|0]))),?_⟩;dsimp only[be];obtain⟨a,b,d,rfl⟩:=okk;cases fin with
   | @ite _ _ _ _ _ x =>
    obtain⟨ad,ys,rfl,ha,hy⟩:=(show TD K H ve (.tuple [.str "if",exD a,exD b,exD d]) from he).tup_of;obtain⟨y1,yr,rfl,t1,tr⟩:=cA hy;obtain⟨y2,y3,y4,rfl,t2,t3,t4⟩:=cJ tr;obtain⟨v,hv,vv⟩:=aJ hu (i:=0) rfl;refine⟨_,U,A.m,A.dx,_,U,h1,U,_,U,l,_,_,_,U,U,SqL.of hl,pH (j:=0) hv,A,v,x,U,vv,U,_,U,?_⟩;by_cases ex:wth x=0
    · rw[if_pos ex] at q;refine pI (by simp[ex]) ⟨_,U,ad,_,_,_,U,U,ha,pH (j:=3) U,_,U,A,S,d,n,_,vn,U,m,t4,hn,(by show S.W.length<30000;omega),q A⟩
    · rw[if_neg ex] at q;refine pJ (by simpa using ex) ⟨_,U,ad,_,_,_,U,U,ha,pH (j:=2) U,_,U,A,S,b,n,_,vn,U,m,t3,hn,(by show S.W.length<30000;omega),q A⟩
end
def vQ {s:Str} {xs:List Vl} (h:opA s xs.length=true) (hs:∀ x∈xs,Sml (wth x)/\(rwo x).length<=8):OpA s xs/\xs.length<=8:=by
 unfold opA at h;simp only[Bool.or_eq_true,Bool.and_eq_true,decide_eq_true_eq] at h
 rcases h with (⟨rfl,h⟩ | ⟨h,e⟩) | ⟨h,e⟩
 · exact⟨.row xs,h⟩
 · obtain⟨x,rfl⟩:=fD e;exact⟨.one x (by rcases h with rfl | rfl <;> simp),by simp⟩
 · obtain⟨x,y,rfl⟩:=i4 e;exact⟨.two x y (by rcases h with (((((rfl | rfl) | rfl) | rfl) | rfl) | rfl) | rfl <;> simp) (hs x (by simp)).1 (hs y (by simp)).1,by simp⟩
def rF {s:Str} {xs:List Vl} (h:OpA s xs) (ho:∀ f,opR s (xs.map wth) (xs.map rwo)≠.flt f):opF s xs=none/\orV (opR s (xs.map wth) (xs.map rwo))=opV s xs:=by
 cases h with
 | row xs=>exact⟨U,U⟩
 | one x h =>
  simp only[List.mem_cons,nMN,or_false] at h
  rcases h with rfl | rfl <;> exact⟨U,U⟩
 | two x y h _ _ =>
  simp only[List.mem_cons,nMN,or_false] at h
  rcases h with rfl | rfl | rfl | rfl | rfl | rfl | rfl
  · exact⟨U,U⟩
  · exact⟨U,U⟩
  · exact⟨U,U⟩
  · by_cases e:wth y=0
    · exact absurd (show opR "div" [wth x,wth y] [rwo x,rwo y]=.flt "nought" by rw[e];rfl) (ho _)
    · refine⟨?_,?_⟩
      · show (if ("div":Str)="div"/\wth y=0 then some ("nought":Str) else none)=none;rw[if_neg λz=>e z.2]
      · show orV (if ("div":Str)="div"/\wth y=0 then OR.flt "nought" else .int (opI "div" (wth x) (wth y)))=_;rw[if_neg λz=>e z.2];rfl
  · exact⟨U,U⟩
  · exact⟨U,U⟩
  · by_cases e:0<=wth y/\wth y<(((rwo x).length:Nat):Int)
    · refine⟨?_,?_⟩
      · show (if ("at":Str)="at"/\¬ (0<=wth y/\wth y<(((rwo x).length:Nat):Int)) then some ("range":Str) else none)=none;rw[if_neg λz=>z.2 e]
      · show orV (if 0<=wth y/\wth y<(((rwo x).length:Nat):Int) then .int (nat (rwo x) (wth y).toNat) else .flt "range")=.int _;rw[if_pos e];rfl
    · exact absurd (show (if 0<=wth y/\wth y<(((rwo x).length:Nat):Int) then OR.int (nat (rwo x) (wth y).toNat) else .flt "range")=.flt "range" by rw[if_neg e]) (ho _)
def rE {s:Str} {xs:List Vl} {f:Str} (h:OpA s xs) (ho:opR s (xs.map wth) (xs.map rwo)=.flt f):opF s xs=some f:=by
 cases h with
 | row xs=>cases ho
 | one x h =>
  simp only[List.mem_cons,nMN,or_false] at h
  rcases h with rfl | rfl <;> cases ho
 | two x y h _ _ =>
  simp only[List.mem_cons,nMN,or_false] at h
  rcases h with rfl | rfl | rfl | rfl | rfl | rfl | rfl
  · cases ho
  · cases ho
  · cases ho
  · have ho:(if ("div":Str)="div"/\wth y=0 then OR.flt "nought" else .int (opI "div" (wth x) (wth y)))=.flt f:=ho;by_cases e:wth y=0
    · rw[if_pos ⟨U,e⟩] at ho;cases ho;show (if ("div":Str)="div"/\wth y=0 then some ("nought":Str) else none)=_;rw[if_pos ⟨U,e⟩]
    · rw[if_neg λz=>e z.2] at ho;cases ho
  · cases ho
  · cases ho
  · have ho:(if 0<=wth y/\wth y<(((rwo x).length:Nat):Int) then OR.int (nat (rwo x) (wth y).toNat) else .flt "range")=.flt f:=ho;by_cases e:0<=wth y/\wth y<(((rwo x).length:Nat):Int)
    · rw[if_pos e] at ho;cases ho
    · rw[if_neg e] at ho;cases ho;show (if ("at":Str)="at"/\¬ (0<=wth y/\wth y<(((rwo x).length:Nat):Int)) then some ("range":Str) else none)=_;rw[if_pos ⟨U,e⟩]
def iB {K:Fg} {H:Hp} {xs:List V} {ds:PDs} (h:TDs K H xs ds) {i:Nat} {d:PyData} (e:ds[i]?=some d):∃ x,xs[i]?=some x/\TD K H x d:=by
 have hl:=h.length;have hi:=(gES.mp e).1;obtain⟨d',e',t⟩:=h.get (i:=i) (gEE ∅);rw[e] at e';cases e';exact⟨_,gEE _,t⟩
section
variable {P:Program} {w:World} {K:Fg} {mg:SOV} {base:Heap} {c:Ks}
def lq (e:Ex):Prop:=∃ a b,e=.whl a b
def pU (D:Def K mg "finish_while" (top 28)) (k:KC K mg c) (M_tell:MFn P w K mg base c.cc "tell" 1 ["self","value"] (ij K c)) (M_begin:MFn P w K mg base c.cc "begin" 2 ["self","e","names"] (jH K c)) (M_wait:MFn P w K mg base c.cc "wait" 1 ["self","task","e","names","count"] (qz K c)) (M_tick:MFn P w K mg base c.cc "tick" 1 ["self"] (u9 K c)) (cL:Fn P w K mg base "worth" 1 ["value"] (qD K c)):Fn P w K mg base "finish_while" 5 bq (cW K c lq):=by
 have nd:(bq:List Str).Nodup:=by left
 exists D.fn (N:=bq) (~~~nd),bL
 · obtain⟨F,A,S,S',e,n,xs,us,l,ve,vn,rfl,_⟩:=h;rfl
 · obtain⟨F,A,S,S',e,n,xs,us,l,ve,vn,rfl,m,he,hn,hl,nl,hu,okk,fin,hF,hc9,bd,q⟩:=h;have hz0:(40000:Nat)<sizeLine:=∅
   obtain⟨vd,h1,e1⟩:=m.m;obtain⟨bw,bt,bD⟩:=bd;refine⟨_,(pG (az (pM aB (aj cL ⇑hr U %[ac aw ↥3 pF Ue|0]) pF (pN _)) (pG (aH (bo ↥0 k.oc M_tell ⇑hr %[pF|0]))) (pG (az (bN (jQ ↥0 k.oc M_tick ⇑hr)) (pD (aH (bo ↥0 k.oc M_wait ⇑hr %[pC,1,2,pF|0])) (pG (aH (bo ↥0 k.oc M_begin ⇑hr %[↥↥1,2|0])))) aq)))),?_⟩;dsimp only[be];obtain⟨a,b,rfl⟩:=okk;obtain⟨ad,ys,rfl,ha,hy⟩:=(show TD K H ve (.tuple [.str "while",exD a,exD b]) from he).tup_of;obtain⟨y1,y2,y3,rfl,t1,t2,t3⟩:=cJ hy;cases fin with
   | @wh0 _ _ _ _ x hx =>
    obtain⟨v,hv,vv⟩:=aJ hu (i:=0) rfl;refine⟨_,U,l,_,_,_,U,U,SqL.of hl,pH (j:=0) hv,A,v,x,U,vv,U,_,U,pJ (by simp[hx]) ?_⟩;exact⟨_,U,A.m,A.dx,_,U,h1,U,A,S,_,.int 0,U,m,.int 0,(by show S.T.length<30000;omega),q A⟩
   | @wh1 _ _ _ _ x hx hk =>
    obtain⟨v,hv,vv⟩:=aJ hu (i:=0) rfl;refine⟨_,U,l,_,_,_,U,U,SqL.of hl,pH (j:=0) hv,A,v,x,U,vv,U,_,U,pI (by simpa using hx) ?_⟩;refine⟨_,U,A.m,A.dx,_,U,h1,U,A,S,U,m,λ_ H2 f2 m2=>⟨_,U,aL ?_⟩,λz=>absurd z hk⟩;obtain⟨vd2,h12,_⟩:=m2.m;refine⟨_,U,A.m,A.dx,_,U,h12,U,_,U,_,U,A,_,⟨"again",.whl a b,n,1⟩,_,vn,U,m2,he.tk f2.tk,hn.fr f2,(by show S.W.length<30000;omega),λH3 f3 m3=>?_⟩;obtain⟨vd3,h13,_⟩:=m3.m;have F3:=f2.trans f3;refine⟨_,U,A.m,A.dx,_,U,h13,U,_,U,ad,_,_,_,U,U,(ha.tk F3.tk),pH (j:=2) U,_,U,A,_,b,n,_,vn,U,m3,t3.tk F3.tk,hn.fr F3,?_,λH' f' m'=>q A H' (F3.trans f') m'⟩;show (S.W++[_]).length<30000;rw[lAp];show S.W.length+1<30000;omega
   | @whd _ _ _ _ x hx hk =>
    obtain⟨v,hv,vv⟩:=aJ hu (i:=0) rfl;refine⟨_,U,l,_,_,_,U,U,SqL.of hl,pH (j:=0) hv,A,v,x,U,vv,U,_,U,pI (by simpa using hx) ?_⟩;exact⟨_,U,A.m,A.dx,_,U,h1,U,A,S,U,m,λz=>absurd hk z,λ_ H2 f2 m2=>⟨_,U,ai (q A H2 f2 m2)⟩⟩
def rJ (e:Ex):Prop:=∃ a,e=.say a
def uT (D:Def K mg "finish_say" (top 30)) (k:KC K mg c) (M_tell:MFn P w K mg base c.cc "tell" 1 ["self","value"] (ij K c)) (nr:Fn P w K mg base "look" 1 ["value"] (xp K c)):Fn P w K mg base "finish_say" 5 bq (cW K c rJ):=by
 have nd:(bq:List Str).Nodup:=by left
 exists D.fn (N:=bq) (~~~nd),bL
 · obtain⟨F,A,S,S',e,n,xs,us,l,ve,vn,rfl,_⟩:=h;rfl
 · obtain⟨F,A,S,S',e,n,xs,us,l,ve,vn,rfl,m,he,hn,hl,nl,hu,okk,fin,hF,hc9,bd,q⟩:=h;have hz0:(40000:Nat)<sizeLine:=∅
   obtain⟨vd,h1,e1⟩:=m.m;obtain⟨bw,bt,bD⟩:=bd;refine⟨_,(pD (aH (cT (bS ↥0 U) %[aj nr ⇑hr U %[ac aw ↥3 pF Ue|0]|0])) (pG (aH (bo ↥0 k.oc M_tell ⇑hr %[ac aw ↥3 pF Ue|0])))),?_⟩;dsimp only[be];obtain⟨a,rfl⟩:=okk;cases fin with
   | @say _ _ _ x =>
    obtain⟨v,hv,vv⟩:=aJ hu (i:=0) rfl;obtain⟨ds,hd,ed⟩:=m.s;have dl:=aA ed;refine⟨_,U,A.m,c.cc,A.dx,_,_,U,h1,k.oc,k.n10,U,.inl ⟨U,_,SqL.of hd⟩,_,U,l,_,_,_,U,U,SqL.of hl,pH (j:=0) hv,A,v,x,U,vv,λv' H2 s2 lv=>?_⟩;have m2:=m.same s2;refine⟨A.da,ds,_,U,U,s2 _ _ hd,∅,?_⟩;have f2:=m2.upd_fr (o:=.lst (ds++[v'])) (.inr (.inr (.inr U)));have m3:=m2.putD (bK (ah ed λ_ _ z=>z.fr (.of (A:=A) s2)) (.cons lv .nil)) (by rw[lAp];show S.D.length+1<=30000;omega);have F3:Fr A A H _:=(Fr.of s2).trans f2;obtain⟨vd3,h3,_⟩:=m3.m;have hl3:=(F3.kp _ _ nl hl).1;exact⟨_,U,A.m,A.dx,_,U,h3,U,_,U,l,_,_,_,U,U,SqL.of hl3,pH (j:=0) hv,A,_,_,x,U,m3,vv.fr F3,(by show S.T.length<30000;omega),λH' f' m'=>q A H' (F3.trans f') m'⟩
def lr (e:Ex):Prop:=∃ w,e=.flt w
def pV (D:Def K mg "finish_fault" (top 31)) (k:KC K mg c) (M_fault:MFn P w K mg base c.cc "fault" 1 ["self","word"] (qH K c)):Fn P w K mg base "finish_fault" 5 bq (cW K c lr):=by
 have nd:(bq:List Str).Nodup:=by left
 exists D.fn (N:=bq) (~~~nd),bL
 · obtain⟨F,A,S,S',e,n,xs,us,l,ve,vn,rfl,_⟩:=h;rfl
 · obtain⟨F,A,S,S',e,n,xs,us,l,ve,vn,rfl,m,he,hn,hl,nl,hu,okk,fin,hF,hc9,bd,q⟩:=h;have hz0:(40000:Nat)<sizeLine:=∅
   obtain⟨vd,h1,e1⟩:=m.m;obtain⟨bw,bt,bD⟩:=bd;refine⟨_,(pG (aH (bo ↥0 k.oc M_fault ⇑hr %[↥↥1|0]))),?_⟩;dsimp only[be];obtain⟨w0,rfl⟩:=okk;cases fin;obtain⟨ad,ys,rfl,ha,hy⟩:=(show TD K H ve (.tuple [.str "fault",.str w0]) from he).tup_of;obtain⟨y1,y2,rfl,t1,t2⟩:=iD hy;cases t2;exact⟨_,U,A.m,A.dx,_,U,h1,U,_,U,ad,_,_,_,U,U,ha,pH (j:=1) U,A,S,_,U,m,q A⟩
def nZ (e:Ex):Prop:=∃ w es,e=.op w es
def yA (D:Def K mg "finish_op" (top 32)) (k:KC K mg c) (M_tell:MFn P w K mg base c.cc "tell" 1 ["self","value"] (ij K c)) (M_fault:MFn P w K mg base c.cc "fault" 1 ["self","word"] (qH K c)) (nq:Fn P w K mg base "op_fault" 2 ["word","things"] (zU K c)) (nn:Fn P w K mg base "op_value" 3 ["word","things"] (zS K c)):Fn P w K mg base "finish_op" 5 bq (cW K c nZ):=by
 have nd:(["machine","e","names","values","fault"]:List Str).Nodup:=by left
 exists D.fn (N:=["machine","e","names","values","fault"]) (~~~nd),bL
 · obtain⟨F,A,S,S',e,n,xs,us,l,ve,vn,rfl,_⟩:=h;rfl
 · obtain⟨F,A,S,S',e,n,xs,us,l,ve,vn,rfl,m,he,hn,hl,nl,hu,okk,fin,hF,hc9,bd,q⟩:=h;have hz0:(40000:Nat)<sizeLine:=∅
   obtain⟨vd,h1,e1⟩:=m.m;obtain⟨bw,bt,bD⟩:=bd;refine⟨_,(pD (pL (i:=4) nd U (.inl U) (aj nq ⇑hr U %[↥↥1,3|0])) (pG (az (pM eC ↥4 bR (pN _)) (pG (aH (bo ↥0 k.oc M_tell ⇑hr %[aj nn ⇑hr U %[↥↥1,3|0]|0]))) (pG (aH (bo ↥0 k.oc M_fault ⇑hr %[4|0])))))),?_⟩;dsimp only[be];obtain⟨w0,es,rfl⟩:=okk;obtain⟨ad,ys,rfl,ha,hy⟩:=(show TD K H ve (.tuple [.str "op",.str w0,.tuple (cx es)]) from he).tup_of;obtain⟨y1,y2,y3,rfl,t1,t2,t3⟩:=cJ hy;cases t2;cases fin with
   | @op _ _ _ _ _ h hs ho =>
    obtain⟨oa,h8⟩:=vQ h hs;obtain⟨ef,ev⟩:=rF oa ho;refine⟨_,U,ad,_,_,_,U,U,ha,pH (j:=1) U,_,U,A,w0,l,us,xs,U,hl,hu,oa,λH2 s2=>?_⟩;have m2:=m.same s2;have h12:=s2 _ _ h1;rw[ef];rw[ev] at q;refine⟨_,U,U,_,U,aL ?_⟩;refine⟨_,U,A.m,A.dx,_,U,h12,U,_,U,ad,_,_,_,U,U,(ha.tk s2.tk),pH (j:=1) U,_,U,A,w0,l,us,xs,U,s2 _ _ hl,ah hu λ_ _ z=>z.fr (.of s2),oa,ef,h8,λv H3 s3 hv=>?_⟩;exact⟨A,S,v,_,U,m2.same s3,hv,(by show S.T.length<30000;omega),λH' f' m'=>q A H' ((Fr.of (s2.trans s3)).trans f') m'⟩
   | @opF _ _ _ _ _ f h hs ho =>
    obtain⟨oa,h8⟩:=vQ h hs;have ef:=rE oa ho;refine⟨_,U,ad,_,_,_,U,U,ha,pH (j:=1) U,_,U,A,w0,l,us,xs,U,hl,hu,oa,λH2 s2=>?_⟩;have m2:=m.same s2;have h12:=s2 _ _ h1;rw[ef];refine⟨_,U,U,_,U,pI (by show ¬ decide (V.str f=V.non)=true;simp) ?_⟩;exact⟨_,U,A.m,A.dx,_,U,h12,U,_,U,A,S,f,U,m2,λH' f' m'=>q A H' ((Fr.of s2).trans f') m'⟩
def rK (e:Ex):Prop:=∃ r es,e=.new r es
def uU (D:Def K mg "finish_new" (top 33)) (k:KC K mg c) (M_tell:MFn P w K mg base c.cc "tell" 1 ["self","value"] (ij K c)) (I_Made:IFn P w K mg base c.cm 1 ["self","record","things"] (zV c)):Fn P w K mg base "finish_new" 5 bq (cW K c rK):=by
 have nd:(bq:List Str).Nodup:=by left
 exists D.fn (N:=bq) (~~~nd),bL
 · obtain⟨F,A,S,S',e,n,xs,us,l,ve,vn,rfl,_⟩:=h;rfl
 · obtain⟨F,A,S,S',e,n,xs,us,l,ve,vn,rfl,m,he,hn,hl,nl,hu,okk,fin,hF,hc9,bd,q⟩:=h;have hz0:(40000:Nat)<sizeLine:=∅
   obtain⟨vd,h1,e1⟩:=m.m;obtain⟨bw,bt,bD⟩:=bd;refine⟨_,(pG (aH (bo ↥0 k.oc M_tell ⇑hr %[mE I_Made ⇑hr U k.gM %[↥↥1,3|0]|0]))),?_⟩;dsimp only[be];obtain⟨r,es,rfl⟩:=okk;cases fin with
   | new =>
    obtain⟨ad,ys,rfl,ha,hy⟩:=(show TD K H ve (.tuple [.str "new",.int r,.tuple (cx es)]) from he).tup_of;obtain⟨y1,y2,y3,rfl,t1,t2,t3⟩:=cJ hy;cases t2;refine⟨_,U,A.m,A.dx,_,U,h1,U,_,U,ad,_,_,_,U,U,ha,pH (j:=1) U,_,U,λx dx hx0 hdx ne=>?_⟩;have k3:=smu (o:=HO.own x) hdx;have hx1:(upd H dx (.own x)) x=none:=by rw[af (Ne.symm ne)];exact hx0
    have k4:=smu (o:=HO.ins c.cm dx []) hx1;have k34:=k3.trans k4;refine⟨x,dx,_,_,U,pE,λH3 kp h3=>⟨U,?_⟩⟩;have s3:aI H H3:=λb u e=>kp b u (ao e hx0) (k34 _ _ e);exact⟨A,S,_,_,U,m.same s3,.made h3 (s3 _ _ hl) (m.new hx0) nl (aA hu) (λi u y z1 z2=>(ba hu z1 z2).fr (.of s3)),(by show S.T.length<30000;omega),λH' f' m'=>q A H' ((Fr.of s3).trans f') m'⟩
def rL (e:Ex):Prop:=∃ r i a,e=.get r i a
def uV (D:Def K mg "finish_get" (top 34)) (k:KC K mg c) (T:Blt mg) (M_tell:MFn P w K mg base c.cc "tell" 1 ["self","value"] (ij K c)) (M_fault:MFn P w K mg base c.cc "fault" 1 ["self","word"] (qH K c)):Fn P w K mg base "finish_get" 5 bq (cW K c rL):=by
 have nd:(["machine","e","names","values","made"]:List Str).Nodup:=by left
 exists D.fn (N:=["machine","e","names","values","made"]) (~~~nd),bL
 · obtain⟨F,A,S,S',e,n,xs,us,l,ve,vn,rfl,_⟩:=h;rfl
 · obtain⟨F,A,S,S',e,n,xs,us,l,ve,vn,rfl,m,he,hn,hl,nl,hu,okk,fin,hF,hc9,bd,q⟩:=h;have hz0:(40000:Nat)<sizeLine:=∅
   obtain⟨vd,h1,e1⟩:=m.m;obtain⟨bw,bt,bD⟩:=bd;refine⟨_,(pD (pL (i:=4) nd U (.inl U) (ac aw ↥3 pF Ue)) (pG (az (PW.pt (cM (bN (dP T.isinstance %[4,ee (v:=.ref c.cm) U k.gM U|0])) (bW (pM aB (bS ↥4 U) ↥↥1 (pN _))))) (pG (aH (bo ↥0 k.oc M_tell ⇑hr %[ac aw (bS ↥4 U) ↥↥1 Ue|0]))) (pG (aH (bo ↥0 k.oc M_fault ⇑hr %[pC|0])))))),?_⟩;dsimp only[be];obtain⟨r,i,a,rfl⟩:=okk;obtain⟨ad,ys,rfl,ha,hy⟩:=(show TD K H ve (.tuple [.str "get",.int r,.int i,exD a]) from he).tup_of;obtain⟨y1,yr,rfl,t1,tr⟩:=cA hy;obtain⟨y2,y3,y4,rfl,t2,t3,t4⟩:=cJ tr;cases t2;cases t3;cases fin with
   | @get _ _ _ _ _ ys0 v0 h0 h =>
    obtain⟨v,hv,vv⟩:=aJ hu (i:=0) rfl;refine⟨_,U,l,_,_,_,U,U,SqL.of hl,pH (j:=0) hv,?_⟩;refine⟨_,U,.one v _ _ _ _ U (.own c.cm) (k.ty vv) (k.kM _) ⟨_,U,?_⟩⟩;cases vv with
    | @made x' dx' l' us' _ _ hx hl' n1 n2 hz hu' =>
     obtain⟨j,rfl⟩:=Int.eq_ofNat_of_zero_le h0;have hj:=(gES.mp h).1;rw[Int.toNat_natCast] at hj h;have hu0:us'[j]?=some (us'[j]'∅):=gEE _;refine aL ⟨_,U,x',c.cm,dx',_,_,U,hx,k.om.cl,k.n1,U,_,U,ad,_,_,_,U,U,ha,pH (j:=1) U,U,_,U,?_⟩;refine pJ (by simp) ⟨_,U,A.m,A.dx,_,U,h1,U,_,U,x',c.cm,dx',_,_,U,hx,k.om.cl,k.n2,U,_,U,ad,_,_,_,U,U,ha,pH (j:=2) U,l',_,_,_,U,U,SqL.of hl',pH (j:=j) hu0,A,S,_,_,U,m,hu' _ _ _ hu0 h,(by show S.T.length<30000;omega),q A⟩
   | @getF _ _ _ _ _ x h =>
    obtain⟨v,hv,vv⟩:=aJ hu (i:=0) rfl;refine⟨_,U,l,_,_,_,U,U,SqL.of hl,pH (j:=0) hv,?_⟩;refine⟨_,U,.one v _ _ _ _ U (.own c.cm) (k.ty vv) (k.kM _) ⟨_,U,?_⟩⟩;cases vv with
    | int i=>exact ai (ai ⟨_,U,A.m,A.dx,_,U,h1,U,A,S,_,U,m,q A⟩)
    | tup h=>exact ai (ai ⟨_,U,A.m,A.dx,_,U,h1,U,A,S,_,U,m,q A⟩)
    | fn h _ _ _ _=>exact ai (ai ⟨_,U,A.m,A.dx,_,U,h1,U,A,S,_,U,m,q A⟩)
    | @made x' dx' l' us' r' ys' hx hl' n1 n2 hz hu' =>
     refine aL ⟨_,U,x',c.cm,dx',_,_,U,hx,k.om.cl,k.n1,U,_,U,ad,_,_,_,U,U,ha,pH (j:=1) U,U,_,U,?_⟩;exact pI (by simpa using λz=>h ys' (by rw[z])) ⟨_,U,A.m,A.dx,_,U,h1,U,A,S,_,U,m,q A⟩
def rM (e:Ex):Prop:=∃ ids a,e=.fn ids a
def uW (D:Def K mg "finish_fun" (top 35)) (k:KC K mg c) (M_tell:MFn P w K mg base c.cc "tell" 1 ["self","value"] (ij K c)) (I_Fun:IFn P w K mg base c.cf 1 ["self","ids","body","names"] (zZ c)):Fn P w K mg base "finish_fun" 5 bq (cW K c rM):=by
 have nd:(bq:List Str).Nodup:=by left
 exists D.fn (N:=bq) (~~~nd),bL
 · obtain⟨F,A,S,S',e,n,xs,us,l,ve,vn,rfl,_⟩:=h;rfl
 · obtain⟨F,A,S,S',e,n,xs,us,l,ve,vn,rfl,m,he,hn,hl,nl,hu,okk,fin,hF,hc9,bd,q⟩:=h;have hz0:(40000:Nat)<sizeLine:=∅
   obtain⟨vd,h1,e1⟩:=m.m;obtain⟨bw,bt,bD⟩:=bd;refine⟨_,(pG (aH (bo ↥0 k.oc M_tell ⇑hr %[mE I_Fun ⇑hr U k.gF %[↥↥1,↥↥1,2|0]|0]))),?_⟩;dsimp only[be];obtain⟨ids,a,rfl⟩:=okk;cases fin with
   | fn =>
    obtain⟨ad,ys,rfl,ha,hy⟩:=(show TD K H ve (.tuple [.str "fun",.tuple (ids.map .int),exD a]) from he).tup_of;obtain⟨y1,y2,y3,rfl,t1,t2,t3⟩:=cJ hy;obtain⟨ti,zs,rfl,hti,hzs⟩:=t2.tup_of;have ez:=gr hzs;subst ez;refine⟨_,U,A.m,A.dx,_,U,h1,U,_,U,ad,_,_,_,U,U,ha,pH (j:=1) U,_,U,ad,_,_,_,U,U,ha,pH (j:=2) U,_,U,λx dx hx0 hdx ne=>?_⟩;have k3:=smu (o:=HO.own x) hdx;have hx1:(upd H dx (.own x)) x=none:=by rw[af (Ne.symm ne)];exact hx0
    have k4:=smu (o:=HO.ins c.cf dx []) hx1;have k34:=k3.trans k4;refine⟨x,dx,_,_,_,U,pE,λH3 kp h3=>⟨U,?_⟩⟩;have s3:aI H H3:=λb u e=>kp b u (ao e hx0) (k34 _ _ e);exact⟨A,S,_,_,U,m.same s3,.fn h3 (hti.tk s3.tk) (t3.same s3) (hn.fr (.of s3)) (m.new hx0),(by show S.T.length<30000;omega),λH' f' m'=>q A H' ((Fr.of s3).trans f') m'⟩
def lu (e:Ex):Prop:=∃ a es,e=.app a es
def pW (D:Def K mg "finish_apply" (top 36)) (k:KC K mg c) (T:Blt mg) (M_begin:MFn P w K mg base c.cc "begin" 2 ["self","e","names"] (jH K c)) (M_fault:MFn P w K mg base c.cc "fault" 1 ["self","word"] (qH K c)) (M_tick:MFn P w K mg base c.cc "tick" 1 ["self"] (u9 K c)) (bB:Fn P w K mg base "bound_names" 1 lc (kZ K c)):Fn P w K mg base "finish_apply" 5 bq (cW K c lu):=by
 have nd:(["machine","e","names","values","fun"]:List Str).Nodup:=by left
 exists D.fn (N:=["machine","e","names","values","fun"]) (~~~nd),bL
 · obtain⟨F,A,S,S',e,n,xs,us,l,ve,vn,rfl,_⟩:=h;rfl
 · obtain⟨F,A,S,S',e,n,xs,us,l,ve,vn,rfl,m,he,hn,hl,nl,hu,okk,fin,hF,hc9,bd,q⟩:=h;have hz0:(40000:Nat)<sizeLine:=∅
   obtain⟨vd,h1,e1⟩:=m.m;obtain⟨bw,bt,bD⟩:=bd;refine⟨_,(pD (pL (i:=4) nd U (.inl U) (ac aw ↥3 pF Ue)) (pG (az (PW.pt (dk (f8 (bN (dP T.isinstance %[4,ee (v:=.ref c.cf) U k.gF U|0]))) (cP (pM gz (cq T.len %[bS ↥4 U|0]) (aN cF (cq T.len %[3|0]) pF) (pN _))))) (pG (aH (bo ↥0 k.oc M_fault ⇑hr %[pC|0]))) (pG (az (bN (jQ ↥0 k.oc M_tick ⇑hr)) (pG (aH (bo ↥0 k.oc M_begin ⇑hr %[bS ↥4 U,aj bB ⇑hr U %[bS ↥4 U,bS ↥4 U,ff nO ↥3 (dL pF) gv|0]|0]))) aq))))),?_⟩;dsimp only[be];obtain⟨a,es,rfl⟩:=okk;have ul:=aA hu;cases fin with
   | @app _ _ _ _ ids e0 n1 ys er hk =>
    rw[List.length_cons] at ul;obtain⟨v,hv,vv⟩:=aJ hu (i:=0) rfl;refine⟨_,U,l,_,_,_,U,U,SqL.of hl,pH (j:=0) hv,?_⟩;refine⟨_,U,.one v _ _ _ _ U (.own c.cf) (k.ty vv) (k.kF _) ⟨_,U,?_⟩⟩;cases vv with
    | @fn x' dx' t' vb vn' _ _ _ hx ht hb hn' nx =>
     refine ai ⟨_,U,x',c.cf,dx',_,_,U,hx,k.of.cl,k.n3,U,t',_,U,.inr ht,_,U,l,_,U,.inl (SqL.of hl),_,_,U,U,U,_,U,?_⟩;rw[lMp,show ((us.length:Nat):Int)-1=((ys.length:Nat):Int) by omega];refine pI (by simp[er]) ?_;refine⟨_,U,A.m,A.dx,_,U,h1,U,A,S,U,m,λ_ H2 f2 m2=>⟨_,U,aL ?_⟩,λz=>absurd z hk⟩;obtain⟨vd2,h12,_⟩:=m2.m;have hx2:=(f2.kp _ _ nx hx).1;have hl2:=(f2.kp _ _ nl hl).1;refine⟨_,U,A.m,A.dx,_,U,h12,U,_,U,x',c.cf,dx',_,_,U,hx2,k.of.cl,k.n4,U,_,U,x',c.cf,dx',_,_,U,hx2,k.of.cl,k.n5,U,_,U,x',c.cf,dx',_,_,U,hx2,k.of.cl,k.n3,U,_,U,_,U,l,us,U,SqL.of hl2,λp hp=>?_⟩;have ec:=@gP us 1 ∅;have s3:=smu (o:=HO.lst (eM us (some 1) none)) hp;have dp:Paired (VlV K c A H) (us.drop 1) ys:=i9 hu 1;have F3:=f2.trans (.of s3);refine⟨A,_,n1,vn',t',p,ids,us.drop 1,ys,false,U,m2.same s3,hn'.fr F3,ht.tk F3.tk,SqL.of (by rw[pE];exact congrArg (λz=>some (HO.lst z)) ec),ah dp λ_ _ z=>z.fr F3,er,λA' v' H4 s4 f4 m4 hv'=>?_⟩;obtain⟨t,rfl⟩:=f4.ex;exact⟨A.more t,_,e0,_,_,v',U,m4,(hb.tk F3.tk).same s4,hv',(by show S.W.length<30000;omega),λH' f' m'=>q _ H' ((F3.trans f4).trans f') m'⟩
   | @appD _ _ _ _ ids e0 n1 ys er hk =>
    rw[List.length_cons] at ul;obtain⟨v,hv,vv⟩:=aJ hu (i:=0) rfl;refine⟨_,U,l,_,_,_,U,U,SqL.of hl,pH (j:=0) hv,?_⟩;refine⟨_,U,.one v _ _ _ _ U (.own c.cf) (k.ty vv) (k.kF _) ⟨_,U,?_⟩⟩;cases vv with
    | @fn x' dx' t' vb vn' _ _ _ hx ht hb hn' nx =>
     refine ai ⟨_,U,x',c.cf,dx',_,_,U,hx,k.of.cl,k.n3,U,t',_,U,.inr ht,_,U,l,_,U,.inl (SqL.of hl),_,_,U,U,U,_,U,?_⟩;rw[lMp,show ((us.length:Nat):Int)-1=((ys.length:Nat):Int) by omega];refine pI (by simp[er]) ?_;exact⟨_,U,A.m,A.dx,_,U,h1,U,A,S,U,m,λz=>absurd hk z,λ_ H2 f2 m2=>⟨_,U,ai (q A H2 f2 m2)⟩⟩
   | @appF _ _ _ _ x ys er =>
    rw[List.length_cons] at ul;obtain⟨v,hv,vv⟩:=aJ hu (i:=0) rfl;refine⟨_,U,l,_,_,_,U,U,SqL.of hl,pH (j:=0) hv,?_⟩;refine⟨_,U,.one v _ _ _ _ U (.own c.cf) (k.ty vv) (k.kF _) ⟨_,U,?_⟩⟩;cases vv with
    | int i=>exact aL (aL ⟨_,U,A.m,A.dx,_,U,h1,U,A,S,_,U,m,q A⟩)
    | tup h=>exact aL (aL ⟨_,U,A.m,A.dx,_,U,h1,U,A,S,_,U,m,q A⟩)
    | made h _ _ _ _ _=>exact aL (aL ⟨_,U,A.m,A.dx,_,U,h1,U,A,S,_,U,m,q A⟩)
    | @fn x' dx' t' vb vn' ids _ _ hx ht hb hn' nx =>
     refine ai ⟨_,U,x',c.cf,dx',_,_,U,hx,k.of.cl,k.n3,U,t',_,U,.inr ht,_,U,l,_,U,.inl (SqL.of hl),_,_,U,U,U,_,U,?_⟩;rw[lMp,show ((us.length:Nat):Int)-1=((ys.length:Nat):Int) by omega];exact pJ (by simpa using λz=>er _ _ _ U ∅) ⟨_,U,A.m,A.dx,_,U,h1,U,A,S,_,U,m,q A⟩
def o8 (e:Ex):Prop:=∃ f es,e=.cal f es
def su (D:Def K mg "finish_call" (top 37)) (k:KC K mg c) (T:Blt mg) (M_begin:MFn P w K mg base c.cc "begin" 2 ["self","e","names"] (jH K c)) (M_tick:MFn P w K mg base c.cc "tick" 1 ["self"] (u9 K c)) (bB:Fn P w K mg base "bound_names" 1 lc (kZ K c)):Fn P w K mg base "finish_call" 5 bq (cW K c o8):=by
 have nd:(["machine","e","names","values","head","count","body"]:List Str).Nodup:=by left
 exists D.fn (N:=["machine","e","names","values","head","count","body"]) (~~~nd),bL
 · obtain⟨F,A,S,S',e,n,xs,us,l,ve,vn,rfl,_⟩:=h;rfl
 · obtain⟨F,A,S,S',e,n,xs,us,l,ve,vn,rfl,m,he,hn,hl,nl,hu,okk,fin,hF,hc9,bd,q⟩:=h;have hz0:(40000:Nat)<sizeLine:=∅
   obtain⟨vd,h1,e1⟩:=m.m;obtain⟨bw,bt,bD⟩:=bd;refine⟨_,(pD (f9 (ac ag (bS ↥0 U) ↥↥1 Ue) (dQ U (aU (aC (i:=4) nd U (.inl U)) (aU (aC (i:=5) nd U (.inl U)) (aU (aC (i:=6) nd U (.inl U)) d9))))) (pG (az (PW.pt (dk (pM gz ↥4 pC (pN _)) (cP (bN (jQ ↥0 k.oc M_tick ⇑hr))))) (pG (aH (bo ↥0 k.oc M_begin ⇑hr %[6,aj bB ⇑hr U %[bR,oK T.tuple T.range %[5|0],3|0]|0]))) aq))),?_⟩;dsimp only[be];obtain⟨j0,es,rfl⟩:=okk;have ul:=aA hu;refine aE λlB g1_=>?_;obtain⟨ad,ys,rfl,ha,hy⟩:=(show TD K H ve (.tuple [.str "call",.int j0,.tuple (cx es)]) from he).tup_of;obtain⟨y1,y2,y3,rfl,t1,t2,t3⟩:=cJ hy;cases t2;obtain⟨fn,h0,h⟩:∃ fn,0<=j0/\F[j0.toNat]?=some fn:=by
    cases fin with
    | cal h0 h _ _=>exact⟨_,h0,h⟩
    | calD h0 h _ _=>exact⟨_,h0,h⟩
   obtain⟨j,rfl⟩:=Int.eq_ofNat_of_zero_le h0;rw[Int.toNat_natCast] at h;obtain⟨fa,fs,ef,hfa,hfs⟩:=hF.tup_of;have hj:(F.map fnD)[j]?=some (fnD fn):=by rw[gEM,h];rfl
   obtain⟨vf1,e1',tf⟩:=iB hfs hj;obtain⟨pa,ps,rfl,hpa,hps⟩:=(show TD K H vf1 (.tuple [.str fn.hd,.int ((fn.ct:Nat):Int),exD fn.bd]) from tf).tup_of;obtain⟨z1,z2,z3,rfl,w1,w2,w3⟩:=cJ hps;cases w1;cases w2;refine⟨_,U,A.m,c.cc,A.dx,_,_,U,h1,k.oc,k.n6,U,_,U,ad,_,_,_,U,U,ha,pH (j:=1) U,fa,_,_,_,ef,U,hfa,pH (j:=j) e1',pa,_,U,hpa,U,_,_,U,_,_,U,_,_,U,U,g1_ _ _ ?_⟩;have c9:=hc9 fn (mGE h);cases fin with
   | @cal _ _ _ _ _ fn' h0' h' hk hx =>
    rw[Int.toNat_natCast,h] at h';cases h';by_cases hd:fn.hd="deep"
    · rw[if_pos hd] at q;refine⟨_,U,U,_,U,pI (by simp[hd]) ?_⟩;refine⟨_,U,A.m,A.dx,_,U,h1,U,A,S,U,m,λ_ H2 f2 m2=>⟨_,U,aL ?_⟩,λz=>absurd z (hk hd)⟩;obtain⟨vd2,h12,_⟩:=m2.m;have hl2:=(f2.kp _ _ nl hl).1;refine⟨_,U,A.m,A.dx,_,U,h12,U,_,U,_,U,fn.ct,U,∅,λt ht=>?_⟩;have k5:=smu (o:=HO.tup ((List.range fn.ct).map λj=>V.int (0+((j:Nat):Int)))) ht;have m5:=m2.same k5;have er:(List.range fn.ct).map (λj=>V.int (0+((j:Nat):Int)))=((List.range fn.ct).map Int.ofNat).map V.int:=by
       rw[List.map_map];exact List.map_congr_left λj _=>by show V.int _=V.int _;rw[Int.zero_add];rfl
      have F5:=f2.trans (.of k5);refine⟨_,U,A,_,[],.non,t,l,(List.range fn.ct).map Int.ofNat,us,xs,false,U,m5,.nil,SqT.of (by rw[pE,er]),SqL.of (k5 _ _ hl2),ah hu λ_ _ z=>z.fr F5,by rw[lMp,List.length_range,hx],λA' v' H6 s6 f6 m6 hv'=>?_⟩;obtain⟨t',rfl⟩:=f6.ex;exact⟨A.more t',_,fn.bd,_,z3,v',U,m6,(w3.tk F5.tk).same s6,hv',(by show S.W.length<30000;omega),λH' f' m'=>q _ H' ((F5.trans f6).trans f') m'⟩
    · rw[if_neg hd] at q;refine⟨_,U,U,_,U,pJ (by simpa using hd) (aL ?_)⟩;have f2:Fr A A H H:=Fr.refl;have m2:=m;obtain⟨vd2,h12,_⟩:=m2.m;have hl2:=(f2.kp _ _ nl hl).1;refine⟨_,U,A.m,A.dx,_,U,h12,U,_,U,_,U,fn.ct,U,∅,λt ht=>?_⟩;have k5:=smu (o:=HO.tup ((List.range fn.ct).map λj=>V.int (0+((j:Nat):Int)))) ht;have m5:=m2.same k5;have er:(List.range fn.ct).map (λj=>V.int (0+((j:Nat):Int)))=((List.range fn.ct).map Int.ofNat).map V.int:=by
       rw[List.map_map];exact List.map_congr_left λj _=>by show V.int _=V.int _;rw[Int.zero_add];rfl
      have F5:=f2.trans (.of k5);refine⟨_,U,A,_,[],.non,t,l,(List.range fn.ct).map Int.ofNat,us,xs,false,U,m5,.nil,SqT.of (by rw[pE,er]),SqL.of (k5 _ _ hl2),ah hu λ_ _ z=>z.fr F5,by rw[lMp,List.length_range,hx],λA' v' H6 s6 f6 m6 hv'=>?_⟩;obtain⟨t',rfl⟩:=f6.ex;exact⟨A.more t',_,fn.bd,_,z3,v',U,m6,(w3.tk F5.tk).same s6,hv',(by show S.W.length<30000;omega),λH' f' m'=>q _ H' ((F5.trans f6).trans f') m'⟩
   | @calD _ _ _ _ _ fn' h0' h' hd hk =>
    rw[Int.toNat_natCast,h] at h';cases h';refine⟨_,U,U,_,U,pI (by simp[hd]) ?_⟩;exact⟨_,U,A.m,A.dx,_,U,h1,U,A,S,U,m,λz=>absurd hk z,λ_ H2 f2 m2=>⟨_,U,ai (q A H2 f2 m2)⟩⟩
end
def jz {b:Ex} {x:Int} {n:Nm}:∀ {is:List Int} {k:Nat},eaS b x n k is=(List.range is.length).map λr=>⟨"begin",b,(x,k+r)::n,0⟩:=by
 intro is
 induction is with
 | nil=>intro k;rfl
 | cons i r ih =>
  intro k;show eaS b x n k r++[_]=_;rw[ih,List.length_cons,List.range_succ,List.map_append];rfl
def yG:Ex->List Int
  | .bnd _ x _ _ | .each x _ _ | .set x _=>[x]
  | .fn ids _=>ids
  | _=>[]
def Rg (x:Int):Prop:=0<=x/\x<300000
inductive Hx:Ex->Prop
  | mk {e:Ex} (h:(rT e).length<=8) (hi:∀ ids a,e=.fn ids a->ids.length<=3) (hb:∀ x∈yG e,Rg x) (hk:∀ k∈rT e,Hx k) (hf:∀ w,e=.flt w->(PyData.str w).canLay0=true:=by intro _ h;cases h):Hx e
def wI:List Str:=["let","var","each","if","while"]
def yv (h:Str) (ks:PDs):PDs:=if h="fun" then [] else if lT h wI=true then ks.take 1 else ks
def fX {d:PyData}:Shp "one" d:=⟨λz=>absurd z (by left),λz=>absurd z (by left),λz=>absurd z (by left),λz=>absurd z (by left)⟩
def qJ {l:PDs}:Shp "many" (.tuple l):=⟨λ_=>⟨l,U⟩,λz=>absurd z (by left),λz=>absurd z (by left),λz=>absurd z (by left)⟩
def jh {s:Str} {i:Int} (h:s∉(["many","op","word","bounds"]:List Str)):Shp s (.int i) :=
 ⟨λz=>absurd z (λe=>h (by rw[e];left)),λ_=>⟨i,U⟩,λz=>absurd z (λe=>h (by simp only[List.mem_cons,nMN,or_false] at e;rcases e with e | e <;> rw[e] <;> left)),λz=>absurd z (λe=>h (by rw[e];left))⟩
def A8 {s x:Str} (h:s∉(["many","bounds","number","meant","bound","place"]:List Str)):Shp s (.str x) :=
 ⟨λz=>absurd z (λe=>h (by rw[e];left)),λz=>absurd z (λe=>h (by simp only[List.mem_cons,nMN,or_false] at e;rcases e with e | e | e | e <;> rw[e] <;> left)),λ_=>⟨x,U⟩,λz=>absurd z (λe=>h (by rw[e];left))⟩
def Cf {is:List Int} (h:is.length<=3):Shp "bounds" (.tuple (is.map .int)):=⟨λz=>absurd z (by left),λz=>absurd z (by left),λz=>absurd z (by left),λ_=>⟨is,U,h⟩⟩
def cS (es:List Ex):(cx es).length=es.length:=by rw[gL,lMp]
def Bo {e:Ex} (x:Hx e):∃ h sl ps,Nd (exD e) h sl ps/\yv h (fF sl ps)=cx (eK e):=by
 obtain⟨h8,hi,_,hk,_⟩:=x;have one:∀ {a:PyData} {l:PDs},[a]++l=a::l:=rfl;cases e with
 | num i=>exact⟨"number",["number"],[.int i],⟨U,by left,.cons (jh (by left)) .nil,by show 0<=8;decide⟩,U⟩
 | nam i=>exact⟨"name",["meant"],[.int i],⟨U,by left,.cons (jh (by left)) .nil,by show 0<=8;decide⟩,U⟩
 | bnd w x a b =>
  cases w with
  | false=>exact⟨"let",["bound","one","one"],[.int x,exD a,exD b],⟨U,by left,.cons (jh (by left)) (.cons fX (.cons fX .nil)),by show 2<=8;decide⟩,U⟩
  | true=>exact⟨"var",["bound","one","one"],[.int x,exD a,exD b],⟨U,by left,.cons (jh (by left)) (.cons fX (.cons fX .nil)),by show 2<=8;decide⟩,U⟩
 | each x a b=>exact⟨"each",["bound","one","one"],[.int x,exD a,exD b],⟨U,by left,.cons (jh (by left)) (.cons fX (.cons fX .nil)),by show 2<=8;decide⟩,U⟩
 | set x a=>exact⟨"set",["meant","one"],[.int x,exD a],⟨U,by left,.cons (jh (by left)) (.cons fX .nil),by show 1<=8;decide⟩,U⟩
 | seq es=>exact⟨"do",["many"],[.tuple (cx es)],⟨U,by left,.cons qJ .nil,by show (cx es++[]).length<=8;rw[List.append_nil,cS];exact h8⟩,by show cx es++[]=_;rw[List.append_nil];rfl⟩
 | ite a b d=>exact⟨"if",["one","one","one"],[exD a,exD b,exD d],⟨U,by left,.cons fX (.cons fX (.cons fX .nil)),by show 3<=8;decide⟩,U⟩
 | whl a b=>exact⟨"while",["one","one"],[exD a,exD b],⟨U,by left,.cons fX (.cons fX .nil),by show 2<=8;decide⟩,U⟩
 | say a=>exact⟨"say",["one"],[exD a],⟨U,by left,.cons fX .nil,by show 1<=8;decide⟩,U⟩
 | flt w=>exact⟨"fault",["word"],[.str w],⟨U,by left,.cons (A8 (by left)) .nil,by show 0<=8;decide⟩,U⟩
 | op w es=>exact⟨"op",["op","many"],[.str w,.tuple (cx es)],⟨U,by left,.cons (A8 (by left)) (.cons qJ .nil),by show (cx es++[]).length<=8;rw[List.append_nil,cS];exact h8⟩,by show cx es++[]=_;rw[List.append_nil];rfl⟩
 | new r es=>exact⟨"new",["place","many"],[.int r,.tuple (cx es)],⟨U,by left,.cons (jh (by left)) (.cons qJ .nil),by show (cx es++[]).length<=8;rw[List.append_nil,cS];exact h8⟩,by show cx es++[]=_;rw[List.append_nil];rfl⟩
 | get r i a=>exact⟨"get",["place","place","one"],[.int r,.int i,exD a],⟨U,by left,.cons (jh (by left)) (.cons (jh (by left)) (.cons fX .nil)),by show 1<=8;decide⟩,U⟩
 | fn ids a=>exact⟨"fun",["bounds","one"],[.tuple (ids.map .int),exD a],⟨U,by left,.cons (Cf (hi _ _ U)) (.cons fX .nil),by show 1<=8;decide⟩,U⟩
 | app a es=>exact⟨"apply",["one","many"],[exD a,.tuple (cx es)],⟨U,by left,.cons fX (.cons qJ .nil),by show (exD a::(cx es++[])).length<=8;rw[List.append_nil,List.length_cons,cS];exact h8⟩,by show exD a::(cx es++[])=_;rw[List.append_nil];rfl⟩
 | cal f es=>exact⟨"call",["place","many"],[.int f,.tuple (cx es)],⟨U,by left,.cons (jh (by left)) (.cons qJ .nil),by show (cx es++[]).length<=8;rw[List.append_nil,cS];exact h8⟩,by show cx es++[]=_;rw[List.append_nil];rfl⟩
def uR {e:Ex} (x:Hx e):(eK e).length<=8:=by
 obtain⟨h8,_,_,_,_⟩:=x;cases e <;> first | exact h8 | exact Nat.zero_le 8 | exact (show 1<=8 by decide)
section
variable {P:Program} {w:World} {K:Fg} {mg:SOV} {base:Heap} {c:Ks}
def o7 (e:Ex):Prop:=∃ i a b,e=.each i a b
def ss (D:Def K mg "finish_each" (top 29)) (k:KC K mg c) (T:Blt mg) (M_begin:MFn P w K mg base c.cc "begin" 2 ["self","e","names"] (jH K c)) (M_wait:MFn P w K mg base c.cc "wait" 1 ["self","task","e","names","count"] (qz K c)) (fI:Fn P w K mg base "row_of" 1 ["value"] (ua K c)) (bB:Fn P w K mg base "bound_names" 1 lc (vM K c)):Fn P w K mg base "finish_each" 5 bq (cW K c o7):=by
 have nd:(["machine","e","names","values","numbers","number"]:List Str).Nodup:=by left
 exists D.fn (N:=["machine","e","names","values","numbers","number"]) (~~~nd),bL
 · obtain⟨F,A,S,S',e,n,xs,us,l,ve,vn,rfl,_⟩:=h;rfl
 · obtain⟨F,A,S,S',e,n,xs,us,l,ve,vn,rfl,m,he,hn,hl,nl,hu,okk,fin,hF,hc9,bd,q⟩:=h;obtain⟨bw,bt,bD⟩:=bd;have hz0:(40000:Nat)<sizeLine:=∅
   refine⟨_,(pD (pL (i:=4) nd U (.inl U) (aj fI ⇑hr U %[ac aw ↥3 pF Ue|0]))
 (pD (aH (bo ↥0 k.oc M_wait ⇑hr %[pC,1,2,cq T.len %[4|0]|0]))
 (pG (cR PassesOwn.never U (hU (nW ↥4 (dL (jp gU pF)))) (aC (i:=5) nd U (.inl U))
 (pG (aH (bo ↥0 k.oc M_begin ⇑hr %[↥↥1,aj bB ⇑hr U %[2,ax %[↥↥1|0],ax %[5|0]|0]|0]))))))),?_⟩
   dsimp only[be];obtain⟨i,a,b,rfl⟩:=okk;cases fin with
   | @each _ _ _ _ _ x h8 =>
    obtain⟨v,hv,vv⟩:=aJ hu (i:=0) rfl;refine⟨_,U,l,_,_,_,U,U,SqL.of hl,pH (j:=0) hv,A,v,x,U,vv,λra H1 s1 hra=>?_⟩;have m1:=m.same s1;obtain⟨vd,h1,e1⟩:=m1.m;have he1:=he.same s1;refine⟨_,U,A.m,A.dx,_,U,h1,U,_,U,_,U,_,U,ra,_,U,.inr hra,?_⟩;rw[lMp];refine⟨A,S,⟨"over",.each i a b,n,(rwo x).length⟩,_,vn,U,m1,he1,hn.fr (.of s1),(by show S.W.length<30000;omega),λH2 f2 m2=>?_⟩;have hra2:=hra.tk f2.tk;refine⟨_,U,_,U,_,U,ra,_,U,U,hra2,λp hp=>?_⟩;have s3:=smu (o:=HO.tup ((rwo x).map V.int).reverse) hp;have m3:=m2.same s3;have F3:Fr A A H _:=(Fr.of s1).trans (f2.trans (.of s3));have hp3:SqT K (upd H2 p (.tup ((rwo x).map V.int).reverse)) p (((rwo x).reverse).map V.int):=SqT.of (by rw[pE,List.map_reverse]);refine⟨p,U,⟨_,hp3⟩,?_⟩;generalize upd H2 p (.tup ((rwo x).map V.int).reverse)=H3 at s3 m3 F3 hp3 ⊢;show aO _ _ _ _ _ _;refine aO.byN (cX (xs:=((rwo x).reverse).map V.int)) (λj σ Hj=>∃ A',Fr A A' H3 Hj/\MV K c A' Hj {S with W:=S.W++[⟨"over",.each i a b,n,(rwo x).length⟩]++(List.range j).map λr=>⟨"begin",b,(i,S.B.length+r)::n,0⟩,B:=S.B++((rwo x).reverse.take j).map λy=>(false,Vl.int y)}/\∃ x5,σ=[some (.ref A.m),some ve,some vn,some (.ref l),some (.ref ra),x5]) ⟨A,Fr.refl,by rw[List.take_zero,List.map_nil,List.append_nil];show MV K c A H3 {S with W:=S.W++[_]++[],B:=_};rw[List.append_nil];exact m3,_,U⟩ (λ_ _ _ _ z=>hp3.tk (let ⟨_,f,_⟩:=z;f.tk)) ?_ ?_
    · rintro j u σ Hj N_ B_ hN_ hB_ hu' ⟨A',fj,mj,x5,rfl⟩;have hj:j<(rwo x).reverse.length:=by have:=(gES.mp hu').1;rwa [lMp] at this
      have hj':j<(rwo x).length:=by rwa [List.length_reverse] at hj
      have hyj:(rwo x).reverse[j]?=some ((rwo x).reverse[j]):=gEE hj;rw[gEM,hyj] at hu';cases hu';generalize (rwo x).reverse[j]=y at hyj ⊢;obtain⟨t0,rfl⟩:=fj.ex;obtain⟨vd4,h4,e4⟩:=mj.m;have Fj:=F3.trans fj;have hej:=he.tk Fj.tk;obtain⟨ad,ys,rfl,ha,hy⟩:=(show TD K Hj ve (.tuple [.str "each",.int i,exD a,exD b]) from hej).tup_of;obtain⟨y1,yr,rfl,t1,tr⟩:=cA hy;obtain⟨y2,y3,y4,rfl,t2,t3,t4⟩:=cJ tr;cases t2;refine⟨_,U,A.m,A.dx,_,U,h4,U,_,U,ad,_,_,_,U,U,ha,pH (j:=3) U,_,U,_,U,ad,_,_,_,U,U,ha,pH (j:=1) U,me,λp1 hp1=>?_⟩;have k1:=smu (o:=HO.tup [.int i]) hp1;refine⟨_,U,me,λp2 hp2=>?_⟩;have k2:=smu (o:=HO.tup [.int y]) hp2;have k12:=k1.trans k2;refine⟨A.more t0,_,n,vn,p1,p2,[i],[.int y],[.int y],false,U,mj.same k12,(hn.fr Fj).fr (.of k12),SqT.of (k2 _ _ pE),SqT.of pE,.cons (.int y) .nil,U,λA5 v' H5 s5 f5 m5 hv'=>?_⟩;obtain⟨t5,rfl⟩:=f5.ex;have s15:=k12.trans s5;refine⟨(A.more t0).more t5,_,b,_,_,v',U,m5,t4.same s15,hv',?_,λH6 f6 m6=>?_⟩
      · simp only[lAp,lMp,List.length_range,List.length_cons,List.length_nil];omega
      · refine hN_ _ _ ⟨(A.more t0).more t5,((fj.trans (.of k12)).trans f5).trans f6,?_,_,U⟩;rw[tAO,hyj,List.map_append,List.range_succ,List.map_append];have e5:(S.B++((rwo x).reverse.take j).map λy=>(false,Vl.int y)).length=S.B.length+j:=by
         rw[lAp,lMp,lTk,Nat.min_eq_left (Nat.le_of_lt hj)]
        have e6:nms n (S.B++((rwo x).reverse.take j).map λy=>(false,Vl.int y)).length [i]=(i,S.B.length+j)::n:=by rw[e5];rfl
        have m6:=m6;rw[e6] at m6;have:∀ {α:Type} (X Y Z:List α),X++(Y++Z)=X++Y++Z:=λX Y Z=>(List.append_assoc X Y Z).symm;rw[this,this];exact m6
    · rintro σ Hj ⟨A',fj,mj,x5,rfl⟩;rw[lMp,List.take_length,List.append_assoc,List.length_reverse] at mj;refine q A' Hj (F3.trans fj) ?_;rw[jz];exact mj
abbrev sFt:Stmt:=top 39
inductive wH (K:Fg) (vs:List V) (H:Hp) (Q:VK):Prop
  | mk (v:V) (d:PyData) (h:Str) (sl:List Str) (ps:PDs) (h0:vs=[v]) (h1:TD K H v d) (h2:Nd d h sl ps) (q:∀ v' H',aI H H'->TD K H' v' (.tuple (yv h (fF sl ps)))->Q v' H'):wH K vs H Q
def zY (K:Fg):Sp:=λvs H Q _=>wH K vs H Q
def uI {H:Hp} {x:V} {d:PyData} {h:Str} {sl:List Str} {ps:PDs} (t:TD K H x d) (nd:Nd d h sl ps):∃ a vs,x=.ref a/\SqT K H a (.str h::vs)/\TDs K H vs ps:=by
 rw[nd.eq] at t;obtain⟨a,ys,rfl,ha,hy⟩:=t.tup_of;cases hy with
 | cons p q=>rw[p.str_of] at ha;exact⟨a,_,U,ha,q⟩
def kU {H:Hp} {xs:List V} {ds:PDs} (h:TDs K H xs ds):TDs K H (xs.take 1) (ds.take 1):=by
 cases h with
 | nil=>exact .nil
 | cons p q=>exact .cons p .nil
def B8 (D:Def K mg "first_things" sFt) (g9:Fn P w K mg base "children_of" 1 ["e"] (A7 K)):Fn P w K mg base "first_things" 2 ["e"] (zY K):=by
 exists D.fn (N:=["e"]) fsM,fD,_
 · obtain⟨v,d,h,sl,ps,rfl,_⟩:=h;rfl
 · obtain⟨v,d,h,sl,ps,rfl,td,nd,q⟩:=h;refine⟨_,(pD (az (pM aB ↥↥0 pC (pN _)) (pG (ak (ax pB))) aq)
 (pD (az (pM jq ↥↥0 (@ax _ _ _ _ _ (@pA _ _ _ _ _ pC (@pA _ _ _ _ _ pC (@pA _ _ _ _ _ pC (@pA _ _ _ _ _ pC (@pA _ _ _ _ _ pC pB (by rfl)) (by rfl)) (by rfl)) (by rfl)) (by rfl))) (by with_unfolding_all rfl)) (pG (ak (ff nN (aj g9 ⇑hr U %[0|0]) gv (dL pF)))) aq)
 (pG (ak (aj g9 ⇑hr U %[0|0]))))),?_⟩
   dsimp only[be];obtain⟨a,vs,rfl,ha,hvs⟩:=uI td nd;have at0:∀ {x:V} {r:List V},atI (x::r) 0=some x:=λ{x r}=>pH (j:=0) rfl;unfold yv at q;refine⟨_,U,a,_,_,_,U,U,ha,at0,U,_,U,?_⟩;by_cases e1:h="fun"
   · rw[if_pos e1] at q;exact pJ (by simp[e1]) ⟨mh,λp hp=>q _ _ (smu hp) (.tup (SqT.of pE) .nil)⟩
   rw[if_neg e1] at q;refine pI (by simpa using e1) ?_;refine⟨_,U,a,_,_,_,U,U,ha,at0,Dp,λt ht=>?_⟩;have k1:=smu (o:=HO.tup (wI.map V.str)) ht;refine⟨t,wI.map V.str,U,.inr (SqT.of pE),U,jx _,_,U,?_⟩;rw[lE];have S1:aI H (upd H t (.tup [V.str "let",V.str "var",V.str "each",V.str "if",V.str "while"])):=k1;generalize upd H t (.tup [V.str "let",V.str "var",V.str "each",V.str "if",V.str "while"])=H1 at S1 ⊢;by_cases e2:lT h wI=true
   · rw[if_pos e2] at q;refine pJ e2 ⟨_,U,_,d,h,sl,ps,U,td.same S1,nd,λv' H2 s2 tv=>?_⟩;obtain⟨a2,xs,rfl,ha2,hxs⟩:=tv.tup_of;have ec:eM xs none (some 1)=xs.take 1:=by
      unfold eM;have:=HT.ip xs.length xs.length 1;rw[show ((1:Nat):Int)=1 from rfl] at this;rw[this,HT.gu,List.drop_zero,Nat.sub_zero];cases xs with
      | nil=>rfl
      | cons x r=>rw[Nat.min_eq_left (by rw[List.length_cons];omega)]
     have S2:=S1.trans s2;refine⟨_,U,a2,xs,U,ha2,λz=>?_,λp hp=>?_⟩
     · refine q _ _ S2 (.tup ha2 ?_);have:=kU hxs;rw[<- ec,z] at this;exact this
     · have k3:=smu (o:=HO.tup (eM xs none (some 1))) hp;refine q _ _ (S2.trans k3) (.tup (SqT.of pE) ?_);rw[ec];exact (kU hxs).same (by rw[<- ec];exact k3)
   · rw[if_neg e2] at q;exact pI e2 ⟨_,U,_,d,h,sl,ps,U,td.same S1,nd,λv' H2 s2 tv=>q _ _ (S1.trans s2) tv⟩
end
end K19
namespace P10
open PySem L2 K19
structure Gam where
  hs:List (Str×Nat)
  own:Nat
  rs:List Nat
def Gam.oh (Γ:Gam):Str:=((Γ.hs[Γ.own]?).map (·.1)).getD ""
abbrev sh (i:Int):Prop:=-10<i/\i<60000
abbrev okS (s:Str):Bool:=s.cps.toList.all λc=>decide (c<16 ^ 8)
abbrev wOk (s:Str):Prop:=(PyData.str s).canLay0=true/\s.cps.size<=8/\okS s=true
def wb:Nat->Nat
  | 0=>0
  | n+1=>(if n % 2=1 then 4 else 2)*wb n+40
def eY {n:Nat} (h:n % 2=1):wb (n+1)=4*wb n+40:=by show (if n % 2=1 then 4 else 2)*wb n+40=_;rw[if_pos h]
def eX (n:Nat):2*wb n+40<=wb (n+1):=by
 show _<=(if n % 2=1 then 4 else 2)*wb n+40;split <;> omega
def tJ {n m:Nat} (h:n<=m):wb n<=wb m:=by
 induction m with
 | zero=>rw[Nat.le_zero.mp h];exact Nat.le_refl _
 | succ m ih =>
  rcases Nat.lt_or_ge m n with z | z
  · rw[Nat.le_antisymm h z];exact Nat.le_refl _
  · have:=ih z;have:=eX m;omega
def fdL:Nat->Nat
  | 0=>1
  | n+1=>fdL n+(if n % 2=1 then 3 else 2)
def eL {n:Nat} (h:n % 2=1):fdL (n+1)=fdL n+3:=by show fdL n+(if n % 2=1 then 3 else 2)=_;rw[if_pos h]
def de (n:Nat):fdL n+2<=fdL (n+1):=by
 show _<=fdL n+(if n % 2=1 then 3 else 2);split <;> omega
def gK {n m:Nat} (h:n<=m):fdL n<=fdL m:=by
 induction m with
 | zero=>rw[Nat.le_zero.mp h];exact Nat.le_refl _
 | succ m ih =>
  rcases Nat.lt_or_ge m n with z | z
  · rw[Nat.le_antisymm h z];exact Nat.le_refl _
  · have:=ih z;have:=de m;omega
def F0 (hs:List (Str×Nat)):List K19.Fun:=hs.map λh=>⟨h.1,h.2,.num 0⟩
def rfk (hs:List (Str×Nat)) (k:Nat):Nat:=if ((hs[k]?).map (·.1)).getD ("":Str)=("function":Str) then 3-k else 3
def rk (Γ:Gam):Nat:=rfk Γ.hs Γ.own
structure GO (Γ:Gam):Prop where
  l:Γ.hs.length<=4
  o:∀ (h:Str) (c:Nat),Γ.hs[0]?=some (h,c)->h="open"
structure Cd (L W:List Int) (c:Int):Prop where
  b:∀ x∈L++W,0<=x/\x<c
  d:∀ x∈W,x∉L
  z:0<=c
def Cd.up {L W:List Int} {c c':Int} (h:Cd L W c) (l:c<=c'):Cd L W c':=⟨λx hx=>by have:=h.b x hx;omega,h.d,by have:=h.z;omega⟩
def Ar.mono {F:List K19.Fun} {rf:Nat->Nat} {R:List Nat} {r r':Nat} {e:Ex} (h:Ar F rf R r e) (l:r<=r'):Ar F rf R r' e:=by
 induction h generalizing r' with
 | num h=>exact .num h
 | nam=>exact .nam
 | flt=>exact .flt
 | fn h ha _=>exact .fn h ha
 | bnd _ _ i1 i2=>exact .bnd (i1 l) (i2 l)
 | each _ _ i1 i2=>exact .each (i1 l) (i2 l)
 | set _ i1=>exact .set (i1 l)
 | say _ i1=>exact .say (i1 l)
 | get hq h h0 h1 _ i1=>exact .get hq h h0 h1 (i1 l)
 | ite _ _ _ i1 i2 i3=>exact .ite (i1 l) (i2 l) (i3 l)
 | whl _ _ i1 i2=>exact .whl (i1 l) (i2 l)
 | seq h0 h9 _ i1=>exact .seq h0 h9 λe he=>i1 e he l
 | op ho _ i1=>exact .op ho λe he=>i1 e he l
 | new hq hc h9 _ i1=>exact .new hq hc h9 λe he=>i1 e he l
 | app _ h9 _ i1 i2=>exact .app (i1 l) h9 λe he=>i2 e he l
 | cal hk hf hl h9 hr _ i1=>exact .cal hk hf hl h9 (hr.imp id λz=>by omega) λe he=>i1 e he l
def Ar.heads {F F':List K19.Fun} {rf:Nat->Nat} {R:List Nat} {r:Nat} {e:Ex} (h:Ar F rf R r e) (i:∀ (k:Nat) (fn:K19.Fun),F[k]?=some fn->∃ fn',F'[k]?=some fn'/\fn'.hd=fn.hd/\fn'.ct=fn.ct):Ar F' rf R r e:=by
 induction h with
 | num h=>exact .num h
 | nam=>exact .nam
 | flt=>exact .flt
 | fn h _ ih=>exact .fn h ih
 | bnd _ _ i1 i2=>exact .bnd i1 i2
 | each _ _ i1 i2=>exact .each i1 i2
 | set _ i1=>exact .set i1
 | say _ i1=>exact .say i1
 | get hq h h0 h1 _ i1=>exact .get hq h h0 h1 i1
 | ite _ _ _ i1 i2 i3=>exact .ite i1 i2 i3
 | whl _ _ i1 i2=>exact .whl i1 i2
 | seq h0 h9 _ i1=>exact .seq h0 h9 i1
 | op ho _ i1=>exact .op ho i1
 | new hq hc h9 _ i1=>exact .new hq hc h9 i1
 | app _ h9 _ i1 i2=>exact .app i1 h9 i2
 | cal hk hf hl h9 hr _ i1 =>
  obtain⟨fn',h1,h2,h3⟩:=i _ _ hf;exact .cal hk h1 (by rw[h3];exact hl) h9 (by rw[h2];exact hr) i1
def jN (hs:List (Str×Nat)) (k:Nat):rfk hs k<=3:=by unfold rfk;split <;> omega
def Am (Γ:Gam):rk Γ<=3:=jN _ _
structure XO (Γ:Gam) (L W:List Int) (n:Nat) (c:Int) (e:Ex):Prop where
  ws:Cd L W c->∀ L' V',(∀ x,x∈L'↔x∈L)->(∀ x,x∈V'↔x∈W)->Ws L' V' e
  hx:0<=c->c+((wb n:Nat):Int)<=300000->(∀ x∈W,Rg x)->Hx e
  fd:n<=9->Fd e (fdL n)
  ar:GO Γ->Ar (F0 Γ.hs) (rfk Γ.hs) Γ.rs (rk Γ) e
structure XE (Γ:Gam) (L W:List Int) (n:Nat) (c:Int) (d:PyData) (c':Int):Prop where
  ex:∃ e,d=exD e/\XO Γ L W n c e
  cc:c<=c'/\c'<=c+((wb n:Nat):Int)
def XE.more {Γ:Gam} {L W:List Int} {n m:Nat} {c c':Int} {d:PyData} (h:XE Γ L W n c d c') (hn:n<=m):XE Γ L W m c d c':=by
 have z:=tJ hn;have z2:=h.cc;obtain⟨e,he,x⟩:=h.ex;exact⟨⟨e,he,x.ws,λa b=>x.hx a ∅,λa=>(x.fd ∅).mono (gK hn),x.ar⟩,⟨z2.1,∅⟩⟩
def XEs (Γ:Gam) (L W:List Int) (n:Nat):Int->PDs->Int->Prop
  | c,[],c'=>c'=c
  | c,d::r,c'=>∃ l,XE Γ L W n c d l/\XEs Γ L W n l r c'
section
variable {Γ:Gam} {L W:List Int} {n:Nat} {c c' l:Int} {d:PyData} {ds:PDs}
def XEs.more {m:Nat} (hn:n<=m):∀ {ds:PDs} {c:Int},XEs Γ L W n c ds c'->XEs Γ L W m c ds c':=by
 intro ds
 induction ds with
 | nil=>exact λh=>h
 | cons d r ih=>rintro c ⟨l,h1,h2⟩;exact⟨l,h1.more hn,ih h2⟩
def XEs.snoc:∀ {ds:PDs} {c:Int},XEs Γ L W n c ds l->XE Γ L W n l d c'->XEs Γ L W n c (ds++[d]) c':=by
 intro ds
 induction ds with
 | nil=>intro c h z;cases (show l=c from h);exact⟨c',z,U⟩
 | cons y r ih=>rintro c ⟨l',h1,h2⟩ z;exact⟨l',h1,ih h2 z⟩
def XEs.cc:∀ {ds:PDs} {c:Int},XEs Γ L W n c ds c'->c<=c'/\c'<=c+((ds.length*wb n:Nat):Int):=by
 intro ds
 induction ds with
 | nil=>intro c h;cases (show c'=c from h);exact⟨Int.le_refl _,by simp⟩
 | cons d r ih =>
  rintro c ⟨l,h1,h2⟩;have a:=h1.cc;have b:=ih h2;have e:(d::r).length*wb n=r.length*wb n+wb n:=Nat.succ_mul _ _;rw[e];exact⟨∅,∅⟩
structure XOs (Γ:Gam) (L W:List Int) (n k:Nat) (c:Int) (es:List Ex):Prop where
  ws:Cd L W c->∀ L' V',(∀ x,x∈L'↔x∈L)->(∀ x,x∈V'↔x∈W)->∀ e∈es,Ws L' V' e
  hx:0<=c->c+((k*wb n:Nat):Int)<=300000->(∀ x∈W,Rg x)->∀ e∈es,Hx e
  fd:n<=9->∀ e∈es,Fd e (fdL n)
  ar:GO Γ->∀ e∈es,Ar (F0 Γ.hs) (rfk Γ.hs) Γ.rs (rk Γ) e
def XEs.facts:∀ {ds:PDs} {c:Int},XEs Γ L W n c ds c'->∃ es,ds=cx es/\es.length=ds.length/\XOs Γ L W n ds.length c es:=by
 intro ds
 induction ds with
 | nil=>exact λ_=>⟨[],U,U,λ_ _ _ _ _ e he=>(nomatch he),λ_ _ _ e he=>(nomatch he),λ_ e he=>(nomatch he),λ_ e he=>nomatch he⟩
 | cons d r ih =>
  rintro c ⟨l,h1,h2⟩;obtain⟨e,rfl,x⟩:=h1.ex;obtain⟨es,rfl,el,y⟩:=ih h2;have a:=h1.cc;refine⟨e::es,U,by rw[List.length_cons,List.length_cons,el],?_,?_,?_,?_⟩
  · intro cd L' V' i1 i2 e' he'
    rcases List.mem_cons.mp he' with rfl | he'
    · exact x.ws cd L' V' i1 i2
    · exact y.ws (cd.up a.1) L' V' i1 i2 e' he'
  · intro c0 hc hw e' he';have e1:(exD e::cx es).length*wb n=(cx es).length*wb n+wb n:=Nat.succ_mul _ _;rw[e1] at hc
    rcases List.mem_cons.mp he' with rfl | he'
    · exact x.hx c0 ∅ hw
    · exact y.hx ∅ ∅ hw e' he'
  · intro h9 e' he'
    rcases List.mem_cons.mp he' with rfl | he'
    · exact x.fd h9
    · exact y.fd h9 e' he'
  · intro go e' he'
    rcases List.mem_cons.mp he' with rfl | he'
    · exact x.ar go
    · exact y.ar go e' he'
def gD {k m:Nat} (h:k<=m) (w:Nat):k*w<=m*w:=Nat.mul_le_mul_right _ h
def jV {e:Ex} (h:rT e=[]) (hb:yG e=[]) (hi:∀ ids a,e=.fn ids a->ids.length<=3) (hf:∀ w,e=.flt w->(PyData.str w).canLay0=true):Hx e:=.mk (by rw[h];decide) hi (λx hx=>by rw[hb] at hx;cases hx) (λk hk=>by rw[h] at hk;cases hk) hf
def uY (n:Nat):∃ m,fdL (n+1)=m+2:=⟨fdL (n+1)-2,by have:=de n;omega⟩
def kK {i:Int} (hi:sh i):XE Γ L W (n+1) c (.tuple [.str "number",.int i]) c :=
 ⟨⟨.num i,U,λ_ _ _ _ _=>.num,λ_ _ _=>jV U U nofun nofun,λ_=>by obtain⟨m,e⟩:=uY n;rw[e];exact .num,λ_=>.num ⟨∅,∅⟩⟩,⟨Int.le_refl _,∅⟩⟩
def tH {s:Str} (hs:wOk s):XE Γ L W (n+1) c (.tuple [.str "fault",.str s]) c :=
 ⟨⟨.flt s,U,λ_ _ _ _ _=>.flt,λ_ _ _=>jV U U nofun (λw z=>by cases z;exact hs.1),λ_=>by obtain⟨m,e⟩:=uY n;rw[e];exact .flt,λ_=>.flt⟩,⟨Int.le_refl _,∅⟩⟩
def xc {i:Int} (hi:i∈L++W):XE Γ L W (n+1) c (.tuple [.str "name",.int i]) c :=
 ⟨⟨.nam i,U,λ_ L' V' i1 i2=>.nam ((mAp.mp hi).imp (i1 i).mpr (i2 i).mpr),λ_ _ _=>jV U U nofun nofun,λ_=>by obtain⟨m,e⟩:=uY n;rw[e];exact .nam,λ_=>.nam⟩,⟨Int.le_refl _,∅⟩⟩
def zn {i:Int} (hi:i∈W) (h:XE Γ L W n c d c'):XE Γ L W (n+1) c (.tuple [.str "set",.int i,d]) c':=by
 have hcc:=h.cc;have hw2:=eX n;obtain⟨e,rfl,x⟩:=h.ex;refine⟨⟨.set i e,U,λcd L' V' i1 i2=>.set ((i2 i).mpr hi) (λz=>cd.d i hi ((i1 i).mp z)) (x.ws cd L' V' i1 i2),λa b w=>.mk (by show 1<=8;decide) nofun (λy hy=>by rw[mSg.mp hy];exact w i hi) (λk hk=>by rw[mSg.mp hk];exact x.hx a ∅ w),λh9=>?_,λgo=>.set (x.ar go)⟩,⟨hcc.1,∅⟩⟩;exact (Fd.set (x.fd ∅)).mono (de n)
def zC (z:XEs Γ L W n c ds c') (kl:ds.length<=4) (ho:n % 2=1:=by omega) (h0:ds≠[]:=by first | exact List.cons_ne_nil _ _ | (intro z;subst z;simp at *;omega)):XE Γ L W (n+1) c (.tuple [.str "do",.tuple ds]) c':=by
 have zc:=z.cc;have hl:=gD kl (wb n);have w1:=eY ho;obtain⟨es,rfl,el,x⟩:=z.facts;refine⟨⟨.seq es,U,λcd L' V' i1 i2=>.seq (x.ws cd L' V' i1 i2),λa b w=>.mk (by show es.length<=8;omega) nofun (λy hy=>nomatch hy) (x.hx a ∅ w),λh9=>?_,λgo=>.seq (λe=>h0 (by rw[e];rfl)) ∅ (x.ar go)⟩,⟨zc.1,∅⟩⟩;rw[eL ho];exact .seq (x.fd ∅)
def C7 {a b e:PyData} {l l':Int} (ha:XE Γ L W n c a l) (hb:XE Γ L W n l b l') (he:XE Γ L W n l' e c') (ho:n % 2=1:=by omega):XE Γ L W (n+1) c (.tuple [.str "if",a,b,e]) c':=by
 have c1:=ha.cc;have c2:=hb.cc;have c3:=he.cc;have w1:=eY ho;obtain⟨a,rfl,xa⟩:=ha.ex;obtain⟨b,rfl,xb⟩:=hb.ex;obtain⟨e,rfl,xe⟩:=he.ex;refine⟨⟨.ite a b e,U,λcd L' V' i1 i2=>.ite (xa.ws cd L' V' i1 i2) (xb.ws (cd.up ∅) L' V' i1 i2) (xe.ws (cd.up ∅) L' V' i1 i2),λp q w=>.mk (by show 3<=8;decide) nofun (λy hy=>nomatch hy) (λk hk=>?_),λh9=>(Fd.ite (xa.fd ∅) (xb.fd ∅) (xe.fd ∅)).mono (de n),λgo=>.ite (xa.ar go) (xb.ar go) (xe.ar go)⟩,⟨∅,∅⟩⟩;have hk:k∈[a,b,e]:=hk;simp only[List.mem_cons,nMN,or_false] at hk
 rcases hk with rfl | rfl | rfl
 · exact xa.hx p ∅ w
 · exact xb.hx ∅ ∅ w
 · exact xe.hx ∅ ∅ w
def tG {a b:PyData} {l:Int} (ha:XE Γ L W n c a l) (hb:XE Γ L W n l b c') (ho:n % 2=1:=by omega):XE Γ L W (n+1) c (.tuple [.str "while",a,b]) c':=by
 have c1:=ha.cc;have c2:=hb.cc;have w1:=eY ho;obtain⟨a,rfl,xa⟩:=ha.ex;obtain⟨b,rfl,xb⟩:=hb.ex;refine⟨⟨.whl a b,U,λcd L' V' i1 i2=>.whl (xa.ws cd L' V' i1 i2) (xb.ws (cd.up ∅) L' V' i1 i2),λp q w=>.mk (by show 2<=8;decide) nofun (λy hy=>nomatch hy) (λk hk=>?_),λh9=>?_,λgo=>.whl (xa.ar go) (xb.ar go)⟩,⟨∅,∅⟩⟩
 · have hk:k∈[a,b]:=hk;simp only[List.mem_cons,nMN,or_false] at hk
   rcases hk with rfl | rfl
   · exact xa.hx p ∅ w
   · exact xb.hx ∅ ∅ w
 · rw[eL ho];exact .whl (xa.fd ∅) ((xb.fd ∅).mono ∅)
def zp {a:PyData} (ha:XE Γ L W n c a c'):XE Γ L W (n+1) c (.tuple [.str "say",a]) c':=by
 have c1:=ha.cc;have hw2:=eX n;obtain⟨a,rfl,xa⟩:=ha.ex;exact⟨⟨.say a,U,λcd L' V' i1 i2=>.say (xa.ws cd L' V' i1 i2),λp q w=>.mk (by show 1<=8;decide) nofun (λy hy=>nomatch hy) (λk hk=>by rw[mSg.mp hk];exact xa.hx p ∅ w),λh9=>(Fd.say (xa.fd ∅)).mono (de n),λgo=>.say (xa.ar go)⟩,⟨c1.1,∅⟩⟩
def zq {s:Str} (hs:opA s ds.length=true) (z:XEs Γ L W n c ds c') (kl:ds.length<=3) (ho:n % 2=1:=by omega):XE Γ L W (n+1) c (.tuple [.str "op",.str s,.tuple ds]) c':=by
 have zc:=z.cc;have hl:=gD kl (wb n);have w1:=eY ho;obtain⟨es,rfl,el,x⟩:=z.facts;refine⟨⟨.op s es,U,λcd L' V' i1 i2=>.op (x.ws cd L' V' i1 i2),λa b w=>.mk (by show es.length<=8;omega) nofun (λy hy=>nomatch hy) (x.hx a ∅ w),λh9=>?_,λgo=>.op (by rw[el];exact hs) (x.ar go)⟩,⟨zc.1,∅⟩⟩;rw[eL ho];exact .op (x.fd ∅)
def zy {a b e:PyData} {l l':Int} (ha:XE Γ L W n c a l) (hb:XE Γ L W n l b l') (he:XE Γ L W n l' e c') (ho:n % 2=1:=by omega):XE Γ L W (n+2) c (.tuple [.str "if",.tuple [.str "op",.str "not",.tuple [a]],b,e]) c':=by
 have c1:=ha.cc;have c2:=hb.cc;have c3:=he.cc;have w1:=eY ho;have w2:2*wb (n+1)+40<=wb (n+2):=eX (n+1);obtain⟨a,rfl,xa⟩:=ha.ex;obtain⟨b,rfl,xb⟩:=hb.ex;obtain⟨e,rfl,xe⟩:=he.ex;refine⟨⟨.ite (.op "not" [a]) b e,U,λcd L' V' i1 i2=>.ite (.op λy hy=>by rw[mSg.mp hy];exact xa.ws cd L' V' i1 i2) (xb.ws (cd.up ∅) L' V' i1 i2) (xe.ws (cd.up ∅) L' V' i1 i2),λp q w=>.mk (by show 3<=8;decide) nofun (λy hy=>nomatch hy) (λk hk=>?_),λh9=>?_,λgo=>.ite (.op (show opA "not" 1=true by left) λy hy=>by rw[mSg.mp hy];exact xa.ar go) (xb.ar go) (xe.ar go)⟩,⟨∅,∅⟩⟩
 · have hk:k∈[Ex.op "not" [a],b,e]:=hk;simp only[List.mem_cons,nMN,or_false] at hk
   rcases hk with rfl | rfl | rfl
   · exact .mk (by show 1<=8;decide) nofun (λy hy=>nomatch hy) (λk hk=>by rw[mSg.mp hk];exact xa.hx p ∅ w)
   · exact xb.hx ∅ ∅ w
   · exact xe.hx ∅ ∅ w
 · have f1:=eL ho;have f2:fdL (n+1)+2<=fdL (n+2):=de (n+1);exact (Fd.ite (d:=fdL (n+1)) (by rw[f1];exact .op λy hy=>by rw[mSg.mp hy];exact xa.fd ∅) ((xb.fd ∅).mono ∅) ((xe.fd ∅).mono ∅)).mono f2
def zu {r:Nat} (hr:Γ.rs[r]?=some ds.length) (z:XEs Γ L W n c ds c') (kl:ds.length<=3) (ho:n % 2=1:=by omega):XE Γ L W (n+1) c (.tuple [.str "new",.int ((r:Nat):Int),.tuple ds]) c':=by
 have zc:=z.cc;have hl:=gD kl (wb n);have w1:=eY ho;obtain⟨es,rfl,el,x⟩:=z.facts;refine⟨⟨.new ((r:Nat):Int) es,U,λcd L' V' i1 i2=>.new (x.ws cd L' V' i1 i2),λa b w=>.mk (by show es.length<=8;omega) nofun (λy hy=>nomatch hy) (x.hx a ∅ w),λh9=>?_,λgo=>.new (Int.natCast_nonneg r) (by rw[Int.toNat_natCast,el];exact hr) ∅ (x.ar go)⟩,⟨zc.1,∅⟩⟩;rw[eL ho];exact .new (x.fd ∅)
def zA {r q:Nat} {k:Int} {a:PyData} (hr:Γ.rs[r]?=some q) (k0:0<=k) (k1:k<((q:Nat):Int)) (ha:XE Γ L W n c a c'):XE Γ L W (n+1) c (.tuple [.str "get",.int ((r:Nat):Int),.int k,a]) c':=by
 have c1:=ha.cc;have hw2:=eX n;obtain⟨a,rfl,xa⟩:=ha.ex;exact⟨⟨.get ((r:Nat):Int) k a,U,λcd L' V' i1 i2=>.get (xa.ws cd L' V' i1 i2),λp q w=>.mk (by show 1<=8;decide) nofun (λy hy=>nomatch hy) (λk hk=>by rw[mSg.mp hk];exact xa.hx p ∅ w),λh9=>(Fd.get (xa.fd ∅)).mono (de n),λgo=>.get (Int.natCast_nonneg r) (by rw[Int.toNat_natCast];exact hr) k0 k1 (xa.ar go)⟩,⟨c1.1,∅⟩⟩
def nD {a:PyData} (ha:XE Γ L W n c a l) (z:XEs Γ L W n l ds c') (kl:ds.length<=2) (ho:n % 2=1:=by omega):XE Γ L W (n+1) c (.tuple [.str "apply",a,.tuple ds]) c':=by
 have c1:=ha.cc;have zc:=z.cc;have hl:=gD kl (wb n);have w1:=eY ho;obtain⟨a,rfl,xa⟩:=ha.ex;obtain⟨es,rfl,el,x⟩:=z.facts;refine⟨⟨.app a es,U,λcd L' V' i1 i2=>.app (xa.ws cd L' V' i1 i2) (x.ws (cd.up ∅) L' V' i1 i2),λp q w=>.mk (by show (a::es).length<=8;rw[List.length_cons];omega) nofun (λy hy=>nomatch hy) (λk hk=>?_),λh9=>?_,λgo=>.app (xa.ar go) ∅ (x.ar go)⟩,⟨∅,∅⟩⟩
 · rcases List.mem_cons.mp (show k∈a::es from hk) with rfl | hk
   · exact xa.hx p ∅ w
   · exact x.hx ∅ ∅ w k hk
 · rw[eL ho];exact .app (gK (n:=1) ∅) ((xa.fd ∅).mono ∅) (x.fd ∅)
def xf {f:Nat} {h:Str} {k:Nat} (hf:Γ.hs[f]?=some (h,k)) (hk:h="deep"\/h="function"/\(Γ.own<f\/Γ.oh≠"function")) (z:XEs Γ L W n c ds c') (hl:ds.length=k) (kl:k<=2) (hf10:f<1000) (ho:n % 2=1:=by omega):XE Γ L W (n+1) c (.tuple [.str "call",.int ((f:Nat):Int),.tuple ds]) c':=by
 have zc:=z.cc;have hm:=gD (show ds.length<=2 by omega) (wb n);have w1:=eY ho;obtain⟨es,rfl,el,x⟩:=z.facts;refine⟨⟨.cal ((f:Nat):Int) es,U,λcd L' V' i1 i2=>.cal (x.ws cd L' V' i1 i2),λa b w=>.mk (by show es.length<=8;omega) nofun (λy hy=>nomatch hy) (x.hx a ∅ w),λh9=>?_,λgo=>?_⟩,⟨zc.1,∅⟩⟩
 · rw[eL ho];exact .cal (gK (n:=1) ∅) (x.fd ∅)
 · refine .cal (fn:=⟨h,k,.num 0⟩) (Int.natCast_nonneg f) (by rw[Int.toNat_natCast];unfold F0;rw[gEM,hf];rfl) (by show es.length=k;omega) ∅ ?_ (x.ar go)
   rcases hk with hk | ⟨hk,h2⟩
   · exact .inl hk
   · refine .inr ?_;rw[Int.toNat_natCast];have f4:=(gES.mp hf).1;have g4:=go.l;have f0:f≠0:=λe=>by
      rw[e] at hf;have:=go.o _ _ hf;rw[hk] at this;exact absurd this (by left)
     have e1:rfk Γ.hs f=3-f:=by unfold rfk;rw[if_pos (by rw[hf];exact hk)]
     rw[e1];unfold rk rfk;by_cases oh:Γ.oh="function"
     · rw[if_pos (show ((Γ.hs[Γ.own]?).map (·.1)).getD ("":Str)=("function":Str) from oh)];have:=h2.resolve_right λz=>z oh;omega
     · rw[if_neg (show ¬ ((Γ.hs[Γ.own]?).map (·.1)).getD ("":Str)=("function":Str) from oh)];omega
def zx {h:Str} {a b:PyData} (hh:h="let"\/h="each") (ha:XE Γ L W n (c+1) a l) (hb:XE Γ (L++[c]) W n l b c'):XE Γ L W (n+1) c (.tuple [.str h,.int c,a,b]) c':=by
 have hac:=ha.cc;have hbc:=hb.cc;have hw2:=eX n;obtain⟨a,rfl,xa⟩:=ha.ex;obtain⟨b,rfl,xb⟩:=hb.ex;have cdb:Cd L W c->Cd (L++[c]) W l:=λcd=>⟨λx hx=>by
     simp only[mAp,mSg] at hx
     rcases hx with (hx | hx) | hx
     · have:=cd.b x (List.mem_append_left _ hx);omega
     · have:=cd.z;omega
     · have:=cd.b x (List.mem_append_right _ hx);omega,λx hx z=>by
     simp only[mAp,mSg] at z
     rcases z with z | z
     · exact cd.d x hx z
     · have:=cd.b x (List.mem_append_right _ hx);omega,by have:=cd.z;omega⟩
 have nl:Cd L W c->∀ L':List Int,(∀ x,x∈L'↔x∈L)->c∉L':=λcd L' i z=>by have:=cd.b c (List.mem_append_left _ ((i c).mp z));omega
 have nv:Cd L W c->∀ V':List Int,(∀ x,x∈V'↔x∈W)->c∉V':=λcd V' i z=>by have:=cd.b c (List.mem_append_right _ ((i c).mp z));omega
 have wb':Cd L W c->∀ L' V':List Int,(∀ x,x∈L'↔x∈L)->(∀ x,x∈V'↔x∈W)->Ws (c::L') V' b:=λcd L' V' i1 i2=>xb.ws (cdb cd) _ _ (λx=>by simp only[List.mem_cons,mAp,nMN,or_false,i1];exact Or.comm) i2;have hk:0<=c->c+((wb (n+1):Nat):Int)<=300000->(∀ x∈W,Rg x)->∀ k∈[a,b],Hx k:=λp q w k hk=>by
  simp only[List.mem_cons,nMN,or_false] at hk
  rcases hk with rfl | rfl
  · exact xa.hx ∅ ∅ w
  · exact xb.hx ∅ ∅ w
 have rg:0<=c->c+((wb (n+1):Nat):Int)<=300000->∀ y∈[c],Rg y:=λp q y hy=>by rw[mSg.mp hy];exact⟨p,∅⟩
 rcases hh with rfl | rfl
 · exact⟨⟨.bnd false c a b,U,λcd L' V' i1 i2=>.lt (xa.ws (cd.up ∅) L' V' i1 i2) (nl cd L' i1) (nv cd V' i2) (wb' cd L' V' i1 i2),λp q w=>.mk (by show 2<=8;decide) nofun (rg p q) (hk p q w),λh9=>(Fd.bnd (xa.fd ∅) (xb.fd ∅)).mono (de n),λgo=>.bnd (xa.ar go) (xb.ar go)⟩,⟨∅,∅⟩⟩
 · exact⟨⟨.each c a b,U,λcd L' V' i1 i2=>.each (xa.ws (cd.up ∅) L' V' i1 i2) (nl cd L' i1) (nv cd V' i2) (wb' cd L' V' i1 i2),λp q w=>.mk (by show 2<=8;decide) nofun (rg p q) (hk p q w),λh9=>(Fd.each (xa.fd ∅) (xb.fd ∅)).mono (de n),λgo=>.each (xa.ar go) (xb.ar go)⟩,⟨∅,∅⟩⟩
def zm {a b:PyData} (ha:XE Γ L W n (c+1) a l) (hb:XE Γ L (W++[c]) n l b c'):XE Γ L W (n+1) c (.tuple [.str "var",.int c,a,b]) c':=by
 have hac:=ha.cc;have hbc:=hb.cc;have hw2:=eX n;obtain⟨a,rfl,xa⟩:=ha.ex;obtain⟨b,rfl,xb⟩:=hb.ex;have cdb:Cd L W c->Cd L (W++[c]) l:=λcd=>⟨λx hx=>by
     simp only[mAp,mSg] at hx
     rcases hx with hx | hx | hx
     · have:=cd.b x (List.mem_append_left _ hx);omega
     · have:=cd.b x (List.mem_append_right _ hx);omega
     · have:=cd.z;omega,λx hx z=>by
     simp only[mAp,mSg] at hx
     rcases hx with hx | hx
     · exact cd.d x hx z
     · have:=cd.b x (List.mem_append_left _ z);omega,by have:=cd.z;omega⟩
 refine⟨⟨.bnd true c a b,U,λcd L' V' i1 i2=>.vr (xa.ws (cd.up ∅) L' V' i1 i2) (λz=>?_) (λz=>?_) (xb.ws (cdb cd) _ _ i1 λx=>by simp only[List.mem_cons,mAp,nMN,or_false,i2];exact Or.comm),λp q w=>.mk (by show 2<=8;decide) nofun (λy hy=>by rw[mSg.mp hy];exact⟨p,∅⟩) (λk hk=>?_),λh9=>(Fd.bnd (xa.fd ∅) (xb.fd ∅)).mono (de n),λgo=>.bnd (xa.ar go) (xb.ar go)⟩,⟨∅,∅⟩⟩
 · have:=cd.b c (List.mem_append_left _ ((i1 c).mp z));omega
 · have:=cd.b c (List.mem_append_right _ ((i2 c).mp z));omega
 · have hk:k∈[a,b]:=hk;simp only[List.mem_cons,nMN,or_false] at hk
   rcases hk with rfl | rfl
   · exact xa.hx ∅ ∅ w
   · exact xb.hx ∅ ∅ λx hx=>by
      rcases mAp.mp hx with hx | hx
      · exact w x hx
      · rw[mSg.mp hx];exact⟨p,∅⟩
def rgI (c:Int) (k:Nat):List Int:=(List.range k).map λj=>c+((j:Nat):Int)
def qN (i:Int) (k:Nat):rgI i (k+1)=rgI i k++[i+((k:Nat):Int)]:=by unfold rgI;rw[List.range_succ,List.map_append];rfl
def fK (c:Int) (k:Nat):(rgI c k).length=k:=by unfold rgI;rw[lMp,List.length_range]
def iq {c i:Int} {k:Nat} (h:i∈rgI c k):c<=i/\i<c+((k:Nat):Int):=by
 unfold rgI at h;obtain⟨t,ht,rfl⟩:=List.mem_map.mp h;have:=List.mem_range.mp ht;exact⟨∅,∅⟩
def oW (c:Int) (k:Nat):(rgI c k).Nodup:=by
 unfold rgI;rw[List.nodup_iff_pairwise_ne];refine List.Pairwise.map _ (λa b h=>?_) (List.nodup_iff_pairwise_ne.mp List.nodup_range);omega
def zB {k:Nat} (hk:k<=3) (hb:XE Γ (L++rgI c k) [] n (c+((k:Nat):Int)) d c'):XE Γ L W (n+1) c (.tuple [.str "fun",.tuple ((rgI c k).map .int),d]) c':=by
 have hbc:=hb.cc;have hw2:=eX n;obtain⟨e,rfl,x⟩:=hb.ex;have rl:=fK c k;refine⟨⟨.fn (rgI c k) e,U,λcd L' V' i1 i2=>.fn (oW c k) (λy hy z=>?_) (x.ws ⟨λy hy=>?_,λy hy=>(nomatch hy),by have:=cd.z;omega⟩ _ _ (λy=>?_) λy=>Iff.rfl),λp q w=>.mk (by show 1<=8;decide) (λids a' z=>by cases z;omega) (λy hy=>?_) (λk' hk'=>by rw[mSg.mp hk'];exact x.hx ∅ ∅ λy hy=>nomatch hy),λh9=>?_,λgo=>.fn ∅ (Ar.mono (x.ar go) (Am Γ))⟩,⟨∅,∅⟩⟩
 · have:=iq hy;have:=cd.b y (List.mem_append_left _ ((i1 y).mp z));omega
 · simp only[mAp,nMN,or_false] at hy
   rcases hy with hy | hy
   · have:=cd.b y (List.mem_append_left _ hy);omega
   · have:=iq hy;have:=cd.z;omega
 · simp only[mAp,i1];exact Or.comm
 · have:=iq (show y∈rgI c k from hy);exact⟨∅,∅⟩
 · have f:=gK (show n<=9 by omega);have h23:fdL 9=23:=rfl;obtain⟨m,e⟩:=uY n;rw[e];exact .fn ((x.fd ∅).mono ∅)
end
end P10
namespace K19
open PySem L2 P10
abbrev Fps:=List (Str×Str×(Ex->Prop))
def fps:Fps:=[("number","finish_number",jr),("name","finish_name",o6),("let","finish_let",mH),("var","finish_let",mH),("set","finish_set",rH),("do","finish_do",vU),("if","finish_if",vT),("while","finish_while",lq),("each","finish_each",o7),("say","finish_say",rJ),("fault","finish_fault",lr),("op","finish_op",nZ),("new","finish_new",rK),("get","finish_get",rL),("fun","finish_fun",rM),("apply","finish_apply",lu),("call","finish_call",o8)]
def yx (e:Ex):∃ h fn ok ps,(h,fn,ok)∈fps/\ok e/\exD e=.tuple (.str h::ps):=by
 have at_:∀ (i:Nat) (x:Str×Str×(Ex->Prop)),fps[i]?=some x->x∈fps:=λi x h=>mGE h;cases e with
 | num i=>exact⟨_,_,_,_,at_ 0 _ U,⟨i,U⟩,U⟩
 | nam i=>exact⟨_,_,_,_,at_ 1 _ U,⟨i,U⟩,U⟩
 | bnd w x a b =>
  cases w with
  | false=>exact⟨_,_,_,_,at_ 2 _ U,⟨_,_,_,_,U⟩,U⟩
  | true=>exact⟨_,_,_,_,at_ 3 _ U,⟨_,_,_,_,U⟩,U⟩
 | each x a b=>exact⟨_,_,_,_,at_ 8 _ U,⟨_,_,_,U⟩,U⟩
 | set x a=>exact⟨_,_,_,_,at_ 4 _ U,⟨_,_,U⟩,U⟩
 | seq es=>exact⟨_,_,_,_,at_ 5 _ U,⟨_,U⟩,U⟩
 | ite a b d=>exact⟨_,_,_,_,at_ 6 _ U,⟨_,_,_,U⟩,U⟩
 | whl a b=>exact⟨_,_,_,_,at_ 7 _ U,⟨_,_,U⟩,U⟩
 | say a=>exact⟨_,_,_,_,at_ 9 _ U,⟨_,U⟩,U⟩
 | flt w=>exact⟨_,_,_,_,at_ 10 _ U,⟨_,U⟩,U⟩
 | op w es=>exact⟨_,_,_,_,at_ 11 _ U,⟨_,_,U⟩,U⟩
 | new r es=>exact⟨_,_,_,_,at_ 12 _ U,⟨_,_,U⟩,U⟩
 | get r i a=>exact⟨_,_,_,_,at_ 13 _ U,⟨_,_,_,U⟩,U⟩
 | fn ids a=>exact⟨_,_,_,_,at_ 14 _ U,⟨_,_,U⟩,U⟩
 | app a es=>exact⟨_,_,_,_,at_ 15 _ U,⟨_,_,U⟩,U⟩
 | cal f es=>exact⟨_,_,_,_,at_ 16 _ U,⟨_,_,U⟩,U⟩
inductive Hv:Vl->Prop
  | int (i:Int):Hv (.int i)
  | tup (is:List Int):Hv (.tup is)
  | made {r:Int} {xs:List Vl} (h:∀ x∈xs,Hv x):Hv (.made r xs)
  | fn {ids:List Int} {e:Ex} {n:Nm} (h:Hx e):Hv (.fn ids e n)
structure HS (S:MS):Prop where
  w:∀ t∈S.W,Hx t.e
  t:∀ v∈S.T,Hv v
  b:∀ p∈S.B,Hv p.2
def Hx.kid {e k:Ex} (h:Hx e) (m:k∈rT e):Hx k:=by
 cases h with | mk _ _ _ hk _=>exact hk k m
def Hx.fst {e:Ex} (h:Hx e):∀ k∈eK e,Hx k:=by
 intro k m;refine h.kid ?_;cases e <;> first | exact m | (cases m;done) | (rw[mSg.mp m];exact mCS)
def yi {α:Type} {p:α->Prop} {l:List α} {x:α} (h:∀ y∈l,p y) (hx:p x):∀ y∈l++[x],p y:=λy m=>by
 rcases mAp.mp m with m | m
 · exact h y m
 · rw[mSg.mp m];exact hx
def ph {α:Type} {p:α->Prop} {l r:List α} (h:∀ y∈l,p y) (hx:∀ y∈r,p y):∀ y∈l++r,p y:=λy m=>by
 rcases mAp.mp m with m | m
 · exact h y m
 · exact hx y m
def HS.tel {S:MS} {v:Vl} (h:HS S) (hv:Hv v):HS (tel S v):=⟨h.w,yi h.t hv,h.b⟩
def HS.bgn {S:MS} {e:Ex} {n:Nm} (h:HS S) (he:Hx e):HS (bgn S e n):=⟨yi h.w he,h.t,h.b⟩
def HS.flt {S:MS} {w:En} (h:HS S):HS (flt S w):=⟨h.w,h.t,h.b⟩
def HS.box {S:MS} {C:List (Bool×Vl)} (h:HS S) (hc:∀ p∈C,Hv p.2):HS {S with B:=S.B++C}:=⟨h.w,h.t,ph h.b hc⟩
def xL {o:OR}:Hv (orV o):=by
 cases o with
 | int i=>exact .int i
 | row is=>exact .tup is
 | flt w=>exact .int 0
def Fin.hs {F:List Fun} {e:Ex} {n:Nm} {xs:List Vl} {S S':MS} (h:Fin F e n xs S S') (hF:∀ f∈F,Hx f.bd) (he:Hx e) (hx:∀ x∈xs,Hv x) (hs:HS S):HS S':=by
 have b1:∀ ys:List Vl,(∀ y∈ys,Hv y)->∀ p∈ys.map (λy=>((false,y):Bool×Vl)),Hv p.2:=λys hy p m=>by
  obtain⟨y,my,rfl⟩:=List.mem_map.mp m;exact hy y my
 cases h with
 | num=>exact hs.tel (.int _)
 | nam _ hb=>exact hs.tel (hs.b _ (mGE hb))
 | bnd=>exact (hs.box (C:=[_]) λp m=>by rw[mSg.mp m];exact hx _ mCS).bgn (he.kid (.tail _ (.head _)))
 | set _ hb =>
  refine HS.tel (S:={S with B:=_}) ⟨hs.w,hs.t,λp m=>?_⟩ (hx _ mCS)
  rcases List.mem_or_eq_of_mem_set m with m | rfl
  · exact hs.b p m
  · exact hx _ mCS
 | seq=>exact hs.tel (hx _ (List.mem_append_right _ mCS))
 | ite =>
  refine hs.bgn ?_;split
  · exact he.kid (.tail _ (.tail _ (.head _)))
  · exact he.kid (.tail _ (.head _))
 | wh0=>exact hs.tel (.int 0)
 | wh1=>exact HS.bgn (S:={S with k:=_,W:=_}) ⟨yi hs.w he,hs.t,hs.b⟩ (he.kid (.tail _ (.head _)))
 | whd=>exact hs.flt
 | each =>
  refine⟨ph hs.w λt m=>?_,hs.t,ph hs.b λp m=>?_⟩
  · cases m with
    | head=>exact he
    | tail _ m =>
     rw[jz] at m;obtain⟨r,_,rfl⟩:=List.mem_map.mp m;exact he.kid (.tail _ (.head _))
  · obtain⟨y,_,rfl⟩:=List.mem_map.mp m;exact .int y
 | say=>exact HS.tel (S:={S with D:=_}) ⟨hs.w,hs.t,hs.b⟩ (hx _ mCS)
 | flt=>exact hs.flt
 | op=>exact hs.tel xL
 | opF=>exact hs.flt
 | new=>exact hs.tel (.made hx)
 | get _ h =>
  have z:=hx _ mCS;cases z with | made z=>exact hs.tel (z _ (mGE h))
 | getF=>exact hs.flt
 | fn=>exact hs.tel (.fn (he.kid (.head _)))
 | app =>
  have z:=hx _ mCS;cases z with
  | fn z=>exact HS.bgn (S:={S with k:=_,B:=_}) ⟨hs.w,hs.t,ph hs.b (b1 _ λy m=>hx y (mCM _ m))⟩ z
 | appD=>exact hs.flt
 | appF=>exact hs.flt
 | cal _ hf=>exact HS.bgn (S:={S with k:=_,B:=_}) ⟨hs.w,hs.t,ph hs.b (b1 _ hx)⟩ (hF _ (mGE hf))
 | calD=>exact hs.flt
def Hx.fl {w:Str} (h:Hx (.flt w)):(PyData.str w).canLay0=true:=by
 cases h with | mk _ _ _ _ hf=>exact hf w U
def HE (S:MS):Prop:=∀ w,S.en=some (.flt w)->(PyData.str w).canLay0=true
def HE.non {S:MS} (h:S.en=none):HE S:=λw z=>by rw[h] at z;cases z
def uF {s f:Str} {ws:List Int} {rs:List (List Int)} (h:opR s ws rs=.flt f):(PyData.str f).canLay0=true:=by
 unfold opR at h;split at h
 · cases h
 · split at h
   · cases h
   · split at h
     · cases h
     · split at h
       · split at h
         · cases h
         · cases h;left
       · split at h
         · cases h;left
         · cases h
def Fin.he {F:List Fun} {e:Ex} {n:Nm} {xs:List Vl} {S S':MS} (h:Fin F e n xs S S') (he:Hx e) (en:S.en=none):HE S':=by
 cases h with
 | num=>exact .non en
 | nam _ _=>exact .non en
 | bnd=>exact .non en
 | set _ _=>exact .non en
 | seq=>exact .non en
 | ite=>exact .non en
 | wh0=>exact .non en
 | wh1=>exact .non en
 | whd=>exact λw z=>by cases z
 | each=>exact .non en
 | say=>exact .non en
 | flt=>exact λw z=>by cases z;exact he.fl
 | op=>exact .non en
 | opF _ _ ho=>exact λw z=>by cases z;exact uF ho
 | new=>exact .non en
 | get _ _=>exact .non en
 | getF=>exact λw z=>by cases z;left
 | fn=>exact .non en
 | app=>exact .non en
 | appD=>exact λw z=>by cases z
 | appF=>exact λw z=>by cases z;left
 | cal _ _=>exact .non en
 | calD=>exact λw z=>by cases z
def Stp.he {F:List Fun} {S S':MS} (h:Stp F S S') (hs:HS S):HE S':=by
 cases h with
 | bg hn hW=>exact .non hn
 | @fin _ W e n T xs hn hW hT h =>
  have hw:=hs.w;rw[hW] at hw;exact h.he (hw _ (List.mem_append_right _ mCS)) hn
 | again hn hW hT=>exact .non hn
 | over hn hW hT=>exact .non hn
def Stp.hs {F:List Fun} {S S':MS} (h:Stp F S S') (hF:∀ f∈F,Hx f.bd) (hs:HS S):HS S':=by
 cases h with
 | @bg W e n hn hW =>
  have hw:=hs.w;rw[hW] at hw;have he:Hx e:=hw _ (List.mem_append_right _ mCS);refine⟨ph (λt m=>hw t (List.mem_append_left _ m)) λt m=>?_,hs.t,hs.b⟩;cases m with
  | head=>exact he
  | tail _ m =>
   obtain⟨k,mk,rfl⟩:=List.mem_map.mp m;exact he.fst k (List.mem_reverse.mp mk)
 | @fin _ W e n T xs hn hW hT h =>
  have hw:=hs.w;have ht:=hs.t;rw[hW] at hw;rw[hT] at ht;exact h.hs hF (hw _ (List.mem_append_right _ mCS)) (λx m=>ht x (List.mem_append_right _ m)) ⟨λt m=>hw t (List.mem_append_left _ m),λt m=>ht t (List.mem_append_left _ m),hs.b⟩
 | @again W e n T x hn hW hT =>
  have hw:=hs.w;have ht:=hs.t;rw[hW] at hw;rw[hT] at ht;exact HS.bgn (S:={S with W:=W,T:=T}) ⟨λt m=>hw t (List.mem_append_left _ m),λt m=>ht t (List.mem_append_left _ m),hs.b⟩ (hw _ (List.mem_append_right _ mCS))
 | @over W e n T xs hn hW hT =>
  have hw:=hs.w;have ht:=hs.t;rw[hW] at hw;rw[hT] at ht;exact HS.tel (S:={S with W:=W,T:=T}) ⟨λt m=>hw t (List.mem_append_left _ m),λt m=>ht t (List.mem_append_left _ m),hs.b⟩ (.int 0)
def i8 {α β:Type} {R:α->β->Prop}:∀ {ys:List β} {xs:List α} {y:β},Paired R xs (ys++[y])->∃ xs' x,xs=xs'++[x]/\Paired R xs' ys/\R x y:=by
 intro ys
 induction ys with
 | nil =>
  intro xs y h;cases h with
  | cons p q=>cases q;exact⟨[],_,U,.nil,p⟩
 | cons z r ih =>
  intro xs y h;cases h with
  | cons p q =>
   obtain⟨xs',x,rfl,a,b⟩:=ih q;exact⟨_::xs',x,U,.cons p a,b⟩
structure Fsh (P:Program) (w:World) (K:Fg) (mg:SOV):Prop where
  ex:∃ a kvs,mg "FINISHERS"=some (.ref a)/\ma P w K a kvs/\∀ p∈fps,∃ f,cz kvs (.inr p.1)=some (.ref f)/\mg p.2.1=some (.ref f)
section
variable {P:Program} {w:World} {K:Fg} {mg:SOV} {base:Heap} {c:Ks}
abbrev sDn:Stmt:=top 40
abbrev nDn:List Str:=["machine","task","e","names","count","taken","things","thing","finisher"]
inductive wM (K:Fg) (c:Ks) (vs:List V) (H:Hp) (Q:VK):Prop
  | mk (F:List Fun) (A:Ad) (S S':MS) (h0:vs=[.ref A.m]) (h1:MV K c A H S) (h2:Stp F S S') (h3:HS S) (h4:Bd S) (h5:TD K H A.vf (.tuple (F.map fnD))) (h6:∀ f∈F,f.ct<=9) (q:∀ A' H',Fr A A' H H'->MV K c A' H' S'->Q .non H'):wM K c vs H Q
def A3 (K:Fg) (c:Ks):Sp:=λvs H Q _=>wM K c vs H Q
def Bf (D:Def K mg "do_next" sDn) (k:KC K mg c) (T:Blt mg) (Fs:Fsh P w K mg) (BQ:∀ p∈fps,Fn P w K mg base p.2.1 5 bq (cW K c p.2.2)) (M_begin:MFn P w K mg base c.cc "begin" 2 ["self","e","names"] (jH K c)) (M_wait:MFn P w K mg base c.cc "wait" 1 ["self","task","e","names","count"] (qz K c)) (M_tell:MFn P w K mg base c.cc "tell" 1 ["self","value"] (ij K c)) (M_take:MFn P w K mg base c.cc "take" 1 ["self","count"] (zP K c)) (jd:Fn P w K mg base "first_things" 2 ["e"] (zY K)):Fn P w K mg base "do_next" 6 ["machine"] (A3 K c):=by
 have nd:(nDn:List Str).Nodup:=by left
 exists D.fn (N:=nDn) (~~~nd),fD,_
 · obtain⟨F,A,S,S',rfl,_⟩:=h;rfl
 · obtain⟨F,A,S,S',rfl,m,st,hs,bd,hvf,hc9,q⟩:=h;have bd0:=bd;obtain⟨bw,bt,bD⟩:=bd0;have hz0:(40000:Nat)<sizeLine:=∅
   obtain⟨aF,kvF,gF,dF,hF⟩:=Fs.ex;refine⟨_,(pD (f9 (z9 (bS ↥0 U)) (dQ U (aU (aC (i:=1) nd U (.inl U)) (aU (aC (i:=2) nd U (.inl U)) (aU (aC (i:=3) nd U (.inl U)) (aU (aC (i:=4) nd U (.inl U)) d9))))))
 (pD (pL (i:=5) nd U (.inl U) (bo ↥0 k.oc M_take ⇑hr %[4|0]))
 (pG (az (pM aB ↥1 pC (pN _)) (pD (pL (i:=6) nd U (.inl U) (aj jd ⇑hr U %[2|0]))
 (pD (aH (bo ↥0 k.oc M_wait ⇑hr %[pC,2,3,cq T.len %[6|0]|0]))
 (pG (cR PassesOwn.never U (hU (nW ↥6 (dL (jp gU pF)))) (aC (i:=7) nd U (.inl U))
 (pG (aH (bo ↥0 k.oc M_begin ⇑hr %[7,3|0]))))))) (pG (az (pM aB ↥1 pC (pN _)) (pD (pL (i:=8) nd U (.inl U) (nX (ee (v:=.ref aF) U gF U) ↥↥2 Ue))
 (pG (aH (xG ↥8 %[0,2,3,5|0])))) (pG (az (pM aB ↥1 pC (pN _)) (pG (aH (bo ↥0 k.oc M_begin ⇑hr %[2,3|0]))) (pG (aH (bo ↥0 k.oc M_tell ⇑hr %[pF|0]))))))))))),?_⟩
   dsimp only[be];obtain⟨vd,h1,e1⟩:=m.m;obtain⟨ws,hw,ew⟩:=m.w;have di:∀ {W:List Tsk} {t:Tsk} {T1 T2:List Vl},S.W=W++[t]->S.T=T1++T2->t.c=T2.length->∃ ws' y,ws=ws'++[y]/\Paired (ku K A H) ws' W/\ku K A H y t:=λ{W t T1 T2} hW _ _=>by
    rw[hW] at ew;exact i8 ew
   refine aE λlB g1_=>?_;have zw:=m.zw;cases st with
   | @bg W e n hn0 hW =>
    obtain⟨ws',y,rfl,pw,ty⟩:=di hW (T1:=S.T) (T2:=[]) (by simp) rfl;have hxe:Hx e:=hs.w ⟨"begin",e,n,0⟩ (by rw[hW];exact List.mem_append_right _ mCS);obtain⟨h,sl,ps,ndd,eks⟩:=Bo hxe;have wl:=congrArg List.length hW;rw[lAp] at wl;have hz:W.length<=20000:=∅
    cases ty with
    | @mk a ve vn _ hsq he hn =>
     refine⟨_,U,A.m,c.cc,A.dx,_,_,U,h1,k.oc,k.n8,U,.inl ⟨U,_,SqL.of hw⟩,A.wa,_,.ref a,U,U,hw,by simp,?_⟩;rw[List.dropLast_concat];have f1:=m.upd_fr (o:=.lst ws') (.inr (.inl U));have m1:=m.putW pw (by rw[hW,lAp] at zw;omega);refine⟨a,_,U,hsq.tk f1.tk,U,_,_,U,_,_,U,_,_,U,_,_,U,U,?_⟩;generalize upd H A.wa (.lst ws')=H1 at f1 m1 ⊢;refine g1_ _ _ ?_;obtain⟨vd1,h11,e11⟩:=m1.m;refine⟨_,U,A.m,A.dx,_,U,h11,U,_,U,A,_,S.T,[],U,m1,(by simp),λl us H2 f2 nl hl pu m2=>?_⟩;have F2:=f1.trans f2;refine⟨_,U,U,_,U,aL ?_⟩;refine⟨_,U,ve,exD e,h,sl,ps,U,he.tk F2.tk,ndd,λv' H3 s3 tv=>?_⟩;have m3:=m2.same s3;obtain⟨vd3,h13,e13⟩:=m3.m;have F3:=F2.trans (.of s3);obtain⟨ta,xs,rfl,hta,hxs⟩:=tv.tup_of;refine⟨_,U,A.m,A.dx,_,U,h13,U,_,U,_,U,_,U,ta,_,U,.inr hta,?_⟩;have kl:=hxs.length;rw[kl];have fl:=uR hxe;rw[eks,cS] at kl;rw[eks,cS];rw[eks] at hxs tv;generalize hks:eK e=ks at kl fl hxs q tv ⊢;refine⟨A,_,⟨"finish",e,n,ks.length⟩,ve,vn,U,m3,he.tk F3.tk,hn.fr F3,(by show W.length<30000;omega),λH4 f4 m4=>?_⟩;have F4:=F3.trans f4;have hta4:=hta.tk f4.tk;have hxs4:=hxs.tk f4.tk;refine⟨_,U,_,U,_,U,ta,_,U,U,hta4,λp hp=>?_⟩;have s5:=smu (o:=HO.tup xs.reverse) hp;have m5:=m4.same s5;have F5:=F4.trans (.of s5);have hxs5:=hxs4.same s5;have hp5:SqT K (upd H4 p (.tup xs.reverse)) p xs.reverse:=SqT.of pE;refine⟨p,U,⟨_,hp5⟩,?_⟩;generalize upd H4 p (.tup xs.reverse)=H5 at s5 m5 F5 hp5 hxs5 ⊢;show aO _ _ _ _ _ _;refine aO.byN (cX (xs:=xs.reverse)) (λj σ Hj=>Fr A A H5 Hj/\MV K c A Hj {S with W:=W++[⟨"finish",e,n,ks.length⟩]++(ks.reverse.take j).map λe=>⟨"begin",e,n,0⟩}/\∃ x7 x8,σ=[some (.ref A.m),some (.str "begin"),some ve,some vn,some (.int ((0:Nat):Int)),some (.ref l),some (.ref ta),x7,x8]) ⟨Fr.refl,by rw[List.take_zero,List.map_nil,List.append_nil];exact m5,_,_,U⟩ (λ_ _ _ _ z=>hp5.tk z.1.tk) ?_ ?_
     · rintro j u σ Hj N_ B_ hN_ hB_ hu' ⟨fj,mj,x7,x8,rfl⟩;have hj:j<xs.reverse.length:=(gES.mp hu').1;have hj2:j<ks.reverse.length:=by rw[List.length_reverse] at hj ⊢;omega
       have hyj:ks.reverse[j]?=some ks.reverse[j]:=gEE hj2;have tu:TD K H5 u (exD ks.reverse[j]):=by
        rw[List.getElem?_reverse (by rw[List.length_reverse] at hj;exact hj)] at hu';obtain⟨d,hd,td⟩:=hxs5.get hu';have:ks.reverse[j]?=ks[ks.length-1-j]?:=List.getElem?_reverse (by rw[List.length_reverse] at hj2;exact hj2);rw[gL,gEM,kl,<- this,hyj] at hd;cases hd;exact td
       generalize ks.reverse[j]=y at hyj tu ⊢;obtain⟨vd6,h6,_⟩:=mj.m;refine⟨_,U,A.m,A.dx,_,U,h6,U,_,U,_,U,A,_,y,n,u,vn,U,mj,tu.tk fj.tk,(hn.fr F5).fr fj,?_,λH7 f7 m7=>?_⟩
       · rw[List.length_reverse] at hj2;simp only[lAp,lMp,lTk,List.length_cons,List.length_nil,List.length_reverse];omega
       · refine hN_ _ _ ⟨fj.trans f7,?_,_,_,U⟩;rw[tAO,hyj,List.map_append];have:∀ (X Y Z:List Tsk),X++(Y++Z)=X++Y++Z:=λX Y Z=>(List.append_assoc X Y Z).symm;rw[this];exact m7
     · rintro σ Hj ⟨fj,mj,x7,x8,rfl⟩;have et:ks.reverse.take xs.reverse.length=ks.reverse:=List.take_of_length_le (by rw[List.length_reverse,List.length_reverse];omega);rw[et,List.append_assoc] at mj;exact q A Hj (F5.trans fj) mj
   | @fin _ W e n T1 T2 hn0 hW hT hok =>
    obtain⟨h,fn,ok,ps,hm,hoke,hee⟩:=yx e;obtain⟨ws',y,rfl,pw,ty⟩:=di hW hT rfl;cases ty with
    | @mk a ve vn _ hsq he hn =>
     refine⟨_,U,A.m,c.cc,A.dx,_,_,U,h1,k.oc,k.n8,U,.inl ⟨U,_,SqL.of hw⟩,A.wa,_,.ref a,U,U,hw,by simp,?_⟩;rw[List.dropLast_concat];have f1:=m.upd_fr (o:=.lst ws') (.inr (.inl U));have m1:=m.putW pw (by rw[hW,lAp] at zw;omega);refine⟨a,_,U,hsq.tk f1.tk,U,_,_,U,_,_,U,_,_,U,_,_,U,U,?_⟩;generalize upd H A.wa (.lst ws')=H1 at f1 m1 ⊢;refine g1_ _ _ ?_;obtain⟨vd1,h11,e11⟩:=m1.m;refine⟨_,U,A.m,A.dx,_,U,h11,U,_,U,A,_,T1,T2,U,m1,hT,λl us H2 f2 nl hl pu m2=>?_⟩;have F2:=f1.trans f2;refine⟨_,U,U,_,U,ai ?_⟩;refine⟨_,U,U,_,U,aL ?_⟩;obtain⟨f,vf,mf⟩:=hF _ hm;have he2:=he.tk F2.tk;obtain⟨ad,ys,rfl,ha,hy⟩:=(show TD K H2 ve (.tuple (.str h::ps)) by rw[<- hee];exact he2).tup_of;obtain⟨y1,yr,rfl,t1,tr⟩:=cA hy;cases t1;refine⟨_,U,ad,_,_,_,U,U,ha,pH (j:=0) U,aF,kvF,.inr h,.ref f,U,dF,U,vf,?_⟩;obtain⟨fd,G,kp,bn⟩:=(BQ _ hm).at mf;refine⟨f,U,fd,5,bq,_,G,kp,bn,hr.mono ∅,_,U,_,U,_,U,_,U,?_⟩;exact⟨F,A,_,S',e,n,T2,us,l,_,vn,U,m2,he2,hn.fr F2,hl,nl,pu,hoke,hok,hvf.tk F2.tk,hc9,⟨by show W.length<=20000;have wl:=congrArg List.length hW;rw[lAp] at wl;omega,by show T1.length<=20000;have tl:=congrArg List.length hT;rw[lAp] at tl;omega,bD⟩,λA' H' f' m'=>q A' H' (F2.trans f') m'⟩
   | @again W e n T1 x0 hn0 hW hT =>
    have hz:T1.length<30000:=by have tl:=congrArg List.length hT;rw[lAp] at tl;omega
    obtain⟨ws',y,rfl,pw,ty⟩:=di hW hT rfl;cases ty with
    | @mk a ve vn _ hsq he hn =>
     refine⟨_,U,A.m,c.cc,A.dx,_,_,U,h1,k.oc,k.n8,U,.inl ⟨U,_,SqL.of hw⟩,A.wa,_,.ref a,U,U,hw,by simp,?_⟩;rw[List.dropLast_concat];have f1:=m.upd_fr (o:=.lst ws') (.inr (.inl U));have m1:=m.putW pw (by rw[hW,lAp] at zw;omega);refine⟨a,_,U,hsq.tk f1.tk,U,_,_,U,_,_,U,_,_,U,_,_,U,U,?_⟩;generalize upd H A.wa (.lst ws')=H1 at f1 m1 ⊢;refine g1_ _ _ ?_;obtain⟨vd1,h11,e11⟩:=m1.m;refine⟨_,U,A.m,A.dx,_,U,h11,U,_,U,A,_,T1,[x0],U,m1,hT,λl us H2 f2 nl hl pu m2=>?_⟩;have F2:=f1.trans f2;obtain⟨vd2,h12,_⟩:=m2.m;refine⟨_,U,U,_,U,ai ⟨_,U,U,_,U,ai ⟨_,U,U,_,U,aL ?_⟩⟩⟩;exact⟨_,U,A.m,A.dx,_,U,h12,U,_,U,_,U,A,_,e,n,ve,vn,U,m2,he.tk F2.tk,hn.fr F2,(by show W.length<30000;have wl:=congrArg List.length hW;rw[lAp] at wl;omega),λH' f' m'=>q A H' (F2.trans f') m'⟩
   | @over W e n T1 T2 hn0 hW hT =>
    have hz:T1.length<30000:=by have tl:=congrArg List.length hT;rw[lAp] at tl;omega
    obtain⟨ws',y,rfl,pw,ty⟩:=di hW hT rfl;cases ty with
    | @mk a ve vn _ hsq he hn =>
     refine⟨_,U,A.m,c.cc,A.dx,_,_,U,h1,k.oc,k.n8,U,.inl ⟨U,_,SqL.of hw⟩,A.wa,_,.ref a,U,U,hw,by simp,?_⟩;rw[List.dropLast_concat];have f1:=m.upd_fr (o:=.lst ws') (.inr (.inl U));have m1:=m.putW pw (by rw[hW,lAp] at zw;omega);refine⟨a,_,U,hsq.tk f1.tk,U,_,_,U,_,_,U,_,_,U,_,_,U,U,?_⟩;generalize upd H A.wa (.lst ws')=H1 at f1 m1 ⊢;refine g1_ _ _ ?_;obtain⟨vd1,h11,e11⟩:=m1.m;refine⟨_,U,A.m,A.dx,_,U,h11,U,_,U,A,_,T1,T2,U,m1,hT,λl us H2 f2 nl hl pu m2=>?_⟩;have F2:=f1.trans f2;obtain⟨vd2,h12,_⟩:=m2.m;refine⟨_,U,U,_,U,ai ⟨_,U,U,_,U,ai ⟨_,U,U,_,U,ai ?_⟩⟩⟩;exact⟨_,U,A.m,A.dx,_,U,h12,U,A,_,_,.int 0,U,m2,.int 0,hz,λH' f' m'=>q A H' (F2.trans f') m'⟩
end
def opD (p:Str×Nat):PyData:=.tuple [.str p.1,.int ((p.2:Nat):Int)]
def coreD (F:List Fun) (R:List Nat) (O:List (Str×Nat)):PyData:=.tuple [.tuple (F.map fnD),.tuple (R.map λn=>.int ((n:Nat):Int)),.tuple (O.map opD)]
def S0 (fn:Fun) (b:Int) (xs:List Vl):MS:=⟨[⟨"begin",fn.bd,nms [] 0 ((List.range fn.ct).map Int.ofNat),0⟩],[],[],none,b,xs.map λy=>(false,y)⟩
inductive Run (F:List Fun):Nat->MS->MS->Prop
  | done {S:MS} (h:S.en≠none\/S.W=[]):Run F 0 S S
  | step {n:Nat} {S S1 S':MS} (b:Bd S) (h:S.en=none) (st:Stp F S S1) (r:Run F n S1 S'):Run F (n+1) S S'
def Stp.no {F:List Fun} {S S':MS} (h:Stp F S S'):S.en=none:=by
 cases h with
 | bg h _=>exact h
 | fin h _ _ _=>exact h
 | again h _ _=>exact h
 | over h _ _=>exact h
def Stp.ne {F:List Fun} {S S':MS} (h:Stp F S S'):S.W≠[]:=λz=>by
 cases h with
 | bg _ hW=>rw[z] at hW;simp at hW
 | fin _ hW _ _=>rw[z] at hW;simp at hW
 | again _ hW _=>rw[z] at hW;simp at hW
 | over _ hW _=>rw[z] at hW;simp at hW
def Rn.run {F:List Fun} {S S':MS} (h:Rn F S S') (e:S'.en≠none\/S'.W=[]):∃ n,Run F n S S':=by
 induction h with
 | refl=>exact⟨0,.done e⟩
 | step b h _ ih =>
  obtain⟨n,r⟩:=ih e;exact⟨n+1,.step b h.no h r⟩
def Run.he {F:List Fun} (hF:∀ f∈F,Hx f.bd):∀ {n:Nat} {S S':MS},Run F n S S'->HS S->HE S->HE S':=by
 intro n
 induction n with
 | zero=>intro S S' r hs he;cases r;exact he
 | succ n ih =>
  intro S S' r hs he;cases r with
  | step _ _ st r=>exact ih r (st.hs hF hs) (st.he hs)
def lkD:Lk->PyData
  | .int i=>.int i
  | .tup is=>.tuple (is.map .int)
  | .thing=>.str "thing"
def enD:En->PyData
  | .dry=>.tuple [.str "dry"]
  | .long=>.tuple [.str "long"]
  | .flt w=>.tuple [.str "fault",.str w]
inductive End:MS->PyData->Prop
  | en {S:MS} {w:En} (h:S.en=some w):End S (enD w)
  | back {S:MS} {x:Vl} {r:List Vl} (h:S.en=none) (hT:S.T=x::r):End S (.tuple [.str "back",lkD (lk x)])
def fS {K:Fg} {H:Hp} (is:List Int):gT K H (is.map V.int) (is.map .int):=by
 induction is with
 | nil=>exact .nil
 | cons i r ih=>exact .cons (.int i) ih
def LkV.dat {K:Fg} {H:Hp} {v:V} {x:Lk} (h:LkV K H v x):cU K H v (lkD x):=by
 cases h with
 | int i=>exact .int i
 | tup h=>exact .tup h (fS _)
 | thing=>exact .str _
def EnV.dat {K:Fg} {H:Hp} {v:V} {w:En} (h:EnV K H v (some w)):∃ a,v=.ref a/\cU K H v (enD w):=by
 cases h with
 | flt h=>exact⟨_,U,.tup h (.cons (.str _) (.cons (.str _) .nil))⟩
 | dry h=>exact⟨_,U,.tup h (.cons (.str _) .nil)⟩
inductive vC (K:Fg) (H0 H:Hp) (r:Addr) (ds:List Lk) (d:PyData):Prop
  | mk (da pe:Addr) (us:List V) (h1:SqT K H r [.ref da,.ref pe]) (h2:H da=some (.lst us)) (h3:Paired (LkV K H) us ds) (h4:cU K H (.ref pe) d) (h5:H0 da=none) (h6:ds.length<=30000):vC K H0 H r ds d
inductive ArV (K:Fg) (H:Hp):V->Vl->Prop
  | int (i:Int):ArV K H (.int i) (.int i)
  | tup {a:Addr} {is:List Int} (h:SqT K H a (is.map V.int)):ArV K H (.ref a) (.tup is)
def ArV.vl {K:Fg} {c:Ks} {A:Ad} {H H':Hp} {v:V} {x:Vl} (h:ArV K H v x) (t:Tk H H'):VlV K c A H' v x:=by
 cases h with
 | int i=>exact .int i
 | tup h=>exact .tup (h.tk t)
section
variable {P:Program} {w:World} {K:Fg} {mg:SOV} {base:Heap} {c:Ks}
inductive wO (K:Fg) (c:Ks) (vs:List V) (H:Hp) (Q:VK):Prop
  | mk (x dx:Addr) (vf:V) (t:Int) (h0:vs=[.ref x,vf,.int t]) (h1:H x=some (.ins c.cc dx [])) (q:∀ A H',A.m=x->(∀ a u,a≠x->H a=some u->H' a=some u)->MV K c A H' ⟨[],[],[],none,t,[]⟩->A.vf=vf->A.bs=[]->(∀ a,A.own a->a=x\/H a=none)->Q .non H'):wO K c vs H Q
def A4 (K:Fg) (c:Ks):Sp:=λvs H Q _=>wO K c vs H Q
def Bh (D:lU K c.cc "Machine.__init__" (sM 0)) (k:KC K mg c):IFn P w K mg base c.cc 1 ["self","functions","ticks"] (A4 K c):=by
 exists D.fn (N:=["self","functions","ticks"]) fsM,jT,_,_,_
 · obtain⟨x,dx,vf,t,rfl,_⟩:=h;rfl
 · obtain⟨x,dx,vf,t,rfl,hx,q⟩:=h;refine⟨_,(pD (cY ↥0 ↥1 U) (pD (cY ↥0 ↥2 U) (pD (cY ↥0 (bE pB) U) (pD (cY ↥0 (bE pB) U) (pD (cY ↥0 (bE pB) U) (pG (cY ↥0 bR U))))))),?_⟩;refine⟨_,U,_,U,x,c.cc,dx,[],U,hx,k.oc,k.n6,∅,?_⟩;refine⟨_,U,_,U,x,c.cc,dx,_,U,pE,k.oc,k.n7,by show 1<1000;decide,?_⟩;have kx:∀ a u,a≠x->H a=some u->(upd (upd H x (.ins c.cc dx (cQ "functions" vf []))) x (.ins c.cc dx (cQ "ticks" (.int t) (cQ "functions" vf [])))) a=some u:=λa u n e=>by rw[af n,af n];exact e
   have hx1:(upd (upd H x (.ins c.cc dx (cQ "functions" vf []))) x (.ins c.cc dx (cQ "ticks" (.int t) (cQ "functions" vf [])))) x=some (.ins c.cc dx [("functions",vf),("ticks",.int t)]):=pE;have kb:∀ a,(upd (upd H x (.ins c.cc dx (cQ "functions" vf []))) x (.ins c.cc dx (cQ "ticks" (.int t) (cQ "functions" vf [])))) a=none->H a=none:=λa e=>by
    by_cases n:a=x
    · rw[n,pE] at e;cases e
    · rw[af n,af n] at e;exact e
   generalize upd (upd H x (.ins c.cc dx (cQ "functions" vf []))) x (.ins c.cc dx (cQ "ticks" (.int t) (cQ "functions" vf [])))=H1 at kx hx1 kb ⊢;refine⟨mh,λwa hwa=>?_⟩;have nwx:wa≠x:=λe=>by rw[e,hx1] at hwa;cases hwa
   refine⟨_,U,x,c.cc,dx,_,U,(by rw[af (Ne.symm nwx)];exact hx1),k.oc,k.n8,by show 2<1000;decide,?_⟩;refine⟨mh,λta hta=>?_⟩;have ntx:ta≠x:=λe=>by rw[e,pE] at hta;cases hta
   have ntw:ta≠wa:=λe=>by rw[e,af nwx,pE] at hta;cases hta
   have hta1:H1 ta=none:=by rw[af ntx,af ntw] at hta;exact hta
   refine⟨_,U,x,c.cc,dx,_,U,(by rw[af (Ne.symm ntx),pE]),k.oc,k.n9,by show 3<1000;decide,?_⟩;refine⟨mh,λda hda=>?_⟩;have ndx:da≠x:=λe=>by rw[e,pE] at hda;cases hda
   have ndt:da≠ta:=λe=>by rw[e,af ntx,pE] at hda;cases hda
   have ndw:da≠wa:=λe=>by rw[e,af nwx,af (Ne.symm ntw),af nwx,pE] at hda;cases hda
   have hda1:H1 da=none:=by rw[af ndx,af ndt,af ndx,af ndw] at hda;exact hda
   refine⟨_,U,x,c.cc,dx,_,U,(by rw[af (Ne.symm ndx),pE]),k.oc,k.n10,by show 4<1000;decide,?_⟩;refine⟨_,U,x,c.cc,dx,_,U,pE,k.oc,k.n11,by show 5<1000;decide,?_⟩;refine q ⟨x,dx,wa,ta,da,vf,[]⟩ _ U (λa u n e=>?_) ⟨⟨Ne.symm nwx,Ne.symm ntx,Ne.symm ndx,Ne.symm ntw,Ne.symm ndw,Ne.symm ndt,(λa ha=>nomatch ha),List.nodup_nil⟩,⟨.non,pE,.non⟩,⟨[],?_,.nil⟩,⟨[],?_,.nil⟩,⟨[],?_,.nil⟩,.nil,Nat.zero_le _,Nat.zero_le _,Nat.zero_le _⟩ rfl rfl (λa o=>?_)
   · have e1:=kx a u n e;rw[af n,af n,af (ao e1 hda1),af n,af (ao e1 hta1),af n,af (ao e1 hwa)];exact e1
   · show upd _ x _ wa=_;rw[af nwx,af nwx,af (Ne.symm ndw),af nwx,af (Ne.symm ntw),af nwx,pE]
   · show upd _ x _ ta=_;rw[af ntx,af ntx,af (Ne.symm ndt),af ntx,pE]
   · show upd _ x _ da=_;rw[af ndx,af ndx,pE]
   · rcases o with rfl | rfl | rfl | rfl
     · exact .inl U
     · exact .inr (kb _ hwa)
     · exact .inr (kb _ hta1)
     · exact .inr (kb _ hda1)
abbrev sOn:Stmt:=top 41
abbrev nOn:List Str:=["core","name","values","functions","records","opens","told","number"]
inductive wu (K:Fg) (vs:List V) (H:Hp) (Q:VK):Prop
  | mk (vc:V) (l:Addr) (us:List V) (F:List Fun) (R:List Nat) (O:List (Str×Nat)) (nm:Str) (i k:Nat) (fn:Fun) (h0:vs=[vc,.str nm,.ref l]) (h1:TD K H vc (coreD F R O)) (h2:H l=some (.lst us)) (h3:O[i]?=some (nm,k)) (h4:∀ j p,j<i->O[j]?=some p->p.1≠nm) (h5:F[k]?=some fn) (h6:us.length=fn.ct) (q:∀ v,TD K H v (fnD fn)->Q v H):wu K vs H Q
def zT (K:Fg):Sp:=λvs H Q _=>wu K vs H Q
def AW (D:Def K mg "opened" sOn) (T:Blt mg):Fn P w K mg base "opened" 1 ["core","name","values"] (zT K):=by
 have nd:(nOn:List Str).Nodup:=by left
 exists D.fn (N:=nOn) (~~~nd),jT,_,_,_
 · obtain⟨vc,l,us,F,R,O,nm,i,k,fn,rfl,_⟩:=h;rfl
 · obtain⟨vc,l,us,F,R,O,nm,i,k,fn,rfl,tc,hl,hi,hne,hk,hct,q⟩:=h;refine⟨_,(pD (f9 ↥0 (dQ U (aU (aC (i:=3) nd U (.inl U)) (aU (aC (i:=4) nd U (.inl U)) (aU (aC (i:=5) nd U (.inl U)) d9)))))
 (pD (cR PassesOwn.never U (hU ↥5) (dQ U (aU (aC (i:=6) nd U (.inl U)) (aU (aC (i:=7) nd U (.inl U)) d9)))
 (pG (az (PW.pt (cM (pM aB ↥6 ↥1 (pN _)) (bW (pM aB (ac ag (ac ag ↥3 ↥7 Ue) pF Ue) (cq T.len %[2|0]) (pN _))))) (pG (ak (ac ag ↥3 ↥7 Ue))) aq)))
 (pG qY))),?_⟩
   dsimp only[be];obtain⟨a,ys,rfl,ha,hy⟩:=(show TD K H vc (.tuple [.tuple (F.map fnD),.tuple (R.map λn=>.int ((n:Nat):Int)),.tuple (O.map opD)]) from tc).tup_of;obtain⟨y1,y2,y3,rfl,t1,t2,t3⟩:=cJ hy;obtain⟨fa,fs,rfl,hfa,hfs⟩:=t1.tup_of;obtain⟨oa,os,rfl,hoa,hos⟩:=t3.tup_of;refine⟨_,U,a,_,U,ha,U,_,_,U,_,_,U,_,_,U,U,?_⟩;refine⟨_,U,oa,U,⟨_,hoa⟩,?_⟩;show aO _ _ _ _ _ _;have ol:os.length=O.length:=by rw[hos.length,lMp]
   refine aO.by (cX (xs:=os)) (λj σ Hj=>j<=i/\Hj=H/\∃ x6 x7,σ=[some (.ref a),some (.str nm),some (.ref l),some (.ref fa),some y2,some (.ref oa),x6,x7]) ⟨Nat.zero_le _,U,_,_,U⟩ (λ_ _ _ _ z=>by rw[z.2.1];exact hoa) ?_ (λσ Hj z=>absurd z.1 (by have:=(gES.mp hi).1;omega))
   rintro j u σ Hj hu ⟨hj,rfl,x6,x7,rfl⟩;obtain⟨d,hd,td⟩:=hos.get hu;rw[gEM] at hd;obtain⟨p,hp,rfl⟩:=oMS.mp hd;obtain⟨pa,ps,rfl,hpa,hps⟩:=(show TD K Hj u (.tuple [.str p.1,.int ((p.2:Nat):Int)]) from td).tup_of;obtain⟨p1,p2,rfl,u1,u2⟩:=iD hps;cases u1;cases u2;refine⟨pa,_,U,hpa,U,_,_,U,_,_,U,U,?_⟩;by_cases e:j=i
   · subst e;rw[hi] at hp;cases hp;have hj:(F.map fnD)[k]?=some (fnD fn):=by rw[gEM,hk];rfl
     obtain⟨vf1,e1',tf⟩:=iB hfs hj;obtain⟨fa1,gs,rfl,hfa1,hgs⟩:=(show TD K Hj vf1 (.tuple [.str fn.hd,.int ((fn.ct:Nat):Int),exD fn.bd]) from tf).tup_of;obtain⟨g1,g2,g3,rfl,w1,w2,w3⟩:=cJ hgs;cases w1;cases w2;refine⟨_,U,_,U,U,_,U,pJ (by simp) ?_⟩;refine⟨_,U,_,U,fa,_,_,_,U,U,hfa,pH (j:=k) e1',fa1,_,_,_,U,U,hfa1,pH (j:=1) U,_,U,l,_,U,.inl (SqL.of hl),U,_,U,pJ (by simp[hct]) ?_⟩;exact⟨_,U,_,U,fa,_,_,_,U,U,hfa,pH (j:=k) e1',q _ tf⟩
   · have ne:=hne j p ∅ hp;exact⟨_,U,_,U,U,_,U,pI (by simpa using ne) (ai ⟨∅,U,_,_,U⟩)⟩
abbrev sRu:Stmt:=top 42
abbrev nRu:List Str:=["core","name","values","bound","head","count","body","machine","end"]
inductive wn (K:Fg) (vs:List V) (H:Hp) (Q:VK):Prop
  | mk (vc:V) (l:Addr) (us:List V) (xs:List Vl) (F:List Fun) (R:List Nat) (O:List (Str×Nat)) (nm:Str) (i k:Nat) (fn:Fun) (b:Int) (n:Nat) (S:MS) (d:PyData) (h0:vs=[vc,.str nm,.ref l,.int b]) (h1:TD K H vc (coreD F R O)) (h2:H l=some (.lst us)) (h3:O[i]?=some (nm,k)) (h4:∀ j p,j<i->O[j]?=some p->p.1≠nm) (h5:F[k]?=some fn) (h6:xs.length=fn.ct) (h7:Paired (ArV K H) us xs) (h8:∀ f∈F,f.ct<=9) (h9:∀ f∈F,Hx f.bd) (h10:Run F n (S0 fn b xs) S) (h11:End S d) (q:∀ r H',aI H H'->vC K H H' r S.D d->Q (.ref r) H'):wn K vs H Q
def zQ (K:Fg):Sp:=λvs H Q _=>wn K vs H Q
def AR (D:Def K mg "run" sRu) (k:KC K mg c) (T:Blt mg) (tt:Fn P w K mg base "opened" 1 ["core","name","values"] (zT K)) (I_Machine:IFn P w K mg base c.cc 1 ["self","functions","ticks"] (A4 K c)) (M_begin:MFn P w K mg base c.cc "begin" 2 ["self","e","names"] (jH K c)) (bB:Fn P w K mg base "bound_names" 1 lc (kZ K c)) (ql:Fn P w K mg base "do_next" 6 ["machine"] (A3 K c)) (nr:Fn P w K mg base "look" 1 ["value"] (xp K c)):Fn P w K mg base "run" 7 ["core","name","values","bound"] (zQ K):=by
 have nd:(nRu:List Str).Nodup:=by left
 refine D.fn (N:=nRu) (~~~nd) (λvs H Q E h=>?_) (λ_ _ _ _ _ _ us hl=>by obtain⟨a,b,d,e,rfl⟩:=bL hl;rfl) (λf' cdv A0 outer s' H vs Q E hr h=>?_)
 · obtain⟨vc,l,us,xs,F,R,O,nm,i0,k0,fn,bb,n,S,d,rfl,_⟩:=h;rfl
 · obtain⟨vc,l,us,xs,F,R,O,nm,i0,k0,fn,bb,n,Sf,d2,rfl,tc,hl,hi0,hne0,hk0,hct,hxs,hc9,hhx,rn,en,q⟩:=h;have ul:=aA hxs;refine⟨_,(pD (f9 (aj tt ⇑hr U %[0,1,2|0]) (dQ U (aU (aC (i:=4) nd U (.inl U)) (aU (aC (i:=5) nd U (.inl U)) (aU (aC (i:=6) nd U (.inl U)) d9)))))
 (pD (pL (i:=7) nd U (.inl U) (mE I_Machine ⇑hr U k.gC %[↥↥0,3|0]))
 (pD (aH (bo ↥7 k.oc M_begin ⇑hr %[6,aj bB ⇑hr U %[bR,oK T.tuple T.range %[5|0],2|0]|0]))
 (pD (iL PassesOwn.never (PW.pt (cM (pM eC (bS ↥7 U) bR (pN _)) (bW (qX (bS ↥7 U) (by intro _;rfl)))))
 (pG (aH (aj ql ⇑hr U %[7|0]))))
 (pD (pL (i:=8) nd U (.inl U) (bS ↥7 U))
 (pD (az (pM eC ↥8 bR (pN _)) (pG (pL (i:=8) nd U (.inl U) (ax %[pC,aj nr ⇑hr U %[ac aw (bS ↥7 U) pF Ue|0]|0]))) aq)
 (pG (ak (ax %[bS ↥7 U,8|0]))))))))),?_⟩
   dsimp only[be];refine aE λlB g1_=>?_;refine⟨_,U,_,U,_,U,vc,l,us,F,R,O,nm,i0,k0,fn,U,tc,hl,hi0,hne0,hk0,by rw[ul,hct],λv1 tv=>?_⟩;have s1:aI H H:=aI.refl _;obtain⟨fa,fs,rfl,hfa,hfs⟩:=(show TD K H v1 (.tuple [.str fn.hd,.int ((fn.ct:Nat):Int),exD fn.bd]) from tv).tup_of;obtain⟨f1,f2,f3,rfl,w1,w2,w3⟩:=cJ hfs;cases w1;cases w2;refine⟨fa,_,U,hfa,U,_,_,U,_,_,U,_,_,U,U,?_⟩;refine g1_ _ _ (aE λvW g2_=>?_);have tc1:=tc.same s1;obtain⟨ca,ys,rfl,hca,hy⟩:=(show TD K H vc (.tuple [.tuple (F.map fnD),.tuple (R.map λn=>.int ((n:Nat):Int)),.tuple (O.map opD)]) from tc1).tup_of;obtain⟨y1,y2,y3,rfl,t1,t2,t3⟩:=cJ hy;refine⟨_,U,ca,_,_,_,U,U,hca,pH (j:=0) U,_,U,λx dx hx0 hdx ne=>?_⟩;have k3:=smu (o:=HO.own x) hdx;have hx1:(upd H dx (.own x)) x=none:=by rw[af (Ne.symm ne)];exact hx0
   have k4:=smu (o:=HO.ins c.cc dx []) hx1;have k34:=k3.trans k4;refine⟨x,dx,_,_,U,pE,λA H3 eA kp m3 eV eB ow=>⟨U,?_⟩⟩;have s3:aI H H3:=λb u z=>kp b u (ao z hx0) (k34 _ _ z);have no:∀ a u,H a=some u->¬ A.av a:=λa u z o=>by
    rcases o with o | o
    case inr=>rw[eB] at o;cases o
    rcases ow a o with rfl | z2
    · rw[hx0] at z;cases z
    · rw[k34 _ _ z] at z2;cases z2
   subst eA;refine g2_ _ _ (aE λC5 g3_=>?_);obtain⟨vd,h1,e1⟩:=m3.m;have S3:=s1.trans s3;have c9:=hc9 fn (mGE hk0);refine⟨_,U,A.m,A.dx,_,U,h1,U,_,U,_,U,fn.ct,U,∅,λt ht=>?_⟩;have k5:=smu (o:=HO.tup ((List.range fn.ct).map λj=>V.int (0+((j:Nat):Int)))) ht;have m5:=m3.same k5;have er:(List.range fn.ct).map (λj=>V.int (0+((j:Nat):Int)))=((List.range fn.ct).map Int.ofNat).map V.int:=by
    rw[List.map_map];exact List.map_congr_left λj _=>by show V.int _=V.int _;rw[Int.zero_add];rfl
   refine⟨_,U,A,_,[],.non,t,l,(List.range fn.ct).map Int.ofNat,us,xs,false,U,m5,.nil,SqT.of (by rw[pE,er]),SqL.of (k5 _ _ (S3 _ _ hl)),ah hxs λ_ _ z=>z.vl (S3.trans k5).tk,by rw[lMp,List.length_range,hct],λA6 v6 H6 s6 f6 m6 hv6=>?_⟩;obtain⟨tA,rfl⟩:=f6.ex;have S6:=(s3.trans k5).trans s6;refine⟨A.more tA,_,fn.bd,_,f3,v6,U,m6,w3.same S6,hv6,by show 0<30000;decide,λH7 f7 m7=>?_⟩;have F7:Fr A (A.more tA) H H7:=((Fr.of (s3.trans k5)).trans f6).trans f7;have tv0:TD K H A.vf (.tuple (F.map fnD)):=by rw[eV];exact t1
   refine g3_ _ _ (aE λDA D4=>?_);clear m6 m5 m3 hv6;refine⟨λm σ Hi=>∃ A' S,MV K c A' Hi S/\HS S/\Run F m S Sf/\Fr A A' H Hi/\σ=[some (.ref ca),some (.str nm),some (.ref l),some (.int bb),some (.str fn.hd),some (.int ((fn.ct:Nat):Int)),some f3,some (.ref A.m),none],⟨n,A.more tA,_,m7,⟨λt z=>by rw[mSg.mp z];exact hhx _ (mGE hk0),(λv z=>nomatch z),λp z=>?_⟩,rn,F7,U⟩,?_⟩
   · obtain⟨y,hy',rfl⟩:=List.mem_map.mp z;obtain⟨jy,hjy,rfl⟩:=List.getElem_of_mem hy';obtain⟨vy,_,ay⟩:=aJ hxs (gEE hjy);show Hv xs[jy];generalize xs[jy]=xx at ay;cases ay with
     | int i=>exact .int i
     | tup h=>exact .tup _
   rintro m σ Hi ⟨A',S,mi,hsi,ri,fi,rfl⟩;obtain⟨tB,rfl⟩:=fi.ex;obtain⟨vi,hi,ei⟩:=mi.m;have out:S=Sf->DA [some (.ref ca),some (.str nm),some (.ref l),some (.int bb),some (.str fn.hd),some (.int ((fn.ct:Nat):Int)),some f3,some (.ref A.m),none] Hi:=λe0=>by
    subst e0;refine D4 _ _ (aE λDC D3=>?_);refine⟨_,U,A.m,c.cc,A.dx,_,_,U,hi,k.oc,k.n11,U,?_⟩;refine D3 _ _ (aE λDB D2=>?_);have last:∀ (pe:Addr) (H9:Hp),aI Hi H9->cU K H9 (.ref pe) d2->DB [some (.ref ca),some (.str nm),some (.ref l),some (.int bb),some (.str fn.hd),some (.int ((fn.ct:Nat):Int)),some f3,some (.ref A.m),some (.ref pe)] H9:=λpe H9 s9 dv=>by
     refine D2 _ _ ?_;have m9:=mi.same s9;obtain⟨v9,h9,_⟩:=m9.m;obtain⟨ds,hd,ed⟩:=m9.s;refine⟨_,U,A.m,c.cc,A.dx,_,_,U,h9,k.oc,k.n10,U,_,U,dB,λr hr'=>?_⟩;have k10:=smu (o:=HO.tup [.ref A.da,.ref pe]) hr';refine q r _ (λa u z=>k10 _ _ (s9 _ _ (fi.kp a u (no a u z) z).1)) (.mk A.da pe ds (SqT.of pE) (k10 _ _ hd) (ah ed λ_ _ z=>z.fr (.of (A:=A) k10)) (dv.same k10) ?_ m9.zd);cases z0:H A.da with
     | none=>rfl
     | some u=>exact absurd (.inl (.inr (.inr (.inr U)))) (no _ _ z0)
    cases en with
    | en he =>
     rw[he] at ei;obtain⟨a,rfl,da⟩:=ei.dat;refine⟨_,U,U,_,U,pI (by show ¬ decide (V.ref a=V.non)=true;simp) ?_⟩;exact last a Hi (aI.refl _) da
    | @back x r he hT =>
     rw[he] at ei;cases ei;obtain⟨ts,ht,et⟩:=mi.t;rw[hT] at et;obtain⟨v,hv,vv⟩:=aJ et (i:=0) rfl;refine⟨_,U,U,_,U,aL ?_⟩;refine⟨_,U,A.m,c.cc,A.dx,_,_,U,hi,k.oc,k.n9,U,A.ta,_,_,_,U,U,SqL.of ht,pH (j:=0) hv,A.more tB,v,x,U,vv,λv' H8 s8 lv=>?_⟩;refine⟨dB,λp hp=>?_⟩;have k9:=smu (o:=HO.tup [.str "back",v']) hp;have lv9:=lv.fr (.of (A:=A) k9);exact last p _ (s8.trans k9) (.tup (SqT.of pE) (.cons (.str _) (.cons lv9.dat .nil)))
   refine⟨_,U,A.m,c.cc,A.dx,_,_,U,hi,k.oc,k.n11,U,U,_,U,?_⟩;cases ri with
   | done hd =>
    cases eS:Sf.en with
    | some s =>
     rw[eS] at ei;obtain⟨a,rfl,_⟩:=ei.dat;exact pI (by show ¬ decide (V.ref a=V.non)=true;simp) (ai (out U))
    | none =>
     rw[eS] at ei;cases ei;have hW:Sf.W=[]:=hd.resolve_left λz=>z eS;obtain⟨ws,hw,ew⟩:=mi.w;rw[hW] at ew;cases ew;refine aL ⟨_,U,A.m,c.cc,A.dx,_,_,U,hi,k.oc,k.n8,U,_,.inl ⟨_,SqL.of hw,U⟩,pI ∅ (out U)⟩
   | @step n' _ S1 _ hbd he st r =>
    rw[he] at ei;cases ei;obtain⟨ws,hw,ew⟩:=mi.w;have wl:=aA ew;have nE:(!ws.isEmpty)=true:=by
     cases ws with
     | nil=>exact absurd (List.eq_nil_of_length_eq_zero wl.symm) st.ne
     | cons a b=>rfl
    refine aL ⟨_,U,A.m,c.cc,A.dx,_,_,U,hi,k.oc,k.n8,U,_,.inl ⟨_,SqL.of hw,U⟩,pJ nE ?_⟩;refine⟨λσ' H'=>∃ A' S,MV K c A' H' S/\HS S/\Run F n' S Sf/\Fr A A' H H'/\σ'=[some (.ref ca),some (.str nm),some (.ref l),some (.int bb),some (.str fn.hd),some (.int ((fn.ct:Nat):Int)),some f3,some (.ref A.m),none],λσ' H' z=>⟨n',Nat.lt_succ_self _,z⟩,?_⟩;exact⟨_,U,F,A.more tB,S,S1,U,mi,st,hsi,hbd,tv0.tk fi.tk,hc9,λA' H' f' m'=>⟨A',S1,m',st.hs hhx hsi,r,fi.trans f',U⟩⟩
end
end K19
namespace L2
open PySem PySem.Spec PyProof.Rows PyProof.Rows
section
variable {X:Cx} {p pos:Pos} {e:Expr} {es:List Expr} {t:TA}
inductive tD (xs:List V) (H:Hp) (Q:VK):Prop
  | mk (a:Addr) (kvs:List (Key×V)) (h1:xs=[.ref a]) (h2:H a=some (.dK kvs)) (q:∀ p,H p=none->Q (.ref p) (upd H p (.dK kvs))):tD xs H Q
def qT:List V->Hp->VK->Prop:=λxs H Q=>tD xs H Q
def mY:ga X (.type "dict") qT:=by
 intro pins s σ H xs us Q I rv h;obtain⟨a,kvs,rfl,e,q⟩:=h;obtain⟨u,rfl,ru⟩:=rv.one;cases ru;obtain⟨z,hd,vs,rel,dd⟩:=sF I.hok e;have hz:vs.length<=sizeLine:=by rw[<- Paired.length rel];exact z
 refine kt_call_dict (knd:=aP X.prog X.w) hd dd hz λh' dd' sb=>?_;refine⟨.ref _,_,I.laid (a:=s.heap.objs.size) (o:=.dK kvs) (h':=h') (t':=s.toks) (λb ob eb=>sb.extBut b ob (Nat.ne_of_lt (Heap.lt_size eb)) (hpS _ eb)) (Nat.le_refl _) (jZ z ?_ rel dd'),U,q _ (I.hok.fresh (Nat.le_refl _))⟩;exact beq_eq_false_iff_ne.mpr (Ne.symm (Nat.ne_of_lt I.big))
def j9:bootBuiltins "dict"=some (.type "dict"):=by left
def oN (hm:X.mg "dict"=none) (ha:PA X (e::es) t) (hg:Gl X "dict":=by rfl)
 (he:starEach (e::es) X.env=(false,eval e X.env)::starEach es X.env:=by rfl) (hpl:(backTo pos (starEach es X.env)).any (·.1)=false:=by rfl) :
 PE X (.Call (.Name "dict" p) (e::es) [] pos) (tCB qT t):=dZ mY hg hm j9 ha (he:=he) (hpl:=hpl)
end
end L2
namespace K19
open PySem L2 P10
def Hx.bn {e:Ex} (h:Hx e) {x:Int} (m:x∈yG e):Rg x:=by
 cases h with | mk _ _ hb _=>exact hb x m
structure KO (g:Env):Prop where
  n:(g.map (·.1)).Nodup
  r:∀ p∈g,Rg p.1
def sw:∀ (n:Nat) (l:List Int),l.Nodup->(∀ x∈l,0<=x/\x<(n:Int))->l.length<=n:=by
 intro n
 induction n with
 | zero =>
  intro l _ h;cases l with
  | nil=>exact Nat.le_refl _
  | cons a r=>have:=h a mCS;omega
 | succ n ih =>
  intro l nd h;by_cases m:((n:Nat):Int)∈l
  · have e:=List.length_erase_of_mem m;have:=ih (l.erase (n:Int)) (nd.erase _) λx hx=>by
     obtain⟨a,b⟩:=(nd.mem_erase_iff).mp hx;have:=h x b;omega
    omega
  · have:=ih l nd λx hx=>by
     have:=h x hx;have:x≠(n:Int):=λe=>m (e▸hx);omega
    omega
def KO.len {g:Env} (h:KO g):g.length<=300000:=by
 have:=sw 300000 (g.map (·.1)) h.n λx hx=>by
  obtain⟨p,hp,rfl⟩:=List.mem_map.mp hx;exact h.r p hp
 rwa [lMp] at this
def qW {g:Env} {x:Int} {v:EV}:(x∈g.map (·.1)->(put g x v).map (·.1)=g.map (·.1))/\(x∉g.map (·.1)->(put g x v).map (·.1)=g.map (·.1)++[x]):=by
 induction g with
 | nil=>exact⟨(λh=>nomatch h),λ_=>rfl⟩
 | cons p r ih =>
  obtain⟨y,u⟩:=p;show (x∈y::r.map (·.1)->(if y=x then (y,v)::r else (y,u)::put r x v:Env).map (·.1)=_)/\(x∉y::r.map (·.1)->(if y=x then (y,v)::r else (y,u)::put r x v:Env).map (·.1)=_);by_cases e:y=x
  · rw[if_pos e];exact⟨λ_=>rfl,λh=>absurd (by rw[e];exact mCS) h⟩
  · rw[if_neg e];refine⟨λh=>?_,λh=>?_⟩
    · rcases List.mem_cons.mp h with h | h
      · exact absurd h.symm e
      · show y::(put r x v).map (·.1)=y::_;rw[ih.1 h]
    · show y::(put r x v).map (·.1)=y::_;rw[ih.2 λz=>h (mCM _ z)];rfl
def KO.put {g:Env} (h:KO g) {x:Int} (hx:Rg x) (v:EV):KO (put g x v):=by
 obtain⟨p1,p2⟩:=qW (g:=g) (x:=x) (v:=v);have ks:∀ y∈(K19.put g x v).map (·.1),Rg y:=by
  intro y hy;by_cases m:x∈g.map (·.1)
  · rw[p1 m] at hy;obtain⟨p,hp,rfl⟩:=List.mem_map.mp hy;exact h.r p hp
  · rw[p2 m] at hy
    rcases mAp.mp hy with hy | hy
    · obtain⟨p,hp,rfl⟩:=List.mem_map.mp hy;exact h.r p hp
    · rw[mSg.mp hy];exact hx
 refine⟨?_,λp hp=>ks _ (List.mem_map.mpr ⟨p,hp,U⟩)⟩;by_cases m:x∈g.map (·.1)
 · rw[p1 m];exact h.n
 · rw[p2 m];refine List.nodup_append.mpr ⟨h.n,by simp,λa ha b hb e=>?_⟩;rw[mSg.mp hb] at e;exact m (e▸ha)
def KO.nil:KO []:=⟨List.nodup_nil,λ_ h=>nomatch h⟩
section
variable (K:Fg) (av:Addr->Prop) (H:Hp)
inductive EvV:V->EV->Prop
  | int (i:Int):EvV (.int i) (.int i)
  | row {a t:Addr} {is:List Int} (h:SqT K H a [.str "row",.ref t]) (ht:SqT K H t (is.map V.int)):EvV (.ref a) (.row is)
  | rcd {a t:Addr} {us:List V} {r:Int} {xs:List EV} (h:SqT K H a [.str "record",.int r,.ref t]) (ht:SqT K H t us) (hz:us.length=xs.length) (hu:∀ (i:Nat) (u:V) (y:EV),us[i]?=some u->xs[i]?=some y->EvV u y):EvV (.ref a) (.rcd r xs)
  | fn {a t d:Addr} {vb:V} {ids:List Int} {e:Ex} {g:Env} {kvs:List (Key×V)} (h:SqT K H a [.str "fun",.ref t,vb,.ref d]) (ht:SqT K H t (ids.map V.int)) (hb:TD K H vb (exD e)) (hd:H d=some (.dK kvs)) (nd:¬ av d) (hx:Hx e) (hi:∀ x∈ids,Rg x) (ko:KO g) (hz:kvs.length=g.length)
      (hk:∀ (i:Nat) (kv:Key×V) (p:Int×EV),kvs[i]?=some kv->g[i]?=some p->kv.1=.inl p.1) (hg:∀ (i:Nat) (kv:Key×V) (p:Int×EV),kvs[i]?=some kv->g[i]?=some p->EvV kv.2 p.2):EvV (.ref a) (.fn ids e g)
inductive EnW:V->Option En->Prop
  | non:EnW .non none
  | flt {a:Addr} {w:Str} (h:SqT K H a [.str "fault",.str w]):EnW (.ref a) (some (.flt w))
  | dry {a:Addr} (h:SqT K H a [.str "dry"]):EnW (.ref a) (some .dry)
  | long {a:Addr} (h:SqT K H a [.str "long"]):EnW (.ref a) (some .long)
def GVr (kv:Key×V) (p:Int×EV):Prop:=kv.1=.inl p.1/\EvV K av H kv.2 p.2
def stK (l:Int) (dl:Addr) (ve:V) (t:Nat):List (Key×V):=[(.inr "left",.int l),(.inr "deeds",.ref dl),(.inr "end",ve),(.inr "steps",.int ((t:Nat):Int))]
structure LS (sd dl:Addr) (s:St):Prop where
  d:∃ ve,H sd=some (.dK (stK s.left dl ve s.steps))/\EnW K H ve s.en
  l:∃ ds,H dl=some (.lst ds)/\Paired (LkV K H) ds s.D
structure NV (nd:Addr) (g:Env):Prop where
  d:∃ kvs,H nd=some (.dK kvs)/\Paired (GVr K av H) kvs g
  ko:KO g
end
structure Fw (p:Addr->Prop) (H H':Hp):Prop where
  kp:∀ a u,¬ p a->H a=some u->H' a=some u
  tk:Tk H H'
  al:∀ a,H a≠none->H' a≠none
section
variable {K:Fg} {av av' p p':Addr->Prop} {H H' H2:Hp} {sd dl nd:Addr}
def Fw.refl:Fw p H H:=⟨λ_ _ _ h=>h,λ_ _ h=>h,λ_ h=>h⟩
def Fw.trans (f:Fw p H H') (g:Fw p H' H2):Fw p H H2:=⟨λa u n h=>g.kp a u n (f.kp a u n h),λa xs h=>g.tk a xs (f.tk a xs h),λa h=>g.al a (f.al a h)⟩
def Fw.of (s:aI H H'):Fw p H H':=⟨λa u _ h=>s a u h,s.tk,λa h=>by
 cases e:H a with
 | none=>exact absurd e h
 | some u=>rw[s _ _ e];exact λz=>nomatch z⟩
def Fw.mono (f:Fw p H H') (i:∀ a,p a->p' a):Fw p' H H':=⟨λa u n h=>f.kp a u (λz=>n (i a z)) h,f.tk,f.al⟩
def Fw.fresh (s:aI H H') (f:Fw p H' H2) (i:∀ a,p a->p' a\/H a=none):Fw p' H H2 :=
 ⟨λa u n h=>f.kp a u (λz=>by rcases i a z with z | z;exact n z;rw[z] at h;cases h) (s a u h),λa xs h=>f.tk a xs (s.tk a xs h),λa h=>f.al a ((Fw.of (p:=p) s).al a h)⟩
def Fw.upd {a:Addr} {o:HO} (hp:p a) (nt:∀ xs,¬ Rd H a (.tup xs)):Fw p H (L2.upd H a o) :=
 ⟨λb u n h=>by rw[af (λe:b=a=>n (by rw[e];exact hp))];exact h,λb xs h=>by
   have n:b≠a:=λe=>nt xs (e▸h)
   rcases h with h | ⟨o',h⟩
   · exact .inl (by rw[af n];exact h)
   · exact .inr ⟨o',by rw[af n];exact h⟩,λb h=>by
   by_cases e:b=a
   · rw[e,pE];exact λz=>nomatch z
   · rw[af e];exact h⟩
def vV {a:Addr} {kvs:List (Key×V)} (h:H a=some (.dK kvs)):∀ xs,¬ Rd H a (.tup xs):=λxs z=>by
 rcases z with z | ⟨_,z⟩ <;> (rw[h] at z;cases z)
def dS {a:Addr} {ls:List V} (h:H a=some (.lst ls)):∀ xs,¬ Rd H a (.tup xs):=λxs z=>by
 rcases z with z | ⟨_,z⟩ <;> (rw[h] at z;cases z)
def EvV.fw {v:V} {x:EV} (h:EvV K av H v x) (f:Fw p H H') (i:∀ a,p a->av a):EvV K av H' v x:=by
 induction h with
 | int i=>exact .int i
 | row h ht=>exact .row (h.tk f.tk) (ht.tk f.tk)
 | rcd h ht hz _ ih=>exact .rcd (h.tk f.tk) (ht.tk f.tk) hz ih
 | fn h ht hb hd nd hx hi ko hz hk _ ih=>exact .fn (h.tk f.tk) (ht.tk f.tk) (hb.tk f.tk) (f.kp _ _ (λz=>nd (i _ z)) hd) nd hx hi ko hz hk ih
def EvV.same {v:V} {x:EV} (h:EvV K av H v x) (s:aI H H'):EvV K av H' v x:=h.fw (p:=λ_=>False) (.of s) λ_ z=>z.elim
def EvV.less {v:V} {x:EV} (h:EvV K av H v x) (i:∀ a,av' a->av a):EvV K av' H v x:=by
 induction h with
 | int i=>exact .int i
 | row h ht=>exact .row h ht
 | rcd h ht hz _ ih=>exact .rcd h ht hz ih
 | fn h ht hb hd nd hx hi ko hz hk _ ih=>exact .fn h ht hb hd (λz=>nd (i _ z)) hx hi ko hz hk ih
def EvV.more {v:V} {x:EV} (h:EvV K av H v x) {q:Addr} (hq:H q=none):EvV K (λa=>av a\/a=q) H v x:=by
 induction h with
 | int i=>exact .int i
 | row h ht=>exact .row h ht
 | rcd h ht hz _ ih=>exact .rcd h ht hz ih
 | fn h ht hb hd nd hx hi ko hz hk _ ih=>exact .fn h ht hb hd (λz=>by rcases z with z | z;exact nd z;rw[z,hq] at hd;cases hd) hx hi ko hz hk ih
def EnW.tk {v:V} {e:Option En} (h:EnW K H v e) (t:Tk H H'):EnW K H' v e:=by
 cases h with
 | non=>exact .non
 | flt h=>exact .flt (h.tk t)
 | dry h=>exact .dry (h.tk t)
 | long h=>exact .long (h.tk t)
def LkV.tk {v:V} {e:Lk} (h:LkV K H v e) (t:Tk H H'):LkV K H' v e:=by
 cases h with
 | int i=>exact .int i
 | tup h=>exact .tup (h.tk t)
 | thing=>exact .thing
def LS.fw {s:St} (h:LS K H sd dl s) (f:Fw p H H') (n1:¬ p sd) (n2:¬ p dl):LS K H' sd dl s:=by
 obtain⟨⟨ve,h1,e1⟩,⟨ds,h2,e2⟩⟩:=h;exact⟨⟨ve,f.kp _ _ n1 h1,e1.tk f.tk⟩,⟨ds,f.kp _ _ n2 h2,ah e2 λ_ _ z=>z.tk f.tk⟩⟩
def LS.same {s:St} (h:LS K H sd dl s) (e:aI H H'):LS K H' sd dl s:=h.fw (p:=λ_=>False) (.of e) id id
def LS.ne {s:St} (h:LS K H sd dl s):sd≠dl:=λe=>by
 obtain⟨⟨ve,h1,_⟩,⟨ds,h2,_⟩⟩:=h;rw[e,h2] at h1;cases h1
def NV.fw {g:Env} (h:NV K av H nd g) (f:Fw p H H') (n:¬ p nd) (i:∀ a,p a->av a):NV K av H' nd g:=by
 obtain⟨⟨kvs,h1,e1⟩,ko⟩:=h;exact⟨⟨kvs,f.kp _ _ n h1,ah e1 λ_ _ z=>⟨z.1,z.2.fw f i⟩⟩,ko⟩
def NV.same {g:Env} (h:NV K av H nd g) (e:aI H H'):NV K av H' nd g:=h.fw (p:=λ_=>False) (.of e) id λ_ z=>z.elim
def NV.nel {g:Env} {s:St} (h:NV K av H nd g) (l:LS K H sd dl s):nd≠dl:=λe=>by
 obtain⟨⟨kvs,h1,_⟩,_⟩:=h;obtain⟨ds,h2,_⟩:=l.l;rw[e,h2] at h1;cases h1
def NV.al {g:Env} (h:NV K av H nd g):H nd≠none:=by
 obtain⟨⟨kvs,h1,_⟩,_⟩:=h;rw[h1];exact λz=>nomatch z
def LS.al {s:St} (h:LS K H sd dl s):H sd≠none/\H dl≠none:=by
 obtain⟨⟨ve,h1,_⟩,⟨ds,h2,_⟩⟩:=h;rw[h1,h2];exact⟨λz=>(nomatch z),λz=>nomatch z⟩
def yt {kvs:List (Key×V)} {g:Env} (h:Paired (GVr K av H) kvs g) {x:Int} {y:EV} (e:g.lookup x=some y):∃ v,cz kvs (.inl x)=some v/\EvV K av H v y:=by
 induction h with
 | nil=>cases e
 | @cons kv q r r' z _ ih =>
  obtain⟨y',u⟩:=q;obtain⟨z1,z2⟩:=z;rw[aY] at e;by_cases c:x=y'
  · rw[if_pos c] at e;cases e;exact⟨_,gn (by rw[z1,c]),z2⟩
  · rw[if_neg c] at e;obtain⟨v,a,b⟩:=ih e;exact⟨v,by rw[gq (by rw[z1];exact λz=>c (Sum.inl.inj z).symm)];exact a,b⟩
def uw {kvs:List (Key×V)} {g:Env} (h:Paired (GVr K av H) kvs g) {x:Int} (v:V) (n:x∉g.map (·.1)):(kvs.any λkv=>decide (kv.1=.inl x))=false/\kvs.map (λkv=>if kv.1=.inl x then (kv.1,v) else kv)=kvs:=by
 induction h with
 | nil=>exact⟨U,U⟩
 | @cons kv q r r' z _ ih =>
  obtain⟨i1,i2⟩:=ih λz=>n (mCM _ z);have c:¬ kv.1=.inl x:=by rw[z.1];exact λe=>n (by rw[<- Sum.inl.inj e];exact mCS)
  refine⟨?_,?_⟩
  · rw[List.any_cons,i1];simp[c]
  · rw[List.map_cons,i2,if_neg c]
def rZ {kvs:List (Key×V)} {g:Env} (h:Paired (GVr K av H) kvs g) (nd:(g.map (·.1)).Nodup) {x:Int} {v:V} {y:EV} (hv:EvV K av H v y):Paired (GVr K av H) (dn kvs (.inl x) v) (put g x y):=by
 induction h with
 | nil=>exact .cons ⟨U,hv⟩ .nil
 | @cons kv q r r' z hr ih =>
  obtain⟨y',u⟩:=q;obtain⟨k1,u1⟩:=kv;have nd':y'∉r'.map (·.1)/\(r'.map (·.1)).Nodup:=List.nodup_cons.mp nd;have z1:k1=.inl y':=z.1;show Paired _ _ (if y'=x then (y',y)::r' else (y',u)::put r' x y:Env);by_cases c:y'=x
  · rw[if_pos c];have off:=uw hr v (x:=x) (by rw[<- c];exact nd'.1);have e:dn ((k1,u1)::r) (.inl x) v=(k1,v)::r:=by
     unfold dn;rw[if_pos (by rw[List.any_cons];simp[z1,c]),List.map_cons,off.2,if_pos (by rw[z1,c])]
    rw[e];exact .cons ⟨z1,hv⟩ hr
  · rw[if_neg c];have e:dn ((k1,u1)::r) (.inl x) v=(k1,u1)::dn r (.inl x) v:=by
     have c':¬ k1=.inl x:=by rw[z1];exact λe=>c (Sum.inl.inj e)
     unfold dn;rw[List.any_cons,show decide ((k1,u1).1=(.inl x:Key))=false by simpa using c',Bool.false_or];by_cases a:(r.any λkv=>decide (kv.1=.inl x))=true
     · rw[if_pos a,if_pos a,List.map_cons,if_neg c']
     · rw[if_neg a,if_neg a];rfl
    rw[e];exact .cons z (ih nd'.2)
def NV.put {g:Env} (h:NV K av H nd g) {x:Int} (hx:Rg x) {v:V} {y:EV} (hv:EvV K av H v y) (n:av nd):∃ H',io H nd (.int x) v H'/\NV K av H' nd (put g x y)/\Fw (λa=>a=nd) H H':=by
 obtain⟨⟨kvs,h1,e1⟩,ko⟩:=h;have f:Fw (λa=>a=nd) H (upd H nd (.dK (dn kvs (.inl x) v))):=.upd rfl (vV h1);refine⟨_,io.k (k:=.inl x) h1 ?_,⟨⟨_,pE,ah (rZ e1 ko.n hv) λ_ _ z=>⟨z.1,z.2.fw f λa e=>by rw[e];exact n⟩⟩,ko.put hx y⟩,f⟩;have:=ko.len;have:=aA e1;have:(1000000:Nat)<sizeLine:=∅
 omega
end
def evT:EV->Value
  | .int _=>.type "int"
  | _=>.type "tuple"
def evI:EV->Bool
  | .int _=>true
  | _=>false
def uZ:EV->Str
  | .int _=>""
  | .row _=>"row"
  | .rcd _ _=>"record"
  | .fn _ _ _=>"fun"
section
variable {P:Program} {w:World} {K:Fg} {mg:SOV} {base:Heap} {c:Ks} {av:Addr->Prop} {H:Hp} {sd dl:Addr}
def EvV.ty {v:V} {x:EV} (h:EvV K av H v x):TyU K H v (evT x):=by
 cases h with
 | int i=>exact .int i
 | row h _=>exact .tup h
 | rcd h _ _ _=>exact .tup h
 | fn h _ _ _ _ _ _ _ _ _ _=>exact .tup h
def KC.ev (k:KC K mg c) (x:EV):PySem.W.kitOne K (evT x) (.type "int")=some (evI x):=by
 cases x with
 | int i=>exact k.kI (.int 0)
 | _=>exact k.kI (.tup [])
def EvV.tp {v:V} {x:EV} (h:EvV K av H v x) (n:evI x=false):∃ a y ys,v=.ref a/\SqT K H a (.str (uZ x)::y::ys)/\(∀ is,x=.row is->∃ t,y=.ref t/\SqT K H t (is.map V.int)):=by
 cases h with
 | int i=>cases n
 | row h ht=>exact⟨_,_,_,U,h,λis e=>by cases e;exact⟨_,U,ht⟩⟩
 | rcd h _ _ _=>exact⟨_,_,_,U,h,λis e=>nomatch e⟩
 | fn h _ _ _ _ _ _ _ _ _ _=>exact⟨_,_,_,U,h,λis e=>nomatch e⟩
def oz {x:EV} (n:evI x=false) (h:uZ x="row"):∃ is,x=.row is:=by
 cases x with
 | int i=>cases n
 | row is=>exact⟨is,U⟩
 | rcd r xs=>exact absurd h (by show ¬ (("record":Str)="row");left)
 | fn ids e g=>exact absurd h (by show ¬ (("fun":Str)="row");left)
def lI {x:EV} (h:∀ is,x≠.row is):bC x=[]:=by
 cases x with
 | row is=>exact absurd U (h is)
 | _=>rfl
def LS.set {s s':St} {ve:V} (h:LS K H sd dl s) (e:EnW K H ve s'.en) (d:s'.D=s.D):LS K (L2.upd H sd (.dK (stK s'.left dl ve s'.steps))) sd dl s'/\Fw (λa=>a=sd) H (L2.upd H sd (.dK (stK s'.left dl ve s'.steps))):=by
 have ne:=h.ne;obtain⟨⟨ve0,h1,e1⟩,⟨ds,h2,e2⟩⟩:=h;have f:Fw (λa=>a=sd) H (L2.upd H sd (.dK (stK s'.left dl ve s'.steps))):=.upd rfl (vV h1);exact⟨⟨⟨ve,pE,e.tk f.tk⟩,⟨ds,f.kp _ _ (Ne.symm ne) h2,by rw[d];exact ah e2 λ_ _ z=>z.tk f.tk⟩⟩,f⟩
def EnW.dec {v:V} {e:Option En} (h:EnW K H v e):decide (v=.non)=e.isNone:=by
 cases h with
 | _=>rfl
inductive wy (K:Fg) (vs:List V) (H:Hp) (Q:VK):Prop
  | mk (av:Addr->Prop) (v:V) (x:EV) (h0:vs=[v]) (h1:EvV K av H v x) (q:Q (.int (aZ x)) H):wy K vs H Q
def qE (K:Fg):Sp:=λvs H Q _=>wy K vs H Q
def AZ (D:Def K mg "_law_worth" (top 56)) (T:Blt mg) (k:KC K mg c):Fn P w K mg base "_law_worth" 1 ["_law_value_here"] (qE K):=by
 have nd:(["_law_value_here"]:List Str).Nodup:=by left
 exists D.fn (N:=["_law_value_here"]) (~~~nd),fD,_
 · obtain⟨av,v,x,rfl,_⟩:=h;rfl
 · obtain⟨av,v,x,rfl,hv,q⟩:=h;have hz0:(40000:Nat)<sizeLine:=∅
   have hu:=cD hr;refine⟨_,(pG (ak (bJ (bN (dP T.isinstance %[0,cu (v:=.ty "int") U k.bI bU U|0])) ↥0 pF))),?_⟩;dsimp only[be];refine⟨_,U,.one v _ _ _ _ U (.ty "int") hv.ty (k.ev x) ⟨_,U,?_⟩⟩;cases hv with
   | int i=>exact aL ⟨_,U,q⟩
   | _=>exact ai q
inductive wF (K:Fg) (vs:List V) (H:Hp) (Q:VK):Prop
  | mk (av:Addr->Prop) (v:V) (x:EV) (h0:vs=[v]) (h1:EvV K av H v x) (q:∀ v',LkV K H v' (elk x)->Q v' H):wF K vs H Q
def uc (K:Fg):Sp:=λvs H Q _=>wF K vs H Q
def B5 (D:Def K mg "_law_look" (top 57)) (T:Blt mg) (k:KC K mg c):Fn P w K mg base "_law_look" 1 ["_law_value_here"] (uc K):=by
 have nd:(["_law_value_here"]:List Str).Nodup:=by left
 exists D.fn (N:=["_law_value_here"]) (~~~nd),fD,_
 · obtain⟨av,v,x,rfl,_⟩:=h;rfl
 · obtain⟨av,v,x,rfl,hv,q⟩:=h;have hz0:(40000:Nat)<sizeLine:=∅
   have hu:=cD hr;refine⟨_,(pD (az (bN (dP T.isinstance %[0,cu (v:=.ty "int") U k.bI bU U|0])) (pG (ak ↥0)) aq)
 (pG (ak (bJ (pM aB ↥↥0 pC (pN _)) ↥↥0 pC)))),?_⟩
   dsimp only[be];refine⟨_,U,.one v _ _ _ _ U (.ty "int") hv.ty (k.ev x) ⟨_,U,?_⟩⟩;cases hv with
   | int i=>exact aL ⟨_,U,q _ (.int i)⟩
   | row h ht=>exact ai ⟨_,U,_,_,_,_,U,U,h,pH (j:=0) U,U,_,U,aL ⟨_,U,_,_,_,_,U,U,h,pH (j:=1) U,q _ (.tup ht)⟩⟩
   | rcd h _ _ _=>exact ai ⟨_,U,_,_,_,_,U,U,h,pH (j:=0) U,U,_,U,ai (q _ .thing)⟩
   | fn h _ _ _ _ _ _ _ _ _ _=>exact ai ⟨_,U,_,_,_,_,U,U,h,pH (j:=0) U,U,_,U,ai (q _ .thing)⟩
def lH:EV->Vl
  | .int i=>.int i
  | .row is=>.tup is
  | _=>.int 0
inductive wC (K:Fg) (vs:List V) (H:Hp) (Q:VK):Prop
  | mk (av:Addr->Prop) (v:V) (x:EV) (h0:vs=[v]) (h1:EvV K av H v x) (h2:evI x=true\/∃ is,x=.row is) (q:∀ v',ArV K H v' (lH x)->Q v' H):wC K vs H Q
def zX (K:Fg):Sp:=λvs H Q _=>wC K vs H Q
def B4 (D:Def K mg "_law_plain" (top 71)) (T:Blt mg) (k:KC K mg c):Fn P w K mg base "_law_plain" 1 ["_law_value_here"] (zX K):=by
 have nd:(["_law_value_here"]:List Str).Nodup:=by left
 exists D.fn (N:=["_law_value_here"]) (~~~nd),fD,_
 · obtain⟨av,v,x,rfl,_⟩:=h;rfl
 · obtain⟨av,v,x,rfl,hv,hx,q⟩:=h;have hz0:(40000:Nat)<sizeLine:=∅
   have hu:=cD hr;refine⟨_,(pG (ak (bJ (bN (dP T.isinstance %[0,cu (v:=.ty "int") U k.bI bU U|0])) ↥0 ↥↥0))),?_⟩;dsimp only[be];refine⟨_,U,.one v _ _ _ _ U (.ty "int") hv.ty (k.ev x) ⟨_,U,?_⟩⟩
   rcases hx with hx | ⟨is,rfl⟩
   · cases hv with
     | int i=>exact aL ⟨_,U,q _ (.int i)⟩
     | _=>cases hx
   · cases hv with
     | row h ht=>exact ai ⟨_,U,_,_,_,_,U,U,h,pH (j:=1) U,q _ (.tup ht)⟩
inductive sV (K:Fg) (vs:List V) (H:Hp) (Q:VK):Prop
  | mk (sd dl:Addr) (s:St) (w:En) (vw:V) (h0:vs=[.ref sd,vw]) (h1:LS K H sd dl s) (h2:EnW K H vw (some w)) (q:∀ H',Fw (λa=>a=sd) H H'->LS K H' sd dl (bV s w)->Q (.int 0) H'):sV K vs H Q
def kY (K:Fg):Sp:=λvs H Q _=>sV K vs H Q
def Bb (D:Def K mg "_law_ended" (top 58)) :Fn P w K mg base "_law_ended" 1 ["_law_state","_law_word"] (kY K):=by
 have nd:(["_law_state","_law_word"]:List Str).Nodup:=by left
 exists D.fn (N:=["_law_state","_law_word"]) (~~~nd),i4,_,_
 · obtain⟨sd,dl,s,w0,vw,rfl,_⟩:=h;rfl
 · obtain⟨sd,dl,s,w0,vw,rfl,m,hw,q⟩:=h;have hz0:(40000:Nat)<sizeLine:=∅
   have hu:=cD hr;refine⟨_,(pD (az (pM eC (pK hu ↥0 pC Ue) bR (pN _)) (pG (du hu ↥0 pC ↥1 U)) aq)
 (pG (ak pF))),?_⟩
   obtain⟨ve,h1,e1⟩:=m.d;refine⟨_,U,sd,ve,U,cE.k (k:=.inr "end") h1,U,_,U,?_⟩;rw[e1.dec];cases e:s.en with
   | none =>
    refine aL ⟨_,U,_,U,sd,_,U,io.k (k:=.inr "end") h1 (by show 4<sizeLine;omega),?_⟩;have e2:bV s w0={s with en:=some w0}:=by unfold bV;simp only[e]
    obtain⟨m2,f2⟩:=m.set (s':={s with en:=some w0}) hw rfl;rw[e2] at q;exact q _ f2 m2
   | some w1 =>
    have e2:bV s w0=s:=by unfold bV;simp only[e]
    rw[e2] at q;exact ai (q _ .refl m)
inductive sS (K:Fg) (vs:List V) (H:Hp) (Q:VK):Prop
  | mk (sd dl:Addr) (s:St) (h0:vs=[.ref sd]) (h1:LS K H sd dl s) (q:∀ H',Fw (λa=>a=sd) H H'->LS K H' sd dl (cb s).2->Q (.bl (cb s).1) H'):sS K vs H Q
def kX (K:Fg):Sp:=λvs H Q _=>sS K vs H Q
def xQ (D:Def K mg "_law_ticked" (top 59)) (aV:Fn P w K mg base "_law_ended" 1 ["_law_state","_law_word"] (kY K)):Fn P w K mg base "_law_ticked" 2 ["_law_state"] (kX K):=by
 have nd:(["_law_state"]:List Str).Nodup:=by left
 exists D.fn (N:=["_law_state"]) (~~~nd),fD,_
 · obtain⟨sd,dl,s,rfl,_⟩:=h;rfl
 · obtain⟨sd,dl,s,rfl,m,q⟩:=h;have hz0:(40000:Nat)<sizeLine:=∅
   have hu:=cD hr;refine⟨_,(pD (az (pM aB (pK hu ↥0 pC Ue) pF (pN _)) (pG (aH (aj aV ⇑hr U %[0,ax %[pC|0]|0]))) aq)
 (pD (du hu ↥0 pC (aN cF (pK hu ↥0 pC Ue) pF) U)
 (pG (ak (dz eC (pK hu ↥0 pC Ue) bR (pN _)))))),?_⟩
   obtain⟨ve,h1,e1⟩:=m.d;refine aE λlB g1_=>?_;have eR:∀ s1 H1,LS K H1 sd dl s1->Fw (λa=>a=sd) H H1->(∀ H',Fw (λa=>a=sd) H H'->LS K H' sd dl {s1 with left:=s1.left-1}->Q (.bl s1.en.isNone) H')->lB [some (.ref sd)] H1:=λs1 H1 m1 f1 q1=>by
    refine g1_ _ _ ?_;obtain⟨ve1,h11,e11⟩:=m1.d;refine⟨_,U,sd,_,U,cE.k (k:=.inr "left") h11,_,_,U,U,_,U,sd,_,U,io.k (k:=.inr "left") h11 (by show 4<sizeLine;omega),?_⟩;obtain⟨m2,f2⟩:=m1.set (s':={s1 with left:=s1.left-1}) e11 rfl;refine⟨_,U,sd,ve1,U,cE.k (k:=.inr "end") (kvs:=stK (s1.left-1) dl ve1 s1.steps) pE,U,?_⟩;rw[e11.dec];exact q1 _ (f1.trans f2) m2
   refine⟨_,U,sd,_,U,cE.k (k:=.inr "left") h1,U,_,U,?_⟩;unfold cb at q;by_cases c:s.left=0
   · simp only[if_pos c] at q;refine pJ (by simpa using c) ⟨_,U,me,λp hp=>?_⟩;have s1:=smu (o:=HO.tup [.str "dry"]) hp;exact⟨sd,dl,s,.dry,.ref p,U,m.same s1,.dry (SqT.of pE),λH' f' m'=>eR _ H' m' ((Fw.of s1).trans f') q⟩
   · simp only[if_neg c] at q;exact pI (by simpa using c) (eR s H m .refl q)
def ye:(["_law_value_here"]:List Str).Nodup:=by left
inductive OpE:Str->List EV->Prop
  | row (xs:List EV) (h:xs.length<=8):OpE "row" xs
  | size (x:EV):OpE "size" [x]
  | not (x:EV):OpE "not" [x]
  | two {s:Str} (x y:EV) (h:s∈(["add","sub","mul","div","less","same","at"]:List Str)) (h1:Sml (aZ x)) (h2:Sml (aZ y)):OpE s [x,y]
def xM {s:Str} {xs:List EV} (h:opA s xs.length=true) (hs:∀ x∈xs,Sml (aZ x)/\(bC x).length<=8):OpE s xs:=by
 unfold opA at h;simp only[Bool.or_eq_true,Bool.and_eq_true,decide_eq_true_eq] at h
 rcases h with (⟨rfl,h⟩ | ⟨h,e⟩) | ⟨h,e⟩
 · exact .row xs h
 · obtain⟨x,rfl⟩:=fD e
   rcases h with rfl | rfl
   · exact .not x
   · exact .size x
 · obtain⟨x,y,rfl⟩:=i4 e;exact .two x y (by rcases h with (((((rfl | rfl) | rfl) | rfl) | rfl) | rfl) | rfl <;> simp) (hs x (by simp)).1 (hs y (by simp)).1
def orE (s:St):OR->EV×St
  | .int i=>(.int i,s)
  | .row is=>(.row is,s)
  | .flt w=>(.int 0,bV s (.flt w))
inductive wk (K:Fg) (vs:List V) (H:Hp) (Q:VK):Prop
  | mk (av:Addr->Prop) (sd dl:Addr) (s:St) (w:Str) (l:Addr) (us:List V) (xs:List EV) (h0:vs=[.ref sd,.str w,.ref l]) (h1:LS K H sd dl s) (h2:H l=some (.lst us)) (h3:Paired (EvV K av H) us xs) (h4:OpE w xs) (q:∀ v H',Fw (λa=>a=sd) H H'->LS K H' sd dl (orE s (opR w (xs.map aZ) (xs.map bC))).2->EvV K av H' v (orE s (opR w (xs.map aZ) (xs.map bC))).1->Q v H'):wk K vs H Q
def xn (K:Fg):Sp:=λvs H Q _=>wk K vs H Q
def AQ (D:Def K mg "_law_sum" (top 60)) (T:Blt mg) (k:KC K mg c) (bH:Fn P w K mg base "_law_worth" 1 ["_law_value_here"] (qE K)) (aV:Fn P w K mg base "_law_ended" 1 ["_law_state","_law_word"] (kY K)):Fn P w K mg base "_law_sum" 2 ["_law_state","_law_word","_law_values_here"] (xn K):=by
 have nd:(["_law_state","_law_word","_law_values_here","_law_one","_law_other_here","_law_found"]:List Str).Nodup:=by left
 exists D.fn (N:=["_law_state","_law_word","_law_values_here","_law_one","_law_other_here","_law_found"]) (~~~nd),jT,_,_,_
 · obtain⟨av,sd,dl,s,w0,l,us,xs,rfl,_⟩:=h;rfl
 · obtain⟨av,sd,dl,s,w0,l,us,xs,rfl,m,hl,hu2,oe,q⟩:=h;have hz0:(40000:Nat)<sizeLine:=∅
   have hu:=cD hr;refine⟨_,(pD (az (pM aB ↥1 pC (pN _)) (pG (ak (ax %[pC,dA T.tuple %[gx (own:=["_law_value_here"]) (outs:=[]) U (br.of (am (top 60)) ["_law_state","_law_word","_law_values_here","_law_one","_law_other_here","_law_found"]) (gw ↥2) (λ_ _ _ _=>⟨(aC (i:=0) ye U (.inl U)),cB,(aj bH ⇑hr U %[0|0])⟩)|0]|0]))) aq)
 (pD (az (pM aB ↥1 pC (pN _)) (pG (ak (bJ (PW.pt (cM (f8 (bN (dP T.isinstance %[ac aw ↥2 pF Ue,cu (v:=.ty "int") U k.bI bU U|0]))) (bW (pM aB (ac ag (ac aw ↥2 pF Ue) pF Ue) pC (pN _))))) (cq T.len %[ac ag (ac aw ↥2 pF Ue) pF Ue|0]) pF))) aq)
 (pD (pL (i:=3) nd U (.inl U) (aj bH ⇑hr U %[ac aw ↥2 pF Ue|0]))
 (pD (az (pM aB ↥1 pC (pN _)) (pG (ak (i7 k.bI %[dz aB ↥3 pF (pN _)|0]))) aq)
 (pD (pL (i:=4) nd U (.inl U) (aj bH ⇑hr U %[ac aw ↥2 pF Ue|0]))
 (pD (az (pM aB ↥1 pC (pN _)) (pD (az (PW.pt (dk (bN (dP T.isinstance %[ac aw ↥2 pF Ue,cu (v:=.ty "int") U k.bI bU U|0])) (dk (pM gz (ac ag (ac aw ↥2 pF Ue) pF Ue) pC (pN _)) (cP (f8 (l7 vR gA pF ↥4 (cq T.len %[ac ag (ac aw ↥2 pF Ue) pF Ue|0]))))))) (pG (ak (aj aV ⇑hr U %[0,ax %[pC,pC|0]|0]))) aq)
 (pG (ak (ac ag (ac ag (ac aw ↥2 pF Ue) pF Ue) ↥4 Ue)))) aq)
 (pD (az (PW.pt (cM (pM aB ↥1 pC (pN _)) (bW (pM aB ↥4 pF (pN _))))) (pG (ak (aj aV ⇑hr U %[0,ax %[pC,pC|0]|0]))) aq)
 (pD (az (PW.pt (dk (pM aB ↥1 pC (pN _)) (cP (pM aB ↥1 pC (pN _))))) (pG (ak (bJ (pM aB ↥1 pC (pN _)) (i7 k.bI %[dz gA ↥3 ↥4 (pN _)|0]) (i7 k.bI %[dz aB ↥3 ↥4 (pN _)|0])))) aq)
 (pD (az (pM aB ↥1 pC (pN _)) (pG (pL (i:=5) nd U (.inl U) (aN lp ↥3 ↥4))) (pG (pL (i:=5) nd U (.inl U) (pK hu (jR (cg pC (aN cG ↥3 ↥4) (cg pC (aN cF ↥3 ↥4) (cg pC (aN dR ↥3 ↥4) jP))) U U (by simp) ∅) ↥1 Ue))))
 (pG (ak (aN cF (aN fq (aN cG ↥5 pF) pF) pF)))))))))))),?_⟩
   dsimp only[be];have ul:=aA hu2;have fin:∀ v H',aI H H'->∀ o,opR w0 (xs.map aZ) (xs.map bC)=o->(∀ f,o≠.flt f)->EvV K av H' v (orE s o).1->Q v H':=λv H' s1 o eo nf hv=>by
    refine q v H' (.of s1) ?_ (by rw[eo];exact hv);rw[eo];cases o with
    | int i=>exact m.same s1
    | row is=>exact m.same s1
    | flt f=>exact absurd U (nf f)
   have ends:∀ (f:Str) (p:Addr) (H1:Hp),aI H H1->opR w0 (xs.map aZ) (xs.map bC)=.flt f->SqT K H1 p [.str "fault",.str f]->sV K [.ref sd,.ref p] H1 Q:=λf p H1 s1 eo hp =>
    ⟨sd,dl,s,.flt f,.ref p,U,m.same s1,.flt hp,λH' f' m'=>q _ H' ((Fw.of s1).trans f') (by rw[eo];exact m') (by rw[eo];exact .int 0)⟩
   clear q;cases oe with
   | row _ h8 =>
    refine⟨_,U,U,_,U,aL ?_⟩;rw[jO,xE,d0,Ct,d0,iJ,d0,eO];refine⟨_,U,l,U,⟨_,SqL.of hl⟩,λG hG=>?_⟩;have k0:=smu (o:=HO.lst []) hG;refine cN.by (df (xs:=us)) (λi σ Hi=>aI H Hi/\Hi G=some (.lst (((xs.take i).map aZ).map V.int))/\∃ y,σ=[y]) ⟨k0,pE,_,U⟩ (λ_ _ _ _ z=>SqL.of (z.1 _ _ hl)) ?_ ?_
    · rintro i u σ Hi hu' ⟨si,hGi,y,rfl⟩;have hi:i<us.length:=(gES.mp hu').1;have hxi:xs[i]?=some (xs[i]'∅):=gEE _;obtain⟨u2,hu3,vu⟩:=aJ hu2 hxi;rw[hu'] at hu3;cases hu3;rw[ce,dC];refine aL ⟨_,U,av,u,_,U,vu.same si,_,hGi,?_,λa v e=>?_,?_,_,U⟩
      · simp only[lMp,lTk];omega
      · rw[af (ao e hG)];exact si _ _ e
      · rw[pE,tAO,hxi,List.map_append,List.map_append];rfl
    · rintro σ Hi ⟨si,hGi,y,rfl⟩;rw[ul,List.take_length] at hGi;refine⟨G,_,U,.inl ⟨SqL.of hGi,λF hF=>?_⟩⟩;have k1:=smu (o:=HO.tup ((xs.map aZ).map V.int)) hF;refine⟨dB,λp hp=>?_⟩;have k2:=smu (o:=HO.tup [.str "row",.ref F]) hp;exact fin _ _ ((si.trans k1).trans k2) (.row (xs.map aZ)) rfl (λf=>nofun) (.row (SqT.of pE) ((SqT.of pE).tk k2.tk))
   | size x =>
    obtain⟨v,hv,vv⟩:=aJ hu2 (i:=0) rfl;refine⟨_,U,U,_,U,ai ?_⟩;refine⟨_,U,U,_,U,aL ?_⟩;refine⟨_,U,l,_,_,_,U,U,SqL.of hl,pH (j:=0) hv,.one v _ _ _ _ U (.ty "int") vv.ty (k.ev x) ⟨_,U,?_⟩⟩;cases hI:evI x with
    | true =>
     refine pI (by simp) (ai ?_);cases vv with
     | int i=>exact fin _ _ (aI.refl _) (.int 0) rfl (λf=>nofun) (.int 0)
     | _=>cases hI
    | false =>
     obtain⟨a,y,ys,rfl,ha,hr'⟩:=vv.tp hI;refine pJ (by simp) ⟨_,U,l,_,_,_,U,U,SqL.of hl,pH (j:=0) hv,a,_,_,_,U,U,ha,pH (j:=0) U,U,_,U,?_⟩;by_cases er:uZ x="row"
     · obtain⟨is,rfl⟩:=oz hI er;obtain⟨t,rfl,ht⟩:=hr' is rfl;refine pJ (by simp[er]) ⟨_,U,l,_,_,_,U,U,SqL.of hl,pH (j:=0) hv,a,_,_,_,U,U,ha,pH (j:=1) U,t,_,U,.inr ht,?_⟩;rw[lMp];exact fin _ _ (aI.refl _) (.int ((is.length:Nat):Int)) rfl (λf=>nofun) (.int _)
     · refine pI (by simpa using er) ?_;have e0:bC x=[]:=lI λis e=>er (by rw[e];rfl);exact fin _ _ (aI.refl _) (.int 0) (by show OR.int (((bC x).length:Nat):Int)=_;rw[e0];rfl) (λf=>nofun) (.int 0)
   | not x =>
    obtain⟨v,hv,vv⟩:=aJ hu2 (i:=0) rfl;refine⟨_,U,U,_,U,ai ?_⟩;refine⟨_,U,U,_,U,ai ?_⟩;refine⟨_,U,l,_,_,_,U,U,SqL.of hl,pH (j:=0) hv,av,v,x,U,vv,?_⟩;refine⟨_,U,U,_,U,aL ?_⟩;refine⟨_,U,U,.inr ⟨_,U,?_⟩⟩;refine fin _ _ (aI.refl _) (.int (if aZ x=0 then 1 else 0)) rfl (λf=>nofun) ?_;by_cases e:aZ x=0
    · rw[if_pos e,show decide (V.int (aZ x)=V.int 0)=true by simpa using e];exact .int 1
    · rw[if_neg e,show decide (V.int (aZ x)=V.int 0)=false by simpa using e];exact .int 0
   | two x y h s1 s2 =>
    obtain⟨v,hv,vv⟩:=aJ hu2 (i:=0) rfl;obtain⟨v',hv',vv'⟩:=aJ hu2 (i:=1) rfl;have n1:w0≠"row":=λe=>by rw[e] at h;exact absurd h (by left)
    have n2:w0≠"size":=λe=>by rw[e] at h;exact absurd h (by left)
    have n3:w0≠"not":=λe=>by rw[e] at h;exact absurd h (by left)
    refine⟨_,U,U,_,U,pI (by simpa using n1) ⟨_,U,U,_,U,pI (by simpa using n2) ?_⟩⟩;refine⟨_,U,l,_,_,_,U,U,SqL.of hl,pH (j:=0) hv,av,v,x,U,vv,?_⟩;refine⟨_,U,U,_,U,pI (by simpa using n3) ?_⟩;refine⟨_,U,l,_,_,_,U,U,SqL.of hl,pH (j:=1) hv',av,v',y,U,vv',?_⟩;simp only[List.mem_cons,nMN,or_false] at h;unfold Sml at s1 s2;have b01:∀ (b:Bool) (H1:Hp),aI H H1->opR w0 (([x,y]:List EV).map aZ) (([x,y]:List EV).map bC)=.int (if b=true then 1 else 0)->Q (.int (if b=true then 1 else 0)) H1:=λb H1 k1 eo=>fin _ _ k1 _ eo (λf=>nofun) (.int _)
    rcases h with rfl | rfl | rfl | rfl | rfl | rfl | rfl
    · 
      refine⟨_,U,U,_,U,ai ⟨_,U,U,_,U,ai (ai ⟨_,U,U,_,U,ai ⟨_,U,U,_,U,ai ⟨_,U,U,_,U,ai ?_⟩⟩⟩)⟩⟩;refine λp hp=>⟨_,U,_,U,_,_,U,U,_,U,_,U,_,_,U,U,_,U,_,U,_,_,U,U,.inl ⟨∅,∅⟩,pE,[(.inr "add",_),(.inr "sub",_),(.inr "mul",_)],U,by show 3<=15;decide,_,U,p,_,U,cE.k (k:=.inr "add") pE,?_⟩;refine⟨_,U,_,_,U,U,_,_,U,U,∅,_,_,U,U,?_⟩;exact fin _ _ (λa u z=>by rw[af (ao z hp),af (ao z hp)];exact z) _ U (λf=>nofun) (.int _)
    · 
      refine⟨_,U,U,_,U,ai ⟨_,U,U,_,U,ai (ai ⟨_,U,U,_,U,ai ⟨_,U,U,_,U,ai ⟨_,U,U,_,U,ai ?_⟩⟩⟩)⟩⟩;refine λp hp=>⟨_,U,_,U,_,_,U,U,_,U,_,U,_,_,U,U,_,U,_,U,_,_,U,U,.inl ⟨∅,∅⟩,pE,[(.inr "add",_),(.inr "sub",_),(.inr "mul",_)],U,by show 3<=15;decide,_,U,p,_,U,cE.k (k:=.inr "sub") pE,?_⟩;refine⟨_,U,_,_,U,U,_,_,U,U,∅,_,_,U,U,?_⟩;exact fin _ _ (λa u z=>by rw[af (ao z hp),af (ao z hp)];exact z) _ U (λf=>nofun) (.int _)
    · 
      refine⟨_,U,U,_,U,ai ⟨_,U,U,_,U,ai (ai ⟨_,U,U,_,U,ai ⟨_,U,U,_,U,ai ⟨_,U,U,_,U,ai ?_⟩⟩⟩)⟩⟩;refine λp hp=>⟨_,U,_,U,_,_,U,U,_,U,_,U,_,_,U,U,_,U,_,U,_,_,U,U,.inl ⟨∅,∅⟩,pE,[(.inr "add",_),(.inr "sub",_),(.inr "mul",_)],U,by show 3<=15;decide,_,U,p,_,U,cE.k (k:=.inr "mul") pE,?_⟩;refine⟨_,U,_,_,U,U,_,_,U,U,∅,_,_,U,U,?_⟩;exact fin _ _ (λa u z=>by rw[af (ao z hp),af (ao z hp)];exact z) _ U (λf=>nofun) (.int _)
    · 
      refine⟨_,U,U,_,U,ai ⟨_,U,U,_,U,aL ⟨_,U,U,_,U,?_⟩⟩⟩;by_cases e:aZ y=0
      · refine pJ (by simpa using e) ⟨_,U,dB,λp hp=>?_⟩;exact ends "nought" p _ (smu hp) (by show (if ("div":Str)="div"/\aZ y=0 then OR.flt "nought" else _)=_;rw[if_pos ⟨U,e⟩]) (SqT.of pE)
      · refine pI (by simpa using e) ⟨_,U,U,_,U,ai ⟨_,U,U,_,U,ai ⟨_,U,U,_,U,aL ?_⟩⟩⟩;refine⟨_,U,_,U,_,_,U,U,⟨e,∅⟩,?_⟩;refine⟨_,U,_,_,U,U,_,_,U,U,∅,_,_,U,U,?_⟩;exact fin _ _ (aI.refl _) (.int (opI "div" (aZ x) (aZ y))) (by show (if ("div":Str)="div"/\aZ y=0 then OR.flt "nought" else _)=_;rw[if_neg λz=>e z.2];rfl) (λf=>nofun) (.int _)
    · 
      refine⟨_,U,U,_,U,ai ⟨_,U,U,_,U,ai (ai ⟨_,U,U,_,U,aL (aL ⟨_,U,U,_,U,aL ?_⟩)⟩)⟩⟩;refine⟨_,U,_,U,_,_,U,U,.inr ⟨_,U,?_⟩⟩;refine b01 _ _ (aI.refl _) ?_;show OR.int (if aZ x<aZ y then 1 else 0)=_;by_cases e:aZ x<aZ y
      · rw[if_pos e,if_pos (by simpa using e)]
      · rw[if_neg e,if_neg (by simpa using e)]
    · 
      refine⟨_,U,U,_,U,ai ⟨_,U,U,_,U,ai (ai ⟨_,U,U,_,U,ai ⟨_,U,U,_,U,aL ⟨_,U,U,_,U,ai ?_⟩⟩⟩)⟩⟩;refine⟨_,U,_,U,U,.inr ⟨_,U,?_⟩⟩;refine b01 _ _ (aI.refl _) ?_;show OR.int (if aZ x=aZ y then 1 else 0)=_;by_cases e:aZ x=aZ y
      · rw[if_pos e,if_pos (by simpa using e)]
      · rw[if_neg e,if_neg (by simpa using e)]
    · 
      have eo:opR "at" (([x,y]:List EV).map aZ) (([x,y]:List EV).map bC)=if 0<=aZ y/\aZ y<(((bC x).length:Nat):Int) then .int (nat (bC x) (aZ y).toNat) else .flt "range":=rfl
      refine⟨_,U,U,_,U,aL ?_⟩;have bad:(¬ (0<=aZ y/\aZ y<(((bC x).length:Nat):Int)))->opR "at" (([x,y]:List EV).map aZ) (([x,y]:List EV).map bC)=.flt "range":=λz=>by rw[eo,if_neg z]
      refine⟨_,U,l,_,_,_,U,U,SqL.of hl,pH (j:=0) hv,.one v _ _ _ _ U (.ty "int") vv.ty (k.ev x) ⟨_,U,?_⟩⟩;cases hI:evI x with
      | true =>
       have e0:bC x=[]:=by cases vv with | int i=>rfl | row _ _=>cases hI | rcd _ _ _ _=>rfl | fn _ _ _ _ _ _ _ _ _ _ _=>rfl
       refine aL (aL ⟨_,U,dB,λp hp=>?_⟩);exact ends "range" p _ (smu hp) (bad (by rw[e0];rintro⟨z1,z2⟩;simp at z2;omega)) (SqT.of pE)
      | false =>
       obtain⟨a,y0,ys,rfl,ha,hr'⟩:=vv.tp hI;refine ai ⟨_,U,l,_,_,_,U,U,SqL.of hl,pH (j:=0) hv,a,_,_,_,U,U,ha,pH (j:=0) U,U,_,U,?_⟩;by_cases er:uZ x="row"
       · obtain⟨is,rfl⟩:=oz hI er;obtain⟨t,rfl,ht⟩:=hr' is rfl;refine pI (by simp[er]) ⟨_,U,_,_,U,U,_,U,?_⟩;by_cases e1:0<=aZ y
         · refine pJ (by simpa using e1) ⟨_,U,l,_,_,_,U,U,SqL.of hl,pH (j:=0) hv,a,_,_,_,U,U,ha,pH (j:=1) U,t,_,U,.inr ht,_,_,U,U,_,U,?_⟩;rw[lMp];by_cases e2:aZ y<((is.length:Nat):Int)
           · refine pI (by simpa using e2) ?_;obtain⟨n,hn⟩:=Int.eq_ofNat_of_zero_le e1;have hn':n<is.length:=∅
             refine⟨_,U,l,_,_,_,U,U,SqL.of hl,pH (j:=0) hv,a,_,_,_,U,U,ha,pH (j:=1) U,_,U,t,_,_,V.int (nat is n),U,U,ht,?_,?_⟩
             · rw[hn];refine pH (j:=n) ?_;unfold nat;rw[gEM,gEE hn'];rfl
             · refine fin _ _ (aI.refl _) (.int (nat is n)) ?_ (λf=>nofun) (.int _);rw[eo,if_pos ⟨e1,e2⟩,hn];rfl
           · refine pJ (by simpa using e2) ⟨_,U,dB,λp hp=>?_⟩;exact ends "range" p _ (smu hp) (bad λz=>e2 z.2) (SqT.of pE)
         · refine pI (by simpa using e1) ⟨_,U,aL ⟨_,U,dB,λp hp=>?_⟩⟩;exact ends "range" p _ (smu hp) (bad λz=>e1 z.1) (SqT.of pE)
       · have e0:bC x=[]:=lI λis e=>er (by rw[e];rfl);refine pJ (by simpa using er) (aL ⟨_,U,dB,λp hp=>?_⟩);exact ends "range" p _ (smu hp) (bad (by rw[e0];rintro⟨z1,z2⟩;simp at z2;omega)) (SqT.of pE)
end
end K19
namespace L2
open PySem PySem.Spec PyProof.Rows
section
variable {prog:Program} {w:World} {A:Around} {E:VSP} {s:Shared}
def vj:typeLookup (.type "list") "keys"=pure none:=am_miss_of_fast (by left)
def BA {a:Addr} {xs:Array Value} {k:Nat} {u:Tok} {Q:VSP} (hx:s.heap.get? a=some {cls:=.type "list",data:=.seq xs k}) (hA:A.handled=none)
 (h:∀ h' tk e,Heap.NewExcOf s.heap h' e "AttributeError"->E (.ref e) {s with heap:=h',toks:=tk}):wpAny (model prog w) A (getAttrBy (.ref a) (.str "keys" u) false) Q E s:=by
 obtain⟨hp,g,d,tk,os⟩:=s;have hT:∀ tk',(⟨hp,g,d,tk',os⟩:Shared).TypeIs (.ref a) "list":=λ_=>⟨_,hx,U⟩;have f1:=sub_AttributeError;have f3:=F.slot_list_getattribute.lookup;have f4:=F.slot_list_getattribute.bind (.ref a);have f5:=am_list_getattr_none;unfold getAttrBy
 repeat (any_goals (first | assumption | exact hT _ | ((with_reducible show wpAny _ _ (call (Value.builtin "list.__getattribute__") _ _) _ _ _);refine call_meets F.slot_list_getattribute (hT _) am_entry_list_getattribute (F.args_list_getattribute_2 _ _) (meets_getattribute_miss_list a xs k _ "keys" _ vj (by left)) ⟨hx,hA,λh' tk' e hx'=>?_⟩) | wp_step))
 obtain⟨t',u',he⟩:=hx'.there;show wpAny _ _ (getattributeRaised _ _ _ _ _ _ _) _ _ _;unfold getattributeRaised
 repeat (any_goals (first | assumption | wp_step))
 exact h _ _ _ hx'.of
def vo {a:Addr} {xs:Array Value} {k:Nat} {Q:Option Value->Shared->Prop} (hx:s.heap.get? a=some {cls:=.type "list",data:=.seq xs k}) (hA:A.handled=none)
 (h:∀ h' tk,(∀ b ob,s.heap.get? b=some ob->h'.get? b=some ob)->Q none {s with heap:=h',toks:=tk}):wpAny (model prog w) A (getAttr? (.ref a) "keys") Q E s:=by
 unfold getAttr? getAttrBy?;obtain⟨hp,g,d,tk,os⟩:=s;have f1:=sub_AttributeError;refine wB (wpAny_mkText ?_);refine wB (wpAny_attempt (BA hx hA λh' tk' e z=>?_));have hT:(⟨h',g,d,tk',os⟩:Shared).TypeIs (.ref e) "AttributeError":=by
  obtain⟨c,f,he,hc,_⟩:=z.there;exact⟨_,he,hc⟩
 repeat (any_goals (first | assumption | wp_step))
 exact h _ _ z.keeps
def vh {a:Addr} {k v:Value} {Q:List Value->Shared->Prop} (ht:IsTup s.heap a #[k,v]) (h:Q [k,v] s):wpAny (model prog w) A (Builtin.Dict.pairItems (.ref a)) Q E s:=by
 obtain⟨o,ho,hc,n,hd⟩:=ht;unfold Builtin.Dict.pairItems;refine wB (wpAny_typeOf ⟨_,ho,hc⟩ ?_);rw[if_pos ∅];refine wB (wpAny_seqItems ho hd ?_);exact wP h
def gO:plainId "dict.update.loop"=true:=by left
def lK:entryFor table "dict.update.loop"=some Builtin.«dict.update.loop»:=entryFor_of_tree (by right)
def vm {R:Result->Shared->Prop} {I l d:Addr} {as:List Addr} {ps:List (Key×Value)} {h0:Heap} (hA:A.in1.handled=none) (hlI:l≠I) (hdl:d≠l) (hdI:d≠I)
 (ht:∀ (i:Nat) (a:Addr) (p:Key×Value),as[i]?=some a->ps[i]?=some p->∃ kv,IsTup h0 a #[kv,p.2]/\(aP prog w).is p.1 kv=true) (hz:as.length=ps.length) (hn:as.length<=1000) (ha:∀ a∈as,a≠d/\a≠I) :
 ∀ (k i:Nat) (s:Shared),as.length-i=k->i<=as.length->s.heap.IsListIter I l i->s.heap.IsList l (as.map Value.ref).toArray->(∀ b o,b≠d->b≠I->h0.get? b=some o->s.heap.get? b=some o)->s.heap.DictOf (aP prog w) d (merged [] (ps.take i)) ->
  (∀ h' tk,(∀ b o,b≠d->b≠I->h0.get? b=some o->h'.get? b=some o)->h'.DictOf (aP prog w) d (merged [] ps)->R (.ok (.ret .none)) {s with heap:=h',toks:=tk}) ->
  ∀ j u,codeAny (model prog w) A (.builtin "dict.update.loop" ⟨[.ref d,.ref I,.int j u,.none],[]⟩) R s:=by
 have W:=Walks.list (prog:=prog) (w:=w) (A:=A.in1) hA I l hlI (as.map Value.ref).toArray;have hsz:(as.map Value.ref).toArray.size=as.length:=by simp
 intro k
 induction k with
 | zero =>
  intro i s hk hi hI hL hx hd hR j u;have hin:i=as.length:=∅
  subst hin;refine codeAny_builtin lK ?_;rw[Around.under_plainId gO _];show wpAny _ A.in1 (pyNext (.ref I)>>=_) _ _ s;refine wB (W.done s _ _ (by rw[hsz];exact⟨hI,hL⟩) λh' tk hm=>?_);show wpAny _ A.in1 (Builtin.Dict.addKeywords d []>>=_) _ _ _;refine wB (wP ?_);refine wP (hR h' tk (λb o n1 n2 e=>hm b o (by simpa using n2) (hx b o n1 n2 e)) ?_);rw[hz,List.take_length] at hd;obtain⟨o,es,ep,ho,r⟩:=hd;exact⟨o,es,ep,hm d o (by simpa using hdI) ho,r⟩
 | succ k ih =>
  intro i s hk hi hI hL hx hd hR j u;have hlt:i<as.length:=∅
  refine codeAny_builtin lK ?_;rw[Around.under_plainId gO _];show wpAny _ A.in1 (pyNext (.ref I)>>=_) _ _ s;refine wB (W.item i s _ _ (by rw[hsz];exact hlt) ⟨hI,hL⟩ λv h' tk hP hst' hm=>?_);have hai:as[i]?=some as[i]:=gEE hlt;have ev:v=.ref as[i]:=by
   have:(as.map Value.ref).toArray[i]?=some (.ref as[i]):=by simp[hlt]
   rw[this] at hP;cases hP;rfl
  subst ev;have hpi:ps[i]?=some (ps[i]'∅):=gEE _;obtain⟨kv,htup,hkey⟩:=ht i _ _ hai hpi;obtain⟨na,nI⟩:=ha _ (mGE hai);have hx':∀ b o,b≠d->b≠I->h0.get? b=some o->h'.get? b=some o:=λb o n1 n2 e=>hm b o (by simpa using n2) (hx b o n1 n2 e);have htup':IsTup h' as[i] #[kv,(ps[i]'∅).2]:=by
   obtain⟨o,ho,r⟩:=htup;exact⟨o,hx' _ _ na nI ho,r⟩
  have hd':h'.DictOf (aP prog w) d (merged [] (ps.take i)):=by
   obtain⟨o,es,ep,ho,r⟩:=hd;exact⟨o,es,ep,hm d o (by simpa using hdI) ho,r⟩
  have hl1:(merged ([]:List (Key×Value)) (ps.take i)).length<=sizeLine:=by
   have:=merged_length_le ([]:List (Key×Value)) (ps.take i);rw[lTk] at this;have:(40000:Nat)<sizeLine:=∅
   simp only[List.length_nil] at *;omega
  show wpAny _ A.in1 (holding [Value.ref as[i]] _>>=_) _ _ _;refine wB (wpAny_holding ?_);refine wB (wpAny_tryCatch (vh htup' ?_));show wpAny _ A.in1 (holding [kv,(ps[i]'∅).2] (dictSet d kv (ps[i]'∅).2)) _ _ _;refine wpAny_holding (wpAny_dictSet_pairs (knd:=aP prog w) (hsz:=hl1) hkey hd' λh'' hd'' hs=>?_);refine wP ⟨plainId_quiet gO _,ih (i+1) {s with heap:=h'',toks:=tk+1} ∅ hlt ?_ ?_ ?_ ?_ (λh2 tk2 a b=>hR h2 tk2 a b) _ _⟩
  · exact hst'.1.at λo e=>by rw[hs.2 I (Ne.symm hdI)];exact e
  · exact hst'.2.at λo e=>by rw[hs.2 l (Ne.symm hdl)];exact e
  · exact λb o n1 n2 e=>by rw[hs.2 b n1];exact hx' b o n1 n2 e
  · rw[merged_take_succ _ _ _ _ hpi];exact hd''
def jj {l:Addr} {nl:Nat} {as:List Addr} {ps:List (Key×Value)} {Q:VSP} (hA:A.handled=none) (hl:s.heap.get? l=some {cls:=.type "list",data:=.seq (as.map Value.ref).toArray nl})
 (ht:∀ (i:Nat) (a:Addr) (p:Key×Value),as[i]?=some a->ps[i]?=some p->∃ kv,IsTup s.heap a #[kv,p.2]/\(aP prog w).is p.1 kv=true) (hz:as.length=ps.length) (hn:as.length<=1000)
 (h:∀ h' tk,(∀ b o,s.heap.get? b=some o->h'.get? b=some o)->h'.DictOf (aP prog w) s.heap.objs.size (merged [] ps)->Q (.ref s.heap.objs.size) {s with heap:=h',toks:=tk}) :
 wpAny (model prog w) A (call (.type "dict") [.ref l]) Q E s:=by
 refine callType_codes (Q₁:=λobj s₁=>obj=.ref s.heap.objs.size/\s₁={s with heap:=s.heap.push {cls:=.type "dict",data:=.dict #[]}}) F.kt_called_dict (F.kt_typeCall_dict_1 _) F.entry_dict_init (kt_code_dict_new _ ⟨U,U⟩) ?_;rintro obj s₁ ⟨rfl,rfl⟩;have hnew:(s.heap.push {cls:=.type "dict",data:=.dict #[]}).DictOf (aP prog w) s.heap.objs.size []:=Heap.DictOf.new s.heap;have hl':(s.heap.push {cls:=.type "dict",data:=.dict #[]}).get? l=some {cls:=.type "list",data:=.seq (as.map Value.ref).toArray nl}:=hpS _ hl;have hlS:=Heap.lt_size hl;refine⟨hnew.typeIs,F.args_dict_init_2 _ _,?_⟩;unfold Builtin.«dict.__init__»;refine wB ?_;unfold Builtin.Dict.selfAndRest;refine wB (wpAny_notOrdered_dict hnew.typeIs ?_);show wpAny _ _ (pure (s.heap.objs.size,[Value.ref l])) _ _ _;refine wP ?_;show wpAny _ _ (Builtin.Dict.updateFrom "dict.__init__" s.heap.objs.size (.ref l) [] .none) _ _ _;unfold Builtin.Dict.updateFrom;refine wB (wpAny_typeOf (T:="list") ⟨_,hl',U⟩ ?_);rw[if_pos ∅];have hh:A.in1.in1.handled=none:=by simp[hA]
 refine wB (vo hl' hh λh1 tk1 k1=>?_);show wpAny _ _ (rule _>>=_) _ _ _;refine wB (wpAny_rule ?_);have hl1:h1.IsList l (as.map Value.ref).toArray:=⟨_,k1 _ _ hl',U,nl,U⟩;refine wB (wpAny_pyIter_list hl1 ?_);refine wP ⟨plainId_quiet gO _,?_⟩;have hs1:s.heap.objs.size<h1.objs.size:=by
  obtain⟨o,_,_,ho,_⟩:=hnew;exact Heap.lt_size (k1 _ _ ho)
 refine vm (I:=h1.objs.size) (l:=l) (d:=s.heap.objs.size) (as:=as) (ps:=ps) (h0:=s.heap) (by simp[hA]) (Nat.ne_of_lt (Nat.lt_trans hlS hs1)) (Ne.symm (Nat.ne_of_lt hlS)) (Nat.ne_of_lt hs1) ht hz hn (λa m=>?_) _ 0 _ rfl (Nat.zero_le _) ?_ ?_ ?_ ?_ (λh2 tk2 k2 d2=>?_) _ _
 · obtain⟨i,hi,rfl⟩:=List.getElem_of_mem m;obtain⟨kv,⟨o,ho,_⟩,_⟩:=ht i _ _ (gEE hi) (gEE ∅);have:=Heap.lt_size ho;exact⟨Nat.ne_of_lt this,Nat.ne_of_lt (Nat.lt_trans this hs1)⟩
 · exact⟨_,Heap.get?_push_size _ U,U,U⟩
 · exact hl1.push _
 · exact λb o n1 n2 e=>hpS _ (k1 _ _ (hpS _ e))
 · obtain⟨o,es,ep,ho,r⟩:=hnew;exact⟨o,es,ep,hpS _ (k1 _ _ ho),r⟩
 · exact⟨U,h h2 tk2 (λb o e=>k2 b o (Nat.ne_of_lt (Heap.lt_size e)) (Nat.ne_of_lt (Nat.lt_trans (Heap.lt_size e) hs1)) e) d2⟩
end
section
variable {X:Cx} {p pos:Pos} {e:Expr} {es:List Expr} {t:TA}
inductive tz (K:Fg) (xs:List V) (H:Hp) (Q:VK):Prop
  | mk (l:Addr) (as:List Addr) (ks:List (Int×V)) (h1:xs=[.ref l]) (h2:H l=some (.lst (as.map V.ref))) (h3:Paired (λa (p:Int×V)=>SqT K H a [.int p.1,p.2]) as ks) (h4:as.length<=1000) (q:∀ p,H p=none->Q (.ref p) (upd H p (.dK (cC [] (ks.map λp=>(.inl p.1,p.2)))))):tz K xs H Q
def qS (K:Fg):List V->Hp->VK->Prop:=λxs H Q=>tz K xs H Q
def oP:∀ {as:List Addr} {its:List Value},aT (as.map V.ref) its->its=as.map Value.ref:=by
 intro as
 induction as with
 | nil=>intro its h;cases h;rfl
 | cons a r ih =>
  intro its h;cases h with
  | @cons _ u _ us z zr =>
   cases (show u=Value.ref a from z);rw[ih zr];rfl
def vg {pins:AOs} {s:Shared} {σ:St} {H:Hp} (I:Inv X pins σ H s) {as:List Addr} {ks:List (Int×V)} (h3:Paired (λa (p:Int×V)=>SqT X.K H a [.int p.1,p.2]) as ks) :
 ∃ ps:List (Key×Value),KV (ks.map λp=>(.inl p.1,p.2)) ps/\as.length=ps.length/\∀ (i:Nat) (a:Addr) (p:Key×Value),as[i]?=some a->ps[i]?=some p->∃ kv,IsTup s.heap a #[kv,p.2]/\(aP X.prog X.w).is p.1 kv=true:=by
 induction h3 with
 | nil=>exact⟨[],.nil,U,λi a p h=>nomatch h⟩
 | @cons a q r r' z _ ih =>
  obtain⟨ps,k1,k2,k3⟩:=ih;obtain⟨its,vl,tup,_⟩:=I.tuple z;cases vl with
  | @cons _ u1 _ us r1 vl =>
   cases vl with
   | @cons _ u2 _ us r2 vl =>
    cases vl;refine⟨(.inl q.1,u2)::ps,.cons ⟨U,r2⟩ k1,by rw[List.length_cons,List.length_cons,k2],λi a' p e1 e2=>?_⟩;cases i with
    | zero =>
     cases e1;cases e2;exact⟨u1,tup,jv (k:=.inl q.1) r1⟩
    | succ i=>exact k3 i a' p e1 e2
def mX (hc:X.calm=true):ga X (.type "dict") (qS X.K):=by
 intro pins s σ H xs us Q I rv h;have hh:X.A.handled=none:=I.ok.hd hc;obtain⟨l,as,ks,rfl,e,hp,hn,q⟩:=h;obtain⟨u,rfl,ru⟩:=rv.one;cases ru;obtain⟨z,its,nl,vl,hg⟩:=I.hok l _ e;have ei:=oP vl;subst ei;obtain⟨ps,k1,k2,k3⟩:=vg I hp;refine jj hh hg k3 k2 hn λh' tk kp dd=>?_;have km:=KV.merge k1 (kvs:=[]) (vs:=[]) .nil;have hz:(cC [] (ks.map λp=>((.inl p.1,p.2):Key×V))).length<=sizeLine:=by
  have:=dU (ks.map λp=>((.inl p.1,p.2):Key×V)) [];have:=Paired.length hp;have:(40000:Nat)<sizeLine:=∅
  simp only[lMp,List.length_nil] at *;omega
 refine⟨.ref _,_,I.laid (a:=s.heap.objs.size) (o:=.dK (cC [] (ks.map λp=>(.inl p.1,p.2)))) (h':=h') (t':=tk) kp (Nat.le_refl _) (jZ hz ?_ km dd),U,q _ (I.hok.fresh (Nat.le_refl _))⟩;exact beq_eq_false_iff_ne.mpr (Ne.symm (Nat.ne_of_lt I.big))
def oM (hm:X.mg "dict"=none) (ha:PA X (e::es) t) (hc:X.calm=true:=by rfl) (hg:Gl X "dict":=by rfl)
 (he:starEach (e::es) X.env=(false,eval e X.env)::starEach es X.env:=by rfl) (hpl:(backTo pos (starEach es X.env)).any (·.1)=false:=by rfl) :
 PE X (.Call (.Name "dict" p) (e::es) [] pos) (tCB (qS X.K) t):=dZ (mX hc) hg hm j9 ha (he:=he) (hpl:=hpl)
end
end L2
namespace K19
open PySem L2 P10
abbrev ps4:List Str:=["_law_core_here","_law_state","_law_names","_law_e_here"]
def P3 (sd dl nd:Addr):Addr->Prop:=λa=>a=sd\/a=dl\/a=nd
structure FK (F:List Fun):Prop where
  c:∀ f∈F,f.ct<=9
  x:∀ f∈F,Hx f.bd
structure CW (K:Fg) (H:Hp) (av:Addr->Prop) (F:List Fun) (R:List Nat) (O:List (Str×Nat)) (vc:V) (sd dl nd:Addr) (g:Env) (s:St):Prop where
  c:TD K H vc (coreD F R O)
  s:LS K H sd dl s
  n:NV K av H nd g
  a1:av sd
  a2:av dl
  a3:av nd
  al:∀ a,av a->H a≠none
  ne:sd≠nd
  fk:FK F
section
variable {K:Fg} {H H':Hp} {av:Addr->Prop} {F:List Fun} {R:List Nat} {O:List (Str×Nat)} {vc:V} {sd dl nd:Addr} {g g':Env} {s s':St}
def CW.sub (h:CW K H av F R O vc sd dl nd g s):∀ a,P3 sd dl nd a->av a:=λa z=>by
 rcases z with rfl | rfl | rfl
 · exact h.a1
 · exact h.a2
 · exact h.a3
def CW.go (h:CW K H av F R O vc sd dl nd g s) (f:Fw (P3 sd dl nd) H H') (l:LS K H' sd dl s') (n:NV K av H' nd g'):CW K H' av F R O vc sd dl nd g' s' :=
 ⟨h.c.tk f.tk,l,n,h.a1,h.a2,h.a3,λa z=>f.al a (h.al a z),h.ne,h.fk⟩
def CW.same (h:CW K H av F R O vc sd dl nd g s) (e:aI H H'):CW K H' av F R O vc sd dl nd g s:=h.go (.of e) (h.s.same e) (h.n.same e)
def Fw.s3 (f:Fw (λa=>a=sd) H H'):Fw (P3 sd dl nd) H H':=f.mono λa z=>.inl z
def Fw.n3 (f:Fw (λa=>a=nd) H H'):Fw (P3 sd dl nd) H H':=f.mono λa z=>.inr (.inr z)
def Fw.l3 (f:Fw (λa=>a=dl) H H'):Fw (P3 sd dl nd) H H':=f.mono λa z=>.inr (.inl z)
def CW.st (h:CW K H av F R O vc sd dl nd g s) (f:Fw (λa=>a=sd) H H') (l:LS K H' sd dl s'):CW K H' av F R O vc sd dl nd g s' :=
 h.go f.s3 l (h.n.fw f (Ne.symm h.ne) λa z=>by rw[z];exact h.a1)
def CW.put (h:CW K H av F R O vc sd dl nd g s) {x:Int} (hx:Rg x) {v:V} {y:EV} (hv:EvV K av H v y):∃ H',io H nd (.int x) v H'/\CW K H' av F R O vc sd dl nd (put g x y) s/\Fw (P3 sd dl nd) H H':=by
 obtain⟨H',d,n,f⟩:=h.n.put hx hv h.a3;exact⟨H',d,h.go f.n3 (h.s.fw f h.ne (Ne.symm (h.n.nel h.s))) n,f.n3⟩
def CW.get (h:CW K H av F R O vc sd dl nd g s) {x:Int} {y:EV} (e:g.lookup x=some y):∃ v,cE H nd (.int x) (some v)/\EvV K av H v y:=by
 obtain⟨⟨kvs,h1,e1⟩,ko⟩:=h.n;obtain⟨v,a,b⟩:=yt e1 e;exact⟨v,by rw[<- a];exact cE.k (k:=.inl x) h1,b⟩
def CW.enG (h:CW K H av F R O vc sd dl nd g s):∃ ve,cE H sd (.str "end") (some ve)/\EnW K H ve s.en:=by
 obtain⟨ve,h1,e1⟩:=h.s.d;exact⟨ve,cE.k (k:=.inr "end") h1,e1⟩
def CW.new (h:CW K H av F R O vc sd dl nd g s) {p:Addr} (hp:H p=none):¬ av p:=λz=>h.al p z hp
end
def hdW:Ex->Str
  | .num _=>"number"
  | .nam _=>"name"
  | .bnd w _ _ _=>wB w
  | .each _ _ _=>"each"
  | .set _ _=>"set"
  | .seq _=>"do"
  | .ite _ _ _=>"if"
  | .whl _ _=>"while"
  | .say _=>"say"
  | .flt _=>"fault"
  | .op _ _=>"op"
  | .new _ _=>"new"
  | .get _ _ _=>"get"
  | .fn _ _=>"fun"
  | .app _ _=>"apply"
  | .cal _ _=>"call"
def zl {K:Fg} {H:Hp} {ve:V} {e:Ex} (h:TD K H ve (exD e)):∃ ad ys,ve=.ref ad/\SqT K H ad (.str (hdW e)::ys):=by
 have:∃ ps,exD e=.tuple (.str (hdW e)::ps):=by cases e <;> exact⟨_,U⟩
 obtain⟨ps,eq⟩:=this;rw[eq] at h;obtain⟨ad,ys,rfl,ha,hy⟩:=h.tup_of;obtain⟨y,yr,rfl,t1,_⟩:=cA hy;cases t1;exact⟨ad,yr,U,ha⟩
abbrev Evf:=List Fun->Env->St->Ex->Option R
inductive BG (K:Fg) (ev:Evf) (vs:List V) (H:Hp) (Q:VK):Prop
  | mk (av:Addr->Prop) (F:List Fun) (R:List Nat) (O:List (Str×Nat)) (vc ve:V) (sd dl nd:Addr) (g:Env) (s:St) (e:Ex) (v':EV) (g':Env) (s':St) (h0:vs=[vc,.ref sd,.ref nd,ve]) (h1:CW K H av F R O vc sd dl nd g s) (h2:TD K H ve (exD e)) (h3:Hx e) (h4:ev F g s e=some (v',g',s'))
    (q:∀ v H',Fw (P3 sd dl nd) H H'->CW K H' av F R O vc sd dl nd g' s'->EvV K av H' v v'->Q v H'):BG K ev vs H Q
def spX (K:Fg) (ev:Evf):Sp:=λvs H Q _=>BG K ev vs H Q
inductive wz (K:Fg) (f:Nat) (vs:List V) (H:Hp) (Q:VK):Prop
  | mk (av:Addr->Prop) (F:List Fun) (R:List Nat) (O:List (Str×Nat)) (vc ve:V) (sd dl nd:Addr) (g:Env) (s:St) (es:List Ex) (ws:List EV) (g':Env) (s':St) (h0:vs=[vc,.ref sd,.ref nd,ve]) (h1:CW K H av F R O vc sd dl nd g s) (h2:TD K H ve (.tuple (cx es))) (h3:∀ e∈es,Hx e) (h4:evL F f g s es=some (ws,g',s'))
    (q:∀ l us H',Fw (P3 sd dl nd) H H'->CW K H' av F R O vc sd dl nd g' s'->H l=none->H' l=some (.lst us)->Paired (EvV K av H') us ws->Q (.ref l) H'):wz K f vs H Q
def qF (K:Fg) (f:Nat):Sp:=λvs H Q _=>wz K f vs H Q
inductive wG (K:Fg) (f:Nat) (vs:List V) (H:Hp) (Q:VK):Prop
  | mk (av:Addr->Prop) (F:List Fun) (R:List Nat) (O:List (Str×Nat)) (vc ve:V) (sd dl nd:Addr) (g:Env) (s:St) (e:Ex) (b:Bool) (g':Env) (s':St) (h0:vs=[vc,.ref sd,.ref nd,ve]) (h1:CW K H av F R O vc sd dl nd g s) (h2:TD K H ve (exD e)) (h3:Hx e) (h4:evH F f g s e=some (b,g',s'))
    (q:∀ H',Fw (P3 sd dl nd) H H'->CW K H' av F R O vc sd dl nd g' s'->Q (.bl b) H'):wG K f vs H Q
def xq (K:Fg) (f:Nat):Sp:=λvs H Q _=>wG K f vs H Q
def fB (f:Nat):Evf:=λF g s e=>match e with
  | .bnd _ x a b=>evB F f g s x a b
  | _=>none
def fW (f:Nat):Evf:=λF g s e=>match e with
  | .whl a b=>evW F f g s a b
  | .each x a b=>evE F f g s x a b
  | _=>none
def fA (f:Nat):Evf:=λF g s e=>match e with
  | .app a es=>evA F f g s a es
  | _=>none
def fC (f:Nat):Evf:=λF g s e=>match e with
  | .cal k es=>evC F f g s k es
  | _=>none
def fG (f:Nat):Evf:=λF g s e=>match e with
  | .get r i a=>evG F f g s r i a
  | _=>none
def fV (f:Nat):Evf:=λF g s e=>evV F f g s e
def fO_ (f:Nat):Evf:=λF g s e=>evO F f g s e
def bind_some {α β:Type} {o:Option α} {f:α->Option β} {y:β} (h:o.bind f=some y):∃ x,o=some x/\f x=some y:=Option.bind_eq_some_iff.mp h
def map_some {α β:Type} {o:Option α} {f:α->β} {y:β} (h:o.map f=some y):∃ x,o=some x/\f x=y:=oMS.mp h
section
variable {P:Program} {w:World} {K:Fg} {mg:SOV} {base:Heap} {c:Ks} {av:Addr->Prop} {H:Hp} {sd dl:Addr}
def xT (D:Def K mg "_law_value" (top 69)) {f:Nat} (aV:Fn P w K mg base "_law_ended" 1 ["_law_state","_law_word"] (kY K)) (lY:Fn P w K mg base "_law_bound" (f+3) ps4 (spX K (fB f))) (nu:Fn P w K mg base "_law_loop" (f+3) ps4 (spX K (fW f))) (jm:Fn P w K mg base "_law_applied" (f+3) ps4 (spX K (fA f))) (kz:Fn P w K mg base "_law_called" (f+3) ps4 (spX K (fC f))) (qk:Fn P w K mg base "_law_got" (f+3) ps4 (spX K (fG f))) (lX:Fn P w K mg base "_law_other" (f+3) ps4 (spX K (fO_ f))) (hdict:mg "dict"=none):Fn P w K mg base "_law_value" (f+4) ["_law_core_here","_law_state","_law_names","_law_e_here"] (spX K (fV (f+1))):=by
 have nd:(["_law_core_here","_law_state","_law_names","_law_e_here"]:List Str).Nodup:=by left
 exists D.fn (N:=["_law_core_here","_law_state","_law_names","_law_e_here"]) (~~~nd),bL
 · obtain⟨av,F,R,O,vc,ve,sd,dl,nd0,g,s,e,v1,g1,s1,rfl,_⟩:=h;rfl
 · obtain⟨av,F,R,O,vc,ve,sd,dl,nd0,g,s,e,v1,g1,s1,rfl,cw,he,hx,hev,q⟩:=h;have hz0:(40000:Nat)<sizeLine:=∅
   have hu:=cD hr;refine⟨_,(pD (du hu ↥1 pC (aN cG (pK hu ↥1 pC Ue) pF) U)
 (pD (az (pM iP (pK hu ↥1 pC Ue) pF (pN _)) (pG (aH (aj aV ⇑hr U %[1,ax %[pC|0]|0]))) aq)
 (pD (az (pM gy (pK hu ↥1 pC Ue) bR (pN _)) (pG (ak pF)) aq)
 (pD (az (pM aB ↥↥3 pC (pN _)) (pG (ak ↥↥3)) aq)
 (pD (az (pM aB ↥↥3 pC (pN _)) (pG (ak (pK hu ↥2 ↥↥3 Ue))) aq)
 (pD (az (PW.pt (dk (pM aB ↥↥3 pC (pN _)) (cP (pM aB ↥↥3 pC (pN _))))) (pG (ak (aj lY ⇑hr U %[0,1,2,3|0]))) aq)
 (pD (az (PW.pt (dk (pM aB ↥↥3 pC (pN _)) (cP (pM aB ↥↥3 pC (pN _))))) (pG (ak (aj nu ⇑hr U %[0,1,2,3|0]))) aq)
 (pD (az (pM aB ↥↥3 pC (pN _)) (pG (ak (ax %[pC,↥↥3,↥↥3,oN hdict %[2|0]|0]))) aq)
 (pD (az (pM aB ↥↥3 pC (pN _)) (pG (ak (aj jm ⇑hr U %[0,1,2,3|0]))) aq)
 (pD (az (pM aB ↥↥3 pC (pN _)) (pG (ak (aj kz ⇑hr U %[0,1,2,3|0]))) aq)
 (pD (az (pM aB ↥↥3 pC (pN _)) (pG (ak (aj qk ⇑hr U %[0,1,2,3|0]))) aq)
 (pG (ak (aj lX ⇑hr U %[0,1,2,3|0])))))))))))))),?_⟩
   dsimp only[be];obtain⟨ve0,h1,e1⟩:=cw.s.d;refine aE λlB g1_=>?_;refine⟨_,U,sd,_,U,cE.k (k:=.inr "steps") h1,_,_,U,U,_,U,sd,_,U,io.k (k:=.inr "steps") h1 (by show 4<sizeLine;omega),?_⟩;obtain⟨m1,f1⟩:=cw.s.set (s':={s with steps:=s.steps+1}) e1 rfl;rw[show dn (stK s.left dl ve0 s.steps) (.inr "steps") (.int (((s.steps:Nat):Int)+1))=stK s.left dl ve0 (s.steps+1) from rfl];have cw1:=cw.st f1 m1;have u1:(upd H sd (.dK (stK s.left dl ve0 (s.steps+1)))) sd=some (.dK (stK s.left dl ve0 (s.steps+1))):=pE
   change CW K (upd H sd (.dK (stK s.left dl ve0 (s.steps+1)))) _ _ _ _ _ _ _ _ _ _ at cw1
   change Fw _ H (upd H sd (.dK (stK s.left dl ve0 (s.steps+1)))) at f1
   generalize upd H sd (.dK (stK s.left dl ve0 (s.steps+1)))=H1 at u1 cw1 f1 ⊢;refine g1_ _ _ (aE λvW g2_=>?_);have eR:∀ H2,Fw (P3 sd dl nd0) H H2->CW K H2 av F R O vc sd dl nd0 g (aW s)->vW [some vc,some (.ref sd),some (.ref nd0),some ve] H2:=λH2 f2 cw2=>by
    refine g2_ _ _ ?_;obtain⟨ve2,d2,e2⟩:=cw2.enG;refine⟨_,U,sd,ve2,U,d2,U,_,U,?_⟩;rw[e2.dec];have he2:=he.tk f2.tk;by_cases c:(aW s).en.isSome=true
    · have hev:(if (aW s).en.isSome=true then some (EV.int 0,g,aW s) else _)=some (v1,g1,s1):=hev;rw[if_pos c] at hev;cases hev;exact pJ (by cases z:(aW s).en with | none=>rw[z] at c;cases c | some w=>rfl) (q _ _ f2 cw2 (.int 0))
    · refine pI (by cases z:(aW s).en with | none=>exact λx=>nomatch x | some w=>rw[z] at c;exact absurd U c) ?_;have hev:(if (aW s).en.isSome=true then some (EV.int 0,g,aW s) else _)=some (v1,g1,s1):=hev;rw[if_neg c] at hev;obtain⟨ad,ys,rfl,ha⟩:=zl he2;cases e with
      | num i =>
       obtain⟨ad',ys',e',ha',hy⟩:=(show TD K H2 _ (.tuple [.str "number",.int i]) from he2).tup_of;cases e';obtain⟨y1,y2,rfl,t1,t2⟩:=iD hy;cases t1;cases t2;cases hev;refine⟨_,U,ad,_,_,_,U,U,ha,pH (j:=0) U,U,_,U,aL ?_⟩;exact⟨_,U,ad,_,_,_,U,U,ha',pH (j:=1) U,q _ _ f2 cw2 (.int i)⟩
      | nam x =>
       obtain⟨ad',ys',e',ha',hy⟩:=(show TD K H2 _ (.tuple [.str "name",.int x]) from he2).tup_of;cases e';obtain⟨y1,y2,rfl,t1,t2⟩:=iD hy;cases t1;cases t2;obtain⟨y,ey,z⟩:=map_some hev;cases z;obtain⟨v,dv,hv⟩:=cw2.get ey;refine ↑?_;refine⟨_,U,ad,_,_,_,U,U,ha,pH (j:=0) U,U,_,U,aL ?_⟩;exact⟨_,U,_,U,ad,_,_,_,U,U,ha',pH (j:=1) U,nd0,v,U,dv,q _ _ f2 cw2 hv⟩
      | bnd w x a b =>
       cases w with
       | false =>
        refine ↑↑?_;refine⟨_,U,ad,_,_,_,U,U,ha,pH (j:=0) U,U,_,U,aL (aL ?_)⟩;exact⟨_,U,_,U,_,U,_,U,av,F,R,O,vc,_,sd,dl,nd0,g,aW s,_,v1,g1,s1,U,cw2,he2,hx,hev,λv H' f' c' hv=>q v H' (f2.trans f') c' hv⟩
       | true =>
        refine ↑↑↑⟨_,U,ad,_,_,_,U,U,ha,pH (j:=0) U,U,_,U,aL ?_⟩;exact⟨_,U,_,U,_,U,_,U,av,F,R,O,vc,_,sd,dl,nd0,g,aW s,_,v1,g1,s1,U,cw2,he2,hx,hev,λv H' f' c' hv=>q v H' (f2.trans f') c' hv⟩
      | whl a b =>
       refine ↑↑↑↑?_;refine⟨_,U,ad,_,_,_,U,U,ha,pH (j:=0) U,U,_,U,aL (aL ?_)⟩;exact⟨_,U,_,U,_,U,_,U,av,F,R,O,vc,_,sd,dl,nd0,g,aW s,_,v1,g1,s1,U,cw2,he2,hx,hev,λv H' f' c' hv=>q v H' (f2.trans f') c' hv⟩
      | each x a b =>
       refine ↑↑↑↑↑⟨_,U,ad,_,_,_,U,U,ha,pH (j:=0) U,U,_,U,aL ?_⟩;exact⟨_,U,_,U,_,U,_,U,av,F,R,O,vc,_,sd,dl,nd0,g,aW s,_,v1,g1,s1,U,cw2,he2,hx,hev,λv H' f' c' hv=>q v H' (f2.trans f') c' hv⟩
      | fn ids a =>
       obtain⟨ad',ys',e',ha',hy⟩:=(show TD K H2 _ (.tuple [.str "fun",.tuple (ids.map .int),exD a]) from he2).tup_of;cases e';obtain⟨y1,y2,y3,rfl,t1,t2,t3⟩:=cJ hy;cases t1;obtain⟨ti,zs,rfl,hti,hzs⟩:=t2.tup_of;have ez:=gr hzs;subst ez;cases hev;obtain⟨⟨kvs,hk,gk⟩,ko⟩:=cw2.n;refine ↑↑↑↑↑↑?_;refine⟨_,U,ad,_,_,_,U,U,ha,pH (j:=0) U,U,_,U,aL ?_⟩;refine⟨_,U,ad,_,_,_,U,U,ha',pH (j:=1) U,_,U,ad,_,_,_,U,U,ha',pH (j:=2) U,_,U,nd0,kvs,U,hk,λp hp=>?_⟩;have k3:=smu (o:=HO.dK kvs) hp;refine⟨vF,λt ht=>?_⟩;have k4:=smu (o:=HO.tup [.str "fun",.ref ti,y3,.ref p]) ht;have k34:=k3.trans k4;refine q _ _ (f2.trans (.of k34)) (cw2.same k34) (.fn (d:=p) (kvs:=kvs) (SqT.of pE) (hti.tk k34.tk) (t3.same k34) (k4 _ _ pE) (cw2.new hp) (hx.kid (.head _)) (λy m=>hx.bn m) ko (aA gk) (λi kv p z1 z2=>(ba gk z1 z2).1) (λi kv p z1 z2=>(ba gk z1 z2).2.same k34))
      | app a es =>
       refine ↑↑↑↑↑↑↑?_;refine⟨_,U,ad,_,_,_,U,U,ha,pH (j:=0) U,U,_,U,aL ?_⟩;exact⟨_,U,_,U,_,U,_,U,av,F,R,O,vc,_,sd,dl,nd0,g,aW s,_,v1,g1,s1,U,cw2,he2,hx,hev,λv H' f' c' hv=>q v H' (f2.trans f') c' hv⟩
      | cal k es =>
       refine ↑↑↑↑↑↑↑↑?_;refine⟨_,U,ad,_,_,_,U,U,ha,pH (j:=0) U,U,_,U,aL ?_⟩;exact⟨_,U,_,U,_,U,_,U,av,F,R,O,vc,_,sd,dl,nd0,g,aW s,_,v1,g1,s1,U,cw2,he2,hx,hev,λv H' f' c' hv=>q v H' (f2.trans f') c' hv⟩
      | get r i a =>
       refine ↑↑↑↑↑↑↑↑↑?_;refine⟨_,U,ad,_,_,_,U,U,ha,pH (j:=0) U,U,_,U,aL ?_⟩;exact⟨_,U,_,U,_,U,_,U,av,F,R,O,vc,_,sd,dl,nd0,g,aW s,_,v1,g1,s1,U,cw2,he2,hx,hev,λv H' f' c' hv=>q v H' (f2.trans f') c' hv⟩
      | set x a =>
       refine ↑↑↑↑↑↑↑↑↑↑?_;exact⟨_,U,_,U,_,U,_,U,av,F,R,O,vc,_,sd,dl,nd0,g,aW s,_,v1,g1,s1,U,cw2,he2,hx,hev,λv H' f' c' hv=>q v H' (f2.trans f') c' hv⟩
      | seq es =>
       refine ↑↑↑↑↑↑↑↑↑↑?_;exact⟨_,U,_,U,_,U,_,U,av,F,R,O,vc,_,sd,dl,nd0,g,aW s,_,v1,g1,s1,U,cw2,he2,hx,hev,λv H' f' c' hv=>q v H' (f2.trans f') c' hv⟩
      | ite a b d =>
       refine ↑↑↑↑↑↑↑↑↑↑?_;exact⟨_,U,_,U,_,U,_,U,av,F,R,O,vc,_,sd,dl,nd0,g,aW s,_,v1,g1,s1,U,cw2,he2,hx,hev,λv H' f' c' hv=>q v H' (f2.trans f') c' hv⟩
      | say a =>
       refine ↑↑↑↑↑↑↑↑↑↑?_;exact⟨_,U,_,U,_,U,_,U,av,F,R,O,vc,_,sd,dl,nd0,g,aW s,_,v1,g1,s1,U,cw2,he2,hx,hev,λv H' f' c' hv=>q v H' (f2.trans f') c' hv⟩
      | flt w =>
       refine ↑↑↑↑↑↑↑↑↑↑?_;exact⟨_,U,_,U,_,U,_,U,av,F,R,O,vc,_,sd,dl,nd0,g,aW s,_,v1,g1,s1,U,cw2,he2,hx,hev,λv H' f' c' hv=>q v H' (f2.trans f') c' hv⟩
      | op w es =>
       refine ↑↑↑↑↑↑↑↑↑↑?_;exact⟨_,U,_,U,_,U,_,U,av,F,R,O,vc,_,sd,dl,nd0,g,aW s,_,v1,g1,s1,U,cw2,he2,hx,hev,λv H' f' c' hv=>q v H' (f2.trans f') c' hv⟩
      | new r es =>
       refine ↑↑↑↑↑↑↑↑↑↑?_;exact⟨_,U,_,U,_,U,_,U,av,F,R,O,vc,_,sd,dl,nd0,g,aW s,_,v1,g1,s1,U,cw2,he2,hx,hev,λv H' f' c' hv=>q v H' (f2.trans f') c' hv⟩
   refine⟨_,U,sd,_,U,cE.k (k:=.inr "steps") u1,_,_,U,U,_,U,?_⟩;by_cases c:s.steps+1>4000
   · have eb:aW s=bV {s with steps:=s.steps+1} .long:=by unfold aW;rw[if_pos c]
     refine pJ (by simp;omega) ⟨_,U,me,λp hp=>?_⟩;have k1:=smu (o:=HO.tup [.str "long"]) hp;refine⟨sd,dl,_,.long,.ref p,U,(cw1.same k1).s,.long (SqT.of pE),λH' f' m'=>?_⟩;rw[eb] at eR;exact eR H' ((f1.s3.trans (.of k1)).trans f'.s3) ((cw1.same k1).st f' m')
   · have eb:aW s={s with steps:=s.steps+1}:=by unfold aW;rw[if_neg c]
     rw[eb] at eR;exact pI (by simp;omega) (eR H1 f1.s3 cw1)
end
def iu {ds:PDs} (h:∀ x∈ds,x.canLay0=true):PyData.canLayAll0 ds=true:=by
 induction ds with
 | nil=>rfl
 | cons d r ih =>
  show (d.canLay0&&PyData.canLayAll0 r)=true;rw[h d mCS,ih λx hx=>h x (mCM _ hx)];rfl
def ix {ds:PDs} {n:Nat} (h:∀ x∈ds,x.depth<=n):PyData.depthAll ds<=n:=by
 induction ds with
 | nil=>exact Nat.zero_le _
 | cons d r ih =>
  show max d.depth (PyData.depthAll r)<=n;have:=h d mCS;have:=ih λx hx=>h x (mCM _ hx);lia
inductive lV:PyData->Prop
  | int (i:Int):lV (.int i)
  | str {s:Str} (h:(PyData.str s).canLay0=true):lV (.str s)
  | tup (is:List Int):lV (.tuple (is.map .int))
def so (x:Lk):lV (lkD x):=by
 cases x with
 | int i=>exact .int i
 | tup is=>exact .tup is
 | thing=>exact .str (by left)
def lV.ok {d:PyData} (h:lV d):d.canLay0=true/\d.depth<=1:=by
 cases h with
 | int i=>exact⟨U,Nat.zero_le _⟩
 | str h=>exact⟨h,Nat.zero_le _⟩
 | tup is =>
  have h1:∀ x∈is.map PyData.int,x.canLay0=true:=λx hx=>by obtain⟨i,_,rfl⟩:=List.mem_map.mp hx;rfl
  have h2:∀ x∈is.map PyData.int,x.depth<=0:=λx hx=>by obtain⟨i,_,rfl⟩:=List.mem_map.mp hx;exact Nat.le_refl _
  simp only[PyData.canLay0,PyData.depth];exact⟨iu h1,by have:=ix h2;omega⟩
section
variable {K:Fg} {av p:Addr->Prop} {H H':Hp} {F:List Fun} {R:List Nat} {O:List (Str×Nat)} {vc:V} {sd dl nd G:Addr} {g:Env} {s:St} {ls ls':List V}
def Fw.off (f:Fw p H H') (h0:H G=none) (hG:H' G=some (.lst ls)):Fw p H (L2.upd H' G (.lst ls')) :=
 ⟨λa u n h=>by rw[af (ao h h0)];exact f.kp a u n h,λa xs h=>by
   have z:=f.tk a xs h;have n:a≠G:=λe=>by rw[e] at z;exact dS hG xs z
   rcases z with z | ⟨o',z⟩
   · exact .inl (by rw[af n];exact z)
   · exact .inr ⟨o',by rw[af n];exact z⟩,λa h=>by
   by_cases e:a=G
   · rw[e,pE];exact λz=>nomatch z
   · rw[af e];exact f.al a h⟩
def EvV.off {v:V} {x:EV} (h:EvV K av H v x) (hG:H G=some (.lst ls)):EvV K av (L2.upd H G (.lst ls')) v x:=by
 have t:Tk H (L2.upd H G (.lst ls')):=(Fw.upd (p:=λa=>a=G) U (dS hG)).tk
 induction h with
 | int i=>exact .int i
 | row h ht=>exact .row (h.tk t) (ht.tk t)
 | rcd h ht hz _ ih=>exact .rcd (h.tk t) (ht.tk t) hz ih
 | fn h ht hb hd nd hx hi ko hz hk _ ih=>exact .fn (h.tk t) (ht.tk t) (hb.tk t) (by rw[af (λe=>by rw[e,hG] at hd;cases hd)];exact hd) nd hx hi ko hz hk ih
def CW.off (h:CW K H av F R O vc sd dl nd g s) (hG:H G=some (.lst ls)) (nG:¬ av G):CW K (L2.upd H G (.lst ls')) av F R O vc sd dl nd g s:=by
 have f:Fw (λa=>a=G) H (L2.upd H G (.lst ls')):=Fw.upd rfl (dS hG);have ne:∀ {a},av a->¬ a=G:=λz e=>nG (e▸z);obtain⟨⟨kvs,h1,e1⟩,ko⟩:=h.n;exact⟨h.c.tk f.tk,h.s.fw f (ne h.a1) (ne h.a2),⟨⟨kvs,f.kp _ _ (ne h.a3) h1,ah e1 λ_ _ z=>⟨z.1,z.2.off hG⟩⟩,ko⟩,h.a1,h.a2,h.a3,λa z=>f.al a (h.al a z),h.ne,h.fk⟩
end
def l4 {V:Env->St->Ex->Option R} {e:Ex} {es:List Ex} {g g':Env} {s s':St} {ws:List EV} (h:eZ V (e::es) g s=some (ws,g',s')):∃ v g1 s1 ws',V g s e=some (v,g1,s1)/\eZ V es g1 s1=some (ws',g',s')/\ws=v::ws':=by
 obtain⟨⟨v,g1,s1⟩,h1,h2⟩:=bind_some (show (V g s e).bind _=some _ from h);obtain⟨⟨ws',g2,s2⟩,h3,h4⟩:=map_some h2;cases h4;exact⟨v,g1,s1,ws',h1,h3,U⟩
def nR {V:Env->St->Ex->Option R} {g g':Env} {s s':St} {ws:List EV} (h:eZ V [] g s=some (ws,g',s')):ws=[]/\g'=g/\s'=s:=by
 cases h;exact⟨U,U,U⟩
def CB:(["_law_e_here","_law_core_here","_law_state","_law_names"]:List Str).Nodup:=by left
section
variable {P:Program} {w:World} {K:Fg} {mg:SOV} {base:Heap} {c:Ks}
def xV (D:Def K mg "_law_values" (top 61)) {f:Nat} (aG:Fn P w K mg base "_law_value" (f+3) ps4 (spX K (fV f))):Fn P w K mg base "_law_values" (f+4) ["_law_core_here","_law_state","_law_names","_law_es"] (qF K (f+1)):=by
 have nd:(["_law_core_here","_law_state","_law_names","_law_es"]:List Str).Nodup:=by left
 exists D.fn (N:=["_law_core_here","_law_state","_law_names","_law_es"]) (~~~nd),bL
 · obtain⟨av,F,R,O,vc,ve,sd,dl,nd0,g,s,es,ws,g1,s1,rfl,_⟩:=h;rfl
 · obtain⟨av,F,R,O,vc,ve,sd,dl,nd0,g,s,es,ws,g1,s1,rfl,cw,he,hx,hev,q⟩:=h;have hz0:(40000:Nat)<sizeLine:=∅
   have hu:=cD hr;refine⟨_,(pG (ak (gx (own:=["_law_e_here"]) (outs:=[(0,"_law_core_here"),(1,"_law_state"),(2,"_law_names")]) U (br.of (am (top 61)) ["_law_core_here","_law_state","_law_names","_law_es"]) (hU ↥3) (λ_ _ _ _=>⟨(aC (i:=0) CB U (.inl U)),cB,(aj aG ⇑hr U %[1,2,3,0|0])⟩)))),?_⟩;dsimp only[be];have h9:es.length<=9/\eZ (evV F f) es g s=some (ws,g1,s1):=by
    have hev:(if es.length<=9 then eZ (evV F f) es g s else none)=some (ws,g1,s1):=hev;by_cases c9:es.length<=9
    · rw[if_pos c9] at hev;exact⟨c9,hev⟩
    · rw[if_neg c9] at hev;cases hev
   obtain⟨h9,hs⟩:=h9;obtain⟨ta,vs,rfl,hta,hvs⟩:=he.tup_of;have vl:=hvs.length;rw[cS] at vl;rw[jO,eO];refine⟨_,U,ta,U,⟨_,hta⟩,λG hG=>?_⟩;have nG:=cw.new hG;have k0:=smu (o:=HO.lst []) hG;refine cN.by (cX (xs:=vs)) (λi σ Hi=>Fw (P3 sd dl nd0) H Hi/\(∃ us ws0 ws1 gi si,CW K Hi av F R O vc sd dl nd0 gi si/\Hi G=some (.lst us)/\Paired (EvV K av Hi) us ws0/\us.length=i/\eZ (evV F f) (es.drop i) gi si=some (ws1,g1,s1)/\ws=ws0++ws1)/\∃ y,σ=[y,some vc,some (.ref sd),some (.ref nd0)])
    ⟨.of k0,⟨[],[],ws,g,s,cw.same k0,pE,.nil,U,hs,U⟩,_,U⟩ (λ_ _ _ _ z=>hta.tk z.1.tk) ?_ ?_
   · rintro i u σ Hi hu' ⟨fi,⟨us,ws0,ws1,gi,si,ci,hGi,pi,li,hsi,ew⟩,y,rfl⟩;have hi:i<vs.length:=(gES.mp hu').1;have hei:es[i]?=some (es[i]'∅):=gEE _;have ed:es.drop i=es[i]'∅::es.drop (i+1):=List.drop_eq_getElem_cons _;rw[ed] at hsi;obtain⟨v2,g2,s2,ws2,e2,e3,rfl⟩:=l4 hsi;have tu:TD K Hi u (exD (es[i]'∅)):=by
      obtain⟨d,hd,td⟩:=(hvs.tk fi.tk).get hu';rw[gL,gEM,hei] at hd;cases hd;exact td
     rw[ce,dC];refine aL ⟨_,U,_,U,_,U,_,U,av,F,R,O,vc,u,sd,dl,nd0,gi,si,_,v2,g2,s2,U,ci,tu,hx _ (mGE hei),e2,λv H2 f2 c2 hv=>?_⟩;have hG2:=f2.kp _ _ (λz=>nG (cw.sub G z)) hGi;refine⟨us,hG2,∅,(fi.trans f2).off hG hG2,⟨us++[v],ws0++[v2],ws2,g2,s2,c2.off hG2 nG,pE,?_,by rw[lAp,li];rfl,e3,by rw[List.append_assoc];exact ew⟩,_,U⟩;exact bK (ah pi λ_ _ z=>(z.fw f2 ci.sub).off hG2) (.cons (hv.off hG2) .nil)
   · rintro σ Hi ⟨fi,⟨us,ws0,ws1,gi,si,ci,hGi,pi,li,hsi,ew⟩,y,rfl⟩;rw[vl,List.drop_length] at hsi;obtain⟨rfl,rfl,rfl⟩:=nR hsi;rw[List.append_nil] at ew;subst ew;exact q G us Hi fi ci hG hGi pi
def xW (D:Def K mg "_law_goes" (top 62)) {f:Nat} (aG:Fn P w K mg base "_law_value" (f+3) ps4 (spX K (fV f))) (bH:Fn P w K mg base "_law_worth" 1 ["_law_value_here"] (qE K)):Fn P w K mg base "_law_goes" (f+4) ["_law_core_here","_law_state","_law_names","_law_e_here"] (xq K (f+1)):=by
 have nd:(["_law_core_here","_law_state","_law_names","_law_e_here","_law_value_here"]:List Str).Nodup:=by left
 exists D.fn (N:=["_law_core_here","_law_state","_law_names","_law_e_here","_law_value_here"]) (~~~nd),bL
 · obtain⟨av,F,R,O,vc,ve,sd,dl,nd0,g,s,e,b1,g1,s1,rfl,_⟩:=h;rfl
 · obtain⟨av,F,R,O,vc,ve,sd,dl,nd0,g,s,e,b1,g1,s1,rfl,cw,he,hx,hev,q⟩:=h;have hz0:(40000:Nat)<sizeLine:=∅
   have hu:=cD hr;refine⟨_,(pD (pL (i:=4) nd U (.inl U) (aj aG ⇑hr U %[0,1,2,3|0]))
 (pG (ak (xK (dz eC (pK hu ↥1 pC Ue) bR (pN _)) (xI (dz gz (aj bH ⇑hr U %[4|0]) pF (pN _))))))),?_⟩
   obtain⟨⟨v2,g2,s2⟩,e2,z⟩:=map_some (show (evV F f g s e).map _=some _ from hev);cases z;refine⟨_,U,_,U,_,U,_,U,av,F,R,O,vc,ve,sd,dl,nd0,g,s,e,v2,g1,s1,U,cw,he,hx,e2,λv H2 f2 c2 hv=>?_⟩;obtain⟨ve2,d2,e3⟩:=c2.enG;refine⟨_,U,sd,ve2,U,d2,U,_,U,?_⟩;have qq:=q H2 f2 c2;rw[e3.dec];cases en:s1.en with
   | some w =>
    rw[en] at qq;exact ai qq
   | none =>
    rw[en] at qq;refine aL ⟨_,U,av,v,v2,U,hv,U,?_⟩;have:(!decide (V.int (aZ v2)=V.int 0))=(true&&decide (aZ v2≠0)):=by by_cases z:aZ v2=0 <;> simp[z]
    show Q (.bl (!decide (V.int (aZ v2)=V.int 0))) H2;rw[this];exact qq
def xZ (D:Def K mg "_law_bound" (top 66)) {f:Nat} (aG:Fn P w K mg base "_law_value" (f+3) ps4 (spX K (fV f))):Fn P w K mg base "_law_bound" (f+4) ["_law_core_here","_law_state","_law_names","_law_e_here"] (spX K (fB (f+1))):=by
 have nd:(["_law_core_here","_law_state","_law_names","_law_e_here"]:List Str).Nodup:=by left
 exists D.fn (N:=["_law_core_here","_law_state","_law_names","_law_e_here"]) (~~~nd),bL
 · obtain⟨av,F,R,O,vc,ve,sd,dl,nd0,g,s,e,v1,g1,s1,rfl,_⟩:=h;rfl
 · obtain⟨av,F,R,O,vc,ve,sd,dl,nd0,g,s,e,v1,g1,s1,rfl,cw,he,hx,hev,q⟩:=h;have hz0:(40000:Nat)<sizeLine:=∅
   have hu:=cD hr;refine⟨_,(pD (du hu ↥2 ↥↥3 (aj aG ⇑hr U %[0,1,2,↥↥3|0]) U)
 (pG (ak (aj aG ⇑hr U %[0,1,2,↥↥3|0])))),?_⟩
   dsimp only[be];cases e with
   | bnd w x a b =>
    obtain⟨ad,ys,rfl,ha,hy⟩:=(show TD K H ve (.tuple [.str (wB w),.int x,exD a,exD b]) from he).tup_of;obtain⟨y1,yr,rfl,t1,tr⟩:=cA hy;obtain⟨y2,y3,y4,rfl,t2,t3,t4⟩:=cJ tr;cases t2;obtain⟨⟨v2,g2,s2⟩,e2,e3⟩:=bind_some (show (evV F f g s a).bind _=some _ from hev);refine⟨_,U,_,U,_,U,_,U,ad,_,_,_,U,U,ha,pH (j:=2) U,av,F,R,O,vc,_,sd,dl,nd0,g,s,a,v2,g2,s2,U,cw,t3,hx.kid (.head _),e2,λv H2 f2 c2 hv=>?_⟩;obtain⟨H3,dp,c3,f3⟩:=c2.put (hx.bn (x:=x) (.head _)) hv;have F3:=f2.trans f3;refine⟨_,U,_,U,ad,_,_,_,U,U,(ha.tk f2.tk),pH (j:=1) U,nd0,H3,U,dp,?_⟩;exact⟨_,U,_,U,_,U,_,U,ad,_,_,_,U,U,(ha.tk F3.tk),pH (j:=3) U,av,F,R,O,vc,_,sd,dl,nd0,_,s2,b,v1,g1,s1,U,c3,t4.tk F3.tk,hx.kid (.tail _ (.head _)),e3,λv H' f' c' hv=>q v H' (F3.trans f') c' hv⟩
   | _=>cases hev
def BB {x y:V} {r:List V}:eM (x::y::r) none (some 2)=[x,y]:=by
 unfold eM;have:=HT.ip (x::y::r).length (x::y::r).length 2;rw[show ((2:Nat):Int)=2 from rfl] at this;rw[this,HT.gu,List.drop_zero,Nat.sub_zero,Nat.min_eq_left (by simp)];rfl
def mv {K:Fg} {H:Hp} {a:Addr} {x y:V} {r:List V} {Q:VK} (h:SqT K H a (x::y::r)) (q:∀ a' H',aI H H'->SqT K H' a' [x,y]->Q (.ref a') H'):vP K (.ref a) none (some 2) H Q :=
 ⟨a,_,U,h,λz=>q a H (aI.refl _) (by rw[BB] at z;rw[z];exact h),λp hp=>q p _ (smu hp) (SqT.of (by rw[pE,BB]))⟩
def sh2 {w:Str} {d:PyData} (h:lV d) (hw:(PyData.str w).canLay0=true):SeqAt.shaped (.tuple [.str w,d])=true:=by
 obtain⟨l1,l2⟩:=h.ok;have g1:∀ x∈[PyData.str w,d],x.canLay0=true:=λx hx=>by
  rcases List.mem_cons.mp hx with rfl | hx
  · exact hw
  · rw[mSg.mp hx];exact l1
 have g2:∀ x∈[PyData.str w,d],x.depth<=1:=λx hx=>by
  rcases List.mem_cons.mp hx with rfl | hx
  · exact Nat.zero_le _
  · rw[mSg.mp hx];exact l2
 unfold SeqAt.shaped;rw[Bool.and_eq_true,decide_eq_true_eq];simp only[PyData.canLay0,PyData.depth];exact⟨iu g1,by have:=ix g2;omega⟩
def ne2 {w:Str} {d:PyData} {r:Int} (h:(w==("record":Str))=false):PyData.eqv (.tuple [.str w,d]) (.tuple [.str "record",.int r])=false:=by
 simp only[PyData.eqv,PyData.eqvAll,h,Bool.false_and]
def eq2 {r r':Int}:PyData.eqv (.tuple [.str "record",.int r']) (.tuple [.str "record",.int r])=decide (r'=r):=by
 simp only[PyData.eqv,PyData.eqvAll,beq_self_eq_true,Bool.true_and,Bool.and_true];rfl
def xX (D:Def K mg "_law_got" (top 67)) {f:Nat} (T:Blt mg) (k:KC K mg c) (aG:Fn P w K mg base "_law_value" (f+3) ps4 (spX K (fV f))) (aV:Fn P w K mg base "_law_ended" 1 ["_law_state","_law_word"] (kY K)):Fn P w K mg base "_law_got" (f+4) ["_law_core_here","_law_state","_law_names","_law_e_here"] (spX K (fG (f+1))):=by
 have nd:(["_law_core_here","_law_state","_law_names","_law_e_here","_law_value_here"]:List Str).Nodup:=by left
 exists D.fn (N:=["_law_core_here","_law_state","_law_names","_law_e_here","_law_value_here"]) (~~~nd),bL
 · obtain⟨av,F,R,O,vc,ve,sd,dl,nd0,g,s,e,v1,g1,s1,rfl,_⟩:=h;rfl
 · obtain⟨av,F,R,O,vc,ve,sd,dl,nd0,g,s,e,v1,g1,s1,rfl,cw,he,hx,hev,q⟩:=h;have hz0:(40000:Nat)<sizeLine:=∅
   have hu:=cD hr;refine⟨_,(pD (pL (i:=4) nd U (.inl U) (aj aG ⇑hr U %[0,1,2,↥↥3|0]))
 (pD (az (PW.pt (cM (pM eC (pK hu ↥1 pC Ue) bR (pN _)) (bW (PW.pt (dk (bN (dP T.isinstance %[4,cu (v:=.ty "int") U k.bI bU U|0])) (cP (pM (jS hr.units) (ff nN ↥4 gv (dL pF)) (ax %[pC,↥↥3|0]) (pN _)))))))) (pG (ak (aj aV ⇑hr U %[1,ax %[pC,pC|0]|0]))) aq)
 (pG (ak (bJ (pM gy (pK hu ↥1 pC Ue) bR (pN _)) pF (ac ag ↥↥4 ↥↥3 Ue)))))),?_⟩
   dsimp only[be];cases e with
   | get r i a =>
    obtain⟨ad,ys,rfl,ha,hy⟩:=(show TD K H ve (.tuple [.str "get",.int r,.int i,exD a]) from he).tup_of;obtain⟨y1,yr,rfl,t1,tr⟩:=cA hy;obtain⟨y2,y3,y4,rfl,t2,t3,t4⟩:=cJ tr;cases t2;cases t3;obtain⟨⟨v2,g2,s2⟩,e2,hev⟩:=bind_some (show (evV F f g s a).bind _=some _ from hev);refine⟨_,U,_,U,_,U,_,U,ad,_,_,_,U,U,ha,pH (j:=3) U,av,F,R,O,vc,_,sd,dl,nd0,g,s,a,v2,g2,s2,U,cw,t4,hx.kid (.head _),e2,λv H2 f2 c2 hv=>?_⟩;have ha2:=ha.tk f2.tk;obtain⟨ve2,d2,e3⟩:=c2.enG;refine⟨_,U,sd,ve2,U,d2,U,_,U,?_⟩;rw[e3.dec];have hev:(if s2.en.isSome=true then some (EV.int 0,g2,s2) else _)=some (v1,g1,s1):=hev;cases en:s2.en with
    | some w0 =>
     rw[if_pos (by rw[en];rfl)] at hev;cases hev;refine ai (ai ⟨_,U,sd,ve2,U,d2,U,_,U,?_⟩);rw[e3.dec,en];exact aL (q _ _ f2 c2 (.int 0))
    | none =>
     rw[if_neg (by rw[en];exact λz=>nomatch z)] at hev;refine aL ⟨_,U,.one v _ _ _ _ U (.ty "int") hv.ty (k.ev v2) ⟨_,U,?_⟩⟩;cases hv with
     | int j =>
      cases hev;refine aL (aL ⟨_,U,dB,λp hp=>?_⟩);have c3:=c2;have F3:=f2;have k4:=smu (o:=HO.tup [.str "fault",.str "field"]) hp;have c4:=c3.same k4;exact⟨sd,dl,s2,.flt "field",.ref p,U,c4.s,.flt (SqT.of pE),λH' f' m'=>q _ H' ((F3.trans (.of k4)).trans f'.s3) (c4.st f' m') (.int 0)⟩
     | @row a0 t is h ht =>
      cases hev;refine ai ⟨_,U,_,U,mv h (λa' H3 k3 h3=>?_)⟩;refine⟨_,U,ad,_,_,_,U,U,ha2.tk k3.tk,pH (j:=1) U,dB,λp2 hp2=>?_⟩;have k5:=smu (o:=HO.tup [.str "record",.int r]) hp2;have k35:=k3.trans k5;refine⟨_,_,.tup (h3.tk k5.tk) (.cons (.str _) (.cons (.tup (ht.tk k35.tk) (fS _)) .nil)),.tup (SqT.of pE) (.cons (.str _) (.cons (.int r) .nil)),sh2 (.tup is) (by left),sh2 (.int r) (by left),⟨_,U,?_⟩⟩;have c3:=c2.same k35;have F3:Fw (P3 sd dl nd0) H _:=f2.trans (.of k35);have h35:=h.tk k35.tk;have ha35:=ha2.tk k35.tk;obtain⟨ve3,d3,e33⟩:=c3.enG;rw[ne2 (by left)];refine aL ⟨_,U,dB,λp hp=>?_⟩;have k4:=smu (o:=HO.tup [.str "fault",.str "field"]) hp;have c4:=c3.same k4;exact⟨sd,dl,s2,.flt "field",.ref p,U,c4.s,.flt (SqT.of pE),λH' f' m'=>q _ H' ((F3.trans (.of k4)).trans f'.s3) (c4.st f' m') (.int 0)⟩
     | @fn a0 t d vb ids e0 g0 kvs h ht hb hd nd hx0 hi ko hz hk hg =>
      cases hev;refine ai ⟨_,U,_,U,mv h (λa' H3 k3 h3=>?_)⟩;refine⟨_,U,ad,_,_,_,U,U,ha2.tk k3.tk,pH (j:=1) U,dB,λp2 hp2=>?_⟩;have k5:=smu (o:=HO.tup [.str "record",.int r]) hp2;have k35:=k3.trans k5;refine⟨_,_,.tup (h3.tk k5.tk) (.cons (.str _) (.cons (.tup (ht.tk k35.tk) (fS _)) .nil)),.tup (SqT.of pE) (.cons (.str _) (.cons (.int r) .nil)),sh2 (.tup ids) (by left),sh2 (.int r) (by left),⟨_,U,?_⟩⟩;have c3:=c2.same k35;have F3:Fw (P3 sd dl nd0) H _:=f2.trans (.of k35);have h35:=h.tk k35.tk;have ha35:=ha2.tk k35.tk;obtain⟨ve3,d3,e33⟩:=c3.enG;rw[ne2 (by left)];refine aL ⟨_,U,dB,λp hp=>?_⟩;have k4:=smu (o:=HO.tup [.str "fault",.str "field"]) hp;have c4:=c3.same k4;exact⟨sd,dl,s2,.flt "field",.ref p,U,c4.s,.flt (SqT.of pE),λH' f' m'=>q _ H' ((F3.trans (.of k4)).trans f'.s3) (c4.st f' m') (.int 0)⟩
     | @rcd a0 t us r' xs h ht hz hu2 =>
      refine ai ⟨_,U,_,U,mv h (λa' H3 k3 h3=>?_)⟩;refine⟨_,U,ad,_,_,_,U,U,ha2.tk k3.tk,pH (j:=1) U,dB,λp2 hp2=>?_⟩;have k5:=smu (o:=HO.tup [.str "record",.int r]) hp2;have k35:=k3.trans k5;refine⟨_,_,.tup (h3.tk k5.tk) (.cons (.str _) (.cons (.int _) .nil)),.tup (SqT.of pE) (.cons (.str _) (.cons (.int r) .nil)),sh2 (.int _) (by left),sh2 (.int r) (by left),⟨_,U,?_⟩⟩;have c3:=c2.same k35;have F3:Fw (P3 sd dl nd0) H _:=f2.trans (.of k35);have h35:=h.tk k35.tk;have ha35:=ha2.tk k35.tk;obtain⟨ve3,d3,e33⟩:=c3.enG;rw[eq2];have hev:(if r'=r then (if 0<=i then (xs[i.toNat]?).map λv=>(v,g2,s2) else none) else some (EV.int 0,g2,bV s2 (.flt "field")))=some (v1,g1,s1):=hev;by_cases er:r'=r
      · rw[if_pos er] at hev;by_cases i0:0<=i
        · rw[if_pos i0] at hev;obtain⟨y,ey,z⟩:=map_some hev;cases z;obtain⟨j,rfl⟩:=Int.eq_ofNat_of_zero_le i0;rw[Int.toNat_natCast] at ey;have hj:=(gES.mp ey).1;have hu0:us[j]?=some (us[j]'∅):=gEE _;refine pI (by simp[er]) ⟨_,U,sd,ve3,U,d3,U,_,U,?_⟩;rw[e33.dec,en];refine ai ⟨_,U,a0,_,_,_,U,U,h35,pH (j:=2) U,_,U,ad,_,_,_,U,U,ha35,pH (j:=2) U,t,_,_,_,U,U,ht.tk k35.tk,pH (j:=j) hu0,?_⟩;exact q _ _ F3 c3 ((hu2 _ _ _ hu0 ey).same k35)
        · rw[if_neg i0] at hev;cases hev
      · rw[if_neg er] at hev;cases hev;refine pJ (by simpa using er) ⟨_,U,dB,λp hp=>?_⟩;have k4:=smu (o:=HO.tup [.str "fault",.str "field"]) hp;have c4:=c3.same k4;exact⟨sd,dl,s2,.flt "field",.ref p,U,c4.s,.flt (SqT.of pE),λH' f' m'=>q _ H' ((F3.trans (.of k4)).trans f'.s3) (c4.st f' m') (.int 0)⟩
   | _=>cases hev
end
section
variable {K:Fg} {av:Addr->Prop} {H H5 H6:Hp} {F:List Fun} {R:List Nat} {O:List (Str×Nat)} {vc:V} {sd dl nd p:Addr} {g g5:Env} {s s5:St}
def CW.inner (h:CW K H av F R O vc sd dl nd g s) (hp:H p=none) (f:Fw (P3 sd dl p) H H5) (l:LS K H5 sd dl s5) (n:NV K (λa=>av a\/a=p) H5 p g5):CW K H5 (λa=>av a\/a=p) F R O vc sd dl p g5 s5 :=
 ⟨h.c.tk f.tk,l,n,.inl h.a1,.inl h.a2,.inr U,λa z=>by
   rcases z with z | rfl
   · exact f.al a (h.al a z)
   · exact n.al,λe=>h.al sd h.a1 (by rw[e];exact hp),h.fk⟩
def CW.back (h:CW K H av F R O vc sd dl nd g s) (hp:H p=none) (f:Fw (P3 sd dl p) H H6) (l:LS K H6 sd dl s5):Fw (P3 sd dl nd) H H6/\CW K H6 av F R O vc sd dl nd g s5:=by
 have f2:Fw (λa=>a=sd\/a=dl) H H6:=Fw.fresh (aI.refl _) f λa z=>by
  rcases z with z | z | z
  · exact .inl (.inl z)
  · exact .inl (.inr z)
  · exact .inr (by rw[z];exact hp)
 have f3:Fw (P3 sd dl nd) H H6:=f2.mono λa z=>by rcases z with z | z;exact .inl z;exact .inr (.inl z)
 refine⟨f3,h.go f3 l (h.n.fw f2 (λz=>?_) λa z=>?_)⟩
 · rcases z with z | z
   · exact h.ne z.symm
   · exact h.n.nel h.s z
 · rcases z with rfl | rfl
   · exact h.a1
   · exact h.a2
end
def oZ:∀ {xs:List Int} {vs:List EV} {g:Env} {x:Int} {v:EV},xs.length=vs.length->dI g (xs++[x]) (vs++[v])=put (dI g xs vs) x v:=by
 intro xs
 induction xs with
 | nil=>intro vs g x v h;cases vs with | nil=>rfl | cons a r=>cases h
 | cons y r ih=>intro vs g x v h;cases vs with | nil=>cases h | cons a vs=>exact ih (Nat.succ.inj h)
def lF {K:Fg} {av:Addr->Prop} {H:Hp}:∀ {ids:List Int} {us:List V} {ws:List EV} {kvs:List (Key×V)} {g:Env},Paired (GVr K av H) kvs g->KO g->(∀ x∈ids,Rg x)->ids.length=us.length->Paired (EvV K av H) us ws->Paired (GVr K av H) (cC kvs ((ids.zip us).map λp=>(.inl p.1,p.2))) (dI g ids ws)/\KO (dI g ids ws):=by
 intro ids
 induction ids with
 | nil=>intro us ws kvs g h ko _ _ hp;cases hp <;> exact⟨h,ko⟩
 | cons x r ih =>
  intro us ws kvs g h ko hr hl hp;cases hp with
  | nil=>cases hl
  | cons z zr =>
   exact ih (rZ h ko.n z) (ko.put (hr x mCS) _) (λy hy=>hr y (mCM _ hy)) (Nat.succ.inj hl) zr
def qo {G:Env->St->Option (Bool×Env×St)} {V:Env->St->Ex->Option R} {b:Ex} {n:Nat} {g:Env} {s:St} {r:Env×St} (h:iA G V b (n+1) g s=some r):∃ c g2 s2,G g s=some (c,g2,s2)/\((c=false/\r=(g2,s2))\/(c=true/\(((cb s2).1=false/\r=(g2,(cb s2).2))\/((cb s2).1=true/\∃ v g3 s3,V g2 (cb s2).2 b=some (v,g3,s3)/\iA G V b n g3 s3=some r)))):=by
 obtain⟨⟨c,g2,s2⟩,h1,h2⟩:=bind_some (show (G g s).bind _=some _ from h);refine⟨c,g2,s2,h1,?_⟩;have h2:(if c=false then some (g2,s2) else if (cb s2).1=false then some (g2,(cb s2).2) else _)=some r:=h2;cases c with
 | false=>rw[if_pos U] at h2;cases h2;exact .inl ⟨U,U⟩
 | true =>
  rw[if_neg ∅] at h2;refine .inr ⟨U,?_⟩;cases e:(cb s2).1 with
  | false=>rw[e,if_pos U] at h2;cases h2;exact .inl ⟨U,U⟩
  | true =>
   rw[e,if_neg ∅] at h2;obtain⟨⟨v,g3,s3⟩,h3,h4⟩:=bind_some h2;exact .inr ⟨U,v,g3,s3,h3,h4⟩
def pZ {V:Env->St->Ex->Option R} {x:Int} {b:Ex} {i:Int} {is:List Int} {g:Env} {s:St} {r:Env×St} (h:gN V x b (i::is) g s=some r):∃ v g2 s2,V (put g x (.int i)) s b=some (v,g2,s2)/\gN V x b is g2 s2=some r:=by
 obtain⟨⟨v,g2,s2⟩,h1,h2⟩:=bind_some (show (V _ s b).bind _=some _ from h);exact⟨v,g2,s2,h1,h2⟩
section
variable {P:Program} {w:World} {K:Fg} {mg:SOV} {base:Heap} {c:Ks}
def xS (D:Def K mg "_law_loop" (top 63)) {f:Nat} (T:Blt mg) (k:KC K mg c) (aG:Fn P w K mg base "_law_value" (f+3) ps4 (spX K (fV f))) (ny:Fn P w K mg base "_law_goes" (f+3) ps4 (xq K f)) (bG:Fn P w K mg base "_law_ticked" 2 ["_law_state"] (kX K)):Fn P w K mg base "_law_loop" (f+4) ["_law_core_here","_law_state","_law_names","_law_e_here"] (spX K (fW (f+1))):=by
 have nd:(["_law_core_here","_law_state","_law_names","_law_e_here","_law_over","_law_one"]:List Str).Nodup:=by left
 exists D.fn (N:=["_law_core_here","_law_state","_law_names","_law_e_here","_law_over","_law_one"]) (~~~nd),bL
 · obtain⟨av,F,R,O,vc,ve,sd,dl,nd0,g,s,e,v1,g1,s1,rfl,_⟩:=h;rfl
 · obtain⟨av,F,R,O,vc,ve,sd,dl,nd0,g,s,e,v1,g1,s1,rfl,cw,he,hx,hev,q⟩:=h;have hz0:(40000:Nat)<sizeLine:=∅
   have hu:=cD hr;refine⟨_,(pD (az (pM aB ↥↥3 pC (pN _)) (pD (iL PassesOwn.never (PW.pt (cM (bN (aj ny ⇑hr U %[0,1,2,↥↥3|0])) (bW (bN (aj bG ⇑hr U %[1|0]))))) (pG (aH (aj aG ⇑hr U %[0,1,2,↥↥3|0]))))
 (pG (ak pF))) aq)
 (pD (pL (i:=4) nd U (.inl U) (aj aG ⇑hr U %[0,1,2,↥↥3|0]))
 (pD (az (PW.pt (cM (f8 (bN (dP T.isinstance %[4,cu (v:=.ty "int") U k.bI bU U|0]))) (bW (pM aB ↥↥4 pC (pN _))))) (pG (cR PassesOwn.never U (hU ↥↥4) (aC (i:=5) nd U (.inl U)) (pD (du hu ↥2 ↥↥3 ↥5 U)
 (pG (aH (aj aG ⇑hr U %[0,1,2,↥↥3|0])))))) aq)
 (pG (ak pF))))),?_⟩
   dsimp only[be];cases e with
   | whl a b =>
    obtain⟨⟨g2,s2⟩,hw,z⟩:=map_some (show (iA (λg s=>evH F f g s a) (evV F f) b 12 g s).map _=some _ from hev);cases z;obtain⟨ad,ys,rfl,ha,hy⟩:=(show TD K H ve (.tuple [.str "while",exD a,exD b]) from he).tup_of;obtain⟨y1,y2,y3,rfl,t1,t2,t3⟩:=cJ hy;cases t1;refine⟨_,U,ad,_,_,_,U,U,ha,pH (j:=0) U,U,_,U,aL (aE λlB kJ=>?_)⟩;have out:∀ Hi,Fw (P3 sd dl nd0) H Hi->CW K Hi av F R O vc sd dl nd0 g1 s1->lB [some vc,some (.ref sd),some (.ref nd0),some (.ref ad),none,none] Hi:=λHi fi ci=>kJ _ _ (q _ _ fi ci (.int 0));refine⟨λm σ Hi=>∃ gi si,Fw (P3 sd dl nd0) H Hi/\CW K Hi av F R O vc sd dl nd0 gi si/\iA (λg s=>evH F f g s a) (evV F f) b m gi si=some (g1,s1)/\σ=[some vc,some (.ref sd),some (.ref nd0),some (.ref ad),none,none],⟨12,g,s,.refl,cw,hw,U⟩,?_⟩;rintro m σ Hi ⟨gi,si,fi,ci,hwi,rfl⟩;cases m with
    | zero=>cases hwi
    | succ m =>
     obtain⟨b2,g2,s2,eG,alt⟩:=qo hwi;refine⟨_,U,_,U,_,U,_,U,ad,_,_,_,U,U,(ha.tk fi.tk),pH (j:=1) U,av,F,R,O,vc,_,sd,dl,nd0,gi,si,a,b2,g2,s2,U,ci,t2.tk fi.tk,hx.kid (.head _),eG,λH2 f2 c2=>⟨_,U,?_⟩⟩;have F2:=fi.trans f2
     rcases alt with ⟨rfl,z⟩ | ⟨rfl,alt⟩
     · cases z;exact ai (ai (out H2 F2 c2))
     · refine aL ⟨_,U,sd,dl,s2,U,c2.s,λH3 f3 m3=>⟨_,U,?_⟩⟩;have c3:=c2.st f3 m3;have F3:=F2.trans (f3.s3 (dl:=dl) (nd:=nd0))
       rcases alt with ⟨et,z⟩ | ⟨et,v3,g3,s3,e3,hw3⟩
       · cases z;exact pI (by rw[et];decide) (out H3 F3 c3)
       · refine pJ et ⟨λσ' H'=>∃ gi si,Fw (P3 sd dl nd0) H H'/\CW K H' av F R O vc sd dl nd0 gi si/\iA (λg s=>evH F f g s a) (evV F f) b m gi si=some (g1,s1)/\σ'=[some vc,some (.ref sd),some (.ref nd0),some (.ref ad),none,none],λσ' H' z=>⟨m,Nat.lt_succ_self _,z⟩,?_⟩;exact⟨_,U,_,U,_,U,_,U,ad,_,_,_,U,U,(ha.tk F3.tk),pH (j:=2) U,av,F,R,O,vc,_,sd,dl,nd0,g2,_,b,v3,g3,s3,U,c3,t3.tk F3.tk,hx.kid (.tail _ (.head _)),e3,λv H' f' c' hv=>⟨g3,s3,F3.trans f',c',hw3,U⟩⟩
   | each x a b =>
    obtain⟨⟨v2,g2,s2⟩,e2,hev⟩:=bind_some (show (evV F f g s a).bind _=some _ from hev);have hev:(if (bC v2).length<=8 then (gN (evV F f) x b (bC v2) g2 s2).map λq=>(EV.int 0,q) else none)=some (v1,g1,s1):=hev;by_cases h8:(bC v2).length<=8
    case neg=>rw[if_neg h8] at hev;cases hev
    rw[if_pos h8] at hev;obtain⟨⟨g3,s3⟩,hE,z⟩:=map_some hev;cases z;obtain⟨ad,ys,rfl,ha,hy⟩:=(show TD K H ve (.tuple [.str "each",.int x,exD a,exD b]) from he).tup_of;obtain⟨y1,yr,rfl,t1,tr⟩:=cA hy;obtain⟨y2,y3,y4,rfl,t2,t3,t4⟩:=cJ tr;cases t1;cases t2;refine aE λm_ hm_=>?_;refine ↑(hm_ _ _ (aE λyf mR=>?_));refine⟨_,U,_,U,_,U,_,U,ad,_,_,_,U,U,ha,pH (j:=2) U,av,F,R,O,vc,_,sd,dl,nd0,g,s,a,v2,g2,s2,U,cw,t3,hx.kid (.head _),e2,λv H2 f2 c2 hv=>?_⟩;refine mR _ _ (aE λlB kJ=>?_);have out:∀ x5 Hi,Fw (P3 sd dl nd0) H Hi->CW K Hi av F R O vc sd dl nd0 g1 s1->lB [some vc,some (.ref sd),some (.ref nd0),some (.ref ad),some v,x5] Hi:=λx5 Hi fi ci=>kJ _ _ (q _ _ fi ci (.int 0));refine⟨_,U,.one v _ _ _ _ U (.ty "int") hv.ty (k.ev v2) ⟨_,U,?_⟩⟩;cases hv with
    | int j =>
     cases hE;exact ai (ai (out _ _ f2 c2))
    | rcd h ht hz hu2 =>
     cases hE;exact aL ⟨_,U,_,_,_,_,U,U,h,pH (j:=0) U,U,_,U,ai (out _ _ f2 c2)⟩
    | fn h _ _ _ _ _ _ _ _ _ _ =>
     cases hE;exact aL ⟨_,U,_,_,_,_,U,U,h,pH (j:=0) U,U,_,U,ai (out _ _ f2 c2)⟩
    | @row a0 t is h ht =>
     refine aL ⟨_,U,_,_,_,_,U,U,h,pH (j:=0) U,U,_,U,aL ?_⟩;refine⟨_,U,a0,_,_,_,U,U,h,pH (j:=1) U,t,U,⟨_,ht⟩,?_⟩;show aO _ _ _ _ _ _;refine aO.byN (cX (xs:=is.map V.int)) (λj σ Hj=>Fw (P3 sd dl nd0) H2 Hj/\(∃ gi si,CW K Hj av F R O vc sd dl nd0 gi si/\gN (evV F f) x b (is.drop j) gi si=some (g1,s1))/\∃ x5,σ=[some vc,some (.ref sd),some (.ref nd0),some (.ref ad),some (.ref a0),x5]) ⟨.refl,⟨g2,s2,c2,hE⟩,_,U⟩ (λ_ _ _ _ z=>ht.tk z.1.tk) ?_ ?_
     · rintro j u σ Hj N_ B_ hN_ hB_ hu' ⟨fj,⟨gi,si,ci,hEi⟩,x5,rfl⟩;have hj:j<is.length:=by have:=(gES.mp hu').1;rwa [lMp] at this
       rw[gEM,gEE hj] at hu';cases hu';rw[List.drop_eq_getElem_cons hj] at hEi;obtain⟨v3,g3,s3,e3,hE3⟩:=pZ hEi;obtain⟨H3,dp,c3,f3⟩:=ci.put (hx.bn (x:=x) (.head _)) (.int is[j]);have Fj:=f2.trans fj;have F3:=Fj.trans f3;refine⟨_,U,_,U,_,U,ad,_,_,_,U,U,(ha.tk Fj.tk),pH (j:=1) U,nd0,H3,U,dp,?_⟩;exact⟨_,U,_,U,_,U,_,U,ad,_,_,_,U,U,(ha.tk F3.tk),pH (j:=3) U,av,F,R,O,vc,_,sd,dl,nd0,_,si,b,v3,g3,s3,U,c3,t4.tk F3.tk,hx.kid (.tail _ (.head _)),e3,λv H' f' c' hv=>hN_ _ _ ⟨(fj.trans f3).trans f',⟨g3,s3,c',hE3⟩,_,U⟩⟩
     · rintro σ Hj ⟨fj,⟨gi,si,ci,hEi⟩,x5,rfl⟩;rw[lMp,List.drop_length] at hEi;cases hEi;exact out _ _ (f2.trans fj) ci
   | _=>cases hev
end
def Bp:(["_law_k","_law_values_here"]:List Str).Nodup:=by left
section
variable {P:Program} {w:World} {K:Fg} {mg:SOV} {base:Heap} {c:Ks}
def bh (n:Nat):(L2.ck 0 n).length=n:=by simp[L2.ck]
def mz {n j:Nat} {u:V} (h:(L2.ck 0 n)[j]?=some u):u=.int ((j:Nat):Int):=by
 unfold L2.ck at h;rw[gEM] at h;obtain⟨x,hx,rfl⟩:=oMS.mp h;obtain⟨h1,h2⟩:=gES.mp hx;rw[List.getElem_range] at h2;rw[<- h2,Int.zero_add]
def um {V:Env->St->Ex->Option R}:∀ {es:List Ex} {g g':Env} {s s':St} {ws:List EV},eZ V es g s=some (ws,g',s')->ws.length=es.length:=by
 intro es
 induction es with
 | nil=>intro g g' s s' ws h;obtain⟨rfl,_⟩:=nR h;rfl
 | cons e r ih =>
  intro g g' s s' ws h;obtain⟨v,g1,s1,ws',_,h2,rfl⟩:=l4 h;rw[List.length_cons,List.length_cons,ih h2]
def jY {F:List Fun} {f:Nat} {es:List Ex} {g g':Env} {s s':St} {ws:List EV} (h:evL F f g s es=some (ws,g',s')):ws.length=es.length/\es.length<=9:=by
 cases f with
 | zero=>cases h
 | succ f =>
  have h:(if es.length<=9 then eZ (evV F f) es g s else none)=some (ws,g',s'):=h;by_cases c9:es.length<=9
  · rw[if_pos c9] at h;exact⟨um h,c9⟩
  · rw[if_neg c9] at h;cases h
def ya (D:Def K mg "_law_applied" (top 64)) {f:Nat} (T:Blt mg) (k:KC K mg c) (aG:Fn P w K mg base "_law_value" (f+3) ps4 (spX K (fV f))) (bX:Fn P w K mg base "_law_values" (f+3) ["_law_core_here","_law_state","_law_names","_law_es"] (qF K f)) (bG:Fn P w K mg base "_law_ticked" 2 ["_law_state"] (kX K)) (aV:Fn P w K mg base "_law_ended" 1 ["_law_state","_law_word"] (kY K)) (hdict:mg "dict"=none):Fn P w K mg base "_law_applied" (f+4) ["_law_core_here","_law_state","_law_names","_law_e_here"] (spX K (fA (f+1))):=by
 have nd:(["_law_core_here","_law_state","_law_names","_law_e_here","_law_fun","_law_values_here","_law_inner","_law_k"]:List Str).Nodup:=by left
 exists D.fn (N:=["_law_core_here","_law_state","_law_names","_law_e_here","_law_fun","_law_values_here","_law_inner","_law_k"]) (~~~nd),bL
 · obtain⟨av,F,R,O,vc,ve,sd,dl,nd0,g,s,e,v1,g1,s1,rfl,_⟩:=h;rfl
 · obtain⟨av,F,R,O,vc,ve,sd,dl,nd0,g,s,e,v1,g1,s1,rfl,cw,he,hx,hev,q⟩:=h;have hz0:(40000:Nat)<sizeLine:=∅
   have hu:=cD hr;refine⟨_,(pD (pL (i:=4) nd U (.inl U) (aj aG ⇑hr U %[0,1,2,↥↥3|0]))
 (pD (pL (i:=5) nd U (.inl U) (aj bX ⇑hr U %[0,1,2,↥↥3|0]))
 (pD (az (pM gy (pK hu ↥1 pC Ue) bR (pN _)) (pG (ak pF)) aq)
 (pD (az (PW.pt (dk (bN (dP T.isinstance %[4,cu (v:=.ty "int") U k.bI bU U|0])) (dk (pM gz ↥↥4 pC (pN _)) (cP (pM gz (cq T.len %[↥↥4|0]) (cq T.len %[5|0]) (pN _)))))) (pG (ak (aj aV ⇑hr U %[1,ax %[pC,pC|0]|0]))) aq)
 (pD (pL (i:=6) nd U (.inl U) (oN hdict %[↥↥4|0]))
 (pD (cR PassesOwn.never U (bO U T.range %[cq T.len %[5|0]|0]) (aC (i:=7) nd U (.inl U)) (pG (du hu ↥6 (ac ag ↥↥4 ↥7 Ue) (ac aw ↥5 ↥7 Ue) U)))
 (pG (ak (bJ (bN (aj bG ⇑hr U %[1|0])) (aj aG ⇑hr U %[0,1,6,↥↥4|0]) pF))))))))),?_⟩
   dsimp only[be];cases e with
   | app a es =>
    obtain⟨ad,ys,rfl,ha,hy⟩:=(show TD K H ve (.tuple [.str "apply",exD a,.tuple (cx es)]) from he).tup_of;obtain⟨y1,y2,y3,rfl,t1,t2,t3⟩:=cJ hy;cases t1;obtain⟨⟨v2,g2,s2⟩,e2,hev⟩:=bind_some (show (evV F f g s a).bind _=some _ from hev);obtain⟨⟨ws,g3,s3⟩,e3,hev⟩:=bind_some (show (evL F f g2 s2 es).bind _=some _ from hev);refine aE λyf mR=>?_;refine⟨_,U,_,U,_,U,_,U,ad,_,_,_,U,U,ha,pH (j:=1) U,av,F,R,O,vc,_,sd,dl,nd0,g,s,a,v2,g2,s2,U,cw,t2,hx.kid (.head _),e2,λv H2 f2 c2 hv=>?_⟩;refine mR _ _ (aE λlB kJ=>?_);refine⟨_,U,_,U,_,U,_,U,ad,_,_,_,U,U,(ha.tk f2.tk),pH (j:=2) U,av,F,R,O,vc,_,sd,dl,nd0,g2,s2,es,ws,g3,s3,U,c2,t3.tk f2.tk,λk hk=>hx.kid (.tail _ hk),e3,λl us H3 f3 c3 hl0 hl pu=>?_⟩;have F3:=f2.trans f3;have hv3:=hv.fw f3 c2.sub;have ul:=aA pu;obtain⟨wl,w9⟩:=jY e3;refine kJ _ _ (aE λvW tE=>?_);obtain⟨ve3,d3,e33⟩:=c3.enG;refine⟨_,U,sd,ve3,U,d3,U,_,U,?_⟩;rw[e33.dec];have hev:(if s3.en.isSome=true then some (EV.int 0,g3,s3) else _)=some (v1,g1,s1):=hev;cases en:s3.en with
    | some w0 =>
     rw[if_pos (by rw[en];rfl)] at hev;cases hev;exact aL (q _ _ F3 c3 (.int 0))
    | none =>
     rw[if_neg (by rw[en];exact λz=>nomatch z)] at hev;refine ai (tE _ _ (aE λC5 Bw=>?_));refine⟨_,U,.one v _ _ _ _ U (.ty "int") hv3.ty (k.ev v2) ⟨_,U,?_⟩⟩;cases hv3 with
     | int j =>
      cases hev;refine aL (aL ⟨_,U,dB,λp hp=>?_⟩);have k4:=smu (o:=HO.tup [.str "fault",.str "apply"]) hp;have c4:=c3.same k4;exact⟨sd,dl,s3,.flt "apply",.ref p,U,c4.s,.flt (SqT.of pE),λH' f' m'=>q _ H' ((F3.trans (.of k4)).trans f'.s3) (c4.st f' m') (.int 0)⟩
     | row h ht =>
      cases hev;refine ai ⟨_,U,_,_,_,_,U,U,h,pH (j:=0) U,U,_,U,aL (aL ⟨_,U,dB,λp hp=>?_⟩)⟩;have k4:=smu (o:=HO.tup [.str "fault",.str "apply"]) hp;have c4:=c3.same k4;exact⟨sd,dl,s3,.flt "apply",.ref p,U,c4.s,.flt (SqT.of pE),λH' f' m'=>q _ H' ((F3.trans (.of k4)).trans f'.s3) (c4.st f' m') (.int 0)⟩
     | rcd h ht hz hu2 =>
      cases hev;refine ai ⟨_,U,_,_,_,_,U,U,h,pH (j:=0) U,U,_,U,aL (aL ⟨_,U,dB,λp hp=>?_⟩)⟩;have k4:=smu (o:=HO.tup [.str "fault",.str "apply"]) hp;have c4:=c3.same k4;exact⟨sd,dl,s3,.flt "apply",.ref p,U,c4.s,.flt (SqT.of pE),λH' f' m'=>q _ H' ((F3.trans (.of k4)).trans f'.s3) (c4.st f' m') (.int 0)⟩
     | @fn a0 t d vb ids e0 g0 kvs h ht hb hd nd' hx0 hi ko hz hk hg =>
      have hev:(if ids.length=ws.length then (if (cb s3).1=true then (evV F f (dI g0 ids ws) (cb s3).2 e0).map λz=>(z.1,g3,z.2.2) else some (EV.int 0,g3,(cb s3).2)) else some (EV.int 0,g3,bV s3 (.flt "apply")))=some (v1,g1,s1):=hev;refine ai ⟨_,U,_,_,_,_,U,U,h,pH (j:=0) U,U,_,U,ai ?_⟩;refine⟨_,U,a0,_,_,_,U,U,h,pH (j:=1) U,t,_,U,.inr ht,_,U,l,_,U,.inl (SqL.of hl),U,_,U,?_⟩;rw[lMp];by_cases el:ids.length=ws.length
      case neg =>
       rw[if_neg el] at hev;cases hev;refine pJ (by simpa using λz=>el ∅) ⟨_,U,dB,λp hp=>?_⟩;have k4:=smu (o:=HO.tup [.str "fault",.str "apply"]) hp;have c4:=c3.same k4;exact⟨sd,dl,s3,.flt "apply",.ref p,U,c4.s,.flt (SqT.of pE),λH' f' m'=>q _ H' ((F3.trans (.of k4)).trans f'.s3) (c4.st f' m') (.int 0)⟩
      rw[if_pos el] at hev;refine pI (by simp[el,ul]) (Bw _ _ (aE λDA DG=>?_));refine⟨_,U,a0,_,_,_,U,U,h,pH (j:=3) U,d,kvs,U,hd,λp hp=>?_⟩;have k4:=smu (o:=HO.dK kvs) hp;have gp:Paired (GVr K av H3) kvs g0:=hV hz λi kv pp z1 z2=>⟨hk _ _ _ z1 z2,hg _ _ _ z1 z2⟩;have n4:NV K (λa=>av a\/a=p) (upd H3 p (.dK kvs)) p g0:=⟨⟨kvs,pE,ah gp λ_ _ z=>⟨z.1,(z.2.more hp).same k4⟩⟩,ko⟩;have pu4:Paired (EvV K (λa=>av a\/a=p) (upd H3 p (.dK kvs))) us ws:=ah pu λ_ _ z=>(z.more hp).same k4;generalize upd H3 p (.dK kvs)=H4 at k4 n4 pu4 ⊢;refine DG _ _ (aE λDC DF=>?_);refine⟨_,U,l,_,U,.inl (SqL.of (k4 _ _ hl)),?_⟩;have np:∀ {a u},H3 a=some u->a≠p:=λz e=>by rw[e,hp] at z;cases z
      refine⟨_,U,∅,∅,?_⟩;rw[show ((us.length:Nat):Int).toNat=us.length from Int.toNat_natCast _];show aO _ _ _ _ _ _;refine aO.byN (bu (n:=us.length)) (λj σ Hj=>Fw (λa=>a=p) H4 Hj/\NV K (λa=>av a\/a=p) Hj p (dI g0 (ids.take j) (ws.take j))/\∃ x7,σ=[some vc,some (.ref sd),some (.ref nd0),some (.ref ad),some (.ref a0),some (.ref l),some (.ref p),x7]) ⟨.refl,n4,_,U⟩ (λ_ _ _ _ _=>trivial) ?_ ?_
      · rintro j u σ Hj N_ B_ hN_ hB_ hu' ⟨fj,nj,x7,rfl⟩;have hj:j<us.length:=by have:=(gES.mp hu').1;rwa [bh] at this
        have hij:ids[j]?=some (ids[j]'∅):=gEE _;have huj:us[j]?=some us[j]:=gEE hj;have hwj:ws[j]?=some (ws[j]'∅):=gEE _;have eu:=mz hu';subst eu;have ev:=(ba pu4 huj hwj).fw fj λa e=>.inr e;obtain⟨H5,dp,n5,f5⟩:=nj.put (hi _ (mGE hij)) ev (.inr rfl);have hl5:=fj.kp _ _ (np hl) (k4 _ _ hl);refine⟨_,U,_,U,l,_,_,_,U,U,SqL.of hl5,pH (j:=j) huj,_,U,_,U,a0,_,_,_,U,U,(h.tk k4.tk).tk fj.tk,pH (j:=1) U,_,U,t,_,_,_,U,U,(ht.tk k4.tk).tk fj.tk,pH (j:=j) (by rw[gEM,hij];rfl),p,H5,U,dp,?_⟩;refine hN_ _ _ ⟨fj.trans f5,?_,_,U⟩;rw[tAO,tAO,hij,hwj];show NV _ _ _ _ (dI g0 (ids.take j++[ids[j]'∅]) (ws.take j++[ws[j]'∅]));rw[oZ (by rw[lTk,lTk,el])];exact n5
      · rintro σ Hj ⟨fj,nj,x7,rfl⟩;rw[bh,ul,<- el,List.take_length,show ws.take ids.length=ws by rw[el];exact List.take_length] at nj;refine DF _ _ ?_;have f3j:Fw (P3 sd dl p) H3 Hj:=(Fw.of k4).trans (fj.mono λa z=>.inr (.inr z));have s3j:LS K Hj sd dl s3:=(c3.s.same k4).fw fj (λe=>c3.al _ c3.a1 (by rw[e];exact hp)) (λe=>c3.al _ c3.a2 (by rw[e];exact hp));refine⟨_,U,sd,dl,s3,U,s3j,λH5 f5 m5=>⟨_,U,?_⟩⟩;have f35:Fw (P3 sd dl p) H3 H5:=f3j.trans (f5.mono λa z=>.inl z);cases et:(cb s3).1 with
        | false =>
         rw[et,if_neg ∅] at hev;cases hev;obtain⟨F35,c5⟩:=c3.back hp f35 m5;exact ai (q _ _ (F3.trans F35) c5 (.int 0))
        | true =>
         rw[et,if_pos U] at hev;obtain⟨⟨v6,g6,s6⟩,e6,z⟩:=map_some hev;cases z;have n5:NV K (λa=>av a\/a=p) H5 p (dI g0 ids ws):=nj.fw f5 (λe=>c3.al _ c3.a1 (by rw[<- e];exact hp)) λa z=>.inl (by rw[z];exact c3.a1);have ci:=c3.inner hp f35 m5 n5;refine aL ⟨_,U,_,U,_,U,_,U,a0,_,_,_,U,U,h.tk f35.tk,pH (j:=2) U,(λa=>av a\/a=p),F,R,O,vc,_,sd,dl,p,_,_,e0,v6,g6,s6,U,ci,hb.tk f35.tk,hx0,e6,λv' H6 f6 c6 hv6=>?_⟩;obtain⟨F36,c7⟩:=c3.back hp (f35.trans f6) c6.s;exact q _ _ (F3.trans F36) c7 (hv6.less λa z=>.inl z)
   | _=>cases hev
def xY (D:Def K mg "_law_called" (top 65)) {f:Nat} (T:Blt mg) (aG:Fn P w K mg base "_law_value" (f+3) ps4 (spX K (fV f))) (bX:Fn P w K mg base "_law_values" (f+3) ["_law_core_here","_law_state","_law_names","_law_es"] (qF K f)) (bG:Fn P w K mg base "_law_ticked" 2 ["_law_state"] (kX K)) (hdict:mg "dict"=none):Fn P w K mg base "_law_called" (f+4) ["_law_core_here","_law_state","_law_names","_law_e_here"] (spX K (fC (f+1))):=by
 have nd:(["_law_core_here","_law_state","_law_names","_law_e_here","_law_values_here","_law_head","_law_count","_law_body"]:List Str).Nodup:=by left
 exists D.fn (N:=["_law_core_here","_law_state","_law_names","_law_e_here","_law_values_here","_law_head","_law_count","_law_body"]) (~~~nd),bL
 · obtain⟨av,F,R,O,vc,ve,sd,dl,nd0,g,s,e,v1,g1,s1,rfl,_⟩:=h;rfl
 · obtain⟨av,F,R,O,vc,ve,sd,dl,nd0,g,s,e,v1,g1,s1,rfl,cw,he,hx,hev,q⟩:=h;have hz0:(40000:Nat)<sizeLine:=∅
   have hu:=cD hr;refine⟨_,(pD (pL (i:=4) nd U (Or.inr U) (aj bX ⇑hr U %[0,1,2,↥↥3|0]))
 (pD (f9 (ac ag ↥↥0 ↥↥3 Ue) (dQ U (aU (aC (i:=5) nd U (.inl U)) (aU (aC (i:=6) nd U (.inl U)) (aU (aC (i:=7) nd U (.inl U)) d9)))))
 (pD (az (PW.pt (dk (pM gy (pK hu ↥1 pC Ue) bR (pN _)) (cP (PW.pt (cM (pM aB ↥5 pC (pN _)) (bW (f8 (bN (aj bG ⇑hr U %[1|0]))))))))) (pG (ak pF)) aq)
 (pG (ak (aj aG ⇑hr U %[0,1,oM hdict %[gx (own:=["_law_k"]) (outs:=[(4,"_law_values_here")]) (te:=mr (cV (dr 0) (cV (tOp (oY K) (dr 1) (dr 0)) gY))) U (br.of (am (top 65)) ["_law_core_here","_law_state","_law_names","_law_e_here","_law_values_here","_law_head","_law_count","_law_body"]) (bO U T.range %[6|0]) (λ_ _ _ _=>⟨(aC (i:=0) Bp U (.inl U)),cB,(ax %[0,ac aw ↥1 ↥0 Ue|0])⟩)|0],7|0])))))),?_⟩
   dsimp only[be];cases e with
   | cal j0 es =>
    obtain⟨ad,ys,rfl,ha,hy⟩:=(show TD K H ve (.tuple [.str "call",.int j0,.tuple (cx es)]) from he).tup_of;obtain⟨y1,y2,y3,rfl,t1,t2,t3⟩:=cJ hy;cases t1;cases t2;obtain⟨⟨ws,g3,s3⟩,e3,hev⟩:=bind_some (show (evL F f g s es).bind _=some _ from hev);have hev:(if 0<=j0 then (F[j0.toNat]?).bind λfn=>if s3.en.isSome=true then some (EV.int 0,g3,s3) else if fn.hd="deep"/\(cb s3).1=false then some (EV.int 0,g3,(cb s3).2) else if ws.length=fn.ct then (evV F f (dI [] ((List.range fn.ct).map Int.ofNat) ws) (if fn.hd="deep" then (cb s3).2 else s3) fn.bd).map λz=>(z.1,g3,z.2.2) else none else none)=some (v1,g1,s1):=hev;by_cases j0':0<=j0
    case neg=>rw[if_neg j0'] at hev;cases hev
    rw[if_pos j0'] at hev;obtain⟨j,rfl⟩:=Int.eq_ofNat_of_zero_le j0';obtain⟨fn,hfn,hev⟩:=bind_some hev;rw[Int.toNat_natCast] at hfn;have c9:=cw.fk.c fn (mGE hfn);refine aE λyf mR=>?_;refine⟨_,U,_,U,_,U,_,U,ad,_,_,_,U,U,ha,pH (j:=2) U,av,F,R,O,vc,_,sd,dl,nd0,g,s,es,ws,g3,s3,U,cw,t3,λk hk=>hx.kid hk,e3,λl us H3 f3 c3 hl0 hl pu=>?_⟩;have ul:=aA pu;refine mR _ _ (aE λlB kJ=>?_);obtain⟨ca,cs,rfl,hca,hcs⟩:=(show TD K H3 vc (.tuple [.tuple (F.map fnD),.tuple (R.map λn=>.int ((n:Nat):Int)),.tuple (O.map opD)]) from c3.c).tup_of;obtain⟨z1,z2,z3,rfl,u1,u2,u3⟩:=cJ hcs;obtain⟨fa,fs,rfl,hfa,hfs⟩:=u1.tup_of;have hj:(F.map fnD)[j]?=some (fnD fn):=by rw[gEM,hfn];rfl
    obtain⟨vf1,e1',tf⟩:=iB hfs hj;obtain⟨pa,ps,rfl,hpa,hps⟩:=(show TD K H3 vf1 (.tuple [.str fn.hd,.int ((fn.ct:Nat):Int),exD fn.bd]) from tf).tup_of;obtain⟨b1,b2,b3,rfl,w1,w2,w3⟩:=cJ hps;cases w1;cases w2;refine⟨_,U,ca,_,_,_,U,U,hca,pH (j:=0) U,_,U,ad,_,_,_,U,U,(ha.tk f3.tk),pH (j:=1) U,fa,_,_,_,U,U,hfa,pH (j:=j) e1',pa,_,U,hpa,U,_,_,U,_,_,U,_,_,U,U,?_⟩;refine kJ _ _ (aE λvW tE=>?_);obtain⟨ve3,d3,e33⟩:=c3.enG;refine⟨_,U,sd,ve3,U,d3,U,_,U,?_⟩;rw[e33.dec];cases en:s3.en with
    | some w0 =>
     rw[if_pos (show s3.en.isSome=true by rw[en];rfl)] at hev;cases hev;exact aL (aL (q _ _ f3 c3 (.int 0)))
    | none =>
     rw[if_neg (show ¬ s3.en.isSome=true by rw[en];exact λz=>nomatch z)] at hev;refine ai ?_;have go:∀ (s4:St) (H4:Hp),Fw (λa=>a=sd) H3 H4->LS K H4 sd dl s4->(if ws.length=fn.ct then (evV F f (dI [] ((List.range fn.ct).map Int.ofNat) ws) s4 fn.bd).map λz=>(z.1,g3,z.2.2) else none)=some (v1,g1,s1)->vW [some (.ref ca),some (.ref sd),some (.ref nd0),some (.ref ad),some (.ref l),some (.str fn.hd),some (.int ((fn.ct:Nat):Int)),some b3] H4:=λs4 H4 f4 m4 hev=>by
      refine tE _ _ ?_;have c4:=c3.st f4 m4;have F4:Fw (P3 sd dl nd0) H H4:=f3.trans f4.s3;by_cases el:ws.length=fn.ct
      case neg=>rw[if_neg el] at hev;cases hev
      rw[if_pos el] at hev;obtain⟨⟨v6,g6,s6⟩,e6,z⟩:=map_some hev;cases z;have hl4:H4 l=some (.lst us):=f4.kp _ _ (λe=>by rw[e] at hl;obtain⟨ve0,h0,_⟩:=c3.s.d;rw[h0] at hl;cases hl) hl;have pu4:=ah pu λ_ _ z=>z.fw f4 λa e=>by rw[e];exact c3.a1
      refine⟨_,U,_,U,?_⟩;rw[d0,iJ,d0,eO];refine⟨_,U,_,U,∅,∅,λG hG=>?_⟩;rw[show ((fn.ct:Nat):Int).toNat=fn.ct from Int.toNat_natCast _];have k0:=smu (o:=HO.lst []) hG;have il:((List.range fn.ct).map Int.ofNat).length=us.length:=by rw[lMp,List.length_range,ul,el]
      refine cN.by (bu (n:=fn.ct)) (λj σ Hj=>aI H4 Hj/\(∃ as:List Addr,Hj G=some (.lst (as.map V.ref))/\as.length=j/\Paired (λa (p:Int×V)=>SqT K Hj a [.int p.1,p.2]) as ((((List.range fn.ct).map Int.ofNat).zip us).take j))/\∃ y,σ=[y,some (.ref l)]) ⟨k0,⟨[],pE,U,.nil⟩,_,U⟩ (λ_ _ _ _ _=>trivial) ?_ ?_
      · rintro j u σ Hj hu' ⟨sj,⟨as,hGj,la,pa⟩,y,rfl⟩;have hj:j<fn.ct:=by have:=(gES.mp hu').1;rwa [bh] at this
        have eu:=mz hu';subst eu;have huj:us[j]?=some (us[j]'∅):=gEE _;rw[ce,dC];refine aL ⟨_,U,_,U,_,U,l,_,_,_,U,U,SqL.of (sj _ _ hl4),pH (j:=j) huj,dB,λp hp=>?_⟩;have k1:=smu (o:=HO.tup [.int ((j:Nat):Int),us[j]'∅]) hp;refine⟨as.map V.ref,k1 _ _ hGj,by rw[lMp];omega,λa v e=>?_,⟨as++[p],?_,by rw[lAp,la];rfl,?_⟩,_,U⟩
        · rw[af (ao e hG)];exact k1 _ _ (sj _ _ e)
        · rw[pE,List.map_append];rfl
        · have t2:Tk (upd Hj p (.tup [.int ((j:Nat):Int),us[j]'∅])) (upd (upd Hj p (.tup [.int ((j:Nat):Int),us[j]'∅])) G (.lst (as.map V.ref++[.ref p]))):=(Fw.upd (p:=λa=>a=G) U (dS (k1 _ _ hGj))).tk;have hz:(((List.range fn.ct).map Int.ofNat).zip us)[j]?=some (((j:Nat):Int),us[j]'∅):=by
           rw[List.getElem?_zip_eq_some];refine⟨?_,huj⟩;rw[gEM,List.getElem?_range hj];rfl
          rw[tAO,hz];exact bK (ah pa λ_ _ z=>(z.tk k1.tk).tk t2) (.cons ((SqT.of pE).tk t2) .nil)
      · rintro σ Hi ⟨si,⟨as,hGi,la,pa⟩,y,rfl⟩;rw[bh] at la pa;rw[List.take_of_length_le (by rw[List.length_zip,il];omega)] at pa;refine⟨G,as,_,U,hGi,pa,∅,λp hp=>?_⟩;have c5:=c4.same si;have hw5:TD K Hi b3 (exD fn.bd):=(w3.tk f4.tk).same si;have pu5:Paired (EvV K (λa=>av a\/a=p) Hi) us ws:=ah pu4 λ_ _ z=>(z.same si).more hp;obtain⟨gm,km⟩:=lF (K:=K) (av:=λa=>av a\/a=p) (H:=Hi) (kvs:=[]) (g:=[]) .nil .nil (ids:=(List.range fn.ct).map Int.ofNat) (λx hx'=>by
          obtain⟨n,hn,rfl⟩:=List.mem_map.mp hx';have:=List.mem_range.mp hn;exact⟨Int.natCast_nonneg n,by show ((n:Nat):Int)<300000;omega⟩) il pu5
        have k6:=smu (o:=HO.dK (cC [] ((((List.range fn.ct).map Int.ofNat).zip us).map λp=>(.inl p.1,p.2)))) hp;have n6:NV K (λa=>av a\/a=p) _ p _:=⟨⟨_,pE (H:=Hi) (a:=p) (o:=HO.dK (cC [] ((((List.range fn.ct).map Int.ofNat).zip us).map λp=>(.inl p.1,p.2)))),ah gm λ_ _ z=>⟨z.1,z.2.same k6⟩⟩,km⟩;have f6:Fw (P3 sd dl p) Hi _:=.of k6;have ci:=c5.inner hp f6 (c5.s.same k6) n6;refine⟨_,U,(λa=>av a\/a=p),F,R,O,_,_,sd,dl,p,_,_,fn.bd,v6,g6,s6,U,ci,hw5.same k6,cw.fk.x fn (mGE hfn),e6,λv' H7 f7 c7 hv7=>?_⟩;obtain⟨F57,c8⟩:=c5.back hp (f6.trans f7) c7.s;exact q _ _ ((F4.trans (.of si)).trans F57) c8 (hv7.less λa z=>.inl z)
     refine⟨_,U,U,_,U,?_⟩;by_cases hd:fn.hd="deep"
     · refine pJ (by simp[hd]) ⟨_,U,sd,dl,s3,U,c3.s,λH4 f4 m4=>⟨_,U,?_⟩⟩;cases et:(cb s3).1 with
       | false =>
        rw[if_pos ⟨hd,et⟩] at hev;cases hev;exact aL (q _ _ (f3.trans f4.s3) (c3.st f4 m4) (.int 0))
       | true =>
        rw[if_neg (λz=>by rw[et] at z;exact absurd z.2 ∅),if_pos hd] at hev;exact ai (go _ H4 f4 m4 hev)
     · rw[if_neg (λz=>hd z.1),if_neg hd] at hev;exact pI (by simpa using hd) (ai (go s3 H3 .refl c3.s hev))
   | _=>cases hev
end
def vx {xs:List V} {v:V}:atI (xs++[v]) ((((xs++[v]).length:Nat):Int)-1)=some v:=by
 have e:((((xs++[v]).length:Nat):Int)-1)=((xs.length:Nat):Int):=by rw[lAp];show ((xs.length+1:Nat):Int)-1=_;omega
 rw[e];exact pH (by rw[List.getElem?_append_right (Nat.le_refl _),Nat.sub_self];rfl)
def uL {α β:Type} {Rr:α->β->Prop} {us:List α} {ws:List β} {y:β} (h:Paired Rr us ws) (e:ws.getLast?=some y):∃ us' u,us=us'++[u]/\Rr u y:=by
 obtain⟨ws',rfl⟩:=List.getLast?_eq_some_iff.mp e;obtain⟨us',u,rfl,_,r⟩:=i8 h;exact⟨us',u,U,r⟩
section
variable {K:Fg} {H:Hp} {av:Addr->Prop} {F:List Fun} {R:List Nat} {O:List (Str×Nat)} {vc:V} {sd dl nd:Addr} {g:Env} {s:St}
def CW.deed (h:CW K H av F R O vc sd dl nd g s) {ds:List V} {v:V} {x:Lk} (hd:H dl=some (.lst ds)) (pd:Paired (LkV K H) ds s.D) (hv:LkV K H v x):CW K (upd H dl (.lst (ds++[v]))) av F R O vc sd dl nd g {s with D:=s.D++[x]}/\Fw (P3 sd dl nd) H (upd H dl (.lst (ds++[v]))):=by
 have f:Fw (λa=>a=dl) H (upd H dl (.lst (ds++[v]))):=.upd rfl (dS hd);obtain⟨ve,h1,e1⟩:=h.s.d;refine⟨h.go f.l3 ⟨⟨ve,f.kp _ _ h.s.ne h1,e1.tk f.tk⟩,⟨_,pE,bK (ah pd λ_ _ z=>z.tk f.tk) (.cons (hv.tk f.tk) .nil)⟩⟩ (h.n.fw f (h.n.nel h.s) λa z=>by rw[z];exact h.a2),f.l3⟩
end
section
variable {P:Program} {w:World} {K:Fg} {mg:SOV} {base:Heap} {c:Ks}
def xU (D:Def K mg "_law_other" (top 68)) {f:Nat} (T:Blt mg) (k:KC K mg c) (aG:Fn P w K mg base "_law_value" (f+3) ps4 (spX K (fV f))) (bX:Fn P w K mg base "_law_values" (f+3) ["_law_core_here","_law_state","_law_names","_law_es"] (qF K f)) (dG:Fn P w K mg base "_law_look" 1 ["_law_value_here"] (uc K)) (bH:Fn P w K mg base "_law_worth" 1 ["_law_value_here"] (qE K)) (i6:Fn P w K mg base "_law_sum" 2 ["_law_state","_law_word","_law_values_here"] (xn K)) (aV:Fn P w K mg base "_law_ended" 1 ["_law_state","_law_word"] (kY K)):Fn P w K mg base "_law_other" (f+4) ["_law_core_here","_law_state","_law_names","_law_e_here"] (spX K (fO_ (f+1))):=by
 have nd:(["_law_core_here","_law_state","_law_names","_law_e_here","_law_value_here","_law_values_here","_law_test"]:List Str).Nodup:=by left
 exists D.fn (N:=["_law_core_here","_law_state","_law_names","_law_e_here","_law_value_here","_law_values_here","_law_test"]) (~~~nd),bL
 · obtain⟨av,F,R,O,vc,ve,sd,dl,nd0,g,s,e,v1,g1,s1,rfl,_⟩:=h;rfl
 · obtain⟨av,F,R,O,vc,ve,sd,dl,nd0,g,s,e,v1,g1,s1,rfl,cw,he,hx,hev,q⟩:=h;have hz0:(40000:Nat)<sizeLine:=∅
   have hu:=cD hr;refine⟨_,(pD (az (pM aB ↥↥3 pC (pN _)) (pD (pL (i:=4) nd U (.inl U) (aj aG ⇑hr U %[0,1,2,↥↥3|0]))
 (pD (az (pM eC (pK hu ↥1 pC Ue) bR (pN _)) (pG (aH (cT (pK hu ↥1 pC Ue) %[aj dG ⇑hr U %[4|0]|0]))) aq)
 (pG (ak ↥4)))) aq)
 (pD (az (pM aB ↥↥3 pC (pN _)) (pG (ak (ax %[pC,↥↥3,dA T.tuple %[aj bX ⇑hr U %[0,1,2,↥↥3|0]|0]|0]))) aq)
 (pD (az (pM aB ↥↥3 pC (pN _)) (pD (pL (i:=5) nd U (.inl U) (aj bX ⇑hr U %[0,1,2,↥↥3|0]))
 (pG (ak (bJ (pM eC (pK hu ↥1 pC Ue) bR (pN _)) (aj i6 ⇑hr U %[1,↥↥3,5|0]) pF)))) aq)
 (pD (az (pM aB ↥↥3 pC (pN _)) (pG (ak (ac aw (aj bX ⇑hr U %[0,1,2,↥↥3|0]) (aN cF (cq T.len %[↥↥3|0]) pF) Ue))) aq)
 (pD (az (pM aB ↥↥3 pC (pN _)) (pD (pL (i:=6) nd U (.inl U) (aj bH ⇑hr U %[aj aG ⇑hr U %[0,1,2,↥↥3|0]|0]))
 (pG (ak (aj aG ⇑hr U %[0,1,2,ac ag ↥3 (aN cG pF (i7 k.bI %[dz aB ↥6 pF (pN _)|0])) Ue|0])))) aq)
 (pD (az (pM aB ↥↥3 pC (pN _)) (pD (du hu ↥2 ↥↥3 (aj aG ⇑hr U %[0,1,2,↥↥3|0]) U)
 (pG (ak (pK hu ↥2 ↥↥3 Ue)))) aq)
 (pG (ak (aj aV ⇑hr U %[1,ax %[pC,↥↥3|0]|0]))))))))),?_⟩
   dsimp only[be];cases e with
   | say a =>
    obtain⟨ad,ys,rfl,ha,hy⟩:=(show TD K H ve (.tuple [.str "say",exD a]) from he).tup_of;obtain⟨y1,y2,rfl,t1,t2⟩:=iD hy;cases t1;obtain⟨⟨v2,g2,s2⟩,e2,hev⟩:=bind_some (show (evV F f g s a).bind _=some _ from hev);have hev:(if s2.en.isSome=true then some (v2,g2,s2) else if s2.D.length<5000 then some (v2,g2,{s2 with D:=s2.D++[elk v2]}) else none)=some (v1,g1,s1):=hev;refine⟨_,U,ad,_,_,_,U,U,ha,pH (j:=0) U,U,_,U,aL (aE λyf mR=>?_)⟩;refine⟨_,U,_,U,_,U,_,U,ad,_,_,_,U,U,ha,pH (j:=1) U,av,F,R,O,vc,_,sd,dl,nd0,g,s,a,v2,g2,s2,U,cw,t2,hx.kid (.head _),e2,λv H2 f2 c2 hv=>?_⟩;refine mR _ _ (aE λlB kJ=>?_);obtain⟨ve2,d2,e3⟩:=c2.enG;refine⟨_,U,sd,ve2,U,d2,U,_,U,?_⟩;rw[e3.dec];cases en:s2.en with
    | some w0 =>
     rw[if_pos (show s2.en.isSome=true by rw[en];rfl)] at hev;cases hev;exact ai (kJ _ _ ⟨_,U,q _ _ f2 c2 hv⟩)
    | none =>
     rw[if_neg (show ¬ s2.en.isSome=true by rw[en];exact λz=>nomatch z)] at hev;by_cases d5:s2.D.length<5000
     case neg=>rw[if_neg d5] at hev;cases hev
     rw[if_pos d5] at hev;cases hev;obtain⟨ve0,h1,_⟩:=c2.s.d;obtain⟨ds,hd,pd⟩:=c2.s.l;have dl':=aA pd;refine aL ⟨_,U,sd,_,U,cE.k (k:=.inr "deeds") h1,.inl ⟨U,_,SqL.of hd⟩,_,U,av,v,v1,U,hv,λv' lv=>⟨dl,ds,_,U,U,hd,∅,?_⟩⟩;obtain⟨c3,f3⟩:=c2.deed hd pd lv;exact kJ _ _ ⟨_,U,q _ _ (f2.trans f3) c3 (hv.fw f3 c2.sub)⟩
   | new r es =>
    obtain⟨ad,ys,rfl,ha,hy⟩:=(show TD K H ve (.tuple [.str "new",.int r,.tuple (cx es)]) from he).tup_of;obtain⟨y1,y2,y3,rfl,t1,t2,t3⟩:=cJ hy;cases t1;cases t2;obtain⟨⟨ws,g3,s3⟩,e3,z⟩:=map_some (show (evL F f g s es).map _=some _ from hev);cases z;refine ↑?_;refine⟨_,U,ad,_,_,_,U,U,ha,pH (j:=0) U,U,_,U,aL ?_⟩;refine⟨_,U,ad,_,_,_,U,U,ha,pH (j:=1) U,_,U,_,U,_,U,_,U,ad,_,_,_,U,U,ha,pH (j:=2) U,av,F,R,O,vc,_,sd,dl,nd0,g,s,es,ws,g1,s1,U,cw,t3,λk hk=>hx.kid hk,e3,λl us H3 f3 c3 hl0 hl pu=>?_⟩;refine⟨l,us,U,.inl ⟨SqL.of hl,λF' hF=>?_⟩⟩;have k4:=smu (o:=HO.tup us) hF;refine⟨kH,λp hp=>?_⟩;have k5:=smu (o:=HO.tup [.str "record",.int r,.ref F']) hp;have k45:=k4.trans k5;exact q _ _ (f3.trans (.of k45)) (c3.same k45) (.rcd (SqT.of pE) ((SqT.of pE).tk k5.tk) (aA pu) λi u y z1 z2=>(ba pu z1 z2).same k45)
   | op w0 es =>
    obtain⟨ad,ys,rfl,ha,hy⟩:=(show TD K H ve (.tuple [.str "op",.str w0,.tuple (cx es)]) from he).tup_of;obtain⟨y1,y2,y3,rfl,t1,t2,t3⟩:=cJ hy;cases t1;cases t2;have hev:(if opA w0 es.length=true then (evL F f g s es).bind _ else none)=some (v1,g1,s1):=hev;by_cases oa:opA w0 es.length=true
    case neg=>rw[if_neg oa] at hev;cases hev
    rw[if_pos oa] at hev;obtain⟨⟨ws,g3,s3⟩,e3,hev⟩:=bind_some hev;have hev:(if s3.en.isSome=true then some (EV.int 0,g3,s3) else if ws.all (λv=>decide (Sml (aZ v))&&decide ((bC v).length<=8))=true then (match opR w0 (ws.map aZ) (ws.map bC) with
      | .int i=>some (EV.int i,g3,s3)
      | .row is=>some (EV.row is,g3,s3)
      | .flt w=>some (EV.int 0,g3,bV s3 (.flt w))) else none)=some (v1,g1,s1):=hev
    obtain⟨wl,w9⟩:=jY e3;refine ↑↑?_;refine⟨_,U,ad,_,_,_,U,U,ha,pH (j:=0) U,U,_,U,aL (aE λyf mR=>?_)⟩;refine⟨_,U,_,U,_,U,_,U,ad,_,_,_,U,U,ha,pH (j:=2) U,av,F,R,O,vc,_,sd,dl,nd0,g,s,es,ws,g3,s3,U,cw,t3,λk hk=>hx.kid hk,e3,λl us H3 f3 c3 hl0 hl pu=>?_⟩;refine mR _ _ ?_;obtain⟨ve3,d3,e33⟩:=c3.enG;refine⟨_,U,sd,ve3,U,d3,U,_,U,?_⟩;rw[e33.dec];cases en:s3.en with
    | some w1 =>
     rw[if_pos (show s3.en.isSome=true by rw[en];rfl)] at hev;cases hev;exact ai (q _ _ f3 c3 (.int 0))
    | none =>
     rw[if_neg (show ¬ s3.en.isSome=true by rw[en];exact λz=>nomatch z)] at hev;by_cases al:ws.all (λv=>decide (Sml (aZ v))&&decide ((bC v).length<=8))=true
     case neg=>rw[if_neg al] at hev;cases hev
     rw[if_pos al] at hev;have sm:∀ x∈ws,Sml (aZ x)/\(bC x).length<=8:=λx hx'=>by
      have:=List.all_eq_true.mp al x hx';rw[Bool.and_eq_true,decide_eq_true_eq,decide_eq_true_eq] at this;exact this
     have eqs:v1=(orE s3 (opR w0 (ws.map aZ) (ws.map bC))).1/\g1=g3/\s1=(orE s3 (opR w0 (ws.map aZ) (ws.map bC))).2:=by
      revert hev
      cases opR w0 (ws.map aZ) (ws.map bC) with
      | int i=>intro hev;cases hev;exact⟨U,U,U⟩
      | row is=>intro hev;cases hev;exact⟨U,U,U⟩
      | flt w=>intro hev;cases hev;exact⟨U,U,U⟩
     obtain⟨rfl,rfl,rfl⟩:=eqs;exact aL ⟨_,U,_,U,ad,_,_,_,U,U,(ha.tk f3.tk),pH (j:=1) U,_,U,av,sd,dl,s3,w0,l,us,ws,U,c3.s,hl,pu,xM (by rw[wl];exact oa) sm,λv H' f' m' hv=>q v H' (f3.trans f'.s3) (c3.st f' m') hv⟩
   | seq es =>
    obtain⟨ad,ys,rfl,ha,hy⟩:=(show TD K H ve (.tuple [.str "do",.tuple (cx es)]) from he).tup_of;obtain⟨y1,y2,rfl,t1,t2⟩:=iD hy;cases t1;obtain⟨⟨ws,g3,s3⟩,e3,hev⟩:=bind_some (show (evL F f g s es).bind _=some _ from hev);obtain⟨y,ey,z⟩:=map_some hev;cases z;obtain⟨wl,w9⟩:=jY e3;refine ↑↑↑?_;refine⟨_,U,ad,_,_,_,U,U,ha,pH (j:=0) U,U,_,U,aL ?_⟩;refine⟨_,U,_,U,_,U,_,U,ad,_,_,_,U,U,ha,pH (j:=1) U,av,F,R,O,vc,_,sd,dl,nd0,g,s,es,ws,g1,s1,U,cw,t2,λk hk=>hx.kid hk,e3,λl us H3 f3 c3 hl0 hl pu=>?_⟩;obtain⟨ta,vs,rfl,hta,hvs⟩:=t2.tup_of;have vl:=hvs.length;rw[cS] at vl;have ul:=aA pu;obtain⟨us',u,rfl,ru⟩:=uL pu ey;refine⟨_,U,ad,_,_,_,U,U,(ha.tk f3.tk),pH (j:=1) U,ta,_,U,.inr (hta.tk f3.tk),_,_,U,U,l,_,_,u,U,U,SqL.of hl,?_,q _ _ f3 c3 ru⟩;rw[show vs.length=(us'++[u]).length by omega];exact vx
   | ite a b d =>
    obtain⟨ad,ys,rfl,ha,hy⟩:=(show TD K H ve (.tuple [.str "if",exD a,exD b,exD d]) from he).tup_of;obtain⟨y1,yr,rfl,t1,tr⟩:=cA hy;obtain⟨y2,y3,y4,rfl,t2,t3,t4⟩:=cJ tr;cases t1;obtain⟨⟨v2,g2,s2⟩,e2,e3⟩:=bind_some (show (evV F f g s a).bind _=some _ from hev);refine ↑↑↑↑?_;refine⟨_,U,ad,_,_,_,U,U,ha,pH (j:=0) U,U,_,U,aL (aE λyf mR=>?_)⟩;refine⟨_,U,_,U,_,U,_,U,ad,_,_,_,U,U,ha,pH (j:=1) U,av,F,R,O,vc,_,sd,dl,nd0,g,s,a,v2,g2,s2,U,cw,t2,hx.kid (.head _),e2,λv H2 f2 c2 hv=>?_⟩;refine⟨av,v,v2,U,hv,?_⟩;refine mR _ _ ?_;by_cases e0:aZ v2=0
    · have e3:evV F f g2 s2 (if aZ v2=0 then d else b)=some (v1,g1,s1):=e3;rw[if_pos e0] at e3;rw[e0];exact⟨_,U,_,U,_,U,_,U,_,U,U,.inr ⟨_,U,_,_,U,U,ad,_,_,_,U,U,ha.tk f2.tk,pH (j:=3) U,av,F,R,O,vc,_,sd,dl,nd0,g2,s2,d,v1,g1,s1,U,c2,t4.tk f2.tk,hx.kid (.tail _ (.tail _ (.head _))),e3,λv' H' f' c' hv'=>q v' H' (f2.trans f') c' hv'⟩⟩
    · have e3:evV F f g2 s2 (if aZ v2=0 then d else b)=some (v1,g1,s1):=e3;rw[if_neg e0] at e3;have ed:decide (V.int (aZ v2)=V.int 0)=false:=by simpa using e0
      refine⟨_,U,_,U,_,U,_,U,_,U,U,.inr ⟨_,U,?_⟩⟩;rw[ed];exact⟨_,_,U,U,ad,_,_,_,U,U,ha.tk f2.tk,pH (j:=2) U,av,F,R,O,vc,_,sd,dl,nd0,g2,s2,b,v1,g1,s1,U,c2,t3.tk f2.tk,hx.kid (.tail _ (.head _)),e3,λv' H' f' c' hv'=>q v' H' (f2.trans f') c' hv'⟩
   | set x a =>
    obtain⟨ad,ys,rfl,ha,hy⟩:=(show TD K H ve (.tuple [.str "set",.int x,exD a]) from he).tup_of;obtain⟨y1,y2,y3,rfl,t1,t2,t3⟩:=cJ hy;cases t1;cases t2;obtain⟨⟨v2,g2,s2⟩,e2,z⟩:=map_some (show (evV F f g s a).map _=some _ from hev);cases z;refine ↑↑↑↑↑?_;refine⟨_,U,ad,_,_,_,U,U,ha,pH (j:=0) U,U,_,U,aL (aE λyf mR=>?_)⟩;refine⟨_,U,_,U,_,U,_,U,ad,_,_,_,U,U,ha,pH (j:=2) U,av,F,R,O,vc,_,sd,dl,nd0,g,s,a,v2,g2,s2,U,cw,t3,hx.kid (.head _),e2,λv H2 f2 c2 hv=>?_⟩;obtain⟨H3,dp,c3,f3⟩:=c2.put (hx.bn (x:=x) (.head _)) hv;have F3:=f2.trans f3;refine⟨_,U,_,U,ad,_,_,_,U,U,(ha.tk f2.tk),pH (j:=1) U,nd0,H3,U,dp,mR _ _ ?_⟩;obtain⟨v',dg,hv'⟩:=c3.get (x:=x) (y:=v2) (by rw[cj,if_pos U]);exact⟨_,U,_,U,ad,_,_,_,U,U,(ha.tk F3.tk),pH (j:=1) U,nd0,v',U,dg,q _ _ F3 c3 hv'⟩
   | flt w0 =>
    obtain⟨ad,ys,rfl,ha,hy⟩:=(show TD K H ve (.tuple [.str "fault",.str w0]) from he).tup_of;obtain⟨y1,y2,rfl,t1,t2⟩:=iD hy;cases t1;cases t2;cases hev;refine ↑↑↑↑↑↑?_;refine⟨_,U,_,U,ad,_,_,_,U,U,ha,pH (j:=1) U,dB,λp hp=>?_⟩;have k4:=smu (o:=HO.tup [.str "fault",.str w0]) hp;have c4:=cw.same k4;exact⟨sd,dl,s,.flt w0,.ref p,U,c4.s,.flt (SqT.of pE),λH' f' m'=>q _ H' ((Fw.of k4).trans f'.s3) (c4.st f' m') (.int 0)⟩
   | _=>cases hev
end
structure BR (P:Program) (w:World) (K:Fg) (mg:SOV) (base:Heap) (f:Nat):Prop where
  fv:Fn P w K mg base "_law_value" (f+3) ps4 (spX K (fV f))
  fb:Fn P w K mg base "_law_bound" (f+3) ps4 (spX K (fB f))
  fw:Fn P w K mg base "_law_loop" (f+3) ps4 (spX K (fW f))
  fa:Fn P w K mg base "_law_applied" (f+3) ps4 (spX K (fA f))
  fc:Fn P w K mg base "_law_called" (f+3) ps4 (spX K (fC f))
  fg:Fn P w K mg base "_law_got" (f+3) ps4 (spX K (fG f))
  fo:Fn P w K mg base "_law_other" (f+3) ps4 (spX K (fO_ f))
  fl:Fn P w K mg base "_law_values" (f+3) ["_law_core_here","_law_state","_law_names","_law_es"] (qF K f)
  fh:Fn P w K mg base "_law_goes" (f+3) ps4 (xq K f)
structure ze (K:Fg) (mg:SOV):Prop where
  v:Def K mg "_law_value" (top 69)
  b:Def K mg "_law_bound" (top 66)
  w:Def K mg "_law_loop" (top 63)
  a:Def K mg "_law_applied" (top 64)
  c:Def K mg "_law_called" (top 65)
  g:Def K mg "_law_got" (top 67)
  o:Def K mg "_law_other" (top 68)
  l:Def K mg "_law_values" (top 61)
  h:Def K mg "_law_goes" (top 62)
section
variable {P:Program} {w:World} {K:Fg} {mg:SOV} {base:Heap} {c:Ks}
def yD (D:ze K mg) (T:Blt mg) (k:KC K mg c) (hdict:mg "dict"=none) (aV:Fn P w K mg base "_law_ended" 1 ["_law_state","_law_word"] (kY K)) (bG:Fn P w K mg base "_law_ticked" 2 ["_law_state"] (kX K)) (bH:Fn P w K mg base "_law_worth" 1 ["_law_value_here"] (qE K)) (dG:Fn P w K mg base "_law_look" 1 ["_law_value_here"] (uc K)) (i6:Fn P w K mg base "_law_sum" 2 ["_law_state","_law_word","_law_values_here"] (xn K)):∀ f,BR P w K mg base f:=by
 intro f
 induction f with
 | zero =>
  refine⟨?_,?_,?_,?_,?_,?_,?_,?_,?_⟩
  · exists D.v.fn (N:=["_law_core_here","_law_state","_law_names","_law_e_here"]) fsM,bL
    · obtain⟨_,_,_,_,_,_,_,_,_,_,_,_,_,_,_,rfl,_⟩:=h;rfl
    · obtain⟨_,F,_,_,_,_,_,_,_,g,s,e,_,_,_,_,_,_,_,z,_⟩:=h;exact absurd z (by cases e <;> exact λz=>nomatch z)
  · exists D.b.fn (N:=["_law_core_here","_law_state","_law_names","_law_e_here"]) fsM,bL
    · obtain⟨_,_,_,_,_,_,_,_,_,_,_,_,_,_,_,rfl,_⟩:=h;rfl
    · obtain⟨_,F,_,_,_,_,_,_,_,g,s,e,_,_,_,_,_,_,_,z,_⟩:=h;exact absurd z (by cases e <;> exact λz=>nomatch z)
  · exists D.w.fn (N:=["_law_core_here","_law_state","_law_names","_law_e_here","_law_over","_law_one"]) fsM,bL
    · obtain⟨_,_,_,_,_,_,_,_,_,_,_,_,_,_,_,rfl,_⟩:=h;rfl
    · obtain⟨_,F,_,_,_,_,_,_,_,g,s,e,_,_,_,_,_,_,_,z,_⟩:=h;exact absurd z (by cases e <;> exact λz=>nomatch z)
  · exists D.a.fn (N:=["_law_core_here","_law_state","_law_names","_law_e_here","_law_fun","_law_values_here","_law_inner","_law_k"]) fsM,bL
    · obtain⟨_,_,_,_,_,_,_,_,_,_,_,_,_,_,_,rfl,_⟩:=h;rfl
    · obtain⟨_,F,_,_,_,_,_,_,_,g,s,e,_,_,_,_,_,_,_,z,_⟩:=h;exact absurd z (by cases e <;> exact λz=>nomatch z)
  · exists D.c.fn (N:=["_law_core_here","_law_state","_law_names","_law_e_here","_law_values_here","_law_head","_law_count","_law_body"]) fsM,bL
    · obtain⟨_,_,_,_,_,_,_,_,_,_,_,_,_,_,_,rfl,_⟩:=h;rfl
    · obtain⟨_,F,_,_,_,_,_,_,_,g,s,e,_,_,_,_,_,_,_,z,_⟩:=h;exact absurd z (by cases e <;> exact λz=>nomatch z)
  · exists D.g.fn (N:=["_law_core_here","_law_state","_law_names","_law_e_here","_law_value_here"]) fsM,bL
    · obtain⟨_,_,_,_,_,_,_,_,_,_,_,_,_,_,_,rfl,_⟩:=h;rfl
    · obtain⟨_,F,_,_,_,_,_,_,_,g,s,e,_,_,_,_,_,_,_,z,_⟩:=h;exact absurd z (by cases e <;> exact λz=>nomatch z)
  · exists D.o.fn (N:=["_law_core_here","_law_state","_law_names","_law_e_here","_law_value_here","_law_values_here","_law_test"]) fsM,bL
    · obtain⟨_,_,_,_,_,_,_,_,_,_,_,_,_,_,_,rfl,_⟩:=h;rfl
    · obtain⟨_,F,_,_,_,_,_,_,_,g,s,e,_,_,_,_,_,_,_,z,_⟩:=h;exact absurd z (by cases e <;> exact λz=>nomatch z)
  · exists D.l.fn (N:=["_law_core_here","_law_state","_law_names","_law_es"]) fsM,bL
    · obtain⟨_,_,_,_,_,_,_,_,_,_,_,_,_,_,_,rfl,_⟩:=h;rfl
    · obtain⟨_,F,_,_,_,_,_,_,_,g,s,e,_,_,_,_,_,_,_,z,_⟩:=h;exact absurd z (λz=>nomatch z)
  · exists D.h.fn (N:=["_law_core_here","_law_state","_law_names","_law_e_here","_law_value_here"]) fsM,bL
    · obtain⟨_,_,_,_,_,_,_,_,_,_,_,_,_,_,_,rfl,_⟩:=h;rfl
    · obtain⟨_,F,_,_,_,_,_,_,_,g,s,e,_,_,_,_,_,_,_,z,_⟩:=h;exact absurd z (λz=>nomatch z)
 | succ f ih =>
  exact⟨xT D.v aV ih.fb ih.fw ih.fa ih.fc ih.fg ih.fo hdict,xZ D.b ih.fv,xS D.w T k ih.fv ih.fh bG,ya D.a T k ih.fv ih.fl bG aV hdict,xY D.c T ih.fv ih.fl bG hdict,xX D.g T k ih.fv aV,xU D.o T k ih.fv ih.fl dG bH i6 aV,xV D.l ih.fv,xW D.h ih.fv bH⟩
end
end K19
namespace Q19
open PySem L2 P10
open K19 hiding be St
def eU (nx:Int) (hd:Addr) (own:Nat) (rc:Addr) (ca:Int):List (Key×V):=[(.inr "next",.int nx),(.inr "heads",.ref hd),(.inr "own",.int ((own:Nat):Int)),(.inr "records",.ref rc),(.inr "calls",.int ca)]
def rP {nx ca i:Int} {hd rc:Addr} {own:Nat}:dn (eU nx hd own rc ca) (.inr "next") (.int i)=eU i hd own rc ca:=rfl
def pq {nx ca i:Int} {hd rc:Addr} {own:Nat}:dn (eU nx hd own rc ca) (.inr "calls") (.int i)=eU nx hd own rc i:=rfl
def dH (p:Str×Nat):PyData:=.tuple [.str p.1,.int ((p.2:Nat):Int)]
def Sm2 (b g:Addr) (H H':Hp):Prop:=∀ a u,a≠b->a≠g->H a=some u->H' a=some u
def Sm2.trans {b g:Addr} {H H1 H2:Hp} (x:Sm2 b g H H1) (y:Sm2 b g H1 H2):Sm2 b g H H2:=λa u h1 h2 h=>y a u h1 h2 (x a u h1 h2 h)
def Sm2.of {b g:Addr} {H H':Hp} (s:aI H H'):Sm2 b g H H':=λa u _ _ h=>s a u h
def _root_.K19.Mo.sm2 {b g:Addr} {H H':Hp} (m:Mo H b H'):Sm2 b g H H':=λa u h1 _ h=>(m a h1).trans h
def _root_.K19.Mo.sm2' {b g:Addr} {H H':Hp} (m:Mo H g H'):Sm2 b g H H':=λa u _ h2 h=>(m a h2).trans h
structure MS (K:Fg) (H:Hp) (Γ:Gam) (b g hd rc:Addr) (k nx ca:Int):Prop where
  bx:fZ H b k
  lo:H g=some (.dK (eU nx hd Γ.own rc ca))
  hv:∃ xs,H hd=some (.lst xs)/\TDs K H xs (Γ.hs.map dH)
  hb:hd≠b
  rv:TD K H (.ref rc) (dN Γ.rs)
def MS.bf {K:Fg} {H:Hp} {Γ:Gam} {b g hd rc:Addr} {k nx ca:Int} (h:MS K H Γ b g hd rc k nx ca):∃ ys,H b=some (.lst ys):=by obtain⟨n,c,h,_⟩:=h.bx;exact⟨_,h⟩
def MS.ne {K:Fg} {H:Hp} {Γ:Gam} {b g hd rc:Addr} {k nx ca:Int} (h:MS K H Γ b g hd rc k nx ca):b≠g:=λe=>by
 obtain⟨ys,h1⟩:=h.bf;rw[e,h.lo] at h1;cases h1
def MS.ng {K:Fg} {H:Hp} {Γ:Gam} {b g hd rc:Addr} {k nx ca:Int} (h:MS K H Γ b g hd rc k nx ca):hd≠g:=λe=>by
 obtain⟨xs,h1,_⟩:=h.hv;rw[e,h.lo] at h1;cases h1
def Sm2.tk {K:Fg} {H H':Hp} {Γ:Gam} {b g hd rc:Addr} {k nx ca:Int} (s:Sm2 b g H H') (m:MS K H Γ b g hd rc k nx ca):Tk H H':=λa xs h=>by
 have n1:a≠b:=λe=>by
  obtain⟨ys,h1⟩:=m.bf;rw[e] at h
  rcases h with h | ⟨_,h⟩ <;> rw[h1] at h <;> cases h
 have n2:a≠g:=λe=>by
  rw[e] at h
  rcases h with h | ⟨_,h⟩ <;> rw[m.lo] at h <;> cases h
 rcases h with h | ⟨o,h⟩
 · exact .inl (s _ _ n1 n2 h)
 · exact .inr ⟨o,s _ _ n1 n2 h⟩
def MS.same {K:Fg} {H H':Hp} {Γ:Gam} {b g hd rc:Addr} {k nx ca:Int} (m:MS K H Γ b g hd rc k nx ca) (s:aI H H'):MS K H' Γ b g hd rc k nx ca:=by
 obtain⟨n,c,h,h0⟩:=m.bx;obtain⟨xs,h1,h2⟩:=m.hv;exact⟨⟨n,c,s _ _ h,h0⟩,s _ _ m.lo,⟨xs,s _ _ h1,h2.same s⟩,m.hb,m.rv.same s⟩
def MS.took {K:Fg} {H H':Hp} {Γ:Gam} {b g hd rc:Addr} {k k' nx ca:Int} (m:MS K H Γ b g hd rc k nx ca) (mo:Mo H b H') (bx:fZ H' b k'):MS K H' Γ b g hd rc k' nx ca:=by
 obtain⟨xs,h1,h2⟩:=m.hv;have tk:=Sm2.tk (mo.sm2 (g:=g)) m;exact⟨bx,(mo g (Ne.symm m.ne)).trans m.lo,⟨xs,(mo hd m.hb).trans h1,h2.tk tk⟩,m.hb,m.rv.tk tk⟩
def MS.put {K:Fg} {H:Hp} {Γ:Gam} {b g hd rc:Addr} {k nx ca nx' ca':Int} (m:MS K H Γ b g hd rc k nx ca):MS K (upd H g (.dK (eU nx' hd Γ.own rc ca'))) Γ b g hd rc k nx' ca':=by
 obtain⟨xs,h1,h2⟩:=m.hv;obtain⟨n,c,h,h0⟩:=m.bx;have mo:Mo H g (upd H g (.dK (eU nx' hd Γ.own rc ca'))):=Mo.put λ_ _=>rfl;have tk:=Sm2.tk (mo.sm2' (b:=b)) m;exact⟨⟨n,c,(mo b m.ne).trans h,h0⟩,pE,⟨xs,(mo hd m.ng).trans h1,h2.tk tk⟩,m.hb,m.rv.tk tk⟩
structure ja (K:Fg) (H:Hp) (b g sd:Addr) (L W:List Int):Prop where
  ex:∃ la va,SqT K H sd [.ref la,.ref va]/\H la=some (.lst (L.map V.int))/\H va=some (.lst (W.map V.int))/\la≠b/\va≠b/\la≠g/\va≠g
def ja.sm {K:Fg} {H H':Hp} {Γ:Gam} {b g hd rc sd:Addr} {k nx ca:Int} {L W:List Int} (h:ja K H b g sd L W) (m:MS K H Γ b g hd rc k nx ca) (s:Sm2 b g H H'):ja K H' b g sd L W:=by
 obtain⟨la,va,h1,h2,h3,n1,n2,n3,n4⟩:=h.ex;exact⟨la,va,h1.tk (s.tk m),s _ _ n1 n3 h2,s _ _ n2 n4 h3,n1,n2,n3,n4⟩
def cst:Nat->Nat
  | 0=>10
  | n+1=>8*cst n+60
def fT (n:Nat):10<=cst n:=by
 cases n with
 | zero=>exact Nat.le_refl _
 | succ n=>show 10<=8*cst n+60;omega
section
variable {P:Program} {w:World} {K:Fg} {mg:SOV} {base:Heap}
abbrev sFr:Stmt:=top 47
inductive wJ (K:Fg) (vs:List V) (H:Hp) (Q:VK):Prop
  | mk (Γ:Gam) (b g hd rc:Addr) (k nx ca:Int) (h0:vs=[.ref g]) (h1:MS K H Γ b g hd rc k nx ca) (q:∀ H',Mo H g H'->MS K H' Γ b g hd rc k (nx+1) ca->Q (.int nx) H'):wJ K vs H Q
def xt (K:Fg):Sp:=λvs H Q _=>wJ K vs H Q
def Ch:bv ["_law_lore"] ["_law_lore"] (am sFr):=fsM
def ok_fr (D:Def K mg "_law_fresh" sFr):Fn P w K mg base "_law_fresh" 1 ["_law_lore"] (xt K):=by
 exists D.fn Ch,fD,_
 · obtain⟨Γ,b,g,hd,rc,k,nx,ca,rfl,_⟩:=h;rfl
 · obtain⟨Γ,b,g,hd,rc,k,nx,ca,rfl,m,q⟩:=h;have hu:=cD hr;refine⟨_,(pD (du hu ↥0 pC (aN cG (pK hu ↥0 pC Ue) pF) U)
 (pG (ak (aN cF (pK hu ↥0 pC Ue) pF)))),?_⟩
   have e1:cE H g (.str "next") (some (.int nx)):=cE.k (k:=.inr "next") m.lo;have m1:=m.put (nx':=nx+1) (ca':=ca);refine⟨_,U,g,_,U,e1,_,_,U,U,_,U,g,_,U,io.k (k:=.inr "next") m.lo (by show 5<sizeLine;decide),?_⟩;rw[rP];have e2:cE (upd H g (.dK (eU (nx+1) hd Γ.own rc ca))) g (.str "next") (some (.int (nx+1))):=cE.k (k:=.inr "next") m1.lo;refine⟨_,U,g,_,U,e2,_,_,U,U,?_⟩;rw[show nx+1-1=nx by omega];exact q _ (Mo.put λ_ _=>rfl) m1
abbrev sLf:Stmt:=top 46
inductive wE (K:Fg) (vs:List V) (H:Hp) (Q:VK):Prop
  | mk (Γ:Gam) (b g hd rc sd:Addr) (k nx ca:Int) (L W:List Int) (h0:vs=[.ref b,.ref sd]) (h1:MS K H Γ b g hd rc k nx ca) (h2:ja K H b g sd L W) (h3:k<=990000) (h4:L.length+W.length<=1000)
    (q:∀ v d k' H',Sm2 b g H H'->MS K H' Γ b g hd rc k' nx ca->k'<=k+3->TD K H' v d->(∀ n,XE Γ L W (n+1) nx d nx)->Q v H'):wE K vs H Q
def qG (K:Fg):Sp:=λvs H Q _=>wE K vs H Q
def Ac:bv ["_law_box_here","_law_seen","_law_some"] ["_law_box_here","_law_seen"] (am sLf):=fsM
def dm:List Int:=[0,1,2,3,-1,32767]
def o9 {j:Nat} (h:j<dm.length):sh dm[j]:=by
 have:∀ i∈dm,sh i:=∅
 exact this _ (List.getElem_mem h)
def ok_lf (D:Def K mg "_law_leaf" sLf) (T:Blt mg) (au:Fn P w K mg base "_law_take" 1 ["_law_box_here","_law_many_here"] gZ):Fn P w K mg base "_law_leaf" 2 ["_law_box_here","_law_seen"] (qG K):=by
 exists D.fn Ac,i4,_,_
 · obtain⟨Γ,b,g,hd,rc,sd,k,nx,ca,L,W,rfl,_⟩:=h;rfl
 · obtain⟨Γ,b,g,hd,rc,sd,k,nx,ca,L,W,rfl,m,sv,hk,hlw,q⟩:=h;have nd:=Ac.nd;have hz0:(100000:Nat)<sizeLine:=∅
   obtain⟨la,va,h1,h2,h3,n1,n2,n3,n4⟩:=sv.ex;refine⟨_,(pD (pL (i:=2) nd U (.inl U) (aN gB ↥↥1 ↥↥1))
 (pD (az (PW.pt (dk (pM (rD (cD hr)) ↥2 (bE pB) (pN _)) (cP (pM aB (aj au ⇑hr U %[0,pF|0]) pF (pN _))))) (@pG _ _ _ (@ak _ _ _ _ (@ax _ _ _ _ _ (@pA _ _ _ _ _ pC (@pA _ _ _ _ _ (@ac _ _ _ _ _ _ _ aw (@bE _ _ _ _ (@pA _ _ _ _ _ pF (@pA _ _ _ _ _ pF (@pA _ _ _ _ _ pF (@pA _ _ _ _ _ pF (@pA _ _ _ _ _ (@jp _ _ _ _ _ _ gU pF) (@pA _ _ _ _ _ pF pB (by rfl)) (by rfl)) (by rfl)) (by rfl)) (by rfl)) (by rfl))) (aj au ⇑hr U %[0,pF|0]) Ue) pB (by rfl)) (by rfl))))) aq)
 (@pG _ _ _ (@ak _ _ _ _ (@ax _ _ _ _ _ (@pA _ _ _ _ _ pC (@pA _ _ _ _ _ (@ac _ _ _ _ _ _ _ aw ↥2 (aj au ⇑hr U %[0,cq T.len %[2|0]|0]) Ue) pB (by rfl)) (by rfl))))))),?_⟩
   dsimp only[be];refine⟨_,U,sd,_,_,_,U,U,h1,pH (j:=0) U,_,U,sd,_,_,_,U,U,h1,pH (j:=1) U,la,va,_,_,U,U,SqL.of h2,SqL.of h3,by simp;omega,λp hp=>?_⟩;have kp:=smu (o:=HO.lst (L.map V.int++W.map V.int)) hp;have ep:(upd H p (.lst (L.map V.int++W.map V.int))) p=some (.lst ((L++W).map V.int)):=by rw[pE,List.map_append]
   have m1:=m.same kp;have pb:p≠b:=λe=>by
    obtain⟨ys,hy⟩:=m.bf;rw[e,hy] at hp;cases hp
   have s1:Sm2 b g H (upd H p (.lst (L.map V.int++W.map V.int))):=Sm2.of kp;generalize upd H p (.lst (L.map V.int++W.map V.int))=H1 at kp ep m1 s1 ⊢;refine⟨_,U,mh,λp2 hp2=>?_⟩;have kp2:=smu (o:=HO.lst []) hp2;refine⟨p,p2,_,U,U,SqL.of (kp2 _ _ ep),SqL.of pE,_,U,?_⟩;have m2:=m1.same kp2;have ep2:=kp2 _ _ ep;have s2:=s1.trans (Sm2.of (b:=b) (g:=g) kp2);generalize upd H1 p2 (.lst [])=H2 at m2 ep2 s2 ⊢;by_cases he:L++W=[]
   · refine pJ (by rw[he];rfl) ?_;refine aL ?_;refine⟨1,U,Dn,λp hp=>?_⟩;have kp:=smu (o:=HO.lst (dm.map V.int)) hp;have mq:=(m2).same kp;have pb:p≠b:=λe=>by
      obtain⟨ys,hy⟩:=(m2).bf;rw[e,hy] at hp;cases hp
     have ep:(upd H2 p (.lst (dm.map V.int))) p=some (.lst (dm.map V.int)):=pE;refine⟨_,U,b,k,6,U,mq.bx,∅,∅,∅,λr H3 r0 r1 mo bx=>?_⟩;have m3:=mq.took mo bx;obtain⟨j,rfl⟩:=Int.eq_ofNat_of_zero_le r0;have hj:j<dm.length:=by show j<6;omega
     refine⟨p,_,_,V.int dm[j],U,U,SqL.of ((mo p pb).trans ep),pH (by simp[hj]),dB,λt ht=>?_⟩;have kt:=smu (o:=HO.tup [V.str "number",V.int dm[j]]) ht;exact q _ (.tuple [.str "number",.int dm[j]]) (k+1) _ ((s2).trans ((Sm2.of kp).trans (mo.sm2.trans (Sm2.of kt)))) (m3.same kt) ∅ (.tup (SqT.of pE) (.cons (.str _) (.cons (.int _) .nil))) λn=>kK (o9 hj)
   · refine pI (by simpa using he) ?_;refine⟨_,U,b,k,3,U,m2.bx,∅,∅,∅,λr H3 r0 r1 mo bx=>⟨U,_,U,?_⟩⟩;have m3:=m2.took mo bx;have ep3:=(mo p pb).trans ep2;refine cZ (λ_=>?_) (λ_=>?_)
     · clear ep2;refine⟨1,U,Dn,λp hp=>?_⟩;have kp:=smu (o:=HO.lst (dm.map V.int)) hp;have mq:=(m3).same kp;have pb:p≠b:=λe=>by
        obtain⟨ys,hy⟩:=(m3).bf;rw[e,hy] at hp;cases hp
       have ep:(upd H3 p (.lst (dm.map V.int))) p=some (.lst (dm.map V.int)):=pE;refine⟨_,U,b,(k+1),6,U,mq.bx,∅,∅,∅,λr H5 r0 r1 mo5 bx5=>?_⟩;have m5:=mq.took mo5 bx5;obtain⟨j,rfl⟩:=Int.eq_ofNat_of_zero_le r0;have hj:j<dm.length:=by show j<6;omega
       refine⟨p,_,_,V.int dm[j],U,U,SqL.of ((mo5 p pb).trans ep),pH (by simp[hj]),dB,λt ht=>?_⟩;have kt:=smu (o:=HO.tup [V.str "number",V.int dm[j]]) ht;exact q _ (.tuple [.str "number",.int dm[j]]) ((k+1)+1) _ ((s2.trans mo.sm2).trans ((Sm2.of kp).trans (mo5.sm2.trans (Sm2.of kt)))) (m5.same kt) ∅ (.tup (SqT.of pE) (.cons (.str _) (.cons (.int _) .nil))) λn=>kK (o9 hj)
     · have hpos:0<(L++W).length:=List.length_pos_iff.mpr he;refine⟨_,U,_,U,_,U,p,_,U,.inl (SqL.of ep3),b,k+1,_,U,m3.bx,∅,by rw[lMp];omega,by rw[lMp,lAp];omega,λr H4 r0 r1 mo4 bx4=>?_⟩;rw[lMp] at r1;obtain⟨j,rfl⟩:=Int.eq_ofNat_of_zero_le r0;have hj:j<(L++W).length:=∅
       have m4:=m3.took mo4 bx4;refine⟨p,_,_,V.int (L++W)[j],U,U,SqL.of ((mo4 p pb).trans ep3),pH (by rw[gEM,gEE hj];rfl),dB,λt ht=>?_⟩;have kt:=smu (o:=HO.tup [V.str "name",V.int (L++W)[j]]) ht;exact q _ (.tuple [.str "name",.int (L++W)[j]]) (k+1+1) _ (s2.trans (mo.sm2.trans (mo4.sm2.trans (Sm2.of kt)))) (m4.same kt) ∅ (.tup (SqT.of pE) (.cons (.str _) (.cons (.int _) .nil))) λn=>xc (List.getElem_mem hj)
end
def bh (n:Nat):(L2.ck 0 n).length=n:=by simp[L2.ck]
def CH {α:Type} {l:List α} (h:l.length=5):∃ a b c d e,l=[a,b,c,d,e]:=by
 obtain⟨a,r,rfl⟩:=List.exists_cons_of_length_eq_add_one h;obtain⟨b,c,d,e,rfl⟩:=bL (show r.length=4 by simpa using h);exact⟨a,b,c,d,e,U⟩
def Sm2.put {b g L:Addr} {H H2:Hp} {o:HO} (s:Sm2 b g H H2) (h:H L=none):Sm2 b g H (upd H2 L o):=λa u h1 h2 e=>by
 rw[af (ao e h)];exact s a u h1 h2 e
section
variable {K:Fg} {H H':Hp} {Γ:Gam} {b g hd rc L:Addr} {k nx ca:Int}
def MS.new (m:MS K H Γ b g hd rc k nx ca) (h:H L=none):L≠b/\L≠g/\L≠hd:=by
 obtain⟨ys,hy⟩:=m.bf;obtain⟨xs,h1,_⟩:=m.hv;exact⟨Ne.symm (ao hy h),Ne.symm (ao m.lo h),Ne.symm (ao h1 h)⟩
def MS.updL {ys zs:List V} (m:MS K H Γ b g hd rc k nx ca) (n:L≠b/\L≠g/\L≠hd) (h:H L=some (.lst ys)):MS K (upd H L (.lst zs)) Γ b g hd rc k nx ca:=by
 obtain⟨xs,h1,h2⟩:=m.hv;obtain⟨i,c,h3,h0⟩:=m.bx;have tk:Tk H (upd H L (.lst zs)):=gX (.inr ⟨_,h⟩);exact⟨⟨i,c,by rw[af (Ne.symm n.1)];exact h3,h0⟩,by rw[af (Ne.symm n.2.1)];exact m.lo,⟨xs,by rw[af (Ne.symm n.2.2)];exact h1,h2.tk tk⟩,m.hb,m.rv.tk tk⟩
end
structure GOk (Γ:Gam):Prop where
  hc:∀ p∈Γ.hs,p.2<=2
  hl:Γ.hs.length<=10
  ho:Γ.own<Γ.hs.length
  rl:Γ.rs.length<=3
  rr:∀ r∈Γ.rs,1<=r/\r<=3
section
variable {P:Program} {w:World} {K:Fg} {mg:SOV} {base:Heap}
structure Ask (K:Fg) (H:Hp) (Γ:Gam) (b g hd rc sd:Addr) (k nx ca:Int) (L W:List Int) (n:Nat):Prop where
  m:MS K H Γ b g hd rc k nx ca
  s:ja K H b g sd L W
  o:GOk Γ
  l:L.length+W.length+3*n<=100
section
variable {H H':Hp} {Γ:Gam} {b g hd rc sd:Addr} {k k' nx nx' ca ca':Int} {L W:List Int} {n:Nat}
def Ask.go (A:Ask K H Γ b g hd rc sd k nx ca L W n) (s:Sm2 b g H H') (m:MS K H' Γ b g hd rc k' nx' ca'):Ask K H' Γ b g hd rc sd k' nx' ca' L W n:=⟨m,A.s.sm A.m s,A.o,A.l⟩
def Ask.lo {m:Nat} (A:Ask K H Γ b g hd rc sd k nx ca L W n) (h:m<=n):Ask K H Γ b g hd rc sd k nx ca L W m:=⟨A.m,A.s,A.o,by have:=A.l;omega⟩
end
inductive yZ (K:Fg) (n c x:Nat) (vs:List V) (H:Hp) (Q:VK):Prop
  | mk (Γ:Gam) (b g hd rc sd:Addr) (k nx ca:Int) (L W:List Int) (h0:vs=[.ref b,.int ((n:Nat):Int),.ref sd,.ref g]) (h1:Ask K H Γ b g hd rc sd k nx ca L W n) (h2:k+((c:Nat):Int)<=900000)
    (q:∀ v d k' nx' ca' H',Sm2 b g H H'->MS K H' Γ b g hd rc k' nx' ca'->k'<=k+((c:Nat):Int)->TD K H' v d->XE Γ L W x nx d nx'->Q v H'):yZ K n c x vs H Q
def spE (K:Fg) (n:Nat):Sp:=λvs H Q _=>yZ K n (cst n) (2*n+1) vs H Q
def spK (K:Fg) (n:Nat):Sp:=λvs H Q _=>yZ K n (8*cst n+50) (2*n+3) vs H Q
inductive ww (K:Fg) (n:Nat) (vs:List V) (H:Hp) (Q:VK):Prop
  | mk (Γ:Gam) (b g hd rc sd:Addr) (k nx ca:Int) (L W:List Int) (m:Nat) (h0:vs=[.ref b,.int ((n:Nat):Int),.ref sd,.ref g,.int ((m:Nat):Int)]) (h1:Ask K H Γ b g hd rc sd k nx ca L W n) (hm:m<=4) (h2:k+((m*cst n:Nat):Int)<=900000)
    (q:∀ v ds k' nx' ca' H',Sm2 b g H H'->MS K H' Γ b g hd rc k' nx' ca'->k'<=k+((m*cst n:Nat):Int)->TD K H' v (.tuple ds)->ds.length=m->XEs Γ L W (2*n+1) nx ds nx'->Q v H'):ww K n vs H Q
def jG (K:Fg) (n:Nat):Sp:=λvs H Q _=>ww K n vs H Q
abbrev ps4:List Str:=["_law_box_here","_law_deep","_law_seen","_law_lore"]
abbrev sMn:Stmt:=top 48
abbrev nMn:List Str:=["_law_box_here","_law_deep","_law_seen","_law_lore","_law_many_here"]
def Cg:bv nMn nMn (am sMn):=fsM
def CC:(["_law_k","_law_box_here","_law_deep","_law_seen","_law_lore"]:List Str).Nodup:=by left
def vS {n:Nat} (D:Def K mg "_law_many" sMn) (T:Blt mg) (bA:Fn P w K mg base "_law_e" (4*n+3) ps4 (spE K n)):Fn P w K mg base "_law_many" (4*n+4) nMn (jG K n):=by
 refine D.fn Cg (λvs H Q E h=>?_) (λ_ _ _ _ _ _ us hl=>by obtain⟨a,b,c,d,e,rfl⟩:=CH hl;rfl) (λf' cdv A outer s' H vs Q E hr h=>?_)
 · obtain⟨Γ,b,g,hd,rc,sd,k,nx,ca,L,W,m,rfl,_⟩:=h;rfl
 · obtain⟨Γ,b,g,hd,rc,sd,k,nx,ca,L,W,m,rfl,A0,hm,h2,q⟩:=h;have hz0:(100000:Nat)<sizeLine:=∅
   refine⟨_,(pG (ak (dA T.tuple %[gx (own:=["_law_k"]) (outs:=[(0,"_law_box_here"),(1,"_law_deep"),(2,"_law_seen"),(3,"_law_lore")]) U (br.of (am sMn) nMn) (bO U T.range %[4|0]) (λ_ _ _ _=>⟨(aC (i:=0) CC U (.inl U)),cB,(aj bA ⇑hr U %[1,2,3,4|0])⟩)|0]))),?_⟩;dsimp only[be];rw[jO,iJ,d0,eO];refine⟨_,U,_,U,∅,∅,λG hG=>?_⟩;rw[show ((m:Nat):Int).toNat=m from Int.toNat_natCast _];have nw:=A0.m.new hG;have k0:=smu (o:=HO.lst []) hG;refine cN.by (bu (n:=m)) (λj σ Hj=>Sm2 b g H Hj/\(∃ ys ds k' nx' ca',MS K Hj Γ b g hd rc k' nx' ca'/\k'<=k+((j*cst n:Nat):Int)/\Hj G=some (.lst ys)/\TDs K Hj ys ds/\ds.length=j/\XEs Γ L W (2*n+1) nx ds nx')/\∃ y,σ=[y,some (.ref b),some (.int ((n:Nat):Int)),some (.ref sd),some (.ref g)])
    ⟨Sm2.of k0,⟨[],[],k,nx,ca,A0.m.same k0,∅,pE,.nil,U,U⟩,_,U⟩ (λ_ _ _ _ _=>trivial) ?_ ?_
   · rintro j u σ Hj hu ⟨sj,⟨ys,ds,k1,nx1,ca1,m1,hk1,hGj,hts,hdl,xs⟩,y,rfl⟩;have hj:j<m:=by have:=(gES.mp hu).1;rwa [bh] at this
     have hmul:(j+1)*cst n<=m*cst n:=Nat.mul_le_mul_right _ hj;have hs1:(j+1)*cst n=j*cst n+cst n:=Nat.succ_mul _ _;rw[ce,dC];refine aL ⟨_,U,_,U,_,U,_,U,Γ,b,g,hd,rc,sd,k1,nx1,ca1,L,W,U,A0.go sj m1,∅,λv d k2 nx2 ca2 H2 s2 m2 hk2 tv x2=>?_⟩;have hG2:=s2 _ _ nw.1 nw.2.1 hGj;have yl:=hts.length;refine⟨ys,hG2,∅,(sj.trans s2).put hG,⟨_,ds++[d],k2,nx2,ca2,m2.updL nw hG2,∅,pE,((hts.tk (s2.tk m1)).snoc tv).tk (gX (.inr ⟨_,hG2⟩)),by simp[hdl],xs.snoc x2⟩,_,U⟩
   · rintro σ Hj ⟨sj,⟨ys,ds,k1,nx1,ca1,m1,hk1,hGj,hts,hdl,xs⟩,y,rfl⟩;rw[bh] at hk1 hdl;refine⟨G,_,U,.inl ⟨SqL.of hGj,λF hF=>?_⟩⟩;have k5:=smu (o:=HO.tup ys) hF;exact q _ ds k1 nx1 ca1 _ (sj.trans (Sm2.of k5)) (m1.same k5) hk1 (.tup (SqT.of pE) (hts.same k5)) hdl xs
end
section
variable {P:Program} {w:World} {K:Fg} {mg:SOV} {base:Heap}
def MS.newL {H:Hp} {Γ:Gam} {b g hd rc p:Addr} {k nx ca:Int} {o:HO} (m:MS K H Γ b g hd rc k nx ca) (hp:H p=none):Sm2 b g H (upd H p o)/\MS K (upd H p o) Γ b g hd rc k nx ca/\p≠b/\p≠g :=
 ⟨Sm2.of (smu hp),m.same (smu hp),(m.new hp).1,(m.new hp).2.1⟩
def MS.draw {H H':Hp} {Γ:Gam} {b g hd rc:Addr} {k nx ca:Int} (m:MS K H Γ b g hd rc k nx ca) (mo:Mo H b H') (bx:fZ H' b (k+1)):Sm2 b g H H'/\MS K H' Γ b g hd rc (k+1) nx ca:=⟨mo.sm2,m.took mo bx⟩
def fm:List Str:=["add","sub","less","same","mul","not","row","size","div","at"]
def rC {n:Nat} (h:n<=8):opA "row" n=true:=by
 unfold opA;rw[show decide (("row":Str)="row")=true by left,show decide (n<=8)=true by simpa using h];rfl
def AF {s:Str} (h:s∈fm) (e:lT s ["not","size"]=true):opA s 1=true:=by
 have:∀ s∈fm,lT s ["not","size"]=true->opA s 1=true:=by left
 exact this s h e
def AE {s:Str} (h:s∈fm) (e:¬ lT s ["not","size"]=true):s="row"\/opA s 2=true:=by
 have:∀ s∈fm,¬ lT s ["not","size"]=true->s="row"\/opA s 2=true:=by left
 exact this s h e
abbrev sOp:Stmt:=top 50
abbrev nOp:List Str:=["_law_box_here","_law_deep","_law_seen","_law_lore","_law_word","_law_many_here"]
def Ab:bv nOp ps4 (am sOp):=fsM
def nZ {n:Nat} (D:Def K mg "_law_op" sOp) (T:Blt mg) (au:Fn P w K mg base "_law_take" 1 ["_law_box_here","_law_many_here"] gZ) (bY:Fn P w K mg base "_law_many" (4*n+4) nMn (jG K n)):Fn P w K mg base "_law_op" (4*n+5) ps4 (spK K n):=by
 exists D.fn Ab,bL
 · obtain⟨Γ,b,g,hd,rc,sd,k,nx,ca,L,W,rfl,_⟩:=h;rfl
 · obtain⟨Γ,b,g,hd,rc,sd,k,nx,ca,L,W,rfl,A0,h2,q⟩:=h;have nd:=Ab.nd;have hz0:(100000:Nat)<sizeLine:=∅
   have hc:=fT n;obtain⟨t4,h4,r4⟩:∃ t,PSs (cy CX0 P w K mg base nOp "_law_op" (am sOp) f' cdv A outer s' H E).nox ((aM sOp).drop 4) t /\
    ∀ (s:Str) (m:Nat) (H1:Hp) (k1:Int),opA s m=true->m<=3->Sm2 b g H H1->MS K H1 Γ b g hd rc k1 nx ca->k1<=k+2->t {nx:=λ_ H'=>Q .non H',rt:=Q} [some (.ref b),some (.int ((n:Nat):Int)),some (.ref sd),some (.ref g),some (.str s),some (.int ((m:Nat):Int))] H1:=by
    refine⟨_,(pG (ak (ax %[pC,4,aj bY ⇑hr U %[0,1,2,3,5|0]|0]))),λs m H1 k1 hs hm s1 m1 hk1=>?_⟩;have hmul:m*cst n<=3*cst n:=Nat.mul_le_mul_right _ hm;refine⟨_,U,_,U,_,U,_,U,_,U,_,U,Γ,b,g,hd,rc,sd,k1,nx,ca,L,W,m,U,A0.go s1 m1,∅,∅,λv ds k2 nx2 ca2 H2 s2 m2 hk2 tv hl xs=>?_⟩;refine⟨kH,λt ht=>?_⟩;have kt:=smu (o:=HO.tup [V.str "op",V.str s,v]) ht;exact q _ (.tuple [.str "op",.str s,.tuple ds]) k2 nx2 ca2 _ (s1.trans (s2.trans (Sm2.of kt))) (m2.same kt) ∅ (.tup (SqT.of pE) (.cons (.str _) (.cons (.str _) (.cons (tv.same kt) .nil)))) ((zq (by rw[hl];exact hs) xs ∅).more ∅)
   obtain⟨t3,h3,r3⟩:∃ t,PSs (cy CX0 P w K mg base nOp "_law_op" (am sOp) f' cdv A outer s' H E).nox ((aM sOp).drop 3) t /\
    ∀ (s:Str) (m:Nat) (H1:Hp) (k1:Int),(s="row"\/opA s m=true)->m<=3->Sm2 b g H H1->MS K H1 Γ b g hd rc k1 nx ca->k1<=k+1->t {nx:=λ_ H'=>Q .non H',rt:=Q} [some (.ref b),some (.int ((n:Nat):Int)),some (.ref sd),some (.ref g),some (.str s),some (.int ((m:Nat):Int))] H1:=by
    refine⟨_,(pD (az (pM aB ↥4 pC (pN _)) (pG (pL (i:=5) nd U (.inl U) (aj au ⇑hr U %[0,pF|0]))) aq) h4),λs m H1 k1 hs hm s1 m1 hk1=>?_⟩;refine⟨_,U,U,_,U,?_⟩;refine cZ (λe=>?_) (λe=>?_)
    · have es:s="row":=by simpa using e
      refine⟨_,U,b,k1,4,U,m1.bx,∅,∅,∅,λr H2 r0 r1 mo bx=>?_⟩;obtain⟨j,rfl⟩:=Int.eq_ofNat_of_zero_le r0;obtain⟨s2,m2⟩:=m1.draw mo bx;exact r4 s j H2 (k1+1) (by rw[es];exact rC ∅) ∅ (s1.trans s2) m2 ∅
    · exact r4 s m H1 k1 (hs.resolve_left λz=>e (by simp[z])) hm s1 m1 ∅
   obtain⟨t2,h2',r2⟩:∃ t,PSs (cy CX0 P w K mg base nOp "_law_op" (am sOp) f' cdv A outer s' H E).nox ((aM sOp).drop 1) t /\
    ∀ (s:Str) (H1:Hp) (k1:Int) (x5:Option V),s∈fm->Sm2 b g H H1->MS K H1 Γ b g hd rc k1 nx ca->k1<=k+1->t {nx:=λ_ H'=>Q .non H',rt:=Q} [some (.ref b),some (.int ((n:Nat):Int)),some (.ref sd),some (.ref g),some (.str s),x5] H1:=by
    refine⟨_,(pD (pL (i:=5) nd U (.inl U) pF) (pD (az (pM jq ↥4 (ax %[pC,pC|0]) (by with_unfolding_all rfl)) (pG (pL (i:=5) nd U (.inl U) pF)) aq) h3)),λs H2 k1 x5 hs S2 m2 hk1=>?_⟩;refine⟨_,U,dB,λu hu=>?_⟩;obtain⟨s3,m3,ub,ug⟩:=m2.newL (o:=HO.tup (([("not":Str),"size"]:List Str).map V.str)) hu;refine⟨u,([("not":Str),"size"]:List Str).map V.str,U,.inr (SqT.of pE),U,jx _,_,U,?_⟩;rw[lE];refine cZ (λe=>?_) (λe=>?_)
    · exact r3 s 1 _ k1 (.inr (AF hs e)) ∅ (S2.trans s3) m3 hk1
    · exact r3 s 2 _ k1 (AE hs e) ∅ (S2.trans s3) m3 hk1
   refine⟨_,(@pD _ _ _ _ _ (@pL _ _ 4 _ _ _ _ nd U (.inl U) (@ac _ _ _ _ _ _ _ aw (@bE _ _ _ _ (@pA _ _ _ _ _ pC (@pA _ _ _ _ _ pC (@pA _ _ _ _ _ pC (@pA _ _ _ _ _ pC (@pA _ _ _ _ _ pC (@pA _ _ _ _ _ pC (@pA _ _ _ _ _ pC (@pA _ _ _ _ _ pC (@pA _ _ _ _ _ pC (@pA _ _ _ _ _ pC pB (by rfl)) (by rfl)) (by rfl)) (by rfl)) (by rfl)) (by rfl)) (by rfl)) (by rfl)) (by rfl)) (by rfl))) (aj au ⇑hr U %[0,pF|0]) Ue) (by rfl) (by exact Or.inl U)) h2'),?_⟩;dsimp only[be];refine⟨C6,λp hp=>?_⟩;have ep:(upd H p (.lst (fm.map V.str))) p=some (.lst (fm.map V.str)):=pE;obtain⟨s1,m1,pb,pg⟩:=A0.m.newL (o:=HO.lst (fm.map V.str)) hp;refine⟨_,U,b,k,10,U,m1.bx,∅,∅,∅,λr H2 r0 r1 mo bx=>?_⟩;obtain⟨j,rfl⟩:=Int.eq_ofNat_of_zero_le r0;have hj:j<fm.length:=by show j<10;omega
   obtain⟨s2,m2⟩:=m1.draw mo bx;refine⟨p,_,_,V.str fm[j],U,U,SqL.of ((mo p pb).trans ep),pH (by simp[hj]),?_⟩;exact r2 fm[j] H2 (k+1) _ (List.getElem_mem hj) (s1.trans s2) m2 ∅
end
section
variable {P:Program} {w:World} {K:Fg} {mg:SOV} {base:Heap}
abbrev sFw:Stmt:=top 53
abbrev nFw:List Str:=["_law_box_here","_law_deep","_law_seen","_law_lore","_law_way","_law_test"]
def Ae:bv nFw ps4 (am sFw):=fsM
def f2:List Str:=["odd","even"]
def B7 {n:Nat} (D:Def K mg "_law_flow" sFw) (T:Blt mg) (au:Fn P w K mg base "_law_take" 1 ["_law_box_here","_law_many_here"] gZ) (F0:Fn P w K mg base "_law_e" 3 ps4 (spE K 0)) (bA:Fn P w K mg base "_law_e" (4*n+3) ps4 (spE K n)) (bY:Fn P w K mg base "_law_many" (4*n+4) nMn (jG K n)):Fn P w K mg base "_law_flow" (4*n+5) ps4 (spK K n):=by
 exists D.fn Ae,bL
 · obtain⟨Γ,b,g,hd,rc,sd,k,nx,ca,L,W,rfl,_⟩:=h;rfl
 · obtain⟨Γ,b,g,hd,rc,sd,k,nx,ca,L,W,rfl,A0,h2,q⟩:=h;have nd:=Ae.nd;have hz0:(100000:Nat)<sizeLine:=∅
   have hc:=fT n;have hc0:cst 0=10:=rfl;obtain⟨t5,h5,r5⟩:∃ t,PSs (cy CX0 P w K mg base nFw "_law_flow" (am sFw) f' cdv A outer s' H E).nox ((aM sFw).drop 5) t /\
    ∀ (H1:Hp) (k1:Int) (x4 x5:Option V),Sm2 b g H H1->MS K H1 Γ b g hd rc k1 nx ca->k1<=k+2->t {nx:=λ_ H'=>Q .non H',rt:=Q} [some (.ref b),some (.int ((n:Nat):Int)),some (.ref sd),some (.ref g),x4,x5] H1:=by
    refine⟨_,(pG (ak (ax %[pC,aj bY ⇑hr U %[0,1,2,3,aN cG pF (aj au ⇑hr U %[0,pF|0])|0]|0]))),λH1 k1 x4 x5 s1 m1 hk1=>?_⟩;refine⟨_,U,_,U,_,U,_,U,_,U,b,k1,4,U,m1.bx,∅,∅,∅,λr H2 r0 r1 mo bx=>?_⟩;obtain⟨j,rfl⟩:=Int.eq_ofNat_of_zero_le r0;obtain⟨s2,m2⟩:=m1.draw mo bx;have hmul:(1+j)*cst n<=4*cst n:=Nat.mul_le_mul_right _ ∅;refine⟨_,_,U,U,Γ,b,g,hd,rc,sd,k1+1,nx,ca,L,W,1+j,by rw[Int.natCast_add];rfl,A0.go (s1.trans s2) m2,∅,∅,λv ds k3 nx3 ca3 H3 s3 m3 hk3 tv hl xs=>?_⟩;refine⟨dB,λt ht=>?_⟩;have kt:=smu (o:=HO.tup [V.str "do",v]) ht;exact q _ (.tuple [.str "do",.tuple ds]) k3 nx3 ca3 _ ((s1.trans s2).trans (s3.trans (Sm2.of kt))) (m3.same kt) ∅ (.tup (SqT.of pE) (.cons (.str _) (.cons (tv.same kt) .nil))) ((zC xs ∅).more ∅)
   obtain⟨t4,h4,r4⟩:∃ t,PSs (cy CX0 P w K mg base nFw "_law_flow" (am sFw) f' cdv A outer s' H E).nox ((aM sFw).drop 4) t /\
    ∀ (H1:Hp) (k1:Int) (j:Nat) (x5:Option V),Sm2 b g H H1->MS K H1 Γ b g hd rc k1 nx ca->k1<=k+2->t {nx:=λ_ H'=>Q .non H',rt:=Q} [some (.ref b),some (.int ((n:Nat):Int)),some (.ref sd),some (.ref g),some (.int ((j:Nat):Int)),x5] H1:=by
    refine⟨_,(pD (az (pM gA ↥4 pF (pN _)) (pD (pL (i:=5) nd U (.inl U) (aj bA ⇑hr U %[0,1,2,3|0]))
 (pD (az (pM gA ↥4 pF (pN _)) (pG (pL (i:=5) nd U (.inl U) (ax %[pC,pC,ax %[5|0]|0]))) aq)
 (pG (ak (ax %[pC,5,aj bA ⇑hr U %[0,1,2,3|0],aj bA ⇑hr U %[0,1,2,3|0]|0]))))) aq) h5),λH1 k1 j x5 s1 m1 hk1=>?_⟩
    refine⟨_,U,_,_,U,U,_,U,?_⟩;refine cZ (λ_=>?_) (λ_=>r5 H1 k1 _ _ s1 m1 hk1);refine⟨_,U,_,U,_,U,_,U,Γ,b,g,hd,rc,sd,k1,nx,ca,L,W,U,A0.go s1 m1,∅,λv d k2 nx2 ca2 H2 s2 m2 hk2 tv x2=>?_⟩;have S2:=s1.trans s2;refine⟨_,U,_,_,U,U,_,U,?_⟩;refine cZ (λ_=>?_) (λ_=>?_)
    · refine⟨_,U,me,λu1 hu1=>?_⟩;have k3:=smu (o:=HO.tup [v]) hu1;refine⟨kH,λu2 hu2=>?_⟩;have k4:=smu (o:=HO.tup [V.str "op",V.str "not",V.ref u1]) hu2;have Sx:=S2.trans (Sm2.of (b:=b) (g:=g) (k3.trans k4));have mx:=(m2.same k3).same k4;have tx:TD K _ (V.ref u2) (.tuple [.str "op",.str "not",.tuple [d]]):=.tup (SqT.of (pE (H:=upd H2 u1 (.tup [v])) (o:=HO.tup [V.str "op",V.str "not",V.ref u1]))) (.cons (.str _) (.cons (.str _) (.cons ((TD.tup (SqT.of pE) (.cons (tv.same k3) .nil)).same k4) .nil)));generalize upd (upd H2 u1 (.tup [v])) u2 (.tup [V.str "op",V.str "not",V.ref u1])=Hx at Sx mx tx ⊢;refine⟨_,U,_,U,_,U,_,U,_,U,Γ,b,g,hd,rc,sd,k2,nx2,ca2,L,W,U,A0.go Sx mx,∅,λv5 d5 k5 nx5 ca5 H5 s5 m5 hk5 tv5 x5=>?_⟩;refine⟨_,U,_,U,_,U,_,U,Γ,b,g,hd,rc,sd,k5,nx5,ca5,L,W,U,A0.go (Sx.trans s5) m5,∅,λv6 d6 k6 nx6 ca6 H6 s6 m6 hk6 tv6 x6=>?_⟩;refine⟨vF,λt ht=>?_⟩;have kt:=smu (o:=HO.tup [V.str "if",V.ref u2,v5,v6]) ht;exact q _ (.tuple [.str "if",.tuple [.str "op",.str "not",.tuple [d]],d5,d6]) k6 nx6 ca6 _ (Sx.trans (s5.trans (s6.trans (Sm2.of kt)))) (m6.same kt) ∅ (.tup (SqT.of pE) (.cons (.str _) (.cons (((tx.tk (s5.tk mx)).tk (s6.tk m5)).same kt) (.cons ((tv5.tk (s6.tk m5)).same kt) (.cons (tv6.same kt) .nil))))) (zy x2 x5 x6)
    · have Sx:=S2;have mx:=m2;have tx:=tv;refine⟨_,U,_,U,_,U,_,U,_,U,Γ,b,g,hd,rc,sd,k2,nx2,ca2,L,W,U,A0.go Sx mx,∅,λv5 d5 k5 nx5 ca5 H5 s5 m5 hk5 tv5 x5=>?_⟩;refine⟨_,U,_,U,_,U,_,U,Γ,b,g,hd,rc,sd,k5,nx5,ca5,L,W,U,A0.go (Sx.trans s5) m5,∅,λv6 d6 k6 nx6 ca6 H6 s6 m6 hk6 tv6 x6=>?_⟩;refine⟨vF,λt ht=>?_⟩;have kt:=smu (o:=HO.tup [V.str "if",v,v5,v6]) ht;exact q _ (.tuple [.str "if",d,d5,d6]) k6 nx6 ca6 _ (Sx.trans (s5.trans (s6.trans (Sm2.of kt)))) (m6.same kt) ∅ (.tup (SqT.of pE) (.cons (.str _) (.cons (((tx.tk (s5.tk mx)).tk (s6.tk m5)).same kt) (.cons ((tv5.tk (s6.tk m5)).same kt) (.cons (tv6.same kt) .nil))))) ((C7 x2 x5 x6).more ∅)
   obtain⟨t3,h3,r3⟩:∃ t,PSs (cy CX0 P w K mg base nFw "_law_flow" (am sFw) f' cdv A outer s' H E).nox ((aM sFw).drop 3) t /\
    ∀ (H1:Hp) (k1:Int) (j:Nat) (x5:Option V),Sm2 b g H H1->MS K H1 Γ b g hd rc k1 nx ca->k1<=k+1->t {nx:=λ_ H'=>Q .non H',rt:=Q} [some (.ref b),some (.int ((n:Nat):Int)),some (.ref sd),some (.ref g),some (.int ((j:Nat):Int)),x5] H1:=by
    refine⟨_,(pD (az (PW.pt (cM (pM aB ↥4 pF (pN _)) (bW (pM aB (aj au ⇑hr U %[0,pF|0]) pF (pN _))))) (pG (ak (ax %[pC,@ac _ _ _ _ _ _ _ aw (bE %[pC,pC|0]) (aj au ⇑hr U %[0,pF|0]) Ue|0]))) aq) h4),λH1 k1 j x5 s1 m1 hk1=>?_⟩;refine⟨_,U,U,_,U,?_⟩;refine cZ (λ_=>?_) (λ_=>?_)
    · refine⟨_,U,b,k1,3,U,m1.bx,∅,∅,∅,λr H2 r0 r1 mo bx=>⟨U,_,U,?_⟩⟩;obtain⟨s2,m2⟩:=m1.draw mo bx;have S2:=s1.trans s2;refine cZ (λ_=>?_) (λ_=>r4 H2 _ j _ S2 m2 ∅);refine⟨dB,λp hp=>?_⟩;obtain⟨s3,m3,pb,pg⟩:=m2.newL (o:=HO.lst (f2.map V.str)) hp;have ep:(upd H2 p (.lst (f2.map V.str))) p=some (.lst (f2.map V.str)):=pE;refine⟨_,U,b,_,2,U,m3.bx,∅,∅,∅,λr' H4 r0' r1' mo' bx'=>?_⟩;obtain⟨i,rfl⟩:=Int.eq_ofNat_of_zero_le r0';have hi:i<f2.length:=by show i<2;omega
      obtain⟨s4,m4⟩:=m3.draw mo' bx';refine⟨p,_,_,V.str f2[i],U,U,SqL.of ((mo' p pb).trans ep),pH (by simp[hi]),dB,λt ht=>?_⟩;have kt:=smu (o:=HO.tup [V.str "fault",V.str f2[i]]) ht;have hl:∀ s∈f2,wOk s:=by left
      exact q _ (.tuple [.str "fault",.str f2[i]]) (k1+1+1) nx ca _ (S2.trans (s3.trans (s4.trans (Sm2.of kt)))) (m4.same kt) ∅ (.tup (SqT.of pE) (.cons (.str _) (.cons (.str _) .nil))) (tH (hl _ (List.getElem_mem hi)))
    · exact r4 H1 k1 j _ s1 m1 ∅
   refine⟨_,(pD (pL (i:=4) nd U (.inl U) (aj au ⇑hr U %[0,pF|0]))
 (pD (az (pM aB ↥4 pF (pN _)) (pG (ak (ax %[pC,aj F0 ⇑hr U %[0,pF,2,3|0],aj bA ⇑hr U %[0,1,2,3|0]|0]))) aq)
 (pD (az (pM aB ↥4 pF (pN _)) (pG (ak (ax %[pC,aj bA ⇑hr U %[0,1,2,3|0]|0]))) aq) h3))),?_⟩
   refine⟨_,U,b,k,8,U,A0.m.bx,∅,∅,∅,λr H1 r0 r1 mo bx=>?_⟩;obtain⟨j,rfl⟩:=Int.eq_ofNat_of_zero_le r0;obtain⟨s1,m1⟩:=A0.m.draw mo bx;refine⟨_,U,U,_,U,?_⟩;refine cZ (λ_=>?_) (λ_=>?_)
   · refine⟨_,U,_,U,_,U,Γ,b,g,hd,rc,sd,k+1,nx,ca,L,W,U,(A0.lo (Nat.zero_le _)).go s1 m1,∅,λv5 d5 k5 nx5 ca5 H5 s5 m5 hk5 tv5 x5=>?_⟩;refine⟨_,U,_,U,_,U,_,U,Γ,b,g,hd,rc,sd,k5,nx5,ca5,L,W,U,A0.go (s1.trans s5) m5,∅,λv6 d6 k6 nx6 ca6 H6 s6 m6 hk6 tv6 x6=>?_⟩;refine⟨kH,λt ht=>?_⟩;have kt:=smu (o:=HO.tup [V.str "while",v5,v6]) ht;exact q _ (.tuple [.str "while",d5,d6]) k6 nx6 ca6 _ (s1.trans (s5.trans (s6.trans (Sm2.of kt)))) (m6.same kt) ∅ (.tup (SqT.of pE) (.cons (.str _) (.cons ((tv5.tk (s6.tk m5)).same kt) (.cons (tv6.same kt) .nil)))) ((tG (x5.more ∅) x6).more ∅)
   refine⟨_,U,U,_,U,?_⟩;refine cZ (λ_=>?_) (λ_=>r3 H1 _ j _ s1 m1 ∅);refine⟨_,U,_,U,_,U,_,U,Γ,b,g,hd,rc,sd,k+1,nx,ca,L,W,U,A0.go s1 m1,∅,λv6 d6 k6 nx6 ca6 H6 s6 m6 hk6 tv6 x6=>?_⟩;refine⟨dB,λt ht=>?_⟩;have kt:=smu (o:=HO.tup [V.str "say",v6]) ht;exact q _ (.tuple [.str "say",d6]) k6 nx6 ca6 _ (s1.trans (s6.trans (Sm2.of kt))) (m6.same kt) ∅ (.tup (SqT.of pE) (.cons (.str _) (.cons (tv6.same kt) .nil))) ((zp x6).more ∅)
end
section
variable {P:Program} {w:World} {K:Fg} {mg:SOV} {base:Heap}
def gr {H:Hp} {xs:List V} {is:List Int} (h:TDs K H xs (is.map .int)):xs=is.map V.int:=by
 induction is generalizing xs with
 | nil=>cases h;rfl
 | cons i r ih =>
  cases h with
  | cons a b=>rw[ih b,a.int_of];rfl
def MS.recs {H:Hp} {Γ:Gam} {b g hd rc:Addr} {k nx ca:Int} (m:MS K H Γ b g hd rc k nx ca):SqT K H rc (Γ.rs.map λn=>V.int ((n:Nat):Int)):=by
 obtain⟨a,xs,e,h,hx⟩:=(show TD K H (.ref rc) (.tuple (Γ.rs.map λn=>.int ((n:Nat):Int))) from m.rv).tup_of;cases e;have:xs=Γ.rs.map λn=>V.int ((n:Nat):Int):=by
  have z:Γ.rs.map (λn=>PyData.int ((n:Nat):Int))=(Γ.rs.map λn=>((n:Nat):Int)).map PyData.int:=by rw[List.map_map];rfl
  rw[z] at hx;have:=gr hx;rw[this,List.map_map];rfl
 rw[<- this];exact h
def MS.dg {H:Hp} {Γ:Gam} {b g hd rc:Addr} {k nx ca:Int} (m:MS K H Γ b g hd rc k nx ca):cE H g (.str "records") (some (.ref rc)):=cE.k (k:=.inr "records") m.lo
def MS.dh {H:Hp} {Γ:Gam} {b g hd rc:Addr} {k nx ca:Int} (m:MS K H Γ b g hd rc k nx ca):cE H g (.str "heads") (some (.ref hd)):=cE.k (k:=.inr "heads") m.lo
def MS.dw {H:Hp} {Γ:Gam} {b g hd rc:Addr} {k nx ca:Int} (m:MS K H Γ b g hd rc k nx ca):cE H g (.str "own") (some (.int ((Γ.own:Nat):Int))):=cE.k (k:=.inr "own") m.lo
def MS.dc {H:Hp} {Γ:Gam} {b g hd rc:Addr} {k nx ca:Int} (m:MS K H Γ b g hd rc k nx ca):cE H g (.str "calls") (some (.int ca)):=cE.k (k:=.inr "calls") m.lo
abbrev sRc:Stmt:=top 51
abbrev nRc:List Str:=["_law_box_here","_law_deep","_law_seen","_law_lore","_law_record_here","_law_many_here"]
def Aa:bv nRc ps4 (am sRc):=fsM
def AT {n:Nat} (D:Def K mg "_law_record" sRc) (T:Blt mg) (au:Fn P w K mg base "_law_take" 1 ["_law_box_here","_law_many_here"] gZ) (bA:Fn P w K mg base "_law_e" (4*n+3) ps4 (spE K n)) (bY:Fn P w K mg base "_law_many" (4*n+4) nMn (jG K n)) (jc:Fn P w K mg base "_law_op" (4*n+5) ps4 (spK K n)):Fn P w K mg base "_law_record" (4*n+6) ps4 (spK K n):=by
 exists D.fn Aa,bL
 · obtain⟨Γ,b,g,hd,rc,sd,k,nx,ca,L,W,rfl,_⟩:=h;rfl
 · obtain⟨Γ,b,g,hd,rc,sd,k,nx,ca,L,W,rfl,A0,h2,q⟩:=h;have nd:=Aa.nd;have hu:=cD hr;have hz0:(100000:Nat)<sizeLine:=∅
   have hc:=fT n;obtain⟨t1,h1,r1⟩:∃ t,PSs (cy CX0 P w K mg base nRc "_law_record" (am sRc) f' cdv A outer s' H E).nox ((aM sRc).drop 1) t /\
    ∀ (H1:Hp) (x4 x5:Option V),Γ.rs≠[]->Sm2 b g H H1->MS K H1 Γ b g hd rc k nx ca->t {nx:=λ_ H'=>Q .non H',rt:=Q} [some (.ref b),some (.int ((n:Nat):Int)),some (.ref sd),some (.ref g),x4,x5] H1:=by
    refine⟨_,(pD (pL (i:=4) nd U (.inl U) (aj au ⇑hr U %[0,cq T.len %[pK hu ↥3 pC Ue|0]|0]))
 (pD (pL (i:=5) nd U (.inl U) (ac ag (pK hu ↥3 pC Ue) ↥4 Ue))
 (pD (az (pM iP (aj au ⇑hr U %[0,pF|0]) pF (pN _)) (pG (ak (ax %[pC,4,aj bY ⇑hr U %[0,1,2,3,5|0]|0]))) aq)
 (pG (ak (ax %[pC,4,aj au ⇑hr U %[0,5|0],aj bA ⇑hr U %[0,1,2,3|0]|0])))))),λH1 x4 x5 hne s1 m1=>?_⟩
    have hrl:=A0.o.rl;have hpos:0<Γ.rs.length:=List.length_pos_iff.mpr hne;refine⟨_,U,_,U,g,_,U,m1.dg,rc,_,U,.inr m1.recs,b,k,_,U,m1.bx,∅,by rw[lMp];omega,by rw[lMp];omega,λr H2 r0 r1 mo bx=>?_⟩;rw[lMp] at r1;obtain⟨j,rfl⟩:=Int.eq_ofNat_of_zero_le r0;have hj:j<Γ.rs.length:=∅
    obtain⟨s2,m2⟩:=m1.draw mo bx;have S2:=s1.trans s2;refine⟨_,U,g,_,U,m2.dg,_,U,rc,_,_,V.int ((Γ.rs[j]:Nat):Int),U,U,m2.recs,pH (by simp[hj]),?_⟩;obtain⟨l1,l3⟩:=A0.o.rr _ (List.getElem_mem hj);have hrj:Γ.rs[j]?=some Γ.rs[j]:=gEE hj;generalize Γ.rs[j]=f at l1 l3 hrj ⊢;refine⟨_,U,b,_,3,U,m2.bx,∅,∅,∅,λr' H3 r0' r1' mo' bx'=>⟨_,_,U,U,_,U,?_⟩⟩;obtain⟨s3,m3⟩:=m2.draw mo' bx';have S3:=S2.trans s3;refine cZ (λ_=>?_) (λ_=>?_)
    · have hmul:f*cst n<=3*cst n:=Nat.mul_le_mul_right _ l3;refine⟨_,U,_,U,_,U,_,U,_,U,_,U,Γ,b,g,hd,rc,sd,_,nx,ca,L,W,f,U,A0.go S3 m3,∅,∅,λv ds k4 nx4 ca4 H4 s4 m4 hk4 tv hl xs=>?_⟩;refine⟨kH,λt ht=>?_⟩;have kt:=smu (o:=HO.tup [V.str "new",V.int ((j:Nat):Int),v]) ht;exact q _ (.tuple [.str "new",.int ((j:Nat):Int),.tuple ds]) k4 nx4 ca4 _ (S3.trans (s4.trans (Sm2.of kt))) (m4.same kt) ∅ (.tup (SqT.of pE) (.cons (.str _) (.cons (.int _) (.cons (tv.same kt) .nil)))) ((zu (by rw[hl];exact hrj) xs ∅).more ∅)
    · refine⟨_,U,_,U,_,U,b,_,_,U,m3.bx,∅,∅,∅,λr4 H4 r40 r41 mo4 bx4=>?_⟩;obtain⟨s4,m4⟩:=m3.draw mo4 bx4;have S4:=S3.trans s4;refine⟨_,U,_,U,_,U,_,U,Γ,b,g,hd,rc,sd,_,nx,ca,L,W,U,A0.go S4 m4,∅,λv5 d5 k5 nx5 ca5 H5 s5 m5 hk5 tv5 x5=>?_⟩;refine⟨vF,λt ht=>?_⟩;have kt:=smu (o:=HO.tup [V.str "get",V.int ((j:Nat):Int),V.int r4,v5]) ht;exact q _ (.tuple [.str "get",.int ((j:Nat):Int),.int r4,d5]) k5 nx5 ca5 _ (S4.trans (s5.trans (Sm2.of kt))) (m5.same kt) ∅ (.tup (SqT.of pE) (.cons (.str _) (.cons (.int _) (.cons (.int _) (.cons (tv5.same kt) .nil))))) ((zA hrj r40 r41 x5).more ∅)
   refine⟨_,(pD (az (pM (uD hr.units) (pK hu ↥3 pC Ue) (ax pB) (pN _)) (pG (ak (aj jc ⇑hr U %[0,1,2,3|0]))) aq) h1),?_⟩;refine⟨_,U,g,_,U,A0.m.dg,mh,λp hp=>?_⟩;obtain⟨s1,m1,pb,pg⟩:=A0.m.newL (o:=HO.tup []) hp;refine⟨rc,p,_,U,U,m1.recs,SqT.of pE,_,U,?_⟩;generalize upd H p (.tup [])=H1 at s1 m1 ⊢;refine cZ (λ_=>?_) (λhne=>r1 H1 _ _ (λe=>hne (by rw[e];rfl)) s1 m1);exact⟨_,U,_,U,_,U,_,U,Γ,b,g,hd,rc,sd,k,nx,ca,L,W,U,A0.go s1 m1,h2,λv d k' nx' ca' H' s' m' hk' tv x=>q v d k' nx' ca' H' (s1.trans s') m' hk' tv x⟩
end
section
variable {P:Program} {w:World} {K:Fg} {mg:SOV} {base:Heap}
def Cal (Γ:Gam) (i:Int):Prop:=∃ (f:Nat) (h:Str) (c:Nat),i=((f:Nat):Int)/\Γ.hs[f]?=some (h,c)/\(h="deep"\/h="function"/\(Γ.own<f\/Γ.oh≠"function"))
def MS.head {H:Hp} {Γ:Gam} {b g hd rc:Addr} {k nx ca:Int} (m:MS K H Γ b g hd rc k nx ca):∃ xs,SqL K H hd xs/\xs.length=Γ.hs.length/\∀ (f:Nat) (h:Str) (c:Nat),Γ.hs[f]?=some (h,c)->∃ t,atI xs ((f:Nat):Int)=some (.ref t)/\SqT K H t [.str h,.int ((c:Nat):Int)]:=by
 obtain⟨xs,h1,h2⟩:=m.hv;refine⟨xs,SqL.of h1,by rw[h2.length,lMp],λf h c hf=>?_⟩;obtain⟨x,hx,tx⟩:=h2.at (i:=f) (d:=dH (h,c)) (by rw[gEM,hf];rfl);obtain⟨a,ys,rfl,ha,hy⟩:=(show TD K H x (.tuple [.str h,.int ((c:Nat):Int)]) from tx).tup_of;refine⟨a,pH hx,?_⟩;cases hy with
 | cons p r =>
  cases r with
  | cons p2 r2 =>
   cases r2;rw[p.str_of,p2.int_of] at ha;exact ha
def jM {n i:Nat} {x:V} (h:(L2.ck 0 n)[i]?=some x):x=.int ((i:Nat):Int):=by
 unfold L2.ck at h;rw[gEM] at h;obtain⟨k,h1,h2⟩:=oMS.mp h;have hi:=(gES.mp h1).1;rw[gEE hi,List.getElem_range] at h1;cases h1;rw[<- h2];simp
abbrev sCl:Stmt:=top 52
abbrev nCl:List Str:=["_law_box_here","_law_deep","_law_seen","_law_lore","_law_some","_law_own","_law_k","_law_one"]
def Ag:bv nCl ps4 (am sCl):=fsM
def Bq:(["_law_k","_law_lore"]:List Str).Nodup:=by left
def lS {x y:V}:atI [x,y] 0=some x:=pH (j:=0) rfl
def kr {x y:V}:atI [x,y] 1=some y:=pH (j:=1) rfl
def Bg {n:Nat} (D:Def K mg "_law_call" sCl) (T:Blt mg) (au:Fn P w K mg base "_law_take" 1 ["_law_box_here","_law_many_here"] gZ) (bZ:Fn P w K mg base "_law_leaf" 2 ["_law_box_here","_law_seen"] (qG K)) (bA:Fn P w K mg base "_law_e" (4*n+3) ps4 (spE K n)) (FM0:Fn P w K mg base "_law_many" 4 nMn (jG K 0)) (bY:Fn P w K mg base "_law_many" (4*n+4) nMn (jG K n)):Fn P w K mg base "_law_call" (4*n+5) ps4 (spK K n):=by
 exists D.fn Ag,bL
 · obtain⟨Γ,b,g,hd,rc,sd,k,nx,ca,L,W,rfl,_⟩:=h;rfl
 · obtain⟨Γ,b,g,hd,rc,sd,k,nx,ca,L,W,rfl,A0,h2,q⟩:=h;have nd:=Ag.nd;have hu:=cD hr;have hz0:(100000:Nat)<sizeLine:=∅
   have hc:=fT n;have hc0:cst 0=10:=rfl;have hll:=A0.l;have hhl:=A0.o.hl;obtain⟨t6,h6,r6⟩:∃ t,PSs (cy CX0 P w K mg base nCl "_law_call" (am sCl) f' cdv A outer s' H E).nox ((aM sCl).drop 6) t /\
    ∀ (H1:Hp) (ca1:Int) (G:Addr) (is:List Int) (x5 x6 x7:Option V),Sm2 b g H H1->MS K H1 Γ b g hd rc k nx ca1->H1 G=some (.lst (is.map V.int))->G≠b->(∀ i∈is,Cal Γ i)->is≠[]->is.length<=20->t {nx:=λ_ H'=>Q .non H',rt:=Q} [some (.ref b),some (.int ((n:Nat):Int)),some (.ref sd),some (.ref g),some (.ref G),x5,x6,x7] H1:=by
    refine⟨_,(pD (pL (i:=7) nd U (.inl U) (ac aw ↥4 (aj au ⇑hr U %[0,cq T.len %[4|0]|0]) Ue))
 (pG (ak (ax %[pC,7,aj bY ⇑hr U %[0,1,2,3,ac ag (ac aw (pK hu ↥3 pC Ue) ↥7 Ue) pF Ue|0]|0])))),λH1 ca1 G is x5 x6 x7 s1 m1 hG Gb hcal hne hil=>?_⟩
    have hpos:0<is.length:=List.length_pos_iff.mpr hne;refine⟨_,U,_,U,_,U,G,_,U,.inl (SqL.of hG),b,k,_,U,m1.bx,∅,by rw[lMp];omega,by rw[lMp];omega,λr H2 r0 r1 mo bx=>?_⟩;rw[lMp] at r1;obtain⟨j,rfl⟩:=Int.eq_ofNat_of_zero_le r0;have hj:j<is.length:=∅
    obtain⟨s2,m2⟩:=m1.draw mo bx;have S2:=s1.trans s2;refine⟨G,_,_,V.int is[j],U,U,SqL.of ((mo G Gb).trans hG),pH (by simp[hj]),?_⟩;obtain⟨f,h,c,ef,hf,hcl⟩:=hcal _ (List.getElem_mem hj);rw[ef];obtain⟨xs,hxs,xl,hat⟩:=m2.head;obtain⟨t,ht1,ht2⟩:=hat f h c hf;have c2:c<=2:=A0.o.hc _ (mGE hf);have hmul:c*cst n<=2*cst n:=Nat.mul_le_mul_right _ c2;refine⟨_,U,_,U,_,U,_,U,_,U,_,U,g,_,U,m2.dh,_,U,hd,_,_,_,U,U,hxs,ht1,t,_,_,_,U,U,ht2,kr,Γ,b,g,hd,rc,sd,k+1,nx,ca1,L,W,c,U,A0.go S2 m2,∅,∅,λv ds k3 nx3 ca3 H3 s3 m3 hk3 tv hl xs=>?_⟩;refine⟨kH,λt ht=>?_⟩;have kt:=smu (o:=HO.tup [V.str "call",V.int ((f:Nat):Int),v]) ht;exact q _ (.tuple [.str "call",.int ((f:Nat):Int),.tuple ds]) k3 nx3 ca3 _ (S2.trans (s3.trans (Sm2.of kt))) (m3.same kt) ∅ (.tup (SqT.of pE) (.cons (.str _) (.cons (.int _) (.cons (tv.same kt) .nil)))) ((xf hf hcl xs hl ∅ (by have:=(gES.mp hf).1;omega)).more ∅)
   obtain⟨t5,h5,r5⟩:∃ t,PSs (cy CX0 P w K mg base nCl "_law_call" (am sCl) f' cdv A outer s' H E).nox ((aM sCl).drop 5) t /\
    ∀ (H1:Hp) (ca1:Int) (G:Addr) (is:List Int) (x5 x6 x7:Option V),Sm2 b g H H1->MS K H1 Γ b g hd rc k nx ca1->H1 G=some (.lst (is.map V.int))->G≠b->(∀ i∈is,Cal Γ i)->is.length<=20->t {nx:=λ_ H'=>Q .non H',rt:=Q} [some (.ref b),some (.int ((n:Nat):Int)),some (.ref sd),some (.ref g),some (.ref G),x5,x6,x7] H1:=by
    refine⟨_,(pD (az (pM (rD hu) ↥4 (bE pB) (pN _)) (pG (ak (ax %[pC,aj bA ⇑hr U %[0,1,2,3|0],aj FM0 ⇑hr U %[0,pF,2,3,aN cG pF (aj au ⇑hr U %[0,pF|0])|0]|0]))) aq) h6),λH1 ca1 G is x5 x6 x7 s1 m1 hG Gb hcal hil=>?_⟩;refine⟨_,U,mh,λp hp=>?_⟩;obtain⟨s2,m2,pb,pg⟩:=m1.newL (o:=HO.lst []) hp;have hG2:=smu (o:=HO.lst []) hp _ _ hG;refine⟨G,p,_,U,U,SqL.of hG2,SqL.of pE,_,U,?_⟩;generalize upd H1 p (.lst [])=H2 at s2 m2 hG2 ⊢;have S2:=s1.trans s2;refine cZ (λ_=>?_) (λhne=>r6 H2 ca1 G is _ _ _ S2 m2 hG2 Gb hcal (λe=>hne (by rw[e];rfl)) hil);refine⟨_,U,_,U,_,U,_,U,Γ,b,g,hd,rc,sd,k,nx,ca1,L,W,U,A0.go S2 m2,∅,λv5 d5 k5 nx5 ca5 H5 s5 m5 hk5 tv5 x5=>?_⟩;have S5:=S2.trans s5;refine⟨_,U,_,U,_,U,_,U,b,_,2,U,m5.bx,∅,∅,∅,λr H6 r0 r1 mo bx=>?_⟩;obtain⟨j,rfl⟩:=Int.eq_ofNat_of_zero_le r0;obtain⟨s6,m6⟩:=m5.draw mo bx;have S6:=S5.trans s6;have hmul:(1+j)*cst 0<=2*cst 0:=Nat.mul_le_mul_right _ ∅;refine⟨_,_,U,U,Γ,b,g,hd,rc,sd,k5+1,nx5,ca5,L,W,1+j,by rw[Int.natCast_add];rfl,(A0.lo (Nat.zero_le _)).go S6 m6,∅,∅,λv ds k7 nx7 ca7 H7 s7 m7 hk7 tv hl xs=>?_⟩;refine⟨kH,λt ht=>?_⟩;have kt:=smu (o:=HO.tup [V.str "apply",v5,v]) ht;exact q _ (.tuple [.str "apply",d5,.tuple ds]) k7 nx7 ca7 _ (S6.trans (s7.trans (Sm2.of kt))) (m7.same kt) ∅ (.tup (SqT.of pE) (.cons (.str _) (.cons (((tv5.tk (s6.tk m5)).tk (s7.tk m6)).same kt) (.cons (tv.same kt) .nil)))) ((nD x5 (xs.more ∅) ∅).more ∅)
   obtain⟨t3,h3,r3⟩:∃ t,PSs (cy CX0 P w K mg base nCl "_law_call" (am sCl) f' cdv A outer s' H E).nox ((aM sCl).drop 3) t /\
    ∀ (H1:Hp) (ca1:Int) (G:Addr) (is:List Int) (x5 x6 x7:Option V),Sm2 b g H H1->MS K H1 Γ b g hd rc k nx ca1->H G=none->H1 G=some (.lst (is.map V.int))->G≠b->G≠g->G≠hd->(∀ i∈is,Cal Γ i)->is.length<=10->t {nx:=λ_ H'=>Q .non H',rt:=Q} [some (.ref b),some (.int ((n:Nat):Int)),some (.ref sd),some (.ref g),some (.ref G),x5,x6,x7] H1:=by
    refine⟨_,(pD (pL (i:=5) nd U (.inl U) (ac ag (ac aw (pK hu ↥3 pC Ue) (pK hu ↥3 pC Ue) Ue) pF Ue))
 (pD (cR PassesOwn.never U (bO U T.range %[cq T.len %[pK hu ↥3 pC Ue|0]|0]) (aC (i:=6) nd U (.inl U))
 (pG (az (PW.pt (cM (pM aB (ac ag (ac aw (pK hu ↥3 pC Ue) ↥6 Ue) pF Ue) pC (pN _)) (bW (PW.pt (dk (pM iP ↥6 (pK hu ↥3 pC Ue) (pN _)) (cP (pM gz ↥5 pC (pN _)))))))) (pG (aH (cT ↥4 %[6|0]))) aq))) h5)),λH1 ca1 G is x5 x6 x7 s1 m1 hG0 hG Gb Gg Gh hcal hil=>?_⟩
    obtain⟨xs,hxs,xl,hat⟩:=m1.head;obtain⟨⟨ho,co⟩,hown⟩:∃ p,Γ.hs[Γ.own]?=some p:=⟨_,gEE A0.o.ho⟩;have eoh:Γ.oh=ho:=by unfold Gam.oh;rw[hown];rfl
    obtain⟨t,ht1,ht2⟩:=hat Γ.own ho co hown;refine⟨_,U,g,_,U,m1.dh,_,U,g,_,U,m1.dw,hd,_,_,_,U,U,hxs,ht1,t,_,_,_,U,U,ht2,lS,?_⟩;refine⟨_,U,g,_,U,m1.dh,hd,_,U,.inl hxs,_,U,∅,∅,?_⟩;show aO _ _ _ _ _ _;rw[show ((xs.length:Nat):Int).toNat=xs.length from Int.toNat_natCast _];refine aO.by (bu (n:=xs.length)) (λi σ Hi=>Sm2 b g H Hi/\MS K Hi Γ b g hd rc k nx ca1/\(∃ is:List Int,Hi G=some (.lst (is.map V.int))/\(∀ i∈is,Cal Γ i)/\is.length<=10+i)/\∃ x6 x7,σ=[some (.ref b),some (.int ((n:Nat):Int)),some (.ref sd),some (.ref g),some (.ref G),some (.str ho),x6,x7]) ⟨s1,m1,⟨is,hG,hcal,hil⟩,_,_,U⟩ (λ_ _ _ _ _=>trivial) ?_ ?_
    · rintro i u σ Hi hui ⟨si,mi,⟨is,hGi,hcal,hil⟩,x6,x7,rfl⟩;have hi:i<xs.length:=by have:=(gES.mp hui).1;rwa [bh] at this
      obtain rfl:=jM hui;obtain⟨ys,hys,yl,hat⟩:=mi.head;obtain⟨⟨h,c⟩,hf⟩:∃ p,Γ.hs[i]?=some p:=⟨_,gEE ∅⟩;obtain⟨t,ht1,ht2⟩:=hat i h c hf;have skip:(λσ Hi=>Sm2 b g H Hi/\MS K Hi Γ b g hd rc k nx ca1/\(∃ is:List Int,Hi G=some (.lst (is.map V.int))/\(∀ i∈is,Cal Γ i)/\is.length<=10+(i+1))/\∃ x6 x7,σ=[some (.ref b),some (.int ((n:Nat):Int)),some (.ref sd),some (.ref g),some (.ref G),some (.str ho),x6,x7]) [some (.ref b),some (.int ((n:Nat):Int)),some (.ref sd),some (.ref g),some (.ref G),some (.str ho),some (V.int ((i:Nat):Int)),x7] Hi:=⟨si,mi,⟨is,hGi,hcal,∅⟩,_,_,U⟩;have add:Cal Γ ((i:Nat):Int)->(λσ Hi=>Sm2 b g H Hi/\MS K Hi Γ b g hd rc k nx ca1/\(∃ is:List Int,Hi G=some (.lst (is.map V.int))/\(∀ i∈is,Cal Γ i)/\is.length<=10+(i+1))/\∃ x6 x7,σ=[some (.ref b),some (.int ((n:Nat):Int)),some (.ref sd),some (.ref g),some (.ref G),some (.str ho),x6,x7]) [some (.ref b),some (.int ((n:Nat):Int)),some (.ref sd),some (.ref g),some (.ref G),some (.str ho),some (V.int ((i:Nat):Int)),x7] (upd Hi G (.lst (is.map V.int++[V.int ((i:Nat):Int)]))):=λhcl=>by
       refine⟨si.put hG0,mi.updL ⟨Gb,Gg,Gh⟩ hGi,⟨is++[((i:Nat):Int)],by rw[pE,List.map_append];rfl,λz hz=>?_,by rw[lAp];show is.length+1<=_;omega⟩,_,_,U⟩
       rcases mAp.mp hz with hz | hz
       · exact hcal z hz
       · rw[mSg.mp hz];exact hcl
      refine⟨_,U,g,_,U,mi.dh,_,U,hd,_,_,_,U,U,hys,ht1,t,_,_,_,U,U,ht2,lS,U,_,U,?_⟩;by_cases e1:h="function"
      · refine pJ (by simp[e1]) ?_;refine⟨_,U,_,U,g,_,U,mi.dw,_,_,U,U,_,U,?_⟩;by_cases e2:Γ.own<i
        · refine pJ (by simp;omega) ?_;refine aL ?_;exact⟨_,U,.inl ⟨U,_,SqL.of hGi⟩,_,U,G,_,_,U,U,hGi,by rw[lMp];omega,add ⟨i,h,c,U,hf,.inr ⟨e1,.inl e2⟩⟩⟩
        · refine pI (by simp;omega) ?_;refine⟨_,U,U,_,U,?_⟩;by_cases e3:ho="function"
          · exact pI (by simp[e3]) skip
          · refine pJ (by simpa using e3) ?_;exact⟨_,U,.inl ⟨U,_,SqL.of hGi⟩,_,U,G,_,_,U,U,hGi,by rw[lMp];omega,add ⟨i,h,c,U,hf,.inr ⟨e1,.inr (by rw[eoh];exact e3)⟩⟩⟩
      · exact pI (by simpa using e1) skip
    · rintro σ Hi ⟨si,mi,⟨is,hGi,hcal,hil⟩,x6,x7,rfl⟩;rw[bh,xl] at hil;exact r5 Hi ca1 G is _ _ _ si mi hGi Gb hcal ∅
   obtain⟨t2,h2',r2⟩:∃ t,PSs (cy CX0 P w K mg base nCl "_law_call" (am sCl) f' cdv A outer s' H E).nox ((aM sCl).drop 2) t /\
    ∀ (H1:Hp) (ca1:Int) (x4 x5 x6 x7:Option V),Sm2 b g H H1->MS K H1 Γ b g hd rc k nx ca1->(∀ a,H1 a=none->H a=none)->t {nx:=λ_ H'=>Q .non H',rt:=Q} [some (.ref b),some (.int ((n:Nat):Int)),some (.ref sd),some (.ref g),x4,x5,x6,x7] H1:=by
    refine⟨_,(pD (qZ (i0:=4) (own:=["_law_k"]) (outs:=[(3,"_law_lore")]) (tc:=nH (tOp rEq (tOp (oX K) (tOp (oY K) (vK (dr 1) (tC (.str "heads"))) (dr 0)) (tC (.int 0))) (tC (.str "deep")))) U (br.of (am sCl) nCl) (bO U T.range %[cq T.len %[pK hu ↥3 pC Ue|0]|0]) (λ_ _ _ _=>⟨(aC (i:=0) Bq U (.inl U)),(rp (pM aB (ac ag (ac aw (pK hu ↥1 pC Ue) ↥0 Ue) pF Ue) pC (pN _))),↥0⟩) nd U U) h3),λH1 ca1 x4 x5 x6 x7 s1 m1 fr=>?_⟩;obtain⟨xs,hxs,xl,hat⟩:=m1.head;rw[qP,iK,eO];refine⟨_,U,g,_,U,m1.dh,hd,_,U,.inl hxs,_,U,∅,∅,λG hG=>?_⟩;rw[show ((xs.length:Nat):Int).toNat=xs.length from Int.toNat_natCast _];obtain⟨Gb,Gg,Gh⟩:=m1.new hG;have k0:=smu (o:=HO.lst []) hG;refine cN.by (bu (n:=xs.length)) (λi σ Hi=>Sm2 b g H Hi/\MS K Hi Γ b g hd rc k nx ca1/\(∃ is:List Int,Hi G=some (.lst (is.map V.int))/\(∀ i∈is,Cal Γ i)/\is.length<=i)/\∃ y,σ=[y,some (.ref g)]) ⟨s1.trans (Sm2.of k0),m1.same k0,⟨[],pE,λ_ h=>(by cases h),Nat.le_refl _⟩,_,U⟩ (λ_ _ _ _ _=>trivial) ?_ ?_
    · rintro i u σ Hi hui ⟨si,mi,⟨is,hGi,hcal,hil⟩,y,rfl⟩;have hi:i<xs.length:=by have:=(gES.mp hui).1;rwa [bh] at this
      obtain rfl:=jM hui;obtain⟨ys,hys,yl,hat⟩:=mi.head;obtain⟨⟨h,c⟩,hf⟩:∃ p,Γ.hs[i]?=some p:=⟨_,gEE ∅⟩;obtain⟨t,ht1,ht2⟩:=hat i h c hf;rw[ce];refine⟨_,U,g,_,U,mi.dh,_,U,hd,_,_,_,U,U,hys,ht1,t,_,_,_,U,U,ht2,lS,U,_,U,?_⟩;by_cases e1:h="deep"
      · refine pJ (by simp[e1]) ⟨_,U,_,hGi,by rw[lMp];omega,si.put (fr _ hG),mi.updL ⟨Gb,Gg,Gh⟩ hGi,⟨is++[((i:Nat):Int)],by rw[pE,List.map_append];rfl,λz hz=>?_,by rw[lAp];show is.length+1<=_;omega⟩,_,U⟩
        rcases mAp.mp hz with hz | hz
        · exact hcal z hz
        · rw[mSg.mp hz];exact⟨i,h,c,U,hf,.inl e1⟩
      · exact pI (by simpa using e1) ⟨si,mi,⟨is,hGi,hcal,∅⟩,_,U⟩
    · rintro σ Hi ⟨si,mi,⟨is,hGi,hcal,hil⟩,y,rfl⟩;rw[bh,xl] at hil;exact r3 Hi ca1 G is _ _ _ si mi (fr _ hG) hGi Gb Gg Gh hcal ∅
   refine⟨_,(pD (du hu ↥3 pC (aN cG (pK hu ↥3 pC Ue) pF) U)
 (pD (az (pM iP (pK hu ↥3 pC Ue) pF (pN _)) (pG (ak (aj bZ ⇑hr U %[0,2|0]))) aq) h2')),?_⟩
   have m0:=A0.m;have m1:=m0.put (nx':=nx) (ca':=ca+1);have s1:Sm2 b g H (upd H g (.dK (eU nx hd Γ.own rc (ca+1)))):=(Mo.put λ_ _=>rfl:Mo H g _).sm2';refine⟨_,U,g,_,U,m0.dc,_,_,U,U,_,U,g,_,U,io.k (k:=.inr "calls") m0.lo (by show 5<sizeLine;decide),?_⟩;rw[pq];have fr:∀ a,(upd H g (.dK (eU nx hd Γ.own rc (ca+1)))) a=none->H a=none:=λa ha=>by
    by_cases e:a=g
    · rw[e,pE] at ha;cases ha
    · rw[af e] at ha;exact ha
   generalize upd H g (.dK (eU nx hd Γ.own rc (ca+1)))=H1 at m1 s1 fr ⊢;refine⟨_,U,g,_,U,m1.dc,_,_,U,U,_,U,?_⟩;refine cZ (λ_=>?_) (λ_=>r2 H1 (ca+1) _ _ _ _ s1 m1 fr);exact⟨_,U,_,U,Γ,b,g,hd,rc,sd,k,nx,ca+1,L,W,U,m1,A0.s.sm m0 s1,∅,∅,λv d k' H' s' m' hk' tv x=>q v d k' nx (ca+1) H' (s1.trans s') m' ∅ tv (x (2*n+2))⟩
end
section
variable {P:Program} {w:World} {K:Fg} {mg:SOV} {base:Heap}
section
variable {H:Hp} {Γ:Gam} {b g hd rc sd:Addr} {k nx ca x:Int} {L W:List Int} {σ:St} {Q:VK}
def nT (m:MS K H Γ b g hd rc k nx ca) (sv:ja K H b g sd L W) (hl:L.length+W.length<=1000) (e2:σ[2]?=some (some (.ref sd))) (e5:σ[5]?=some (some (.int x)))
 (q:∀ t H',Sm2 b g H H'->MS K H' Γ b g hd rc k nx ca->ja K H' b g t (L++[x]) W->Q (.ref t) H') :
 mr (cV (tOp (qU K) (tOp (oX K) (dr 2) (tC (.int 0))) (tZ (cV (dr 5) gY))) (cV (tOp (oX K) (dr 2) (tC (.int 1))) gY)) σ H Q:=by
 have hz0:(100000:Nat)<sizeLine:=∅
 obtain⟨la,va,h1,h2,h3,n1,n2,n3,n4⟩:=sv.ex;refine⟨_,e2,sd,_,_,_,U,U,h1,lS,_,e5,me,λp hp=>?_⟩;have k1:=smu (o:=HO.lst [V.int x]) hp;refine⟨la,p,_,_,U,U,SqL.of (k1 _ _ h2),SqL.of pE,by simp;omega,λp2 hp2=>?_⟩;have k2:=smu (o:=HO.lst (L.map V.int++[V.int x])) hp2;have m2:=(m.same k1).same k2;obtain⟨b2,g2,_⟩:=(m.same k1).new hp2;have s2:Sm2 b g H _:=Sm2.of (k1.trans k2);have e2':(upd (upd H p (.lst [V.int x])) p2 (.lst (L.map V.int++[V.int x]))) p2=some (.lst ((L++[x]).map V.int)):=by rw[pE,List.map_append];rfl
 refine⟨_,e2,sd,_,_,_,U,U,(h1.tk (k1.trans k2).tk),kr,dB,λt ht=>?_⟩;have k3:=smu (o:=HO.tup [V.ref p2,V.ref va]) ht;exact q t _ (s2.trans (Sm2.of k3)) (m2.same k3) ⟨p2,va,SqT.of pE,k3 _ _ e2',k3 _ _ (k2 _ _ (k1 _ _ h3)),b2,n2,g2,n4⟩
def uo (m:MS K H Γ b g hd rc k nx ca) (sv:ja K H b g sd L W) (hl:L.length+W.length<=1000) (e2:σ[2]?=some (some (.ref sd))) (e5:σ[5]?=some (some (.int x)))
 (q:∀ t H',Sm2 b g H H'->MS K H' Γ b g hd rc k nx ca->ja K H' b g t L (W++[x])->Q (.ref t) H') :
 mr (cV (tOp (oX K) (dr 2) (tC (.int 0))) (cV (tOp (qU K) (tOp (oX K) (dr 2) (tC (.int 1))) (tZ (cV (dr 5) gY))) gY)) σ H Q:=by
 have hz0:(100000:Nat)<sizeLine:=∅
 obtain⟨la,va,h1,h2,h3,n1,n2,n3,n4⟩:=sv.ex;refine⟨_,e2,sd,_,_,_,U,U,h1,lS,_,e2,sd,_,_,_,U,U,h1,kr,_,e5,me,λp hp=>?_⟩;have k1:=smu (o:=HO.lst [V.int x]) hp;refine⟨va,p,_,_,U,U,SqL.of (k1 _ _ h3),SqL.of pE,by simp;omega,λp2 hp2=>?_⟩;have k2:=smu (o:=HO.lst (W.map V.int++[V.int x])) hp2;have m2:=(m.same k1).same k2;obtain⟨b2,g2,_⟩:=(m.same k1).new hp2;have s2:Sm2 b g H _:=Sm2.of (k1.trans k2);have e2':(upd (upd H p (.lst [V.int x])) p2 (.lst (W.map V.int++[V.int x]))) p2=some (.lst ((W++[x]).map V.int)):=by rw[pE,List.map_append];rfl
 refine⟨dB,λt ht=>?_⟩;have k3:=smu (o:=HO.tup [V.ref la,V.ref p2]) ht;exact q t _ (s2.trans (Sm2.of k3)) (m2.same k3) ⟨la,p2,SqT.of pE,k3 _ _ (k2 _ _ (k1 _ _ h2)),k3 _ _ e2',n1,b2,n3,g2⟩
end
inductive BH (K:Fg) (n:Nat) (vs:List V) (H:Hp) (Q:VK):Prop
  | mk (Γ:Gam) (b g hd rc sd:Addr) (k nx ca:Int) (L W:List Int) (h0:vs=[.ref b,.int ((n:Nat):Int),.ref sd,.ref g]) (h1:Ask K H Γ b g hd rc sd k nx ca L W (n+1)) (h2:k+((8*cst n+50:Nat):Int)<=900000)
    (q:∀ v d k' nx' ca' H',Sm2 b g H H'->MS K H' Γ b g hd rc k' nx' ca'->k'<=k+((8*cst n+50:Nat):Int)->TD K H' v d->XE Γ L W (2*n+3) nx d nx'->Q v H'):BH K n vs H Q
def spB (K:Fg) (n:Nat):Sp:=λvs H Q _=>BH K n vs H Q
abbrev sBd:Stmt:=top 49
abbrev nBd:List Str:=["_law_box_here","_law_deep","_law_seen","_law_lore","_law_word","_law_one","_law_ids","_law_thing","_law_body"]
def Aj:bv nBd ps4 (am sBd):=fsM
def w5:List Str:=["let","let","var","each","fun"]
def qO (i:Int) (j:Nat):rgI i (j+1)=i::rgI (i+1) j:=by
 unfold rgI;rw[List.range_succ_eq_map,List.map_cons,List.map_map];congr 1
 · simp
 · refine List.map_congr_left λt _=>?_;show i+((t+1:Nat):Int)=i+1+((t:Nat):Int);omega
def tW {H:Hp} (is:List Int):TDs K H (is.map V.int) (is.map .int):=by
 induction is with
 | nil=>exact .nil
 | cons i r ih=>exact .cons (.int i) ih
def mI {H:Hp} {is:List Int} {xs:List V} (h:TDs K H xs (is.map .int)):xs=is.map V.int:=by
 induction is generalizing xs with
 | nil=>cases h;rfl
 | cons i r ih=>cases h with
  | cons a b=>rw[a.int_of,ih b];rfl
def Bm {n:Nat} (D:Def K mg "_law_binder" sBd) (T:Blt mg) (au:Fn P w K mg base "_law_take" 1 ["_law_box_here","_law_many_here"] gZ) (dM:Fn P w K mg base "_law_fresh" 1 ["_law_lore"] (xt K)) (bA:Fn P w K mg base "_law_e" (4*n+3) ps4 (spE K n)) (FM0:Fn P w K mg base "_law_many" 4 nMn (jG K 0)) (bY:Fn P w K mg base "_law_many" (4*n+4) nMn (jG K n)):Fn P w K mg base "_law_binder" (4*n+5) ps4 (spB K n):=by
 exists D.fn Aj,bL
 · obtain⟨Γ,b,g,hd,rc,sd,k,nx,ca,L,W,rfl,_⟩:=h;rfl
 · obtain⟨Γ,b,g,hd,rc,sd,k,nx,ca,L,W,rfl,A0,h2,q⟩:=h;have nd:=Aj.nd;have hz0:(100000:Nat)<sizeLine:=∅
   have hc:=fT n;have hc0:cst 0=10:=rfl;have hll:=A0.l;have Bs:Ask K H Γ b g hd rc sd k nx ca L W n:=A0.lo ∅;obtain⟨t7,h7,r7⟩:∃ t,PSs (cy CX0 P w K mg base nBd "_law_binder" (am sBd) f' cdv A outer s' H E).nox ((aM sBd).drop 7) t /\
    ∀ (H1:Hp) (k1 nx1 ca1 l:Int) (s:Str) (v7 v8:V) (d7 d8:PyData) (x6:Option V),s="let"\/s="each"->Sm2 b g H H1->MS K H1 Γ b g hd rc k1 nx1 ca1->k1<=k+((8*cst n+50:Nat):Int)->TD K H1 v7 d7->TD K H1 v8 d8->XE Γ L W (2*n+2) (nx+1) d7 l->XE Γ (L++[nx]) W (2*n+2) l d8 nx1->t {nx:=λ_ H'=>Q .non H',rt:=Q} [some (.ref b),some (.int ((n:Nat):Int)),some (.ref sd),some (.ref g),some (.str s),some (.int nx),x6,some v7,some v8] H1:=by
    refine⟨_,(pG (ak (ax %[4,5,7,8|0]))),λH1 k1 nx1 ca1 l s v7 v8 d7 d8 x6 hs s1 m1 hk1 u7 u8 y7 y8=>?_⟩;refine⟨_,U,_,U,_,U,_,U,vF,λt ht=>?_⟩;have kt:=smu (o:=HO.tup [V.str s,V.int nx,v7,v8]) ht;exact q _ (.tuple [.str s,.int nx,d7,d8]) k1 nx1 ca1 _ (s1.trans (Sm2.of kt)) (m1.same kt) hk1 (.tup (SqT.of pE) (.cons (.str _) (.cons (.int _) (.cons (u7.same kt) (.cons (u8.same kt) .nil))))) (zx hs y7 y8)
   obtain⟨t6,h6,r6⟩:∃ t,PSs (cy CX0 P w K mg base nBd "_law_binder" (am sBd) f' cdv A outer s' H E).nox ((aM sBd).drop 6) t /\
    ∀ (H1:Hp) (k1 nx1 ca1 l:Int) (s:Str) (v7 v8:V) (d7 d8:PyData) (x6:Option V),s="let"\/s="each"->Sm2 b g H H1->MS K H1 Γ b g hd rc k1 nx1 ca1->k1<=k+((5*cst n+40:Nat):Int)->TD K H1 v7 d7->TD K H1 v8 d8->XE Γ L W (2*n+2) (nx+1) d7 l->XE Γ (L++[nx]) W (2*n+1) l d8 nx1->t {nx:=λ_ H'=>Q .non H',rt:=Q} [some (.ref b),some (.int ((n:Nat):Int)),some (.ref sd),some (.ref g),some (.str s),some (.int nx),x6,some v7,some v8] H1:=by
    refine⟨_,(pD (az (pM aB ↥4 pC (pN _)) (pG (pL (i:=8) nd U (.inl U) (ax %[pC,aN nY (ax %[8|0]) (aj bY ⇑hr U %[0,1,ax %[aN gB ↥↥2 (bE %[5|0]),↥↥2|0],3,aj au ⇑hr U %[0,pF|0]|0])|0]))) aq) h7),λH1 k1 nx1 ca1 l s v7 v8 d7 d8 x6 hs s1 m1 hk1 u7 u8 y7 y8=>?_⟩;refine⟨_,U,U,_,U,?_⟩;refine cZ (λhse=>?_) (λ_=>r7 H1 k1 nx1 ca1 l s v7 v8 d7 d8 _ hs s1 m1 ∅ u7 u8 y7 (y8.more ∅));refine⟨_,U,me,λp1 hp1=>?_⟩;have k1':=smu (o:=HO.tup [v8]) hp1;have m2:=m1.same k1';have S2:=s1.trans (Sm2.of (b:=b) (g:=g) k1');have tp1:TD K _ (.ref p1) (.tuple [d8]):=.tup (SqT.of pE) (.cons (u8.same k1') .nil);have u72:=u7.same k1';generalize upd H1 p1 (.tup [v8])=H2 at m2 S2 tp1 u72 ⊢;refine⟨_,U,_,U,?_⟩;refine nT m2 (A0.s.sm A0.m S2) ∅ rfl U λt3 H3 s3 m3 sv3=>?_;refine⟨_,U,_,U,b,k1,3,U,m3.bx,∅,∅,∅,λr H4 r0 r1 mo bx=>?_⟩;obtain⟨j,rfl⟩:=Int.eq_ofNat_of_zero_le r0;obtain⟨s4,m4⟩:=m3.draw mo bx;have hmul:j*cst n<=2*cst n:=Nat.mul_le_mul_right _ ∅;refine⟨Γ,b,g,hd,rc,t3,k1+1,nx1,ca1,L++[nx],W,j,U,⟨m4,sv3.sm m3 s4,A0.o,by rw[lAp];show L.length+1+W.length+3*n<=100;omega⟩,∅,∅,λv ds k5 nx5 ca5 H5 s5 m5 hk5 tv hl xs=>?_⟩;have tp5:=((tp1.tk (s3.tk m2)).tk (s4.tk m3)).tk (s5.tk m4);have S5:=S2.trans (s3.trans (s4.trans s5));have u75:=((u72.tk (s3.tk m2)).tk (s4.tk m3)).tk (s5.tk m4);obtain⟨pv9,ys9,rfl,hq9,hy9⟩:=tv.tup_of;refine iy tp5 tv (by show 1+ds.length<=100000;omega) λp H6 k6 tp6=>?_;refine⟨dB,λt ht=>?_⟩;have kt:=smu (o:=HO.tup [V.str "do",V.ref p]) ht;exact r7 _ k5 nx5 ca5 l s v7 _ d7 (.tuple [.str "do",.tuple (d8::ds)]) _ hs (S5.trans (Sm2.of (k6.trans kt))) ((m5.same k6).same kt) ∅ ((u75.same k6).same kt) (.tup (SqT.of pE) (.cons (.str _) (.cons (tp6.same kt) .nil))) y7 (zC (show XEs Γ (L++[nx]) W (2*n+1) l (d8::ds) nx5 from ⟨nx1,y8,xs⟩) (by show ds.length+1<=4;omega))
   obtain⟨t5,h5,r5⟩:∃ t,PSs (cy CX0 P w K mg base nBd "_law_binder" (am sBd) f' cdv A outer s' H E).nox ((aM sBd).drop 5) t /\
    ∀ (H1:Hp) (k1 nx1 ca1:Int) (s:Str) (v7:V) (d7:PyData) (x6 x8:Option V),s="let"\/s="each"->Sm2 b g H H1->MS K H1 Γ b g hd rc k1 nx1 ca1->k1<=k+((4*cst n+30:Nat):Int)->TD K H1 v7 d7->XE Γ L W (2*n+2) (nx+1) d7 nx1->t {nx:=λ_ H'=>Q .non H',rt:=Q} [some (.ref b),some (.int ((n:Nat):Int)),some (.ref sd),some (.ref g),some (.str s),some (.int nx),x6,some v7,x8] H1:=by
    refine⟨_,(pD (pL (i:=8) nd U (.inl U) (aj bA ⇑hr U %[0,1,ax %[aN gB ↥↥2 (bE %[5|0]),↥↥2|0],3|0])) h6),λH1 k1 nx1 ca1 s v7 d7 x6 x8 hs s1 m1 hk1 u7 y7=>?_⟩;refine⟨_,U,_,U,?_⟩;refine nT m1 (A0.s.sm A0.m s1) ∅ rfl U λt3 H3 s3 m3 sv3=>?_;refine⟨_,U,Γ,b,g,hd,rc,t3,k1,nx1,ca1,L++[nx],W,U,⟨m3,sv3,A0.o,by rw[lAp];show L.length+1+W.length+3*n<=100;omega⟩,∅,λv d k5 nx5 ca5 H5 s5 m5 hk5 tv x5=>?_⟩;exact r6 H5 k5 nx5 ca5 nx1 s v7 v d7 d _ hs (s1.trans (s3.trans s5)) m5 ∅ ((u7.tk (s3.tk m1)).tk (s5.tk m3)) tv y7 x5
   obtain⟨t4,h4,r4⟩:∃ t,PSs (cy CX0 P w K mg base nBd "_law_binder" (am sBd) f' cdv A outer s' H E).nox ((aM sBd).drop 4) t /\
    ∀ (H1:Hp) (k1 nx1 ca1:Int) (s:Str) (v7:V) (d7:PyData) (x6 x8:Option V),s="let"\/s="each"\/s="var"->Sm2 b g H H1->MS K H1 Γ b g hd rc k1 nx1 ca1->k1<=k+((4*cst n+30:Nat):Int)->TD K H1 v7 d7->XE Γ L W (2*n+2) (nx+1) d7 nx1->t {nx:=λ_ H'=>Q .non H',rt:=Q} [some (.ref b),some (.int ((n:Nat):Int)),some (.ref sd),some (.ref g),some (.str s),some (.int nx),x6,some v7,x8] H1:=by
    refine⟨_,(pD (az (pM aB ↥4 pC (pN _)) (pG (ak (ax %[pC,5,7,aj bA ⇑hr U %[0,1,ax %[↥↥2,aN gB ↥↥2 (bE %[5|0])|0],3|0]|0]))) aq) h5),λH1 k1 nx1 ca1 s v7 d7 x6 x8 hs s1 m1 hk1 u7 y7=>?_⟩;refine⟨_,U,U,_,U,?_⟩;refine cZ (λ_=>?_) (λhsv=>r5 H1 k1 nx1 ca1 s v7 d7 _ _ (by rcases hs with h | h | h;exact .inl h;exact .inr h;exact absurd (by rw[h];rfl) hsv) s1 m1 hk1 u7 y7);refine⟨_,U,_,U,_,U,_,U,?_⟩;refine uo m1 (A0.s.sm A0.m s1) ∅ rfl U λt3 H3 s3 m3 sv3=>?_;refine⟨_,U,Γ,b,g,hd,rc,t3,k1,nx1,ca1,L,W++[nx],U,⟨m3,sv3,A0.o,by rw[lAp];show L.length+(W.length+1)+3*n<=100;omega⟩,∅,λv d k5 nx5 ca5 H5 s5 m5 hk5 tv x5=>?_⟩;refine⟨vF,λt ht=>?_⟩;have kt:=smu (o:=HO.tup [V.str "var",V.int nx,v7,v]) ht;exact q _ (.tuple [.str "var",.int nx,d7,d]) k5 nx5 ca5 _ (s1.trans (s3.trans (s5.trans (Sm2.of kt)))) (m5.same kt) ∅ (.tup (SqT.of pE) (.cons (.str _) (.cons (.int _) (.cons (((u7.tk (s3.tk m1)).tk (s5.tk m3)).same kt) (.cons (tv.same kt) .nil))))) (zm y7 (x5.more ∅))
   obtain⟨t3,h3,r3⟩:∃ t,PSs (cy CX0 P w K mg base nBd "_law_binder" (am sBd) f' cdv A outer s' H E).nox ((aM sBd).drop 3) t /\
    ∀ (H1:Hp) (k1:Int) (s:Str) (x6 x7 x8:Option V),s="let"\/s="each"\/s="var"->Sm2 b g H H1->MS K H1 Γ b g hd rc k1 (nx+1) ca->k1<=k+1->t {nx:=λ_ H'=>Q .non H',rt:=Q} [some (.ref b),some (.int ((n:Nat):Int)),some (.ref sd),some (.ref g),some (.str s),some (.int nx),x6,x7,x8] H1:=by
    refine⟨_,(pD (az (PW.pt (cM (pM aB ↥4 pC (pN _)) (bW (pM iP (aj au ⇑hr U %[0,pF|0]) pF (pN _))))) (pG (pL (i:=7) nd U (.inl U) (ax %[pC,pC,aj FM0 ⇑hr U %[0,pF,2,3,aj au ⇑hr U %[0,pF|0]|0]|0]))) (pG (pL (i:=7) nd U (.inl U) (aj bA ⇑hr U %[0,1,2,3|0])))) h4),λH1 k1 s x6 x7 x8 hs s1 m1 hk1=>?_⟩;have els:∀ (H1:Hp) (k1:Int),Sm2 b g H H1->MS K H1 Γ b g hd rc k1 (nx+1) ca->k1<=k+2->qy (kW (spE K n) [] E (cV (dr 0) (cV (dr 1) (cV (dr 2) (cV (dr 3) gY))))) (lG 7) {nx:=t4 {nx:=λ_ H'=>Q .non H',rt:=Q},rt:=Q} [some (.ref b),some (.int ((n:Nat):Int)),some (.ref sd),some (.ref g),some (.str s),some (.int nx),x6,x7,x8] H1:=λH1 k1 s1 m1 hk1=>by
     refine⟨_,U,_,U,_,U,_,U,Γ,b,g,hd,rc,sd,k1,nx+1,ca,L,W,U,Bs.go s1 m1,∅,λv d k5 nx5 ca5 H5 s5 m5 hk5 tv x5=>?_⟩;exact r4 H5 k5 nx5 ca5 s v d _ _ hs (s1.trans s5) m5 ∅ tv (x5.more ∅)
    refine⟨_,U,U,_,U,?_⟩;refine cZ (λ_=>?_) (λ_=>els H1 k1 s1 m1 ∅);refine⟨_,U,b,k1,4,U,m1.bx,∅,∅,∅,λr H2 r0 r1 mo bx=>⟨_,_,U,U,_,U,?_⟩⟩;obtain⟨s2,m2⟩:=m1.draw mo bx;have S2:=s1.trans s2;refine cZ (λ_=>?_) (λ_=>els H2 _ S2 m2 ∅);refine⟨_,U,_,U,_,U,_,U,b,k1+1,4,U,m2.bx,∅,∅,∅,λr' H3 r0' r1' mo' bx'=>?_⟩;obtain⟨j,rfl⟩:=Int.eq_ofNat_of_zero_le r0';obtain⟨s3,m3⟩:=m2.draw mo' bx';have S3:=S2.trans s3;have hmul:j*cst 0<=3*cst 0:=Nat.mul_le_mul_right _ ∅;refine⟨Γ,b,g,hd,rc,sd,k1+1+1,nx+1,ca,L,W,j,U,(Bs.lo (Nat.zero_le _)).go S3 m3,∅,∅,λv ds k5 nx5 ca5 H5 s5 m5 hk5 tv hl xs=>?_⟩;refine⟨kH,λt ht=>?_⟩;have kt:=smu (o:=HO.tup [V.str "op",V.str "row",v]) ht;exact r4 _ k5 nx5 ca5 s _ (.tuple [.str "op",.str "row",.tuple ds]) _ _ hs (S3.trans (s5.trans (Sm2.of kt))) (m5.same kt) ∅ (.tup (SqT.of pE) (.cons (.str _) (.cons (.str _) (.cons (tv.same kt) .nil)))) ((zq (rC ∅) xs ∅).more ∅)
   obtain⟨t2,h2',r2⟩:∃ t,PSs (cy CX0 P w K mg base nBd "_law_binder" (am sBd) f' cdv A outer s' H E).nox ((aM sBd).drop 2) t /\
    ∀ (H1:Hp) (k1:Int) (s:Str) (x6 x7 x8:Option V),s∈w5->Sm2 b g H H1->MS K H1 Γ b g hd rc k1 (nx+1) ca->k1<=k+1->t {nx:=λ_ H'=>Q .non H',rt:=Q} [some (.ref b),some (.int ((n:Nat):Int)),some (.ref sd),some (.ref g),some (.str s),some (.int nx),x6,x7,x8] H1:=by
    refine⟨_,(pD (az (pM aB ↥4 pC (pN _)) (pD (pL (i:=6) nd U (.inl U) (aN nY (ax %[5|0]) (dA T.tuple %[gx (own:=["_law_k"]) (outs:=[(3,"_law_lore")]) U (br.of (am sBd) nBd) (bO U T.range %[aj au ⇑hr U %[0,pF|0]|0]) (λ_ _ _ _=>⟨(aC (i:=0) Bq U (.inl U)),cB,(aj dM ⇑hr U %[1|0])⟩)|0])))
 (pG (ak (ax %[pC,6,aj bA ⇑hr U %[0,1,ax %[aN gB ↥↥2 (zi T.list %[6|0]),bE pB|0],3|0]|0])))) aq) h3),λH1 k1 s x6 x7 x8 hs s1 m1 hk1=>?_⟩
    refine⟨_,U,U,_,U,?_⟩;refine cZ (λ_=>?_) (λhsf=>r3 H1 k1 s _ _ _ (by
      have:∀ s∈w5,s="fun"\/s="let"\/s="each"\/s="var":=by left
      rcases this s hs with h | h
      · exact absurd (by rw[h];rfl) hsf
      · exact h) s1 m1 hk1)
    refine⟨_,U,me,λp1 hp1=>?_⟩;have k1':=smu (o:=HO.tup [V.int nx]) hp1;have m2:=m1.same k1';have S2:=s1.trans (Sm2.of (b:=b) (g:=g) k1');have tp1:TD K (upd H1 p1 (.tup [V.int nx])) (.ref p1) (.tuple [.int nx]):=.tup (SqT.of pE) (.cons (.int _) .nil);generalize upd H1 p1 (.tup [V.int nx])=H2 at m2 S2 tp1 ⊢;dsimp only[be];rw[iJ,d0,eO];refine⟨_,U,b,k1,2,U,m2.bx,∅,∅,∅,λr H3 r0 r1 mo bx=>⟨_,U,∅,∅,λG hG=>?_⟩⟩;obtain⟨j,rfl⟩:=Int.eq_ofNat_of_zero_le r0;obtain⟨s3,m3⟩:=m2.draw mo bx;rw[show ((j:Nat):Int).toNat=j from Int.toNat_natCast _];have nw:=m3.new hG;have k0:=smu (o:=HO.lst []) hG;refine cN.by (bu (n:=j)) (λi σ Hi=>Sm2 b g H3 Hi/\MS K Hi Γ b g hd rc (k1+1) (nx+1+((i:Nat):Int)) ca/\Hi G=some (.lst ((rgI (nx+1) i).map V.int))/\∃ y,σ=[y,some (.ref g)]) ⟨Sm2.of k0,by rw[Int.natCast_zero,Int.add_zero];exact m3.same k0,pE,_,U⟩ (λ_ _ _ _ _=>trivial) ?_ ?_
    · rintro i u σ Hi hu ⟨si,mi,hGi,y,rfl⟩;have hi:i<j:=by have:=(gES.mp hu).1;rwa [bh] at this
      rw[ce,dC];refine aL ⟨_,U,Γ,b,g,hd,rc,_,_,_,U,mi,λH4 mo4 m4=>?_⟩;have hG4:=(mo4 G nw.2.1).trans hGi;refine⟨_,hG4,by rw[lMp,fK];omega,?_,?_,?_,_,U⟩
      · exact (si.trans mo4.sm2').put hG
      · rw[Int.natCast_add,<- Int.add_assoc];exact m4.updL nw hG4
      · rw[pE,qN,List.map_append];rfl
    · rintro σ Hi ⟨si,mi,hGi,y,rfl⟩;rw[bh] at mi hGi;refine⟨G,_,U,.inl ⟨SqL.of hGi,λF hF=>?_⟩⟩;have k5:=smu (o:=HO.tup ((rgI (nx+1) j).map V.int)) hF;have tF:TD K (upd Hi F (.tup ((rgI (nx+1) j).map V.int))) (.ref F) (.tuple ((rgI (nx+1) j).map .int)):=.tup (SqT.of pE) (tW _);have tp5:=((tp1.tk (s3.tk m2)).tk (si.tk m3)).same k5;have m5:=mi.same k5;have S5:=S2.trans (s3.trans (si.trans (Sm2.of k5)));generalize upd Hi F (.tup ((rgI (nx+1) j).map V.int))=H5 at tF tp5 m5 S5 ⊢;refine iy tp5 tF (by simp[fK];omega) λp H6 k6 tp6=>?_;have eids:[PyData.int nx]++(rgI (nx+1) j).map .int=(rgI nx (j+1)).map .int:=by rw[qO];rfl
      rw[eids] at tp6;have m6:=m5.same k6;have S6:=S5.trans (Sm2.of k6);obtain⟨a6,ys6,ea6,hq6,hy6⟩:=tp6.tup_of;cases ea6;have ey6:=mI hy6;subst ey6;obtain⟨la,va,z1,z2,z3,n1,n2,n3,n4⟩:=(A0.s.sm A0.m S6).ex;refine⟨_,U,_,U,_,U,_,U,sd,_,_,_,U,U,z1,lS,_,U,_,_,U,.inr hq6,λl hl=>?_⟩;have k7:=smu (o:=HO.lst ((rgI nx (j+1)).map V.int)) hl;refine⟨la,l,_,_,U,U,SqL.of (k7 _ _ z2),SqL.of pE,by simp[fK];omega,λp2 hp2=>?_⟩;have k8:=smu (o:=HO.lst (L.map V.int++(rgI nx (j+1)).map V.int)) hp2;obtain⟨b2,g2,_⟩:=(m6.same k7).new hp2;refine⟨mh,λp3 hp3=>?_⟩;obtain⟨b3,g3,_⟩:=((m6.same k7).same k8).new hp3;have k9:=smu (o:=HO.lst []) hp3;refine⟨dB,λt ht=>?_⟩;have k10:=smu (o:=HO.tup [V.ref p2,V.ref p3]) ht;have kk:=((k7.trans k8).trans k9).trans k10;have m10:=m6.same kk;have S10:=S6.trans (Sm2.of (b:=b) (g:=g) kk);have tp10:=tp6.same kk;have sv:ja K _ b g t (L++rgI nx (j+1)) []:=⟨p2,p3,SqT.of (pE (o:=HO.tup [V.ref p2,V.ref p3])),k10 _ _ (k9 _ _ (by rw[List.map_append];exact pE)),k10 _ _ pE,b2,b3,g2,g3⟩;generalize upd (upd (upd (upd H6 l (.lst ((rgI nx (j+1)).map V.int))) p2 (.lst (L.map V.int++(rgI nx (j+1)).map V.int))) p3 (.lst [])) t (.tup [V.ref p2,V.ref p3])=H10 at m10 S10 sv tp10 ⊢;refine⟨_,U,Γ,b,g,hd,rc,t,k1+1,nx+1+((j:Nat):Int),ca,L++rgI nx (j+1),[],U,⟨m10,sv,A0.o,by rw[lAp,fK];show L.length+(j+1)+0+3*n<=100;omega⟩,∅,λv d k11 nx11 ca11 H11 s11 m11 hk11 tv x11=>?_⟩;refine⟨kH,λt ht=>?_⟩;have kt:=smu (o:=HO.tup [V.str "fun",V.ref p,v]) ht;exact q _ (.tuple [.str "fun",.tuple ((rgI nx (j+1)).map .int),d]) k11 nx11 ca11 _ (S10.trans (s11.trans (Sm2.of kt))) (m11.same kt) ∅ (.tup (SqT.of pE) (.cons (.str _) (.cons ((tp10.tk (s11.tk m10)).same kt) (.cons (tv.same kt) .nil)))) ((zB (k:=j+1) ∅ (by rw[Int.natCast_add,Int.add_comm ((j:Nat):Int),<- Int.add_assoc];exact x11)).more ∅)
   refine⟨_,(@pD _ _ _ _ _ (@pL _ _ 4 _ _ _ _ nd U (.inl U) (@ac _ _ _ _ _ _ _ aw (@bE _ _ _ _ (@pA _ _ _ _ _ pC (@pA _ _ _ _ _ pC (@pA _ _ _ _ _ pC (@pA _ _ _ _ _ pC (@pA _ _ _ _ _ pC pB (by rfl)) (by rfl)) (by rfl)) (by rfl)) (by rfl))) (aj au ⇑hr U %[0,pF|0]) Ue) (by rfl) (by exact Or.inl U))
 (pD (pL (i:=5) nd U (.inl U) (aj dM ⇑hr U %[3|0])) h2')),?_⟩
   refine⟨Dp,λp hp=>?_⟩;obtain⟨s1,m1,pb,pg⟩:=A0.m.newL (o:=HO.lst (w5.map V.str)) hp;have ep:(upd H p (.lst (w5.map V.str))) p=some (.lst (w5.map V.str)):=pE;refine⟨_,U,b,k,5,U,m1.bx,∅,∅,∅,λr H2 r0 r1 mo bx=>?_⟩;obtain⟨j,rfl⟩:=Int.eq_ofNat_of_zero_le r0;have hj:j<w5.length:=by show j<5;omega
   obtain⟨s2,m2⟩:=m1.draw mo bx;refine⟨p,_,_,V.str w5[j],U,U,SqL.of ((mo p pb).trans ep),pH (by simp[hj]),?_⟩;refine⟨_,U,Γ,b,g,hd,rc,_,_,_,U,m2,λH3 mo3 m3=>?_⟩;exact r2 H3 (k+1) _ _ _ _ (List.getElem_mem hj) (s1.trans (s2.trans mo3.sm2')) m3 ∅
end
section
variable {P:Program} {w:World} {K:Fg} {mg:SOV} {base:Heap}
abbrev sE:Stmt:=top 54
abbrev nE:List Str:=["_law_box_here","_law_deep","_law_seen","_law_lore","_law_way"]
def scE:bv nE ps4 (am sE):=fsM
def Be (D:Def K mg "_law_e" sE) (au:Fn P w K mg base "_law_take" 1 ["_law_box_here","_law_many_here"] gZ) (bZ:Fn P w K mg base "_law_leaf" 2 ["_law_box_here","_law_seen"] (qG K)):Fn P w K mg base "_law_e" 3 ps4 (spE K 0):=by
 exists D.fn scE,bL
 · obtain⟨Γ,b,g,hd,rc,sd,k,nx,ca,L,W,rfl,_⟩:=h;rfl
 · obtain⟨Γ,b,g,hd,rc,sd,k,nx,ca,L,W,rfl,A0,h2,q⟩:=h;have nd:=scE.nd;have hc0:cst 0=10:=rfl;have hll:=A0.l;refine⟨_,(pD (pL (i:=4) nd U (.inl U) (aj au ⇑hr U %[0,pF|0]))
 (pD (az (PW.pt (dk (pM aB ↥1 pF (pN _)) (cP (pM aB ↥4 pF (pN _))))) (pG (ak (aj bZ ⇑hr U %[0,2|0]))) aq) p4)),?_⟩
   refine⟨_,U,b,k,14,U,A0.m.bx,∅,∅,∅,λr H1 r0 r1 mo bx=>?_⟩;obtain⟨s1,m1⟩:=A0.m.draw mo bx;refine⟨_,U,U,_,U,?_⟩;refine pJ U ?_;refine aL ?_;exact⟨_,U,_,U,Γ,b,g,hd,rc,sd,k+1,nx,ca,L,W,U,m1,A0.s.sm A0.m s1,∅,∅,λv d k' H' s' m' hk' tv x=>q v d k' nx ca H' (s1.trans s') m' ∅ tv (x 0)⟩
def Bc {n:Nat} (D:Def K mg "_law_e" sE) (T:Blt mg) (au:Fn P w K mg base "_law_take" 1 ["_law_box_here","_law_many_here"] gZ) (bZ:Fn P w K mg base "_law_leaf" 2 ["_law_box_here","_law_seen"] (qG K))
 (kG:Fn P w K mg base "_law_binder" (4*n+5) ps4 (spB K n)) (nz:Fn P w K mg base "_law_flow" (4*n+5) ps4 (spK K n)) (jc:Fn P w K mg base "_law_op" (4*n+5) ps4 (spK K n)) (ky:Fn P w K mg base "_law_record" (4*n+6) ps4 (spK K n)) (nB:Fn P w K mg base "_law_call" (4*n+5) ps4 (spK K n))
 (bA:Fn P w K mg base "_law_e" (4*n+3) ps4 (spE K n)) (FM0:Fn P w K mg base "_law_many" 4 nMn (jG K 0)):Fn P w K mg base "_law_e" (4*(n+1)+3) ps4 (spE K (n+1)):=by
 exists D.fn scE,bL
 · obtain⟨Γ,b,g,hd,rc,sd,k,nx,ca,L,W,rfl,_⟩:=h;rfl
 · obtain⟨Γ,b,g,hd,rc,sd,k,nx,ca,L,W,rfl,A0,h2,q⟩:=h;have nd:=scE.nd;have hu:=cD hr;have hz0:(100000:Nat)<sizeLine:=∅
   have hc:=fT n;have hc0:cst 0=10:=rfl;have hcs:cst (n+1)=8*cst n+60:=rfl;have hll:=A0.l;have Bs:Ask K H Γ b g hd rc sd k nx ca L W n:=A0.lo ∅;have hsub:(((n+1:Nat):Int)-1)=((n:Nat):Int):=∅
   have fin:∀ H1,Sm2 b g H H1->∀ v d k' nx' ca' H',Sm2 b g H1 H'->MS K H' Γ b g hd rc k' nx' ca'->k'<=k+1+((8*cst n+50:Nat):Int)->TD K H' v d->XE Γ L W (2*n+3) nx d nx'->Q v H':=λH1 s1 v d k' nx' ca' H' s m hk t x=>q v d k' nx' ca' H' (s1.trans s) m ∅ t x;obtain⟨t5,h5,r5⟩:∃ t,PSs (cy CX0 P w K mg base nE "_law_e" (am sE) f' cdv A outer s' H E).nox ((aM sE).drop 5) t /\
    ∀ (H1:Hp) (r:Int),Sm2 b g H H1->MS K H1 Γ b g hd rc (k+1) nx ca->t {nx:=λ_ H'=>Q .non H',rt:=Q} [some (.ref b),some (.int ((n+1:Nat):Int)),some (.ref sd),some (.ref g),some (.int r)] H1:=by
    refine⟨_,(pD (az (pM gA ↥4 pF (pN _)) (pG (ak (aj jc ⇑hr U %[0,aN cF ↥1 pF,2,3|0]))) aq)
 (pD (az (pM aB ↥4 pF (pN _)) (pG (ak (aj ky ⇑hr U %[0,aN cF ↥1 pF,2,3|0]))) aq)
 (pD (az (pM aB ↥4 pF (pN _)) (pG (ak (ax %[pC,aj bA ⇑hr U %[0,aN cF ↥1 pF,2,3|0],aj FM0 ⇑hr U %[0,pF,2,3,aj au ⇑hr U %[0,pF|0]|0]|0]))) aq)
 (pG (ak (aj nB ⇑hr U %[0,aN cF ↥1 pF,2,3|0])))))),λH1 r s1 m1=>?_⟩
    have A1:=Bs.go s1 m1;refine⟨_,U,_,_,U,U,_,U,?_⟩;refine cZ (λ_=>?_) (λ_=>?_)
    · exact⟨_,U,_,U,_,_,U,U,_,U,_,U,Γ,b,g,hd,rc,sd,k+1,nx,ca,L,W,by rw[hsub];rfl,A1,∅,fin H1 s1⟩
    refine⟨_,U,U,_,U,?_⟩;refine cZ (λ_=>?_) (λ_=>?_)
    · exact⟨_,U,_,U,_,_,U,U,_,U,_,U,Γ,b,g,hd,rc,sd,k+1,nx,ca,L,W,by rw[hsub];rfl,A1,∅,fin H1 s1⟩
    refine⟨_,U,U,_,U,?_⟩;refine cZ (λ_=>?_) (λ_=>?_)
    · refine⟨_,U,_,U,_,_,U,U,_,U,_,U,Γ,b,g,hd,rc,sd,k+1,nx,ca,L,W,by rw[hsub];rfl,A1,∅,λv5 d5 k5 nx5 ca5 H5 s5 m5 hk5 tv5 x5=>?_⟩;refine⟨_,U,_,U,_,U,_,U,b,k5,3,U,m5.bx,∅,∅,∅,λr' H6 r0 r1 mo bx=>?_⟩;obtain⟨j,rfl⟩:=Int.eq_ofNat_of_zero_le r0;obtain⟨s6,m6⟩:=m5.draw mo bx;have hmul:j*cst 0<=2*cst 0:=Nat.mul_le_mul_right _ ∅;refine⟨Γ,b,g,hd,rc,sd,k5+1,nx5,ca5,L,W,j,U,(Bs.lo (Nat.zero_le _)).go (s1.trans (s5.trans s6)) m6,∅,∅,λv ds k7 nx7 ca7 H7 s7 m7 hk7 tv hl xs=>?_⟩;refine⟨kH,λt ht=>?_⟩;have kt:=smu (o:=HO.tup [V.str "apply",v5,v]) ht;exact fin H1 s1 _ (.tuple [.str "apply",d5,.tuple ds]) k7 nx7 ca7 _ (s5.trans (s6.trans (s7.trans (Sm2.of kt)))) (m7.same kt) ∅ (.tup (SqT.of pE) (.cons (.str _) (.cons (((tv5.tk (s6.tk m5)).tk (s7.tk m6)).same kt) (.cons (tv.same kt) .nil)))) ((nD x5 (xs.more ∅) ∅).more ∅)
    · exact⟨_,U,_,U,_,_,U,U,_,U,_,U,Γ,b,g,hd,rc,sd,k+1,nx,ca,L,W,by rw[hsub];rfl,A1,∅,fin H1 s1⟩
   refine⟨_,(pD (pL (i:=4) nd U (.inl U) (aj au ⇑hr U %[0,pF|0]))
 (pD (az (PW.pt (dk (pM aB ↥1 pF (pN _)) (cP (pM aB ↥4 pF (pN _))))) (pG (ak (aj bZ ⇑hr U %[0,2|0]))) aq)
 (pD (az (pM gA ↥4 pF (pN _)) (pG (ak (aj kG ⇑hr U %[0,aN cF ↥1 pF,2,3|0]))) aq)
 (pD (az (pM gA ↥4 pF (pN _)) (pG (ak (aj nz ⇑hr U %[0,aN cF ↥1 pF,2,3|0]))) aq)
 (pD (az (PW.pt (cM (pM aB ↥4 pF (pN _)) (bW (pM (xO hu) ↥↥2 (bE pB) (pN _))))) (pG (ak (ax %[pC,ac aw ↥↥2 (aj au ⇑hr U %[0,cq T.len %[↥↥2|0]|0]) Ue,aj bA ⇑hr U %[0,aN cF ↥1 pF,2,3|0]|0]))) aq) h5))))),?_⟩
   refine⟨_,U,b,k,14,U,A0.m.bx,∅,∅,∅,λr H1 r0 r1 mo bx=>?_⟩;obtain⟨s1,m1⟩:=A0.m.draw mo bx;have A1:=Bs.go s1 m1;refine⟨_,U,U,_,U,?_⟩;refine pI (by simp;omega) ?_;refine⟨_,U,U,_,U,?_⟩;refine cZ (λ_=>?_) (λ_=>?_)
   · exact⟨_,U,_,U,Γ,b,g,hd,rc,sd,k+1,nx,ca,L,W,U,m1,A0.s.sm A0.m s1,∅,∅,λv d k' H' s' m' hk' tv x=>q v d k' nx ca H' (s1.trans s') m' ∅ tv (x _)⟩
   refine⟨_,U,_,_,U,U,_,U,?_⟩;refine cZ (λ_=>?_) (λ_=>?_)
   · exact⟨_,U,_,U,_,_,U,U,_,U,_,U,Γ,b,g,hd,rc,sd,k+1,nx,ca,L,W,by rw[hsub];rfl,A0.go s1 m1,∅,fin H1 s1⟩
   refine⟨_,U,_,_,U,U,_,U,?_⟩;refine cZ (λ_=>?_) (λ_=>?_)
   · exact⟨_,U,_,U,_,_,U,U,_,U,_,U,Γ,b,g,hd,rc,sd,k+1,nx,ca,L,W,by rw[hsub];rfl,A1,∅,fin H1 s1⟩
   refine⟨_,U,U,_,U,?_⟩;refine cZ (λ_=>?_) (λ_=>r5 H1 r s1 m1);obtain⟨la,va,z1,z2,z3,n1,n2,n3,n4⟩:=A1.s.ex;refine⟨_,U,sd,_,_,_,U,U,z1,kr,mh,λp hp=>?_⟩;have k2:=smu (o:=HO.lst []) hp;obtain⟨s2,m2,pb,pg⟩:=m1.newL (o:=HO.lst []) hp;refine⟨va,p,_,U,U,SqL.of (k2 _ _ z3),SqL.of pE,_,U,?_⟩;have z1':=z1.tk k2.tk;have z3':=k2 _ _ z3;generalize upd H1 p (.lst [])=H2 at s2 m2 z1' z3' ⊢;have S2:=s1.trans s2;by_cases hW:W=[]
   · exact pI (by rw[hW];decide) (r5 H2 r S2 m2)
   refine pJ (by simpa using hW) ?_;have hpos:0<W.length:=List.length_pos_iff.mpr hW;refine⟨_,U,sd,_,_,_,U,U,z1',kr,_,U,_,U,sd,_,_,_,U,U,z1',kr,va,_,U,.inl (SqL.of z3'),b,k+1,_,U,m2.bx,∅,by rw[lMp];omega,by rw[lMp];omega,λr' H3 r0' r1' mo' bx'=>?_⟩;rw[lMp] at r1';obtain⟨j,rfl⟩:=Int.eq_ofNat_of_zero_le r0';have hj:j<W.length:=∅
   obtain⟨s3,m3⟩:=m2.draw mo' bx';have S3:=S2.trans s3;refine⟨va,_,_,V.int W[j],U,U,SqL.of ((mo' va n2).trans z3'),pH (by simp[hj]),?_⟩;refine⟨_,U,_,U,_,_,U,U,_,U,_,U,Γ,b,g,hd,rc,sd,k+1+1,nx,ca,L,W,by rw[hsub];rfl,Bs.go S3 m3,∅,λv5 d5 k5 nx5 ca5 H5 s5 m5 hk5 tv5 x5=>?_⟩;refine⟨kH,λt ht=>?_⟩;have kt:=smu (o:=HO.tup [V.str "set",V.int W[j],v5]) ht;exact fin H1 s1 _ (.tuple [.str "set",.int W[j],d5]) k5 nx5 ca5 _ (s2.trans (s3.trans (s5.trans (Sm2.of kt)))) (m5.same kt) ∅ (.tup (SqT.of pE) (.cons (.str _) (.cons (.int _) (.cons (tv5.same kt) .nil)))) ((zn (List.getElem_mem hj) x5).more ∅)
def ok_es (T:Blt mg) (De:Def K mg "_law_e" sE) (Dm:Def K mg "_law_many" sMn) (Db:Def K mg "_law_binder" sBd) (Do:Def K mg "_law_op" sOp) (Dr:Def K mg "_law_record" sRc) (Dc:Def K mg "_law_call" sCl) (Df:Def K mg "_law_flow" sFw)
 (au:Fn P w K mg base "_law_take" 1 ["_law_box_here","_law_many_here"] gZ) (bZ:Fn P w K mg base "_law_leaf" 2 ["_law_box_here","_law_seen"] (qG K)) (dM:Fn P w K mg base "_law_fresh" 1 ["_law_lore"] (xt K)) :
 ∀ n,Fn P w K mg base "_law_e" (4*n+3) ps4 (spE K n):=by
 have E0:=Be (P:=P) (w:=w) (base:=base) De au bZ;have M0:=vS (n:=0) Dm T E0;intro n
 induction n with
 | zero=>exact E0
 | succ n ih =>
  have M:=vS Dm T ih;have O:=nZ Do T au M;exact Bc De T au bZ (Bm Db T au dM ih M0 M) (B7 Df T au E0 ih M) O (AT Dr T au ih M O) (Bg Dc T au bZ ih M0 M) ih M0
end
end Q19
namespace L2
open PySem PySem.Spec PyProof.Rows
inductive wU (xs:List V) (H:Hp) (Q:VK):Prop
  | mk (k:Nat) (h:xs=[.int ((k:Nat):Int)]) (hk:k<=1000) (q:∀ t,H t=none->Q (.ref t) (upd H t (.lst ((List.range k).map λj=>V.int (0+((j:Nat):Int)))))):wU xs H Q
def zh {X:Cx} {p1 p2 pos1 pos2:Pos} {a:Expr} {ta:TA} (hm:X.mg "list"=none) (hm2:X.mg "range"=none) (ha:PA X [a] ta) (hc:X.calm=true:=by rfl) (hg:Gl X "list":=by rfl) (hg2:Gl X "range":=by rfl)
 (s1:starEach [.Call (.Name "range" p2) [a] [] pos2] X.env=(false,eval (.Call (.Name "range" p2) [a] [] pos2) X.env)::starEach [] X.env:=by rfl) (hs:starEach [a] X.env=[(false,eval a X.env)]:=by rfl) (hs0:starEach [] X.env=[]:=by rfl)
 (s3:(backTo pos1 (starEach [] X.env)).any (·.1)=false:=by rfl) (s5:backTo pos1 (starEach [] X.env)=[]:=by rfl) :
 PE X (.Call (.Name "list" p1) [.Call (.Name "range" p2) [a] [] pos2] [] pos1) (tCB wU ta):=by
 intro pins s σ H Q I h;have hh:X.A.handled=none:=I.ok.hd hc;refine wpAny_Call_Name_kw (dW I hg hm j8 (PyProof.Rows.callWith_type1 ?_ s1 s3));rw[s1];show wpAny _ _ (spliced ((false,eval (.Call (.Name "range" p2) [a] [] pos2) X.env)::backTo pos1 (starEach [] X.env))) _ _ s;rw[s5];refine Calls.spliced_cons (wpAny_Call_Name_kw (dW I hg2 hm2 boot_range (PyProof.Rows.callWith_type1 (thn (ha pos2 pins s σ H _ I h) λus s1 z=>?_) (by rw[hs,hs0]) (by rw[hs0];rfl))));obtain⟨vs,H1,I1,r1,k,rfl,hk,q⟩:=z;cases r1 with
 | cons r rr =>
  cases rr;obtain⟨t,rfl⟩:=r;refine call_range_1 (Calls.spliced_nil (call_list_range hh (IsRange.new ..) (small_one ∅ ∅ ∅ ∅) (n:=k) (by rw[rangeSize_one];split <;> omega) ∅ λh' tk acc c' k1 k0 k2=>?_));have I3:Inv X pins σ H1 {s1 with heap:=s1.heap.push {cls:=.type "range",data:=.fields #[.int 0 s1.toks,.int ((k:Nat):Int) t,.int 1 (s1.toks+1)]},toks:=s1.toks+1+1}:=I1.kept (t':=s1.toks+1+1) λb o z=>hpS _ z;refine⟨.ref _,_,I3.laid (t':=tk) (o:=.lst ((List.range k).map λj=>V.int (0+((j:Nat):Int)))) (λb o e=>k1 b o e) (Nat.le_refl _) ⟨?_,acc.toList,c',kO k2,?_⟩,U,q _ (I3.hok.fresh (Nat.le_refl _))⟩
  · rw[lMp,List.length_range,sizeLine_eq];omega
  · rw[Array.toArray_toList];exact k0
end L2
namespace Q19
open PySem L2 P10
open K19 hiding be St
def fnD (h:Str) (c:Nat) (d:PyData):PyData:=.tuple [.str h,.int ((c:Nat):Int),d]
def FOk (hs:List (Str×Nat)) (rs:List Nat) (j:Nat) (f:PyData):Prop:=∃ h c d c',hs[j]?=some (h,c)/\f=fnD h c d/\XE ⟨hs,j,rs⟩ (rgI 0 c) [] 9 ((c:Nat):Int) d c'
def hw3:List Str:=["open","function","deep"]
structure qi (hs:List (Str×Nat)):Prop where
  a:∀ p∈hs,p.2<=2/\p.1∈hw3
  z:∀ (h:Str) (c:Nat),hs[0]?=some (h,c)->h="open"
def mnS (k:Nat):Str:=("main":Str)++(⟨#[97+k]⟩:Str)
def OsOk (os:List (Str×Nat)) (n:Nat):Prop:=∀ p∈os,∃ k,k<n/\p=(mnS k,k)
structure CoOk (hs:List (Str×Nat)) (rs:List Nat) (fs:PDs) (os:List (Str×Nat)):Prop where
  hl:hs.length<=4
  hp:0<hs.length
  hh:qi hs
  rl:rs.length<=3
  rr:∀ r∈rs,1<=r/\r<=3
  fl:fs.length=hs.length
  fo:∀ j f,fs[j]?=some f->FOk hs rs j f
  ol:os.length<=hs.length
  oo:OsOk os hs.length
def coreD (fs:PDs) (rs:List Nat) (os:List (Str×Nat)):PyData:=.tuple [.tuple fs,dN rs,.tuple (os.map dH)]
structure C1 (H Hi:Hp) (b:Addr) (k:Int):Prop where
  sm:aI H Hi
  bx:fZ Hi b k
  b0:H b=none
section
variable {P:Program} {w:World} {K:Fg} {mg:SOV} {base:Heap}
def C1.bl {H Hi:Hp} {b:Addr} {k:Int} (c:C1 H Hi b k):∃ ys,Hi b=some (.lst ys):=by obtain⟨n,x,h,_⟩:=c.bx;exact⟨_,h⟩
def C1.took {H Hi H':Hp} {b:Addr} {k:Int} (c:C1 H Hi b k) (mo:Mo Hi b H') (bx:fZ H' b (k+1)):C1 H H' b (k+1) :=
 ⟨λa u h=>(mo a (ao h c.b0)).trans (c.sm a u h),bx,c.b0⟩
def C1.same {H Hi H':Hp} {b:Addr} {k:Int} (c:C1 H Hi b k) (s:aI Hi H'):C1 H H' b k:=by
 obtain⟨n,x,h,h0⟩:=c.bx;exact⟨c.sm.trans s,⟨n,x,s _ _ h,h0⟩,c.b0⟩
def C1.tk {H Hi H':Hp} {b:Addr} {k:Int} (c:C1 H Hi b k) (mo:Mo Hi b H'):Tk Hi H':=λa xs h=>by
 obtain⟨ys,hb⟩:=c.bl;have n1:a≠b:=λe=>by
  rw[e] at h
  rcases h with h | ⟨_,h⟩ <;> rw[hb] at h <;> cases h
 rcases h with h | ⟨o,h⟩
 · exact .inl ((mo _ n1).trans h)
 · exact .inr ⟨o,(mo _ n1).trans h⟩
def Sm2.same {H H1 H2:Hp} {b g:Addr} (s:Sm2 b g H1 H2) (k:aI H H1) (hb:H b=none) (hg:H g=none):aI H H2:=λa u h=>s a u (ao h hb) (ao h hg) (k a u h)
structure CS (K:Fg) (H Hi:Hp) (hd fa oa rc:Addr) (hs:List (Str×Nat)) (rs:List Nat) (i j:Nat):Prop where
  sm:aI H Hi
  hv:∃ xs,Hi hd=some (.lst xs)/\TDs K Hi xs (hs.map dH)
  rv:TD K Hi (.ref rc) (dN rs)
  fv:∃ ys fs,Hi fa=some (.lst ys)/\TDs K Hi ys fs/\fs.length=i/\∀ j f,fs[j]?=some f->FOk hs rs j f
  ov:∃ zs os,Hi oa=some (.lst zs)/\TDs K Hi zs (os.map dH)/\os.length<=j/\OsOk os j
def CS.same {H Hi H':Hp} {hd fa oa rc:Addr} {hs:List (Str×Nat)} {rs:List Nat} {i j:Nat} (c:CS K H Hi hd fa oa rc hs rs i j) (s:aI Hi H'):CS K H H' hd fa oa rc hs rs i j:=by
 obtain⟨xs,h1,h2⟩:=c.hv;obtain⟨ys,fs,h3,h4,h5,h6⟩:=c.fv;obtain⟨zs,os,h7,h8,h9,h10⟩:=c.ov;exact⟨c.sm.trans s,⟨xs,s _ _ h1,h2.same s⟩,c.rv.same s,⟨ys,fs,s _ _ h3,h4.same s,h5,h6⟩,⟨zs,os,s _ _ h7,h8.same s,h9,h10⟩⟩
def CS.head {H Hi:Hp} {hd fa oa rc:Addr} {hs:List (Str×Nat)} {rs:List Nat} {i j:Nat} (m:CS K H Hi hd fa oa rc hs rs i j):∃ xs,SqL K Hi hd xs/\xs.length=hs.length/\∀ (f:Nat) (h:Str) (c:Nat),hs[f]?=some (h,c)->∃ t,atI xs ((f:Nat):Int)=some (.ref t)/\SqT K Hi t [.str h,.int ((c:Nat):Int)]:=by
 obtain⟨xs,h1,h2⟩:=m.hv;refine⟨xs,SqL.of h1,by rw[h2.length,lMp],λf h c hf=>?_⟩;obtain⟨x,hx,tx⟩:=h2.at (i:=f) (d:=dH (h,c)) (by rw[gEM,hf];rfl);obtain⟨a,ys,rfl,ha,hy⟩:=(show TD K Hi x (.tuple [.str h,.int ((c:Nat):Int)]) from tx).tup_of;refine⟨a,pH hx,?_⟩;cases hy with
 | cons p r =>
  cases r with
  | cons p2 r2 =>
   cases r2;rw[p.str_of,p2.int_of] at ha;exact ha
def jF {H Hi:Hp} {L:Addr} {o:HO} (s:aI H Hi) (h:H L=none):aI H (upd Hi L o):=λa u e=>by
 rw[af (ao e h)];exact s a u e
def CS.app {H Hi:Hp} {hd fa oa rc:Addr} {hs:List (Str×Nat)} {rs:List Nat} {i j:Nat} {v:V} {f:PyData} {ys:List V} (c:CS K H Hi hd fa oa rc hs rs i j) (tv:TD K Hi v f) (hf:FOk hs rs i f) (hy:Hi fa=some (.lst ys)) (h0:H fa=none) (n1:hd≠fa) (n2:oa≠fa):CS K H (upd Hi fa (.lst (ys++[v]))) hd fa oa rc hs rs (i+1) j:=by
 obtain⟨xs,h1,h2⟩:=c.hv;obtain⟨ys',fs,h3,h4,h5,h6⟩:=c.fv;obtain⟨zs,os,h7,h8,h9,h10⟩:=c.ov;rw[hy] at h3;cases h3;have tk:Tk Hi (upd Hi fa (.lst (ys++[v]))):=gX (.inr ⟨_,hy⟩);refine⟨jF c.sm h0,⟨xs,by rw[af n1];exact h1,h2.tk tk⟩,c.rv.tk tk,⟨_,fs++[f],pE,(h4.snoc tv).tk tk,by simp[h5],λk g hg=>?_⟩,⟨zs,os,by rw[af n2];exact h7,h8.tk tk,h9,h10⟩⟩
 rcases Nat.lt_or_ge k fs.length with hk | hk
 · rw[List.getElem?_append_left hk] at hg;exact h6 k g hg
 · rw[List.getElem?_append_right hk] at hg;have e0:k-fs.length=0:=by
    rcases Nat.eq_zero_or_pos (k-fs.length) with e | e
    · exact e
    · rw[List.getElem?_eq_none (show [f].length<=_ from e)] at hg;cases hg
   rw[e0] at hg;cases hg;have:k=i:=∅
   rw[this];exact hf
def CS.opn {H Hi:Hp} {hd fa oa rc:Addr} {hs:List (Str×Nat)} {rs:List Nat} {i j:Nat} {v:V} {zs:List V} (c:CS K H Hi hd fa oa rc hs rs i j) (tv:TD K Hi v (dH (mnS j,j))) (hz:Hi oa=some (.lst zs)) (h0:H oa=none) (n1:hd≠oa) (n2:fa≠oa):CS K H (upd Hi oa (.lst (zs++[v]))) hd fa oa rc hs rs i (j+1):=by
 obtain⟨xs,h1,h2⟩:=c.hv;obtain⟨ys,fs,h3,h4,h5,h6⟩:=c.fv;obtain⟨zs',os,h7,h8,h9,h10⟩:=c.ov;rw[hz] at h7;cases h7;have tk:Tk Hi (upd Hi oa (.lst (zs++[v]))):=gX (.inr ⟨_,hz⟩);refine⟨jF c.sm h0,⟨xs,by rw[af n1];exact h1,h2.tk tk⟩,c.rv.tk tk,⟨ys,fs,by rw[af n2];exact h3,h4.tk tk,h5,h6⟩,⟨_,os++[(mnS j,j)],pE,by rw[List.map_append];exact (h8.snoc tv).tk tk,by simp;omega,λp hp=>?_⟩⟩
 rcases mAp.mp hp with hp | hp
 · obtain⟨k,hk,e⟩:=h10 p hp;exact⟨k,∅,e⟩
 · exact⟨j,∅,mSg.mp hp⟩
def CS.weak {H Hi:Hp} {hd fa oa rc:Addr} {hs:List (Str×Nat)} {rs:List Nat} {i j:Nat} (c:CS K H Hi hd fa oa rc hs rs i j):CS K H Hi hd fa oa rc hs rs i (j+1):=by
 obtain⟨zs,os,h7,h8,h9,h10⟩:=c.ov;exact⟨c.sm,c.hv,c.rv,c.fv,⟨zs,os,h7,h8,∅,λp hp=>by obtain⟨k,hk,e⟩:=h10 p hp;exact⟨k,∅,e⟩⟩⟩
inductive wN (K:Fg) (vs:List V) (H:Hp) (Q:VK):Prop
  | mk (a:Addr) (ns:List Int) (h0:vs=[.ref a]) (h1:SqL K H a (ns.map V.int)) (h2:ns.length<=63)
    (q:∀ v hs rs fs os H',aI H H'->TD K H' v (coreD fs rs os)->CoOk hs rs fs os->Q v H'):wN K vs H Q
def spCo (K:Fg):Sp:=λvs H Q _=>wN K vs H Q
abbrev sCo:Stmt:=top 55
abbrev nCo:List Str:=["_law_script","_law_box_here","_law_heads","_law_k","_law_records","_law_functions","_law_opens","_law_lore","_law_body"]
def Af:bv nCo ["_law_script"] (am sCo):=fsM
def CF:(["_law_k","_law_box_here"]:List Str).Nodup:=by left
def w4:List Str:=["function","function","deep","open"]
def abc {j:Nat} (h:j<5):atI ("abcde":Str).cps.toList ((j:Nat):Int)=some (97+j):=by
 refine pH ?_
 match j,h with
 | 0,_=>left
 | 1,_=>left
 | 2,_=>left
 | 3,_=>left
 | 4,_=>left
def uu (c:Nat):((List.range c).map λj=>V.int (0+((j:Nat):Int)))=(rgI 0 c).map V.int:=by
 unfold rgI;rw[List.map_map];rfl
def ok_co (D:Def K mg "_law_core" sCo) (T:Blt mg) (au:Fn P w K mg base "_law_take" 1 ["_law_box_here","_law_many_here"] gZ) (fU:Fn P w K mg base "_law_box" 1 ["_law_script","_law_k"] (xu K)) (bA:Fn P w K mg base "_law_e" 19 ps4 (spE K 4)):Fn P w K mg base "_law_core" 20 ["_law_script"] (spCo K):=by
 exists D.fn Af,fD,_
 · obtain⟨a,ns,rfl,_⟩:=h;rfl
 · obtain⟨a,ns,rfl,hA,hns,q⟩:=h;have nd:=Af.nd;have hu:=cD hr;have hz0:(100000:Nat)<sizeLine:=∅
   obtain⟨t7,h7,r7⟩:∃ t,PSs (cy CX0 P w K mg base nCo "_law_core" (am sCo) f' cdv A outer s' H E).nox ((aM sCo).drop 7) t /\
    ∀ (H1:Hp) (hd fa oa rc:Addr) (hs:List (Str×Nat)) (rs:List Nat) (x1 x2 x3 x7 x8:Option V),CS K H H1 hd fa oa rc hs rs hs.length hs.length->hs.length<=4->0<hs.length->qi hs->rs.length<=3->(∀ r∈rs,1<=r/\r<=3)->t {nx:=λ_ H'=>Q .non H',rt:=Q} [some (.ref a),x1,x2,x3,some (.ref rc),some (.ref fa),some (.ref oa),x7,x8] H1:=by
    refine⟨_,(pG (ak (ax %[dA T.tuple %[5|0],4,dA T.tuple %[6|0]|0]))),λH1 hd fa oa rc hs rs x1 x2 x3 x7 x8 c hl hp hh rl rr=>?_⟩;obtain⟨ys,fs,h3,h4,h5,h6⟩:=c.fv;obtain⟨zs,os,e7,h8,h9,h10⟩:=c.ov;have ly:=h4.length;have lz:=h8.length;rw[lMp] at lz;dsimp only[be];refine⟨_,U,fa,_,U,.inl ⟨SqL.of h3,λp1 hp1=>?_⟩⟩;have k1:=smu (o:=HO.tup ys) hp1;refine⟨_,U,_,U,oa,_,U,.inl ⟨SqL.of (k1 _ _ e7),λp2 hp2=>?_⟩⟩;have k2:=smu (o:=HO.tup zs) hp2;refine⟨kH,λt ht=>?_⟩;have k3:=smu (o:=HO.tup [V.ref p1,V.ref rc,V.ref p2]) ht;have kk:=(k1.trans k2).trans k3;exact q _ hs rs fs os _ (c.sm.trans kk) (.tup (SqT.of pE) (.cons ((TD.tup (SqT.of pE) (h4.same k1)).same (k2.trans k3)) (.cons (c.rv.same kk) (.cons ((TD.tup (SqT.of pE) (h8.same (k1.trans k2))).same k3) .nil)))) ⟨hl,hp,hh,rl,rr,h5,h6,h9,h10⟩
   obtain⟨t6,h6,r6⟩:∃ t,PSs (cy CX0 P w K mg base nCo "_law_core" (am sCo) f' cdv A outer s' H E).nox ((aM sCo).drop 6) t /\
    ∀ (H1:Hp) (hd fa oa rc:Addr) (hs:List (Str×Nat)) (rs:List Nat) (x1 x3 x7 x8:Option V),CS K H H1 hd fa oa rc hs rs 0 0->H fa=none->H oa=none->hd≠fa->hd≠oa->fa≠oa->hs.length<=4->0<hs.length->qi hs->rs.length<=3->(∀ r∈rs,1<=r/\r<=3)->t {nx:=λ_ H'=>Q .non H',rt:=Q} [some (.ref a),x1,some (.ref hd),x3,some (.ref rc),some (.ref fa),some (.ref oa),x7,x8] H1:=by
    refine⟨_,(pD (cR PassesOwn.never U (bO U T.range %[cq T.len %[2|0]|0]) (aC (i:=3) nd U (.inl U))
 (@pD _ _ _ _ _ (@pL _ _ 7 _ _ _ _ nd U (.inl U) (@jR _ _ _ _ _ (@cg _ _ _ _ _ _ _ _ _ pC (ac ag (ac aw ↥2 ↥3 Ue) pF Ue) (@cg _ _ _ _ _ _ _ _ _ pC ↥2 (@cg _ _ _ _ _ _ _ _ _ pC ↥3 (@cg _ _ _ _ _ _ _ _ _ pC ↥4 (@cg _ _ _ _ _ _ _ _ _ pC pF jP))))) U U (by simp) ∅) (by rfl) (by exact Or.inl U))
 (pD (pL (i:=8) nd U (.inl U) (aj bA ⇑hr U %[aj fU ⇑hr U %[0,aN cG pF ↥3|0],pF,ax %[zh T.list T.range %[ac ag (ac aw ↥2 ↥3 Ue) pF Ue|0],bE pB|0],7|0]))
 (pD (aH (cT ↥5 %[ax %[ac ag (ac aw ↥2 ↥3 Ue) pF Ue,ac ag (ac aw ↥2 ↥3 Ue) pF Ue,8|0]|0]))
 (pG (az (pM aB (ac ag (ac aw ↥2 ↥3 Ue) pF Ue) pC (pN _)) (pG (aH (cT ↥6 %[ax %[aN mG pC (ac yp pC ↥3 Ue),3|0]|0]))) aq)))))) h7),λH1 hd fa oa rc hs rs x1 x3 x7 x8 c f0 o0 n1 n2 n3 hl hp hh rl rr=>?_⟩
    obtain⟨xs,hxs,xl,hat⟩:=c.head;dsimp only[be];refine⟨_,U,hd,_,U,.inl hxs,_,U,∅,∅,?_⟩;show aO _ _ _ _ _ _;rw[show ((xs.length:Nat):Int).toNat=xs.length from Int.toNat_natCast _];refine aO.by (bu (n:=xs.length)) (λi σ Hi=>CS K H Hi hd fa oa rc hs rs i i/\∃ x3 x7 x8,σ=[some (.ref a),x1,some (.ref hd),x3,some (.ref rc),some (.ref fa),some (.ref oa),x7,x8]) ⟨c,_,_,_,U⟩ (λ_ _ _ _ _=>trivial) ?_ ?_
    · rintro i u σ Hi hui ⟨ci,x3,x7,x8,rfl⟩;have hi:i<xs.length:=by have:=(gES.mp hui).1;rwa [bh] at this
      obtain rfl:=jM hui;obtain⟨⟨h,cn⟩,hf⟩:∃ p,hs[i]?=some p:=⟨_,gEE ∅⟩;have hcn:=hh.a _ (mGE hf);have cn2:cn<=2:=hcn.1;refine λg hg=>?_;have kg:=smu (o:=HO.dK []) hg;obtain⟨ys,hys,yl,hat⟩:=(ci.same kg).head;obtain⟨t,ht1,ht2⟩:=hat i h cn hf;refine⟨_,U,_,U,hd,_,_,_,U,U,hys,ht1,t,_,_,_,U,U,ht2,kr,_,U,_,U,_,U,pE,eU ((cn:Nat):Int) hd i rc 0,U,by show 5<=15;decide,?_⟩;have em:cC [] (eU ((cn:Nat):Int) hd i rc 0)=eU ((cn:Nat):Int) hd i rc 0:=rfl;rw[em];have sg:aI Hi (upd (upd Hi g (.dK [])) g (.dK (eU ((cn:Nat):Int) hd i rc 0))):=λb o e=>by rw[af (ao e hg)];exact kg _ _ e
      have eg:(upd (upd Hi g (.dK [])) g (.dK (eU ((cn:Nat):Int) hd i rc 0))) g=some (.dK (eU ((cn:Nat):Int) hd i rc 0)):=pE;generalize upd (upd Hi g (.dK [])) g (.dK (eU ((cn:Nat):Int) hd i rc 0))=H2 at sg eg ⊢;have c2:=ci.same sg;refine⟨_,U,_,U,_,_,U,U,a,ns,_,U,(hA.same c2.sm),hns,∅,∅,λb H3 k3 hb bx=>?_⟩;have c3:=c2.same k3;obtain⟨ys3,hys3,yl3,hat3⟩:=c3.head;obtain⟨t3,ht31,ht32⟩:=hat3 i h cn hf;refine⟨_,U,_,U,hd,_,_,_,U,U,hys3,ht31,t3,_,_,_,U,U,ht32,kr,cn,U,∅,λl1 hl1=>?_⟩;rw[uu];have k4:=smu (o:=HO.lst ((rgI 0 cn).map V.int)) hl1;refine⟨mh,λl2 hl2=>?_⟩;have k5:=smu (o:=HO.lst []) hl2;refine⟨dB,λsd hsd=>?_⟩;have k6:=smu (o:=HO.tup [V.ref l1,V.ref l2]) hsd;have kk:=(k4.trans k5).trans k6;have c6:=c3.same kk;have bg:b≠g:=Ne.symm (ao eg hb);have eg6:=kk _ _ (k3 _ _ eg);obtain⟨bn,bc,hbx,bk⟩:=bx;have hb6:=kk _ _ hbx;obtain⟨xs6,h61,h62⟩:=c6.hv;obtain⟨xs2,h21,_⟩:=c2.hv;have hdb:hd≠b:=ao h21 hb;have hg3:=k3 _ _ eg;have m6:MS K _ ⟨hs,i,rs⟩ b g hd rc 0 ((cn:Nat):Int) 0:=⟨⟨bn,bc,hb6,bk⟩,eg6,⟨xs6,h61,h62⟩,hdb,c6.rv⟩;have sv:ja K _ b g sd (rgI 0 cn) []:=⟨l1,l2,SqT.of (pE (o:=HO.tup [V.ref l1,V.ref l2])),k6 _ _ (k5 _ _ pE),k6 _ _ pE,Ne.symm (ao hbx hl1),Ne.symm (ao (k4 _ _ hbx) hl2),Ne.symm (ao hg3 hl1),Ne.symm (ao (k4 _ _ hg3) hl2)⟩;have sm6:aI Hi _:=(sg.trans k3).trans kk;generalize upd (upd (upd H3 l1 (.lst ((rgI 0 cn).map V.int))) l2 (.lst [])) sd (.tup [V.ref l1,V.ref l2])=H6 at c6 m6 sv sm6 ⊢;have hbi:Hi b=none:=by
       cases e:Hi b with
       | none=>rfl
       | some u=>have:=sg _ _ e;rw[hb] at this;cases this
      refine⟨_,U,⟨hs,i,rs⟩,b,g,hd,rc,sd,0,((cn:Nat):Int),0,rgI 0 cn,[],U,⟨m6,sv,⟨λp hp=>(hh.a p hp).1,by show hs.length<=10;omega,by show i<hs.length;omega,rl,rr⟩,by rw[fK];show cn+0+3*4<=100;omega⟩,∅,λv d k7 nx7 ca7 H7 s7 m7 hk7 tv x7=>?_⟩;have sm7:aI Hi H7:=s7.same sm6 hbi hg;have c7:=ci.same sm7;obtain⟨ys7,hys7,yl7,hat7⟩:=c7.head;obtain⟨t7,ht71,ht72⟩:=hat7 i h cn hf;obtain⟨zf,fs7,hfa7,tzf,fl7,_⟩:=c7.fv;have zfl:=tzf.length;refine⟨_,U,.inl ⟨U,_,SqL.of hfa7⟩,_,U,_,U,hd,_,_,_,U,U,hys7,ht71,t7,_,_,_,U,U,ht72,lS,_,U,_,U,hd,_,_,_,U,U,hys7,ht71,t7,_,_,_,U,U,ht72,kr,_,U,kH,λp8 hp8=>?_⟩;have k8:=smu (o:=HO.tup [V.str h,V.int ((cn:Nat):Int),v]) hp8;have c8:=c7.same k8;have hfa8:=k8 _ _ hfa7;have tf:TD K (upd H7 p8 (.tup [V.str h,V.int ((cn:Nat):Int),v])) (.ref p8) (fnD h cn d):=.tup (SqT.of pE) (.cons (.str _) (.cons (.int _) (.cons (tv.same k8) .nil)));generalize upd H7 p8 (.tup [V.str h,V.int ((cn:Nat):Int),v])=H8 at c8 hfa8 tf ⊢;refine⟨fa,_,_,U,U,hfa8,∅,?_⟩;have c9:=c8.app tf ⟨h,cn,d,nx7,hf,U,x7⟩ hfa8 f0 n1 (Ne.symm n3);generalize upd H8 fa (.lst (zf++[V.ref p8]))=H9 at c9 ⊢;obtain⟨ys9,hys9,yl9,hat9⟩:=c9.head;obtain⟨t9,ht91,ht92⟩:=hat9 i h cn hf;refine⟨_,U,_,U,hd,_,_,_,U,U,hys9,ht91,t9,_,_,_,U,U,ht92,lS,U,_,U,?_⟩;refine cZ (λ_=>?_) (λ_=>⟨c9.weak,_,_,_,U⟩);obtain⟨zo,os9,hoa9,tzo,ol9,_⟩:=c9.ov;have zol:=tzo.length;rw[lMp] at zol;refine⟨_,U,.inl ⟨U,_,SqL.of hoa9⟩,_,U,_,_,_,U,U,∅,abc ∅,_,_,U,U,by show 4+1<=sizeLine;decide,_,U,dB,λp10 hp10=>?_⟩;have k10:=smu (o:=HO.tup [V.str (mnS i),V.int ((i:Nat):Int)]) hp10;have c10:=c9.same k10;exact⟨oa,_,_,U,U,k10 _ _ hoa9,∅,c10.opn (.tup (SqT.of pE) (.cons (.str _) (.cons (.int _) .nil))) (k10 _ _ hoa9) o0 n2 n3,_,_,_,U⟩
    · rintro σ Hi ⟨ci,x3,x7,x8,rfl⟩;rw[bh,xl] at ci;exact r7 Hi hd fa oa rc hs rs _ _ _ _ _ ci hl hp hh rl rr
   obtain⟨t4,h4,r4⟩:∃ t,PSs (cy CX0 P w K mg base nCo "_law_core" (am sCo) f' cdv A outer s' H E).nox ((aM sCo).drop 4) t /\
    ∀ (H1:Hp) (hd rc:Addr) (xs:List V) (hs:List (Str×Nat)) (rs:List Nat) (x1 x3 x5 x6 x7 x8:Option V),aI H H1->H1 hd=some (.lst xs)->TDs K H1 xs (hs.map dH)->TD K H1 (.ref rc) (dN rs)->hs.length<=4->0<hs.length->qi hs->rs.length<=3->(∀ r∈rs,1<=r/\r<=3)->t {nx:=λ_ H'=>Q .non H',rt:=Q} [some (.ref a),x1,some (.ref hd),x3,some (.ref rc),x5,x6,x7,x8] H1:=by
    refine⟨_,(pD (pL (i:=5) nd U (.inl U) (bE pB)) (pD (pL (i:=6) nd U (.inl U) (bE pB)) h6)),λH1 hd rc xs hs rs x1 x3 x5 x6 x7 x8 s1 hhd txs trc hl hp hh rl rr=>?_⟩;refine⟨mh,λfa hfa=>⟨mh,λoa hoa=>?_⟩⟩;have k1:=smu (o:=HO.lst []) hfa;have k2:=smu (o:=HO.lst []) hoa;have kk:=k1.trans k2;have fn:∀ p,H1 p=none->H p=none:=λp e=>by
     cases e2:H p with
     | none=>rfl
     | some u=>have:=s1 _ _ e2;rw[e] at this;cases this
    have ho1:H1 oa=none:=by
     cases e2:H1 oa with
     | none=>rfl
     | some u=>have:=k1 _ _ e2;rw[hoa] at this;cases this
    refine r6 _ hd fa oa rc hs rs _ _ _ _ ⟨s1.trans kk,⟨xs,kk _ _ hhd,txs.same kk⟩,trc.same kk,⟨[],[],k2 _ _ pE,.nil,U,λj f h=>by cases h⟩,⟨[],[],pE,.nil,Nat.le_refl _,λp hp=>by cases hp⟩⟩ (fn _ hfa) (fn _ ho1) (ao hhd hfa) (ao hhd ho1) (ao pE hoa) hl hp hh rl rr
   obtain⟨t3,h3,r3⟩:∃ t,PSs (cy CX0 P w K mg base nCo "_law_core" (am sCo) f' cdv A outer s' H E).nox ((aM sCo).drop 3) t /\
    ∀ (H1:Hp) (b hd:Addr) (k1:Int) (xs:List V) (hs:List (Str×Nat)) (x3 x4 x5 x6 x7 x8:Option V),C1 H H1 b k1->k1<=100->hd≠b->H1 hd=some (.lst xs)->TDs K H1 xs (hs.map dH)->hs.length<=4->0<hs.length->qi hs->t {nx:=λ_ H'=>Q .non H',rt:=Q} [some (.ref a),some (.ref b),some (.ref hd),x3,x4,x5,x6,x7,x8] H1:=by
    refine⟨_,(pD (pL (i:=4) nd U (.inl U) (dA T.tuple %[gx (own:=["_law_k"]) (outs:=[(1,"_law_box_here")]) U (br.of (am sCo) nCo) (bO U T.range %[aj au ⇑hr U %[1,pF|0]|0]) (λ_ _ _ _=>⟨(aC (i:=0) CF U (.inl U)),cB,(aN cG pF (aj au ⇑hr U %[1,pF|0]))⟩)|0])) h4),λH1 b hd k1 xs hs x3 x4 x5 x6 x7 x8 c hk hdb hhd txs hl hp hh=>?_⟩;dsimp only[be];rw[qP,iK,iJ,d0,eO];refine⟨_,U,b,k1,3,U,c.bx,∅,∅,∅,λr H2 r0 r1 mo bx=>⟨_,U,∅,∅,λG hG=>?_⟩⟩;obtain⟨m,rfl⟩:=Int.eq_ofNat_of_zero_le r0;have c2:=c.took mo bx;have tx2:=txs.tk (c.tk mo);have hd2:=(mo hd hdb).trans hhd;rw[show ((m:Nat):Int).toNat=m from Int.toNat_natCast _];have k0:=smu (o:=HO.lst []) hG;obtain⟨yb,hyb⟩:=c2.bl;have Gb:G≠b:=Ne.symm (ao hyb hG);have Gd:G≠hd:=Ne.symm (ao hd2 hG);have GH:H G=none:=by
     cases e2:H G with
     | none=>rfl
     | some u=>have:=c2.sm _ _ e2;rw[hG] at this;cases this
    refine cN.by (bu (n:=m)) (λi σ Hi=>C1 H Hi b (k1+1+((i:Nat):Int))/\Hi hd=some (.lst xs)/\TDs K Hi xs (hs.map dH)/\(∃ rs:List Nat,Hi G=some (.lst (rs.map λn=>V.int ((n:Nat):Int)))/\rs.length=i/\∀ r∈rs,1<=r/\r<=3)/\∃ y,σ=[y,some (.ref b)]) ⟨by rw[Int.natCast_zero,Int.add_zero];exact c2.same k0,k0 _ _ hd2,tx2.same k0,⟨[],pE,U,λr h=>by cases h⟩,_,U⟩ (λ_ _ _ _ _=>trivial) ?_ ?_
    · rintro i u σ Hi hu ⟨ci,hdi,txi,⟨rs,hGi,hrl,hrr⟩,y,rfl⟩;have hi:i<m:=by have:=(gES.mp hu).1;rwa [bh] at this
      rw[ce,dC];refine aL ⟨_,U,b,_,3,U,ci.bx,∅,∅,∅,λr H4 r0 r1 mo4 bx4=>⟨_,_,U,U,?_⟩⟩;obtain⟨f,rfl⟩:=Int.eq_ofNat_of_zero_le r0;have c4:=ci.took mo4 bx4;have hG4:=(mo4 G Gb).trans hGi;have tk4:=ci.tk mo4;have tkp:Tk H4 (upd H4 G (.lst ((rs.map λn=>V.int ((n:Nat):Int))++[V.int (1+((f:Nat):Int))]))):=gX (.inr ⟨_,hG4⟩);obtain⟨bn,bc,hb4,b40⟩:=c4.bx;refine⟨_,hG4,by rw[lMp];omega,⟨jF c4.sm GH,⟨bn,bc,by rw[af (Ne.symm Gb)];rw[Int.natCast_add,<- Int.add_assoc];exact hb4,∅⟩,c4.b0⟩,by rw[af (Ne.symm Gd)];exact (mo4 hd hdb).trans hdi,(txi.tk tk4).tk tkp,⟨rs++[1+f],by rw[pE,List.map_append];simp,by simp[hrl],λr hr=>?_⟩,_,U⟩
      rcases mAp.mp hr with hr | hr
      · exact hrr r hr
      · rw[mSg.mp hr];exact⟨∅,∅⟩
    · rintro σ Hi ⟨ci,hdi,txi,⟨rs,hGi,hrl,hrr⟩,y,rfl⟩;rw[bh] at hrl;refine⟨G,_,U,.inl ⟨SqL.of hGi,λF hF=>?_⟩⟩;have k5:=smu (o:=HO.tup (rs.map λn=>V.int ((n:Nat):Int))) hF;exact r4 _ hd F xs hs rs _ _ _ _ _ _ (ci.sm.trans k5) (k5 _ _ hdi) (txi.same k5) (.tup (SqT.of pE) (TDs.of_ints _)) hl hp hh ∅ hrr
   refine⟨_,(pD (pL (i:=1) nd U (Or.inr U) (aj fU ⇑hr U %[0,pF|0]))
 (pD (pL (i:=2) nd U (.inl U) (bE %[ax %[pC,aj au ⇑hr U %[1,pF|0]|0]|0]))
 (pD (cR PassesOwn.never U (bO U T.range %[aj au ⇑hr U %[1,pF|0]|0]) (aC (i:=3) nd U (.inl U))
 (pG (aH (cT ↥2 %[ax %[@ac _ _ _ _ _ _ _ aw (@bE _ _ _ _ (@pA _ _ _ _ _ pC (@pA _ _ _ _ _ pC (@pA _ _ _ _ _ pC (@pA _ _ _ _ _ pC pB (by rfl)) (by rfl)) (by rfl)) (by rfl))) (aj au ⇑hr U %[1,pF|0]) Ue,aj au ⇑hr U %[1,pF|0]|0]|0])))) h3))),?_⟩
   dsimp only[be];refine⟨_,U,a,ns,0,U,hA,hns,∅,∅,λb H1 k1 hb bx=>?_⟩;have c1:C1 H H1 b 0:=⟨k1,bx,hb⟩;refine⟨_,U,b,0,3,U,bx,∅,∅,∅,λr H2 r0 r1 mo bx2=>?_⟩;obtain⟨f,rfl⟩:=Int.eq_ofNat_of_zero_le r0;have c2:=c1.took mo bx2;refine⟨dB,λp3 hp3=>?_⟩;have k3:=smu (o:=HO.tup [V.str "open",V.int ((f:Nat):Int)]) hp3;refine⟨me,λhd hhd=>?_⟩;have k4:=smu (o:=HO.lst [V.ref p3]) hhd;have c4:=c2.same (k3.trans k4);obtain⟨yb,hyb⟩:=c2.bl;have hdb:hd≠b:=Ne.symm (ao (k3 _ _ hyb) hhd);have hdH:H hd=none:=by
    cases e2:H hd with
    | none=>rfl
    | some u=>have:=k3 _ _ (c2.sm _ _ e2);rw[hhd] at this;cases this
   have t4:TDs K (upd (upd H2 p3 (.tup [V.str "open",V.int ((f:Nat):Int)])) hd (.lst [V.ref p3])) [V.ref p3] ([(("open":Str),f)].map dH):=.cons ((TD.tup (SqT.of pE) (.cons (.str _) (.cons (.int _) .nil)):TD K (upd H2 p3 (.tup [V.str "open",V.int ((f:Nat):Int)])) (.ref p3) (dH ("open",f))).same k4) .nil;have e4:(upd (upd H2 p3 (.tup [V.str "open",V.int ((f:Nat):Int)])) hd (.lst [V.ref p3])) hd=some (.lst [V.ref p3]):=pE;generalize upd (upd H2 p3 (.tup [V.str "open",V.int ((f:Nat):Int)])) hd (.lst [V.ref p3])=H4 at c4 t4 e4 ⊢;refine⟨_,U,b,_,4,U,c4.bx,∅,∅,∅,λr' H5 r0' r1' mo5 bx5=>⟨_,U,∅,∅,?_⟩⟩;obtain⟨m,rfl⟩:=Int.eq_ofNat_of_zero_le r0';have c5:=c4.took mo5 bx5;show aO _ _ _ _ _ _;rw[show ((m:Nat):Int).toNat=m from Int.toNat_natCast _];refine aO.by (bu (n:=m)) (λi σ Hi=>(∃ ki,C1 H Hi b ki/\ki<=2+2*((i:Nat):Int))/\(∃ xs hs,Hi hd=some (.lst xs)/\TDs K Hi xs (hs.map dH)/\hs.length=1+i/\qi hs)/\∃ x3,σ=[some (.ref a),some (.ref b),some (.ref hd),x3,none,none,none,none,none]) ⟨⟨_,c5,∅⟩,⟨_,[("open",f)],(mo5 hd hdb).trans e4,t4.tk (c4.tk mo5),U,⟨λp hp=>by rw[mSg.mp hp];exact⟨∅,by show ("open":Str)∈hw3;left⟩,λh c z=>by cases z;rfl⟩⟩,_,U⟩ (λ_ _ _ _ _=>trivial) ?_ ?_
   · rintro i u σ Hi hui ⟨⟨ki,ci,hki⟩,⟨xs,hs,hhi,txi,hll,hh⟩,x3,rfl⟩;have hi:i<m:=by have:=(gES.mp hui).1;rwa [bh] at this
     refine⟨_,U,.inl ⟨U,_,SqL.of hhi⟩,vF,λp hp=>?_⟩;have kp:=smu (o:=HO.lst (w4.map V.str)) hp;have cp:=ci.same kp;have ep:(upd Hi p (.lst (w4.map V.str))) p=some (.lst (w4.map V.str)):=pE;have tp:=txi.same kp;have hhp:=kp _ _ hhi;obtain⟨yb,hyb⟩:=ci.bl;have pb:p≠b:=Ne.symm (ao hyb hp);refine⟨_,U,b,ki,4,U,cp.bx,∅,∅,∅,λr6 H6 r60 r61 mo6 bx6=>?_⟩;obtain⟨j,rfl⟩:=Int.eq_ofNat_of_zero_le r60;have hj:j<w4.length:=by show j<4;omega
     have c6:=cp.took mo6 bx6;refine⟨p,_,_,V.str w4[j],U,U,SqL.of ((mo6 p pb).trans ep),pH (by simp[hj]),?_⟩;refine⟨_,U,b,ki+1,3,U,c6.bx,∅,∅,∅,λr7 H7 r70 r71 mo7 bx7=>?_⟩;obtain⟨f7,rfl⟩:=Int.eq_ofNat_of_zero_le r70;have c7:=c6.took mo7 bx7;have t7:=(tp.tk (cp.tk mo6)).tk (c6.tk mo7);have hh7:=(mo7 hd hdb).trans ((mo6 hd hdb).trans hhp);refine⟨dB,λp8 hp8=>?_⟩;have k8:=smu (o:=HO.tup [V.str w4[j],V.int ((f7:Nat):Int)]) hp8;have c8:=c7.same k8;have tv8:TD K (upd H7 p8 (.tup [V.str w4[j],V.int ((f7:Nat):Int)])) (.ref p8) (dH (w4[j],f7)):=.tup (SqT.of pE) (.cons (.str _) (.cons (.int _) .nil));have hh8:=k8 _ _ hh7;have t8:=t7.same k8;generalize upd H7 p8 (.tup [V.str w4[j],V.int ((f7:Nat):Int)])=H8 at c8 tv8 hh8 t8 ⊢;have xl:=t8.length;rw[lMp] at xl;refine⟨hd,_,_,U,U,hh8,∅,?_⟩;have tk9:Tk H8 (upd H8 hd (.lst (xs++[V.ref p8]))):=gX (.inr ⟨_,hh8⟩);obtain⟨bn,bc,hb8,b80⟩:=c8.bx;have hw:∀ s∈w4,s∈hw3:=by left
     refine⟨⟨_,⟨jF c8.sm hdH,⟨bn,bc,by rw[af (Ne.symm hdb)];exact hb8,b80⟩,c8.b0⟩,∅⟩,⟨_,hs++[(w4[j],f7)],pE,by rw[List.map_append];exact (t8.snoc tv8).tk tk9,by simp;omega,⟨λp hp=>?_,λh c z=>?_⟩⟩,_,U⟩
     · rcases mAp.mp hp with hp | hp
       · exact hh.a p hp
       · rw[mSg.mp hp];exact⟨by show f7<=2;omega,hw _ (List.getElem_mem hj)⟩
     · rw[List.getElem?_append_left ∅] at z;exact hh.z h c z
   · rintro σ Hi ⟨⟨ki,ci,hki⟩,⟨xs,hs,hhi,txi,hll,hh⟩,x3,rfl⟩;rw[bh] at hki hll;exact r3 Hi b hd ki xs hs _ _ _ _ _ _ ci ∅ hdb hhi txi ∅ ∅ hh
end
end Q19
namespace K19
open PySem L2 P10
def uJ {c:Nat} {x:Int}:x∈(List.range c).map Int.ofNat↔x∈rgI 0 c:=by
 unfold rgI;rw[show (List.range c).map (λj=>(0:Int)+((j:Nat):Int))=(List.range c).map Int.ofNat from List.map_congr_left λj _=>by rw[Int.zero_add];rfl]
structure Cor (F:List Fun) (hs:List (Str×Nat)) (rs:List Nat) (O:List (Str×Nat)):Prop where
  fl:F.length=hs.length
  fh:∀ (k:Nat) (fn:Fun),F[k]?=some fn->hs[k]?=some (fn.hd,fn.ct)
  fk:FK F
  fo:FOk F (rfk hs) rs
  c2:∀ fn∈F,fn.ct<=2
  oo:Q19.OsOk O hs.length
  ol:O.length<=4
def yu {hs:List (Str×Nat)} {rs:List Nat} {j:Nat} {f:PyData} (go:GO ⟨hs,j,rs⟩) (h2:∀ p∈hs,p.2<=2) (h:Q19.FOk hs rs j f):∃ fn:Fun,f=fnD fn/\hs[j]?=some (fn.hd,fn.ct)/\fn.ct<=2/\Hx fn.bd/\Ws ((List.range fn.ct).map Int.ofNat) [] fn.bd/\Fd fn.bd 23/\Ar (F0 hs) (rfk hs) rs (rfk hs j) fn.bd:=by
 obtain⟨h,c,d,c',hj,rfl,x⟩:=h;obtain⟨e,rfl,xo⟩:=x.ex;have c2:c<=2:=h2 _ (mGE hj);have w9:wb 9=234040:=∅
 refine⟨⟨h,c,e⟩,U,hj,c2,xo.hx ∅ (by rw[w9];omega) (λy hy=>nomatch hy),xo.ws ⟨λy hy=>?_,λy hy=>(nomatch hy),∅⟩ _ _ (λy=>uJ) (λy=>Iff.rfl),(xo.fd (Nat.le_refl _)).mono ∅,xo.ar go⟩;rw[List.append_nil] at hy;have:=iq hy;omega
def yF {hs:List (Str×Nat)} {rs:List Nat} {fs:PDs} {os:List (Str×Nat)} (c:Q19.CoOk hs rs fs os):∃ F,Q19.coreD fs rs os=coreD F rs os/\Cor F hs rs os:=by
 have go:∀ j,GO ⟨hs,j,rs⟩:=λj=>⟨c.hl,c.hh.z⟩;have h2:∀ p∈hs,p.2<=2:=λp hp=>(c.hh.a p hp).1;have key:∀ (k:Nat),k<=fs.length->∃ F:List Fun,fs.take k=F.map fnD/\F.length=k/\∀ (j:Nat) (fn:Fun),F[j]?=some fn->hs[j]?=some (fn.hd,fn.ct)/\fn.ct<=2/\Hx fn.bd/\Ws ((List.range fn.ct).map Int.ofNat) [] fn.bd/\Fd fn.bd 23/\Ar (F0 hs) (rfk hs) rs (rfk hs j) fn.bd:=by
  intro k
  induction k with
  | zero=>exact λ_=>⟨[],U,U,λj fn h=>nomatch h⟩
  | succ k ih =>
   intro hk;obtain⟨F,e1,e2,e3⟩:=ih ∅;have hf:fs[k]?=some (fs[k]'∅):=gEE _;obtain⟨fn,g1,g2⟩:=yu (go k) h2 (c.fo k _ hf);refine⟨F++[fn],?_,by rw[lAp,e2];rfl,λj fn' hj=>?_⟩
   · rw[tAO,hf,e1,List.map_append,g1];rfl
   · rcases Nat.lt_or_ge j F.length with h | h
     · rw[List.getElem?_append_left h] at hj;exact e3 j fn' hj
     · rw[List.getElem?_append_right h] at hj;have e0:j-F.length=0:=by
        rcases Nat.eq_zero_or_pos (j-F.length) with e | e
        · exact e
        · rw[List.getElem?_eq_none (show [fn].length<=_ from e)] at hj;cases hj
       rw[e0] at hj;cases hj;have:j=k:=∅
       rw[this];exact g2
 obtain⟨F,e1,e2,e3⟩:=key fs.length (Nat.le_refl _);rw[List.take_length] at e1;have hl:F.length=hs.length:=by rw[e2];exact c.fl
 have mem:∀ fn∈F,∃ j:Nat,F[j]?=some fn:=λfn h=>by
  obtain⟨j,hj,rfl⟩:=List.getElem_of_mem h;exact⟨j,gEE hj⟩
 refine⟨F,by rw[e1];rfl,hl,λk fn h=>(e3 k fn h).1,⟨λfn h=>?_,λfn h=>?_⟩,λk fn h=>?_,λfn h=>?_,c.oo,by have:=c.ol;have:=c.hl;omega⟩
 · obtain⟨j,hj⟩:=mem fn h;have:=(e3 j fn hj).2.1;omega
 · obtain⟨j,hj⟩:=mem fn h;exact (e3 j fn hj).2.2.1
 · obtain⟨g1,g2,g3,g4,g5,g6⟩:=e3 k fn h;have ar:Ar F (rfk hs) rs (rfk hs k) fn.bd:=Ar.heads g6 λk' fn' h'=>by
    unfold F0 at h';rw[gEM] at h';obtain⟨p,hp,rfl⟩:=oMS.mp h';have hk':k'<F.length:=by rw[hl];exact (gES.mp hp).1
    have h1:=(e3 k' _ (gEE hk')).1;rw[hp] at h1;cases h1;exact⟨_,gEE hk',U,U⟩
   refine⟨g4,g5,?_,jN _ _⟩;split
   · exact Ar.mono ar (jN _ _)
   · exact ar
 · obtain⟨j,hj⟩:=mem fn h;exact (e3 j fn hj).2.1
inductive Hd:EV->Vl->Prop
  | int {i:Int} (h:Sml i):Hd (.int i) (.int i)
  | row {is:List Int} (h:is.length<=8) (hs:∀ i∈is,Sml i):Hd (.row is) (.tup is)
def iZ (v:EV) (s:St):PyData:=match s.en with
  | some w=>enD w
  | none=>.tuple [.str "back",lkD (elk v)]
def xz {F:List Fun} {hs:List (Str×Nat)} {rs:List Nat} {O:List (Str×Nat)} (c:Cor F hs rs O) {k:Nat} {fn:Fun} (hf:F[k]?=some fn) {vs:List EV} {xs:List Vl} (hv:Paired Hd vs xs) (hl:vs.length=fn.ct) {b:Int} (b0:0<=b) (b8:b<=8) :
 ∃ v g' s',evV F 688 (dI [] ((List.range fn.ct).map Int.ofNat) vs) ⟨b,[],none,0⟩ fn.bd=some (v,g',s')/\(s'.en≠some .long->∃ n S,Run F n (S0 fn b xs) S/\End S (iZ v s')/\S.D=s'.D):=by
 obtain⟨ws,fd,ar,_⟩:=c.fo k fn hf;have ar3:Ar F (rfk hs) rs 3 fn.bd:=by
  split at ar
  · exact ar
  · exact Ar.mono ar (jN _ _)
 have il:((List.range fn.ct).map Int.ofNat).length=vs.length:=by rw[lMp,List.length_range,hl]
 have g0:GOk F (rfk hs) rs ((List.range fn.ct).map Int.ofNat) [] (dI [] ((List.range fn.ct).map Int.ofNat) vs):=iU (L:=[]) _ vs (λx hx=>by rcases hx with hx | hx <;> cases hx) (λv hv'=>by
   obtain⟨j,hj,rfl⟩:=List.getElem_of_mem hv';have lx:=aA hv;have:=ba hv (gEE hj) (gEE (show j<xs.length by omega));generalize vs[j]=y at this;generalize xs[j]'∅=z at this;cases this with
   | int h=>exact .int h
   | row h hs=>exact .row h hs) il _ λy hy=>.inl hy
 obtain⟨v,g',s',e1,e2,e3,e4,e5⟩:=tV c.fo 688 fn.bd _ ⟨b,[],none,0⟩ _ [] 3 23 ws fd ar3 (Nat.le_refl _) g0 ⟨Nat.le_refl _,λ_=>⟨Nat.zero_le _,b0⟩,b8⟩ (by show b.toNat*76+3*19+23<=688;omega);refine⟨v,g',s',e1,λnl=>?_⟩;have er:ER (xs.map λy=>(false,y)) ((List.range fn.ct).map Int.ofNat) [] (dI [] ((List.range fn.ct).map Int.ofNat) vs) (nms [] 0 ((List.range fn.ct).map Int.ofNat)):=by
  have:=ER.nms ((List.range fn.ct).map Int.ofNat) vs xs (B:=[]) (L:=[]) (V:=[]) (g:=[]) (n:=[]) ⟨trivial,λx hx=>(nomatch hx),λx hx=>nomatch hx⟩ (jo _) (λx _ h=>nomatch h) (λx _ h=>nomatch h) (ah hv λa b z=>by cases z with | int h=>exact .int _ | row h hs=>exact .row _) il _ λy hy=>.inl hy;exact this
 have o:=uh (λfn' h'=>by obtain⟨j,hj,rfl⟩:=List.getElem_of_mem h';exact (c.fo j _ (gEE hj)).1) 688 fn.bd _ ⟨b,[],none,0⟩ v g' s' e1 U nl ⟨Nat.zero_le _⟩ _ [] _ [] [] _ ws er ∅ ∅;have o:Out F (S0 fn b xs) s' (QE _ [] g' _ [] [] _ v s'):=o
 rcases o with ⟨hn,S',r,B',x,rfl,_,vr,_,_⟩ | ⟨hn,S',r,h1,h2⟩
 · obtain⟨n,rn⟩:=r.run (.inr rfl);refine⟨n,_,rn,?_,U⟩;unfold iZ;rw[hn];have:=End.back (S:=⟨[],[]++[x],s'.D,none,s'.left,B'⟩) (x:=x) (r:=[]) rfl rfl;rw[vr.wth.2.2] at this;exact this
 · obtain⟨n,rn⟩:=r.run (.inl (by rw[h1];exact hn));refine⟨n,_,rn,?_,h2⟩;unfold iZ;cases e:s'.en with
   | none=>exact absurd e hn
   | some w=>exact .en (by rw[h1,e])
inductive HdV (K:Fg) (H:Hp):V->EV->Prop
  | int (i:Int):HdV K H (.int i) (.int i)
  | row {a t:Addr} {is:List Int} (h:SqT K H a [.str "row",.ref t]) (ht:SqT K H t (is.map V.int)):HdV K H (.ref a) (.row is)
def HdV.ev {K:Fg} {av:Addr->Prop} {H H':Hp} {v:V} {x:EV} (h:HdV K H v x) (t:Tk H H'):EvV K av H' v x:=by
 cases h with
 | int i=>exact .int i
 | row h ht=>exact .row (h.tk t) (ht.tk t)
def HdV.tk {K:Fg} {H H':Hp} {v:V} {x:EV} (h:HdV K H v x) (t:Tk H H'):HdV K H' v x:=by
 cases h with
 | int i=>exact .int i
 | row h ht=>exact .row (h.tk t) (ht.tk t)
def EnW.dat {K:Fg} {H:Hp} {v:V} {w:En} (h:EnW K H v (some w)):∃ a,v=.ref a/\cU K H v (enD w):=by
 cases h with
 | flt h=>exact⟨_,U,.tup h (.cons (.str _) (.cons (.str _) .nil))⟩
 | dry h=>exact⟨_,U,.tup h (.cons (.str _) .nil)⟩
 | long h=>exact⟨_,U,.tup h (.cons (.str _) .nil)⟩
inductive lZ (K:Fg) (H:Hp) (r:Addr) (ds:List Lk) (d:PyData):Prop
  | mk (da pe:Addr) (us:List V) (h1:SqT K H r [.ref da,.ref pe]) (h2:H da=some (.lst us)) (h3:Paired (LkV K H) us ds) (h4:cU K H (.ref pe) d):lZ K H r ds d
section
variable {P:Program} {w:World} {K:Fg} {mg:SOV} {base:Heap} {c:Ks}
inductive wA (K:Fg) (vs:List V) (H:Hp) (Q:VK):Prop
  | mk (vc:V) (F:List Fun) (R:List Nat) (O:List (Str×Nat)) (k:Nat) (fn:Fun) (l:Addr) (us:List V) (ws:List EV) (b:Int) (v:EV) (g':Env) (s':St) (h0:vs=[vc,.int ((k:Nat):Int),.ref l,.int b]) (h1:TD K H vc (coreD F R O)) (h2:FK F) (h3:F[k]?=some fn) (h4:H l=some (.lst us)) (h5:Paired (HdV K H) us ws) (h6:ws.length=fn.ct) (h7:evV F 688 (dI [] ((List.range fn.ct).map Int.ofNat) ws) ⟨b,[],none,0⟩ fn.bd=some (v,g',s'))
    (q:∀ r H',aI H H'->lZ K H' r s'.D (iZ v s')->Q (.ref r) H'):wA K vs H Q
def zW (K:Fg):Sp:=λvs H Q _=>wA K vs H Q
def B0 (D:Def K mg "_law_run" (top 70)) (T:Blt mg) (aG:Fn P w K mg base "_law_value" 691 ps4 (spX K (fV 688))) (dG:Fn P w K mg base "_law_look" 1 ["_law_value_here"] (uc K)) (hdict:mg "dict"=none):Fn P w K mg base "_law_run" 692 ["_law_core_here","_law_number","_law_values_here","_law_bound_here"] (zW K):=by
 have nd:(["_law_core_here","_law_number","_law_values_here","_law_bound_here","_law_state","_law_names","_law_value_here"]:List Str).Nodup:=by left
 exists D.fn (N:=["_law_core_here","_law_number","_law_values_here","_law_bound_here","_law_state","_law_names","_law_value_here"]) (~~~nd),bL
 · obtain⟨vc,F,R,O,k0',fn,l,us,ws,b,v,g',s1,rfl,_⟩:=h;rfl
 · obtain⟨vc,F,R,O,k0',fn,l,us,ws,b,v,g',s1,rfl,tc,fk,hfn,hl,pu,hct,hev,q⟩:=h;have hz0:(40000:Nat)<sizeLine:=∅
   have hu:=cD hr;refine⟨_,(@pD _ _ _ _ _ (@pL _ _ 4 _ _ _ _ nd U (.inl U) (@jR _ _ _ _ _ (@cg _ _ _ _ _ _ _ _ _ pC ↥3 (@cg _ _ _ _ _ _ _ _ _ pC (bE pB) (@cg _ _ _ _ _ _ _ _ _ pC bR (@cg _ _ _ _ _ _ _ _ _ pC pF jP)))) U U (by simp) ∅) (by rfl) (by exact Or.inl U))
 (pD (pL (i:=5) nd U (.inl U) (oM hdict %[gx (own:=["_law_k"]) (outs:=[(2,"_law_values_here")]) (te:=mr (cV (dr 0) (cV (tOp (oY K) (dr 1) (dr 0)) gY))) U (br.of (am (top 70)) ["_law_core_here","_law_number","_law_values_here","_law_bound_here","_law_state","_law_names","_law_value_here"]) (bO U T.range %[cq T.len %[2|0]|0]) (λ_ _ _ _=>⟨(aC (i:=0) Bp U (.inl U)),cB,(ax %[0,ac aw ↥1 ↥0 Ue|0])⟩)|0]))
 (pD (pL (i:=6) nd U (.inl U) (aj aG ⇑hr U %[0,4,5,ac ag (ac ag ↥↥0 ↥1 Ue) pF Ue|0]))
 (pD (az (pM gy (pK hu ↥4 pC Ue) bR (pN _)) (pG (ak (ax %[pK hu ↥4 pC Ue,pK hu ↥4 pC Ue|0]))) aq)
 (pG (ak (ax %[pK hu ↥4 pC Ue,ax %[pC,aj dG ⇑hr U %[6|0]|0]|0]))))))),?_⟩
   dsimp only[be];have c9:=fk.c fn (mGE hfn);have ul:=aA pu;refine aE λyf mR=>?_;refine λsd hsd=>⟨_,U,mh,λdl hdl=>?_⟩;have ne:dl≠sd:=λe=>by rw[e,pE] at hdl;cases hdl
   have hdl0:H dl=none:=by rw[af ne] at hdl;exact hdl
   refine⟨by rw[af (Ne.symm ne)];exact pE,[(.inr "left",.int b),(.inr "deeds",.ref dl),(.inr "end",.non),(.inr "steps",.int 0)],U,by show 4<=15;decide,?_⟩;have k1:aI H (upd (upd (upd H sd (.dK [])) dl (.lst [])) sd (.dK (cC [] [(.inr "left",.int b),(.inr "deeds",.ref dl),(.inr "end",.non),(.inr "steps",.int 0)]))):=λa u z=>by
    rw[af (ao z hsd),af (ao z hdl0),af (ao z hsd)];exact z
   have l1:LS K (upd (upd (upd H sd (.dK [])) dl (.lst [])) sd (.dK (cC [] [(.inr "left",.int b),(.inr "deeds",.ref dl),(.inr "end",.non),(.inr "steps",.int 0)]))) sd dl ⟨b,[],none,0⟩:=⟨⟨.non,pE,.non⟩,⟨[],by rw[af ne];exact pE,.nil⟩⟩;generalize upd (upd (upd H sd (.dK [])) dl (.lst [])) sd (.dK (cC [] [(.inr "left",.int b),(.inr "deeds",.ref dl),(.inr "end",.non),(.inr "steps",.int 0)]))=H4 at k1 l1 ⊢;refine mR _ _ (aE λlB kJ=>?_);have hl4:=k1 _ _ hl;rw[iK,iJ,d0,eO];refine⟨_,U,l,_,U,.inl (SqL.of hl4),?_⟩;refine⟨_,U,∅,∅,λG hG=>?_⟩;rw[show ((us.length:Nat):Int).toNat=us.length from Int.toNat_natCast _];have k0:=smu (o:=HO.lst []) hG;have il:((List.range us.length).map Int.ofNat).length=us.length:=by rw[lMp,List.length_range]
   refine cN.by (bu (n:=us.length)) (λj σ Hj=>aI H4 Hj/\(∃ as:List Addr,Hj G=some (.lst (as.map V.ref))/\as.length=j/\Paired (λa (p:Int×V)=>SqT K Hj a [.int p.1,p.2]) as ((((List.range us.length).map Int.ofNat).zip us).take j))/\∃ y,σ=[y,some (.ref l)]) ⟨k0,⟨[],pE,U,.nil⟩,_,U⟩ (λ_ _ _ _ _=>trivial) ?_ ?_
   · rintro j u σ Hj hu' ⟨sj,⟨as,hGj,la,pa⟩,y,rfl⟩;have hj:j<us.length:=by have:=(gES.mp hu').1;rwa [bh] at this
     have eu:=mz hu';subst eu;have huj:us[j]?=some us[j]:=gEE _;rw[ce,dC];refine aL ⟨_,U,_,U,_,U,l,_,_,_,U,U,SqL.of (sj _ _ hl4),pH (j:=j) huj,dB,λp hp=>?_⟩;have kk:=smu (o:=HO.tup [.int ((j:Nat):Int),us[j]]) hp;refine⟨as.map V.ref,kk _ _ hGj,by rw[lMp];omega,λa v e=>?_,⟨as++[p],?_,by rw[lAp,la];rfl,?_⟩,_,U⟩
     · rw[af (ao e hG)];exact kk _ _ (sj _ _ e)
     · rw[pE,List.map_append];rfl
     · have t2:Tk (upd Hj p (.tup [.int ((j:Nat):Int),us[j]])) (upd (upd Hj p (.tup [.int ((j:Nat):Int),us[j]])) G (.lst (as.map V.ref++[.ref p]))):=(Fw.upd (p:=λa=>a=G) U (dS (kk _ _ hGj))).tk;have hz:(((List.range us.length).map Int.ofNat).zip us)[j]?=some (((j:Nat):Int),us[j]):=by
        rw[List.getElem?_zip_eq_some];refine⟨?_,huj⟩;rw[gEM,List.getElem?_range hj];rfl
       rw[tAO,hz];exact bK (ah pa λ_ _ z=>(z.tk kk.tk).tk t2) (.cons ((SqT.of pE).tk t2) .nil)
   · rintro σ Hi ⟨si,⟨as,hGi,la,pa⟩,y,rfl⟩;rw[bh] at la pa;rw[List.take_of_length_le (by rw[List.length_zip,il];omega)] at pa;refine⟨G,as,_,U,hGi,pa,∅,λp hp=>?_⟩;have pu5:Paired (EvV K (λa=>a=sd\/a=dl\/a=p) Hi) us ws:=ah pu λ_ _ z=>z.ev (k1.trans si).tk;obtain⟨gm,km⟩:=lF (K:=K) (av:=λa=>a=sd\/a=dl\/a=p) (H:=Hi) (kvs:=[]) (g:=[]) .nil .nil (ids:=(List.range us.length).map Int.ofNat) (λx hx'=>by
       obtain⟨n,hn,rfl⟩:=List.mem_map.mp hx';have:=List.mem_range.mp hn;exact⟨Int.natCast_nonneg n,by show ((n:Nat):Int)<300000;omega⟩) il pu5
     have k6:=smu (o:=HO.dK (cC [] ((((List.range us.length).map Int.ofNat).zip us).map λp=>(.inl p.1,p.2)))) hp;have n6:NV K (λa=>a=sd\/a=dl\/a=p) _ p _:=⟨⟨_,pE (H:=Hi) (a:=p) (o:=HO.dK (cC [] ((((List.range us.length).map Int.ofNat).zip us).map λp=>(.inl p.1,p.2)))),ah gm λ_ _ z=>⟨z.1,z.2.same k6⟩⟩,km⟩;have l6:=(l1.same si).same k6;have K6:=(k1.trans si).trans k6;have tc6:=tc.same K6;have eu:us.length=fn.ct:=by rw[ul,hct]
     have hp0:H p=none:=by
      cases z:H p with
      | none=>rfl
      | some u=>rw[(k1.trans si) _ _ z] at hp;cases hp
     have c6:CW K _ (λa=>a=sd\/a=dl\/a=p) F R O vc sd dl p _ ⟨b,[],none,0⟩:=⟨tc6,l6,n6,.inl U,.inr (.inl U),.inr (.inr U),λa z=>by
       rcases z with rfl | rfl | rfl
       · exact l6.al.1
       · exact l6.al.2
       · exact n6.al,λe=>by
       have:=(l1.same si).al.1;rw[e] at this;exact this hp,fk⟩
     refine kJ _ _ (aE λvW tE=>?_);rw[eu] at c6 K6 ⊢;generalize upd Hi p _=H6 at c6 K6 ⊢;clear n6 l6 gm tc6;obtain⟨ca,cs,rfl,hca,hcs⟩:=(show TD K H6 vc (.tuple [.tuple (F.map fnD),.tuple (R.map λn=>.int ((n:Nat):Int)),.tuple (O.map opD)]) from c6.c).tup_of;obtain⟨z1,z2,z3,rfl,u1,u2,u3⟩:=cJ hcs;obtain⟨fa,fs,rfl,hfa,hfs⟩:=u1.tup_of;have hj:(F.map fnD)[k0']?=some (fnD fn):=by rw[gEM,hfn];rfl
     obtain⟨vf1,e1',tf⟩:=iB hfs hj;obtain⟨pa',ps,rfl,hpa,hps⟩:=(show TD K H6 vf1 (.tuple [.str fn.hd,.int ((fn.ct:Nat):Int),exD fn.bd]) from tf).tup_of;obtain⟨b1,b2,b3,rfl,w1,w2,w3⟩:=cJ hps;refine⟨_,U,_,U,_,U,_,U,ca,_,_,_,U,U,hca,pH (j:=0) U,_,U,fa,_,_,_,U,U,hfa,pH (j:=k0') e1',pa',_,_,_,U,U,hpa,pH (j:=2) U,(λa=>a=sd\/a=dl\/a=p),F,R,O,_,_,sd,dl,p,_,_,fn.bd,v,g',s1,U,c6,w3,fk.x fn (mGE hfn),hev,λv7 H7 f7 c7 hv7=>?_⟩;have K7:aI H H7:=λa u z=>f7.kp a u (λy=>by
       rcases y with rfl | rfl | rfl
       · rw[hsd] at z;cases z
       · rw[hdl0] at z;cases z
       · rw[hp0] at z;cases z) (K6 _ _ z)
     refine tE _ _ (aE λC5 Bw=>?_);obtain⟨ve7,h17,e7⟩:=c7.s.d;obtain⟨ds,hds,pds⟩:=c7.s.l;refine⟨_,U,sd,ve7,U,cE.k (k:=.inr "end") h17,U,_,U,?_⟩;rw[e7.dec];unfold iZ at q;cases en:s1.en with
     | some w0 =>
      rw[en] at q e7;obtain⟨pe,rfl,dpe⟩:=e7.dat;refine aL ⟨_,U,sd,_,U,cE.k (k:=.inr "deeds") h17,_,U,sd,_,U,cE.k (k:=.inr "end") h17,dB,λr hr'=>?_⟩;have k8:=smu (o:=HO.tup [.ref dl,.ref pe]) hr';exact q r _ (K7.trans k8) (.mk dl pe ds (SqT.of pE) (k8 _ _ hds) (ah pds λ_ _ z=>z.tk k8.tk) (dpe.same k8))
     | none =>
      rw[en] at q;refine ai (Bw _ _ ?_);refine⟨_,U,sd,_,U,cE.k (k:=.inr "deeds") h17,_,U,_,v7,v,U,hv7,λv' lv=>?_⟩;refine⟨dB,λpe hpe=>?_⟩;have k8:=smu (o:=HO.tup [.str "back",v']) hpe;refine⟨dB,λr hr'=>?_⟩;have k9:=smu (o:=HO.tup [.ref dl,.ref pe]) hr';have k89:=k8.trans k9;exact q r _ (K7.trans k89) (.mk dl pe ds (SqT.of pE) (k89 _ _ hds) (ah pds λ_ _ z=>z.tk k89.tk) (.tup ((SqT.of pE).tk k9.tk) (.cons (.str _) (.cons (lv.tk k89.tk).dat .nil))))
end
end K19
namespace L2
open PySem PySem.Spec PyProof.Rows
def rR {K:Fg} {n:String}:PySem.W.kitOne K (.type n) (.type n)=some true:=by unfold PySem.W.kitOne;rw[if_pos (by simp)]
inductive BN (K:Fg) (xs:List V) (H:Hp) (Q:VK):Prop
  | mk (a:Addr) (ys:List V) (T:String) (b:Bool) (h1:xs=[.ref a,.ty T]) (h2:H a=some (.lst ys)) (h3:PySem.W.kitOne K (.type "list") (.type T)=some b) (q:Q (.bl b) H):BN K xs H Q
def Az (K:Fg):List V->Hp->VK->Prop:=λxs H Q=>BN K xs H Q
def sK {X:Cx}:ga X (.builtin "isinstance") (Az X.K):=by
 intro pins s σ H xs us Q I rv h;obtain⟨a,ys,T,b,rfl,hx,hk,q⟩:=h;obtain⟨u,w',rfl,ru,rw'⟩:=rv.two;cases (show w'=Value.type T from rw');cases (show u=Value.ref a from ru);obtain⟨_,its,n,_,hg⟩:=I.hok a _ hx;exact PySem.W.kia_one PySem.W.kitx_list I.kIn ⟨_,hg,U⟩ hk (λz=>nomatch z) λtk=>⟨.bl b,H,I.tok _,U,q⟩
def BT {X:Cx} {p pos:Pos} {e:Expr} {es:List Expr} {t:TA} (hm:X.mg "isinstance"=none) (ha:PA X (e::es) t) (hg:Gl X "isinstance":=by rfl)
 (he:starEach (e::es) X.env=(false,eval e X.env)::starEach es X.env:=by rfl) (hpl:(backTo pos (starEach es X.env)).any (·.1)=false:=by rfl) :
 PE X (.Call (.Name "isinstance" p) (e::es) [] pos) (tCB (Az X.K) t):=iO sK hg hm eP ha (he:=he) (hpl:=hpl)
end L2
namespace K19
open PySem L2 P10
def Sm1 (b:Addr) (H H':Hp):Prop:=∀ a u,a≠b->H a=some u->H' a=some u
section
variable {b:Addr} {H H' H2:Hp} {k:Int}
def Sm1.refl:Sm1 b H H:=λ_ _ _ h=>h
def Sm1.trans (f:Sm1 b H H') (g:Sm1 b H' H2):Sm1 b H H2:=λa u n h=>g a u n (f a u n h)
def Sm1.of (s:aI H H'):Sm1 b H H':=λa u _ h=>s a u h
def Sm1.mo (m:Mo H b H'):Sm1 b H H':=λa u n h=>(m a n).trans h
def Sm1.tk (f:Sm1 b H H') (x:fZ H b k):Tk H H':=λa xs h=>by
 obtain⟨n,c,hb,_⟩:=x;have ne:a≠b:=λe=>dS hb xs (e▸h)
 rcases h with h | ⟨o,h⟩
 · exact .inl (f _ _ ne h)
 · exact .inr ⟨o,f _ _ ne h⟩
def Sm1.put {G:Addr} {o:HO} (f:Sm1 b H H') (h:H G=none):Sm1 b H (upd H' G o):=λa u n e=>by
 rw[af (ao e h)];exact f a u n e
def e9 (x:fZ H b k) (s:aI H H'):fZ H' b k:=by
 obtain⟨n,c,h,h0⟩:=x;exact⟨n,c,s _ _ h,h0⟩
def vq {G:Addr} {o:HO} (x:fZ H b k) (n:G≠b):fZ (upd H G o) b k:=by
 obtain⟨i,c,h,h0⟩:=x;exact⟨i,c,by rw[af (Ne.symm n)];exact h,h0⟩
end
def iX:List EV:=[.int 0,.int 1,.int 2,.int (-32768),.int 32767,.row [1,0,5],.row [],.row [3,-1,4,1,5,9,2,6]]
def rY:∀ v∈iX,Hd v (lH v):=by
 intro v hv;have sm:∀ i∈([1,0,5,3,-1,4,1,5,9,2,6]:List Int),Sml i:=∅
 simp only[iX,List.mem_cons,nMN,or_false] at hv
 rcases hv with rfl | rfl | rfl | rfl | rfl | rfl | rfl | rfl
 · exact .int ∅
 · exact .int ∅
 · exact .int ∅
 · exact .int ∅
 · exact .int ∅
 · exact .row ∅ ∅
 · exact .row ∅ ∅
 · exact .row ∅ ∅
def uP {vs:List EV} (h:∀ v∈vs,v∈iX):Paired Hd vs (vs.map lH):=by
 induction vs with
 | nil=>exact .nil
 | cons v r ih=>exact .cons (rY v (h v mCS)) (ih λx hx=>h x (mCM _ hx))
def rm {v:EV} (h:v∈iX):evI v=true\/∃ is,v=.row is:=by
 have:=rY v h;generalize lH v=x at this;cases this with
 | int h=>exact .inl U
 | row h hs=>exact .inr ⟨_,U⟩
def vlD:Vl->PyData
  | .int i=>.int i
  | .tup is=>.tuple (is.map .int)
  | _=>.int 0
def ArV.dat {K:Fg} {H:Hp} {v:V} {x:Vl} (h:ArV K H v x):cU K H v (vlD x):=by
 cases h with
 | int i=>exact .int i
 | tup h=>exact .tup h (fS _)
def ArV.tk {K:Fg} {H H':Hp} {v:V} {x:Vl} (h:ArV K H v x) (t:Tk H H'):ArV K H' v x:=by
 cases h with
 | int i=>exact .int i
 | tup h=>exact .tup (h.tk t)
def yz (x:Vl):lV (vlD x):=by
 cases x with
 | int i=>exact .int i
 | tup is=>exact .tup is
 | _=>exact .int 0
def oH {K:Fg} {H:Hp} {us:List V} {xs:List Vl} (h:Paired (ArV K H) us xs):gT K H us (xs.map vlD):=by
 induction h with
 | nil=>exact .nil
 | cons z _ ih=>exact .cons z.dat ih
def oG {K:Fg} {H:Hp} {us:List V} {xs:List Lk} (h:Paired (LkV K H) us xs):gT K H us (xs.map lkD):=by
 induction h with
 | nil=>exact .nil
 | cons z _ ih=>exact .cons z.dat ih
def Shd (n:Nat) (d:PyData):Prop:=d.canLay0=true/\d.depth<=n
def jK {n:Nat} {ds:PDs} (h:∀ x∈ds,Shd n x):Shd (n+1) (.tuple ds):=by
 unfold Shd;simp only[PyData.canLay0,PyData.depth];exact⟨iu λx hx=>(h x hx).1,by have:=ix λx hx=>(h x hx).2;omega⟩
def nQ {n:Nat} {ds:PDs} (h:∀ x∈ds,Shd n x):Shd (n+1) (.list ds):=by
 unfold Shd;simp only[PyData.canLay0,PyData.depth];exact⟨iu λx hx=>(h x hx).1,by have:=ix λx hx=>(h x hx).2;omega⟩
def Shd.sh {n:Nat} {d:PyData} (h:Shd n d) (l:n<=64):SeqAt.shaped d=true:=by
 unfold SeqAt.shaped;rw[Bool.and_eq_true,decide_eq_true_eq];exact⟨h.1,by have:=h.2;omega⟩
def Shd.up {n m:Nat} {d:PyData} (h:Shd n d) (l:n<=m):Shd m d:=⟨h.1,by have:=h.2;omega⟩
def jJ {n:Nat} {a b:PyData} (ha:Shd n a) (hb:Shd n b):Shd (n+1) (.tuple [a,b]):=jK λx hx=>by
 rcases List.mem_cons.mp hx with rfl | hx
 · exact ha
 · rw[mSg.mp hx];exact hb
def xD (ds:List Lk) (d:PyData):PyData:=.tuple [.list (ds.map lkD),d]
def oA {S:MS} {d:PyData} (h:End S d) (he:HE S):Shd 2 d:=by
 cases h with
 | @en w h =>
  cases w with
  | dry=>exact (jK (n:=0) λx hx=>by rw[mSg.mp hx];exact⟨by left,Nat.le_refl _⟩).up ∅
  | long=>exact (jK (n:=0) λx hx=>by rw[mSg.mp hx];exact⟨by left,Nat.le_refl _⟩).up ∅
  | flt w=>exact (jJ (n:=0) ⟨by left,Nat.le_refl _⟩ ⟨he w h,Nat.le_refl _⟩).up ∅
 | back h hT=>exact jJ (n:=1) ⟨by left,Nat.zero_le _⟩ (so _).ok
def uv {ds:List Lk} {d:PyData} (h:Shd 2 d):SeqAt.shaped (xD ds d)=true:=by
 refine Shd.sh (n:=3) (jJ (n:=2) (nQ (n:=1) λx hx=>?_) h) ∅;obtain⟨y,_,rfl⟩:=List.mem_map.mp hx;exact (so y).ok
def tK {xs:List Vl}:SeqAt.shaped (.list (xs.map vlD))=true:=by
 refine Shd.sh (n:=2) (nQ (n:=1) λx hx=>?_) ∅;obtain⟨y,_,rfl⟩:=List.mem_map.mp hx;exact (yz y).ok
def og {K:Fg} {H:Hp} {Q:VK} {x y:V} {d:PyData} (h1:cU K H x d) (h2:cU K H y d) (hs:SeqAt.shaped d=true) (q:Q (.bl false) H):Av K x y H Q:=⟨d,d,h1,h2,hs,hs,by rw[SeqAt.eqv_refl _ (SeqAt.canLay_of_shaped hs)];exact q⟩
def vC.dat {K:Fg} {H0 H:Hp} {r:Addr} {ds:List Lk} {d:PyData} (h:vC K H0 H r ds d):cU K H (.ref r) (xD ds d):=by
 obtain⟨da,pe,us,h1,h2,h3,h4,h5,h6⟩:=h;exact .tup h1 (.cons (.lst (SqL.of h2) (oG h3)) (.cons h4 .nil))
def lZ.dat {K:Fg} {H:Hp} {r:Addr} {ds:List Lk} {d:PyData} (h:lZ K H r ds d):cU K H (.ref r) (xD ds d):=by
 obtain⟨da,pe,us,h1,h2,h3,h4⟩:=h;exact .tup h1 (.cons (.lst (SqL.of h2) (oG h3)) (.cons h4 .nil))
def lZ.same {K:Fg} {H H':Hp} {r:Addr} {ds:List Lk} {d:PyData} (h:lZ K H r ds d) (s:aI H H'):lZ K H' r ds d:=by
 obtain⟨da,pe,us,h1,h2,h3,h4⟩:=h;exact .mk da pe us (h1.tk s.tk) (s _ _ h2) (ah h3 λ_ _ z=>z.tk s.tk) (h4.same s)
def isL:Option En->Bool
  | some .long=>true
  | _=>false
def rV {o:Option En} (h:¬ isL o=true):o≠some .long:=λe=>h (by rw[e];rfl)
def uM {o:Option En} (h:isL o=true):o=some .long:=by
 cases o with
 | none=>cases h
 | some w=>cases w with
  | dry=>cases h
  | long=>rfl
  | flt w=>cases h
def sB (v:EV) (s:St):∃ d,iZ v s=.tuple d/\PyData.eqv (.tuple d) (.tuple [.str "long"])=isL s.en:=by
 unfold iZ;cases e:s.en with
 | none=>exact⟨_,U,by simp only[PyData.eqv,PyData.eqvAll];rw[show ((("back":Str)=="long"))=false by left];rfl⟩
 | some w =>
  cases w with
  | dry=>exact⟨_,U,by simp only[PyData.eqv,PyData.eqvAll];rw[show ((("dry":Str)=="long"))=false by left];rfl⟩
  | long=>exact⟨_,U,by simp only[PyData.eqv,PyData.eqvAll,beq_self_eq_true];rfl⟩
  | flt w=>exact⟨_,U,by simp only[PyData.eqv,PyData.eqvAll];rw[show ((("fault":Str)=="long"))=false by left];rfl⟩
def yh:∀ k,k<4->∀ j,j<4->Q19.mnS k=Q19.mnS j->k=j:=by left
def sq {O:List (Str×Nat)} {n:Nat} (ho:Q19.OsOk O n) (n4:n<=4) {i k:Nat} {nm:Str} (h:O[i]?=some (nm,k)):∃ i,O[i]?=some (nm,k)/\∀ (j:Nat) (p:Str×Nat),j<i->O[j]?=some p->p.1≠nm:=by
 induction i using Nat.strongRecOn with
 | ind i ih =>
  by_cases c:∃ (j:Nat) (p:Str×Nat),j<i/\O[j]?=some p/\p.1=nm
  · obtain⟨j,p,hj,hp,en⟩:=c;obtain⟨k1,l1,e1⟩:=ho _ (mGE h);obtain⟨k2,l2,e2⟩:=ho _ (mGE hp);cases e1;rw[e2] at en;have:=yh k2 ∅ k ∅ en;subst this;exact ih j hj (by rw[hp,e2])
  · exact⟨i,h,λj p hj hp en=>c ⟨j,p,hj,hp,en⟩⟩
def vN {fn:Fun} {b:Int} {ws:List EV} (h:Hx fn.bd):HS (S0 fn b (ws.map lH)) :=
 ⟨λt z=>by rw[mSg.mp z];exact h,(λv z=>nomatch z),λp z=>by
   obtain⟨x,hx,rfl⟩:=List.mem_map.mp z;obtain⟨w,_,rfl⟩:=List.mem_map.mp hx;cases w with
   | int i=>exact .int i
   | row is=>exact .tup is
   | rcd r xs=>exact .int 0
   | fn ids e g=>exact .int 0⟩
section
variable {P:Program} {w:World} {K:Fg} {mg:SOV} {base:Heap} {c:Ks}
def CD:(["_law_k","_law_some","_law_box_here"]:List Str).Nodup:=by left
inductive sT (K:Fg) (vs:List V) (H:Hp) (Q:VK):Prop
  | mk (a:Addr) (ns:List Int) (h0:vs=[.ref a]) (h1:SqL K H a (ns.map V.int)) (h2:ns.length<=63) (q:∀ H',Q (.bl true) H'):sT K vs H Q
def nM (K:Fg):Sp:=λvs H Q _=>sT K vs H Q
def xR {f:Addr} {fd:FuncData} (D:L2.Fun K "law" "law" (top 72) f fd) (T:Blt mg) (k:KC K mg c) (nA:Fn P w K mg base "_law_core" 20 ["_law_script"] (Q19.spCo K)) (fU:Fn P w K mg base "_law_box" 1 ["_law_script","_law_k"] (xu K)) (au:Fn P w K mg base "_law_take" 1 ["_law_box_here","_law_many_here"] gZ) (qj:Fn P w K mg base "_law_run" 692 ["_law_core_here","_law_number","_law_values_here","_law_bound_here"] (zW K)) (ii:Fn P w K mg base "_law_plain" 1 ["_law_value_here"] (zX K)) (BP:Fn P w K mg base "run" 7 ["core","name","values","bound"] (zQ K)):eW P w K mg base CX0 693 f fd ["_law_script"] (nM K):=by
 have nd:(["_law_script","_law_core_here","_law_box_here","_law_name","_law_number","_law_bound_here","_law_some","_law_values_here","_law_due","_law_handed","_law_k","_law_found"]:List Str).Nodup:=by left
 refine D.ok (N:=["_law_script","_law_core_here","_law_box_here","_law_name","_law_number","_law_bound_here","_law_some","_law_values_here","_law_due","_law_handed","_law_k","_law_found"]) (~~~nd) (λvs H Q E h=>?_) (λcdv A outer s' H vs Q E hr h=>?_)
 · obtain⟨a,ns,rfl,_⟩:=h;rfl
 · obtain⟨a,ns,rfl,hA,hns,q⟩:=h;have hz0:(40000:Nat)<sizeLine:=∅
   have hu:=cD hr;refine⟨_,(pD (pL (i:=1) nd U (.inl U) (aj nA ⇑hr U %[0|0]))
 (pD (pL (i:=2) nd U (Or.inr U) (aj fU ⇑hr U %[0,pF|0]))
 (pD (cR PassesOwn.never U (hU ↥↥1) (dQ U (aU (aC (i:=3) nd U (.inl U)) (aU (aC (i:=4) nd U (.inl U)) d9))) (pG (cR PassesOwn.never U (gw (bE %[aj au ⇑hr U %[2,pF|0],pF,pF|0])) (aC (i:=5) nd U (.inl U)) (@pD _ _ _ _ _ (@pL _ _ 6 _ _ _ _ nd U (Or.inr U) (@bE _ _ _ _ (@pA _ _ _ _ _ pF (@pA _ _ _ _ _ pF (@pA _ _ _ _ _ pF (@pA _ _ _ _ _ (jp gU pF) (@pA _ _ _ _ _ pF (@pA _ _ _ _ _ (@ax _ _ _ _ _ (@pA _ _ _ _ _ pC (@pA _ _ _ _ _ (@ax _ _ _ _ _ (@pA _ _ _ _ _ pF (@pA _ _ _ _ _ pF (@pA _ _ _ _ _ pF pB (by rfl)) (by rfl)) (by rfl))) pB (by rfl)) (by rfl))) (@pA _ _ _ _ _ (@ax _ _ _ _ _ (@pA _ _ _ _ _ pC (@pA _ _ _ _ _ (@ax _ _ _ _ _ pB) pB (by rfl)) (by rfl))) (@pA _ _ _ _ _ (@ax _ _ _ _ _ (@pA _ _ _ _ _ pC (@pA _ _ _ _ _ (@ax _ _ _ _ _ (@pA _ _ _ _ _ pF (@pA _ _ _ _ _ (jp gU pF) (@pA _ _ _ _ _ pF (@pA _ _ _ _ _ pF (@pA _ _ _ _ _ pF (@pA _ _ _ _ _ pF (@pA _ _ _ _ _ pF (@pA _ _ _ _ _ pF pB (by rfl)) (by rfl)) (by rfl)) (by rfl)) (by rfl)) (by rfl)) (by rfl)) (by rfl))) pB (by rfl)) (by rfl))) pB (by rfl)) (by rfl)) (by rfl)) (by rfl)) (by rfl)) (by rfl)) (by rfl)) (by rfl))) (by rfl) (by exact Or.inl U))
 (pD (qZ (i0:=7) (own:=["_law_k"]) (outs:=[(6,"_law_some"),(2,"_law_box_here")]) (te:=tOp (oY K) (dr 1) (kW gZ [] E0 (cV (dr 2) (cV (tC (.int 8)) gY)))) U (br.of (am (top 72)) ["_law_script","_law_core_here","_law_box_here","_law_name","_law_number","_law_bound_here","_law_some","_law_values_here","_law_due","_law_handed","_law_k","_law_found"]) (bO U T.range %[ac ag (ac ag ↥↥1 ↥4 Ue) pF Ue|0]) (λ_ _ _ _=>⟨(aC (i:=0) CD U (.inl U)),cB,(ac aw ↥1 (aj au ⇑hr U %[2,pF|0]) Ue)⟩) nd U U)
 (pD (pL (i:=8) nd U (.inl U) (aj qj ⇑hr U %[1,4,7,5|0]))
 (pD (qZ (i0:=9) (own:=["_law_value_here"]) (outs:=[]) U (br.of (am (top 72)) ["_law_script","_law_core_here","_law_box_here","_law_name","_law_number","_law_bound_here","_law_some","_law_values_here","_law_due","_law_handed","_law_k","_law_found"]) (gw ↥7) (λ_ _ _ _=>⟨(aC (i:=0) ye U (.inl U)),cB,(aj ii ⇑hr U %[0|0])⟩) nd U U)
 (pG (cR PassesOwn.never U (bO U T.range %[aN dR pF (i7 k.bI %[dz (jS hr.units) ↥↥8 (ax %[pC|0]) (pN _)|0])|0]) (aC (i:=10) nd U (.inl U)) (pD (pL (i:=11) nd U (.inl U) (aj BP ⇑hr U %[1,3,9,5|0]))
 (pD (az (PW.pt (dk (f8 (bN (dP T.isinstance %[11,cu (v:=.ty "tuple") U T.tuple (u:=.type "tuple") (by left) U|0]))) (dk (f8 (bN (BT T.isinstance %[↥↥11,cu (v:=.ty "list") U T.list (u:=.type "list") (by left) U|0]))) (cP (pM (jS hr.units) ↥11 ↥8 (pN _)))))) (pG (ak ld)) aq)
 (pD (az (pM (jS hr.units) ↥9 (gx (own:=["_law_value_here"]) (outs:=[]) U (br.of (am (top 72)) ["_law_script","_law_core_here","_law_box_here","_law_name","_law_number","_law_bound_here","_law_some","_law_values_here","_law_due","_law_handed","_law_k","_law_found"]) (gw ↥7) (λ_ _ _ _=>⟨(aC (i:=0) ye U (.inl U)),cB,(aj ii ⇑hr U %[0|0])⟩)) (pN _)) (pG (ak ld)) aq)
 (pG (aH (cT ↥↥11 %[bR|0])))))))))))))))
 (pG (ak ld))))),?_⟩
   dsimp only[be];refine aE λlB kJ=>?_;refine⟨_,U,a,ns,U,hA,hns,λvc hs rs fs os H1 s1 tc co=>?_⟩;obtain⟨F,eF,cr⟩:=yF co;rw[eF] at tc;refine kJ _ _ (aE λvW tE=>?_);refine⟨_,U,a,ns,10,U,hA.same s1,hns,∅,∅,λbx H2 s2 hbx bxv=>?_⟩;have tc2:=tc.same s2;refine tE _ _ (aE λC5 Bw=>?_);have out:∀ σ Hi,C5 σ Hi:=λσ Hi=>Bw _ _ (q Hi);obtain⟨ca,cs,rfl,hca,hcs⟩:=(show TD K H2 vc (.tuple [.tuple (F.map fnD),.tuple (rs.map λn=>.int ((n:Nat):Int)),.tuple (os.map opD)]) from tc2).tup_of;obtain⟨z1,z2,z3,rfl,u1,u2,u3⟩:=cJ hcs;obtain⟨fa,ffs,rfl,hfa,hffs⟩:=u1.tup_of;obtain⟨oa,ops,rfl,hoa,hops⟩:=u3.tup_of;have ol:ops.length=os.length:=by rw[hops.length,lMp]
   have ol4:=cr.ol;refine⟨_,U,ca,_,_,_,U,U,hca,pH (j:=2) U,oa,U,⟨_,hoa⟩,?_⟩;show aO _ _ _ _ _ _;refine aO.byN (cX (xs:=ops)) (λi σ Hi=>Sm1 bx H2 Hi/\(∃ ki,fZ Hi bx ki/\ki<=10*((i:Nat):Int))/\∃ x3 x4 x5 x6 x7 x8 x9 x10 x11,σ=[some (.ref a),some (.ref ca),some (.ref bx),x3,x4,x5,x6,x7,x8,x9,x10,x11]) ⟨.refl,⟨0,bxv,∅⟩,_,_,_,_,_,_,_,_,_,U⟩ (λ_ _ _ _ z=>hoa.tk (z.1.tk bxv)) ?_ (λσ Hi _=>out σ Hi);rintro i u σ Hi N_ B_ hN_ hB_ hu' ⟨si,⟨ki,bi,hki⟩,x3,x4,x5,x6,x7,x8,x9,x10,x11,rfl⟩;obtain⟨d,hd,td⟩:=hops.get hu';rw[gEM] at hd;obtain⟨⟨nm,kk⟩,hp,rfl⟩:=oMS.mp hd;have tki:=si.tk bxv;obtain⟨pa,ps,rfl,hpa,hps⟩:=(show TD K Hi u (.tuple [.str nm,.int ((kk:Nat):Int)]) from td.tk tki).tup_of;obtain⟨p1,p2,rfl,w1,w2⟩:=iD hps;cases w1;cases w2;refine⟨pa,_,U,hpa,U,_,_,U,_,_,U,U,?_⟩;have hi4:i<os.length:=(gES.mp hp).1;have hkF:kk<F.length:=by
    obtain⟨k',kl,ek⟩:=cr.oo _ (mGE hp);cases ek;rw[cr.fl];exact kl
   obtain⟨fn,hfn⟩:∃ fn,F[kk]?=some fn:=⟨_,gEE hkF⟩;obtain⟨i1,hi1,hne1⟩:=sq cr.oo co.hl hp;have c2:=cr.c2 fn (mGE hfn);have hjF:(F.map fnD)[kk]?=some (fnD fn):=by rw[gEM,hfn];rfl
   obtain⟨vf1,e1',tf⟩:=iB hffs hjF;obtain⟨pf,pfs,rfl,hpf,hpfs⟩:=(show TD K H2 vf1 (.tuple [.str fn.hd,.int ((fn.ct:Nat):Int),exD fn.bd]) from tf).tup_of;obtain⟨b1,b2,b3,rfl,w1,w2,w3⟩:=cJ hpfs;cases w2;refine⟨_,U,bx,ki,4,U,bi,∅,∅,∅,λr H3 r0 r1 mo b3'=>?_⟩;refine⟨kH,λLb hLb=>?_⟩;have kL:=smu (o:=HO.lst [.int r,.int 6,.int 8]) hLb;have b4:=e9 b3' kL;have s4:Sm1 bx H2 (upd H3 Lb (.lst [.int r,.int 6,.int 8])):=(si.trans (.mo mo)).trans (.of kL);have hL4:(upd H3 Lb (.lst [.int r,.int 6,.int 8])) Lb=some (.lst [.int r,.int 6,.int 8]):=pE;have nLb:Lb≠bx:=λe=>by obtain⟨_,_,h,_⟩:=b3';rw[<- e,hLb] at h;cases h
   refine⟨Lb,U,⟨_,SqL.of hL4⟩,?_⟩;generalize upd H3 Lb (.lst [.int r,.int 6,.int 8])=H4 at b4 s4 hL4 ⊢;show aO _ _ _ _ _ _;refine aO.byN (df (xs:=[V.int r,.int 6,.int 8])) (λj σ Hj=>Sm1 bx H4 Hj/\(∃ kj,fZ Hj bx kj/\kj<=ki+1+2*((j:Nat):Int))/\∃ x5 x6 x7 x8 x9 x10 x11,σ=[some (.ref a),some (.ref ca),some (.ref bx),some (.str nm),some (.int ((kk:Nat):Int)),x5,x6,x7,x8,x9,x10,x11]) ⟨.refl,⟨_,b4,∅⟩,_,_,_,_,_,_,_,U⟩ (λ_ _ _ _ z=>SqL.of (z.1 _ _ nLb hL4)) ?_ ?_
   case refine_2 =>
    rintro σ Hj ⟨sj,⟨kj,bj,hkj⟩,y5,y6,y7,y8,y9,y10,y11,rfl⟩;have hkj:kj<=ki+1+2*3:=hkj;exact hN_ _ _ ⟨s4.trans sj,⟨kj,bj,∅⟩,_,_,_,_,_,_,_,_,_,U⟩
   rintro j u2 σ Hj DJ DS CV DE hu2 ⟨sj,⟨kj,bj,hkj⟩,y5,y6,y7,y8,y9,y10,y11,rfl⟩;obtain⟨b0,rfl,hb0,hb8,hj3⟩:∃ b0,u2=.int b0/\0<=b0/\b0<=8/\j<3:=by
    match j,hu2 with
    | 0,h=>cases h;exact⟨r,U,r0,∅,∅⟩
    | 1,h=>cases h;exact⟨6,U,∅,∅,∅⟩
    | 2,h=>cases h;exact⟨8,U,∅,∅,∅⟩
    | n+3,h=>cases h
   refine aE λDR g1_=>?_;refine⟨_,U,kH,λt1 ht1=>⟨dB,λa1 ha1=>?_⟩⟩;have kA1:=smu (o:=HO.tup [.int 1,.int 0,.int 5]) ht1;have kA2:=smu (o:=HO.tup [.str "row",.ref t1]) ha1;have qA:HdV K (upd (upd Hj t1 (.tup [.int 1,.int 0,.int 5])) a1 (.tup [.str "row",.ref t1])) (.ref a1) (.row [1,0,5]):=.row (SqT.of pE) ((SqT.of pE).tk kA2.tk);have kA:=kA1.trans kA2;generalize upd (upd Hj t1 (.tup [.int 1,.int 0,.int 5])) a1 (.tup [.str "row",.ref t1])=HA at kA qA ⊢;refine⟨mh,λt2 ht2=>⟨dB,λa2 ha2=>?_⟩⟩;have kB1:=smu (o:=HO.tup []) ht2;have kB2:=smu (o:=HO.tup [.str "row",.ref t2]) ha2;have qB:HdV K (upd (upd HA t2 (.tup [])) a2 (.tup [.str "row",.ref t2])) (.ref a2) (.row []):=.row (SqT.of pE) ((SqT.of pE).tk kB2.tk);have kB:=kB1.trans kB2;generalize upd (upd HA t2 (.tup [])) a2 (.tup [.str "row",.ref t2])=HB at kB qB ⊢;refine⟨_,U,Dl,λt3 ht3=>⟨dB,λa3 ha3=>?_⟩⟩;have kC1:=smu (o:=HO.tup [.int 3,.int (-1),.int 4,.int 1,.int 5,.int 9,.int 2,.int 6]) ht3;have kC2:=smu (o:=HO.tup [.str "row",.ref t3]) ha3;have qC:HdV K (upd (upd HB t3 (.tup [.int 3,.int (-1),.int 4,.int 1,.int 5,.int 9,.int 2,.int 6])) a3 (.tup [.str "row",.ref t3])) (.ref a3) (.row [3,-1,4,1,5,9,2,6]):=.row (SqT.of pE) ((SqT.of pE).tk kC2.tk);have kC:=kC1.trans kC2;refine⟨Dl,λLs hLs=>?_⟩;have kD:=smu (o:=HO.lst [.int 0,.int 1,.int 2,.int (-32768),.int 32767,.ref a1,.ref a2,.ref a3]) hLs;have pS:Paired (HdV K (upd (upd (upd HB t3 (.tup [.int 3,.int (-1),.int 4,.int 1,.int 5,.int 9,.int 2,.int 6])) a3 (.tup [.str "row",.ref t3])) Ls (.lst [.int 0,.int 1,.int 2,.int (-32768),.int 32767,.ref a1,.ref a2,.ref a3]))) [V.int 0,.int 1,.int 2,.int (-32768),.int 32767,.ref a1,.ref a2,.ref a3] iX :=
    .cons (.int _) (.cons (.int _) (.cons (.int _) (.cons (.int _) (.cons (.int _) (.cons (((qA.tk kB.tk).tk kC.tk).tk kD.tk) (.cons ((qB.tk kC.tk).tk kD.tk) (.cons (qC.tk kD.tk) .nil)))))))
   have k5:=((kA.trans kB).trans kC).trans kD;have hLs5:(upd (upd (upd HB t3 (.tup [.int 3,.int (-1),.int 4,.int 1,.int 5,.int 9,.int 2,.int 6])) a3 (.tup [.str "row",.ref t3])) Ls (.lst [.int 0,.int 1,.int 2,.int (-32768),.int 32767,.ref a1,.ref a2,.ref a3])) Ls=some (.lst [.int 0,.int 1,.int 2,.int (-32768),.int 32767,.ref a1,.ref a2,.ref a3]):=pE;have nLs:Ls≠bx:=λe=>by
    obtain⟨_,_,h,_⟩:=bj;rw[<- e] at h;have:=((kA.trans kB).trans kC) _ _ h;rw[hLs] at this;cases this
   refine g1_ _ _ (aE λDQ g2_=>?_);generalize upd (upd (upd HB t3 (.tup [.int 3,.int (-1),.int 4,.int 1,.int 5,.int 9,.int 2,.int 6])) a3 (.tup [.str "row",.ref t3])) Ls (.lst [.int 0,.int 1,.int 2,.int (-32768),.int 32767,.ref a1,.ref a2,.ref a3])=H5 at pS k5 hLs5 ⊢;clear kD kC kC1 kC2 qC kB kB1 kB2 qB kA kA1 kA2 qA hLs;have b5:=e9 bj k5;have s5:Sm1 bx H2 H5:=(s4.trans sj).trans (.of k5);have t25:=s5.tk bxv;rw[iK,eO];refine⟨_,U,ca,_,_,_,U,U,hca.tk t25,pH (j:=0) U,_,U,fa,_,_,_,U,U,hfa.tk t25,pH (j:=kk) e1',pf,_,_,_,U,U,hpf.tk t25,pH (j:=1) U,_,U,∅,∅,λG hG=>?_⟩;rw[show ((fn.ct:Nat):Int).toNat=fn.ct from Int.toNat_natCast _];have k0:=smu (o:=HO.lst []) hG;have nG:G≠bx:=λe=>by obtain⟨_,_,h,_⟩:=b5;rw[<- e,hG] at h;cases h
   refine cN.by (bu (n:=fn.ct)) (λm σ Hm=>Sm1 bx H5 Hm/\(∃ us ws km,Hm G=some (.lst us)/\Paired (HdV K Hm) us ws/\ws.length=m/\(∀ w∈ws,w∈iX)/\fZ Hm bx km/\km<=kj+((m:Nat):Int))/\∃ y,σ=[y,some (.ref Ls),some (.ref bx)]) ⟨.of k0,⟨[],[],kj,pE,.nil,U,(λw hw=>nomatch hw),e9 b5 k0,∅⟩,_,U⟩ (λ_ _ _ _ _=>trivial) ?_ ?_
   · rintro m u3 σ Hm hu3 ⟨sm,⟨us,ws,km,hGm,pm,lm,wm,bm,hkm⟩,y,rfl⟩;have hm:m<fn.ct:=by have:=(gES.mp hu3).1;rwa [bh] at this
     rw[ce,dC];refine aL ⟨_,U,_,U,bx,km,8,U,bm,∅,∅,∅,λr' H6 r0' r1' mo6 b6=>?_⟩;obtain⟨j6,rfl⟩:=Int.eq_ofNat_of_zero_le r0';have s56:=sm.trans (.mo mo6);have hLs6:=s56 _ _ nLs hLs5;have l8:j6<8:=∅
     have hv6:([V.int 0,.int 1,.int 2,.int (-32768),.int 32767,.ref a1,.ref a2,.ref a3]:List V)[j6]?=some ([V.int 0,.int 1,.int 2,.int (-32768),.int 32767,.ref a1,.ref a2,.ref a3][j6]'(by show j6<8;exact l8)):=gEE _;have hw6:iX[j6]?=some (iX[j6]'(by show j6<8;exact l8)):=gEE _;have hd6:=(ba pS hv6 hw6).tk (s56.tk b5);generalize ([V.int 0,.int 1,.int 2,.int (-32768),.int 32767,.ref a1,.ref a2,.ref a3][j6]'(by show j6<8;exact l8))=v6 at hv6 hd6;have wm6:iX[j6]'(by show j6<8;exact l8)∈iX:=List.getElem_mem _;generalize iX[j6]'(by show j6<8;exact l8)=w6 at hd6 wm6;have hG6:=(mo6 G nG).trans hGm;have ul:=aA pm;have t6:Tk Hm H6:=(Sm1.mo mo6).tk bm;have t7:Tk H6 (upd H6 G (.lst (us++[v6]))):=(Fw.upd (p:=λa=>a=G) U (dS hG6)).tk;refine⟨Ls,_,_,_,U,U,SqL.of hLs6,pH (j:=j6) hv6,us,hG6,∅,s56.put hG,⟨us++[v6],ws++[w6],km+1,pE,bK (ah pm λ_ _ z=>(z.tk t6).tk t7) (.cons (hd6.tk t7) .nil),by rw[lAp,lm];rfl,λw hw=>?_,vq b6 nG,∅⟩,_,U⟩
     rcases mAp.mp hw with hw | hw
     · exact wm w hw
     · rw[mSg.mp hw];exact wm6
   rintro σ Hm ⟨sm,⟨us,ws,km,hGm,pm,lm,wm,bm,hkm⟩,y,rfl⟩;rw[bh] at lm hkm;refine g2_ _ _ (aE λDP g3_=>?_);have s25:=s5.trans sm;have t26:=s25.tk bxv;have tc6:TD K Hm (.ref ca) (coreD F rs os):=tc2.tk t26;obtain⟨v,g',s',e1,sim⟩:=xz cr hfn (uP wm) lm hb0 hb8;refine⟨_,U,_,U,_,U,_,U,.ref ca,F,rs,os,kk,fn,G,us,ws,b0,v,g',s',U,tc6,cr.fk,hfn,hGm,pm,lm,e1,λr8 H8 s8 due=>?_⟩;refine g3_ _ _ (aE λDO D4=>?_);have hG8:=s8 _ _ hGm;have pm8:=ah pm λ_ _ z=>z.tk s8.tk;have ul:=aA pm;rw[iK,eO];refine⟨_,U,G,U,⟨_,SqL.of hG8⟩,λGh hGh=>?_⟩;have kp0:=smu (o:=HO.lst []) hGh;refine cN.by (df (xs:=us)) (λm σ Hm'=>aI H8 Hm'/\(∃ hh,Hm' Gh=some (.lst hh)/\Paired (ArV K Hm') hh ((ws.take m).map lH)/\hh.length=m)/\∃ y,σ=[y]) ⟨kp0,⟨[],pE,.nil,U⟩,_,U⟩ (λ_ _ _ _ z=>SqL.of (z.1 _ _ hG8)) ?_ ?_
   · rintro m u5 σ Hm' hu5 ⟨sm',⟨hh',hGm',ph',lh'⟩,y',rfl⟩;have hm:m<us.length:=(gES.mp hu5).1;have hwm:ws[m]?=some (ws[m]'∅):=gEE _;have hdm:=ba pm8 hu5 hwm;rw[ce,dC];refine aL ⟨_,U,(λ_=>False),u5,_,U,hdm.ev sm'.tk,rm (wm _ (mGE hwm)),λv' av=>⟨hh',hGm',∅,λa v e=>?_,⟨hh'++[v'],pE,?_,by rw[lAp,lh'];rfl⟩,_,U⟩⟩
     · rw[af (ao e hGh)];exact sm' _ _ e
     · have t7:Tk Hm' (upd Hm' Gh (.lst (hh'++[v']))):=(Fw.upd (p:=λa=>a=Gh) U (dS hGm')).tk;rw[tAO,hwm,List.map_append];exact bK (ah ph' λ_ _ z=>z.tk t7) (.cons (av.tk t7) .nil)
   rintro σ H9 ⟨k9,⟨hh,hGh9,ph9,lh9⟩,y,rfl⟩;rw[ul,List.take_length] at ph9;have due9:=due.same k9;refine D4 _ _ ?_;obtain⟨dd,ed,eqd⟩:=sB v s';obtain⟨da8,pe8,us8,hr8,hda8,pl8,dpe8⟩:=due9;refine⟨_,U,r8,_,_,_,U,U,hr8,pH (j:=1) U,me,λpl hpl=>?_⟩;have kE:=smu (o:=HO.tup [.str "long"]) hpl;have shl:SeqAt.shaped (.tuple [.str "long"])=true:=by left
   have shd:SeqAt.shaped (iZ v s')=true:=by
    by_cases lg:isL s'.en=true
    · unfold iZ;rw[uM lg];exact shl
    · obtain⟨n,S,rn,en,eD⟩:=sim (rV lg);exact (oA en (rn.he cr.fk.x (vN (cr.fk.x fn (mGE hfn))) (.non U))).sh ∅
   refine⟨_,_,dpe8.same kE,.tup (SqT.of pE) (.cons (.str _) .nil),shd,shl,.inr ⟨_,U,_,_,U,U,.inl ⟨∅,∅⟩,_,U,?_⟩⟩;rw[ed,eqd];have k10:=k9.trans kE;have hh10:=kE _ _ hGh9;have due10:lZ K (upd H9 pl (.tup [.str "long"])) r8 s'.D (iZ v s'):=(due.same k9).same kE;have ph10:=ah ph9 λ_ _ z=>z.tk kE.tk;have pm10:=ah pm8 λ_ _ z=>z.tk k10.tk;have hG10:=k10 _ _ hG8;generalize upd H9 pl (.tup [.str "long"])=H10 at k10 hh10 due10 ph10 pm10 hG10 ⊢;have s210:Sm1 bx H2 H10:=(s25.trans (.of s8)).trans (.of k10);have bm10:=e9 (e9 bm s8) k10;have fin:∀ σ' Hf x8 x9 x10 x11 x7 x6 x5,aI H10 Hf->σ'=[some (.ref a),some (.ref ca),some (.ref bx),some (.str nm),some (.int ((kk:Nat):Int)),x5,x6,x7,x8,x9,x10,x11]->DJ σ' Hf:=λσ' Hf x8 x9 x10 x11 x7 x6 x5 kf e=>by
    rw[e];exact CV _ _ ⟨((((Sm1.trans sj (.of k5)).trans sm).trans (.of s8)).trans (.of k10)).trans (.of kf),⟨km,e9 bm10 kf,∅⟩,_,_,_,_,_,_,_,U⟩
   by_cases lg:isL s'.en=true
   · rw[lg];refine⟨∅,∅,?_⟩;show aO _ _ _ _ _ _;refine aO.byN (bu (n:=0)) (λt σ Ht=>t=0/\aI H10 Ht/\∃ x5 x6 x7 x8 x9 x10 x11,σ=[some (.ref a),some (.ref ca),some (.ref bx),some (.str nm),some (.int ((kk:Nat):Int)),x5,x6,x7,x8,x9,x10,x11]) ⟨U,aI.refl _,_,_,_,_,_,_,_,U⟩ (λ_ _ _ _ _=>trivial) ?_ ?_
     · rintro t u4 σ Ht DI DK Bv CY hu4 _;cases hu4
     · rintro σ Ht ⟨_,kt,w5,w6,w7,w8,w9,w10,w11,e⟩;exact fin _ _ _ _ _ _ _ _ _ kt e
   rw[show isL s'.en=false by simpa using lg];obtain⟨n,S,rn,en,eD⟩:=sim (rV lg);have hsd:=oA en (rn.he cr.fk.x (vN (cr.fk.x fn (mGE hfn))) (.non U));refine⟨∅,∅,?_⟩;show aO _ _ _ _ _ _;refine aO.byN (bu (n:=2)) (λt σ Ht=>aI H10 Ht/\∃ x6 x10 x11,σ=[some (.ref a),some (.ref ca),some (.ref bx),some (.str nm),some (.int ((kk:Nat):Int)),some (.int b0),x6,some (.ref G),some (.ref r8),some (.ref Gh),x10,x11]) ⟨aI.refl _,_,_,_,U⟩ (λ_ _ _ _ _=>trivial) ?_ ?_
   case refine_2 =>
    rintro σ Ht ⟨kt,w6,w10,w11,e⟩;exact fin _ _ _ _ _ _ _ _ _ kt e
   rintro t u4 σ Ht DI DK Bv CY hu4 ⟨kt,w6,w10,w11,rfl⟩;have tct:TD K Ht (.ref ca) (coreD F rs os):=tc2.tk ((s210.trans (.of kt)).tk bxv);refine aE λDN D3=>?_;refine⟨_,U,_,U,_,U,_,U,.ref ca,Gh,hh,ws.map lH,F,rs,os,nm,i1,kk,fn,b0,n,S,iZ v s',U,tct,kt _ _ hh10,hi1,hne1,hfn,by rw[lMp];exact lm,ah ph10 λ_ _ z=>z.tk kt.tk,cr.fk.c,cr.fk.x,rn,en,λr9 H11 s11 res=>?_⟩;refine D3 _ _ (aE λDM D2=>?_);have dv:=res.dat;rw[eD] at dv;obtain⟨da,pe,us9,g1,g2,g3,g4,g5,g6⟩:=res;have K11:=kt.trans s11;have dv2:=(due10.same K11).dat;refine⟨_,U,.one (.ref r9) _ _ _ _ U (.ty "tuple") (.tup g1) rR ⟨_,U,ai ?_⟩⟩;refine⟨_,U,r9,_,_,_,U,U,g1,pH (j:=0) U,da,us9,"list",true,U,g2,rR,⟨_,U,ai ?_⟩⟩;refine⟨_,U,_,U,og dv dv2 (uv hsd) ⟨_,U,ai (D2 _ _ (aE λDL DH=>?_))⟩⟩;have hG11:=K11 _ _ hG10;have pm11:=ah pm10 λ_ _ z=>z.tk K11.tk;have hh11:=K11 _ _ hh10;have ph11:=ah ph10 λ_ _ z=>z.tk K11.tk;refine⟨_,U,?_⟩;rw[eO];refine⟨_,U,G,U,⟨_,SqL.of hG11⟩,λGi hGi=>?_⟩;have kp0:=smu (o:=HO.lst []) hGi;refine cN.by (df (xs:=us)) (λm σ Hm'=>aI H11 Hm'/\(∃ hh,Hm' Gi=some (.lst hh)/\Paired (ArV K Hm') hh ((ws.take m).map lH)/\hh.length=m)/\∃ y,σ=[y]) ⟨kp0,⟨[],pE,.nil,U⟩,_,U⟩ (λ_ _ _ _ z=>SqL.of (z.1 _ _ hG11)) ?_ ?_
   · rintro m u5 σ Hm' hu5 ⟨sm',⟨hh',hGm',ph',lh'⟩,y',rfl⟩;have hm:m<us.length:=(gES.mp hu5).1;have hwm:ws[m]?=some (ws[m]'∅):=gEE _;have hdm:=ba pm11 hu5 hwm;rw[ce,dC];refine aL ⟨_,U,(λ_=>False),u5,_,U,hdm.ev sm'.tk,rm (wm _ (mGE hwm)),λv' av=>⟨hh',hGm',∅,λa v e=>?_,⟨hh'++[v'],pE,?_,by rw[lAp,lh'];rfl⟩,_,U⟩⟩
     · rw[af (ao e hGi)];exact sm' _ _ e
     · have t7:Tk Hm' (upd Hm' Gi (.lst (hh'++[v']))):=(Fw.upd (p:=λa=>a=Gi) U (dS hGm')).tk;rw[tAO,hwm,List.map_append];exact bK (ah ph' λ_ _ z=>z.tk t7) (.cons (av.tk t7) .nil)
   rintro σ H12 ⟨k12,⟨hh',hGh12,ph12,lh12⟩,y,rfl⟩;rw[ul,List.take_length] at ph12;refine og (.lst (SqL.of (k12 _ _ hh11)) (oH (ah ph11 λ_ _ z=>z.tk k12.tk))) (.lst (SqL.of hGh12) (oH ph12)) tK ⟨_,U,ai (DH _ _ ?_)⟩;have g2':=k12 _ _ g2;have lus:=aA g3;refine⟨_,U,r9,_,_,_,U,U,g1.tk k12.tk,pH (j:=0) U,.inl ⟨U,_,SqL.of g2'⟩,da,us9,_,U,U,g2',∅,?_⟩;refine Bv _ _ ⟨λx o z=>?_,_,_,_,U⟩;have zt:=kt _ _ z;rw[af (ao zt g5)];exact k12 _ _ (s11 _ _ zt)
end
def tw (w:World) (es:List DictEntry) (vs:List (Key×Value)):Prop:=Paired (λ(e:DictEntry) (kv:Key×Value)=>∃ x t,kv.1=.inr x/\e.key=.str x t/\e.hash=hashStr w x/\e.val=kv.2) es vs
def mU {P:Program} {w:World} {es:List DictEntry} {vs:List (Key×Value)} (h:tw w es vs):Pairs (aP P w) es vs:=by
 induction (show Paired _ es vs from h) with
 | nil=>exact .nil
 | cons z r ih =>
  obtain⟨x,t,e1,e2,e3,e4⟩:=z;exact .cons (by rw[e1,e2];exact fu P w x t) e4 (ih r)
def pX {P:Program} {w:World} {es:List DictEntry} {vs:List (Key×Value)} (h:tw w es vs):∀ e∈es,∃ k,(aP P w).is k e.key=true/\e.hash=(aP P w).hash k:=by
 induction (show Paired _ es vs from h) with
 | nil=>exact λe h=>by cases h
 | cons z r ih =>
  intro e h;obtain⟨x,t,e1,e2,e3,e4⟩:=z
  rcases List.mem_cons.mp h with rfl | h
  · exact⟨.inr x,by rw[e2];exact fu P w x t,e3⟩
  · exact ih r e h
def isd {P:Program} {w:World} {es:List DictEntry} {vs:List (Key×Value)} {ep:Nat} (h:tw w es vs) (nd:(vs.map (·.1)).Nodup):Obj.IsDictOf (aP P w) {cls:=.type "dict",dict:=none,data:=.dict es.toArray ep,slots:=#[]} vs :=
 ⟨es.toArray,ep,⟨U,U,U⟩,U,λe he=>pX h e (List.mem_toArray.mp he),mU h,nd⟩
def ml {zs:List Str} {its:Array Value} (v:aT (zs.map V.str) its.toList) (h:zs.length<=50):its.size<=sizeLine:=by
 have e:=v.length;rw[lMp] at e;have e2:its.toList.length=its.size:=Array.length_toList;have:(50:Nat)<=sizeLine:=∅
 lia
def zj (K:Fg):List Row->Prop
  | []=>True
  | e::r=>K.lookup e.2.2.1=some (FT (e.2.2.2.map λs=>.str s.1 s.2))/\zj K r
def kvE (es:List Row):List (Key×V):=es.map λe=>(.inr e.1,.ref e.2.2.1)
def vaE (es:List Row):List (Key×Value):=es.map λe=>(.inr e.1,.ref e.2.2.1)
def kN:∀ (l:List (Str×Nat)),aT ((l.map Prod.fst).map V.str) (l.map λs=>Value.str s.1 s.2):=by
 intro l
 induction l with
 | nil=>exact .nil
 | cons a r ih=>exact .cons ⟨a.2,U⟩ ih
def xA {K:Fg}:∀ {es:List Row},zj K es->(es.map (·.1)).Nodup->∀ k sl,(k,sl)∈(es.map λe=>(e.1,e.2.2.2.map Prod.fst))->∃ (r:Addr) (l:List (Str×Nat)),cz (kvE es) (.inr k)=some (.ref r)/\l.map Prod.fst=sl/\K.lookup r=some (FT (l.map λs=>.str s.1 s.2)):=by
 intro es
 induction es with
 | nil=>exact λ_ _ k sl h=>absurd h nMN
 | cons e r ih =>
  intro ha nd k sl h;obtain⟨n1,n2⟩:=List.nodup_cons.mp nd
  rcases List.mem_cons.mp h with h | h
  · cases h;refine⟨e.2.2.1,e.2.2.2,?_,U,ha.1⟩;show (List.find? _ ((_,_)::_)).map _=_;rw[List.find?_cons_of_pos (by simp)];rfl
  · obtain⟨r',l,h1,h2,h3⟩:=ih ha.2 n2 k sl h;refine⟨r',l,?_,h2,h3⟩;have ne:e.1≠k:=λc=>n1 (by
      obtain⟨e',he',q⟩:=List.mem_map.mp h;exact List.mem_map.mpr ⟨e',he',(congrArg Prod.fst q).trans c.symm⟩)
    show (List.find? _ ((_,_)::_)).map _=_;rw[List.find?_cons_of_neg (by simpa using ne)];exact h1
def tY {P:Program} {w:World} {K:Fg} {mg:SOV} {aR:Addr} {ep:Nat} (es:List Row) (hm:mg "SLOTS"=some (.ref aR)) (hR:K.lookup aR=some (FD w.params (es.map xC) ep)) (sR:(aR==sysModules)=false) (ht:zj K es) (e0:(es.map λe=>(e.1,e.2.2.2.map Prod.fst))=P10.tbl) (hn:(es.map (·.1)).Nodup) (hw:∀ e∈es,e.2.2.2.length<=50):Glb P w K mg:=by
 have en:∀ l:List Row,tw w ((l.map xC).map λx=>(⟨PyData.keyHash w.params x.1,.str x.1 x.2.1,x.2.2⟩:DictEntry)) (vaE l):=by
  intro l
  induction l with
  | nil=>exact .nil
  | cons e r ih=>exact .cons ⟨e.1,e.2.1,U,U,U,U⟩ ih
 have ek:∀ l:List Row,KV (kvE l) (vaE l):=by
  intro l
  induction l with
  | nil=>exact .nil
  | cons e r ih=>exact .cons ⟨U,U⟩ ih
 have nv:((vaE es).map (·.1)).Nodup:=by
  unfold vaE;rw[List.map_map];show (es.map ((Sum.inr:Str->Key)∘λe=>e.1)).Nodup;rw[<- List.map_map];refine List.pairwise_map.mpr (hn.imp ?_);exact λh c=>h (Sum.inr.inj c)
 refine⟨aR,kvE es,hm,⟨_,vaE es,hR,isd (en es) nv,ek es,sR⟩,λk sl h=>?_⟩;rw[<- e0] at h;obtain⟨r,l,h1,h2,h3⟩:=xA ht hn k sl h;have hl:l.length<=50:=by
  obtain⟨e,he,q⟩:=List.mem_map.mp h;have:=hw e he;have q2:=congrArg (List.length∘Prod.snd) q;have q3:=congrArg List.length h2;simp at q2 q3;omega
 refine⟨r,h1,λH=>.inr ⟨_,_,0,h3,U,U,?_,?_⟩⟩
 · exact ml (zs:=l.map Prod.fst) (kN l) (by rw[lMp];exact hl)
 · rw[<- h2];exact kN l
def kvF (es:List (Str×Nat×Addr)):List (Key×V):=es.map λe=>(.inr e.1,.ref e.2.2)
def uX {mg:SOV} {kvs:List (Key×V)} {a1 a2 a3 a4 a5 a6 a7 a8 a9 a10 a11 a12 a13 a14 a15 a16 a17:Addr} (h1:cz kvs (.inr "number")=some (.ref a1)) (h2:cz kvs (.inr "name")=some (.ref a2)) (h3:cz kvs (.inr "let")=some (.ref a3)) (h4:cz kvs (.inr "var")=some (.ref a4)) (h5:cz kvs (.inr "set")=some (.ref a5)) (h6:cz kvs (.inr "do")=some (.ref a6)) (h7:cz kvs (.inr "if")=some (.ref a7)) (h8:cz kvs (.inr "while")=some (.ref a8)) (h9:cz kvs (.inr "each")=some (.ref a9)) (h10:cz kvs (.inr "say")=some (.ref a10)) (h11:cz kvs (.inr "fault")=some (.ref a11)) (h12:cz kvs (.inr "op")=some (.ref a12)) (h13:cz kvs (.inr "new")=some (.ref a13)) (h14:cz kvs (.inr "get")=some (.ref a14)) (h15:cz kvs (.inr "fun")=some (.ref a15)) (h16:cz kvs (.inr "apply")=some (.ref a16)) (h17:cz kvs (.inr "call")=some (.ref a17))
 (m1:mg "finish_number"=some (.ref a1)) (m2:mg "finish_name"=some (.ref a2)) (m3:mg "finish_let"=some (.ref a3)) (m4:mg "finish_let"=some (.ref a4)) (m5:mg "finish_set"=some (.ref a5)) (m6:mg "finish_do"=some (.ref a6)) (m7:mg "finish_if"=some (.ref a7)) (m8:mg "finish_while"=some (.ref a8)) (m9:mg "finish_each"=some (.ref a9)) (m10:mg "finish_say"=some (.ref a10)) (m11:mg "finish_fault"=some (.ref a11)) (m12:mg "finish_op"=some (.ref a12)) (m13:mg "finish_new"=some (.ref a13)) (m14:mg "finish_get"=some (.ref a14)) (m15:mg "finish_fun"=some (.ref a15)) (m16:mg "finish_apply"=some (.ref a16)) (m17:mg "finish_call"=some (.ref a17)):∀ p∈fps,∃ f,cz kvs (.inr p.1)=some (.ref f)/\mg p.2.1=some (.ref f):=by
 intro p hp;unfold fps at hp;simp only[List.mem_cons,nMN,or_false] at hp
 rcases hp with rfl | rfl | rfl | rfl | rfl | rfl | rfl | rfl | rfl | rfl | rfl | rfl | rfl | rfl | rfl | rfl | rfl
 · exact⟨_,h1,m1⟩
 · exact⟨_,h2,m2⟩
 · exact⟨_,h3,m3⟩
 · exact⟨_,h4,m4⟩
 · exact⟨_,h5,m5⟩
 · exact⟨_,h6,m6⟩
 · exact⟨_,h7,m7⟩
 · exact⟨_,h8,m8⟩
 · exact⟨_,h9,m9⟩
 · exact⟨_,h10,m10⟩
 · exact⟨_,h11,m11⟩
 · exact⟨_,h12,m12⟩
 · exact⟨_,h13,m13⟩
 · exact⟨_,h14,m14⟩
 · exact⟨_,h15,m15⟩
 · exact⟨_,h16,m16⟩
 · exact⟨_,h17,m17⟩
def yw {P:Program} {w:World} {K:Fg} {mg:SOV} {aR:Addr} {ep:Nat} (es:List (Str×Nat×Addr)) (hm:mg "FINISHERS"=some (.ref aR)) (hR:K.lookup aR=some (FD w.params (es.map xB) ep)) (sR:(aR==sysModules)=false) (hn:(es.map (·.1)).Nodup) (hf:∀ p∈fps,∃ f,cz (kvF es) (.inr p.1)=some (.ref f)/\mg p.2.1=some (.ref f)):Fsh P w K mg:=by
 have en:∀ l:List (Str×Nat×Addr),tw w ((l.map xB).map λx=>(⟨PyData.keyHash w.params x.1,.str x.1 x.2.1,x.2.2⟩:DictEntry)) (l.map λe=>((.inr e.1:Key),Value.ref e.2.2)):=by
  intro l
  induction l with
  | nil=>exact .nil
  | cons e r ih=>exact .cons ⟨e.1,e.2.1,U,U,U,U⟩ ih
 have ek:∀ l:List (Str×Nat×Addr),KV (kvF l) (l.map λe=>((.inr e.1:Key),Value.ref e.2.2)):=by
  intro l
  induction l with
  | nil=>exact .nil
  | cons e r ih=>exact .cons ⟨U,U⟩ ih
 have nv:((es.map λe=>((.inr e.1:Key),Value.ref e.2.2)).map (·.1)).Nodup:=by
  rw[List.map_map];show (es.map ((Sum.inr:Str->Key)∘λe=>e.1)).Nodup;rw[<- List.map_map];refine List.pairwise_map.mpr (hn.imp ?_);exact λh c=>h (Sum.inr.inj c)
 exact⟨aR,kvF es,hm,⟨_,_,hR,isd (en es) nv,ek es,sR⟩,hf⟩
def aD {K:Fg} {h:Heap} {mg:SOV} {x:Str} {st:Stmt} {f:Addr} {oc:Value} {od an:Option Addr} {osl:Array (Option Value)} {kV doc pm cdv ct:Value} (X:K.In h) (G:h.Ns mainGlobals mg)
 (l:K.lookup f=some ⟨oc,od,.func (PySem.W.fnOf x x (cK st) (aM st) (am st) .none kV doc pm an cdv ct),osl⟩) (a:PySem.W.nsIn K mainGlobals x=some (some (.ref f)):=by right)
 (c:PySem.W.codeIn K cdv x=true:=by right) (k:PySem.W.keepIn K (.ref f)=true:=by right):Def K mg x st:=⟨f,_,dE l c k,PySem.W.mg_of X G a⟩
def yX {l:PySem.W.OpenLaw} {w:World} {K:Fg} {h:Heap} {mg:SOV} {fa fl:Addr} {c:Ks} (X:K.In h) (G:h.Ns mainGlobals mg) (hfa:mg "law"=some (.ref fa)) (C:Glb l.prog w K mg) (Fs:Fsh l.prog w K mg) (T:Blt mg) (k:KC K mg c) (nDi:mg "dict"=none)
 (iM:lU K c.cm "Made.__init__" (aQ (top 9) 0)) (iF:lU K c.cf "Fun.__init__" (aQ (top 10) 0)) (iC:lU K c.cc "Machine.__init__" (sM 0)) (m1:gR K c.cc "wait" "Machine.wait" (sM 1)) (m2:gR K c.cc "begin" "Machine.begin" (sM 2)) (m3:gR K c.cc "tell" "Machine.tell" (sM 3)) (m4:gR K c.cc "take" "Machine.take" (sM 4)) (m5:gR K c.cc "fault" "Machine.fault" (sM 5)) (m6:gR K c.cc "tick" "Machine.tick" (sM 6))
 (d2:Def K mg "children_of" (top 2)) (d11:Def K mg "worth" (top 11)) (d12:Def K mg "look" (top 12)) (d13:Def K mg "row_of" (top 13)) (d14:Def K mg "taken_in" (top 14)) (d15:Def K mg "of_worths" (top 15)) (d16:Def K mg "op_fault" (top 16)) (d17:Def K mg "op_value" (top 17)) (d20:Def K mg "bound_names" (top 20)) (d21:Def K mg "box_of" (top 21)) (d22:Def K mg "finish_number" (top 22)) (d23:Def K mg "finish_name" (top 23)) (d24:Def K mg "finish_let" (top 24)) (d25:Def K mg "finish_set" (top 25)) (d26:Def K mg "finish_do" (top 26)) (d27:Def K mg "finish_if" (top 27)) (d28:Def K mg "finish_while" (top 28)) (d29:Def K mg "finish_each" (top 29)) (d30:Def K mg "finish_say" (top 30)) (d31:Def K mg "finish_fault" (top 31)) (d32:Def K mg "finish_op" (top 32)) (d33:Def K mg "finish_new" (top 33)) (d34:Def K mg "finish_get" (top 34)) (d35:Def K mg "finish_fun" (top 35)) (d36:Def K mg "finish_apply" (top 36)) (d37:Def K mg "finish_call" (top 37)) (d39:Def K mg "first_things" (top 39)) (d40:Def K mg "do_next" (top 40)) (d41:Def K mg "opened" (top 41)) (d42:Def K mg "run" (top 42)) (d44:Def K mg "_law_box" (top 44)) (d45:Def K mg "_law_take" (top 45)) (d46:Def K mg "_law_leaf" (top 46)) (d47:Def K mg "_law_fresh" (top 47)) (d48:Def K mg "_law_many" (top 48)) (d49:Def K mg "_law_binder" (top 49)) (d50:Def K mg "_law_op" (top 50)) (d51:Def K mg "_law_record" (top 51)) (d52:Def K mg "_law_call" (top 52)) (d53:Def K mg "_law_flow" (top 53)) (d54:Def K mg "_law_e" (top 54)) (d55:Def K mg "_law_core" (top 55)) (d56:Def K mg "_law_worth" (top 56)) (d57:Def K mg "_law_look" (top 57)) (d58:Def K mg "_law_ended" (top 58)) (d59:Def K mg "_law_ticked" (top 59)) (d60:Def K mg "_law_sum" (top 60)) (d61:Def K mg "_law_values" (top 61)) (d62:Def K mg "_law_goes" (top 62)) (d63:Def K mg "_law_loop" (top 63)) (d64:Def K mg "_law_applied" (top 64)) (d65:Def K mg "_law_called" (top 65)) (d66:Def K mg "_law_bound" (top 66)) (d67:Def K mg "_law_got" (top 67)) (d68:Def K mg "_law_other" (top 68)) (d69:Def K mg "_law_value" (top 69)) (d70:Def K mg "_law_run" (top 70)) (d71:Def K mg "_law_plain" (top 71))
 {od an:Option Addr} {osl:Array (Option Value)} {oc kV doc pm cdv ct:Value} (a1:PySem.W.nsIn K mainGlobals "law"=some (some (.ref fl))) (l1:K.lookup fl=some ⟨oc,od,.func (PySem.W.fnOf "law" "law" (cK (top 72)) (aM (top 72)) (am (top 72)) .none kV doc pm an cdv ct),osl⟩) (e1:PySem.W.codeIn K cdv "law"=true) (k1:PySem.W.keepIn K (.ref fl)=true) :
 ∃ fd:FuncData,(∀ (s:Shared) (v:Value),BindsTo s fd ⟨[v],[]⟩ [("_law_script",v)])/\∀ base:Heap,K.In base->base.Ns mainGlobals mg->eW l.prog w K mg base CX0 693 fa fd ["_law_script"] (nM K):=by
 cases hfa.symm.trans (PySem.W.mg_of X G a1);have FL:=dE (st:=top 72) l1 e1 k1;refine⟨PySem.W.fnOf "law" "law" (cK (top 72)) (aM (top 72)) (am (top 72)) .none kV doc pm an cdv ct,λs v=>.of_eq U,λbase _ _=>?_⟩;have fWo:=AJ (P:=l.prog) (w:=w) (base:=base) d11 T k;have fLk:=B6 (P:=l.prog) (w:=w) (base:=base) d12 T k;have fRo:=AS (P:=l.prog) (w:=w) (base:=base) d13 T k;have fOf:=AX (P:=l.prog) (w:=w) (base:=base) d16 T fWo fRo;have fOv:=AV (P:=l.prog) (w:=w) (base:=base) d17 T fWo fRo (AU d15 (AM d14 k));have M1:=AI (P:=l.prog) (w:=w) (base:=base) m1 k;have M2:=Bl (P:=l.prog) (w:=w) (base:=base) m2 k M1;have M3:=AK (P:=l.prog) (w:=w) (base:=base) m3 k;have M4:=AO (P:=l.prog) (w:=w) (base:=base) m4 T k;have M5:=B9 (P:=l.prog) (w:=w) (base:=base) m5 k;have M6:=AN (P:=l.prog) (w:=w) (base:=base) m6 k;have bM:=yd (P:=l.prog) (w:=w) (base:=base) (c:=c) d20 T;have bT:=yc (P:=l.prog) (w:=w) (base:=base) (c:=c) d20 T;have fBo:=Bk (P:=l.prog) (w:=w) (base:=base) d21;have fin:∀ p∈fps,Fn l.prog w K mg base p.2.1 5 bq (cW K c p.2.2):=by
  intro p hp;unfold fps at hp;simp only[List.mem_cons,nMN,or_false] at hp
  rcases hp with rfl | rfl | rfl | rfl | rfl | rfl | rfl | rfl | rfl | rfl | rfl | rfl | rfl | rfl | rfl | rfl | rfl
  · exact mS d22 k M3
  · exact sr d23 k M3 fBo
  · exact oy d24 k M2 bM
  · exact oy d24 k M2 bM
  · exact uS d25 k M3 fBo
  · exact yC d26 k M3
  · exact yB d27 k M2 fWo
  · exact pU d28 k M3 M2 M1 M6 fWo
  · exact ss d29 k T M2 M1 fRo bT
  · exact uT d30 k M3 fLk
  · exact pV d31 k M5
  · exact yA d32 k M3 M5 fOf fOv
  · exact uU d33 k M3 (AY iM k)
  · exact uV d34 k T M3 M5
  · exact uW d35 k M3 (Ba iF k)
  · exact pW d36 k T M2 M5 M6 bM
  · exact su d37 k T M2 M6 bM
 have fCh:=Bi (P:=l.prog) (w:=w) (base:=base) d2 T C;have fDn:=Bf (P:=l.prog) (w:=w) (base:=base) d40 k T Fs fin M2 M1 M3 M4 (B8 d39 fCh);have fRu:=AR (P:=l.prog) (w:=w) (base:=base) d42 k T (AW d41 T) (Bh iC k) M2 bM fDn fLk;have fTk:=AL (P:=l.prog) (w:=w) (base:=base) d45;have fBx:=Bj (P:=l.prog) (w:=w) (base:=base) d44 T k.bI;have fE:=Q19.ok_es (P:=l.prog) (w:=w) (base:=base) T d54 d48 d49 d50 d51 d52 d53 fTk (Q19.ok_lf d46 T fTk) (Q19.ok_fr d47) 4;have fEd:=Bb (P:=l.prog) (w:=w) (base:=base) d58;have fTi:=xQ (P:=l.prog) (w:=w) (base:=base) d59 fEd;have fLw:=AZ (P:=l.prog) (w:=w) (base:=base) d56 T k;have fLL:=B5 (P:=l.prog) (w:=w) (base:=base) d57 T k;have EV:=yD (P:=l.prog) (w:=w) (base:=base) ⟨d69,d66,d63,d64,d65,d67,d68,d61,d62⟩ T k nDi fEd fTi fLw fLL (AQ d60 T k fLw fEd) 688;exact xR FL T k (Q19.ok_co d55 T fTk fBx fE) fBx fTk (B0 d70 T EV.fv fLL nDi) (B4 d71 T k) fRu
def C8 {l:PySem.W.OpenLaw} {q:Program} {loose:List Str} {XP:(Str->Option Value)->Heap->Prop} {YP:World->Heap->Prop} {d:DefRec} {K:Params->Fg} (hn:l.most=some 63) (hdf:d.params.defaults=[])
 (hY:∀ (w:World) (h:Heap),YP w h->(K w.params).In h)
 (F:∀ (w:World) (mg:SOV) (fa:Addr) (h:Heap),(K w.params).In h->h.Ns mainGlobals mg->mg d.name=some (.ref fa) ->
   ∃ fd:FuncData,(∀ (s:Shared) (u:Value),BindsTo s fd ⟨[u],[]⟩ [("_law_script",u)])/\∀ base:Heap,(K w.params).In base->base.Ns mainGlobals mg->eW l.prog w (K w.params) mg base CX0 693 fa fd ["_law_script"] (nM (K w.params))) :
 PySem.W.WalkO q loose XP YP l.row.toRowW d [] (λf vs=>PySem.call f vs) :=
 L2.nF (n:=63) (k:=693) (x:="_law_script") (CX:=λ_=>CX0) (sp:=λw=>nM (K w.params)) hn ∅ hdf ⟨U,∅,∅,U⟩ hY F (λ_ _ a ns hl _ hS=>⟨a,ns,U,hS,hl,λ_=>rfl⟩) λ_ _ _ _ _ z=>z
def lkF {K:Fg} {f:Addr} (x q:Str) (st:Stmt) (m:Value) (c:Nat) (h:K.lookup f=some (FF x q st m c):=by right):K.lookup f=some ⟨.type "function",none,.func (PySem.W.fnOf x q (cK st) (aM st) (am st) .none .none .none m none (.ref c) .none),#[]⟩:=h
def dm {K:Fg} {h:Heap} {mg:SOV} (X:K.In h) (G:h.Ns mainGlobals mg) (f:Addr) (x:Str) (i:Nat) (m:Value) (h1:K.lookup f=some (FF x x (top i) m (f-1)):=by right) (a:PySem.W.nsIn K mainGlobals x=some (some (.ref f)):=by right) (c:PySem.W.codeIn K (.ref (f-1)) x=true:=by right) (k:PySem.W.keepIn K (.ref f)=true:=by right):Def K mg x (top i):=aD X G (lkF x x (top i) m (f-1) h1) a c k
open PySem PySem.W PyProof.Rows
set_option maxRecDepth 100000 in
set_option maxHeartbeats 0 in
def fin:PySem.Challenge.rw_turnsame_k19_runs.Holds:=by
 refine preH λd hdn hdd=>C8 (l:=PySem.Challenge.rw_turnsame_k19_runs) rfl hdd (λw h Y=>PySem.W.kIn_of Y) ?F
 case F =>
  intro w mg fa h X G hmg;rw[hdn] at hmg;have none_:∀ {x:Str},PySem.W.nsIn (KF w.params) mainGlobals x=some none->mg x=none:=λe=>PySem.W.mg_none_of X G e;have mo:∀ {x:Str} {v:Value},PySem.W.nsIn (KF w.params) mainGlobals x=some (some v)->mg x=some v:=λz=>PySem.W.mg_of X G z;refine yX X G hmg (c:=⟨81,102,212⟩) (tY (ep:=17) SL (mo (show _=some (some (Value.ref 15)) by right)) (by right) ∅ (by repeat' (first | exact trivial | refine⟨by right,?_⟩)) (by right) (by left) (by left))
   (yw (ep:=17) FI (mo (show _=some (some (Value.ref 343)) by right)) (by right) ∅ (by left) (uX (a1:=237) (a2:=244) (a3:=251) (a4:=251) (a5:=258) (a6:=265) (a7:=272) (a8:=279) (a9:=286) (a10:=293) (a11:=300) (a12:=307) (a13:=314) (a14:=321) (a15:=328) (a16:=335) (a17:=342) (by right) (by right) (by right) (by right) (by right) (by right) (by right) (by right) (by right) (by right) (by right) (by right) (by right) (by right) (by right) (by right) (by right) (mo (by right)) (mo (by right)) (mo (by right)) (mo (by right)) (mo (by right)) (mo (by right)) (mo (by right)) (mo (by right)) (mo (by right)) (mo (by right)) (mo (by right)) (mo (by right)) (mo (by right)) (mo (by right)) (mo (by right)) (mo (by right)) (mo (by right)))) ⟨none_ (by right),none_ (by right),none_ (by right),none_ (by right),none_ (by right),none_ (by right),none_ (by right),none_ (by right)⟩
   ⟨⟨⟨by right,by right,by right,by right⟩,by right,by right,by right,by right⟩,⟨⟨by right,by right,by right,by right⟩,by right,by right,by right,by right⟩,⟨by right,by right,by right,by right⟩,
     (λx=>by cases x <;> right),(λx=>by cases x <;> right),(λx=>by cases x <;> right),(λx=>by cases x <;> right),(λx=>by cases x <;> right),(by unfold bp;right),(by unfold bp;right),(by unfold bp;right),(by unfold bp;right),(by unfold bp;right),(by unfold bp;right),(by unfold bp;right),(by unfold bp;right),(by unfold bp;right),(by unfold bp;right),(by unfold bp;right),mo (by right),mo (by right),mo (by right),none_ (by right),⟨306,mo (by right)⟩,⟨308,mo (by right)⟩⟩
   (none_ (by right))
   ⟨78,_,dE (st:=aQ (top 9) 0) (lkF "__init__" "Made.__init__" (aQ (top 9) 0) M1 77) (by right) (by right),⟨by right,by right,by right,by right⟩⟩
   ⟨99,_,dE (st:=aQ (top 10) 0) (lkF "__init__" "Fun.__init__" (aQ (top 10) 0) M1 98) (by right) (by right),⟨by right,by right,by right,by right⟩⟩
   ⟨167,_,dE (st:=aQ (top 19) 0) (lkF "__init__" "Machine.__init__" (aQ (top 19) 0) M2 166) (by right) (by right),⟨by right,by right,by right,by right⟩⟩
   ⟨174,_,dE (st:=aQ (top 19) 1) (lkF "wait" "Machine.wait" (aQ (top 19) 1) M2 173) (by right) (by right),⟨by right,by right,by right⟩⟩
   ⟨181,_,dE (st:=aQ (top 19) 2) (lkF "begin" "Machine.begin" (aQ (top 19) 2) M2 180) (by right) (by right),⟨by right,by right,by right⟩⟩
   ⟨188,_,dE (st:=aQ (top 19) 3) (lkF "tell" "Machine.tell" (aQ (top 19) 3) M2 187) (by right) (by right),⟨by right,by right,by right⟩⟩
   ⟨195,_,dE (st:=aQ (top 19) 4) (lkF "take" "Machine.take" (aQ (top 19) 4) M2 194) (by right) (by right),⟨by right,by right,by right⟩⟩
   ⟨202,_,dE (st:=aQ (top 19) 5) (lkF "fault" "Machine.fault" (aQ (top 19) 5) M2 201) (by right) (by right),⟨by right,by right,by right⟩⟩
   ⟨209,_,dE (st:=aQ (top 19) 6) (lkF "tick" "Machine.tick" (aQ (top 19) 6) M2 208) (by right) (by right),⟨by right,by right,by right⟩⟩
   (dm X G 39 "children_of" 2 M0)
   (dm X G 113 "worth" 11 M1)
   (dm X G 120 "look" 12 M1)
   (dm X G 127 "row_of" 13 M1)
   (dm X G 134 "taken_in" 14 M1)
   (dm X G 141 "of_worths" 15 M1)
   (dm X G 148 "op_fault" 16 M1)
   (dm X G 153 "op_value" 17 M1)
   (dm X G 223 "bound_names" 20 M2)
   (dm X G 230 "box_of" 21 M2)
   (dm X G 237 "finish_number" 22 M2)
   (dm X G 244 "finish_name" 23 M2)
   (dm X G 251 "finish_let" 24 M2)
   (dm X G 258 "finish_set" 25 M2)
   (dm X G 265 "finish_do" 26 M2)
   (dm X G 272 "finish_if" 27 M2)
   (dm X G 279 "finish_while" 28 M2)
   (dm X G 286 "finish_each" 29 M2)
   (dm X G 293 "finish_say" 30 M2)
   (dm X G 300 "finish_fault" 31 M2)
   (dm X G 307 "finish_op" 32 M2)
   (dm X G 314 "finish_new" 33 M2)
   (dm X G 321 "finish_get" 34 M2)
   (dm X G 328 "finish_fun" 35 M2)
   (dm X G 335 "finish_apply" 36 M2)
   (dm X G 342 "finish_call" 37 M2)
   (dm X G 350 "first_things" 39 M2)
   (dm X G 357 "do_next" 40 M2)
   (dm X G 364 "opened" 41 M2)
   (dm X G 371 "run" 42 M2)
   (dm X G 378 "_law_box" 44 M3)
   (dm X G 385 "_law_take" 45 M3)
   (dm X G 392 "_law_leaf" 46 M3)
   (dm X G 399 "_law_fresh" 47 M3)
   (dm X G 404 "_law_many" 48 M3)
   (dm X G 409 "_law_binder" 49 M3)
   (dm X G 416 "_law_op" 50 M3)
   (dm X G 423 "_law_record" 51 M3)
   (dm X G 428 "_law_call" 52 M3)
   (dm X G 435 "_law_flow" 53 M3)
   (dm X G 442 "_law_e" 54 M3)
   (dm X G 447 "_law_core" 55 M3)
   (dm X G 454 "_law_worth" 56 M3)
   (dm X G 461 "_law_look" 57 M3)
   (dm X G 468 "_law_ended" 58 M3)
   (dm X G 475 "_law_ticked" 59 M3)
   (dm X G 480 "_law_sum" 60 M3)
   (dm X G 485 "_law_values" 61 M3)
   (dm X G 492 "_law_goes" 62 M3)
   (dm X G 499 "_law_loop" 63 M3)
   (dm X G 506 "_law_applied" 64 M3)
   (dm X G 511 "_law_called" 65 M3)
   (dm X G 518 "_law_bound" 66 M3)
   (dm X G 525 "_law_got" 67 M3)
   (dm X G 532 "_law_other" 68 M3)
   (dm X G 539 "_law_value" 69 M3)
   (dm X G 544 "_law_run" 70 M3)
   (dm X G 551 "_law_plain" 71 M3)
   (fl:=556) (by right) (lkF "law" "law" (top 72) M3 555) (by right) (by right)
end K19
theorem PySem.Challenge.cw_turnsame_k19_runs_holds : PySem.Challenge.rw_turnsame_k19_runs.Holds := by
 exact K19.fin
