import PyProof.Rows.All
import KE.KDictOf
import KE.KIntText
import KE.KFromBytes
import KE.KIsAll
import KE.BitLaws
import KE.KTurns
import KE.KItem
import PySem.Challenge.RW_lampforge_k62_works_not_looked_at_togeth
set_option genSizeOfSpec false
noncomputable section
set_option Elab.async false
set_option linter.all false
set_option maxRecDepth 100000
namespace L2
open PySem PySem.Spec PyProof.Rows
def inClass(s:Stmt)(j:Nat):Stmt:=match s with
 | .ClassDef _ _ _ body _ _ _ _ _ _ _=>body.getD j (.Pass ⟨0,0,0,0⟩)
 | _=>.Pass ⟨0,0,0,0⟩
def z_j(s:Stmt):Arguments:=match s with
 | .FunctionDef _ a _ _ _ _ _ _ _ _=>a
 | _=>{ posonlyargs:=[],args:=[],vararg:=none,kwonlyargs:=[],kw_defaults:=[],kwarg:=none,defaults:=[] }
def z_i(s:Stmt):List Stmt:=match s with
 | .FunctionDef _ _ b _ _ _ _ _ _ _=>b
 | _=>[]
def z_f(s:Stmt):Scope:=match s with
 | .FunctionDef _ _ _ _ _ _ sc _ _ _=>sc
 | _=>{ kind:=.function,names:=[],isGenerator:=false,isCoroutine:=false }
end L2
namespace K62
open PySem L2
def top(i:Nat):Stmt:=PySem.Challenge.pw_lampforge_k62_works_not_looked_at_togeth.main.body.getD i (.Pass ⟨0,0,0,0⟩)
abbrev z_z:Stmt:=top 1
abbrev z_w:Stmt:=top 2
abbrev x_e:Stmt:=top 3
abbrev y_x:Stmt:=top 20
abbrev y_h:Stmt:=top 21
abbrev x_f:Stmt:=top 22
abbrev y_e:Stmt:=top 24
abbrev y_o:Stmt:=top 26
abbrev y_j:Stmt:=top 29
abbrev y_w:Stmt:=top 30
abbrev z_s:Stmt:=top 31
abbrev y_v:Stmt:=top 32
abbrev z_o:Stmt:=top 33
abbrev y_f:Stmt:=top 34
abbrev z_y:Stmt:=top 35
abbrev y_g:Stmt:=top 36
abbrev y_i:Stmt:=top 37
abbrev s_meet:Stmt:=top 38
abbrev s_way_to:Stmt:=top 39
abbrev y_n:Stmt:=top 41
abbrev s_L_bag:Stmt:=top 42
abbrev s_L_take:Stmt:=top 43
abbrev s_L_work:Stmt:=top 44
abbrev x_d:Stmt:=top 45
abbrev s_L_said:Stmt:=top 46
abbrev s_L_good:Stmt:=top 47
abbrev s_law:Stmt:=top 48
abbrev s_NoName_init:Stmt:=inClass (top 7) 0
abbrev s_Twice_init:Stmt:=inClass (top 8) 0
abbrev s_Never_init:Stmt:=inClass (top 9) 0
abbrev s_NoWidth_init:Stmt:=inClass (top 10) 0
abbrev s_NoPart_init:Stmt:=inClass (top 11) 0
abbrev s_Ring_init:Stmt:=inClass (top 13) 0
abbrev s_NoPaper_init:Stmt:=inClass (top 15) 0
abbrev hS(x:String)(t:Nat):Value:=.str (Str.ofString x) t
abbrev hE(P:Params)(x:String)(t:Nat)(v:Value):DictEntry:=⟨PyData.keyHash P (Str.ofString x),.str (Str.ofString x) t,v⟩
abbrev hF(n q:String)(st:Stmt)(df kd doc pm:Value)(an:Option Addr)(cd ct:Value):Obj:=⟨.type "function",none,.func (PySem.W.fnOf n q (z_j st) (z_i st) (z_f st) df kd doc pm an cd ct),#[]⟩
abbrev hC(n q:String)(t:Nat)(l a k:Int)(r1 r2:Nat)(x y:Value)(r3:Nat)(u:Int)(z:Nat):Obj:=⟨.type "code",none,.fields [hS n t,hS q (t+1),hS "/claim/cut.py" (t+2),.int l 0,.int a 0,.int 0 0,.int 0 0,.int k 0,.ref r1,.bool true,.int 181 0,.ref r2,.none,x,y,.ref r3,.int u 0,.int l 0,hS "/claim/cut.py" z].toArray,#[]⟩
def hK:Params->PySem.W.Frag:=fun P =>
 (nat_lit 2,⟨.none,none,.dict ([]).toArray 0,#[]⟩) ::
 (nat_lit 3,⟨(.type "dict"),none,.dict (hE P "__name__" 165 (hS "law_lampforge_k62_works_not_looked_at_togeth" 646)::hE P "__doc__" 166 .none::hE P "__package__" 167 .none::hE P "__loader__" 168 (.builtin "__main__.__loader__#opaque")::hE P "__spec__" 169 .none::hE P "__annotations__" 170 (.ref 6)::hE P "__builtins__" 171 (.ref 4)::hE P "__file__" 173 (hS "/claim/cut.py" 172)::hE P "__cached__" 174 .none::hE P "first_stand" 194 (.ref 19)::hE P "bits_of_ends" 208 (.ref 26)::hE P "beat_by" 214 (.ref 31)::hE P "ForgeError" 234 (.ref 41)::hE P "NoPlan" 250 (.ref 54)::hE P "NoName" 277 (.ref 73)::hE P "Twice" 304 (.ref 92)::hE P "Never" 331 (.ref 111)::hE P "NoWidth" 358 (.ref 130)::hE P "NoPart" 385 (.ref 149)::hE P "TooMuch" 401 (.ref 161)::hE P "Ring" 426 (.ref 180)::hE P "NoPair" 442 (.ref 192)::hE P "NoPaper" 469 (.ref 211)::hE P "NoWord" 485 (.ref 223)::hE P "NoText" 501 (.ref 235)::hE P "NoRow" 517 (.ref 247)::hE P "is_whole" 526 (.ref 256)::hE P "is_between" 535 (.ref 263)::hE P "bits_of" 545 (.ref 270)::hE P "all_stands" 553 (.ref 275)::hE P "look_pair" 563 (.ref 282)::hE P "MOST_INS" 567 (.int 6 566)::hE P "look_small" 575 (.ref 289)::hE P "is_table" 581 (.ref 294)::hE P "is_joint_stand" 590 (.ref 301)::hE P "is_stand" 596 (.ref 306)::hE P "first_joint_stand" 604 (.ref 313)::hE P "beats_from" 610 (.ref 318)::hE P "beats_apart" 616 (.ref 323)::hE P "bits_among" 622 (.ref 328)::hE P "least_beat" 630 (.ref 335)::hE P "meet" 636 (.ref 340)::hE P "way_to" 645 (.ref 347)::hE P "_law_cell_at" 655 (.ref 354)::hE P "_law_bag" 664 (.ref 361)::hE P "_law_take" 673 (.ref 368)::hE P "_law_work" 679 (.ref 373)::hE P "_law_asked" 689 (.ref 380)::hE P "_law_said" 702 (.ref 387)::hE P "_law_good" 713 (.ref 394)::hE P "law" 719 (.ref 399)::[]).toArray 51,#[]⟩) ::
 (nat_lit 18,hC "first_stand" "first_stand" 189 2 1 3 15 16 .none .none 17 192 193) ::
 (nat_lit 19,hF "first_stand" "first_stand" z_z .none .none .none (hS "lampforge.beats" 187) none (.ref 18) .none) ::
 (nat_lit 25,hC "bits_of_ends" "bits_of_ends" 195 4 4 3 20 21 (.ref 22) (.ref 23) 24 206 207) ::
 (nat_lit 26,hF "bits_of_ends" "bits_of_ends" z_w .none .none .none (hS "lampforge.beats" 187) none (.ref 25) .none) ::
 (nat_lit 30,hC "beat_by" "beat_by" 209 17 4 3 27 28 .none .none 29 212 213) ::
 (nat_lit 31,hF "beat_by" "beat_by" x_e .none .none .none (hS "lampforge.beats" 187) none (.ref 30) .none) ::
 (nat_lit 39,⟨(.type "tuple"),none,.seq [].toArray 0,#[]⟩) ::
 (nat_lit 40,⟨(.type "dict"),none,.dict (hE P "__module__" 224 (hS "lampforge.errors" 215)::hE P "__firstlineno__" 228 (.int 21 227)::hE P "__static_attributes__" 229 (.ref 39)::hE P "__weakref__" 231 (.ref 42)::hE P "__doc__" 232 .none::[]).toArray 3,#[]⟩) ::
 (nat_lit 41,⟨(.type "type"),none,.cls { name := "ForgeError",bases:=[(.type "ValueError")],mro:=[(.ref 41),(.type "ValueError"),(.type "Exception"),(.type "BaseException"),(.type "object")],ns:=40,qualname := "ForgeError",hasDict:=true,subclasses:=[(.ref 54),(.ref 73),(.ref 92),(.ref 111),(.ref 130),(.ref 149),(.ref 161),(.ref 180),(.ref 192),(.ref 211),(.ref 223),(.ref 235),(.ref 247)],abstract:=false,hasDel:=false },#[some (.ref 32),none,some (hS "ForgeError" 217),some (hS "ForgeError" 225),some (.builtin "ValueError.__new__"),some (.bool true)]⟩) ::
 (nat_lit 42,⟨(.type "getset_descriptor"),none,.fields [(hS "__weakref__" 230),(.ref 41),(.builtin "ExceptionGroup.__weakref__"),.none].toArray,#[]⟩) ::
 (nat_lit 52,⟨(.type "tuple"),none,.seq [].toArray 0,#[]⟩) ::
 (nat_lit 53,⟨(.type "dict"),none,.dict (hE P "__module__" 242 (hS "lampforge.errors" 215)::hE P "__firstlineno__" 246 (.int 23 245)::hE P "__static_attributes__" 247 (.ref 52)::hE P "__doc__" 248 .none::[]).toArray 2,#[]⟩) ::
 (nat_lit 54,⟨(.type "type"),none,.cls { name := "NoPlan",bases:=[(.ref 41)],mro:=[(.ref 54),(.ref 41),(.type "ValueError"),(.type "Exception"),(.type "BaseException"),(.type "object")],ns:=53,qualname := "NoPlan",hasDict:=true,subclasses:=[],abstract:=false,hasDel:=false },#[some (.ref 45),none,some (hS "NoPlan" 235),some (hS "NoPlan" 243),some (.builtin "ValueError.__new__"),some (.bool true)]⟩) ::
 (nat_lit 69,hC "__init__" "NoName.__init__" 263 27 3 3 64 65 (.ref 66) (.ref 67) 68 269 270) ::
 (nat_lit 70,hF "__init__" "NoName.__init__" s_NoName_init .none .none .none (hS "lampforge.errors" 215) none (.ref 69) .none) ::
 (nat_lit 71,⟨(.type "tuple"),none,.seq [(hS "name" 272),(hS "part" 273)].toArray 0,#[]⟩) ::
 (nat_lit 72,⟨(.type "dict"),none,.dict (hE P "__module__" 258 (hS "lampforge.errors" 215)::hE P "__firstlineno__" 262 (.int 25 261)::hE P "__init__" 271 (.ref 70)::hE P "__static_attributes__" 274 (.ref 71)::hE P "__doc__" 275 .none::[]).toArray 2,#[]⟩) ::
 (nat_lit 73,⟨(.type "type"),none,.cls { name := "NoName",bases:=[(.ref 41)],mro:=[(.ref 73),(.ref 41),(.type "ValueError"),(.type "Exception"),(.type "BaseException"),(.type "object")],ns:=72,qualname := "NoName",hasDict:=true,subclasses:=[],abstract:=false,hasDel:=false },#[some (.ref 57),none,some (hS "NoName" 251),some (hS "NoName" 259),some (.builtin "ValueError.__new__"),some (.bool true)]⟩) ::
 (nat_lit 88,hC "__init__" "Twice.__init__" 290 33 3 3 83 84 (.ref 85) (.ref 86) 87 296 297) ::
 (nat_lit 89,hF "__init__" "Twice.__init__" s_Twice_init .none .none .none (hS "lampforge.errors" 215) none (.ref 88) .none) ::
 (nat_lit 90,⟨(.type "tuple"),none,.seq [(hS "name" 299),(hS "part" 300)].toArray 0,#[]⟩) ::
 (nat_lit 91,⟨(.type "dict"),none,.dict (hE P "__module__" 285 (hS "lampforge.errors" 215)::hE P "__firstlineno__" 289 (.int 31 288)::hE P "__init__" 298 (.ref 89)::hE P "__static_attributes__" 301 (.ref 90)::hE P "__doc__" 302 .none::[]).toArray 2,#[]⟩) ::
 (nat_lit 92,⟨(.type "type"),none,.cls { name := "Twice",bases:=[(.ref 41)],mro:=[(.ref 92),(.ref 41),(.type "ValueError"),(.type "Exception"),(.type "BaseException"),(.type "object")],ns:=91,qualname := "Twice",hasDict:=true,subclasses:=[],abstract:=false,hasDel:=false },#[some (.ref 76),none,some (hS "Twice" 278),some (hS "Twice" 286),some (.builtin "ValueError.__new__"),some (.bool true)]⟩) ::
 (nat_lit 107,hC "__init__" "Never.__init__" 317 39 3 3 102 103 (.ref 104) (.ref 105) 106 323 324) ::
 (nat_lit 108,hF "__init__" "Never.__init__" s_Never_init .none .none .none (hS "lampforge.errors" 215) none (.ref 107) .none) ::
 (nat_lit 109,⟨(.type "tuple"),none,.seq [(hS "name" 326),(hS "part" 327)].toArray 0,#[]⟩) ::
 (nat_lit 110,⟨(.type "dict"),none,.dict (hE P "__module__" 312 (hS "lampforge.errors" 215)::hE P "__firstlineno__" 316 (.int 37 315)::hE P "__init__" 325 (.ref 108)::hE P "__static_attributes__" 328 (.ref 109)::hE P "__doc__" 329 .none::[]).toArray 2,#[]⟩) ::
 (nat_lit 111,⟨(.type "type"),none,.cls { name := "Never",bases:=[(.ref 41)],mro:=[(.ref 111),(.ref 41),(.type "ValueError"),(.type "Exception"),(.type "BaseException"),(.type "object")],ns:=110,qualname := "Never",hasDict:=true,subclasses:=[],abstract:=false,hasDel:=false },#[some (.ref 95),none,some (hS "Never" 305),some (hS "Never" 313),some (.builtin "ValueError.__new__"),some (.bool true)]⟩) ::
 (nat_lit 126,hC "__init__" "NoWidth.__init__" 344 45 3 3 121 122 (.ref 123) (.ref 124) 125 350 351) ::
 (nat_lit 127,hF "__init__" "NoWidth.__init__" s_NoWidth_init .none .none .none (hS "lampforge.errors" 215) none (.ref 126) .none) ::
 (nat_lit 128,⟨(.type "tuple"),none,.seq [(hS "name" 353),(hS "part" 354)].toArray 0,#[]⟩) ::
 (nat_lit 129,⟨(.type "dict"),none,.dict (hE P "__module__" 339 (hS "lampforge.errors" 215)::hE P "__firstlineno__" 343 (.int 43 342)::hE P "__init__" 352 (.ref 127)::hE P "__static_attributes__" 355 (.ref 128)::hE P "__doc__" 356 .none::[]).toArray 2,#[]⟩) ::
 (nat_lit 130,⟨(.type "type"),none,.cls { name := "NoWidth",bases:=[(.ref 41)],mro:=[(.ref 130),(.ref 41),(.type "ValueError"),(.type "Exception"),(.type "BaseException"),(.type "object")],ns:=129,qualname := "NoWidth",hasDict:=true,subclasses:=[],abstract:=false,hasDel:=false },#[some (.ref 114),none,some (hS "NoWidth" 332),some (hS "NoWidth" 340),some (.builtin "ValueError.__new__"),some (.bool true)]⟩) ::
 (nat_lit 145,hC "__init__" "NoPart.__init__" 371 51 3 3 140 141 (.ref 142) (.ref 143) 144 377 378) ::
 (nat_lit 146,hF "__init__" "NoPart.__init__" s_NoPart_init .none .none .none (hS "lampforge.errors" 215) none (.ref 145) .none) ::
 (nat_lit 147,⟨(.type "tuple"),none,.seq [(hS "name" 380),(hS "part" 381)].toArray 0,#[]⟩) ::
 (nat_lit 148,⟨(.type "dict"),none,.dict (hE P "__module__" 366 (hS "lampforge.errors" 215)::hE P "__firstlineno__" 370 (.int 49 369)::hE P "__init__" 379 (.ref 146)::hE P "__static_attributes__" 382 (.ref 147)::hE P "__doc__" 383 .none::[]).toArray 2,#[]⟩) ::
 (nat_lit 149,⟨(.type "type"),none,.cls { name := "NoPart",bases:=[(.ref 41)],mro:=[(.ref 149),(.ref 41),(.type "ValueError"),(.type "Exception"),(.type "BaseException"),(.type "object")],ns:=148,qualname := "NoPart",hasDict:=true,subclasses:=[],abstract:=false,hasDel:=false },#[some (.ref 133),none,some (hS "NoPart" 359),some (hS "NoPart" 367),some (.builtin "ValueError.__new__"),some (.bool true)]⟩) ::
 (nat_lit 159,⟨(.type "tuple"),none,.seq [].toArray 0,#[]⟩) ::
 (nat_lit 160,⟨(.type "dict"),none,.dict (hE P "__module__" 393 (hS "lampforge.errors" 215)::hE P "__firstlineno__" 397 (.int 55 396)::hE P "__static_attributes__" 398 (.ref 159)::hE P "__doc__" 399 .none::[]).toArray 2,#[]⟩) ::
 (nat_lit 161,⟨(.type "type"),none,.cls { name := "TooMuch",bases:=[(.ref 41)],mro:=[(.ref 161),(.ref 41),(.type "ValueError"),(.type "Exception"),(.type "BaseException"),(.type "object")],ns:=160,qualname := "TooMuch",hasDict:=true,subclasses:=[],abstract:=false,hasDel:=false },#[some (.ref 152),none,some (hS "TooMuch" 386),some (hS "TooMuch" 394),some (.builtin "ValueError.__new__"),some (.bool true)]⟩) ::
 (nat_lit 176,hC "__init__" "Ring.__init__" 414 59 2 3 171 172 (.ref 173) (.ref 174) 175 419 420) ::
 (nat_lit 177,hF "__init__" "Ring.__init__" s_Ring_init .none .none .none (hS "lampforge.errors" 215) none (.ref 176) .none) ::
 (nat_lit 178,⟨(.type "tuple"),none,.seq [(hS "names" 422)].toArray 0,#[]⟩) ::
 (nat_lit 179,⟨(.type "dict"),none,.dict (hE P "__module__" 409 (hS "lampforge.errors" 215)::hE P "__firstlineno__" 413 (.int 57 412)::hE P "__init__" 421 (.ref 177)::hE P "__static_attributes__" 423 (.ref 178)::hE P "__doc__" 424 .none::[]).toArray 2,#[]⟩) ::
 (nat_lit 180,⟨(.type "type"),none,.cls { name := "Ring",bases:=[(.ref 41)],mro:=[(.ref 180),(.ref 41),(.type "ValueError"),(.type "Exception"),(.type "BaseException"),(.type "object")],ns:=179,qualname := "Ring",hasDict:=true,subclasses:=[],abstract:=false,hasDel:=false },#[some (.ref 164),none,some (hS "Ring" 402),some (hS "Ring" 410),some (.builtin "ValueError.__new__"),some (.bool true)]⟩) ::
 (nat_lit 190,⟨(.type "tuple"),none,.seq [].toArray 0,#[]⟩) ::
 (nat_lit 191,⟨(.type "dict"),none,.dict (hE P "__module__" 434 (hS "lampforge.errors" 215)::hE P "__firstlineno__" 438 (.int 62 437)::hE P "__static_attributes__" 439 (.ref 190)::hE P "__doc__" 440 .none::[]).toArray 2,#[]⟩) ::
 (nat_lit 192,⟨(.type "type"),none,.cls { name := "NoPair",bases:=[(.ref 41)],mro:=[(.ref 192),(.ref 41),(.type "ValueError"),(.type "Exception"),(.type "BaseException"),(.type "object")],ns:=191,qualname := "NoPair",hasDict:=true,subclasses:=[],abstract:=false,hasDel:=false },#[some (.ref 183),none,some (hS "NoPair" 427),some (hS "NoPair" 435),some (.builtin "ValueError.__new__"),some (.bool true)]⟩) ::
 (nat_lit 207,hC "__init__" "NoPaper.__init__" 455 66 3 3 202 203 (.ref 204) (.ref 205) 206 461 462) ::
 (nat_lit 208,hF "__init__" "NoPaper.__init__" s_NoPaper_init .none .none .none (hS "lampforge.errors" 215) none (.ref 207) .none) ::
 (nat_lit 209,⟨(.type "tuple"),none,.seq [(hS "at" 464),(hS "where" 465)].toArray 0,#[]⟩) ::
 (nat_lit 210,⟨(.type "dict"),none,.dict (hE P "__module__" 450 (hS "lampforge.errors" 215)::hE P "__firstlineno__" 454 (.int 64 453)::hE P "__init__" 463 (.ref 208)::hE P "__static_attributes__" 466 (.ref 209)::hE P "__doc__" 467 .none::[]).toArray 2,#[]⟩) ::
 (nat_lit 211,⟨(.type "type"),none,.cls { name := "NoPaper",bases:=[(.ref 41)],mro:=[(.ref 211),(.ref 41),(.type "ValueError"),(.type "Exception"),(.type "BaseException"),(.type "object")],ns:=210,qualname := "NoPaper",hasDict:=true,subclasses:=[],abstract:=false,hasDel:=false },#[some (.ref 195),none,some (hS "NoPaper" 443),some (hS "NoPaper" 451),some (.builtin "ValueError.__new__"),some (.bool true)]⟩) ::
 (nat_lit 221,⟨(.type "tuple"),none,.seq [].toArray 0,#[]⟩) ::
 (nat_lit 222,⟨(.type "dict"),none,.dict (hE P "__module__" 477 (hS "lampforge.errors" 215)::hE P "__firstlineno__" 481 (.int 70 480)::hE P "__static_attributes__" 482 (.ref 221)::hE P "__doc__" 483 .none::[]).toArray 2,#[]⟩) ::
 (nat_lit 223,⟨(.type "type"),none,.cls { name := "NoWord",bases:=[(.ref 41)],mro:=[(.ref 223),(.ref 41),(.type "ValueError"),(.type "Exception"),(.type "BaseException"),(.type "object")],ns:=222,qualname := "NoWord",hasDict:=true,subclasses:=[],abstract:=false,hasDel:=false },#[some (.ref 214),none,some (hS "NoWord" 470),some (hS "NoWord" 478),some (.builtin "ValueError.__new__"),some (.bool true)]⟩) ::
 (nat_lit 233,⟨(.type "tuple"),none,.seq [].toArray 0,#[]⟩) ::
 (nat_lit 234,⟨(.type "dict"),none,.dict (hE P "__module__" 493 (hS "lampforge.errors" 215)::hE P "__firstlineno__" 497 (.int 72 496)::hE P "__static_attributes__" 498 (.ref 233)::hE P "__doc__" 499 .none::[]).toArray 2,#[]⟩) ::
 (nat_lit 235,⟨(.type "type"),none,.cls { name := "NoText",bases:=[(.ref 41)],mro:=[(.ref 235),(.ref 41),(.type "ValueError"),(.type "Exception"),(.type "BaseException"),(.type "object")],ns:=234,qualname := "NoText",hasDict:=true,subclasses:=[],abstract:=false,hasDel:=false },#[some (.ref 226),none,some (hS "NoText" 486),some (hS "NoText" 494),some (.builtin "ValueError.__new__"),some (.bool true)]⟩) ::
 (nat_lit 245,⟨(.type "tuple"),none,.seq [].toArray 0,#[]⟩) ::
 (nat_lit 246,⟨(.type "dict"),none,.dict (hE P "__module__" 509 (hS "lampforge.errors" 215)::hE P "__firstlineno__" 513 (.int 74 512)::hE P "__static_attributes__" 514 (.ref 245)::hE P "__doc__" 515 .none::[]).toArray 2,#[]⟩) ::
 (nat_lit 247,⟨(.type "type"),none,.cls { name := "NoRow",bases:=[(.ref 41)],mro:=[(.ref 247),(.ref 41),(.type "ValueError"),(.type "Exception"),(.type "BaseException"),(.type "object")],ns:=246,qualname := "NoRow",hasDict:=true,subclasses:=[],abstract:=false,hasDel:=false },#[some (.ref 238),none,some (hS "NoRow" 502),some (hS "NoRow" 510),some (.builtin "ValueError.__new__"),some (.bool true)]⟩) ::
 (nat_lit 255,hC "is_whole" "is_whole" 520 77 1 3 250 251 (.ref 252) (.ref 253) 254 524 525) ::
 (nat_lit 256,hF "is_whole" "is_whole" y_x .none .none .none (hS "lampforge.words" 518) none (.ref 255) .none) ::
 (nat_lit 262,hC "is_between" "is_between" 527 79 3 3 257 258 (.ref 259) (.ref 260) 261 533 534) ::
 (nat_lit 263,hF "is_between" "is_between" y_h .none .none .none (hS "lampforge.words" 518) none (.ref 262) .none) ::
 (nat_lit 269,hC "bits_of" "bits_of" 536 81 2 3 264 265 (.ref 266) (.ref 267) 268 543 544) ::
 (nat_lit 270,hF "bits_of" "bits_of" x_f .none .none .none (hS "lampforge.words" 518) none (.ref 269) .none) ::
 (nat_lit 274,hC "all_stands" "all_stands" 548 88 1 3 271 272 .none .none 273 551 552) ::
 (nat_lit 275,hF "all_stands" "all_stands" y_e .none .none .none (hS "lampforge.many" 546) none (.ref 274) .none) ::
 (nat_lit 281,hC "look_pair" "look_pair" 556 99 2 3 276 277 (.ref 278) (.ref 279) 280 561 562) ::
 (nat_lit 282,hF "look_pair" "look_pair" y_o .none .none .none (hS "lampforge.papers" 554) none (.ref 281) .none) ::
 (nat_lit 288,hC "look_small" "look_small" 568 104 2 3 283 284 (.ref 285) (.ref 286) 287 573 574) ::
 (nat_lit 289,hF "look_small" "look_small" y_j .none .none .none (hS "lampforge.joint" 564) none (.ref 288) .none) ::
 (nat_lit 293,hC "is_table" "is_table" 576 108 3 3 290 291 .none .none 292 579 580) ::
 (nat_lit 294,hF "is_table" "is_table" y_w .none .none .none (hS "lampforge.joint" 564) none (.ref 293) .none) ::
 (nat_lit 300,hC "is_joint_stand" "is_joint_stand" 582 120 3 3 295 296 (.ref 297) (.ref 298) 299 588 589) ::
 (nat_lit 301,hF "is_joint_stand" "is_joint_stand" z_s .none .none .none (hS "lampforge.joint" 564) none (.ref 300) .none) ::
 (nat_lit 305,hC "is_stand" "is_stand" 591 124 2 3 302 303 .none .none 304 594 595) ::
 (nat_lit 306,hF "is_stand" "is_stand" y_v .none .none .none (hS "lampforge.joint" 564) none (.ref 305) .none) ::
 (nat_lit 312,hC "first_joint_stand" "first_joint_stand" 597 128 2 3 307 308 (.ref 309) (.ref 310) 311 602 603) ::
 (nat_lit 313,hF "first_joint_stand" "first_joint_stand" z_o .none .none .none (hS "lampforge.joint" 564) none (.ref 312) .none) ::
 (nat_lit 317,hC "beats_from" "beats_from" 605 130 3 3 314 315 .none .none 316 608 609) ::
 (nat_lit 318,hF "beats_from" "beats_from" y_f .none .none .none (hS "lampforge.joint" 564) none (.ref 317) .none) ::
 (nat_lit 322,hC "beats_apart" "beats_apart" 611 143 2 3 319 320 .none .none 321 614 615) ::
 (nat_lit 323,hF "beats_apart" "beats_apart" z_y .none .none .none (hS "lampforge.joint" 564) none (.ref 322) .none) ::
 (nat_lit 327,hC "bits_among" "bits_among" 617 149 2 3 324 325 .none .none 326 620 621) ::
 (nat_lit 328,hF "bits_among" "bits_among" y_g .none .none .none (hS "lampforge.joint" 564) none (.ref 327) .none) ::
 (nat_lit 334,hC "least_beat" "least_beat" 623 151 1 3 329 330 (.ref 331) (.ref 332) 333 628 629) ::
 (nat_lit 335,hF "least_beat" "least_beat" y_i .none .none .none (hS "lampforge.joint" 564) none (.ref 334) .none) ::
 (nat_lit 339,hC "meet" "meet" 631 157 3 3 336 337 .none .none 338 634 635) ::
 (nat_lit 340,hF "meet" "meet" s_meet .none .none .none (hS "lampforge.joint" 564) none (.ref 339) .none) ::
 (nat_lit 346,hC "way_to" "way_to" 637 176 2 3 341 342 (.ref 343) (.ref 344) 345 643 644) ::
 (nat_lit 347,hF "way_to" "way_to" s_way_to .none .none .none (hS "lampforge.joint" 564) none (.ref 346) .none) ::
 (nat_lit 353,hC "_law_cell_at" "_law_cell_at" 648 184 2 3 348 349 (.ref 350) (.ref 351) 352 653 654) ::
 (nat_lit 354,hF "_law_cell_at" "_law_cell_at" y_n .none .none .none (hS "law_lampforge_k62_works_not_looked_at_togeth" 646) none (.ref 353) .none) ::
 (nat_lit 360,hC "_law_bag" "_law_bag" 656 188 2 3 355 356 (.ref 357) (.ref 358) 359 662 663) ::
 (nat_lit 361,hF "_law_bag" "_law_bag" s_L_bag .none .none .none (hS "law_lampforge_k62_works_not_looked_at_togeth" 646) none (.ref 360) .none) ::
 (nat_lit 367,hC "_law_take" "_law_take" 665 191 2 3 362 363 (.ref 364) (.ref 365) 366 671 672) ::
 (nat_lit 368,hF "_law_take" "_law_take" s_L_take .none .none .none (hS "law_lampforge_k62_works_not_looked_at_togeth" 646) none (.ref 367) .none) ::
 (nat_lit 372,hC "_law_work" "_law_work" 674 198 5 3 369 370 .none .none 371 677 678) ::
 (nat_lit 373,hF "_law_work" "_law_work" s_L_work .none .none .none (hS "law_lampforge_k62_works_not_looked_at_togeth" 646) none (.ref 372) .none) ::
 (nat_lit 379,hC "_law_asked" "_law_asked" 680 210 4 3 374 375 (.ref 376) (.ref 377) 378 687 688) ::
 (nat_lit 380,hF "_law_asked" "_law_asked" x_d .none .none .none (hS "law_lampforge_k62_works_not_looked_at_togeth" 646) none (.ref 379) .none) ::
 (nat_lit 386,hC "_law_said" "_law_said" 690 214 4 3 381 382 (.ref 383) (.ref 384) 385 700 701) ::
 (nat_lit 387,hF "_law_said" "_law_said" s_L_said .none .none .none (hS "law_lampforge_k62_works_not_looked_at_togeth" 646) none (.ref 386) .none) ::
 (nat_lit 393,hC "_law_good" "_law_good" 703 227 4 3 388 389 (.ref 390) (.ref 391) 392 711 712) ::
 (nat_lit 394,hF "_law_good" "_law_good" s_L_good .none .none .none (hS "law_lampforge_k62_works_not_looked_at_togeth" 646) none (.ref 393) .none) ::
 (nat_lit 398,hC "law" "law" 714 233 1 3 395 396 .none .none 397 717 718) ::
 (nat_lit 399,hF "law" "law" s_law .none .none .none (hS "law_lampforge_k62_works_not_looked_at_togeth" 646) none (.ref 398) .none)::[]
def hA:List Addr:=nat_lit 2::nat_lit 3::nat_lit 18::nat_lit 19::nat_lit 25::nat_lit 26::nat_lit 30::nat_lit 31::nat_lit 39::nat_lit 40::nat_lit 41::nat_lit 42::nat_lit 52::nat_lit 53::nat_lit 54::nat_lit 69::nat_lit 70::nat_lit 71::nat_lit 72::nat_lit 73::nat_lit 88::nat_lit 89::nat_lit 90::nat_lit 91::nat_lit 92::nat_lit 107::nat_lit 108::nat_lit 109::nat_lit 110::nat_lit 111::nat_lit 126::nat_lit 127::nat_lit 128::nat_lit 129::nat_lit 130::nat_lit 145::nat_lit 146::nat_lit 147::nat_lit 148::nat_lit 149::nat_lit 159::nat_lit 160::nat_lit 161::nat_lit 176::nat_lit 177::nat_lit 178::nat_lit 179::nat_lit 180::nat_lit 190::nat_lit 191::nat_lit 192::nat_lit 207::nat_lit 208::nat_lit 209::nat_lit 210::nat_lit 211::nat_lit 221::nat_lit 222::nat_lit 223::nat_lit 233::nat_lit 234::nat_lit 235::nat_lit 245::nat_lit 246::nat_lit 247::nat_lit 255::nat_lit 256::nat_lit 262::nat_lit 263::nat_lit 269::nat_lit 270::nat_lit 274::nat_lit 275::nat_lit 281::nat_lit 282::nat_lit 288::nat_lit 289::nat_lit 293::nat_lit 294::nat_lit 300::nat_lit 301::nat_lit 305::nat_lit 306::nat_lit 312::nat_lit 313::nat_lit 317::nat_lit 318::nat_lit 322::nat_lit 323::nat_lit 327::nat_lit 328::nat_lit 334::nat_lit 335::nat_lit 339::nat_lit 340::nat_lit 346::nat_lit 347::nat_lit 353::nat_lit 354::nat_lit 360::nat_lit 361::nat_lit 367::nat_lit 368::nat_lit 372::nat_lit 373::nat_lit 379::nat_lit 380::nat_lit 386::nat_lit 387::nat_lit 393::nat_lit 394::nat_lit 398::nat_lit 399::[]
def hV:Program:={ PySem.Challenge.pw_lampforge_k62_works_not_looked_at_togeth with main:={ PySem.Challenge.pw_lampforge_k62_works_not_looked_at_togeth.main with body:=[top 1,top 2,top 3,top 5,top 6,top 7,top 8,top 9,top 10,top 11,top 12,top 13,top 14,top 15,top 16,top 17,top 18,top 20,top 21,top 22,top 24,top 26,top 28,top 29,top 30,top 31,top 32,top 33,top 34,top 35,top 36,top 37,top 38,top 39,top 41,top 42,top 43,top 44,top 45,top 46,top 47,top 48] } }
abbrev hL:List Str:=[]
theorem hQ:∀ P,hA=(hK P).map (·.1):=fun _=>by kernel_rfl
abbrev hR (n q : String) (st : Stmt) : Obj := ⟨.none, none, .func {PySem.W.fnOf n q (z_j st) (z_i st) (z_f st) .none .none .none .none none .none .none with globals := 0}, #[]⟩
def hW : Params → List Obj := fun P =>
 ⟨(.type "dict"),none,.dict (hE P "__name__" 1 (hS "builtins" 160)::hE P "__doc__" 2 (.builtin "builtins.__doc__:str#opaque")::hE P "__package__" 3 (.builtin "builtins.__package__:str#opaque")::hE P "__loader__" 4 (.builtin "builtins.__loader__:shared#opaque")::hE P "__spec__" 5 (.builtin "builtins.__spec__#opaque")::hE P "__build_class__" 6 (.builtin "__build_class__")::hE P "__import__" 7 (.builtin "__import__")::hE P "abs" 8 (.builtin "abs")::hE P "all" 9 (.builtin "all")::hE P "any" 10 (.builtin "any")::hE P "ascii" 11 (.builtin "ascii")::hE P "bin" 12 (.builtin "bin")::hE P "breakpoint" 13 (.builtin "breakpoint")::hE P "callable" 14 (.builtin "callable")::hE P "chr" 15 (.builtin "chr")::hE P "compile" 16 (.builtin "compile")::hE P "delattr" 17 (.builtin "delattr")::hE P "dir" 18 (.builtin "dir")::hE P "divmod" 19 (.builtin "divmod")::hE P "eval" 20 (.builtin "eval")::hE P "exec" 21 (.builtin "exec")::hE P "format" 22 (.builtin "format")::hE P "getattr" 23 (.builtin "getattr")::hE P "globals" 24 (.builtin "globals")::hE P "hasattr" 25 (.builtin "hasattr")::hE P "hash" 26 (.builtin "hash")::hE P "hex" 27 (.builtin "hex")::hE P "id" 28 (.builtin "id")::hE P "input" 29 (.builtin "input")::hE P "isinstance" 30 (.builtin "isinstance")::hE P "issubclass" 31 (.builtin "issubclass")::hE P "iter" 32 (.builtin "iter")::hE P "aiter" 33 (.builtin "aiter")::hE P "len" 34 (.builtin "len")::hE P "locals" 35 (.builtin "locals")::hE P "max" 36 (.builtin "max")::hE P "min" 37 (.builtin "min")::hE P "next" 38 (.builtin "next")::hE P "anext" 39 (.builtin "anext")::hE P "oct" 40 (.builtin "oct")::hE P "ord" 41 (.builtin "ord")::hE P "pow" 42 (.builtin "pow")::hE P "print" 43 (.builtin "print")::hE P "repr" 44 (.builtin "repr")::hE P "round" 45 (.builtin "round")::hE P "setattr" 46 (.builtin "setattr")::hE P "sorted" 47 (.builtin "sorted")::hE P "sum" 48 (.builtin "sum")::hE P "vars" 49 (.builtin "vars")::hE P "None" 50 .none::hE P "Ellipsis" 51 .ellipsis::hE P "NotImplemented" 52 .notImplemented::hE P "False" 53 (.bool false)::hE P "True" 54 (.bool true)::hE P "bool" 55 (.type "bool")::hE P "memoryview" 56 (.type "memoryview")::hE P "bytearray" 57 (.type "bytearray")::hE P "bytes" 58 (.type "bytes")::hE P "classmethod" 59 (.type "classmethod")::hE P "complex" 60 (.type "complex")::hE P "dict" 61 (.type "dict")::hE P "enumerate" 62 (.type "enumerate")::hE P "filter" 63 (.type "filter")::hE P "float" 64 (.type "float")::hE P "frozenset" 65 (.type "frozenset")::hE P "property" 66 (.type "property")::hE P "int" 67 (.type "int")::hE P "list" 68 (.type "list")::hE P "map" 69 (.type "map")::hE P "object" 70 (.type "object")::hE P "range" 71 (.type "range")::hE P "reversed" 72 (.type "reversed")::hE P "set" 73 (.type "set")::hE P "slice" 74 (.type "slice")::hE P "staticmethod" 75 (.type "staticmethod")::hE P "str" 76 (.type "str")::hE P "super" 77 (.type "super")::hE P "tuple" 78 (.type "tuple")::hE P "type" 79 (.type "type")::hE P "zip" 80 (.type "zip")::hE P "__debug__" 81 (.bool true)::hE P "BaseException" 82 (.type "BaseException")::hE P "BaseExceptionGroup" 83 (.type "BaseExceptionGroup")::hE P "Exception" 84 (.type "Exception")::hE P "GeneratorExit" 85 (.type "GeneratorExit")::hE P "KeyboardInterrupt" 86 (.type "KeyboardInterrupt")::hE P "SystemExit" 87 (.type "SystemExit")::hE P "ArithmeticError" 88 (.type "ArithmeticError")::hE P "AssertionError" 89 (.type "AssertionError")::hE P "AttributeError" 90 (.type "AttributeError")::hE P "BufferError" 91 (.type "BufferError")::hE P "EOFError" 92 (.type "EOFError")::hE P "ImportError" 93 (.type "ImportError")::hE P "LookupError" 94 (.type "LookupError")::hE P "MemoryError" 95 (.type "MemoryError")::hE P "NameError" 96 (.type "NameError")::hE P "OSError" 97 (.type "OSError")::hE P "ReferenceError" 98 (.type "ReferenceError")::hE P "RuntimeError" 99 (.type "RuntimeError")::hE P "StopAsyncIteration" 100 (.type "StopAsyncIteration")::hE P "StopIteration" 101 (.type "StopIteration")::hE P "SyntaxError" 102 (.type "SyntaxError")::hE P "SystemError" 103 (.type "SystemError")::hE P "TypeError" 104 (.type "TypeError")::hE P "ValueError" 105 (.type "ValueError")::hE P "Warning" 106 (.type "Warning")::hE P "FloatingPointError" 107 (.type "FloatingPointError")::hE P "OverflowError" 108 (.type "OverflowError")::hE P "ZeroDivisionError" 109 (.type "ZeroDivisionError")::hE P "BytesWarning" 110 (.type "BytesWarning")::hE P "DeprecationWarning" 111 (.type "DeprecationWarning")::hE P "EncodingWarning" 112 (.type "EncodingWarning")::hE P "FutureWarning" 113 (.type "FutureWarning")::hE P "ImportWarning" 114 (.type "ImportWarning")::hE P "PendingDeprecationWarning" 115 (.type "PendingDeprecationWarning")::hE P "ResourceWarning" 116 (.type "ResourceWarning")::hE P "RuntimeWarning" 117 (.type "RuntimeWarning")::hE P "SyntaxWarning" 118 (.type "SyntaxWarning")::hE P "UnicodeWarning" 119 (.type "UnicodeWarning")::hE P "UserWarning" 120 (.type "UserWarning")::hE P "BlockingIOError" 121 (.type "BlockingIOError")::hE P "ChildProcessError" 122 (.type "ChildProcessError")::hE P "ConnectionError" 123 (.type "ConnectionError")::hE P "FileExistsError" 124 (.type "FileExistsError")::hE P "FileNotFoundError" 125 (.type "FileNotFoundError")::hE P "InterruptedError" 126 (.type "InterruptedError")::hE P "IsADirectoryError" 127 (.type "IsADirectoryError")::hE P "NotADirectoryError" 128 (.type "NotADirectoryError")::hE P "PermissionError" 129 (.type "PermissionError")::hE P "ProcessLookupError" 130 (.type "ProcessLookupError")::hE P "TimeoutError" 131 (.type "TimeoutError")::hE P "IndentationError" 132 (.type "IndentationError")::hE P "_IncompleteInputError" 133 (.type "_IncompleteInputError")::hE P "IndexError" 134 (.type "IndexError")::hE P "KeyError" 135 (.type "KeyError")::hE P "ModuleNotFoundError" 136 (.type "ModuleNotFoundError")::hE P "NotImplementedError" 137 (.type "NotImplementedError")::hE P "PythonFinalizationError" 138 (.type "PythonFinalizationError")::hE P "RecursionError" 139 (.type "RecursionError")::hE P "UnboundLocalError" 140 (.type "UnboundLocalError")::hE P "UnicodeError" 141 (.type "UnicodeError")::hE P "BrokenPipeError" 142 (.type "BrokenPipeError")::hE P "ConnectionAbortedError" 143 (.type "ConnectionAbortedError")::hE P "ConnectionRefusedError" 144 (.type "ConnectionRefusedError")::hE P "ConnectionResetError" 145 (.type "ConnectionResetError")::hE P "TabError" 146 (.type "TabError")::hE P "UnicodeDecodeError" 147 (.type "UnicodeDecodeError")::hE P "UnicodeEncodeError" 148 (.type "UnicodeEncodeError")::hE P "UnicodeTranslateError" 149 (.type "UnicodeTranslateError")::hE P "ExceptionGroup" 150 (.type "ExceptionGroup")::hE P "EnvironmentError" 151 (.type "OSError")::hE P "IOError" 152 (.type "OSError")::hE P "open" 153 (.builtin "open")::hE P "quit" 154 (.builtin "builtins.quit#opaque")::hE P "exit" 155 (.builtin "builtins.exit#opaque")::hE P "copyright" 156 (.builtin "builtins.copyright#opaque")::hE P "credits" 157 (.builtin "builtins.credits#opaque")::hE P "license" 158 (.builtin "builtins.license#opaque")::hE P "help" 159 (.builtin "builtins.help#opaque")::[]).toArray 159,#[]⟩::
 ⟨(.type "dict"),none,.dict (hE P "builtins" 162 (.ref 4)::hE P "__main__" 163 (.ref 5)::[]).toArray 2,#[]⟩::
 ⟨.none,none,.dict ([]).toArray 0,#[]⟩::
 ⟨(.type "dict"),none,.dict (hE P "__name__" 165 (hS "law_lampforge_k62_works_not_looked_at_togeth" 646)::hE P "__doc__" 166 .none::hE P "__package__" 167 .none::hE P "__loader__" 168 (.builtin "__main__.__loader__#opaque")::hE P "__spec__" 169 .none::hE P "__annotations__" 170 (.ref 6)::hE P "__builtins__" 171 (.ref 4)::hE P "__file__" 173 (hS "/claim/cut.py" 172)::hE P "__cached__" 174 .none::hE P "first_stand" 194 (.ref 19)::hE P "bits_of_ends" 208 (.ref 26)::hE P "beat_by" 214 (.ref 31)::hE P "ForgeError" 234 (.ref 41)::hE P "NoPlan" 250 (.ref 54)::hE P "NoName" 277 (.ref 73)::hE P "Twice" 304 (.ref 92)::hE P "Never" 331 (.ref 111)::hE P "NoWidth" 358 (.ref 130)::hE P "NoPart" 385 (.ref 149)::hE P "TooMuch" 401 (.ref 161)::hE P "Ring" 426 (.ref 180)::hE P "NoPair" 442 (.ref 192)::hE P "NoPaper" 469 (.ref 211)::hE P "NoWord" 485 (.ref 223)::hE P "NoText" 501 (.ref 235)::hE P "NoRow" 517 (.ref 247)::hE P "is_whole" 526 (.ref 256)::hE P "is_between" 535 (.ref 263)::hE P "bits_of" 545 (.ref 270)::hE P "all_stands" 553 (.ref 275)::hE P "look_pair" 563 (.ref 282)::hE P "MOST_INS" 567 (.int 6 566)::hE P "look_small" 575 (.ref 289)::hE P "is_table" 581 (.ref 294)::hE P "is_joint_stand" 590 (.ref 301)::hE P "is_stand" 596 (.ref 306)::hE P "first_joint_stand" 604 (.ref 313)::hE P "beats_from" 610 (.ref 318)::hE P "beats_apart" 616 (.ref 323)::hE P "bits_among" 622 (.ref 328)::hE P "least_beat" 630 (.ref 335)::hE P "meet" 636 (.ref 340)::hE P "way_to" 645 (.ref 347)::hE P "_law_cell_at" 655 (.ref 354)::hE P "_law_bag" 664 (.ref 361)::hE P "_law_take" 673 (.ref 368)::hE P "_law_work" 679 (.ref 373)::hE P "_law_asked" 689 (.ref 380)::hE P "_law_said" 702 (.ref 387)::hE P "_law_good" 713 (.ref 394)::hE P "law" 719 (.ref 399)::[]).toArray 51,#[]⟩::
 ⟨(.type "module"),(some 0),.plain,#[]⟩::
 ⟨(.type "module"),(some 3),.plain,#[]⟩::
 ⟨(.type "dict"),none,.dict ([]).toArray 0,#[]⟩::
 ⟨(.type "tuple"),none,.seq [].toArray 0,#[]⟩::
 ⟨.none,none,.fields [].toArray,#[]⟩::
 ⟨(.type "code"),none,.fields [(hS "<module>" 176),(hS "<module>" 177),(hS "/claim/cut.py" 178),(.int 1 0),(.int 0 0),(.int 0 0),(.int 0 0),(.int 0 0),(.ref 7),(.bool false),(.int 175 0),(.ref 8),.none,.none,.none,.none,(.int 179 0),(.int 1 0),(hS "/claim/cut.py" 180)].toArray,#[]⟩::
 ⟨(.type "frame"),none,.plain,#[some (.ref 9),some (.ref 3),some (.ref 3),none,some (hS "__main__" 164),none,some (.ref 0)]⟩::
 ⟨(.type "tuple"),none,.seq [].toArray 0,#[]⟩::
 ⟨.none,none,.fields [(.int 2 0),(.int 0 0),(.ref 18),(.int 4 0),(.int 0 0),(.ref 25),(.int 17 0),(.int 0 0),(.ref 30),(.int 21 0),(.int 0 0),(.ref 37),(.int 23 0),(.int 0 0),(.ref 50),(.int 25 0),(.int 0 0),(.ref 62),(.int 31 0),(.int 0 0),(.ref 81),(.int 37 0),(.int 0 0),(.ref 100),(.int 43 0),(.int 0 0),(.ref 119),(.int 49 0),(.int 0 0),(.ref 138),(.int 55 0),(.int 0 0),(.ref 157),(.int 57 0),(.int 0 0),(.ref 169),(.int 62 0),(.int 0 0),(.ref 188),(.int 64 0),(.int 0 0),(.ref 200),(.int 70 0),(.int 0 0),(.ref 219),(.int 72 0),(.int 0 0),(.ref 231),(.int 74 0),(.int 0 0),(.ref 243),(.int 77 0),(.int 0 0),(.ref 255),(.int 79 0),(.int 0 0),(.ref 262),(.int 81 0),(.int 0 0),(.ref 269),(.int 88 0),(.int 0 0),(.ref 274),(.int 99 0),(.int 0 0),(.ref 281),(.int 104 0),(.int 0 0),(.ref 288),(.int 108 0),(.int 0 0),(.ref 293),(.int 120 0),(.int 0 0),(.ref 300),(.int 124 0),(.int 0 0),(.ref 305),(.int 128 0),(.int 0 0),(.ref 312),(.int 130 0),(.int 0 0),(.ref 317),(.int 143 0),(.int 0 0),(.ref 322),(.int 149 0),(.int 0 0),(.ref 327),(.int 151 0),(.int 0 0),(.ref 334),(.int 157 0),(.int 0 0),(.ref 339),(.int 176 0),(.int 0 0),(.ref 346),(.int 184 0),(.int 0 0),(.ref 353),(.int 188 0),(.int 0 0),(.ref 360),(.int 191 0),(.int 0 0),(.ref 367),(.int 198 0),(.int 0 0),(.ref 372),(.int 210 0),(.int 0 0),(.ref 379),(.int 214 0),(.int 0 0),(.ref 386),(.int 227 0),(.int 0 0),(.ref 393),(.int 233 0),(.int 0 0),(.ref 398)].toArray,#[]⟩::
 ⟨(.type "code"),none,.fields [(hS "<module>" 182),(hS "<module>" 183),(hS "/claim/cut.py" 184),(.int 1 0),(.int 0 0),(.int 0 0),(.int 0 0),(.int 0 0),(.ref 11),(.bool false),(.int 181 0),(.ref 12),.none,.none,.none,.none,(.int 185 0),(.int 1 0),(hS "/claim/cut.py" 186)].toArray,#[]⟩::
 ⟨(.type "frame"),none,.plain,#[some (.ref 13),some (.ref 3),some (.ref 3),none,some (hS "__main__" 164),none,some (.ref 0)]⟩::
 ⟨(.type "tuple"),none,.seq [].toArray 0,#[]⟩::
 ⟨.none,none,.fields [].toArray,#[]⟩::
 hR "first_stand" "first_stand" z_z::
 hC "first_stand" "first_stand" 189 2 1 3 15 16 .none .none 17 192 193::
 hF "first_stand" "first_stand" z_z .none .none .none (hS "lampforge.beats" 187) none (.ref 18) .none::
 ⟨(.type "tuple"),none,.seq [].toArray 0,#[]⟩::
 ⟨.none,none,.fields [].toArray,#[]⟩::
 ⟨(.type "tuple"),none,.seq [(hS "work" 198),(hS "stand" 199),(hS "row" 200),(hS "high" 201),(hS "bits" 202),(hS "number" 203),(hS "one" 204),(hS "other" 205)].toArray 0,#[]⟩::
 ⟨(.type "tuple"),none,.seq [].toArray 0,#[]⟩::
 hR "bits_of_ends" "bits_of_ends" z_w::
 hC "bits_of_ends" "bits_of_ends" 195 4 4 3 20 21 (.ref 22) (.ref 23) 24 206 207::
 hF "bits_of_ends" "bits_of_ends" z_w .none .none .none (hS "lampforge.beats" 187) none (.ref 25) .none::
 ⟨(.type "tuple"),none,.seq [].toArray 0,#[]⟩::
 ⟨.none,none,.fields [].toArray,#[]⟩::
 hR "beat_by" "beat_by" x_e::
 hC "beat_by" "beat_by" 209 17 4 3 27 28 .none .none 29 212 213::
 hF "beat_by" "beat_by" x_e .none .none .none (hS "lampforge.beats" 187) none (.ref 30) .none::
 ⟨(.type "tuple"),none,.seq [(.type "ValueError")].toArray 0,#[]⟩::
 ⟨(.type "builtin_function_or_method"),none,.fields [(.builtin "type.__prepare__"),(.type "type")].toArray,#[]⟩::
 ⟨(.type "dict"),none,.dict (hE P "__module__" 224 (hS "lampforge.errors" 215)::hE P "__qualname__" 226 (hS "ForgeError" 225)::hE P "__firstlineno__" 228 (.int 21 227)::hE P "__static_attributes__" 229 (.ref 39)::[]).toArray 4,#[]⟩::
 ⟨(.type "tuple"),none,.seq [].toArray 0,#[]⟩::
 ⟨.none,none,.fields [].toArray,#[]⟩::
 ⟨(.type "code"),none,.fields [(hS "ForgeError" 219),(hS "ForgeError" 220),(hS "/claim/cut.py" 221),(.int 21 0),(.int 0 0),(.int 0 0),(.int 0 0),(.int 0 0),(.ref 35),(.bool false),(.int 181 0),(.ref 36),.none,.none,.none,.none,(.int 222 0),(.int 21 0),(hS "/claim/cut.py" 223)].toArray,#[]⟩::
 ⟨(.type "frame"),none,.plain,#[some (.ref 37),some (.ref 3),some (.ref 34),none,some (hS "lampforge.errors" 215),none,some (.ref 0)]⟩::
 ⟨(.type "tuple"),none,.seq [].toArray 0,#[]⟩::
 ⟨(.type "dict"),none,.dict (hE P "__module__" 224 (hS "lampforge.errors" 215)::hE P "__firstlineno__" 228 (.int 21 227)::hE P "__static_attributes__" 229 (.ref 39)::hE P "__weakref__" 231 (.ref 42)::hE P "__doc__" 232 .none::[]).toArray 3,#[]⟩::
 ⟨(.type "type"),none,.cls {name:="ForgeError",bases:=[(.type "ValueError")],mro:=[(.ref 41),(.type "ValueError"),(.type "Exception"),(.type "BaseException"),(.type "object")],ns:=40,qualname:="ForgeError",hasDict:=true,subclasses:=[(.ref 54),(.ref 73),(.ref 92),(.ref 111),(.ref 130),(.ref 149),(.ref 161),(.ref 180),(.ref 192),(.ref 211),(.ref 223),(.ref 235),(.ref 247)],abstract:=false,hasDel:=false},#[some (.ref 32),none,some (hS "ForgeError" 217),some (hS "ForgeError" 225),some (.builtin "ValueError.__new__"),some (.bool true)]⟩::
 ⟨(.type "getset_descriptor"),none,.fields [(hS "__weakref__" 230),(.ref 41),(.builtin "ExceptionGroup.__weakref__"),.none].toArray,#[]⟩::
 ⟨(.type "super"),none,.fields [(.ref 41),(.ref 41),(.ref 41)].toArray,#[]⟩::
 ⟨(.type "builtin_function_or_method"),none,.fields [(.builtin "object.__init_subclass__"),(.ref 41)].toArray,#[]⟩::
 ⟨(.type "tuple"),none,.seq [(.ref 41)].toArray 0,#[]⟩::
 ⟨(.type "builtin_function_or_method"),none,.fields [(.builtin "type.__prepare__"),(.type "type")].toArray,#[]⟩::
 ⟨(.type "dict"),none,.dict (hE P "__module__" 242 (hS "lampforge.errors" 215)::hE P "__qualname__" 244 (hS "NoPlan" 243)::hE P "__firstlineno__" 246 (.int 23 245)::hE P "__static_attributes__" 247 (.ref 52)::[]).toArray 4,#[]⟩::
 ⟨(.type "tuple"),none,.seq [].toArray 0,#[]⟩::
 ⟨.none,none,.fields [].toArray,#[]⟩::
 ⟨(.type "code"),none,.fields [(hS "NoPlan" 237),(hS "NoPlan" 238),(hS "/claim/cut.py" 239),(.int 23 0),(.int 0 0),(.int 0 0),(.int 0 0),(.int 0 0),(.ref 48),(.bool false),(.int 181 0),(.ref 49),.none,.none,.none,.none,(.int 240 0),(.int 23 0),(hS "/claim/cut.py" 241)].toArray,#[]⟩::
 ⟨(.type "frame"),none,.plain,#[some (.ref 50),some (.ref 3),some (.ref 47),none,some (hS "lampforge.errors" 215),none,some (.ref 0)]⟩::
 ⟨(.type "tuple"),none,.seq [].toArray 0,#[]⟩::
 ⟨(.type "dict"),none,.dict (hE P "__module__" 242 (hS "lampforge.errors" 215)::hE P "__firstlineno__" 246 (.int 23 245)::hE P "__static_attributes__" 247 (.ref 52)::hE P "__doc__" 248 .none::[]).toArray 2,#[]⟩::
 ⟨(.type "type"),none,.cls {name:="NoPlan",bases:=[(.ref 41)],mro:=[(.ref 54),(.ref 41),(.type "ValueError"),(.type "Exception"),(.type "BaseException"),(.type "object")],ns:=53,qualname:="NoPlan",hasDict:=true,subclasses:=[],abstract:=false,hasDel:=false},#[some (.ref 45),none,some (hS "NoPlan" 235),some (hS "NoPlan" 243),some (.builtin "ValueError.__new__"),some (.bool true)]⟩::
 ⟨(.type "super"),none,.fields [(.ref 54),(.ref 54),(.ref 54)].toArray,#[]⟩::
 ⟨(.type "builtin_function_or_method"),none,.fields [(.builtin "object.__init_subclass__"),(.ref 54)].toArray,#[]⟩::
 ⟨(.type "tuple"),none,.seq [(.ref 41)].toArray 0,#[]⟩::
 ⟨(.type "builtin_function_or_method"),none,.fields [(.builtin "type.__prepare__"),(.type "type")].toArray,#[]⟩::
 ⟨(.type "dict"),none,.dict (hE P "__module__" 258 (hS "lampforge.errors" 215)::hE P "__qualname__" 260 (hS "NoName" 259)::hE P "__firstlineno__" 262 (.int 25 261)::hE P "__init__" 271 (.ref 70)::hE P "__static_attributes__" 274 (.ref 71)::[]).toArray 5,#[]⟩::
 ⟨(.type "tuple"),none,.seq [].toArray 0,#[]⟩::
 ⟨.none,none,.fields [(.int 27 0),(.int 4 0),(.ref 69)].toArray,#[]⟩::
 ⟨(.type "code"),none,.fields [(hS "NoName" 253),(hS "NoName" 254),(hS "/claim/cut.py" 255),(.int 25 0),(.int 0 0),(.int 0 0),(.int 0 0),(.int 0 0),(.ref 60),(.bool false),(.int 181 0),(.ref 61),.none,.none,.none,.none,(.int 256 0),(.int 25 0),(hS "/claim/cut.py" 257)].toArray,#[]⟩::
 ⟨(.type "frame"),none,.plain,#[some (.ref 62),some (.ref 3),some (.ref 59),none,some (hS "lampforge.errors" 215),none,some (.ref 0)]⟩::
 ⟨(.type "tuple"),none,.seq [].toArray 0,#[]⟩::
 ⟨.none,none,.fields [].toArray,#[]⟩::
 ⟨(.type "tuple"),none,.seq [(hS "self" 266),(hS "part" 267),(hS "name" 268)].toArray 0,#[]⟩::
 ⟨(.type "tuple"),none,.seq [].toArray 0,#[]⟩::
 hR "__init__" "NoName.__init__" s_NoName_init::
 hC "__init__" "NoName.__init__" 263 27 3 3 64 65 (.ref 66) (.ref 67) 68 269 270::
 hF "__init__" "NoName.__init__" s_NoName_init .none .none .none (hS "lampforge.errors" 215) none (.ref 69) .none::
 ⟨(.type "tuple"),none,.seq [(hS "name" 272),(hS "part" 273)].toArray 0,#[]⟩::
 ⟨(.type "dict"),none,.dict (hE P "__module__" 258 (hS "lampforge.errors" 215)::hE P "__firstlineno__" 262 (.int 25 261)::hE P "__init__" 271 (.ref 70)::hE P "__static_attributes__" 274 (.ref 71)::hE P "__doc__" 275 .none::[]).toArray 2,#[]⟩::
 ⟨(.type "type"),none,.cls {name:="NoName",bases:=[(.ref 41)],mro:=[(.ref 73),(.ref 41),(.type "ValueError"),(.type "Exception"),(.type "BaseException"),(.type "object")],ns:=72,qualname:="NoName",hasDict:=true,subclasses:=[],abstract:=false,hasDel:=false},#[some (.ref 57),none,some (hS "NoName" 251),some (hS "NoName" 259),some (.builtin "ValueError.__new__"),some (.bool true)]⟩::
 ⟨(.type "super"),none,.fields [(.ref 73),(.ref 73),(.ref 73)].toArray,#[]⟩::
 ⟨(.type "builtin_function_or_method"),none,.fields [(.builtin "object.__init_subclass__"),(.ref 73)].toArray,#[]⟩::
 ⟨(.type "tuple"),none,.seq [(.ref 41)].toArray 0,#[]⟩::
 ⟨(.type "builtin_function_or_method"),none,.fields [(.builtin "type.__prepare__"),(.type "type")].toArray,#[]⟩::
 ⟨(.type "dict"),none,.dict (hE P "__module__" 285 (hS "lampforge.errors" 215)::hE P "__qualname__" 287 (hS "Twice" 286)::hE P "__firstlineno__" 289 (.int 31 288)::hE P "__init__" 298 (.ref 89)::hE P "__static_attributes__" 301 (.ref 90)::[]).toArray 5,#[]⟩::
 ⟨(.type "tuple"),none,.seq [].toArray 0,#[]⟩::
 ⟨.none,none,.fields [(.int 33 0),(.int 4 0),(.ref 88)].toArray,#[]⟩::
 ⟨(.type "code"),none,.fields [(hS "Twice" 280),(hS "Twice" 281),(hS "/claim/cut.py" 282),(.int 31 0),(.int 0 0),(.int 0 0),(.int 0 0),(.int 0 0),(.ref 79),(.bool false),(.int 181 0),(.ref 80),.none,.none,.none,.none,(.int 283 0),(.int 31 0),(hS "/claim/cut.py" 284)].toArray,#[]⟩::
 ⟨(.type "frame"),none,.plain,#[some (.ref 81),some (.ref 3),some (.ref 78),none,some (hS "lampforge.errors" 215),none,some (.ref 0)]⟩::
 ⟨(.type "tuple"),none,.seq [].toArray 0,#[]⟩::
 ⟨.none,none,.fields [].toArray,#[]⟩::
 ⟨(.type "tuple"),none,.seq [(hS "self" 293),(hS "part" 294),(hS "name" 295)].toArray 0,#[]⟩::
 ⟨(.type "tuple"),none,.seq [].toArray 0,#[]⟩::
 hR "__init__" "Twice.__init__" s_Twice_init::
 hC "__init__" "Twice.__init__" 290 33 3 3 83 84 (.ref 85) (.ref 86) 87 296 297::
 hF "__init__" "Twice.__init__" s_Twice_init .none .none .none (hS "lampforge.errors" 215) none (.ref 88) .none::
 ⟨(.type "tuple"),none,.seq [(hS "name" 299),(hS "part" 300)].toArray 0,#[]⟩::
 ⟨(.type "dict"),none,.dict (hE P "__module__" 285 (hS "lampforge.errors" 215)::hE P "__firstlineno__" 289 (.int 31 288)::hE P "__init__" 298 (.ref 89)::hE P "__static_attributes__" 301 (.ref 90)::hE P "__doc__" 302 .none::[]).toArray 2,#[]⟩::
 ⟨(.type "type"),none,.cls {name:="Twice",bases:=[(.ref 41)],mro:=[(.ref 92),(.ref 41),(.type "ValueError"),(.type "Exception"),(.type "BaseException"),(.type "object")],ns:=91,qualname:="Twice",hasDict:=true,subclasses:=[],abstract:=false,hasDel:=false},#[some (.ref 76),none,some (hS "Twice" 278),some (hS "Twice" 286),some (.builtin "ValueError.__new__"),some (.bool true)]⟩::
 ⟨(.type "super"),none,.fields [(.ref 92),(.ref 92),(.ref 92)].toArray,#[]⟩::
 ⟨(.type "builtin_function_or_method"),none,.fields [(.builtin "object.__init_subclass__"),(.ref 92)].toArray,#[]⟩::
 ⟨(.type "tuple"),none,.seq [(.ref 41)].toArray 0,#[]⟩::
 ⟨(.type "builtin_function_or_method"),none,.fields [(.builtin "type.__prepare__"),(.type "type")].toArray,#[]⟩::
 ⟨(.type "dict"),none,.dict (hE P "__module__" 312 (hS "lampforge.errors" 215)::hE P "__qualname__" 314 (hS "Never" 313)::hE P "__firstlineno__" 316 (.int 37 315)::hE P "__init__" 325 (.ref 108)::hE P "__static_attributes__" 328 (.ref 109)::[]).toArray 5,#[]⟩::
 ⟨(.type "tuple"),none,.seq [].toArray 0,#[]⟩::
 ⟨.none,none,.fields [(.int 39 0),(.int 4 0),(.ref 107)].toArray,#[]⟩::
 ⟨(.type "code"),none,.fields [(hS "Never" 307),(hS "Never" 308),(hS "/claim/cut.py" 309),(.int 37 0),(.int 0 0),(.int 0 0),(.int 0 0),(.int 0 0),(.ref 98),(.bool false),(.int 181 0),(.ref 99),.none,.none,.none,.none,(.int 310 0),(.int 37 0),(hS "/claim/cut.py" 311)].toArray,#[]⟩::
 ⟨(.type "frame"),none,.plain,#[some (.ref 100),some (.ref 3),some (.ref 97),none,some (hS "lampforge.errors" 215),none,some (.ref 0)]⟩::
 ⟨(.type "tuple"),none,.seq [].toArray 0,#[]⟩::
 ⟨.none,none,.fields [].toArray,#[]⟩::
 ⟨(.type "tuple"),none,.seq [(hS "self" 320),(hS "part" 321),(hS "name" 322)].toArray 0,#[]⟩::
 ⟨(.type "tuple"),none,.seq [].toArray 0,#[]⟩::
 hR "__init__" "Never.__init__" s_Never_init::
 hC "__init__" "Never.__init__" 317 39 3 3 102 103 (.ref 104) (.ref 105) 106 323 324::
 hF "__init__" "Never.__init__" s_Never_init .none .none .none (hS "lampforge.errors" 215) none (.ref 107) .none::
 ⟨(.type "tuple"),none,.seq [(hS "name" 326),(hS "part" 327)].toArray 0,#[]⟩::
 ⟨(.type "dict"),none,.dict (hE P "__module__" 312 (hS "lampforge.errors" 215)::hE P "__firstlineno__" 316 (.int 37 315)::hE P "__init__" 325 (.ref 108)::hE P "__static_attributes__" 328 (.ref 109)::hE P "__doc__" 329 .none::[]).toArray 2,#[]⟩::
 ⟨(.type "type"),none,.cls {name:="Never",bases:=[(.ref 41)],mro:=[(.ref 111),(.ref 41),(.type "ValueError"),(.type "Exception"),(.type "BaseException"),(.type "object")],ns:=110,qualname:="Never",hasDict:=true,subclasses:=[],abstract:=false,hasDel:=false},#[some (.ref 95),none,some (hS "Never" 305),some (hS "Never" 313),some (.builtin "ValueError.__new__"),some (.bool true)]⟩::
 ⟨(.type "super"),none,.fields [(.ref 111),(.ref 111),(.ref 111)].toArray,#[]⟩::
 ⟨(.type "builtin_function_or_method"),none,.fields [(.builtin "object.__init_subclass__"),(.ref 111)].toArray,#[]⟩::
 ⟨(.type "tuple"),none,.seq [(.ref 41)].toArray 0,#[]⟩::
 ⟨(.type "builtin_function_or_method"),none,.fields [(.builtin "type.__prepare__"),(.type "type")].toArray,#[]⟩::
 ⟨(.type "dict"),none,.dict (hE P "__module__" 339 (hS "lampforge.errors" 215)::hE P "__qualname__" 341 (hS "NoWidth" 340)::hE P "__firstlineno__" 343 (.int 43 342)::hE P "__init__" 352 (.ref 127)::hE P "__static_attributes__" 355 (.ref 128)::[]).toArray 5,#[]⟩::
 ⟨(.type "tuple"),none,.seq [].toArray 0,#[]⟩::
 ⟨.none,none,.fields [(.int 45 0),(.int 4 0),(.ref 126)].toArray,#[]⟩::
 ⟨(.type "code"),none,.fields [(hS "NoWidth" 334),(hS "NoWidth" 335),(hS "/claim/cut.py" 336),(.int 43 0),(.int 0 0),(.int 0 0),(.int 0 0),(.int 0 0),(.ref 117),(.bool false),(.int 181 0),(.ref 118),.none,.none,.none,.none,(.int 337 0),(.int 43 0),(hS "/claim/cut.py" 338)].toArray,#[]⟩::
 ⟨(.type "frame"),none,.plain,#[some (.ref 119),some (.ref 3),some (.ref 116),none,some (hS "lampforge.errors" 215),none,some (.ref 0)]⟩::
 ⟨(.type "tuple"),none,.seq [].toArray 0,#[]⟩::
 ⟨.none,none,.fields [].toArray,#[]⟩::
 ⟨(.type "tuple"),none,.seq [(hS "self" 347),(hS "part" 348),(hS "name" 349)].toArray 0,#[]⟩::
 ⟨(.type "tuple"),none,.seq [].toArray 0,#[]⟩::
 hR "__init__" "NoWidth.__init__" s_NoWidth_init::
 hC "__init__" "NoWidth.__init__" 344 45 3 3 121 122 (.ref 123) (.ref 124) 125 350 351::
 hF "__init__" "NoWidth.__init__" s_NoWidth_init .none .none .none (hS "lampforge.errors" 215) none (.ref 126) .none::
 ⟨(.type "tuple"),none,.seq [(hS "name" 353),(hS "part" 354)].toArray 0,#[]⟩::
 ⟨(.type "dict"),none,.dict (hE P "__module__" 339 (hS "lampforge.errors" 215)::hE P "__firstlineno__" 343 (.int 43 342)::hE P "__init__" 352 (.ref 127)::hE P "__static_attributes__" 355 (.ref 128)::hE P "__doc__" 356 .none::[]).toArray 2,#[]⟩::
 ⟨(.type "type"),none,.cls {name:="NoWidth",bases:=[(.ref 41)],mro:=[(.ref 130),(.ref 41),(.type "ValueError"),(.type "Exception"),(.type "BaseException"),(.type "object")],ns:=129,qualname:="NoWidth",hasDict:=true,subclasses:=[],abstract:=false,hasDel:=false},#[some (.ref 114),none,some (hS "NoWidth" 332),some (hS "NoWidth" 340),some (.builtin "ValueError.__new__"),some (.bool true)]⟩::
 ⟨(.type "super"),none,.fields [(.ref 130),(.ref 130),(.ref 130)].toArray,#[]⟩::
 ⟨(.type "builtin_function_or_method"),none,.fields [(.builtin "object.__init_subclass__"),(.ref 130)].toArray,#[]⟩::
 ⟨(.type "tuple"),none,.seq [(.ref 41)].toArray 0,#[]⟩::
 ⟨(.type "builtin_function_or_method"),none,.fields [(.builtin "type.__prepare__"),(.type "type")].toArray,#[]⟩::
 ⟨(.type "dict"),none,.dict (hE P "__module__" 366 (hS "lampforge.errors" 215)::hE P "__qualname__" 368 (hS "NoPart" 367)::hE P "__firstlineno__" 370 (.int 49 369)::hE P "__init__" 379 (.ref 146)::hE P "__static_attributes__" 382 (.ref 147)::[]).toArray 5,#[]⟩::
 ⟨(.type "tuple"),none,.seq [].toArray 0,#[]⟩::
 ⟨.none,none,.fields [(.int 51 0),(.int 4 0),(.ref 145)].toArray,#[]⟩::
 ⟨(.type "code"),none,.fields [(hS "NoPart" 361),(hS "NoPart" 362),(hS "/claim/cut.py" 363),(.int 49 0),(.int 0 0),(.int 0 0),(.int 0 0),(.int 0 0),(.ref 136),(.bool false),(.int 181 0),(.ref 137),.none,.none,.none,.none,(.int 364 0),(.int 49 0),(hS "/claim/cut.py" 365)].toArray,#[]⟩::
 ⟨(.type "frame"),none,.plain,#[some (.ref 138),some (.ref 3),some (.ref 135),none,some (hS "lampforge.errors" 215),none,some (.ref 0)]⟩::
 ⟨(.type "tuple"),none,.seq [].toArray 0,#[]⟩::
 ⟨.none,none,.fields [].toArray,#[]⟩::
 ⟨(.type "tuple"),none,.seq [(hS "self" 374),(hS "part" 375),(hS "name" 376)].toArray 0,#[]⟩::
 ⟨(.type "tuple"),none,.seq [].toArray 0,#[]⟩::
 hR "__init__" "NoPart.__init__" s_NoPart_init::
 hC "__init__" "NoPart.__init__" 371 51 3 3 140 141 (.ref 142) (.ref 143) 144 377 378::
 hF "__init__" "NoPart.__init__" s_NoPart_init .none .none .none (hS "lampforge.errors" 215) none (.ref 145) .none::
 ⟨(.type "tuple"),none,.seq [(hS "name" 380),(hS "part" 381)].toArray 0,#[]⟩::
 ⟨(.type "dict"),none,.dict (hE P "__module__" 366 (hS "lampforge.errors" 215)::hE P "__firstlineno__" 370 (.int 49 369)::hE P "__init__" 379 (.ref 146)::hE P "__static_attributes__" 382 (.ref 147)::hE P "__doc__" 383 .none::[]).toArray 2,#[]⟩::
 ⟨(.type "type"),none,.cls {name:="NoPart",bases:=[(.ref 41)],mro:=[(.ref 149),(.ref 41),(.type "ValueError"),(.type "Exception"),(.type "BaseException"),(.type "object")],ns:=148,qualname:="NoPart",hasDict:=true,subclasses:=[],abstract:=false,hasDel:=false},#[some (.ref 133),none,some (hS "NoPart" 359),some (hS "NoPart" 367),some (.builtin "ValueError.__new__"),some (.bool true)]⟩::
 ⟨(.type "super"),none,.fields [(.ref 149),(.ref 149),(.ref 149)].toArray,#[]⟩::
 ⟨(.type "builtin_function_or_method"),none,.fields [(.builtin "object.__init_subclass__"),(.ref 149)].toArray,#[]⟩::
 ⟨(.type "tuple"),none,.seq [(.ref 41)].toArray 0,#[]⟩::
 ⟨(.type "builtin_function_or_method"),none,.fields [(.builtin "type.__prepare__"),(.type "type")].toArray,#[]⟩::
 ⟨(.type "dict"),none,.dict (hE P "__module__" 393 (hS "lampforge.errors" 215)::hE P "__qualname__" 395 (hS "TooMuch" 394)::hE P "__firstlineno__" 397 (.int 55 396)::hE P "__static_attributes__" 398 (.ref 159)::[]).toArray 4,#[]⟩::
 ⟨(.type "tuple"),none,.seq [].toArray 0,#[]⟩::
 ⟨.none,none,.fields [].toArray,#[]⟩::
 ⟨(.type "code"),none,.fields [(hS "TooMuch" 388),(hS "TooMuch" 389),(hS "/claim/cut.py" 390),(.int 55 0),(.int 0 0),(.int 0 0),(.int 0 0),(.int 0 0),(.ref 155),(.bool false),(.int 181 0),(.ref 156),.none,.none,.none,.none,(.int 391 0),(.int 55 0),(hS "/claim/cut.py" 392)].toArray,#[]⟩::
 ⟨(.type "frame"),none,.plain,#[some (.ref 157),some (.ref 3),some (.ref 154),none,some (hS "lampforge.errors" 215),none,some (.ref 0)]⟩::
 ⟨(.type "tuple"),none,.seq [].toArray 0,#[]⟩::
 ⟨(.type "dict"),none,.dict (hE P "__module__" 393 (hS "lampforge.errors" 215)::hE P "__firstlineno__" 397 (.int 55 396)::hE P "__static_attributes__" 398 (.ref 159)::hE P "__doc__" 399 .none::[]).toArray 2,#[]⟩::
 ⟨(.type "type"),none,.cls {name:="TooMuch",bases:=[(.ref 41)],mro:=[(.ref 161),(.ref 41),(.type "ValueError"),(.type "Exception"),(.type "BaseException"),(.type "object")],ns:=160,qualname:="TooMuch",hasDict:=true,subclasses:=[],abstract:=false,hasDel:=false},#[some (.ref 152),none,some (hS "TooMuch" 386),some (hS "TooMuch" 394),some (.builtin "ValueError.__new__"),some (.bool true)]⟩::
 ⟨(.type "super"),none,.fields [(.ref 161),(.ref 161),(.ref 161)].toArray,#[]⟩::
 ⟨(.type "builtin_function_or_method"),none,.fields [(.builtin "object.__init_subclass__"),(.ref 161)].toArray,#[]⟩::
 ⟨(.type "tuple"),none,.seq [(.ref 41)].toArray 0,#[]⟩::
 ⟨(.type "builtin_function_or_method"),none,.fields [(.builtin "type.__prepare__"),(.type "type")].toArray,#[]⟩::
 ⟨(.type "dict"),none,.dict (hE P "__module__" 409 (hS "lampforge.errors" 215)::hE P "__qualname__" 411 (hS "Ring" 410)::hE P "__firstlineno__" 413 (.int 57 412)::hE P "__init__" 421 (.ref 177)::hE P "__static_attributes__" 423 (.ref 178)::[]).toArray 5,#[]⟩::
 ⟨(.type "tuple"),none,.seq [].toArray 0,#[]⟩::
 ⟨.none,none,.fields [(.int 59 0),(.int 4 0),(.ref 176)].toArray,#[]⟩::
 ⟨(.type "code"),none,.fields [(hS "Ring" 404),(hS "Ring" 405),(hS "/claim/cut.py" 406),(.int 57 0),(.int 0 0),(.int 0 0),(.int 0 0),(.int 0 0),(.ref 167),(.bool false),(.int 181 0),(.ref 168),.none,.none,.none,.none,(.int 407 0),(.int 57 0),(hS "/claim/cut.py" 408)].toArray,#[]⟩::
 ⟨(.type "frame"),none,.plain,#[some (.ref 169),some (.ref 3),some (.ref 166),none,some (hS "lampforge.errors" 215),none,some (.ref 0)]⟩::
 ⟨(.type "tuple"),none,.seq [].toArray 0,#[]⟩::
 ⟨.none,none,.fields [].toArray,#[]⟩::
 ⟨(.type "tuple"),none,.seq [(hS "self" 417),(hS "names" 418)].toArray 0,#[]⟩::
 ⟨(.type "tuple"),none,.seq [].toArray 0,#[]⟩::
 hR "__init__" "Ring.__init__" s_Ring_init::
 hC "__init__" "Ring.__init__" 414 59 2 3 171 172 (.ref 173) (.ref 174) 175 419 420::
 hF "__init__" "Ring.__init__" s_Ring_init .none .none .none (hS "lampforge.errors" 215) none (.ref 176) .none::
 ⟨(.type "tuple"),none,.seq [(hS "names" 422)].toArray 0,#[]⟩::
 ⟨(.type "dict"),none,.dict (hE P "__module__" 409 (hS "lampforge.errors" 215)::hE P "__firstlineno__" 413 (.int 57 412)::hE P "__init__" 421 (.ref 177)::hE P "__static_attributes__" 423 (.ref 178)::hE P "__doc__" 424 .none::[]).toArray 2,#[]⟩::
 ⟨(.type "type"),none,.cls {name:="Ring",bases:=[(.ref 41)],mro:=[(.ref 180),(.ref 41),(.type "ValueError"),(.type "Exception"),(.type "BaseException"),(.type "object")],ns:=179,qualname:="Ring",hasDict:=true,subclasses:=[],abstract:=false,hasDel:=false},#[some (.ref 164),none,some (hS "Ring" 402),some (hS "Ring" 410),some (.builtin "ValueError.__new__"),some (.bool true)]⟩::
 ⟨(.type "super"),none,.fields [(.ref 180),(.ref 180),(.ref 180)].toArray,#[]⟩::
 ⟨(.type "builtin_function_or_method"),none,.fields [(.builtin "object.__init_subclass__"),(.ref 180)].toArray,#[]⟩::
 ⟨(.type "tuple"),none,.seq [(.ref 41)].toArray 0,#[]⟩::
 ⟨(.type "builtin_function_or_method"),none,.fields [(.builtin "type.__prepare__"),(.type "type")].toArray,#[]⟩::
 ⟨(.type "dict"),none,.dict (hE P "__module__" 434 (hS "lampforge.errors" 215)::hE P "__qualname__" 436 (hS "NoPair" 435)::hE P "__firstlineno__" 438 (.int 62 437)::hE P "__static_attributes__" 439 (.ref 190)::[]).toArray 4,#[]⟩::
 ⟨(.type "tuple"),none,.seq [].toArray 0,#[]⟩::
 ⟨.none,none,.fields [].toArray,#[]⟩::
 ⟨(.type "code"),none,.fields [(hS "NoPair" 429),(hS "NoPair" 430),(hS "/claim/cut.py" 431),(.int 62 0),(.int 0 0),(.int 0 0),(.int 0 0),(.int 0 0),(.ref 186),(.bool false),(.int 181 0),(.ref 187),.none,.none,.none,.none,(.int 432 0),(.int 62 0),(hS "/claim/cut.py" 433)].toArray,#[]⟩::
 ⟨(.type "frame"),none,.plain,#[some (.ref 188),some (.ref 3),some (.ref 185),none,some (hS "lampforge.errors" 215),none,some (.ref 0)]⟩::
 ⟨(.type "tuple"),none,.seq [].toArray 0,#[]⟩::
 ⟨(.type "dict"),none,.dict (hE P "__module__" 434 (hS "lampforge.errors" 215)::hE P "__firstlineno__" 438 (.int 62 437)::hE P "__static_attributes__" 439 (.ref 190)::hE P "__doc__" 440 .none::[]).toArray 2,#[]⟩::
 ⟨(.type "type"),none,.cls {name:="NoPair",bases:=[(.ref 41)],mro:=[(.ref 192),(.ref 41),(.type "ValueError"),(.type "Exception"),(.type "BaseException"),(.type "object")],ns:=191,qualname:="NoPair",hasDict:=true,subclasses:=[],abstract:=false,hasDel:=false},#[some (.ref 183),none,some (hS "NoPair" 427),some (hS "NoPair" 435),some (.builtin "ValueError.__new__"),some (.bool true)]⟩::
 ⟨(.type "super"),none,.fields [(.ref 192),(.ref 192),(.ref 192)].toArray,#[]⟩::
 ⟨(.type "builtin_function_or_method"),none,.fields [(.builtin "object.__init_subclass__"),(.ref 192)].toArray,#[]⟩::
 ⟨(.type "tuple"),none,.seq [(.ref 41)].toArray 0,#[]⟩::
 ⟨(.type "builtin_function_or_method"),none,.fields [(.builtin "type.__prepare__"),(.type "type")].toArray,#[]⟩::
 ⟨(.type "dict"),none,.dict (hE P "__module__" 450 (hS "lampforge.errors" 215)::hE P "__qualname__" 452 (hS "NoPaper" 451)::hE P "__firstlineno__" 454 (.int 64 453)::hE P "__init__" 463 (.ref 208)::hE P "__static_attributes__" 466 (.ref 209)::[]).toArray 5,#[]⟩::
 ⟨(.type "tuple"),none,.seq [].toArray 0,#[]⟩::
 ⟨.none,none,.fields [(.int 66 0),(.int 4 0),(.ref 207)].toArray,#[]⟩::
 ⟨(.type "code"),none,.fields [(hS "NoPaper" 445),(hS "NoPaper" 446),(hS "/claim/cut.py" 447),(.int 64 0),(.int 0 0),(.int 0 0),(.int 0 0),(.int 0 0),(.ref 198),(.bool false),(.int 181 0),(.ref 199),.none,.none,.none,.none,(.int 448 0),(.int 64 0),(hS "/claim/cut.py" 449)].toArray,#[]⟩::
 ⟨(.type "frame"),none,.plain,#[some (.ref 200),some (.ref 3),some (.ref 197),none,some (hS "lampforge.errors" 215),none,some (.ref 0)]⟩::
 ⟨(.type "tuple"),none,.seq [].toArray 0,#[]⟩::
 ⟨.none,none,.fields [].toArray,#[]⟩::
 ⟨(.type "tuple"),none,.seq [(hS "self" 458),(hS "where" 459),(hS "at" 460)].toArray 0,#[]⟩::
 ⟨(.type "tuple"),none,.seq [].toArray 0,#[]⟩::
 hR "__init__" "NoPaper.__init__" s_NoPaper_init::
 hC "__init__" "NoPaper.__init__" 455 66 3 3 202 203 (.ref 204) (.ref 205) 206 461 462::
 hF "__init__" "NoPaper.__init__" s_NoPaper_init .none .none .none (hS "lampforge.errors" 215) none (.ref 207) .none::
 ⟨(.type "tuple"),none,.seq [(hS "at" 464),(hS "where" 465)].toArray 0,#[]⟩::
 ⟨(.type "dict"),none,.dict (hE P "__module__" 450 (hS "lampforge.errors" 215)::hE P "__firstlineno__" 454 (.int 64 453)::hE P "__init__" 463 (.ref 208)::hE P "__static_attributes__" 466 (.ref 209)::hE P "__doc__" 467 .none::[]).toArray 2,#[]⟩::
 ⟨(.type "type"),none,.cls {name:="NoPaper",bases:=[(.ref 41)],mro:=[(.ref 211),(.ref 41),(.type "ValueError"),(.type "Exception"),(.type "BaseException"),(.type "object")],ns:=210,qualname:="NoPaper",hasDict:=true,subclasses:=[],abstract:=false,hasDel:=false},#[some (.ref 195),none,some (hS "NoPaper" 443),some (hS "NoPaper" 451),some (.builtin "ValueError.__new__"),some (.bool true)]⟩::
 ⟨(.type "super"),none,.fields [(.ref 211),(.ref 211),(.ref 211)].toArray,#[]⟩::
 ⟨(.type "builtin_function_or_method"),none,.fields [(.builtin "object.__init_subclass__"),(.ref 211)].toArray,#[]⟩::
 ⟨(.type "tuple"),none,.seq [(.ref 41)].toArray 0,#[]⟩::
 ⟨(.type "builtin_function_or_method"),none,.fields [(.builtin "type.__prepare__"),(.type "type")].toArray,#[]⟩::
 ⟨(.type "dict"),none,.dict (hE P "__module__" 477 (hS "lampforge.errors" 215)::hE P "__qualname__" 479 (hS "NoWord" 478)::hE P "__firstlineno__" 481 (.int 70 480)::hE P "__static_attributes__" 482 (.ref 221)::[]).toArray 4,#[]⟩::
 ⟨(.type "tuple"),none,.seq [].toArray 0,#[]⟩::
 ⟨.none,none,.fields [].toArray,#[]⟩::
 ⟨(.type "code"),none,.fields [(hS "NoWord" 472),(hS "NoWord" 473),(hS "/claim/cut.py" 474),(.int 70 0),(.int 0 0),(.int 0 0),(.int 0 0),(.int 0 0),(.ref 217),(.bool false),(.int 181 0),(.ref 218),.none,.none,.none,.none,(.int 475 0),(.int 70 0),(hS "/claim/cut.py" 476)].toArray,#[]⟩::
 ⟨(.type "frame"),none,.plain,#[some (.ref 219),some (.ref 3),some (.ref 216),none,some (hS "lampforge.errors" 215),none,some (.ref 0)]⟩::
 ⟨(.type "tuple"),none,.seq [].toArray 0,#[]⟩::
 ⟨(.type "dict"),none,.dict (hE P "__module__" 477 (hS "lampforge.errors" 215)::hE P "__firstlineno__" 481 (.int 70 480)::hE P "__static_attributes__" 482 (.ref 221)::hE P "__doc__" 483 .none::[]).toArray 2,#[]⟩::
 ⟨(.type "type"),none,.cls {name:="NoWord",bases:=[(.ref 41)],mro:=[(.ref 223),(.ref 41),(.type "ValueError"),(.type "Exception"),(.type "BaseException"),(.type "object")],ns:=222,qualname:="NoWord",hasDict:=true,subclasses:=[],abstract:=false,hasDel:=false},#[some (.ref 214),none,some (hS "NoWord" 470),some (hS "NoWord" 478),some (.builtin "ValueError.__new__"),some (.bool true)]⟩::
 ⟨(.type "super"),none,.fields [(.ref 223),(.ref 223),(.ref 223)].toArray,#[]⟩::
 ⟨(.type "builtin_function_or_method"),none,.fields [(.builtin "object.__init_subclass__"),(.ref 223)].toArray,#[]⟩::
 ⟨(.type "tuple"),none,.seq [(.ref 41)].toArray 0,#[]⟩::
 ⟨(.type "builtin_function_or_method"),none,.fields [(.builtin "type.__prepare__"),(.type "type")].toArray,#[]⟩::
 ⟨(.type "dict"),none,.dict (hE P "__module__" 493 (hS "lampforge.errors" 215)::hE P "__qualname__" 495 (hS "NoText" 494)::hE P "__firstlineno__" 497 (.int 72 496)::hE P "__static_attributes__" 498 (.ref 233)::[]).toArray 4,#[]⟩::
 ⟨(.type "tuple"),none,.seq [].toArray 0,#[]⟩::
 ⟨.none,none,.fields [].toArray,#[]⟩::
 ⟨(.type "code"),none,.fields [(hS "NoText" 488),(hS "NoText" 489),(hS "/claim/cut.py" 490),(.int 72 0),(.int 0 0),(.int 0 0),(.int 0 0),(.int 0 0),(.ref 229),(.bool false),(.int 181 0),(.ref 230),.none,.none,.none,.none,(.int 491 0),(.int 72 0),(hS "/claim/cut.py" 492)].toArray,#[]⟩::
 ⟨(.type "frame"),none,.plain,#[some (.ref 231),some (.ref 3),some (.ref 228),none,some (hS "lampforge.errors" 215),none,some (.ref 0)]⟩::
 ⟨(.type "tuple"),none,.seq [].toArray 0,#[]⟩::
 ⟨(.type "dict"),none,.dict (hE P "__module__" 493 (hS "lampforge.errors" 215)::hE P "__firstlineno__" 497 (.int 72 496)::hE P "__static_attributes__" 498 (.ref 233)::hE P "__doc__" 499 .none::[]).toArray 2,#[]⟩::
 ⟨(.type "type"),none,.cls {name:="NoText",bases:=[(.ref 41)],mro:=[(.ref 235),(.ref 41),(.type "ValueError"),(.type "Exception"),(.type "BaseException"),(.type "object")],ns:=234,qualname:="NoText",hasDict:=true,subclasses:=[],abstract:=false,hasDel:=false},#[some (.ref 226),none,some (hS "NoText" 486),some (hS "NoText" 494),some (.builtin "ValueError.__new__"),some (.bool true)]⟩::
 ⟨(.type "super"),none,.fields [(.ref 235),(.ref 235),(.ref 235)].toArray,#[]⟩::
 ⟨(.type "builtin_function_or_method"),none,.fields [(.builtin "object.__init_subclass__"),(.ref 235)].toArray,#[]⟩::
 ⟨(.type "tuple"),none,.seq [(.ref 41)].toArray 0,#[]⟩::
 ⟨(.type "builtin_function_or_method"),none,.fields [(.builtin "type.__prepare__"),(.type "type")].toArray,#[]⟩::
 ⟨(.type "dict"),none,.dict (hE P "__module__" 509 (hS "lampforge.errors" 215)::hE P "__qualname__" 511 (hS "NoRow" 510)::hE P "__firstlineno__" 513 (.int 74 512)::hE P "__static_attributes__" 514 (.ref 245)::[]).toArray 4,#[]⟩::
 ⟨(.type "tuple"),none,.seq [].toArray 0,#[]⟩::
 ⟨.none,none,.fields [].toArray,#[]⟩::
 ⟨(.type "code"),none,.fields [(hS "NoRow" 504),(hS "NoRow" 505),(hS "/claim/cut.py" 506),(.int 74 0),(.int 0 0),(.int 0 0),(.int 0 0),(.int 0 0),(.ref 241),(.bool false),(.int 181 0),(.ref 242),.none,.none,.none,.none,(.int 507 0),(.int 74 0),(hS "/claim/cut.py" 508)].toArray,#[]⟩::
 ⟨(.type "frame"),none,.plain,#[some (.ref 243),some (.ref 3),some (.ref 240),none,some (hS "lampforge.errors" 215),none,some (.ref 0)]⟩::
 ⟨(.type "tuple"),none,.seq [].toArray 0,#[]⟩::
 ⟨(.type "dict"),none,.dict (hE P "__module__" 509 (hS "lampforge.errors" 215)::hE P "__firstlineno__" 513 (.int 74 512)::hE P "__static_attributes__" 514 (.ref 245)::hE P "__doc__" 515 .none::[]).toArray 2,#[]⟩::
 ⟨(.type "type"),none,.cls {name:="NoRow",bases:=[(.ref 41)],mro:=[(.ref 247),(.ref 41),(.type "ValueError"),(.type "Exception"),(.type "BaseException"),(.type "object")],ns:=246,qualname:="NoRow",hasDict:=true,subclasses:=[],abstract:=false,hasDel:=false},#[some (.ref 238),none,some (hS "NoRow" 502),some (hS "NoRow" 510),some (.builtin "ValueError.__new__"),some (.bool true)]⟩::
 ⟨(.type "super"),none,.fields [(.ref 247),(.ref 247),(.ref 247)].toArray,#[]⟩::
 ⟨(.type "builtin_function_or_method"),none,.fields [(.builtin "object.__init_subclass__"),(.ref 247)].toArray,#[]⟩::
 ⟨(.type "tuple"),none,.seq [].toArray 0,#[]⟩::
 ⟨.none,none,.fields [].toArray,#[]⟩::
 ⟨(.type "tuple"),none,.seq [(hS "thing" 523)].toArray 0,#[]⟩::
 ⟨(.type "tuple"),none,.seq [].toArray 0,#[]⟩::
 hR "is_whole" "is_whole" y_x::
 hC "is_whole" "is_whole" 520 77 1 3 250 251 (.ref 252) (.ref 253) 254 524 525::
 hF "is_whole" "is_whole" y_x .none .none .none (hS "lampforge.words" 518) none (.ref 255) .none::
 ⟨(.type "tuple"),none,.seq [].toArray 0,#[]⟩::
 ⟨.none,none,.fields [].toArray,#[]⟩::
 ⟨(.type "tuple"),none,.seq [(hS "thing" 530),(hS "low" 531),(hS "high" 532)].toArray 0,#[]⟩::
 ⟨(.type "tuple"),none,.seq [].toArray 0,#[]⟩::
 hR "is_between" "is_between" y_h::
 hC "is_between" "is_between" 527 79 3 3 257 258 (.ref 259) (.ref 260) 261 533 534::
 hF "is_between" "is_between" y_h .none .none .none (hS "lampforge.words" 518) none (.ref 262) .none::
 ⟨(.type "tuple"),none,.seq [].toArray 0,#[]⟩::
 ⟨.none,none,.fields [].toArray,#[]⟩::
 ⟨(.type "tuple"),none,.seq [(hS "number" 539),(hS "width" 540),(hS "bits" 541),(hS "place" 542)].toArray 0,#[]⟩::
 ⟨(.type "tuple"),none,.seq [].toArray 0,#[]⟩::
 hR "bits_of" "bits_of" x_f::
 hC "bits_of" "bits_of" 536 81 2 3 264 265 (.ref 266) (.ref 267) 268 543 544::
 hF "bits_of" "bits_of" x_f .none .none .none (hS "lampforge.words" 518) none (.ref 269) .none::
 ⟨(.type "tuple"),none,.seq [].toArray 0,#[]⟩::
 ⟨.none,none,.fields [].toArray,#[]⟩::
 hR "all_stands" "all_stands" y_e::
 hC "all_stands" "all_stands" 548 88 1 3 271 272 .none .none 273 551 552::
 hF "all_stands" "all_stands" y_e .none .none .none (hS "lampforge.many" 546) none (.ref 274) .none::
 ⟨(.type "tuple"),none,.seq [].toArray 0,#[]⟩::
 ⟨.none,none,.fields [].toArray,#[]⟩::
 ⟨(.type "tuple"),none,.seq [(hS "one" 559),(hS "other" 560)].toArray 0,#[]⟩::
 ⟨(.type "tuple"),none,.seq [].toArray 0,#[]⟩::
 hR "look_pair" "look_pair" y_o::
 hC "look_pair" "look_pair" 556 99 2 3 276 277 (.ref 278) (.ref 279) 280 561 562::
 hF "look_pair" "look_pair" y_o .none .none .none (hS "lampforge.papers" 554) none (.ref 281) .none::
 ⟨(.type "tuple"),none,.seq [].toArray 0,#[]⟩::
 ⟨.none,none,.fields [].toArray,#[]⟩::
 ⟨(.type "tuple"),none,.seq [(hS "one" 571),(hS "other" 572)].toArray 0,#[]⟩::
 ⟨(.type "tuple"),none,.seq [].toArray 0,#[]⟩::
 hR "look_small" "look_small" y_j::
 hC "look_small" "look_small" 568 104 2 3 283 284 (.ref 285) (.ref 286) 287 573 574::
 hF "look_small" "look_small" y_j .none .none .none (hS "lampforge.joint" 564) none (.ref 288) .none::
 ⟨(.type "tuple"),none,.seq [].toArray 0,#[]⟩::
 ⟨.none,none,.fields [].toArray,#[]⟩::
 hR "is_table" "is_table" y_w::
 hC "is_table" "is_table" 576 108 3 3 290 291 .none .none 292 579 580::
 hF "is_table" "is_table" y_w .none .none .none (hS "lampforge.joint" 564) none (.ref 293) .none::
 ⟨(.type "tuple"),none,.seq [].toArray 0,#[]⟩::
 ⟨.none,none,.fields [].toArray,#[]⟩::
 ⟨(.type "tuple"),none,.seq [(hS "one" 585),(hS "other" 586),(hS "thing" 587)].toArray 0,#[]⟩::
 ⟨(.type "tuple"),none,.seq [].toArray 0,#[]⟩::
 hR "is_joint_stand" "is_joint_stand" z_s::
 hC "is_joint_stand" "is_joint_stand" 582 120 3 3 295 296 (.ref 297) (.ref 298) 299 588 589::
 hF "is_joint_stand" "is_joint_stand" z_s .none .none .none (hS "lampforge.joint" 564) none (.ref 300) .none::
 ⟨(.type "tuple"),none,.seq [].toArray 0,#[]⟩::
 ⟨.none,none,.fields [].toArray,#[]⟩::
 hR "is_stand" "is_stand" y_v::
 hC "is_stand" "is_stand" 591 124 2 3 302 303 .none .none 304 594 595::
 hF "is_stand" "is_stand" y_v .none .none .none (hS "lampforge.joint" 564) none (.ref 305) .none::
 ⟨(.type "tuple"),none,.seq [].toArray 0,#[]⟩::
 ⟨.none,none,.fields [].toArray,#[]⟩::
 ⟨(.type "tuple"),none,.seq [(hS "one" 600),(hS "other" 601)].toArray 0,#[]⟩::
 ⟨(.type "tuple"),none,.seq [].toArray 0,#[]⟩::
 hR "first_joint_stand" "first_joint_stand" z_o::
 hC "first_joint_stand" "first_joint_stand" 597 128 2 3 307 308 (.ref 309) (.ref 310) 311 602 603::
 hF "first_joint_stand" "first_joint_stand" z_o .none .none .none (hS "lampforge.joint" 564) none (.ref 312) .none::
 ⟨(.type "tuple"),none,.seq [].toArray 0,#[]⟩::
 ⟨.none,none,.fields [].toArray,#[]⟩::
 hR "beats_from" "beats_from" y_f::
 hC "beats_from" "beats_from" 605 130 3 3 314 315 .none .none 316 608 609::
 hF "beats_from" "beats_from" y_f .none .none .none (hS "lampforge.joint" 564) none (.ref 317) .none::
 ⟨(.type "tuple"),none,.seq [].toArray 0,#[]⟩::
 ⟨.none,none,.fields [].toArray,#[]⟩::
 hR "beats_apart" "beats_apart" z_y::
 hC "beats_apart" "beats_apart" 611 143 2 3 319 320 .none .none 321 614 615::
 hF "beats_apart" "beats_apart" z_y .none .none .none (hS "lampforge.joint" 564) none (.ref 322) .none::
 ⟨(.type "tuple"),none,.seq [].toArray 0,#[]⟩::
 ⟨.none,none,.fields [].toArray,#[]⟩::
 hR "bits_among" "bits_among" y_g::
 hC "bits_among" "bits_among" 617 149 2 3 324 325 .none .none 326 620 621::
 hF "bits_among" "bits_among" y_g .none .none .none (hS "lampforge.joint" 564) none (.ref 327) .none::
 ⟨(.type "tuple"),none,.seq [].toArray 0,#[]⟩::
 ⟨.none,none,.fields [].toArray,#[]⟩::
 ⟨(.type "tuple"),none,.seq [(hS "beats" 626),(hS "least" 627)].toArray 0,#[]⟩::
 ⟨(.type "tuple"),none,.seq [].toArray 0,#[]⟩::
 hR "least_beat" "least_beat" y_i::
 hC "least_beat" "least_beat" 623 151 1 3 329 330 (.ref 331) (.ref 332) 333 628 629::
 hF "least_beat" "least_beat" y_i .none .none .none (hS "lampforge.joint" 564) none (.ref 334) .none::
 ⟨(.type "tuple"),none,.seq [].toArray 0,#[]⟩::
 ⟨.none,none,.fields [].toArray,#[]⟩::
 hR "meet" "meet" s_meet::
 hC "meet" "meet" 631 157 3 3 336 337 .none .none 338 634 635::
 hF "meet" "meet" s_meet .none .none .none (hS "lampforge.joint" 564) none (.ref 339) .none::
 ⟨(.type "tuple"),none,.seq [].toArray 0,#[]⟩::
 ⟨.none,none,.fields [].toArray,#[]⟩::
 ⟨(.type "tuple"),none,.seq [(hS "came" 640),(hS "joint" 641),(hS "numbers" 642)].toArray 0,#[]⟩::
 ⟨(.type "tuple"),none,.seq [].toArray 0,#[]⟩::
 hR "way_to" "way_to" s_way_to::
 hC "way_to" "way_to" 637 176 2 3 341 342 (.ref 343) (.ref 344) 345 643 644::
 hF "way_to" "way_to" s_way_to .none .none .none (hS "lampforge.joint" 564) none (.ref 346) .none::
 ⟨(.type "tuple"),none,.seq [].toArray 0,#[]⟩::
 ⟨.none,none,.fields [].toArray,#[]⟩::
 ⟨(.type "tuple"),none,.seq [(hS "_law_script" 651),(hS "_law_k" 652)].toArray 0,#[]⟩::
 ⟨(.type "tuple"),none,.seq [].toArray 0,#[]⟩::
 hR "_law_cell_at" "_law_cell_at" y_n::
 hC "_law_cell_at" "_law_cell_at" 648 184 2 3 348 349 (.ref 350) (.ref 351) 352 653 654::
 hF "_law_cell_at" "_law_cell_at" y_n .none .none .none (hS "law_lampforge_k62_works_not_looked_at_togeth" 646) none (.ref 353) .none::
 ⟨(.type "tuple"),none,.seq [].toArray 0,#[]⟩::
 ⟨.none,none,.fields [].toArray,#[]⟩::
 ⟨(.type "tuple"),none,.seq [(hS "_law_script" 659),(hS "_law_k" 660),(hS "_law_cell" 661)].toArray 0,#[]⟩::
 ⟨(.type "tuple"),none,.seq [].toArray 0,#[]⟩::
 hR "_law_bag" "_law_bag" s_L_bag::
 hC "_law_bag" "_law_bag" 656 188 2 3 355 356 (.ref 357) (.ref 358) 359 662 663::
 hF "_law_bag" "_law_bag" s_L_bag .none .none .none (hS "law_lampforge_k62_works_not_looked_at_togeth" 646) none (.ref 360) .none::
 ⟨(.type "tuple"),none,.seq [].toArray 0,#[]⟩::
 ⟨.none,none,.fields [].toArray,#[]⟩::
 ⟨(.type "tuple"),none,.seq [(hS "_law_bag_here" 668),(hS "_law_many" 669),(hS "_law_found" 670)].toArray 0,#[]⟩::
 ⟨(.type "tuple"),none,.seq [].toArray 0,#[]⟩::
 hR "_law_take" "_law_take" s_L_take::
 hC "_law_take" "_law_take" 665 191 2 3 362 363 (.ref 364) (.ref 365) 366 671 672::
 hF "_law_take" "_law_take" s_L_take .none .none .none (hS "law_lampforge_k62_works_not_looked_at_togeth" 646) none (.ref 367) .none::
 ⟨(.type "tuple"),none,.seq [].toArray 0,#[]⟩::
 ⟨.none,none,.fields [].toArray,#[]⟩::
 hR "_law_work" "_law_work" s_L_work::
 hC "_law_work" "_law_work" 674 198 5 3 369 370 .none .none 371 677 678::
 hF "_law_work" "_law_work" s_L_work .none .none .none (hS "law_lampforge_k62_works_not_looked_at_togeth" 646) none (.ref 372) .none::
 ⟨(.type "tuple"),none,.seq [].toArray 0,#[]⟩::
 ⟨.none,none,.fields [].toArray,#[]⟩::
 ⟨(.type "tuple"),none,.seq [(hS "_law_one" 683),(hS "_law_other" 684),(hS "_law_thing" 685),(hS "_law_most" 686)].toArray 0,#[]⟩::
 ⟨(.type "tuple"),none,.seq [].toArray 0,#[]⟩::
 hR "_law_asked" "_law_asked" x_d::
 hC "_law_asked" "_law_asked" 680 210 4 3 374 375 (.ref 376) (.ref 377) 378 687 688::
 hF "_law_asked" "_law_asked" x_d .none .none .none (hS "law_lampforge_k62_works_not_looked_at_togeth" 646) none (.ref 379) .none::
 ⟨(.type "tuple"),none,.seq [].toArray 0,#[]⟩::
 ⟨.none,none,.fields [].toArray,#[]⟩::
 ⟨(.type "tuple"),none,.seq [(hS "_law_one" 693),(hS "_law_other" 694),(hS "_law_thing" 695),(hS "_law_most" 696),(hS "_law_others" 697),(hS "_law_found" 698),(hS "e" 699)].toArray 0,#[]⟩::
 ⟨(.type "tuple"),none,.seq [].toArray 0,#[]⟩::
 hR "_law_said" "_law_said" s_L_said::
 hC "_law_said" "_law_said" 690 214 4 3 381 382 (.ref 383) (.ref 384) 385 700 701::
 hF "_law_said" "_law_said" s_L_said .none .none .none (hS "law_lampforge_k62_works_not_looked_at_togeth" 646) none (.ref 386) .none::
 ⟨(.type "tuple"),none,.seq [].toArray 0,#[]⟩::
 ⟨.none,none,.fields [].toArray,#[]⟩::
 ⟨(.type "tuple"),none,.seq [(hS "_law_one" 706),(hS "_law_other" 707),(hS "_law_thing" 708),(hS "_law_most" 709),(hS "_law_found" 710)].toArray 0,#[]⟩::
 ⟨(.type "tuple"),none,.seq [].toArray 0,#[]⟩::
 hR "_law_good" "_law_good" s_L_good::
 hC "_law_good" "_law_good" 703 227 4 3 388 389 (.ref 390) (.ref 391) 392 711 712::
 hF "_law_good" "_law_good" s_L_good .none .none .none (hS "law_lampforge_k62_works_not_looked_at_togeth" 646) none (.ref 393) .none::
 ⟨(.type "tuple"),none,.seq [].toArray 0,#[]⟩::
 ⟨.none,none,.fields [].toArray,#[]⟩::
 hR "law" "law" s_law::
 hC "law" "law" 714 233 1 3 395 396 .none .none 397 717 718::
 hF "law" "law" s_law .none .none .none (hS "law_lampforge_k62_works_not_looked_at_togeth" 646) none (.ref 398) .none::[]
def HL (P : Params) : Heap := { objs := (hW P).toArray, life := {} }
set_option maxRecDepth 100000 in
set_option maxHeartbeats 0 in
theorem hH : ∀ w, (PySem.W.openEnds treeTable PySem.Challenge.rw_lampforge_k62_works_not_looked_at_togeth.row.prog w 8228).map (fun s => (s.heap, s.gens)) = some (HL w.params, #[]) := fun w => by kernel_rfl
theorem hT {β : Type} {o : Option Shared} {h : Heap} {f : Shared → β} {b : β} (e : o.map (fun s => (s.heap, s.gens)) = some (h, #[])) (k : ∀ d t os, f ⟨h, #[], d, t, os⟩ = b) : o.map f = some b := by
 cases o with
 | none => cases e
 | some s =>
  obtain ⟨h', g, d, t, os⟩ := s
  have z := Option.some.inj e
  have z1 : h' = h := congrArg Prod.fst z
  have z2 : g = #[] := congrArg Prod.snd z
  subst z1 z2
  exact congrArg some (k d t os)
set_option maxRecDepth 100000 in
set_option maxHeartbeats 0 in
theorem hl1:∀ w,(PySem.W.openEnds treeTable PySem.Challenge.rw_lampforge_k62_works_not_looked_at_togeth.row.prog w 8228).map (fun s=>PySem.W.Hook.obs (PySem.W.kHook hK hA hQ) s)=some (PySem.W.Hook.val (PySem.W.kHook hK hA hQ) w):=fun w=>hT (hH w) (fun d t os => by kernel_rfl)
set_option maxRecDepth 100000 in
set_option maxHeartbeats 0 in
theorem hl2:∀ w,(PySem.W.openEnds treeTable PySem.Challenge.rw_lampforge_k62_works_not_looked_at_togeth.row.prog w 8228).map (fun s=>PySem.W.openSeen hV hL (importedModules PySem.Challenge.rw_lampforge_k62_works_not_looked_at_togeth.row.prog.main.body) (fun s=>PySem.W.xlAt hV [] s&&PySem.W.recOk (PySem.W.RowW.records PySem.Challenge.rw_lampforge_k62_works_not_looked_at_togeth.row.toRowW) s) true s)=some (PySem.W.openGood hV hL):=fun w=>hT (hH w) (fun d t os => by kernel_rfl)
theorem hM{α β γ:Type}{o:Option α}{f:α->β}{g:α->γ}{a:β}{b:γ}(h1:o.map f=some a)(h2:o.map g=some b):o.map (fun s=>(f s,g s))=some (a,b):=by
 cases o with
 | none=>cases h1
 | some x=>exact congrArg some (congr (congrArg Prod.mk (Option.some.inj h1)) (Option.some.inj h2))
end K62
namespace L2
open PySem PySem.Spec PyProof.Rows
abbrev Key:=Sum Int Str
def keyIs:Key->Value->Bool
 | .inl k,v=>Value.isInt k v
 | .inr x,v=>Value.isStrOf x v
def keyH(w:World):Key->Int
 | .inl k=>hashInt k
 | .inr x=>hashStr w x
theorem y_s:∀ {k:Key} {v:Value},keyIs k v=true->(∃ i t,k=Sum.inl i/\v=Value.int i t)\/(∃ x t,k=Sum.inr x/\v=Value.str x t)
 | .inl i,v,h=>by
  obtain ⟨t,e⟩:=Value.isInt_shape (k:=i) (v:=v) h
  exact .inl ⟨i,t,rfl,e⟩
 | .inr x,v,h=>by
  obtain ⟨t,e⟩:=Value.isStrOf_shape (x:=x) (v:=v) h
  exact .inr ⟨x,t,rfl,e⟩
theorem keyIs_int(i:Int)(t:Tok):keyIs (.inl i) (.int i t)=true:=by simp [keyIs,Value.isInt]
theorem keyIs_str(x:Str)(t:Tok):keyIs (.inr x) (.str x t)=true:=by simp [keyIs,Value.isStrOf]
theorem key_ll(a b:Int):decide ((Sum.inl a:Key)=Sum.inl b)=(a == b):=by
 by_cases e:a=b
 ·subst e;simp
 ·have h:¬(Sum.inl a:Key)=Sum.inl b:=fun q=>e (Sum.inl.inj q)
  rw [decide_eq_false h]
  exact (beq_eq_false_iff_ne.mpr e).symm
theorem key_rr(a b:Str):decide ((Sum.inr a:Key)=Sum.inr b)=decide (a=b):=by
 by_cases e:a=b
 ·subst e;simp
 ·have h:¬(Sum.inr a:Key)=Sum.inr b:=fun q=>e (Sum.inr.inj q)
  rw [decide_eq_false h,decide_eq_false e]
theorem key_lr(a:Int)(b:Str):decide ((Sum.inl a:Key)=Sum.inr b)=false:=decide_eq_false (fun q=>nomatch q)
theorem key_rl(a:Str)(b:Int):decide ((Sum.inr a:Key)=Sum.inl b)=false:=decide_eq_false (fun q=>nomatch q)
def mixKind(prog:Program)(w:World):PySem.KeyKind prog w Key where
 is:=keyIs
 hash:=keyH w
 inj:=fun v a b ha hb=>by
  rcases y_s ha with ⟨i,t,rfl,rfl⟩ | ⟨x,t,rfl,rfl⟩
  ·rcases y_s hb with ⟨j,u,rfl,e⟩ | ⟨y,u,rfl,e⟩
   ·injection e with e1 _;rw [e1]
   ·exact nomatch e
  ·rcases y_s hb with ⟨j,u,rfl,e⟩ | ⟨y,u,rfl,e⟩
   ·exact nomatch e
   ·injection e with e1 _;rw [e1]
 byValue:=fun k v h=>by
  rcases y_s h with ⟨i,t,rfl,rfl⟩ | ⟨x,t,rfl,rfl⟩<;>rfl
 pyHash:=fun hv h=>by
  rcases y_s hv with ⟨i,t,rfl,rfl⟩ | ⟨x,t,rfl,rfl⟩
  ·exact wpAny_pyHash_int h
  ·exact wpAny_pyHash_str h
 eqBool:=fun hu hv h=>by
  rcases y_s hu with ⟨i,t,rfl,rfl⟩ | ⟨x,t,rfl,rfl⟩
  ·rcases y_s hv with ⟨j,u,rfl,rfl⟩ | ⟨y,u,rfl,rfl⟩
   ·rw [key_ll] at h;exact wpAny_eqBool_int h
   ·rw [key_lr] at h;exact SeqAt.EqAt.int_str i t y u _ _ _ _ h
  ·rcases y_s hv with ⟨j,u,rfl,rfl⟩ | ⟨y,u,rfl,rfl⟩
   ·rw [key_rl] at h;exact SeqAt.EqAt.str_int x t j u _ _ _ _ h
   ·rw [key_rr] at h;exact wpAny_eqBool_str h
 «strs» := fun k x t v h=>by
  rcases y_s h with ⟨i,u,rfl,e⟩ | ⟨y,u,rfl,e⟩
  ·exact nomatch e
  ·injection e with e1 _
   subst e1
   cases v<;>rfl
theorem mixKind_int(prog:Program)(w:World)(i:Int)(t:Tok):(mixKind prog w).is (.inl i) (.int i t)=true:=keyIs_int i t
theorem mixKind_str(prog:Program)(w:World)(x:Str)(t:Tok):(mixKind prog w).is (.inr x) (.str x t)=true:=keyIs_str x t
inductive V where
 | non | bl (b:Bool) | int (i:Int) | str (x:Str) | byt (b:Array UInt8) | flt (b:UInt64) | ref (a:Addr) | ty (n:String)
 deriving DecidableEq
def RelV:V->Value->Prop
 | .non,u=>u=Value.none
 | .bl b,u=>u=Value.bool b
 | .int i,u=>∃ t,u=Value.int i t
 | .str x,u=>∃ t,u=Value.str x t
 | .byt b,u=>∃ t,u=Value.bytes b t
 | .flt b,u=>∃ t,u=Value.float b t
 | .ref a,u=>u=Value.ref a
 | .ty n,u=>u=Value.type n
abbrev Vals:List V->List Value->Prop:=Paired RelV
theorem Vals.length{xs:List V}{us:List Value}(r:Vals xs us):xs.length=us.length:=Paired.length r
theorem Vals.get:∀ {xs:List V} {us:List Value} {i:Nat} {x:V},Vals xs us->xs[i]? = some x->∃ u,us[i]? = some u/\RelV x u
 | _,_,_,_,.nil,e=>by simp at e
 | _,_,0,_,.cons r _,e=>by simp at e;subst e;exact ⟨_,rfl,r⟩
 | _,_,i+1,x,.cons _ t,e=>by
  obtain ⟨u,h1,h2⟩:=Vals.get (i:=i) (x:=x) t (by simpa using e)
  exact ⟨u,by simpa using h1,h2⟩
theorem Vals.set{x:V}{u:Value}(r:RelV x u):∀ {xs:List V} {us:List Value} (i:Nat),Vals xs us->Vals (xs.set i x) (us.set i u)
 | _,_,_,.nil=>.nil
 | _,_,0,.cons _ t=>.cons r t
 | _,_,i+1,.cons q t=>.cons q (Vals.set r i t)
theorem Vals.append:∀ {xs ys:List V} {us ws:List Value},Vals xs us->Vals ys ws->Vals (xs++ys) (us++ws)
 | _,_,_,_,.nil,s=>s
 | _,_,_,_,.cons r t,s=>.cons r (Vals.append t s)
theorem Vals.take:∀ {xs:List V} {us:List Value} (n:Nat),Vals xs us->Vals (xs.take n) (us.take n)
 | _,_,0,_=>.nil
 | _,_,_+1,.nil=>.nil
 | _,_,n+1,.cons r t=>.cons r (Vals.take n t)
theorem Vals.drop:∀ {xs:List V} {us:List Value} (n:Nat),Vals xs us->Vals (xs.drop n) (us.drop n)
 | _,_,0,r=>r
 | _,_,_+1,.nil=>.nil
 | _,_,n+1,.cons _ t=>Vals.drop n t
def RelO:Option V->Option Value->Prop
 | some v,some u=>RelV v u
 | none,none=>True
 | _,_=>False
def KV{κ:Type}:List (κ×V)->List (κ×Value)->Prop:=Paired fun (p:κ×V) (q:κ×Value)=>p.1=q.1/\RelV p.2 q.2
def kV:Key->V
 | .inl i=>.int i
 | .inr x=>.str x
inductive HO where
 | lst (xs:List V)
 | tup (xs:List V)
 | dK (kvs:List (Key×V)) | dT (kvs:List (List Key×V))
 | set (S:Int->Bool) (n:Nat)
 | ins (C dx:Addr) (fs:List (Str×V))
 | own (x:Addr)
 | xd (fs:List (Str×V))
 | met (f x:Addr)
 | rng (lo hi:Int)
 | frz (o:Obj) (u:HO)
 | tbl (pos:Pos) (qual:Str)
 | ext (φ:Heap->Prop)
abbrev Hp:=Addr->Option HO
def upd(H:Hp)(a:Addr)(o:HO):Hp:=fun b=>if b=a then some o else H b
theorem z_b{H:Hp}{a:Addr}{o:HO}:upd H a o a=some o:=by unfold upd;rw [if_pos rfl]
theorem z_m{H:Hp}{a b:Addr}{o:HO}(h:b≠a):upd H a o b=H b:=by unfold upd;rw [if_neg h]
theorem ne_of{H:Hp}{a b:Addr}{o u:HO}(h:H a=some o)(h':H b=some u)(d:o≠u):a≠b:=by
 intro e;subst e;rw [h] at h';exact d (Option.some.inj h')
theorem z_l{H:Hp}{a b:Addr}{o:HO}(h:H a=some o)(h':H b=none):a≠b:=by
 intro e;subst e;rw [h] at h';cases h'
section
variable (P:Program) (w:World)
def ObjOk(H:Hp)(h:Heap)(a:Addr):HO->Prop
 | .lst xs=>xs.length<=sizeLine/\∃ (its:List Value) (n:Nat),Vals xs its/\h.get? a=some { cls:=.type "list",data:=.seq its.toArray n }
 | .tup xs=>xs.length<=sizeLine/\∃ its:List Value,Vals xs its/\IsTup h a its.toArray
 | .dK kvs=>kvs.length<=sizeLine/\(a == sysModules)=false/\∃ vs,KV kvs vs/\h.DictOf (mixKind P w) a vs
 | .dT kvs=>kvs.length<=sizeLine/\(a == sysModules)=false/\∃ xs:List (List Key×Addr×Value),
   Paired (fun (p:List Key×V) (q:List Key×Addr×Value)=>p.1=q.1/\H q.2.1=some (.tup (p.1.map kV))/\RelV p.2 q.2.2) kvs xs /\
   ∃ o es ep,h.get? a=some o/\o.ExactDict/\o.data = .dict es ep/\es.toList=xs.map (entryOfKey (tupleKind (mixKind P w)))/\(xs.map (·.1)).Nodup
 | .set S n=>h.SetOf (intKind P w) a S n
 | .ins C dx fs=>H dx=some (.own a)/\fs.length<=1000/\dx≠a/\h.get? a=some (PySem.W.instObj C dx) /\
   ∃ mA,h.Ns1 dx mA/\(∀ f,RelO (fs.lookup f) (mA f))/\PySem.Within mA (fs.map (·.1))
 | .own _=>∃ o,h.get? a=some o
 | .xd fs=>∃ mA,h.Ns1 a mA/\∀ f,RelO (fs.lookup f) (mA f)
 | .rng lo hi=>∃ t u v,h.get? a=some { cls:=.type "range",data:=.fields #[.int lo t,.int hi u,.int 1 v] }
 | .frz o u=>h.get? a=some o/\ObjOk H h a u
 | .tbl pos qual=>∃ ps:Array Value,h.get? a=some { cls:=.none,data:=.fields ps }/\TriplesOk ps.toList/\(codeAmong pos ps.toList=none\/∃ c oc vs tq,codeAmong pos ps.toList=some (.ref c)/\H c=some (.frz oc (.own a))/\oc.data = .fields vs/\vs[1]? = some (.str qual tq))
 | .met f x=>h.get? a=some (PySem.W.methodObj (.ref f) (.ref x))
 | .ext φ=>φ h/\(∃ o,h.get? a=some o)/\∀ h1 h2:Heap,φ h1->(∀ o,h1.get? a=some o->h2.get? a=some o)->φ h2
def HOk(H:Hp)(h:Heap):Prop:=∀ a o,H a=some o->ObjOk P w H h a o
end
section
variable {P:Program} {w:World} {H H':Hp} {h h':Heap} {a:Addr} {o:HO}
theorem ObjOk.lt(x:ObjOk P w H h a o):a<h.objs.size:=by
 cases o with
 | lst xs=>obtain ⟨_,_,_,_,e⟩:=x;exact Heap.lt_size e
 | tup xs=>obtain ⟨_,_,_,p⟩:=x;exact p.lt
 | dK kvs=>obtain ⟨_,_,_,_,o,_,_,e,_⟩:=x;exact Heap.lt_size e
 | dT kvs=>obtain ⟨_,_,_,_,o,_,_,e,_⟩:=x;exact Heap.lt_size e
 | set S n=>obtain ⟨o,_,_,_,e,_⟩:=x;exact Heap.lt_size e
 | ins C dx fs=>obtain ⟨_,_,_,e,_⟩:=x;exact Heap.lt_size e
 | own y=>obtain ⟨_,e⟩:=x;exact Heap.lt_size e
 | xd fs=>obtain ⟨_,⟨_,_,_,e,_⟩,_⟩:=x;exact Heap.lt_size e
 | rng lo hi=>obtain ⟨_,_,_,e⟩:=x;exact Heap.lt_size e
 | frz ob u=>obtain ⟨e,_⟩:=x;exact Heap.lt_size e
 | tbl pos qual=>obtain ⟨_,e,_⟩:=x;exact Heap.lt_size e
 | met f y=>exact Heap.lt_size (show h.get? a=some _ from x)
 | ext φ=>obtain ⟨_,⟨_,e⟩,_⟩:=x;exact Heap.lt_size e
theorem Paired.mapP{α β:Type}{F G:α->β->Prop}:∀ {l₁:List α} {l₂:List β},Paired F l₁ l₂->(∀ a b,F a b->G a b)->Paired G l₁ l₂
 | _,_,.nil,_=>.nil
 | _,_,.cons r t,f=>.cons (f _ _ r) (Paired.mapP t f)
theorem ObjOk.stay(x:ObjOk P w H h a o)(k:∀ b u,(b=a\/H b=some (.own a))->h.get? b=some u->h'.get? b=some u)
  (ho:∀ b,H b=some (.own a)->H' b=some (.own a)) (ht:∀ b xs,H b=some (.tup xs)->H' b=some (.tup xs)) (hz:∀ b o u,H b=some (.frz o u)->H' b=some (.frz o u)):ObjOk P w H' h' a o:=by
 induction o with
 | lst xs=>obtain ⟨z,its,n,r,e⟩:=x;exact ⟨z,its,n,r,k _ _ (.inl rfl) e⟩
 | tup xs=>obtain ⟨z,its,r,ob,e,c⟩:=x;exact ⟨z,its,r,ob,k _ _ (.inl rfl) e,c⟩
 | dK kvs=>obtain ⟨z,y,vs,r,ob,es,ep,e,c⟩:=x;exact ⟨z,y,vs,r,ob,es,ep,k _ _ (.inl rfl) e,c⟩
 | dT kvs =>
  obtain ⟨z,y,xs,r,ob,es,ep,e,c⟩:=x
  exact ⟨z,y,xs,Paired.mapP r fun p q z=>⟨z.1,ht _ _ z.2.1,z.2.2⟩,ob,es,ep,k _ _ (.inl rfl) e,c⟩
 | set S n=>obtain ⟨ob,es,ep,t,e,c⟩:=x;exact ⟨ob,es,ep,t,k _ _ (.inl rfl) e,c⟩
 | ins C dx fs =>
  obtain ⟨d,z,ne,e,mA,⟨od,es,ep,e2,c⟩,r⟩:=x
  exact ⟨ho _ d,z,ne,k _ _ (.inl rfl) e,mA,⟨od,es,ep,k _ _ (.inr d) e2,c⟩,r⟩
 | own y=>obtain ⟨ob,e⟩:=x;exact ⟨ob,k _ _ (.inl rfl) e⟩
 | xd fs=>obtain ⟨mA,⟨od,es,ep,e,c⟩,r⟩:=x;exact ⟨mA,⟨od,es,ep,k _ _ (.inl rfl) e,c⟩,r⟩
 | rng lo hi=>obtain ⟨t,u,v,e⟩:=x;exact ⟨t,u,v,k _ _ (.inl rfl) e⟩
 | frz ob u ih=>obtain ⟨e,q⟩:=x;exact ⟨k _ _ (.inl rfl) e,ih q⟩
 | tbl pos qual =>
  obtain ⟨ps,e,t,c⟩:=x
  refine ⟨ps,k a _ (.inl rfl) e,t,?_⟩
  rcases c with c | ⟨c,oc,vs,tq,c1,c2,c3⟩
  ·exact .inl c
  ·exact .inr ⟨c,oc,vs,tq,c1,hz _ _ _ c2,c3⟩
 | met f y =>
  have e:h.get? a=some (PySem.W.methodObj (.ref f) (.ref y)):=x
  show h'.get? a=some (PySem.W.methodObj (.ref f) (.ref y))
  exact k a _ (.inl rfl) e
 | ext φ=>obtain ⟨p,⟨o,e⟩,st⟩:=x;exact ⟨st _ _ p fun o q=>k _ _ (.inl rfl) q,⟨o,k _ _ (.inl rfl) e⟩,st⟩
theorem HOk.lt(x:HOk P w H h)(e:H a=some o):a<h.objs.size:=(x a o e).lt
theorem HOk.fresh(x:HOk P w H h)(e:h.objs.size<=a):H a=none:=by
 cases q:H a with
 | none=>rfl
 | some u=>exact absurd (Nat.lt_of_lt_of_le (x.lt q) e) (Nat.lt_irrefl _)
theorem HOk.kept(x:HOk P w H h)(k:∀ b u,h.get? b=some u->h'.get? b=some u):HOk P w H h':=fun a o e =>
 (x a o e).stay (fun b u _ q=>k b u q) (fun _ q=>q) (fun _ _ q=>q) fun _ _ _ q=>q
theorem HOk.laid(x:HOk P w H h)(k:∀ b u,h.get? b=some u->h'.get? b=some u)(hp:h.objs.size<=a)(new:ObjOk P w (upd H a o) h' a o):HOk P w (upd H a o) h':=fun b u e=>by
 have hn:=x.fresh hp
 by_cases hb:b=a
 ·subst hb;rw [z_b] at e;cases e;exact new
 ·rw [z_m hb] at e
  exact (x b u e).stay (fun c v _ q=>k c v q) (fun c q=>by rw [z_m (z_l q hn)];exact q) (fun c xs q=>by rw [z_m (z_l q hn)];exact q) fun c ob xs q=>by rw [z_m (z_l q hn)];exact q
end
def Rd(H:Hp)(a:Addr)(u:HO):Prop:=H a=some u\/∃ o,H a=some (.frz o u)
theorem Rd.ok{P:Program}{w:World}{H:Hp}{h:Heap}{a:Addr}{u:HO}(r:Rd H a u)(x:HOk P w H h):ObjOk P w H h a u:=by
 rcases r with r | ⟨o,r⟩
 ·exact x a u r
 ·obtain ⟨_,q⟩:=x a _ r
  exact q
def Mut:Option HO->Prop
 | some (.lst _)=>True
 | some (.dK _)=>True
 | some (.dT _)=>True
 | some (.set _ _)=>True
 | some (.ins _ _ _)=>True
 | some (.ext _)=>True
 | _=>False
section
variable {P:Program} {w:World} {H:Hp} {h h':Heap} {x e:Addr} {o':HO}
theorem HOk.write(ok:HOk P w H h)(mu:Mut (H x))(he:e=x\/H e=some (.own x))(k:∀ b u,b≠e->h.get? b=some u->h'.get? b=some u)(heo:∃ u,h'.get? e=some u)
  (new:ObjOk P w (upd H x o') h' x o'):HOk P w (upd H x o') h':=fun b u q=>by
 have nown:∀ c y,H c=some (.own y)->c≠x:=fun c y r z=>by subst z;rw [r] at mu;exact mu
 have ntup:∀ c xs,H c=some (.tup xs)->c≠x:=fun c xs r z=>by subst z;rw [r] at mu;exact mu
 by_cases hb:b=x
 ·subst hb;rw [z_b] at q;cases q;exact new
 ·rw [z_m hb] at q
  by_cases hbe:b=e
  ·have q':H b=some (.own x):=by
    rcases he with z | z
    ·exact absurd (hbe.trans z) hb
    ·rw [hbe];exact z
   rw [q] at q';cases q'
   obtain ⟨v,hv⟩:=heo
   exact ⟨v,by rw [hbe];exact hv⟩
  ·refine (ok b u q).stay (fun c v hc r=>k c v ?_ r) (fun c r=>by rw [z_m (nown c b r)];exact r) (fun c xs r=>by rw [z_m (ntup c xs r)];exact r) fun c ob xs r=>by rw [z_m (fun z=>by subst z;rw [r] at mu;exact mu)];exact r
   rcases hc with rfl | hc
   ·exact hbe
   ·rintro rfl
    rcases he with z | z
    ·exact nown c b hc z
    ·rw [hc] at z;cases z;exact hb rfl
end
structure Un(fs ex:List Addr)(H H':Hp)(h h':Heap):Prop where
 keep:∀ b o,h.get? b=some o->H b=none->b∉fs->b∉ex->h'.get? b=some o
 slot:∀ b o,h.get? b=some o->H b=none->b∈fs->b∉ex->∃ sl,h'.get? b=some { o with slots:=sl }
 free:∀ b o,h.get? b=some o->H b=none->b∉ex->H' b=none
 there:∀ b o,h.get? b=some o->b∉ex->∃ o',h'.get? b=some o'
 tups:∀ b xs,H b=some (.tup xs)->H' b=some (.tup xs)
 frzs:∀ b o u,H b=some (.frz o u)->H' b=some (.frz o u)
 tbls:∀ b p q,H b=some (.tbl p q)->H' b=some (.tbl p q)
section
variable {fs fs' ex ex':List Addr} {H H1 H2:Hp} {h h1 h2 h':Heap} {a x e:Addr} {o:HO}
theorem Un.any(u:Un fs ex H H1 h h1){b:Addr}{ob:Obj}(q:h.get? b=some ob)(n:H b=none)(hx:b∉ex):∃ sl,h1.get? b=some { ob with slots:=sl }:=by
 by_cases hb:b∈fs
 ·exact u.slot b ob q n hb hx
 ·exact ⟨ob.slots,u.keep b ob q n hb hx⟩
theorem Un.kept(k:∀ b u,h.get? b=some u->h'.get? b=some u):Un fs ex H H h h' :=
 ⟨fun b ob q _ _ _=>k b ob q,fun b ob q _ _ _=>⟨ob.slots,k b ob q⟩,fun _ _ _ n _=>n,fun b ob q _=>⟨ob,k b ob q⟩,fun _ _ q=>q,fun _ _ _ q=>q,fun _ _ _ q=>q⟩
theorem Un.refl:Un fs ex H H h h:=Un.kept fun _ _ q=>q
theorem Un.laid(k:∀ b u,h.get? b=some u->h'.get? b=some u)(hp:h.objs.size<=a)(hn:H a=none):Un fs ex H (upd H a o) h h' where
 keep:=fun b u q _ _ _=>k b u q
 slot:=fun b u q _ _ _=>⟨u.slots,k b u q⟩
 free:=fun b u q n _=>by rw [z_m (Nat.ne_of_lt (Nat.lt_of_lt_of_le (Heap.lt_size q) hp))];exact n
 there:=fun b u q _=>⟨u,k b u q⟩
 tups:=fun b xs q=>by rw [z_m (z_l q hn)];exact q
 frzs:=fun b u xs q=>by rw [z_m (z_l q hn)];exact q
 tbls:=fun b p q z=>by rw [z_m (z_l z hn)];exact z
theorem Un.write(mu:Mut (H x))(he:e=x\/H e=some (.own x))(k:∀ b u,b≠e->h.get? b=some u->h'.get? b=some u)(heo:∃ u,h'.get? e=some u):Un fs ex H (upd H x o) h h':=by
 have hx:∀ b,H b=none->b≠x:=fun b n z=>by subst z;rw [n] at mu;exact mu
 have hb:∀ b,H b=none->b≠e:=fun b n z=>by
  subst z
  rcases he with r | r
  ·exact hx b n r
  ·rw [n] at r;cases r
 have hm:∀ b u,H b=some u->¬Mut (some u)->b≠x:=fun b u q nm z=>by subst z;rw [q] at mu;exact nm mu
 refine ⟨fun b u q n _ _=>k b u (hb b n) q,fun b u q n _ _=>⟨u.slots,k b u (hb b n) q⟩,fun b u q n _=>by rw [z_m (hx b n)];exact n,fun b u q _=>?_,
  fun b xs q=>by rw [z_m (hm b _ q fun z=>z)];exact q,fun b u xs q=>by rw [z_m (hm b _ q fun z=>z)];exact q,fun b p q z=>by rw [z_m (hm b _ z fun y=>y)];exact z⟩
 by_cases hbe:b=e
 ·subst hbe;exact heo
 ·exact ⟨u,k b u hbe q⟩
end
def trk(h:Heap)(H:Hp):List Addr:=(List.range h.objs.size).filter fun a=>(H a).isSome
def hidT(h:Heap)(H:Hp):Heap:=PySem.W.hideAll h (trk h H)
theorem hidT_size(h:Heap)(H:Hp):(hidT h H).objs.size=h.objs.size:=PySem.W.hideAll_size _ _
theorem hidT_get{h:Heap}{H:Hp}{b:Addr}{o:Obj}(e:h.get? b=some o)(n:H b=none):(hidT h H).get? b=some o :=
 PySem.W.hideAll_get _ e fun hm=>by
  have q:(H b).isSome=true:=(List.mem_filter.mp hm).2
  rw [n] at q;simp at q
theorem of_hidT{h:Heap}{H:Hp}{b:Addr}{o:Obj}(e:(hidT h H).get? b=some o):h.get? b=some o/\H b=none:=by
 have e':h.get? b=some o:=PySem.W.of_hideAll (trk h H) e
 refine ⟨e',?_⟩
 cases q:H b with
 | none=>rfl
 | some x =>
  have hm:b∈trk h H:=List.mem_filter.mpr ⟨List.mem_range.mpr (Heap.lt_size e'),by simp [q]⟩
  have z:(hidT h H).get? b=none:=PySem.W.hideAll_none (trk h H) hm
  rw [z] at e;cases e
open PySem PySem.Spec PyProof.Rows
structure Mod(K:PySem.W.Frag)(mg:Str->Option Value)(base:Heap):Prop where
 kin:K.In base
 glob:base.Ns mainGlobals mg
 blt:∃ mb,base.Ns builtinsNs mb/\∀ x:Str,x ≠ "__name__" -> mb x=bootBuiltins x
 nolimit:base.NoLimit
structure Cx where
 prog:Program
 w:World
 K:PySem.W.Frag
 mg:Str->Option Value
 base:Heap
 A:Around
 N:List Str
 s₀:Shared
 H₀:Hp
 env:Env
 outer:List Env
 stack:List Env
 ex:List Addr
 fn:Str->Bool
 calm:Bool
 pn:List (Addr×Obj)
 xe:Value->Shared->Prop
def frs(l:List Env):List Addr:=l.filterMap (·.frame)
abbrev Cx.fs(X:Cx):List Addr:=frs X.outer
def Vis(sc:Scope)(x:Str):Prop:=sc.names.lookup x=some .local\/sc.names.lookup x=some .cell\/sc.names.lookup x=some .free
def Loc(sc:Scope)(x:Str):Prop:=sc.names.lookup x=some .local\/sc.names.lookup x=some .cell
def Look(env:Env)(h:Heap)(m:Str->Option Value)(x:Str)(u:Value):Prop :=
 (env.kindOf x=some .local/\m x=some u)\/((env.kindOf x=some .cell\/env.kindOf x=some .free)/\∃ c,env.cells.lookup x=some c/\h.IsCell c (some u))
structure Cx.Ok(X:Cx):Prop where
 mod:Mod X.K X.mg X.base
 kind:X.env.scope.kind = .function
 glob:X.env.globals=mainGlobals
 blt:X.env.builtins=builtinsNs
 above:X.s₀.heap.objs.size<=X.env.locals
 inj:∀ x y c,X.env.cells.lookup x=some c->X.env.cells.lookup y=some c->x=y
 has:∀ x,(X.env.kindOf x=some .cell\/X.env.kindOf x=some .free)->∃ c,X.env.cells.lookup x=some c
 cab:∀ x c,X.fn x=true->X.env.cells.lookup x=some c->X.s₀.heap.objs.size<=c
 hd:X.calm=true->X.A.handled=none
 frames:X.A.frames=some X.stack
 gd:X.A.guards=some []
 stk:X.stack=X.outer\/(X.stack=X.env::X.outer/\X.env.frame=some X.env.locals)
 exf:∀ b∈X.ex,b≠X.env.locals/\∀ x c,X.env.cells.lookup x=some c->c≠b
 bs:∀ b o,X.base.get? b=some o->X.s₀.heap.get? b=some o/\X.H₀ b=none
 bsz:X.base.objs.size<=X.s₀.heap.objs.size
 noex:∀ b o,X.base.get? b=some o->b∉X.ex
 exfs:∀ b∈X.ex,b∉X.fs
 funs:X.s₀.heap.FunFrames X.base X.outer
 frf:∀ b∈X.fs,X.H₀ b=none
structure Inv(X:Cx)(pins:List (Addr×Obj))(σ:List (Option V))(H:Hp)(s:Shared):Prop where
 ok:X.Ok
 os:s.os=X.s₀.os
 bare:AllBare s.gens
 base:Un X.fs X.ex X.H₀ H X.s₀.heap s.heap
 loc:∃ m,s.heap.Ns X.env.locals m/\∀ (i:Nat) (x:Str) (v:V),X.N[i]? = some x->σ[i]? = some (some v)->Vis X.env.scope x->∃ u,RelV v u/\Look X.env s.heap m x u
 cell:∀ x c,X.env.cells.lookup x=some c->∃ v,s.heap.IsCell c v
 free:H X.env.locals=none
 freeC:∀ x c,X.env.cells.lookup x=some c->H c=none
 pin:∀ p∈X.pn++pins,s.heap.get? p.1=some p.2/\H p.1=none/\p.1≠X.env.locals/\p.1∉X.fs/\∀ v,p.2.data ≠ .cell v
 hok:HOk X.prog X.w H s.heap
 len:σ.length=X.N.length
section
variable {X:Cx} {pins:List (Addr×Obj)} {σ:List (Option V)} {H H':Hp} {s:Shared} {h':Heap}
theorem Cx.Ok.nofr(ok:X.Ok){b:Addr}{o:Obj}(e:X.base.get? b=some o):b∉X.fs:=fun hb=>by
 have:=(ok.funs.mem hb).1
 rw [e] at this;cases this
theorem Inv.bs(I:Inv X pins σ H s):∀ b o,X.base.get? b=some o->s.heap.get? b=some o/\H b=none:=fun b o e =>
 ⟨I.base.keep b o (I.ok.bs b o e).1 (I.ok.bs b o e).2 (I.ok.nofr e) (I.ok.noex b o e),I.base.free b o (I.ok.bs b o e).1 (I.ok.bs b o e).2 (I.ok.noex b o e)⟩
theorem Inv.bk(I:Inv X pins σ H s):∀ b o,X.base.get? b=some o->s.heap.get? b=some o:=fun b o e=>(I.bs b o e).1
theorem Inv.mod(I:Inv X pins σ H s):Mod X.K X.mg X.base:=I.ok.mod
theorem Inv.kIn(I:Inv X pins σ H s):X.K.In s.heap:=I.ok.mod.kin.keeps I.bk
theorem Inv.lt(I:Inv X pins σ H s):X.env.locals<s.heap.objs.size:=let ⟨_,hn,_⟩:=I.loc;hn.lt
theorem Inv.sz(I:Inv X pins σ H s):X.s₀.heap.objs.size<=s.heap.objs.size:=Nat.le_trans I.ok.above (Nat.le_of_lt I.lt)
theorem Inv.nofs(I:Inv X pins σ H s){a:Addr}(h:s.heap.objs.size<=a):a∉X.fs:=fun hb=>by
 obtain ⟨_,o,ho,_⟩:=I.ok.funs.mem hb
 exact absurd (Nat.lt_of_lt_of_le (Heap.lt_size ho) (Nat.le_trans I.sz h)) (Nat.lt_irrefl _)
theorem Inv.cne(I:Inv X pins σ H s):∀ x c,X.env.cells.lookup x=some c->c≠X.env.locals:=fun x c e z=>by
 obtain ⟨v,o,ho,hd⟩:=I.cell x c e
 obtain ⟨m,⟨o',es,ep,ho',hd',_⟩,_⟩:=I.loc
 rw [z,ho'] at ho;cases ho;rw [hd'] at hd;cases hd
theorem Inv.funs(I:Inv X pins σ H s):s.heap.FunFrames X.base X.outer:=by
 have all:∀ (l:List Env),(∀ b∈frs l,b∈X.fs)->X.s₀.heap.FunFrames X.base l->s.heap.FunFrames X.base l:=by
  intro l
  induction l with
  | nil=>intro _ _;trivial
  | cons env r ih =>
   intro hs hl
   obtain ⟨hk,⟨L,o,hf,hn,ho,hd⟩,hr⟩:=hl
   have hL:L∈X.fs:=hs L (by unfold frs;rw [List.filterMap_cons,hf];exact List.mem_cons_self)
   obtain ⟨sl,e⟩:=I.base.slot L o ho (I.ok.frf L hL) hL fun z=>I.ok.exfs L z hL
   exact ⟨hk,⟨L,_,hf,hn,e,hd⟩,ih (fun b hb=>hs b (by unfold frs;rw [List.filterMap_cons,hf];exact List.mem_cons_of_mem _ hb)) hr⟩
 exact all X.outer (fun _ hb=>hb) I.ok.funs
theorem Inv.stack(I:Inv X pins σ H s):s.heap.FunFrames X.base X.stack:=by
 rcases I.ok.stk with e | ⟨e,hf⟩
 ·rw [e];exact I.funs
 ·rw [e]
  obtain ⟨m,hn,_⟩:=I.loc
  refine .cons (by rw [I.ok.kind];decide) hf hn ?_ I.funs
  exact Heap.get?_none_of_le (Nat.le_trans I.ok.bsz I.ok.above)
theorem Inv.stkSub(I:Inv X pins σ H s):∀ b∈frs X.stack,b∈X.env.locals::X.fs:=fun b hb=>by
 rcases I.ok.stk with e | ⟨e,hf⟩
 ·rw [e] at hb;exact List.mem_cons_of_mem _ hb
 ·rw [e] at hb
  unfold frs at hb
  rw [List.filterMap_cons,hf] at hb
  exact hb
theorem Inv.stkFree(I:Inv X pins σ H s):∀ b∈frs X.stack,H b=none:=fun b hb=>by
 rcases List.mem_cons.mp (I.stkSub b hb) with e | hb
 ·rw [e];exact I.free
 ·obtain ⟨_,o,ho,_⟩:=I.ok.funs.mem hb
  exact I.base.free b o ho (I.ok.frf b hb) fun z=>I.ok.exfs b z hb
theorem Inv.step{g':Array GenState}{t':Nat}{d':Drawn}{ch:List Addr}(I:Inv X pins σ H s)
  (hch:∀ b∈ch,(b∈X.ex\/X.s₀.heap.objs.size<=b)/\b≠X.env.locals/\(∀ x c,X.env.cells.lookup x=some c->c≠b)/\∀ p∈X.pn++pins,p.1≠b)
  (keep:∀ b o,b≠X.env.locals->b∉X.fs->b∉ch->s.heap.get? b=some o->H b=none->h'.get? b=some o)
  (slot:∀ b o,b≠X.env.locals->b∈X.fs->b∉ch->s.heap.get? b=some o->H b=none->∃ sl,h'.get? b=some { o with slots:=sl }) (free:∀ b o,b∉ch->s.heap.get? b=some o->H b=none->H' b=none)
  (there:∀ b o,b∉ch->s.heap.get? b=some o->∃ o',h'.get? b=some o')
  (tups:∀ b xs,H b=some (.tup xs)->H' b=some (.tup xs)) (frzs:∀ b o u,H b=some (.frz o u)->H' b=some (.frz o u)) (tbls:∀ b p q,H b=some (.tbl p q)->H' b=some (.tbl p q))
  (ns:∀ m,s.heap.Ns X.env.locals m->h'.Ns X.env.locals m) (hok:HOk X.prog X.w H' h') (hg:AllBare g') :
  Inv X pins σ H' { s with heap:=h',gens:=g',drawn:=d',toks:=t' }:=by
 have neL:∀ b o,X.s₀.heap.get? b=some o->b≠X.env.locals:=fun b o e=>Nat.ne_of_lt (Nat.lt_of_lt_of_le (Heap.lt_size e) I.ok.above)
 have neC:∀ b o,X.s₀.heap.get? b=some o->b∉X.ex->b∉ch:=fun b o e hx hb=>by
  rcases (hch b hb).1 with z | z
  ·exact hx z
  ·exact absurd (Nat.lt_of_lt_of_le (Heap.lt_size e) z) (Nat.lt_irrefl _)
 have cellK:∀ x c,X.env.cells.lookup x=some c->∀ v,s.heap.IsCell c v->h'.IsCell c v:=fun x c e v ⟨o,ho,hd⟩=>by
  have nch:c∉ch:=fun z=>(hch c z).2.2.1 x c e rfl
  by_cases hc:c∈X.fs
  ·obtain ⟨sl,q⟩:=slot c o (I.cne x c e) hc nch ho (I.freeC x c e)
   exact ⟨_,q,hd⟩
  ·exact ⟨o,keep c o (I.cne x c e) hc nch ho (I.freeC x c e),hd⟩
 refine ⟨I.ok,I.os,hg,⟨fun b o e n hb hx=>?_,fun b o e n hb hx=>?_,fun b o e n hx=>?_,fun b o e hx=>?_,fun b xs e=>tups b xs (I.base.tups b xs e),fun b o xs e=>frzs b o xs (I.base.frzs b o xs e),fun b p q e=>tbls b p q (I.base.tbls b p q e)⟩,?_,fun x c e=>?_,?_,fun x c e=>?_,fun p hp=>?_,hok,I.len⟩
 ·exact keep b o (neL b o e) hb (neC b o e hx) (I.base.keep b o e n hb hx) (I.base.free b o e n hx)
 ·obtain ⟨sl,e1⟩:=I.base.slot b o e n hb hx
  obtain ⟨sl',e2⟩:=slot b _ (neL b o e) hb (neC b o e hx) e1 (I.base.free b o e n hx)
  exact ⟨sl',e2⟩
 ·obtain ⟨o',e1⟩:=I.base.there b o e hx
  exact free b o' (neC b o e hx) e1 (I.base.free b o e n hx)
 ·obtain ⟨o',e1⟩:=I.base.there b o e hx
  exact there b o' (neC b o e hx) e1
 ·obtain ⟨m,hn,hl⟩:=I.loc
  refine ⟨m,ns m hn,fun i x v e1 e2 e3=>?_⟩
  obtain ⟨u,r,l⟩:=hl i x v e1 e2 e3
  refine ⟨u,r,?_⟩
  rcases l with l | ⟨k,c,e,z⟩
  ·exact .inl l
  ·exact .inr ⟨k,c,e,cellK x c e _ z⟩
 ·obtain ⟨v,z⟩:=I.cell x c e
  exact ⟨v,cellK x c e v z⟩
 ·obtain ⟨m,⟨o,_,_,ho,_⟩,_⟩:=I.loc
  exact free _ o (fun z=>(hch _ z).2.1 rfl) ho I.free
 ·obtain ⟨v,o,ho,hd⟩:=I.cell x c e
  exact free c o (fun z=>(hch c z).2.2.1 x c e rfl) ho (I.freeC x c e)
 ·obtain ⟨e,n,ne,nf,d⟩:=I.pin p hp
  have nch:p.1∉ch:=fun z=>(hch p.1 z).2.2.2 p hp rfl
  exact ⟨keep p.1 p.2 ne nf nch e n,free p.1 p.2 nch e n,ne,nf,d⟩
theorem Inv.un{t':Nat}(I:Inv X pins σ H s)(u:Un X.fs [] H H' s.heap h')(hok:HOk X.prog X.w H' h'):Inv X pins σ H' { s with heap:=h',toks:=t' }:=by
 obtain ⟨m,⟨o,es,ep,ho,r⟩,_⟩:=id I.loc
 obtain ⟨sl,hL⟩:=u.any ho I.free (by simp)
 exact I.step (g':=s.gens) (d':=s.drawn) (ch:=[]) (fun _ z=>nomatch z) (fun b o _ hb _ e n=>u.keep b o e n hb (by simp)) (fun b o _ hb _ e n=>u.slot b o e n hb (by simp)) (fun b o _ e n=>u.free b o e n (by simp)) (fun b o _ e=>u.there b o e (by simp)) u.tups u.frzs u.tbls (fun m' hm=>by
  obtain ⟨o',es',ep',ho',r'⟩:=hm
  rw [ho] at ho';cases ho'
  exact ⟨_,es',ep',hL,r'⟩) hok I.bare
theorem Inv.call{g':Array GenState}{t':Nat}{d':Drawn}{ch:List Addr}(I:Inv X pins σ H s)(u:Un (frs X.stack) ch H H' s.heap h')(hok:HOk X.prog X.w H' h')(hg:AllBare g')
  (hch:∀ b∈ch,(b∈X.ex\/X.s₀.heap.objs.size<=b)/\b≠X.env.locals/\(∀ x c,X.env.cells.lookup x=some c->c≠b)/\∀ p∈X.pn++pins,p.1≠b) :
  Inv X pins σ H' { s with heap:=h',gens:=g',drawn:=d',toks:=t' }:=by
 obtain ⟨m,⟨o,es,ep,ho,r⟩,_⟩:=id I.loc
 obtain ⟨sl,hL⟩:=u.any ho I.free fun z=>(hch _ z).2.1 rfl
 exact I.step (ch:=ch) hch (fun b o hL hb hc e n=>u.keep b o e n (fun z=>(List.mem_cons.mp (I.stkSub b z)).elim hL hb) hc) (fun b o _ _ hc e n=>u.any e n hc) (fun b o hc e n=>u.free b o e n hc) (fun b o hc e=>u.there b o e hc) u.tups u.frzs u.tbls (fun m' hm=>by
  obtain ⟨o',es',ep',ho',r'⟩:=hm
  rw [ho] at ho';cases ho'
  exact ⟨_,es',ep',hL,r'⟩) hok hg
theorem Inv.turned{t':Nat}{it:Addr}(I:Inv X pins σ H s)(k:∀ b o,b≠it->s.heap.get? b=some o->h'.get? b=some o)(hn:H it=none)(hL:it≠X.env.locals)
  (h1:it∈X.ex\/X.s₀.heap.objs.size<=it) (h2:∀ x c,X.env.cells.lookup x=some c->c≠it) (h3:∀ p∈X.pn++pins,p.1≠it):Inv X pins σ H { s with heap:=h',toks:=t' }:=by
 have nit:∀ b u,H b=some u->b≠it:=fun b u e z=>by rw [z,hn] at e;cases e
 refine I.step (g':=s.gens) (d':=s.drawn) (ch:=[it]) (fun b hb=>?_) (fun b o _ _ hc e _=>k b o (fun z=>hc (by simp [z])) e) (fun b o _ _ hc e _=>⟨o.slots,k b o (fun z=>hc (by simp [z])) e⟩) (fun _ _ _ _ n=>n)
  (fun b o hc e=>⟨o,k b o (fun z=>hc (by simp [z])) e⟩) (fun _ _ e=>e) (fun _ _ _ e=>e) (fun _ _ _ e=>e) (fun m hm=>?_) (fun b u e=>?_) I.bare
 ·have e:b=it:=by simpa using hb
  subst e
  exact ⟨h1,hL,h2,h3⟩
 ·obtain ⟨o,es,ep,ho,r⟩:=hm
  exact ⟨o,es,ep,k _ o (Ne.symm hL) ho,r⟩
 ·refine (I.hok b u e).stay (fun c v hc q=>k c v ?_ q) (fun _ q=>q) (fun _ _ q=>q) fun _ _ _ q=>q
  rcases hc with z | z
  ·rw [z];exact nit b u e
  ·exact nit c _ z
theorem Inv.tok(I:Inv X pins σ H s)(t:Nat):Inv X pins σ H { s with toks:=t }:=I.un (h':=s.heap) (t':=t) Un.refl I.hok
theorem Inv.kept{t':Nat}(I:Inv X pins σ H s)(k:∀ b u,s.heap.get? b=some u->h'.get? b=some u):Inv X pins σ H { s with heap:=h',toks:=t' }:=I.un (Un.kept k) (I.hok.kept k)
theorem Inv.laid{a:Addr}{o:HO}{t':Nat}(I:Inv X pins σ H s)(k:∀ b u,s.heap.get? b=some u->h'.get? b=some u)(hp:s.heap.objs.size<=a)(new:ObjOk X.prog X.w (upd H a o) h' a o) :
  Inv X pins σ (upd H a o) { s with heap:=h',toks:=t' }:=I.un (Un.laid k hp (I.hok.fresh hp)) (I.hok.laid k hp new)
theorem Inv.write{x e:Addr}{o:HO}{t':Nat}(I:Inv X pins σ H s)(mu:Mut (H x))(he:e=x\/H e=some (.own x))(k:∀ b u,b≠e->s.heap.get? b=some u->h'.get? b=some u)(heo:∃ u,h'.get? e=some u)
  (new:ObjOk X.prog X.w (upd H x o) h' x o):Inv X pins σ (upd H x o) { s with heap:=h',toks:=t' }:=I.un (Un.write mu he k heo) (I.hok.write mu he k heo new)
theorem Inv.pins_of{pins':List (Addr×Obj)}(I:Inv X pins σ H s)(h:∀ p∈pins',s.heap.get? p.1=some p.2/\H p.1=none/\p.1≠X.env.locals/\p.1∉X.fs/\∀ v,p.2.data ≠ .cell v):Inv X pins' σ H s :=
 ⟨I.ok,I.os,I.bare,I.base,I.loc,I.cell,I.free,I.freeC,fun p hp=>(List.mem_append.mp hp).elim (fun z=>I.pin p (List.mem_append_left _ z)) (h p),I.hok,I.len⟩
theorem nodup_ix{N:List Str}(hN:N.Nodup){i j:Nat}{x:Str}(a:N[i]? = some x)(b:N[j]? = some x):i=j:=by
 obtain ⟨h1,e1⟩:=List.getElem?_eq_some_iff.mp a
 obtain ⟨h2,e2⟩:=List.getElem?_eq_some_iff.mp b
 exact (List.getElem_inj hN).mp (e1.trans e2.symm)
theorem store_ok2{M:Model}{A:Around}{E:Value->Shared->Prop}{i:Nat}{x:Str}{v:V}{u:Value}{Q:Unit->Shared->Prop}(I:Inv X pins σ H s)(hN:X.N.Nodup)(hi:X.N[i]? = some x)(hx:Loc X.env.scope x)(r:RelV v u)
  (h:∀ s',Inv X pins (σ.set i (some v)) H s'->(∃ a,Heap.SameBut a s.heap s'.heap/\(a=X.env.locals\/X.env.cells.lookup x=some a))->Q () s') (hf:X.fn x=true\/X.env.scope.names.lookup x=some .local:=by first | exact .inl rfl | exact .inr rfl | assumption):wpAny M A (storeName X.env x u) Q E s:=by
 obtain ⟨m,hn,hl⟩:=id I.loc
 have hcls:(X.env.scope.kind == .class || (X.env.scope.kind == .module&&X.env.locals != X.env.globals))=false:=by rw [I.ok.kind];rfl
 have hiσ:i<σ.length:=by rw [I.len];exact (List.getElem?_eq_some_iff.mp hi).1
 have cne:=I.cne
 have tracked:∀ {a:Addr} {h':Heap},(∃ o,s.heap.get? a=some o/\H a=none)->Heap.SameBut a s.heap h'->HOk X.prog X.w H h':=fun {a h'} ha hs b ob e=>by
  obtain ⟨_,_,hfree⟩:=ha
  refine (I.hok b ob e).stay (fun c w' hc q=>(hs.2 c ?_).trans q) (fun _ q=>q) (fun _ _ q=>q) fun _ _ _ q=>q
  rintro rfl
  rcases hc with rfl | hc
  ·rw [hfree] at e;cases e
  ·rw [hfree] at hc;cases hc
 rcases hx with hk | hk
 ·refine wpAny_storeName_local hk hn (fun h' hn' hs=>?_) hcls
  obtain ⟨oL,_,_,hoL,_⟩:=id hn
  refine h _ ⟨I.ok,I.os,I.bare,⟨fun b o e n hb hx=>?_,fun b o e n hb hx=>?_,I.base.free,fun b o e hx=>?_,I.base.tups,I.base.frzs,I.base.tbls⟩,⟨_,hn',fun j y v' e1 e2 e3=>?_⟩,fun y c e=>?_,I.free,I.freeC,fun p hp=>?_,tracked ⟨oL,hoL,I.free⟩ hs,by simpa using I.len⟩ ⟨_,hs,.inl rfl⟩
  ·exact (hs.2 b (Nat.ne_of_lt (Nat.lt_of_lt_of_le (Heap.lt_size e) I.ok.above))).trans (I.base.keep b o e n hb hx)
  ·obtain ⟨sl,e1⟩:=I.base.slot b o e n hb hx
   exact ⟨sl,(hs.2 b (Nat.ne_of_lt (Nat.lt_of_lt_of_le (Heap.lt_size e) I.ok.above))).trans e1⟩
  ·obtain ⟨o',e1⟩:=I.base.there b o e hx
   exact ⟨o',(hs.2 b (Nat.ne_of_lt (Nat.lt_of_lt_of_le (Heap.lt_size e) I.ok.above))).trans e1⟩
  ·by_cases hj:j=i
   ·subst hj
    rw [hi] at e1;cases e1
    rw [List.getElem?_set_self hiσ] at e2
    cases e2
    exact ⟨u,r,.inl ⟨hk,by simp⟩⟩
   ·rw [List.getElem?_set_ne (Ne.symm hj)] at e2
    obtain ⟨u',r',q⟩:=hl j y v' e1 e2 e3
    refine ⟨u',r',?_⟩
    rcases q with ⟨k,e⟩ | ⟨k,c,e,z⟩
    ·refine .inl ⟨k,?_⟩
     have:y≠x:=fun e=>hj (nodup_ix hN e1 (e▸hi))
     simp [this,e]
    ·exact .inr ⟨k,c,e,z.sameBut hs (cne y c e)⟩
  ·obtain ⟨w',z⟩:=I.cell y c e
   exact ⟨w',z.sameBut hs (cne y c e)⟩
  ·obtain ⟨e,n,ne,nf,d⟩:=I.pin p hp
   exact ⟨(hs.2 p.1 ne).trans e,n,ne,nf,d⟩
 ·have hfn:X.fn x=true:=by
   rcases hf with z | z
   ·exact z
   ·rw [z] at hk;cases hk
  obtain ⟨c,hc⟩:=I.ok.has x (.inl hk)
  obtain ⟨w',z⟩:=I.cell x c hc
  refine wpAny_storeName_cell I.ok.kind hk hc z (fun h' hc' hs=>?_)
  obtain ⟨oc,hoc,hocd⟩:=id z
  refine h { s with heap:=h' } ⟨I.ok,I.os,I.bare,⟨fun b o e n hb hx=>?_,fun b o e n hb hx=>?_,I.base.free,fun b o e hx=>?_,I.base.tups,I.base.frzs,I.base.tbls⟩,⟨m,hn.sameBut hs (Ne.symm (cne x c hc)),fun j y v' e1 e2 e3=>?_⟩,fun y c' e=>?_,I.free,I.freeC,fun p hp=>?_,tracked ⟨oc,hoc,I.freeC x c hc⟩ hs,by simpa using I.len⟩ ⟨c,hs,.inr hc⟩
  ·exact (hs.2 b (Nat.ne_of_lt (Nat.lt_of_lt_of_le (Heap.lt_size e) (I.ok.cab x c hfn hc)))).trans (I.base.keep b o e n hb hx)
  ·obtain ⟨sl,e1⟩:=I.base.slot b o e n hb hx
   exact ⟨sl,(hs.2 b (Nat.ne_of_lt (Nat.lt_of_lt_of_le (Heap.lt_size e) (I.ok.cab x c hfn hc)))).trans e1⟩
  ·obtain ⟨o',e1⟩:=I.base.there b o e hx
   exact ⟨o',(hs.2 b (Nat.ne_of_lt (Nat.lt_of_lt_of_le (Heap.lt_size e) (I.ok.cab x c hfn hc)))).trans e1⟩
  ·by_cases hj:j=i
   ·subst hj
    rw [hi] at e1;cases e1
    rw [List.getElem?_set_self hiσ] at e2
    cases e2
    exact ⟨u,r,.inr ⟨.inl hk,c,hc,hc'⟩⟩
   ·rw [List.getElem?_set_ne (Ne.symm hj)] at e2
    obtain ⟨u',r',q⟩:=hl j y v' e1 e2 e3
    refine ⟨u',r',?_⟩
    rcases q with q | ⟨k,c',e,z'⟩
    ·exact .inl q
    ·refine .inr ⟨k,c',e,z'.sameBut hs ?_⟩
     rintro rfl
     exact hj (nodup_ix hN e1 (I.ok.inj _ _ _ e hc▸hi))
  ·by_cases hcc:c'=c
   ·subst hcc;exact ⟨_,hc'⟩
   ·obtain ⟨w2,z2⟩:=I.cell y c' e
    exact ⟨w2,z2.sameBut hs hcc⟩
  ·obtain ⟨e,n,ne,nf,d⟩:=I.pin p hp
   refine ⟨(hs.2 p.1 ?_).trans e,n,ne,nf,d⟩
   intro q
   rw [q,hoc] at e
   have q':oc=p.2:=Option.some.inj e
   exact d w' (by rw [<-q'];exact hocd)
theorem store_ok{M:Model}{A:Around}{E:Value->Shared->Prop}{i:Nat}{x:Str}{v:V}{u:Value}{Q:Unit->Shared->Prop}(I:Inv X pins σ H s)(hN:X.N.Nodup)(hi:X.N[i]? = some x)(hx:Loc X.env.scope x)(r:RelV v u)
  (h:∀ s',Inv X pins (σ.set i (some v)) H s'->Q () s') (hf:X.fn x=true\/X.env.scope.names.lookup x=some .local:=by first | exact .inl rfl | exact .inr rfl | assumption):wpAny M A (storeName X.env x u) Q E s :=
 store_ok2 I hN hi hx r (fun s' I' _=>h s' I') hf
theorem Inv.call'{s':Shared}{ch:List Addr}(I:Inv X pins σ H s)(ho:s'.os=s.os)(u:Un (frs X.stack) ch H H' s.heap s'.heap)(hok:HOk X.prog X.w H' s'.heap)(hg:AllBare s'.gens)
  (hch:∀ b∈ch,(b∈X.ex\/X.s₀.heap.objs.size<=b)/\b≠X.env.locals/\(∀ x c,X.env.cells.lookup x=some c->c≠b)/\∀ p∈X.pn++pins,p.1≠b):Inv X pins σ H' s':=by
 obtain ⟨h',g',d',t',o'⟩:=s'
 have e:o'=s.os:=ho
 subst e
 exact I.call (g':=g') (t':=t') (d':=d') u hok hg hch
end
abbrev XK:=Value->Option Addr->Hp->Prop
abbrev St:=List (Option V)
abbrev VK:=V->Hp->Prop
abbrev TE:=St->Hp->VK->Prop
abbrev TT:=St->Hp->(Bool->Hp->Prop)->Prop
abbrev TA:=St->Hp->(List V->Hp->Prop)->Prop
structure Ends where
 nx:St->Hp->Prop
 rt:VK
 bk:St->Hp->Prop:=fun _ _=>False
 ct:St->Hp->Prop:=fun _ _=>False
abbrev TS:=Ends->St->Hp->Prop
def EP(X:Cx)(pins:List (Addr×Obj))(σ:St)(Q:VK)(u:Value)(s':Shared):Prop:=∃ v H',Inv X pins σ H' s'/\RelV v u/\Q v H'
def TP(X:Cx)(pins:List (Addr×Obj))(σ:St)(Q:Bool->Hp->Prop)(b:Bool)(s':Shared):Prop:=∃ H',Inv X pins σ H' s'/\Q b H'
def AP(X:Cx)(pins:List (Addr×Obj))(σ:St)(Q:List V->Hp->Prop)(us:List Value)(s':Shared):Prop:=∃ vs H',Inv X pins σ H' s'/\Vals vs us/\Q vs H'
def SP(X:Cx)(pins:List (Addr×Obj))(D:Ends)(f:Flow)(s':Shared):Prop :=
 match f with
 | .next=>∃ σ' H',Inv X pins σ' H' s'/\D.nx σ' H'
 | .brk=>∃ σ' H',Inv X pins σ' H' s'/\D.bk σ' H'
 | .cont=>∃ σ' H',Inv X pins σ' H' s'/\D.ct σ' H'
 | .ret u=>∃ v σ' H',Inv X pins σ' H' s'/\RelV v u/\D.rt v H'
def PE(X:Cx)(e:Expr)(t:TE):Prop :=
 ∀ (pins:List (Addr×Obj)) (s:Shared) (σ:St) (H:Hp) (Q:VK),Inv X pins σ H s->t σ H Q->wpAny (model X.prog X.w) X.A (eval e X.env) (EP X pins σ Q) X.xe s
def PT(X:Cx)(e:Expr)(t:TT):Prop :=
 ∀ (pins:List (Addr×Obj)) (s:Shared) (σ:St) (H:Hp) (Q:Bool->Hp->Prop),Inv X pins σ H s->t σ H Q->wpAny (model X.prog X.w) X.A (isTrue e X.env (eval e X.env)) (TP X pins σ Q) X.xe s
def PW(X:Cx)(e:Expr)(t:TT):Prop :=
 ∀ (whole:Sem Value) (pins:List (Addr×Obj)) (s:Shared) (σ:St) (H:Hp) (Q:Bool->Hp->Prop),Inv X pins σ H s->t σ H Q->wpAny (model X.prog X.w) X.A (isTrue e X.env whole) (TP X pins σ Q) X.xe s
theorem PW.pt{X:Cx}{e:Expr}{t:TT}(h:PW X e t):PT X e t:=h _
def PA(X:Cx)(es:List Expr)(t:TA):Prop :=
 ∀ (pos:Pos) (pins:List (Addr×Obj)) (s:Shared) (σ:St) (H:Hp) (Q:List V->Hp->Prop),Inv X pins σ H s->t σ H Q->wpAny (model X.prog X.w) X.A (spliced (backTo pos (starEach es X.env))) (AP X pins σ Q) X.xe s
def PS(X:Cx)(st:Stmt)(t:TS):Prop :=
 ∀ (pins:List (Addr×Obj)) (s:Shared) (σ:St) (H:Hp) (D:Ends),Inv X pins σ H s->t D σ H->wpAny (model X.prog X.w) X.A (exec st X.env) (SP X pins D) X.xe s
def PSs(X:Cx)(st:List Stmt)(t:TS):Prop :=
 ∀ (pins:List (Addr×Obj)) (s:Shared) (σ:St) (H:Hp) (D:Ends),Inv X pins σ H s->t D σ H->wpAny (model X.prog X.w) X.A (execs st X.env) (SP X pins D) X.xe s
theorem thn{α:Type}{t:Sem α}{Q Q':α->Shared->Prop}{M:Model}{A:Around}{E:Value->Shared->Prop}{s:Shared}(h:wpAny M A t Q E s)(hQ:∀ a s,Q a s->Q' a s):wpAny M A t Q' E s:=wpAny_mono h hQ fun _ _ x=>x
open PySem PySem.Spec PyProof.Rows
section
variable {X:Cx}
def tVar(i:Nat):TE:=fun σ H Q=>∃ v,σ[i]? = some (some v)/\Q v H
def tC(v:V):TE:=fun _ H Q=>Q v H
theorem pe_var{i:Nat}{x:Str}{pos:Pos}(hN:X.N[i]? = some x)(hv:Vis X.env.scope x)(hd:(x == ("__debug__" : Str))=false:=by decide)(hcd:(x == ("__classdict__" : Str))=false:=by decide):PE X (.Name x pos) (tVar i):=by
 intro pins s σ H Q I h
 obtain ⟨v,e,h⟩:=h
 obtain ⟨m,hn,hl⟩:=I.loc
 obtain ⟨u,r,l⟩:=hl i x v hN e hv
 have fin:EP X pins σ Q u s:=⟨v,H,I,r,h⟩
 rcases l with ⟨hk,hm⟩ | ⟨hk,c,hc,hcell⟩
 ·exact wpAny_Name (wpAny_loadName_local I.ok.kind hk hn hm fin) hd
 ·rcases hk with hk | hk
  ·exact wpAny_Name (wpAny_loadName_cell I.ok.kind hk hc hcell fin) hd
  ·exact wpAny_Name (wpAny_loadName_free I.ok.kind hk hc hcell fin hcd) hd
theorem z_g{i j pos}:PE X (.Constant (.int i) j pos) (tC (.int i)):=fun _ _ _ H _ I h=>wpAny_Constant_int ⟨.int i,H,I.tok _,⟨_,rfl⟩,h⟩
theorem pe_bl{b j pos}:PE X (.Constant (.bool b) j pos) (tC (.bl b)):=fun _ _ _ H _ I h=>Constant_bool ⟨.bl b,H,I,rfl,h⟩
theorem pe_non{j pos}:PE X (.Constant .none j pos) (tC .non):=fun _ _ _ H _ I h=>Constant_none ⟨.non,H,I,rfl,h⟩
theorem pe_str{x j pos}:PE X (.Constant (.str x) j pos) (tC (.str x)):=fun _ _ _ H _ I h=>Calls.Constant_str ⟨.str x,H,I.tok _,⟨_,rfl⟩,h⟩
def Gl(X:Cx)(x:Str):Prop:=X.env.kindOf x=some .globalImplicit
theorem ld_glob{E:Value->Shared->Prop}{pins:List (Addr×Obj)}{s:Shared}{σ:St}{H:Hp}{x:Str}{u:Value}{pos:Pos}{Q:Value->Shared->Prop}(I:Inv X pins σ H s)(hg:Gl X x)(hm:X.mg x=some u)(h:Q u s)
  (hd:(x == ("__debug__" : Str))=false:=by decide):wpAny (model X.prog X.w) X.A (eval (.Name x pos) X.env) Q E s :=
 Calls.Name_function_global I.ok.kind hg (Calls.loadGlobal_global (by rw [I.ok.glob];exact I.mod.glob.keeps I.bk) hm h) hd
theorem ld_blt{E:Value->Shared->Prop}{pins:List (Addr×Obj)}{s:Shared}{σ:St}{H:Hp}{x:Str}{u:Value}{pos:Pos}{Q:Value->Shared->Prop}(I:Inv X pins σ H s)(hg:Gl X x)(hm:X.mg x=none)(hv:bootBuiltins x=some u)(h:Q u s)
  (hn:x ≠ "__name__" := by decide) (hd:(x == ("__debug__" : Str))=false:=by decide):wpAny (model X.prog X.w) X.A (eval (.Name x pos) X.env) Q E s:=by
 obtain ⟨mb,h1,h2⟩:=I.mod.blt
 exact Calls.Name_function_global I.ok.kind hg (Calls.loadGlobal_builtin (by rw [I.ok.glob];exact I.mod.glob.keeps I.bk) hm (by rw [I.ok.blt];exact h1.keeps I.bk) ((h2 x hn).trans hv) h) hd
theorem x_n{x:Str}{v:V}{u:Value}{pos:Pos}(hg:Gl X x)(hm:X.mg x=some u)(r:RelV v u)(hd:(x == ("__debug__" : Str))=false:=by decide):PE X (.Name x pos) (tC v) :=
 fun _ _ _ H _ I h=>ld_glob I hg hm ⟨v,H,I,r,h⟩ hd
theorem pe_bltn{x:Str}{v:V}{u:Value}{pos:Pos}(hg:Gl X x)(hm:X.mg x=none)(hv:bootBuiltins x=some u)(r:RelV v u)(hn:x ≠ "__name__" := by decide)(hd:(x == ("__debug__" : Str))=false:=by decide):PE X (.Name x pos) (tC v) :=
 fun _ _ _ H _ I h=>ld_blt I hg hm hv ⟨v,H,I,r,h⟩ hn hd
variable {a b:Expr} {ta tb:TE} {pos:Pos}
def PC(X:Cx)(op:CmpOp)(a b:Expr)(t:TE):Prop :=
 ∀ (pins:List (Addr×Obj)) (s:Shared) (σ:St) (H:Hp) (Q:VK),Inv X pins σ H s->t σ H Q ->
  wpAny (model X.prog X.w) X.A (eval a X.env) (fun v s₁=>wpAny (model X.prog X.w) X.A (eval b X.env) (fun u s₂=>wpAny (model X.prog X.w) X.A (compareOp op v u) (EP X pins σ Q) X.xe s₂) X.xe s₁) X.xe s
theorem nobehind(b:Expr){op:CmpOp}(h:op ≠ .In)(h2:op ≠ .NotIn):behindInMarks op b=false:=by
 have e1:(op == CmpOp.In)=false:=by cases op<;>first | rfl | exact absurd rfl h
 have e2:(op == CmpOp.NotIn)=false:=by cases op<;>first | rfl | exact absurd rfl h2
 cases b<;>simp [behindInMarks,e1,e2]
def tB(t:TE):TT:=fun σ H Q=>t σ H fun x H1=>∃ c,x = .bl c/\Q c H1
theorem pe_cmp{op:CmpOp}{t:TE}(h:PC X op a b t)(h1:behindInMarks op b=false:=by first | exact nobehind _ (by decide) (by decide) | rfl):PE X (.Compare a [op] [b] pos) t:=fun pins s σ H Q I hw=>wpAny_Compare1 (h pins s σ H Q I hw) h1
theorem pt_cmp{op:CmpOp}{t:TE}(h:PC X op a b t)(h1:behindInMarks op b=false:=by first | exact nobehind _ (by decide) (by decide) | rfl):PT X (.Compare a [op] [b] pos) (tB t):=by
 intro pins s σ H Q I hw
 refine wpAny_isTrue_Compare1 (thn (h pins s σ H _ I hw) fun v s1 h1=>thn h1 fun u s2 h2=>thn h2 fun c s3 ⟨x,H1,I1,r1,q1⟩=>?_) h1
 obtain ⟨d,rfl,q⟩:=q1
 cases r1
 exact wpAny_truthy_bool ⟨H1,I1,q⟩
variable {tA tB':TT} {rest:List Expr}
def tAnd(t u:TT):TT:=fun σ H Q=>t σ H fun c H1=>if c=true then u σ H1 Q else Q false H1
def tOr(t u:TT):TT:=fun σ H Q=>t σ H fun c H1=>if c=true then Q true H1 else u σ H1 Q
def tNot(t:TT):TT:=fun σ H Q=>t σ H fun c H1=>Q (!c) H1
theorem pw_and1(ha:PT X a tA):PW X (.BoolOp .And [a] pos) tA:=by
 intro wh pins s σ H Q I h
 refine isTrue_and (thn (ha pins s σ H Q I h) fun c s1 e=>?_)
 cases c with
 | true=>exact isTrue_and_nil e
 | false=>exact e
theorem pw_or1(ha:PT X a tA):PW X (.BoolOp .Or [a] pos) tA:=by
 intro wh pins s σ H Q I h
 refine isTrue_or (thn (ha pins s σ H Q I h) fun c s1 e=>?_)
 cases c with
 | false=>exact isTrue_or_nil e
 | true=>exact e
theorem pw_and(ha:PT X a tA)(hb:PW X (.BoolOp .And (b::rest) pos) tB'):PW X (.BoolOp .And (a::b::rest) pos) (tAnd tA tB'):=by
 intro wh pins s σ H Q I h
 refine isTrue_and (thn (ha pins s σ H _ I h) fun c s1 ⟨H1,I1,q1⟩=>?_)
 cases c with
 | true=>exact hb wh pins s1 σ H1 Q I1 q1
 | false=>exact ⟨H1,I1,q1⟩
theorem pw_or(ha:PT X a tA)(hb:PW X (.BoolOp .Or (b::rest) pos) tB'):PW X (.BoolOp .Or (a::b::rest) pos) (tOr tA tB'):=by
 intro wh pins s σ H Q I h
 refine isTrue_or (thn (ha pins s σ H _ I h) fun c s1 ⟨H1,I1,q1⟩=>?_)
 cases c with
 | true=>exact ⟨H1,I1,q1⟩
 | false=>exact hb wh pins s1 σ H1 Q I1 q1
theorem pt_not(ha:PT X a tA):PT X (.UnaryOp .Not a pos) (tNot tA):=by
 intro pins s σ H Q I h
 exact isTrue_not (ha pins s σ H (fun c H1=>Q (!c) H1) I h)
def tAndV(ta tb:TE):TE:=fun σ H Q=>ta σ H fun x H1=>∃ c,x = .bl c/\if c=true then tb σ H1 Q else Q (.bl false) H1
def tNotV(ta:TE):TE:=fun σ H Q=>ta σ H fun x H1=>∃ c,x = .bl c/\Q (.bl (!c)) H1
theorem pe_one{op}{t:TE}(h:PE X a t):PE X (.BoolOp op [a] pos) t:=fun pins s σ H Q I hw=>BoolOp_one (h pins s σ H Q I hw)
theorem pe_and(ha:PE X a ta)(hb:PE X (.BoolOp .And (b::rest) pos) tb):PE X (.BoolOp .And (a::b::rest) pos) (tAndV ta tb):=by
 intro pins s σ H Q I h
 refine BoolOp_and (thn (ha pins s σ H _ I h) fun v s1 ⟨x,H1,I1,r1,q1⟩=>?_)
 obtain ⟨c,rfl,q1⟩:=q1
 cases r1
 refine wpAny_truthy_bool ?_
 cases c with
 | true=>exact hb pins s1 σ H1 Q I1 q1
 | false=>exact ⟨.bl false,H1,I1,rfl,q1⟩
theorem pe_not(ha:PE X a ta):PE X (.UnaryOp .Not a pos) (tNotV ta):=by
 intro pins s σ H Q I h
 refine UnaryOp_ (thn (ha pins s σ H _ I h) fun v s1 ⟨x,H1,I1,r1,q1⟩=>?_)
 obtain ⟨c,rfl,q1⟩:=q1
 cases r1
 exact not_of (wpAny_truthy_bool ⟨.bl (!c),H1,I1,rfl,q1⟩)
def tIf(t:TT)(ta tb:TE):TE:=fun σ H Q=>t σ H fun c H1=>if c=true then ta σ H1 Q else tb σ H1 Q
theorem pe_ifExp{c:Expr}(hc:PT X c tA)(ha:PE X a ta)(hb:PE X b tb):PE X (.IfExp c a b pos) (tIf tA ta tb):=by
 intro pins s σ H Q I h
 refine wpAny_IfExp (thn (hc pins s σ H _ I h) fun d s1 ⟨H1,I1,q1⟩=>?_)
 cases d with
 | true=>exact ha pins s1 σ H1 Q I1 q1
 | false=>exact hb pins s1 σ H1 Q I1 q1
end
open PySem PySem.Spec PyProof.Rows
def SqL(K:PySem.W.Frag)(H:Hp)(a:Addr)(xs:List V):Prop :=
 Rd H a (.lst xs) \/
  ∃ (o:Obj) (its:Array Value) (n:Nat),K.lookup a=some o/\o.cls = .type "list" /\ o.dict=none/\o.data = .seq its n/\its.size<=sizeLine/\Vals xs its.toList
def SqT(K:PySem.W.Frag)(H:Hp)(a:Addr)(xs:List V):Prop :=
 Rd H a (.tup xs) \/
  ∃ (o:Obj) (its:Array Value) (n:Nat),K.lookup a=some o/\o.cls = .type "tuple" /\ o.data = .seq its n/\its.size<=sizeLine/\Vals xs its.toList
def absV:Value->Option V
 | .none=>some .non
 | .bool b=>some (.bl b)
 | .int i _=>some (.int i)
 | .str x _=>some (.str x)
 | .bytes b _=>some (.byt b)
 | .float b _=>some (.flt b)
 | .ref a=>some (.ref a)
 | .type n=>some (.ty n)
 | _=>none
theorem RelV.abs{x:V}{u:Value}(r:RelV x u):absV u=some x:=by
 cases x with
 | non=>cases r;rfl
 | bl _=>cases r;rfl
 | int _=>obtain ⟨t,rfl⟩:=r;rfl
 | str _=>obtain ⟨t,rfl⟩:=r;rfl
 | byt _=>obtain ⟨t,rfl⟩:=r;rfl
 | flt _=>obtain ⟨t,rfl⟩:=r;rfl
 | ref _=>cases r;rfl
 | ty _=>cases r;rfl
theorem RelV.inj{x y:V}{u:Value}(r:RelV x u)(q:RelV y u):x=y:=Option.some.inj (r.abs.symm.trans q.abs)
theorem Vals.inj:∀ {xs ys:List V} {us:List Value},Vals xs us->Vals ys us->xs=ys
 | _,_,_,.nil,.nil=>rfl
 | _,_,_,.cons r t,.cons r' t'=>by rw [r.inj r',Vals.inj t t']
section
variable {X:Cx} {pins:List (Addr×Obj)} {σ:St} {H:Hp} {s:Shared} {a:Addr} {xs ys:List V}
theorem SqL.of{K:PySem.W.Frag}(h:H a=some (.lst xs)):SqL K H a xs:=.inl (.inl h)
theorem SqT.of{K:PySem.W.Frag}(h:H a=some (.tup xs)):SqT K H a xs:=.inl (.inl h)
theorem Inv.list(I:Inv X pins σ H s)(h:SqL X.K H a xs):∃ its:List Value,Vals xs its/\PlainL s.heap a its.toArray/\xs.length<=sizeLine:=by
 rcases h with h | ⟨o,its,n,hk,hc,hd,hs,hz,r⟩
 ·obtain ⟨z,its,n,r,e⟩:=h.ok I.hok
  exact ⟨its,r,⟨_,n,e,rfl,rfl,rfl⟩,z⟩
 ·refine ⟨its.toList,r,⟨o,n,I.kIn a o hk,hc,hd,by simpa using hs⟩,?_⟩
  have e:=r.length
  simp only [Array.length_toList] at e
  lia
theorem Inv.tuple(I:Inv X pins σ H s)(h:SqT X.K H a xs):∃ its:List Value,Vals xs its/\IsTup s.heap a its.toArray/\xs.length<=sizeLine:=by
 rcases h with h | ⟨o,its,n,hk,hc,hs,hz,r⟩
 ·obtain ⟨z,its,r,p⟩:=h.ok I.hok
  exact ⟨its,r,p,z⟩
 ·refine ⟨its.toList,r,⟨o,I.kIn a o hk,hc,n,by simpa using hs⟩,?_⟩
  have e:=r.length
  simp only [Array.length_toList] at e
  lia
theorem Inv.list_inj(I:Inv X pins σ H s)(h:SqL X.K H a xs)(h':SqL X.K H a ys):xs=ys:=by
 obtain ⟨its,r,⟨o,n,e,_,_,d⟩,_⟩:=I.list h
 obtain ⟨its',r',⟨o',n',e',_,_,d'⟩,_⟩:=I.list h'
 rw [e] at e';cases e'
 rw [d] at d'
 injection d' with d1 _
 have:its=its':=by simpa using congrArg Array.toList d1
 subst this
 exact r.inj r'
theorem Inv.tuple_inj(I:Inv X pins σ H s)(h:SqT X.K H a xs)(h':SqT X.K H a ys):xs=ys:=by
 obtain ⟨its,r,⟨o,e,_,n,d⟩,_⟩:=I.tuple h
 obtain ⟨its',r',⟨o',e',_,n',d'⟩,_⟩:=I.tuple h'
 rw [e] at e';cases e'
 rw [d] at d'
 injection d' with d1 _
 have:its=its':=by simpa using congrArg Array.toList d1
 subst this
 exact r.inj r'
end
abbrev Cx.wish(X:Cx)(E:Value->Shared->Prop):Cx:={ X with xe:=E }
abbrev Cx.nox(X:Cx):Cx:=X.wish fun _ _=>False
theorem Cx.Ok.wish{X:Cx}(ok:X.Ok)(E:Value->Shared->Prop):(X.wish E).Ok :=
 ⟨ok.mod,ok.kind,ok.glob,ok.blt,ok.above,ok.inj,ok.has,ok.cab,ok.hd,ok.frames,ok.gd,ok.stk,ok.exf,ok.bs,ok.bsz,ok.noex,ok.exfs,ok.funs,ok.frf⟩
theorem Cx.Ok.unwish{X:Cx}{E:Value->Shared->Prop}(ok:(X.wish E).Ok):X.Ok :=
 ⟨ok.mod,ok.kind,ok.glob,ok.blt,ok.above,ok.inj,ok.has,ok.cab,ok.hd,ok.frames,ok.gd,ok.stk,ok.exf,ok.bs,ok.bsz,ok.noex,ok.exfs,ok.funs,ok.frf⟩
section
variable {X:Cx} {pins:List (Addr×Obj)} {σ:St} {H:Hp} {s:Shared} {E:Value->Shared->Prop}
theorem Inv.wish(I:Inv X pins σ H s)(E:Value->Shared->Prop):Inv (X.wish E) pins σ H s:=⟨I.ok.wish E,I.os,I.bare,I.base,I.loc,I.cell,I.free,I.freeC,I.pin,I.hok,I.len⟩
theorem Inv.unwish(I:Inv (X.wish E) pins σ H s):Inv X pins σ H s:=⟨I.ok.unwish,I.os,I.bare,I.base,I.loc,I.cell,I.free,I.freeC,I.pin,I.hok,I.len⟩
theorem SP.unwish{D:Ends}{f:Flow}{s':Shared}(h:SP (X.wish E) pins D f s'):SP X pins D f s':=by
 cases f with
 | next=>obtain ⟨σ',H',I,q⟩:=h;exact ⟨σ',H',I.unwish,q⟩
 | brk=>obtain ⟨σ',H',I,q⟩:=h;exact ⟨σ',H',I.unwish,q⟩
 | cont=>obtain ⟨σ',H',I,q⟩:=h;exact ⟨σ',H',I.unwish,q⟩
 | ret u=>obtain ⟨v,σ',H',I,r,q⟩:=h;exact ⟨v,σ',H',I.unwish,r,q⟩
theorem PSs.nox{st:List Stmt}{t:TS}(h:PSs X.nox st t):PSs X st t:=fun pins s σ H D I hw =>
 wpAny_mono (h pins s σ H D (I.wish _) hw) (fun _ _ q=>q.unwish) fun _ _ z=>False.elim z
end
section
variable {X:Cx} {st:Stmt} {rest:List Stmt} {t u:TS} {e:Expr} {te:TE} {pos:Pos}
def tNext:TS:=fun D σ H=>D.nx σ H
def tSeq(t u:TS):TS:=fun D σ H=>t { D with nx:=u D } σ H
theorem y_l:PSs X [] tNext:=fun _ _ σ H _ I h=>wpAny_execs_nil ⟨σ,H,I,h⟩
theorem z_e(h1:PS X st t)(h2:PSs X rest u):PSs X (st::rest) (tSeq t u):=by
 intro pins s σ H D I h
 refine wpAny_execs_cons (thn (h1 pins s σ H { D with nx:=u D } I h) fun f s1 q=>?_)
 cases f with
 | next =>
  obtain ⟨σ',H',I',q⟩:=q
  exact h2 pins s1 σ' H' D I' q
 | ret v=>exact q
 | brk=>exact q
 | cont=>exact q
theorem z_h(h1:PS X st t):PSs X [st] t:=by
 intro pins s σ H D I h
 refine wpAny_execs_cons (thn (h1 pins s σ H D I h) fun f s1 q=>?_)
 cases f with
 | next=>exact wpAny_execs_nil q
 | ret v=>exact q
 | brk=>exact q
 | cont=>exact q
theorem Inv.quiet{pins:List (Addr×Obj)}{σ:St}{H:Hp}{s:Shared}(I:Inv X pins σ H s):interactive X.env=false:=by simp [interactive,I.ok.kind]
def tDrop(te:TE):TS:=fun D σ H=>te σ H fun _ H1=>D.nx σ H1
theorem y_z(he:PE X e te)(hs:swapsWith e none pos.line X.env=pure false:=by rfl):PS X (.Expr e pos) (tDrop te):=by
 intro pins s σ H D I h
 exact wpAny_Expr_any (thn (he pins s σ H _ I h) fun v s1 ⟨x,H1,I1,r1,q1⟩=>⟨σ,H1,I1,q1⟩) I.quiet hs
def tRet(te:TE):TS:=fun D σ H=>te σ H D.rt
theorem z_t(he:PE X e te):PS X (.Return (some e) pos) (tRet te):=by
 intro pins s σ H D I h
 exact wpAny_Return_some (thn (he pins s σ H _ I h) fun v s1 ⟨x,H1,I1,r1,q1⟩=>⟨x,σ,H1,I1,r1,q1⟩)
def tIfS(c:TT)(t u:TS):TS:=fun D σ H=>c σ H fun b H1=>if b=true then t D σ H1 else u D σ H1
theorem ps_if{c:Expr}{a b:List Stmt}{tc:TT}(hc:PT X c tc)(ha:PSs X a t)(hb:PSs X b u):PS X (.If c a b pos) (tIfS tc t u):=by
 intro pins s σ H D I h
 refine wpAny_If (thn (hc pins s σ H _ I h) fun d s1 ⟨H1,I1,q1⟩=>?_)
 cases d with
 | true=>exact ha pins s1 σ H1 D I1 q1
 | false=>exact hb pins s1 σ H1 D I1 q1
end
abbrev TG:=V->St->Hp->(St->Hp->Prop)->Prop
abbrev TGs:=List V->St->Hp->(St->Hp->Prop)->Prop
def PG(X:Cx)(target:Expr)(t:TG):Prop :=
 ∀ (pins:List (Addr×Obj)) (s:Shared) (σ:St) (H:Hp) (v:V) (u:Value) (Q:St->Hp->Prop),Inv X pins σ H s->RelV v u->t v σ H Q ->
  wpAny (model X.prog X.w) X.A (assign target X.env u) (fun _ s'=>∃ σ' H',Inv X pins σ' H' s'/\Q σ' H') X.xe s
def PGs(X:Cx)(ts:List Expr)(t:TGs):Prop :=
 ∀ (pins:List (Addr×Obj)) (s:Shared) (σ:St) (H:Hp) (vs:List V) (us:List Value) (Q:St->Hp->Prop),Inv X pins σ H s->Vals vs us->t vs σ H Q ->
  wpAny (model X.prog X.w) X.A (assignInOrder ((assignEach ts X.env).map (·.2)) us) (fun _ s'=>∃ σ' H',Inv X pins σ' H' s'/\Q σ' H') X.xe s
abbrev TSet:=V->V->V->Hp->(Hp->Prop)->Prop
def PSet(X:Cx)(t:TSet):Prop :=
 ∀ (pins:List (Addr×Obj)) (s:Shared) (σ:St) (H:Hp) (o i v:V) (ov iv u:Value) (Q:Hp->Prop),Inv X pins σ H s->RelV o ov->RelV i iv->RelV v u->t o i v H Q ->
  wpAny (model X.prog X.w) X.A (setItem ov iv u) (fun _ s'=>∃ H',Inv X pins σ H' s'/\Q H') X.xe s
section
variable {X:Cx} {pos:Pos}
def gName(i:Nat):TG:=fun v σ H Q=>Q (σ.set i (some v)) H
theorem y_c{i:Nat}{x:Str}(hN:X.N.Nodup)(hi:X.N[i]? = some x)(hx:Loc X.env.scope x)(hf:X.fn x=true\/X.env.scope.names.lookup x=some .local:=by first | exact .inl rfl | exact .inr rfl | assumption):PG X (.Name x pos) (gName i):=by
 intro pins s σ H v u Q I r h
 exact wpAny_assign_Name (store_ok I hN hi hx r (fun s' I'=>⟨_,H,I',h⟩) hf)
def gNil:TGs:=fun vs σ H Q=>vs=[]/\Q σ H
def gCons(t:TG)(u:TGs):TGs:=fun vs σ H Q=>∃ v r,vs=v::r/\t v σ H fun σ' H'=>u r σ' H' Q
theorem pgs_nil:PGs X [] gNil:=by
 intro pins s σ H vs us Q I r h
 obtain ⟨e,h⟩:=h
 subst e
 cases r
 exact assignInOrder_nil ⟨σ,H,I,h⟩
theorem x_g{e:Expr}{es:List Expr}{t:TG}{u:TGs}(h1:PG X e t)(h2:PGs X es u)
  (hs:(assignEach (e::es) X.env).map (·.2)=assign e X.env::(assignEach es X.env).map (·.2):=by rfl):PGs X (e::es) (gCons t u):=by
 intro pins s σ H vs us Q I r h
 obtain ⟨v,vr,e1,h⟩:=h
 subst e1
 cases r with
 | cons r rr =>
  rw [hs]
  refine assignInOrder_cons (thn (h1 pins s σ H _ _ _ I r h) fun _ s1 ⟨σ1,H1,I1,q1⟩=>?_)
  exact h2 pins s1 σ1 H1 _ _ Q I1 rr q1
def gTup(K:PySem.W.Frag)(n:Nat)(t:TGs):TG:=fun v σ H Q=>∃ a xs,v = .ref a/\SqT K H a xs/\xs.length=n/\t xs σ H Q
theorem pg_tup{es:List Expr}{k:Nat}{t:TGs}{n:Nat}(hc:X.calm=true)(h:PGs X es t)
  (hn:(assignEach es X.env).length=n:=by rfl) (hst:(assignEach es X.env).findIdx? (·.1)=none:=by rfl):PG X (.Tuple es k pos) (gTup X.K n t):=by
 intro pins s σ H v u Q I r hw
 obtain ⟨a,xs,e1,hq,hl,hw⟩:=hw
 subst e1
 cases r
 obtain ⟨its,rv,ht,hz⟩:=I.tuple hq
 refine assign_Tuple_tuple (I.ok.hd hc) ht (by simp [hn,<-hl,rv.length]) hst fun h' hx=>?_
 have I1:Inv X pins σ H { s with heap:=h' }:=I.kept (t':=s.toks) fun b o e=>hx b o (Nat.ne_of_lt (Heap.lt_size e)) e
 exact h pins _ σ H xs _ Q I1 (by simpa using rv) hw
def gSub(to ti:TE)(t:TSet):TG:=fun v σ H Q=>to σ H fun o H1=>ti σ H1 fun i H2=>t o i v H2 fun H3=>Q σ H3
theorem pg_sub{o i:Expr}{to ti:TE}{t:TSet}(ho:PE X o to)(hi:PE X i ti)(hs:PSet X t)
  (ha:∀ v,assign (.Subscript o i pos) X.env v=(do
   let ov <-holding [v] (eval o X.env)
   let iv <-holding [v,ov] (eval i X.env)
   standAt pos
   holding [v,ov,iv] (setItem ov iv v)
   release [v,ov,iv] []):=by intro _;rfl):PG X (.Subscript o i pos) (gSub to ti t):=by
 intro pins s σ H v u Q I r h
 rw [ha]
 refine wpAny_bind (wpAny_holding (thn (ho pins s σ H _ I h) fun ov s1 ⟨x,H1,I1,r1,q1⟩=>?_))
 refine wpAny_bind (wpAny_holding (thn (hi pins s1 σ H1 _ I1 q1) fun iv s2 ⟨y,H2,I2,r2,q2⟩=>?_))
 refine wpAny_bind (wpAny_standAt (wpAny_bind (wpAny_holding (thn (hs pins s2 σ H2 x y v ov iv u _ I2 r1 r2 r q2) fun _ s3 ⟨H3,I3,q3⟩=>?_))))
 exact wpAny_release ⟨σ,H3,I3,q3⟩
def tAsg(te:TE)(g:TG):TS:=fun D σ H=>te σ H fun x H1=>g x σ H1 D.nx
theorem ps_asg{tg e:Expr}{te:TE}{g:TG}(he:PE X e te)(hg:PG X tg g)(hs:swapsWithSole [tg] e pos.line X.env=pure false:=by rfl)(hw:swappedStores [tg] e X.env=pure none:=by rfl)
  (h1:(assignEach [tg] X.env).map (·.2)=[assign tg X.env]:=by rfl):PS X (.Assign [tg] e pos) (tAsg te g):=by
 intro pins s σ H D I h
 refine wpAny_Assign_stores (thn (he pins s σ H _ I h) fun v s1 ⟨x,H1,I1,r1,q1⟩=>?_) hs hw
 rw [h1]
 exact thn (hg pins s1 σ H1 x v _ I1 r1 q1) fun _ s2 q=>q
theorem z_n{i:Nat}{x:Str}{e:Expr}{te:TE}{pos':Pos}(hN:X.N.Nodup)(hi:X.N[i]? = some x)(hx:Loc X.env.scope x)(he:PE X e te)(hs:swapsWith e (some (.Name x pos')) pos.line X.env=pure false:=by rfl)(hf:X.fn x=true\/X.env.scope.names.lookup x=some .local:=by first | exact .inl rfl | exact .inr rfl | assumption) :
  PS X (.Assign [.Name x pos'] e pos) (tAsg te (gName i)):=by
 intro pins s σ H D I h
 refine wpAny_Assign_Name (thn (he pins s σ H _ I h) fun v s1 ⟨y,H1,I1,r1,q1⟩=>?_) hs
 exact store_ok I1 hN hi hx r1 (fun s2 I2=>⟨_,H1,I2,q1⟩) hf
end
section
variable {X:Cx} {pos:Pos}
def tWhile(c:TT)(tb:TS):TS:=fun D σ H=>∃ W:Nat->St->Hp->Prop,(∃ m,W m σ H)/\∀ m σ H,W m σ H ->
 c σ H fun b H1=>if b=true then ∃ N:St->Hp->Prop,(∀ σ' H',N σ' H'->∃ m',m'<m/\W m' σ' H')/\tb { D with nx:=N,ct:=N,bk:=D.nx } σ H1 else D.nx σ H1
theorem ps_while{c:Expr}{body:List Stmt}{tc:TT}{tb:TS}(hp:PassesOwn (model X.prog X.w) X.A X.env X.xe)(hc:PT X c tc)(hb:PSs X body tb):PS X (.While c body [] pos) (tWhile tc tb):=by
 intro pins s σ H D I h
 obtain ⟨W,⟨m0,w0⟩,turn⟩:=h
 refine wpAny_While (codeAny_whileLoop (fun n s'=>∃ σ' H',Inv X pins σ' H' s'/\W n σ' H') ?_ m0 ⟨σ,H,I,w0⟩)
 rintro n s1 ⟨σ1,H1,I1,w1⟩
 refine wpAny_passesOwn hp (thn (hc pins s1 σ1 H1 _ I1 (turn n σ1 H1 w1)) fun b s2 ⟨H2,I2,q2⟩=>?_)
 cases b with
 | true =>
  obtain ⟨N,hN,q2⟩:=q2
  rw [if_pos rfl]
  refine wpAny_passesOwn hp (thn (hb pins s2 σ1 H2 _ I2 q2) fun f s3 q3=>?_)
  cases f with
  | next =>
   obtain ⟨σ3,H3,I3,n3⟩:=q3
   obtain ⟨m',hm,w3⟩:=hN σ3 H3 n3
   exact ⟨m',hm,σ3,H3,I3,w3⟩
  | cont =>
   obtain ⟨σ3,H3,I3,n3⟩:=q3
   obtain ⟨m',hm,w3⟩:=hN σ3 H3 n3
   exact ⟨m',hm,σ3,H3,I3,w3⟩
  | brk=>exact q3
  | ret v=>exact q3
 | false =>
  rw [if_neg Bool.false_ne_true]
  exact wpAny_execs_nil ⟨σ1,H2,I2,q2⟩
end
structure It where
 go:Nat->Hp->Prop
 yld:Nat->Hp->V->Hp->Prop
 stop:Nat->Hp->Prop
def FpOk(X:Cx)(pins:List (Addr×Obj))(H:Hp)(b:Addr):Prop :=
 H b=none/\b≠X.env.locals/\b∉X.fs/\(b∈X.ex\/X.s₀.heap.objs.size<=b)/\(∀ x c,X.env.cells.lookup x=some c->c≠b)/\∀ p∈X.pn++pins,p.1≠b
theorem Inv.fpOk{X:Cx}{pins:List (Addr×Obj)}{σ:St}{H H':Hp}{s:Shared}{b:Addr}(I:Inv X pins σ H s)(hb:s.heap.objs.size<=b)(hn:H' b=none):FpOk X pins H' b:=by
 refine ⟨hn,Nat.ne_of_gt (Nat.lt_of_lt_of_le I.lt hb),I.nofs hb,.inr (Nat.le_trans I.sz hb),fun x c e z=>?_,fun p hp z=>?_⟩
 ·obtain ⟨v,q⟩:=I.cell x c e
  exact absurd (Nat.lt_of_lt_of_le q.lt (by rw [z];exact hb)) (Nat.lt_irrefl _)
 ·exact absurd (Nat.lt_of_lt_of_le (Heap.lt_size (I.pin p hp).1) (by rw [z];exact hb)) (Nat.lt_irrefl _)
structure Turn(P:Program)(w:World)(K:PySem.W.Frag)(tg:Expr)(J:It)(fp:List Addr)(it:Addr)(tn:Nat->Heap->Prop):Prop where
 mem:it∈fp
 obj:∀ i h,tn i h->∀ b∈fp,∃ o,h.get? b=some o/\∀ v,o.data ≠ .cell v
 keep:∀ i h h',tn i h->(∀ b∈fp,∀ o,h.get? b=some o->h'.get? b=some o)->tn i h'
 item:∀ (X:Cx),X.prog=P->X.w=w->X.K=K->X.calm=true->∀ (i:Nat) (pins:List (Addr×Obj)) (s:Shared) (σ:St) (H:Hp) (E:Value->Shared->Prop),Inv X pins σ H s->(∀ b∈fp,FpOk X pins H b)->tn i s.heap->J.go i H ->
  wpAny (model P w) X.A (pyNext (.ref it)) (fun r s1=>∃ u,r=some u /\
   wpAny (model P w) X.A (letOwnedTupleGo tg (.ref it) u) (fun _ s2=>∃ x H',Inv X pins σ H' s2/\RelV x u/\J.yld i H x H'/\tn (i+1) s2.heap/\∀ b∈fp,H' b=none) E s1) E s
 done:∀ (X:Cx),X.prog=P->X.w=w->X.K=K->X.calm=true->∀ (i:Nat) (pins:List (Addr×Obj)) (s:Shared) (σ:St) (H:Hp) (E:Value->Shared->Prop),Inv X pins σ H s->(∀ b∈fp,FpOk X pins H b)->tn i s.heap->J.stop i H ->
  wpAny (model P w) X.A (pyNext (.ref it)) (fun r s1=>r=none/\Inv X pins σ H s1) E s
 self:∀ (A:Around) (i:Nat) (s:Shared) (Q:Value->Shared->Prop) (E:Value->Shared->Prop),tn i s.heap->Q (.ref it) s->wpAny (model P w) A (pyIter (.ref it)) Q E s
abbrev TI:=St->Hp->(It->Hp->Prop)->Prop
def PIE(X:Cx)(pins:List (Addr×Obj))(σ:St)(tg:Expr)(R:It->Hp->Prop)(itv:Value)(s2:Shared):Prop :=
 ∃ (it:Addr) (fp:List Addr) (tn:Nat->Heap->Prop) (J:It) (H':Hp),itv = .ref it/\Inv X pins σ H' s2/\Turn X.prog X.w X.K tg J fp it tn/\tn 0 s2.heap/\(∀ b∈fp,FpOk X pins H' b)/\R J H'
def PI(X:Cx)(tg iter:Expr)(wi:TI):Prop :=
 ∀ (pins:List (Addr×Obj)) (s:Shared) (σ:St) (H:Hp) (R:It->Hp->Prop),Inv X pins σ H s->wi σ H R ->
  wpAny (model X.prog X.w) X.A (eval iter X.env) (fun v s1=>wpAny (model X.prog X.w) X.A (pyIter v) (PIE X pins σ tg R) X.xe s1) X.xe s
theorem go_of{M : Model}{A : Around}{E : Value -> Shared -> Prop}{s : Shared}{tg : Expr}{it : Addr}{u : Value}{o : Obj}{n : String}{vs : Array Value}{Q : Unit -> Shared -> Prop}(ho : s.heap.get? it = some o)(hc : o.cls = .type n)(hd : o.data = .fields vs)
    (hn : ["enumerate", "zip", "dict_itemiterator", "dict_reverseitemiterator", "odict_iterator", "itertools.zip_longest", "itertools.pairwise"].contains n = false) (hQ : Q () s) : wpAny M A (letOwnedTupleGo tg (.ref it) u) Q E s := by
  unfold letOwnedTupleGo
  cases tg <;> first
    | exact wpAny_pure hQ
    | (cases u <;> first
        | exact wpAny_pure hQ
        | (refine wpAny_bind (wpAny_load ho ?_)
           rw [hc, hd]
           show wpAny M A (if (["enumerate", "zip", "dict_itemiterator", "dict_reverseitemiterator", "odict_iterator", "itertools.zip_longest", "itertools.pairwise"].contains n && vs[0]? == some (rawInt _)) = true then _ else _) Q E s
           rw [if_neg (by intro h; rw [hn, Bool.false_and] at h; cases h)]
           exact wpAny_pure hQ))
def Itl(K:PySem.W.Frag)(a:Addr):It :=
 ⟨fun i H=>∃ xs x,SqL K H a xs/\xs[i]? = some x,fun i H x H'=>H'=H/\∀ xs,SqL K H a xs->xs[i]? = some x,fun i H=>∃ xs,SqL K H a xs/\xs.length<=i⟩
def Itt(K:PySem.W.Frag)(a:Addr):It :=
 ⟨fun i H=>∃ xs x,SqT K H a xs/\xs[i]? = some x,fun i H x H'=>H'=H/\∀ xs,SqT K H a xs->xs[i]? = some x,fun i H=>∃ xs,SqT K H a xs/\xs.length<=i⟩
def Itr(lo:Int)(n:Nat):It:=⟨fun i _=>i<n,fun i H x H'=>H'=H/\x = .int (lo+i),fun i _=>n<=i⟩
theorem turn_list{P:Program}{w:World}{K:PySem.W.Frag}{tg:Expr}(a it:Addr):Turn P w K tg (Itl K a) [it] it (fun i h=>h.IsListIter it a i) where
 mem:=by simp
 obj:=fun i h st b hb=>by
  have e:b=it:=by simpa using hb
  subst e
  obtain ⟨o,e,c,d⟩:=st
  exact ⟨o,e,fun v z=>by rw [d] at z;cases z⟩
 keep:=fun i h h' st k=>st.at fun o e=>k it (by simp) o e
 item:=by
  intro X hP hw hK hc i pins s σ H E I hf st hg
  subst hP hw hK
  obtain ⟨xs,x,hq,hx⟩:=hg
  obtain ⟨its,rv,p,hz⟩:=I.list hq
  obtain ⟨u,hu,ru⟩:=rv.get hx
  obtain ⟨f0,f1,f2,f3,f4,f5⟩:=hf it (by simp)
  refine wpAny_pyNext_list_item st p.isList (x:=u) (by simpa using hu) fun h' st' sb=>?_
  have I1:Inv X pins σ H { s with heap:=h' }:=I.turned (t':=s.toks) (fun b o hb e=>(sb.2 b hb).trans e) f0 f1 f3 f4 f5
  obtain ⟨o,e,c,d⟩:=id st'
  exact ⟨u,rfl,go_of (s:={ s with heap:=h' }) e c d (by decide) ⟨x,H,I1,ru,⟨rfl,fun ys hy=>by rw [I.list_inj hy hq];exact hx⟩,st',fun b hb=>(hf b hb).1⟩⟩
 done:=by
  intro X hP hw hK hc i pins s σ H E I hf st hg
  subst hP hw hK
  obtain ⟨xs,hq,hx⟩:=hg
  obtain ⟨its,rv,p,hz⟩:=I.list hq
  obtain ⟨f0,f1,f2,f3,f4,f5⟩:=hf it (by simp)
  have hl:=rv.length
  exact wpAny_pyNext_list_end (I.ok.hd hc) st p.isList (by simp;lia) fun h' eb=>⟨rfl,I.turned (t':=s.toks) (fun b o hb e=>eb b o hb e) f0 f1 f3 f4 f5⟩
 self:=fun _ _ _ _ _ st h=>wpAny_pyIter_listiter st h
theorem turn_tuple{P:Program}{w:World}{K:PySem.W.Frag}{tg:Expr}(a it:Addr):Turn P w K tg (Itt K a) [it] it (fun i h=>h.IsTupleIter it a i) where
 mem:=by simp
 obj:=fun i h st b hb=>by
  have e:b=it:=by simpa using hb
  subst e
  obtain ⟨o,e,c,d⟩:=st
  exact ⟨o,e,fun v z=>by rw [d] at z;cases z⟩
 keep:=fun i h h' st k=>st.at fun o e=>k it (by simp) o e
 item:=by
  intro X hP hw hK hc i pins s σ H E I hf st hg
  subst hP hw hK
  obtain ⟨xs,x,hq,hx⟩:=hg
  obtain ⟨its,rv,p,hz⟩:=I.tuple hq
  obtain ⟨u,hu,ru⟩:=rv.get hx
  obtain ⟨f0,f1,f2,f3,f4,f5⟩:=hf it (by simp)
  refine wpAny_pyNext_tuple_item st (show s.heap.IsTuple a its.toArray from p) (x:=u) (by simpa using hu) fun h' st' sb=>?_
  have I1:Inv X pins σ H { s with heap:=h' }:=I.turned (t':=s.toks) (fun b o hb e=>(sb.2 b hb).trans e) f0 f1 f3 f4 f5
  obtain ⟨o,e,c,d⟩:=id st'
  exact ⟨u,rfl,go_of (s:={ s with heap:=h' }) e c d (by decide) ⟨x,H,I1,ru,⟨rfl,fun ys hy=>by rw [I.tuple_inj hy hq];exact hx⟩,st',fun b hb=>(hf b hb).1⟩⟩
 done:=by
  intro X hP hw hK hc i pins s σ H E I hf st hg
  subst hP hw hK
  obtain ⟨xs,hq,hx⟩:=hg
  obtain ⟨its,rv,p,hz⟩:=I.tuple hq
  obtain ⟨f0,f1,f2,f3,f4,f5⟩:=hf it (by simp)
  have hl:=rv.length
  exact wpAny_pyNext_tuple_end (I.ok.hd hc) st (show s.heap.IsTuple a its.toArray from p) (by simp;lia) fun h' eb=>⟨rfl,I.turned (t':=s.toks) (fun b o hb e=>eb b o hb e) f0 f1 f3 f4 f5⟩
 self:=fun _ _ _ _ _ st h=>wpAny_pyIter_tupleiter st h
theorem turn_range{P:Program}{w:World}{K:PySem.W.Frag}{tg:Expr}(it:Addr)(lo:Int)(n:Nat):Turn P w K tg (Itr lo n) [it] it (fun i h=>IsRangeIter h it (lo+(i:Nat)*1) ((n:Int)-(i:Nat)) 1) where
 mem:=by simp
 obj:=fun i h st b hb=>by
  have e:b=it:=by simpa using hb
  subst e
  exact ⟨_,st,fun v z=>by
   have z':Data.fields _=Data.cell v:=z
   cases z'⟩
 keep:=fun i h h' st k=>k it (by simp) _ st
 item:=by
  intro X hP hw hK hc i pins s σ H E I hf st hg
  subst hP hw hK
  obtain ⟨f0,f1,f2,f3,f4,f5⟩:=hf it (by simp)
  have W:=Walks.range (prog:=X.prog) (w:=X.w) (I.ok.hd hc) it lo 1 n
  refine W.item i s _ _ hg st fun v h' tk hv st' kk=>?_
  obtain ⟨t,rfl⟩:=hv
  have I1:Inv X pins σ H { s with heap:=h',toks:=tk }:=I.turned (fun b o hb e=>kk b o (by simpa using hb) e) f0 f1 f3 f4 f5
  refine ⟨_,rfl,go_of (s:={ s with heap:=h',toks:=tk }) (n := "range_iterator") st' rfl rfl (by decide) ⟨.int (lo+i),H,I1,⟨t,?_⟩,⟨rfl,rfl⟩,st',fun b hb=>(hf b hb).1⟩⟩
  rw [Int.mul_one]
 done:=by
  intro X hP hw hK hc i pins s σ H E I hf st hg
  subst hP hw hK
  obtain ⟨f0,f1,f2,f3,f4,f5⟩:=hf it (by simp)
  exact wpAny_pyNext_range_end (I.ok.hd hc) st (by have:n<=i:=hg;lia) fun h' eb=>⟨rfl,I.turned (t':=s.toks) (fun b o hb e=>eb b o hb e) f0 f1 f3 f4 f5⟩
 self:=fun _ _ _ _ _ st h=>wpAny_pyIter_rangeiter st h
open PySem PySem.Spec PyProof.Rows
section
variable {X:Cx} {tg:Expr}
def iList(K:PySem.W.Frag)(tl:TE):TI:=fun σ H R=>tl σ H fun x H1=>∃ a,x = .ref a/\(∃ xs,SqL K H1 a xs)/\R (Itl K a) H1
def iTup(K:PySem.W.Frag)(tl:TE):TI:=fun σ H R=>tl σ H fun x H1=>∃ a,x = .ref a/\(∃ xs,SqT K H1 a xs)/\R (Itt K a) H1
theorem pi_list{l:Expr}{tl:TE}(hl:PE X l tl):PI X tg l (iList X.K tl):=by
 intro pins s σ H R I h
 refine thn (hl pins s σ H _ I h) fun v s1 ⟨x,H1,I1,r1,q1⟩=>?_
 obtain ⟨a,e,⟨xs,hq⟩,q⟩:=q1
 subst e
 cases r1
 obtain ⟨its,rv,p,hz⟩:=I1.list hq
 refine wpAny_pyIter_list p.isList ?_
 refine ⟨s1.heap.objs.size,[s1.heap.objs.size],_,_,H1,rfl,I1.kept (t':=s1.toks) fun b o e=>Heap.get?_push_of_some _ e,turn_list a _,⟨_,Heap.get?_push_size _ rfl,rfl,rfl⟩,fun b hb=>?_,q⟩
 have e:b=s1.heap.objs.size:=by simpa using hb
 subst e
 exact I1.fpOk (Nat.le_refl _) (I1.hok.fresh (Nat.le_refl _))
theorem pi_tup{l:Expr}{tl:TE}(hl:PE X l tl):PI X tg l (iTup X.K tl):=by
 intro pins s σ H R I h
 refine thn (hl pins s σ H _ I h) fun v s1 ⟨x,H1,I1,r1,q1⟩=>?_
 obtain ⟨a,e,⟨xs,hq⟩,q⟩:=q1
 subst e
 cases r1
 obtain ⟨its,rv,p,hz⟩:=I1.tuple hq
 refine wpAny_pyIter_tuple (show s1.heap.IsTuple a its.toArray from p) ?_
 refine ⟨s1.heap.objs.size,[s1.heap.objs.size],_,_,H1,rfl,I1.kept (t':=s1.toks) fun b o e=>Heap.get?_push_of_some _ e,turn_tuple a _,⟨_,Heap.get?_push_size _ rfl,rfl,rfl⟩,fun b hb=>?_,q⟩
 have e:b=s1.heap.objs.size:=by simpa using hb
 subst e
 exact I1.fpOk (Nat.le_refl _) (I1.hok.fresh (Nat.le_refl _))
theorem range_it{pins:List (Addr×Obj)}{σ:St}{H:Hp}{s:Shared}{R:It->Hp->Prop}{E:Value->Shared->Prop}{lo hi:Int}{t u v:Tok}{tk:Nat}(I:Inv X pins σ H s)(h1 : -(2^62)<=lo)(h2:lo<2^62)(h3 : -(2^62)<=hi)(h4:hi<2^62)
  (q:R (Itr lo (hi-lo).toNat) H):wpAny (model X.prog X.w) X.A (pyIter (.ref s.heap.objs.size)) (PIE X pins σ tg R) E { s with heap:=s.heap.push { cls:=.type "range",data:=.fields #[.int lo t,.int hi u,.int 1 v] },toks:=tk }:=by
 refine wpAny_pyIter_range (IsRange.new ..) (small_one h1 h2 h3 h4) ?_
 have I1:Inv X pins σ H { s with heap:=s.heap.push { cls:=.type "range",data:=.fields #[.int lo t,.int hi u,.int 1 v] },toks:=tk }:=I.kept fun b o e=>Heap.get?_push_of_some _ e
 refine ⟨(s.heap.push { cls:=.type "range",data:=.fields #[.int lo t,.int hi u,.int 1 v] }).objs.size,[(s.heap.push { cls:=.type "range",data:=.fields #[.int lo t,.int hi u,.int 1 v] }).objs.size],_,_,H,rfl,
  I1.kept (t':=tk) fun b o e=>Heap.get?_push_of_some _ e,turn_range _ lo (hi-lo).toNat,?_,fun b hb=>?_,q⟩
 ·have e1:lo+((0:Nat):Int)*1=lo:=by simp
  have e2:(((hi-lo).toNat:Nat):Int)-((0:Nat):Int)=Builtin.Range.rangeSize lo hi 1:=by rw [rangeSize_one];split<;>lia
  show IsRangeIter _ _ (lo+((0:Nat):Int)*1) ((((hi-lo).toNat:Nat):Int)-((0:Nat):Int)) 1
  rw [e1,e2]
  exact Heap.get?_push_size _ rfl
 ·have e:b=(s.heap.push { cls:=.type "range",data:=.fields #[.int lo t,.int hi u,.int 1 v] }).objs.size:=by simpa using hb
  subst e
  exact I1.fpOk (Nat.le_refl _) (I1.hok.fresh (Nat.le_refl _))
def iRng1(ta:TA):TI:=fun σ H R=>ta σ H fun vs H1=>∃ j:Int,vs=[.int j] /\ -(2^62)<=j/\j<2^62/\R (Itr 0 j.toNat) H1
theorem pi_range1{a:Expr}{ta:TA}{p pos:Pos}(hg:Gl X "range")(hm:X.mg "range" = none)(ha:PA X [a] ta)(hs:starEach [a] X.env=[(false,eval a X.env)]:=by rfl):PI X tg (.Call (.Name "range" p) [a] [] pos) (iRng1 ta):=by
 intro pins s σ H R I h
 refine Call_ (ld_blt I hg hm boot_range (PyProof.Rows.callWith_type1 (thn (ha pos pins s σ H _ I h) fun us s1 ⟨vs,H1,I1,r1,q1⟩=>?_) hs rfl))
 obtain ⟨j,e,q1,q2,q⟩:=q1
 subst e
 cases r1 with
 | cons r rr =>
  cases rr
  obtain ⟨t,rfl⟩:=r
  exact call_range_1 (range_it I1 (by lia) (by lia) q1 q2 (by simpa using q))
def tFor(wi:TI)(g:TG)(tb:TS):TS:=fun D σ H=>wi σ H fun J H1=>∃ W:Nat->Nat->St->Hp->Prop,(∃ m,W 0 m σ H1)/\∀ i m σ H,W i m σ H ->
 (J.stop i H/\D.nx σ H)\/(J.go i H/\∃ N:St->Hp->Prop,(∀ σ' H',N σ' H'->∃ m',m'<m/\W (i+1) m' σ' H')/\∀ x H',J.yld i H x H'->g x σ H' fun σ2 H2=>tb { D with nx:=N,ct:=N,bk:=D.nx } σ2 H2)
def pinsAt(fp:List Addr)(h:Heap):List (Addr×Obj):=fp.filterMap fun b=>(h.get? b).map fun o=>(b,o)
theorem mem_pinsAt{fp:List Addr}{h:Heap}{b:Addr}{o:Obj}(hb:b∈fp)(e:h.get? b=some o):(b,o)∈pinsAt fp h:=List.mem_filterMap.mpr ⟨b,hb,by rw [e];rfl⟩
theorem of_pinsAt{fp:List Addr}{h:Heap}{p:Addr×Obj}(hp:p∈pinsAt fp h):p.1∈fp/\h.get? p.1=some p.2:=by
 obtain ⟨b,hb,e⟩:=List.mem_filterMap.mp hp
 cases q:h.get? b with
 | none=>rw [q] at e;cases e
 | some o =>
  rw [q] at e
  have e':(b,o)=p:=Option.some.inj e
  subst e'
  exact ⟨hb,q⟩
theorem Inv.pinned{pins:List (Addr×Obj)}{σ:St}{H:Hp}{s:Shared}{fp:List Addr}(I:Inv X pins σ H s)(hf:∀ b∈fp,FpOk X pins H b)(ho:∀ b∈fp,∃ o,s.heap.get? b=some o/\∀ v,o.data ≠ .cell v):Inv X (pins++pinsAt fp s.heap) σ H s :=
 I.pins_of fun p hp=>(List.mem_append.mp hp).elim (fun z=>I.pin p (List.mem_append_right _ z)) fun z=>by
  obtain ⟨hb,e⟩:=of_pinsAt z
  obtain ⟨f0,f1,f2,_⟩:=hf p.1 hb
  obtain ⟨o,e',d⟩:=ho p.1 hb
  rw [e] at e';cases e'
  exact ⟨e,f0,f1,f2,d⟩
theorem Inv.unpinned{pins pl:List (Addr×Obj)}{σ:St}{H:Hp}{s:Shared}(I:Inv X (pins++pl) σ H s):Inv X pins σ H s:=I.pins_of fun p hp=>I.pin p (List.mem_append_right _ (List.mem_append_left _ hp))
theorem ps_for{iter:Expr}{body:List Stmt}{wi:TI}{g:TG}{tb:TS}{pos:Pos}(hp:PassesOwn (model X.prog X.w) X.A X.env X.xe)(hc:X.calm=true)(hi:PI X tg iter wi)(hg:PG X tg g)(hb:PSs X body tb)
  (hs:∀ x,foldedSetIterable iter X.env x=pure x:=by intro _;rfl):PS X (.For tg iter body [] pos) (tFor wi g tb):=by
 intro pins s σ H D I h
 refine wpAny_For (thn (hi pins s σ H _ I h) fun v s1 h1=>thn h1 fun itv s2 h2=>?_) hs
 obtain ⟨it,fp,tn,J,H2,e,I2,T,st2,f2,W,⟨m0,w0⟩,turn⟩:=h2
 subst e
 have stat:∀ {H':Hp},(∀ b∈fp,H' b=none)->∀ b∈fp,FpOk X pins H' b:=fun hn b hb=>⟨hn b hb,(f2 b hb).2⟩
 refine codeAny_forLoop_any (fun n s'=>∃ i σ' H',Inv X pins σ' H' s'/\tn i s'.heap/\(∀ b∈fp,H' b=none)/\W i n σ' H') ?_ m0 ⟨0,σ,H2,I2,st2,fun b hb=>(f2 b hb).1,w0⟩
 rintro n s3 ⟨i,σ3,H3,I3,st3,fr3,w3⟩
 rcases turn i n σ3 H3 w3 with ⟨stop,qn⟩ | ⟨go,N,hN,step⟩
 ·refine wpAny_passesOwn hp (thn (T.done X rfl rfl rfl hc i pins s3 σ3 H3 X.xe I3 (stat fr3) st3 stop) fun r s4 ⟨hr,I4⟩=>?_)
  subst hr
  exact wpAny_execs_nil ⟨σ3,H3,I4,qn⟩
 ·refine wpAny_passesOwn hp (thn (T.item X rfl rfl rfl hc i pins s3 σ3 H3 X.xe I3 (stat fr3) st3 go) fun r s4 ⟨u,hr,h4⟩=>?_)
  subst hr
  refine wpAny_passesOwn hp (thn h4 fun _ s5 ⟨x,H5,I5,r5,y5,st5,fr5⟩=>?_)
  have I5':=I5.pinned (stat fr5) (T.obj _ _ st5)
  refine wpAny_passesOwn hp (thn (hg _ s5 σ3 H5 x u _ I5' r5 (step x H5 y5)) fun _ s6 ⟨σ6,H6,I6,q6⟩=>?_)
  refine wpAny_passesOwn hp (thn (hb _ s6 σ6 H6 _ I6 q6) fun f s7 q7=>?_)
  have again:∀ {σ7:St} {H7:Hp},Inv X (pins++pinsAt fp s5.heap) σ7 H7 s7->N σ7 H7->∃ m,m<n/\∃ i σ' H',Inv X pins σ' H' s7/\tn i s7.heap/\(∀ b∈fp,H' b=none)/\W i m σ' H':=fun {σ7 H7} I7 n7=>by
   obtain ⟨m',hm,w7⟩:=hN σ7 H7 n7
   refine ⟨m',hm,i+1,σ7,H7,I7.unpinned,T.keep _ _ _ st5 fun b hb o e=>(I7.pin (b,o) (List.mem_append_right _ (List.mem_append_right _ (mem_pinsAt hb e)))).1,fun b hb=>?_,w7⟩
   obtain ⟨o,e,d⟩:=T.obj _ _ st5 b hb
   exact (I7.pin (b,o) (List.mem_append_right _ (List.mem_append_right _ (mem_pinsAt hb e)))).2.1
  cases f with
  | next=>obtain ⟨σ7,H7,I7,n7⟩:=q7;exact again I7 n7
  | cont=>obtain ⟨σ7,H7,I7,n7⟩:=q7;exact again I7 n7
  | brk=>obtain ⟨σ7,H7,I7,q7⟩:=q7;exact ⟨σ7,H7,I7.unpinned,q7⟩
  | ret v=>obtain ⟨x7,σ7,H7,I7,r7,q7⟩:=q7;exact ⟨x7,σ7,H7,I7.unpinned,r7,q7⟩
end
theorem for_list{K:PySem.W.Frag}{a:Addr}{xs:List V}{g:TG}{tb:TS}{D:Ends}{σ:St}{H:Hp}(Pv:Nat->St->Hp->Prop)(h0:Pv 0 σ H)(hl:∀ i σ H,i<=xs.length->Pv i σ H->SqL K H a xs)
  (hs:∀ i x σ H,xs[i]? = some x->Pv i σ H->g x σ H fun σ2 H2=>tb { D with nx:=Pv (i+1),ct:=Pv (i+1),bk:=D.nx } σ2 H2) (hd:∀ σ H,Pv xs.length σ H->D.nx σ H) :
  ∃ W:Nat->Nat->St->Hp->Prop,(∃ m,W 0 m σ H)/\∀ i m σ H,W i m σ H ->
   ((Itl K a).stop i H/\D.nx σ H)\/((Itl K a).go i H/\∃ N:St->Hp->Prop,(∀ σ' H',N σ' H'->∃ m',m'<m/\W (i+1) m' σ' H')/\∀ x H',(Itl K a).yld i H x H'->g x σ H' fun σ2 H2=>tb { D with nx:=N,ct:=N,bk:=D.nx } σ2 H2):=by
 refine ⟨fun i m σ H=>m=xs.length-i/\i<=xs.length/\Pv i σ H,⟨xs.length,by simp,Nat.zero_le _,h0⟩,?_⟩
 rintro i m σ H ⟨rfl,hi,p⟩
 have q:=hl i σ H hi p
 by_cases hlt:i<xs.length
 ·refine .inr ⟨⟨xs,xs[i],q,by simp [hlt]⟩,Pv (i+1),fun σ' H' p'=>⟨xs.length-(i+1),by lia,rfl,hlt,p'⟩,fun x H' y=>?_⟩
  obtain ⟨e,y⟩:=y
  subst e
  exact hs i x σ _ (y xs q) p
 ·have e:i=xs.length:=by lia
  subst e
  exact .inl ⟨⟨xs,q,Nat.le_refl _⟩,hd σ H p⟩
theorem for_range{lo:Int}{n:Nat}{g:TG}{tb:TS}{D:Ends}{σ:St}{H:Hp}(Pv:Nat->St->Hp->Prop)(h0:Pv 0 σ H)
  (hs:∀ i σ H,i<n->Pv i σ H->g (.int (lo+i)) σ H fun σ2 H2=>tb { D with nx:=Pv (i+1),ct:=Pv (i+1),bk:=D.nx } σ2 H2) (hd:∀ σ H,Pv n σ H->D.nx σ H) :
  ∃ W:Nat->Nat->St->Hp->Prop,(∃ m,W 0 m σ H)/\∀ i m σ H,W i m σ H ->
   ((Itr lo n).stop i H/\D.nx σ H)\/((Itr lo n).go i H/\∃ N:St->Hp->Prop,(∀ σ' H',N σ' H'->∃ m',m'<m/\W (i+1) m' σ' H')/\∀ x H',(Itr lo n).yld i H x H'->g x σ H' fun σ2 H2=>tb { D with nx:=N,ct:=N,bk:=D.nx } σ2 H2):=by
 refine ⟨fun i m σ H=>m=n-i/\i<=n/\Pv i σ H,⟨n,by simp,Nat.zero_le _,h0⟩,?_⟩
 rintro i m σ H ⟨rfl,hi,p⟩
 by_cases hlt:i<n
 ·refine .inr ⟨hlt,Pv (i+1),fun σ' H' p'=>⟨n-(i+1),by lia,rfl,hlt,p'⟩,fun x H' y=>?_⟩
  obtain ⟨e,y⟩:=y
  subst e y
  exact hs i σ _ hlt p
 ·have e:i=n:=by lia
  subst e
  exact .inl ⟨Nat.le_refl _,hd σ H p⟩
theorem while_by{c:TT}{tb:TS}{D:Ends}{σ:St}{H:Hp}(Pv:St->Hp->Prop)(μ:St->Hp->Nat)(h0:Pv σ H)
  (hs:∀ σ H,Pv σ H->c σ H fun b H1=>if b=true then tb { D with nx:=fun σ' H'=>Pv σ' H'/\μ σ' H'<μ σ H,ct:=fun σ' H'=>Pv σ' H'/\μ σ' H'<μ σ H,bk:=D.nx } σ H1 else D.nx σ H1)
  (mono:∀ σ H Q Q',(∀ b H1,Q b H1->Q' b H1)->c σ H Q->c σ H Q'):tWhile c tb D σ H:=by
 refine ⟨fun m σ H=>m=μ σ H/\Pv σ H,⟨_,rfl,h0⟩,?_⟩
 rintro m σ H ⟨rfl,p⟩
 refine mono σ H _ _ (fun b H1 q=>?_) (hs σ H p)
 cases b with
 | true=>exact ⟨_,fun σ' H' ⟨p',l⟩=>⟨_,l,rfl,p'⟩,q⟩
 | false=>exact q
open PySem PySem.Spec PyProof.Rows
abbrev R2:=V->V->Hp->VK->Prop
def OpR(X:Cx)(f:Value->Value->Sem Value)(r:R2):Prop :=
 ∀ (pins:List (Addr×Obj)) (s:Shared) (σ:St) (H:Hp) (x y:V) (v u:Value) (Q:VK),Inv X pins σ H s->RelV x v->RelV y u->r x y H Q ->
  wpAny (model X.prog X.w) X.A (f v u) (EP X pins σ Q) X.xe s
def CallR(X:Cx)(f:Value)(r:List V->Hp->VK->Prop):Prop :=
 ∀ (pins:List (Addr×Obj)) (s:Shared) (σ:St) (H:Hp) (xs:List V) (us:List Value) (Q:VK),Inv X pins σ H s->Vals xs us->r xs H Q ->
  wpAny (model X.prog X.w) X.A (call f us) (EP X pins σ Q) X.xe s
def TruR(X:Cx)(r:V->Hp->(Bool->Hp->Prop)->Prop):Prop :=
 ∀ (pins:List (Addr×Obj)) (s:Shared) (σ:St) (H:Hp) (x:V) (v:Value) (Q:Bool->Hp->Prop),Inv X pins σ H s->RelV x v->r x H Q ->
  wpAny (model X.prog X.w) X.A (truthy v) (TP X pins σ Q) X.xe s
def tOp(r:R2)(ta tb:TE):TE:=fun σ H Q=>ta σ H fun x H1=>tb σ H1 fun y H2=>r x y H2 Q
def rI(C:Int->Int->Prop)(g:Int->Int->V):R2:=fun x y H Q=>∃ i j,x = .int i/\y = .int j/\C i j/\Q (g i j) H
def rI0(g:Int->Int->V):R2:=fun x y H Q=>∃ i j,x = .int i/\y = .int j/\Q (g i j) H
section
variable {X:Cx} {a b c:Expr} {ta tb tc:TE} {pos:Pos}
theorem binT(ha:PE X a ta)(hb:PE X b tb){pins:List (Addr×Obj)}{s:Shared}{σ:St}{H:Hp}{R:V->V->Hp->Prop}(I:Inv X pins σ H s)
  (h:ta σ H fun x H1=>tb σ H1 fun y H2=>R x y H2) {Q:Value->Shared->Prop} {f:Value->Value->Sem Value}
  (hf:∀ v u s2 x y H2,Inv X pins σ H2 s2->RelV x v->RelV y u->R x y H2->wpAny (model X.prog X.w) X.A (f v u) Q X.xe s2) :
  wpAny (model X.prog X.w) X.A (eval a X.env) (fun v s₁=>wpAny (model X.prog X.w) X.A (eval b X.env) (fun u s₂=>wpAny (model X.prog X.w) X.A (f v u) Q X.xe s₂) X.xe s₁) X.xe s:=by
 refine thn (ha pins s σ H _ I h) fun v s1 ⟨x,H1,I1,r1,q1⟩=>?_
 refine thn (hb pins s1 σ H1 _ I1 q1) fun u s2 ⟨y,H2,I2,r2,q2⟩=>?_
 exact hf v u s2 x y H2 I2 r1 r2 q2
theorem y_a{op:Operator}{r:R2}(ho:OpR X (binaryOp op) r)(ha:PE X a ta)(hb:PE X b tb):PE X (.BinOp a op b pos) (tOp r ta tb):=by
 intro pins s σ H Q I h
 exact wpAny_BinOp (binT ha hb I h fun v u s2 x y H2 I2 rx ry q=>ho pins s2 σ H2 x y v u Q I2 rx ry q)
theorem opI{f:Value->Value->Sem Value}{C:Int->Int->Prop}{g:Int->Int->Int}
  (rule:∀ (i j:Int) (t u:Tok) (s:Shared) (Q:Value->Shared->Prop) (E:Value->Shared->Prop),C i j->Q (.int (g i j) s.toks) { s with toks:=s.toks+1 }->wpAny (model X.prog X.w) X.A (f (.int i t) (.int j u)) Q E s) :
  OpR X f (rI C fun i j=>.int (g i j)):=by
 intro pins s σ H x y v u Q I rx ry h
 obtain ⟨i,j,rfl,rfl,hc,q⟩:=h
 obtain ⟨t,rfl⟩:=rx
 obtain ⟨t',rfl⟩:=ry
 exact rule i j t t' s _ _ hc ⟨.int (g i j),H,I.tok _,⟨_,rfl⟩,q⟩
theorem opI0{f:Value->Value->Sem Value}{g:Int->Int->Int}
  (rule:∀ (i j:Int) (t u:Tok) (s:Shared) (Q:Value->Shared->Prop) (E:Value->Shared->Prop),Q (.int (g i j) s.toks) { s with toks:=s.toks+1 }->wpAny (model X.prog X.w) X.A (f (.int i t) (.int j u)) Q E s) :
  OpR X f (rI0 fun i j=>.int (g i j)):=by
 intro pins s σ H x y v u Q I rx ry h
 obtain ⟨i,j,rfl,rfl,q⟩:=h
 obtain ⟨t,rfl⟩:=rx
 obtain ⟨t',rfl⟩:=ry
 exact rule i j t t' s _ _ ⟨.int (g i j),H,I.tok _,⟨_,rfl⟩,q⟩
theorem opB0{f:Value->Value->Sem Value}{g:Int->Int->Bool}
  (rule:∀ (i j:Int) (t u:Tok) (s:Shared) (Q:Value->Shared->Prop) (E:Value->Shared->Prop),Q (.bool (g i j)) s->wpAny (model X.prog X.w) X.A (f (.int i t) (.int j u)) Q E s) :
  OpR X f (rI0 fun i j=>.bl (g i j)):=by
 intro pins s σ H x y v u Q I rx ry h
 obtain ⟨i,j,rfl,rfl,q⟩:=h
 obtain ⟨t,rfl⟩:=rx
 obtain ⟨t',rfl⟩:=ry
 exact rule i j t t' s _ _ ⟨.bl (g i j),H,I,rfl,q⟩
def CPow(i j:Int):Prop:=0<=j/\j<=1000000/\i.natAbs<2^64
def CMul(i j:Int):Prop:=(-(2^64)<i/\i<2^64)\/(-(2^64)<j/\j<2^64)
theorem CMul.ok{i j:Int}(h:CMul i j):IntMulOk i j:=by
 rcases h with ⟨h1,h2⟩ | ⟨h1,h2⟩
 ·exact .of_left (intBits_le_64 h1 h2)
 ·exact .of_right (intBits_le_64 h1 h2)
theorem op_add:OpR X (binaryOp .Add) (rI0 fun i j=>.int (i+j)):=opI0 fun _ _ _ _ _ _ _ q=>add_int q
theorem op_mul:OpR X (binaryOp .Mult) (rI CMul fun i j=>.int (i*j)):=opI fun _ _ _ _ _ _ _ hc q=>mul_int q hc.ok
theorem op_mod:OpR X (binaryOp .Mod) (rI (fun _ j=>0<j) fun i j=>.int (i%j)):=opI fun i j _ _ _ _ _ hc q=>by
 have h1:(0:Int)<j:=hc
 exact mod_int' (by lia) (by rw [Int.fmod_eq_emod_of_nonneg i (by lia)];exact q)
theorem op_pow:OpR X (binaryOp .Pow) (rI CPow fun i j=>.int (i^j.toNat)):=opI fun _ _ _ _ _ _ _ hc q=>pow_int_small hc.1 hc.2.1 hc.2.2 q
theorem op_and:OpR X (binaryOp .BitAnd) (rI0 fun i j=>.int (Builtin.bitAnd i j)):=opI0 fun _ _ _ _ _ _ _ q=>and_int q
theorem op_or:OpR X (binaryOp .BitOr) (rI0 fun i j=>.int (Builtin.bitOr i j)):=opI0 fun _ _ _ _ _ _ _ q=>or_int q
theorem op_xor:OpR X (binaryOp .BitXor) (rI0 fun i j=>.int (Builtin.bitXor i j)):=opI0 fun _ _ _ _ _ _ _ q=>xor_int q
end
def scal:V->V->Bool
 | .non,.non=>true | .non,.int _=>true | .int _,.non=>true | .non,.bl _=>true | .bl _,.non=>true | .non,.str _=>true | .str _,.non=>true
 | .int _,.int _=>true | .bl _,.bl _=>true | .str _,.str _=>true | .byt _,.byt _=>true
 | .int _,.str _=>true | .str _,.int _=>true | .bl _,.str _=>true | .str _,.bl _=>true
 | _,_=>false
def rEq:R2:=fun x y H Q=>scal x y=true/\Q (.bl (decide (x=y))) H
def rNe:R2:=fun x y H Q=>scal x y=true/\Q (.bl (!decide (x=y))) H
theorem dec_int{i j:Int}:decide (V.int i=V.int j)=(i == j):=by
 rw [Bool.eq_iff_iff]
 simp
theorem dec_bl{i j:Bool}:decide (V.bl i=V.bl j)=(i == j):=by
 rw [Bool.eq_iff_iff]
 simp
theorem dec_str{i j:Str}:decide (V.str i=V.str j)=(i == j):=by
 rw [Bool.eq_iff_iff]
 simp
theorem dec_byt{i j:Array UInt8}:decide (V.byt i=V.byt j)=(i.toList == j.toList):=by
 rw [Bool.eq_iff_iff]
 cases i
 cases j
 simp
section
variable {X:Cx} {a b c:Expr} {ta tb tc:TE} {pos:Pos}
theorem y_k{pins:List (Addr×Obj)}{σ:St}{H:Hp}{s:Shared}{Q:VK}{k k':Bool}(I:Inv X pins σ H s)(q:Q (.bl k) H)(e:k=k'):EP X pins σ Q (.bool k') s:=by
 subst e
 exact ⟨.bl k,H,I,rfl,q⟩
theorem op_eq:OpR X (compareOp .Eq) rEq:=by
 intro pins s σ H x y v u Q I rx ry h
 obtain ⟨hs,q⟩:=h
 cases x with
 | non =>
  cases rx
  cases y with
  | non=>cases ry;exact PySem.EqNone.eq_none_none (y_k I q (by simp))
  | bl j=>cases ry;exact PySem.EqNone.eq_none_bool (y_k I q (by simp))
  | int j=>obtain ⟨t',rfl⟩:=ry;exact PySem.EqNone.eq_none_int (y_k I q (by simp))
  | str j=>obtain ⟨t',rfl⟩:=ry;exact PySem.EqNone.eq_none_str (y_k I q (by simp))
  | _=>exact absurd (show false=true from hs) Bool.false_ne_true
 | bl i =>
  cases rx
  cases y with
  | non=>cases ry;exact PySem.EqNone.eq_bool_none (y_k I q (by simp))
  | bl j=>cases ry;exact eq_bool (y_k I q dec_bl)
  | str j=>obtain ⟨t',rfl⟩:=ry;exact PySem.EqMixed.eq_bool_str (y_k I q (by simp))
  | _=>exact absurd (show false=true from hs) Bool.false_ne_true
 | int i =>
  obtain ⟨t,rfl⟩:=rx
  cases y with
  | non=>cases ry;exact PySem.EqNone.eq_int_none (y_k I q (by simp))
  | int j=>obtain ⟨t',rfl⟩:=ry;exact eq_int (y_k I q dec_int)
  | str j=>obtain ⟨t',rfl⟩:=ry;exact PySem.EqMixed.eq_int_str (y_k I q (by simp))
  | _=>exact absurd (show false=true from hs) Bool.false_ne_true
 | str i =>
  obtain ⟨t,rfl⟩:=rx
  cases y with
  | non=>cases ry;exact PySem.EqNone.eq_str_none (y_k I q (by simp))
  | bl j=>cases ry;exact PySem.EqMixed.eq_str_bool (y_k I q (by simp))
  | int j=>obtain ⟨t',rfl⟩:=ry;exact PySem.EqMixed.eq_str_int (y_k I q (by simp))
  | str j=>obtain ⟨t',rfl⟩:=ry;exact eq_str (y_k I q dec_str)
  | _=>exact absurd (show false=true from hs) Bool.false_ne_true
 | byt i =>
  obtain ⟨t,rfl⟩:=rx
  cases y with
  | byt j=>obtain ⟨t',rfl⟩:=ry;exact PySem.W.eq_bytes (y_k I q dec_byt)
  | _=>exact absurd (show false=true from hs) Bool.false_ne_true
 | _=>cases y<;>exact absurd (show false=true from hs) Bool.false_ne_true
theorem op_ne:OpR X (compareOp .NotEq) rNe:=by
 intro pins s σ H x y v u Q I rx ry h
 obtain ⟨hs,q⟩:=h
 cases x with
 | non =>
  cases rx
  cases y with
  | non=>cases ry;exact PySem.EqNone.ne_none_none (y_k I q (by simp))
  | bl j=>cases ry;exact PySem.EqNone.ne_none_bool (y_k I q (by simp))
  | int j=>obtain ⟨t',rfl⟩:=ry;exact PySem.EqNone.ne_none_int (y_k I q (by simp))
  | str j=>obtain ⟨t',rfl⟩:=ry;exact PySem.EqNone.ne_none_str (y_k I q (by simp))
  | _=>exact absurd (show false=true from hs) Bool.false_ne_true
 | bl i =>
  cases rx
  cases y with
  | non=>cases ry;exact PySem.EqNone.ne_bool_none (y_k I q (by simp))
  | bl j=>cases ry;exact ne_bool (y_k I q (congrArg not dec_bl))
  | str j=>obtain ⟨t',rfl⟩:=ry;exact PySem.EqMixed.ne_bool_str (y_k I q (by simp))
  | _=>exact absurd (show false=true from hs) Bool.false_ne_true
 | int i =>
  obtain ⟨t,rfl⟩:=rx
  cases y with
  | non=>cases ry;exact PySem.EqNone.ne_int_none (y_k I q (by simp))
  | int j=>obtain ⟨t',rfl⟩:=ry;exact ne_int (y_k I q (congrArg not dec_int))
  | str j=>obtain ⟨t',rfl⟩:=ry;exact PySem.EqMixed.ne_int_str (y_k I q (by simp))
  | _=>exact absurd (show false=true from hs) Bool.false_ne_true
 | str i =>
  obtain ⟨t,rfl⟩:=rx
  cases y with
  | non=>cases ry;exact PySem.EqNone.ne_str_none (y_k I q (by simp))
  | bl j=>cases ry;exact PySem.EqMixed.ne_str_bool (y_k I q (by simp))
  | int j=>obtain ⟨t',rfl⟩:=ry;exact PySem.EqMixed.ne_str_int (y_k I q (by simp))
  | str j=>obtain ⟨t',rfl⟩:=ry;exact ne_str (y_k I q (congrArg not dec_str))
  | _=>exact absurd (show false=true from hs) Bool.false_ne_true
 | byt i =>
  obtain ⟨t,rfl⟩:=rx
  cases y with
  | byt j=>obtain ⟨t',rfl⟩:=ry;exact PySem.W.ne_bytes (y_k I q (congrArg not dec_byt))
  | _=>exact absurd (show false=true from hs) Bool.false_ne_true
 | _=>cases y<;>exact absurd (show false=true from hs) Bool.false_ne_true
theorem op_lt:OpR X (compareOp .Lt) (rI0 fun i j=>.bl (decide (i<j))):=opB0 fun _ _ _ _ _ _ _ q=>lt_int q
theorem op_le:OpR X (compareOp .LtE) (rI0 fun i j=>.bl (decide (i<=j))):=opB0 fun _ _ _ _ _ _ _ q=>le_int q
theorem op_gt:OpR X (compareOp .Gt) (rI0 fun i j=>.bl (decide (j<i))):=opB0 fun _ _ _ _ _ _ _ q=>gt_int q
theorem op_ge:OpR X (compareOp .GtE) (rI0 fun i j=>.bl (decide (j<=i))):=opB0 fun _ _ _ _ _ _ _ q=>ge_int q
theorem op_notN:OpR X (compareOp .IsNot) (fun x y H Q=>y = .non/\Q (.bl (!decide (x = .non))) H):=by
 intro pins s σ H x y v u Q I rx ry h
 obtain ⟨rfl,q⟩:=h
 cases ry
 refine isnot_none_gen (y_k I q ?_)
 cases x<;>first
  | (cases rx;rfl)
  | (obtain ⟨t,rfl⟩:=rx;rfl)
theorem nomark(b:Expr){op:CmpOp}(h:op ≠ .In:=by decide)(h2:op ≠ .NotIn:=by decide):behindInMarks op b=false:=by
 have e1:(op == CmpOp.In)=false:=by cases op<;>first | rfl | exact absurd rfl h
 have e2:(op == CmpOp.NotIn)=false:=by cases op<;>first | rfl | exact absurd rfl h2
 cases b<;>simp [behindInMarks,e1,e2]
theorem pe_cmpR{op:CmpOp}{r:R2}(ho:OpR X (compareOp op) r)(ha:PE X a ta)(hb:PE X b tb)(hm:behindInMarks op b=false):PE X (.Compare a [op] [b] pos) (tOp r ta tb):=by
 intro pins s σ H Q I h
 exact wpAny_Compare1 (binT ha hb I h fun v u s2 x y H2 I2 rx ry q=>ho pins s2 σ H2 x y v u Q I2 rx ry q) hm
def tTest(t:TE):TT:=fun σ H Q=>t σ H fun x H'=>∃ k,x = .bl k/\Q k H'
theorem y_d{op:CmpOp}{r:R2}(ho:OpR X (compareOp op) r)(ha:PE X a ta)(hb:PE X b tb)(hm:behindInMarks op b=false):PT X (.Compare a [op] [b] pos) (tTest (tOp r ta tb)):=by
 intro pins s σ H Q I h
 refine wpAny_isTrue_Compare1 (thn (ha pins s σ H _ I h) fun v s1 ⟨x,H1,I1,r1,q1⟩=>thn (hb pins s1 σ H1 _ I1 q1) fun u s2 ⟨y,H2,I2,r2,q2⟩ =>
  thn (ho pins s2 σ H2 x y v u _ I2 r1 r2 q2) fun c s3 ⟨z,H3,I3,r3,k,e,q3⟩=>?_) hm
 subst e
 cases r3
 exact wpAny_truthy_bool ⟨H3,I3,q3⟩
def tChain(r r':R2)(ta tb tc:TE):TE:=fun σ H Q=>ta σ H fun x H1=>tb σ H1 fun y H2=>r x y H2 fun z H3=>∃ k,z = .bl k /\
 (if k=true then tc σ H3 fun w' H4=>r' y w' H4 Q else Q (.bl false) H3)
theorem pe_chain{op op':CmpOp}{r r':R2}(ho:OpR X (compareOp op) r)(ho':OpR X (compareOp op') r')(ha:PE X a ta)(hb:PE X b tb)(hc:PE X c tc)
  (hm:lastMarks [op,op'] [b,c]=false:=by with_unfolding_all rfl):PE X (.Compare a [op,op'] [b,c] pos) (tChain r r' ta tb tc):=by
 intro pins s σ H Q I h
 refine Compare_chain (thn (ha pins s σ H _ I h) fun v s1 ⟨x,H1,I1,r1,q1⟩=>chain_link (thn (hb pins s1 σ H1 _ I1 q1) fun u s2 ⟨y,H2,I2,r2,q2⟩ =>
  thn (ho pins s2 σ H2 x y v u _ I2 r1 r2 q2) fun d s3 ⟨z,H3,I3,r3,k,e,q3⟩=>?_)) hm
 subst e
 cases r3
 refine wpAny_truthy_bool ?_
 cases k with
 | false=>exact ite_ff ⟨.bl false,H3,I3,rfl,q3⟩
 | true=>exact ite_tt (chain_last (thn (hc pins s3 σ H3 _ I3 q3) fun w' s4 ⟨z',H4,I4,r4,q4⟩=>ho' pins s4 σ H4 y z' u w' Q I4 r2 r4 q4))
def TruV(K:PySem.W.Frag)(x:V)(H:Hp)(k:Bool):Prop :=
 match x with
 | .non=>k=false
 | .bl b=>k=b
 | .int i=>k=(i != 0)
 | .str y=>y.length<=sizeLine/\k=((y.length:Int) != 0)
 | .byt y=>y.size<=sizeLine/\k=((y.size:Int) != 0)
 | .ref p=>(∃ xs,SqL K H p xs/\k = !xs.isEmpty)\/(∃ xs,SqT K H p xs/\k = !xs.isEmpty)\/∃ kvs,H p=some (.dK kvs)/\k = !kvs.isEmpty
 | _=>False
theorem isEmpty_kv{κ:Type}{kvs:List (κ×V)}{vs:List (κ×Value)}(r:KV kvs vs):(!vs.isEmpty) = !kvs.isEmpty:=by
 cases r<;>rfl
theorem isEmpty_of{xs:List V}{its:List Value}(r:Vals xs its):(!its.toArray.isEmpty) = !xs.isEmpty:=by
 cases r<;>simp
theorem line63:(sizeLine:Nat)<2^63:=by rw [sizeLine_eq];decide
theorem tru_ok:TruR X (fun x H Q=>∃ k,TruV X.K x H k/\Q k H):=by
 intro pins s σ H x v Q I rx h
 obtain ⟨k,e,q⟩:=h
 have hl:=line63
 have hs:sizeLine=16777216:=sizeLine_eq
 cases x with
 | non =>
  cases rx
  have e':k=false:=e
  subst e'
  exact truthy_none ⟨H,I,q⟩
 | bl b =>
  cases rx
  have e':k=b:=e
  subst e'
  exact wpAny_truthy_bool ⟨H,I,q⟩
 | int i =>
  obtain ⟨t,rfl⟩:=rx
  have e':k=(i != 0):=e
  subst e'
  exact PySem.P.truthy_int ⟨H,I,q⟩
 | str y =>
  obtain ⟨t,rfl⟩:=rx
  obtain ⟨hy,e'⟩:y.length<=sizeLine/\k=((y.length:Int) != 0):=e
  subst e'
  exact PySem.P.truthy_str (by lia) ⟨H,I.tok _,q⟩
 | byt y =>
  obtain ⟨t,rfl⟩:=rx
  obtain ⟨hy,e'⟩:y.size<=sizeLine/\k=((y.size:Int) != 0):=e
  subst e'
  exact PySem.W.truthy_bytes (by lia) ⟨H,I.tok _,q⟩
 | ref p =>
  cases rx
  have e':(∃ xs,SqL X.K H p xs/\k = !xs.isEmpty)\/(∃ xs,SqT X.K H p xs/\k = !xs.isEmpty)\/∃ kvs,H p=some (.dK kvs)/\k = !kvs.isEmpty:=e
  rcases e' with ⟨xs,hx,e'⟩ | ⟨xs,hx,e'⟩ | ⟨kvs,hx,e'⟩
  ·subst e'
   obtain ⟨its,r,pl,hz⟩:=I.list hx
   have hlen:=r.length
   exact wpAny_truthy_list pl.isList (by simp only [List.size_toArray];lia) ⟨H,I.tok _,by rw [isEmpty_of r];exact q⟩
  ·subst e'
   obtain ⟨its,r,pl,hz⟩:=I.tuple hx
   have hlen:=r.length
   exact truthy_tuple pl (by simp only [List.size_toArray];lia) ⟨H,I.tok _,by rw [isEmpty_of r];exact q⟩
  ·subst e'
   obtain ⟨hz,hS,vs,r,m⟩:kvs.length<=sizeLine/\(p == sysModules)=false/\∃ vs,KV kvs vs/\s.heap.DictOf (mixKind X.prog X.w) p vs:=I.hok p _ hx
   have hlen:kvs.length=vs.length:=Paired.length r
   exact wpAny_truthy_dict hS m (by lia) ⟨H,I.tok _,by rw [isEmpty_kv r];exact q⟩
 | _=>exact (show False from e).elim
theorem pt_truth(ha:PE X a ta)(he:∀ whole,isTrue a X.env whole=(do let v <-whole;standAt a.pos;holding [v] (truthy v))) :
  PT X a (fun σ H Q=>ta σ H fun x H'=>∃ k,TruV X.K x H' k/\Q k H'):=by
 intro pins s σ H Q I h
 exact isTrue_plain (thn (ha pins s σ H _ I h) fun v s1 ⟨x,H1,I1,r1,q1⟩=>tru_ok pins s1 σ H1 x v Q I1 r1 q1) (he _)
theorem vals1{x:V}{us:List Value}(r:Vals [x] us):∃ u,us=[u]/\RelV x u:=by
 cases r with
 | cons r1 r2=>cases r2;exact ⟨_,rfl,r1⟩
theorem vals2{x y:V}{us:List Value}(r:Vals [x,y] us):∃ u w',us=[u,w']/\RelV x u/\RelV y w':=by
 cases r with
 | cons r1 r2 =>
  cases r2 with
  | cons r3 r4=>cases r4;exact ⟨_,_,rfl,r1,r3⟩
theorem call_int1:CallR X (.type "int") (fun xs H Q=>(∃ i,xs=[.int i]/\Q (.int i) H)\/∃ k,xs=[.bl k]/\Q (.int (if k then 1 else 0)) H):=by
 intro pins s σ H xs us Q I r h
 rcases h with ⟨i,rfl,q⟩ | ⟨k,rfl,q⟩
 ·obtain ⟨u,rfl,t,rfl⟩:=vals1 r
  exact call_int_int ⟨.int i,H,I,⟨_,rfl⟩,q⟩
 ·obtain ⟨u,rfl,r1⟩:=vals1 r
  cases r1
  exact call_int_bool ⟨.int (if k then 1 else 0),H,I.tok _,⟨_,rfl⟩,q⟩
def LenV(K:PySem.W.Frag)(x:V)(H:Hp)(n:Nat):Prop :=
 match x with
 | .str y=>y.length<=sizeLine/\n=y.length
 | .byt y=>y.size<=sizeLine/\n=y.size
 | .ref p=>(∃ xs,SqL K H p xs/\n=xs.length)\/∃ xs,SqT K H p xs/\n=xs.length
 | _=>False
theorem call_len:CallR X (.builtin "len") (fun xs H Q=>∃ x n,xs=[x]/\LenV X.K x H n/\Q (.int n) H):=by
 intro pins s σ H xs us Q I r h
 obtain ⟨x,n,rfl,e,q⟩:=h
 obtain ⟨u,rfl,rx⟩:=vals1 r
 have hl:=line63
 have hs:sizeLine=16777216:=sizeLine_eq
 cases x with
 | str y =>
  obtain ⟨t,rfl⟩:=rx
  obtain ⟨hy,e'⟩:y.length<=sizeLine/\n=y.length:=e
  subst e'
  exact len_str (by lia) ⟨.int _,H,I.tok _,⟨_,rfl⟩,q⟩
 | byt y =>
  obtain ⟨t,rfl⟩:=rx
  obtain ⟨hy,e'⟩:y.size<=sizeLine/\n=y.size:=e
  subst e'
  exact PySem.W.len_bytes (by lia) ⟨.int _,H,I.tok _,⟨_,rfl⟩,q⟩
 | ref p =>
  cases rx
  have e':(∃ xs,SqL X.K H p xs/\n=xs.length)\/∃ xs,SqT X.K H p xs/\n=xs.length:=e
  rcases e' with ⟨xs,hx,e'⟩ | ⟨xs,hx,e'⟩
  ·subst e'
   obtain ⟨its,r',pl,hz⟩:=I.list hx
   have hlen:=r'.length
   exact Calls.call_len_list pl.isList (by simp only [List.size_toArray];lia) ⟨.int xs.length,H,I.tok _,⟨_,by simp only [List.size_toArray];rw [hlen]⟩,q⟩
  ·subst e'
   obtain ⟨its,r',pl,hz⟩:=I.tuple hx
   have hlen:=r'.length
   exact len_tuple pl (by simp only [List.size_toArray];lia) ⟨.int xs.length,H,I.tok _,⟨_,by simp only [List.size_toArray];rw [hlen]⟩,q⟩
 | _=>exact (show False from e).elim
end
open PySem PySem.Spec PyProof.Rows
structure ObjM(h:Heap)(x dx C:Addr)(mA:Str->Option Value):Prop where
 obj:h.get? x=some (PySem.W.instObj C dx)
 ns:h.Ns1 dx mA
 ne:dx≠x
theorem lookIn_ns{h:Heap}{dx:Addr}{mA:Str->Option Value}(n:h.Ns1 dx mA):∃ od,h.get? dx=some od/\∀ name,PySem.W.lookIn name od=some (mA name):=by
 obtain ⟨o,es,ep,ho,hd,hk,_,hm⟩:=n
 refine ⟨o,ho,fun name=>?_⟩
 have e:=hm name
 unfold nsFind findBy at e
 rw [<-Array.find?_toList] at e
 unfold PySem.W.lookIn
 rw [hd]
 dsimp only
 split
 ·rename_i y q
  rw [q] at e
  exact congrArg some e
 ·rename_i q
  rw [q] at e
  have a:es.toList.any (·.refKey)=false:=by
   rw [List.any_eq_false]
   intro y hy
   obtain ⟨z,t,hkey⟩:=hk y (Array.mem_toList_iff.mp hy)
   simp [DictEntry.refKey,hkey]
  have a':¬es.toList.any (·.refKey)=true:=by rw [a];exact Bool.false_ne_true
  rw [if_neg a']
  exact congrArg some e
theorem ObjM.look{h:Heap}{x dx C:Addr}{mA:Str->Option Value}(I:ObjM h x dx C mA):∃ od,PySem.W.InstAt h x (PySem.W.instObj C dx) C (some od)/\∀ name,PySem.W.lookIn name od=some (mA name) :=
 let ⟨od,ho,hl⟩:=lookIn_ns I.ns
 ⟨od,⟨I.obj,rfl,rfl,ho⟩,hl⟩
theorem RelO.some_of{v:V}{o:Option Value}(r:RelO (some v) o):∃ u,o=some u/\RelV v u:=by
 cases o with
 | none=>exact (show False from r).elim
 | some u=>exact ⟨u,rfl,r⟩
section
variable {P:Program} {w:World} {H H':Hp} {h h':Heap} {a C dx:Addr} {fs fs':List (Str×V)}
theorem ins_get(hok:HOk P w H h)(e:H a=some (.ins C dx fs)):∃ mA,ObjM h a dx C mA/\(∀ f,RelO (fs.lookup f) (mA f))/\PySem.Within mA (fs.map (·.1))/\fs.length<=1000/\H dx=some (.own a):=by
 obtain ⟨d,z,ne,ob,mA,n,r,q⟩:=(show ObjOk P w H h a (.ins C dx fs) from hok a _ e)
 exact ⟨mA,⟨ob,n,ne⟩,r,q,z,d⟩
end
structure Cls(K:PySem.W.Frag)(C:Addr):Prop where
 pg:PySem.W.plainGet K C Str.empty=true
 hd:PySem.W.hasDictIn K C=true
 po:PySem.W.plainOver K C=true
 sa:PySem.W.findIn K (.ref C) "__setattr__" = some (some (.builtin "object.__setattr__"))
theorem Cls.get{K:PySem.W.Frag}{C:Addr}(c:Cls K C)(f:Str):PySem.W.plainGet K C f=true:=c.pg
section
variable {X:Cx} {pins:List (Addr×Obj)} {σ:St} {H:Hp} {s:Shared} {A:Around} {E:Value->Shared->Prop} {Q:Value->Shared->Prop} {c:Value} {b:Bool}
inductive TyOf (K:PySem.W.Frag) (H:Hp):V->Value->Prop where
 | non:TyOf K H .non (.type "NoneType")
 | bl (x:Bool):TyOf K H (.bl x) (.type "bool")
 | int (i:Int):TyOf K H (.int i) (.type "int")
 | str (x:Str):TyOf K H (.str x) (.type "str")
 | flt (x:UInt64):TyOf K H (.flt x) (.type "float")
 | lst {a:Addr} {xs:List V} (e:H a=some (.lst xs)):TyOf K H (.ref a) (.type "list")
 | frz {a:Addr} {o:Obj} {xs:List V} (e:H a=some (.frz o (.lst xs))):TyOf K H (.ref a) (.type "list")
 | tup {a:Addr} {xs:List V} (e:H a=some (.tup xs)):TyOf K H (.ref a) (.type "tuple")
 | dK {a:Addr} {kvs:List (Key×V)} (e:H a=some (.dK kvs)):TyOf K H (.ref a) (.type "dict")
 | dT {a:Addr} {kvs:List (List Key×V)} (e:H a=some (.dT kvs)):TyOf K H (.ref a) (.type "dict")
 | ins {a C dx:Addr} {fs:List (Str×V)} (e:H a=some (.ins C dx fs)) (cl:Cls K C) (ha:PySem.W.findIn K (.ref C) "__class__" = some (some (.builtin "object.__class__")))
   (hn:PySem.W.specialIn K (.builtin "object.__class__") "__get__" = some (some (.builtin "getset_descriptor.__get__"))) (htk:PySem.W.takesIn K (.builtin "object.__class__")=some true)
   (hm:PySem.W.mroIn K C (.type "object")=some true):TyOf K H (.ref a) (.ref C)
theorem isinst_ok{x:V}{u t:Value}(I:Inv X pins σ H s)(rx:RelV x u)(ty:TyOf X.K H x t)(e:PySem.W.kitOne X.K t c=some b)(h:∀ tk,Q (.bool b) { s with toks:=tk }) :
  wpAny (model X.prog X.w) A (call (.builtin "isinstance") [u,c]) Q E s:=by
 cases ty with
 | non=>cases (show u=Value.none from rx);exact PySem.W.kia_one PySem.W.kitx_none I.kIn True.intro e (fun z=>nomatch z) h
 | bl y=>cases (show u=Value.bool y from rx);exact PySem.W.kia_one PySem.W.kitx_bool I.kIn True.intro e (fun z=>nomatch z) h
 | int i=>obtain ⟨t,q⟩:=(show ∃ t,u=Value.int i t from rx);cases q;exact PySem.W.kia_one PySem.W.kitx_int I.kIn True.intro e (fun z=>nomatch z) h
 | str y=>obtain ⟨t,q⟩:=(show ∃ t,u=Value.str y t from rx);cases q;exact PySem.W.kia_one PySem.W.kitx_str I.kIn True.intro e (fun z=>nomatch z) h
 | flt y=>obtain ⟨t,q⟩:=(show ∃ t,u=Value.float y t from rx);cases q;exact PySem.W.kia_one PySem.W.kitx_float I.kIn True.intro e (fun z=>nomatch z) h
 | @lst a xs ea =>
  cases (show u=Value.ref a from rx)
  obtain ⟨_,_,n,_,h1⟩:=(show ObjOk X.prog X.w H s.heap a (.lst xs) from I.hok a _ ea)
  exact PySem.W.kia_one PySem.W.kitx_list I.kIn ⟨_,h1,rfl⟩ e (fun z=>nomatch z) h
 | @frz a ob xs ea =>
  cases (show u=Value.ref a from rx)
  obtain ⟨_,_,_,n,_,h1⟩:=(show ObjOk X.prog X.w H s.heap a (.frz ob (.lst xs)) from I.hok a _ ea)
  exact PySem.W.kia_one PySem.W.kitx_list I.kIn ⟨_,h1,rfl⟩ e (fun z=>nomatch z) h
 | @tup a xs ea =>
  cases (show u=Value.ref a from rx)
  obtain ⟨_,_,_,p⟩:=(show ObjOk X.prog X.w H s.heap a (.tup xs) from I.hok a _ ea)
  obtain ⟨o,h1,h2,_⟩:=p
  exact PySem.W.kia_one PySem.W.kitx_tuple I.kIn ⟨o,h1,h2⟩ e (fun z=>nomatch z) h
 | @dK a kvs ea =>
  cases (show u=Value.ref a from rx)
  obtain ⟨_,_,vs,_,p⟩:=(show ObjOk X.prog X.w H s.heap a (.dK kvs) from I.hok a _ ea)
  obtain ⟨o,es,ep,h1,h2,_⟩:=p
  exact PySem.W.kia_one PySem.W.kitx_dict I.kIn ⟨o,h1,h2.1⟩ e (fun z=>nomatch z) h
 | @dT a kvs ea =>
  cases (show u=Value.ref a from rx)
  obtain ⟨_,_,xs,_,o,es,ep,h1,h2,_⟩:=(show ObjOk X.prog X.w H s.heap a (.dT kvs) from I.hok a _ ea)
  exact PySem.W.kia_one PySem.W.kitx_dict I.kIn ⟨o,h1,h2.1⟩ e (fun z=>nomatch z) h
 | @ins a C dx fs ea cl ha hn htk hm =>
  cases (show u=Value.ref a from rx)
  obtain ⟨mA,O,_⟩:=ins_get I.hok ea
  obtain ⟨od,J,_⟩:=O.look
  exact PySem.W.kia_one (PySem.W.kitx_own (cl.get _) cl.hd ha hn htk hm) I.kIn J e (fun z=>nomatch z) h
end
open PySem PySem.Spec PyProof.Rows
structure Room(k:Nat)(A:Around):Prop where
 hd:A.handled=none
 dp:A.depth+3*k+5<recursionLimit
 un:A.units+16*k+200<cLine
theorem Room.mono{j k:Nat}{A:Around}(r:Room k A)(h:j<=k):Room j A:=⟨r.hd,by have:=r.dp;lia,by have:=r.un;lia⟩
theorem Room.deeper{k:Nat}{A:Around}(r:Room (k+1) A)(env:Env):Room k (A.deeper env) :=
 ⟨r.hd,by have:=r.dp;show A.depth+1+3*k+5<_;lia,by have:=r.un;show A.units+3+16*k+200<_;lia⟩
theorem Room.depth{k:Nat}{A:Around}(r:Room k A):A.depth<recursionLimit:=by have:=r.dp;lia
theorem Room.units{k:Nat}{A:Around}(r:Room k A):A.units+64<cLine:=by have:=r.un;lia
def tNil:TA:=fun _ H Q=>Q [] H
def tCons(ta:TE)(tr:TA):TA:=fun σ H Q=>ta σ H fun x H1=>tr σ H1 fun xs H2=>Q (x::xs) H2
section
variable {X:Cx} {e:Expr} {es:List Expr} {te:TE} {t:TA} {pos:Pos}
theorem z_c:PA X [] tNil:=fun _ _ _ _ H Q I h=>Calls.spliced_nil ⟨[],H,I,.nil,h⟩
theorem z_a(ha:PE X e te)(hr:PA X es t)(hs:starEach (e::es) X.env=(false,eval e X.env)::starEach es X.env:=by rfl):PA X (e::es) (tCons te t):=by
 intro pos pins s σ H Q I h
 rw [hs]
 show wpAny _ _ (spliced ((false,eval e X.env)::backTo pos (starEach es X.env))) _ _ s
 refine Calls.spliced_cons (thn (ha pins s σ H _ I h) fun u s1 ⟨x,H1,I1,r1,q1⟩=>?_)
 exact thn (hr pos pins s1 σ H1 _ I1 q1) fun us s2 ⟨xs,H2,I2,r2,q2⟩=>⟨x::xs,H2,I2,.cons r1 r2,q2⟩
def tTup(t:TA):TE:=fun σ H Q=>t σ H fun xs H1=>xs.length<=sizeLine/\∀ p,H1 p=none->Q (.ref p) (upd H1 p (.tup xs))
def tLst(t:TA):TE:=fun σ H Q=>t σ H fun xs H1=>xs.length<=sizeLine/\∀ p,H1 p=none->Q (.ref p) (upd H1 p (.lst xs))
theorem y_m{x1}(h:PA X es t):PE X (.Tuple es x1 pos) (tTup t):=by
 intro pins s σ H Q I hq
 refine wpAny_Tuple_spliced (thn (h pos pins s σ H _ I hq) fun us s1 ⟨xs,H1,I1,r,z,q⟩=>⟨by rw [<-r.length];exact z,?_⟩)
 have hf:H1 s1.heap.objs.size=none:=I1.hok.fresh (Nat.le_refl _)
 refine ⟨.ref s1.heap.objs.size,upd H1 s1.heap.objs.size (.tup xs),I1.laid (t':=s1.toks) (fun b u e=>Heap.get?_push_of_some _ e) (Nat.le_refl _) ?_,rfl,q _ hf⟩
 exact ⟨z,us,r,⟨_,Heap.get?_push_size _ rfl,rfl,_,rfl⟩⟩
theorem x_c(h:PA X es t):PE X (.List es pos) (tLst t):=by
 intro pins s σ H Q I hq
 refine wpAny_List_spliced (thn (h pos pins s σ H _ I hq) fun us s1 ⟨xs,H1,I1,r,z,q⟩=>⟨by rw [<-r.length];exact z,?_⟩)
 have hf:H1 s1.heap.objs.size=none:=I1.hok.fresh (Nat.le_refl _)
 refine ⟨.ref s1.heap.objs.size,upd H1 s1.heap.objs.size (.lst xs),I1.laid (t':=s1.toks) (fun b u e=>Heap.get?_push_of_some _ e) (Nat.le_refl _) ?_,rfl,q _ hf⟩
 exact ⟨z,us,0,r,Heap.get?_push_size _ rfl⟩
end
abbrev Sp:=List V->Hp->VK->XK->Prop
abbrev CXT:=List Env->Hp->Shared->XK->Value->Shared->Prop
structure Env0(P:Program)(w:World)(K:PySem.W.Frag)(mg:Str->Option Value)(base:Heap)(A:Around)(outer:List Env)(s:Shared)(H:Hp):Prop where
 frames:A.frames=some outer
 gd:A.guards=some []
 mod:Mod K mg base
 bs:∀ b o,base.get? b=some o->s.heap.get? b=some o/\H b=none
 bsz:base.objs.size<=s.heap.objs.size
 funs:s.heap.FunFrames base outer
 frf:∀ b∈frs outer,H b=none
 hok:HOk P w H s.heap
 bare:AllBare s.gens
def CE(outer:List Env)(P:Program)(w:World)(H:Hp)(s:Shared)(Q:VK)(u:Value)(s':Shared):Prop :=
 ∃ v H',s'.os=s.os/\AllBare s'.gens/\Un (frs outer) [] H H' s.heap s'.heap/\HOk P w H' s'.heap/\RelV v u/\Q v H'
def CR(CX:CXT)(outer:List Env)(P:Program)(w:World)(H:Hp)(s:Shared)(Q:VK)(E:XK)(r:Result)(s':Shared):Prop :=
 match r with
 | .ok (.ret u)=>CE outer P w H s Q u s'
 | .ok _=>False
 | .error e=>CX outer H s E e s'
structure FnOk(P:Program)(w:World)(K:PySem.W.Frag)(mg:Str->Option Value)(base:Heap)(CX:CXT)(k:Nat)(f:Addr)(fd:FuncData)(ps:List Str)(sp:Sp):Prop where
 len:∀ vs H Q E,sp vs H Q E->vs.length=ps.length
 run:∀ (A:Around) (outer:List Env) (s:Shared) (H:Hp) (args:Args) (us:List Value) (vs:List V) (Q:VK) (E:XK),Room k A->Env0 P w K mg base A outer s H->BindsTo s fd args (ps.zip us)->Vals vs us->sp vs H Q E ->
  codeAny (model P w) A (.call (.ref f) args) (CR CX outer P w H s Q E) s
section
variable {X:Cx} {pins:List (Addr×Obj)} {σ:St} {H:Hp} {s s':Shared}
theorem Inv.env0(I:Inv X pins σ H s):Env0 X.prog X.w X.K X.mg X.base X.A X.stack s H :=
 ⟨I.ok.frames,I.ok.gd,I.ok.mod,I.bs,Nat.le_trans I.ok.bsz I.sz,I.stack,I.stkFree,I.hok,I.bare⟩
theorem Inv.after{Q:VK}{u:Value}(I:Inv X pins σ H s)(h:CE X.stack X.prog X.w H s Q u s'):EP X pins σ Q u s':=by
 obtain ⟨v,H',os,bare,un,hok,r,q⟩:=h
 obtain ⟨hh,g,d,t,os'⟩:=s'
 obtain rfl:os'=s.os:=os
 exact ⟨v,H',I.call (h':=hh) (g':=g) (d':=d) (t':=t) (ch:=[]) un hok bare (fun b z=>absurd z (by simp)),r,q⟩
end
def tCall(sp:Sp)(dvs:List V)(E:XK)(t:TA):TE:=fun σ H Q=>t σ H fun vs H1=>sp (vs++dvs) H1 Q E
def Binds(K:PySem.W.Frag)(fd:FuncData)(ps:List Str)(ds:List Value):Prop :=
 ∀ (s:Shared) (us:List Value),K.In s.heap->(us++ds).length=ps.length->BindsTo s fd ⟨us,[]⟩ (ps.zip (us++ds))
theorem Binds.all{K:PySem.W.Frag}{fd:FuncData}{ps:List Str}(h:∀ us:List Value,us.length=ps.length->bindArgs fd ⟨us,[]⟩=pure (ps.zip us)):Binds K fd ps []:=fun s us _ hl=>by
 rw [List.append_nil] at hl ⊢
 exact .of_eq (h us hl)
def Passes(CX:CXT)(X:Cx)(E:XK):Prop:=∀ (pins:List (Addr×Obj)) (σ:St) (H:Hp) (s:Shared) (e:Value) (s':Shared),Inv X pins σ H s->CX X.stack H s E e s'->X.xe e s'
section
variable {X:Cx} {CX:CXT} {k:Nat} {f C:Addr} {fd:FuncData} {ps:List Str} {sp:Sp} {dvs:List V} {ds:List Value} {E:XK} {x m:Str} {p pos apos:Pos} {e o:Expr} {es:List Expr} {ta:TE} {t:TA}
theorem run_fn{pins:List (Addr×Obj)}{σ:St}{H:Hp}{s:Shared}{Q:VK}{us:List Value}{vs:List V}(F:FnOk X.prog X.w X.K X.mg X.base CX k f fd ps sp)(hr:Room k X.A)(hb:Binds X.K fd ps ds)(hd:Vals dvs ds)(hx:Passes CX X E)
  (I:Inv X pins σ H s) (r:Vals vs us) (h:sp (vs++dvs) H Q E):wpAny (model X.prog X.w) X.A (call (.ref f) us) (EP X pins σ Q) X.xe s:=by
 have r2:Vals (vs++dvs) (us++ds):=r.append hd
 have hl:(us++ds).length=ps.length:=by rw [<-r2.length];exact F.len _ _ _ _ h
 refine wpAny_call (codeAny_mono (F.run X.A X.stack s H ⟨us,[]⟩ (us++ds) (vs++dvs) Q E hr I.env0 (hb s us I.kIn hl) r2 h) fun r s' hq=>?_)
 cases r with
 | error e=>exact hx pins σ H s e s' I hq
 | ok fl =>
  cases fl with
  | ret u=>exact I.after hq
  | next=>exact False.elim hq
  | brk=>exact False.elim hq
  | cont=>exact False.elim hq
theorem z_k(F:FnOk X.prog X.w X.K X.mg X.base CX k f fd ps sp)(hr:Room k X.A)(hg:Gl X x)(hm:X.mg x=some (.ref f))(hk:PySem.W.keepIn X.K (.ref f)=true)(hb:Binds X.K fd ps ds)(hd:Vals dvs ds)(hx:Passes CX X E)
  (ha:PA X (e::es) t) (hdb:(x == ("__debug__" : Str))=false:=by decide) (he:starEach (e::es) X.env=(false,eval e X.env)::starEach es X.env:=by rfl) (hpl:(backTo pos (starEach es X.env)).any (·.1)=false:=by rfl) :
  PE X (.Call (.Name x p) (e::es) [] pos) (tCall sp dvs E t):=by
 intro pins s σ H Q I h
 refine wpAny_Call_Name_kw (ld_glob I hg hm ?_ hdb)
 refine PySem.W.callWith_K (h₀:=X.base) I.ok.mod.kin hk (thn (ha pos pins s σ H _ I h) fun us s1 ⟨vs,H1,I1,r,q⟩=>⟨I1.kIn,?_⟩) he hpl
 exact run_fn F hr hb hd hx I1 r q
end
structure FnScope(N P:List Str)(sc:Scope):Prop where
 kind:sc.kind = .function
 co:sc.isCoroutine=false
 gen:sc.isGenerator=false
 nd:N.Nodup
 pre:N.take P.length=P
 par:∀ x∈P,sc.names.lookup x=some .local\/sc.names.lookup x=some .cell
 nofree:∀ y∈sc.names,y.2 ≠ .free
theorem bindL_out{kindOf:Str->Option NameKind}{x:Str}:∀ {binds:List (Str×Value)} {m:Str->Option Value},(∀ v,(x,v)∉binds)->bindL kindOf binds m x=m x
 | [],_,_=>rfl
 | (n,v)::r,m,h=>by
  unfold bindL
  rw [bindL_out fun w hw=>h w (List.mem_cons_of_mem _ hw)]
  split
  ·have:x≠n:=by rintro rfl;exact h v List.mem_cons_self
   simp [this]
  ·rfl
theorem bindC_out{kindOf:Str->Option NameKind}{x:Str}:∀ {binds:List (Str×Value)} {m:Str->Option Value},(∀ v,(x,v)∉binds)->bindC kindOf binds m x=m x
 | [],_,_=>rfl
 | (n,v)::r,m,h=>by
  unfold bindC
  rw [bindC_out fun w hw=>h w (List.mem_cons_of_mem _ hw)]
  split
  ·rfl
  ·have:x≠n:=by rintro rfl;exact h v List.mem_cons_self
   simp [this]
theorem bindL_get{kindOf:Str->Option NameKind}{x:Str}{v:Value}:∀ {P:List Str} {vs:List Value} {i:Nat} {m:Str->Option Value},P.Nodup->P[i]? = some x->vs[i]? = some v->kindOf x=some .local ->
  bindL kindOf (P.zip vs) m x=some v
 | [],_,_,_,_,h,_,_=>by simp at h
 | _::_,[],_,_,_,_,h,_=>by simp at h
 | p::P,w::vs,0,m,nd,h1,h2,hk=>by
  simp at h1 h2;subst h1;subst h2
  show bindL kindOf ((p,w)::P.zip vs) m p=_
  unfold bindL
  rw [bindL_out fun v hv=>(List.nodup_cons.mp nd).1 (List.of_mem_zip hv).1,if_pos hk]
  simp
 | p::P,w::vs,i+1,m,nd,h1,h2,hk=>by
  show bindL kindOf ((p,w)::P.zip vs) m x=_
  unfold bindL
  exact bindL_get (i:=i) (List.nodup_cons.mp nd).2 (by simpa using h1) (by simpa using h2) hk
theorem bindC_get{kindOf:Str->Option NameKind}{x:Str}{v:Value}:∀ {P:List Str} {vs:List Value} {i:Nat} {m:Str->Option Value},P.Nodup->P[i]? = some x->vs[i]? = some v->kindOf x≠some .local ->
  bindC kindOf (P.zip vs) m x=some v
 | [],_,_,_,_,h,_,_=>by simp at h
 | _::_,[],_,_,_,_,h,_=>by simp at h
 | p::P,w::vs,0,m,nd,h1,h2,hk=>by
  simp at h1 h2;subst h1;subst h2
  show bindC kindOf ((p,w)::P.zip vs) m p=_
  unfold bindC
  rw [bindC_out fun v hv=>(List.nodup_cons.mp nd).1 (List.of_mem_zip hv).1,if_neg hk]
  simp
 | p::P,w::vs,i+1,m,nd,h1,h2,hk=>by
  show bindC kindOf ((p,w)::P.zip vs) m x=_
  unfold bindC
  exact bindC_get (i:=i) (List.nodup_cons.mp nd).2 (by simpa using h1) (by simpa using h2) hk
def start(N:List Str)(vs:List V):St:=vs.map some++List.replicate (N.length-vs.length) none
def cxOf(CX:CXT)(P:Program)(w:World)(K:PySem.W.Frag)(mg:Str->Option Value)(base:Heap)(N:List Str)(qual:Str)(scope:Scope)(f:Addr)(cd:Value)(A:Around)(outer:List Env)(s:Shared)(H:Hp)(E:XK):Cx where
 prog:=P
 w:=w
 K:=K
 mg:=mg
 base:=base
 A:=A.deeper (envOfC qual scope s.heap.objs.size f cd)
 N:=N
 s₀:=s
 H₀:=H
 env:=envOfC qual scope s.heap.objs.size f cd
 outer:=outer
 stack:=envOfC qual scope s.heap.objs.size f cd::outer
 ex:=[]
 calm:=true
 fn:=fun _=>true
 pn:=[]
 xe:=fun e s'=>wpAny (model P w) (A.deeper (envOfC qual scope s.heap.objs.size f cd)) (leaving (envOfC qual scope s.heap.objs.size f cd) e) (fun _ s''=>CX outer H s E e s'') (fun e' s''=>CX outer H s E e' s'') s'
theorem cell_has{sc:Scope}{n:Nat}{x:Str}(h:sc.names.lookup x=some .cell):∃ c,(cellsFrom n sc.names []).lookup x=some c:=by
 have q:=PySem.W.cellsFrom_some sc.names n [] (.inl h)
 exact Option.isSome_iff_exists.mp q
theorem inv_start{CX:CXT}{P:Program}{w:World}{K:PySem.W.Frag}{mg:Str->Option Value}{base:Heap}{N ps:List Str}{qual:Str}{scope:Scope}{f:Addr}{cd:Value}{A:Around}{outer:List Env}{s s1:Shared}{H:Hp}{E:XK}{us:List Value}{vs:List V}
  (S:FnScope N ps scope) (hd:A.handled=none) (e0:Env0 P w K mg base A outer s H) (hl:vs.length=ps.length) (r:Vals vs us)
  (x:InCallC s s.heap.objs.size (bindL (envOfC qual scope s.heap.objs.size f cd).kindOf (ps.zip us) fun _=>none) (cellsFrom (s.heap.objs.size+1) scope.names []) (bindC (envOfC qual scope s.heap.objs.size f cd).kindOf (ps.zip us) fun _=>none) s1) :
  Inv (cxOf CX P w K mg base N qual scope f cd A outer s H E) [] (start N vs) H s1:=by
 have hpl:ps.length<=N.length:=by have:=congrArg List.length S.pre;rw [List.length_take] at this;lia
 obtain ⟨h1,tk,rfl,hk⟩:=x.done
 have noA:∀ b:Addr,b∉(cxOf CX P w K mg base N qual scope f cd A outer s H E).ex:=fun b z=>absurd (show b∈([]:List Addr) from z) (by simp)
 refine ⟨⟨e0.mod,S.kind,rfl,rfl,Nat.le_refl _,fun y z c h1 h2=>?_,fun y hy=>?_,fun y c _ h=>?_,fun _=>hd,Around.frames_deeper e0.frames,e0.gd,.inr ⟨rfl,rfl⟩,fun b z=>absurd z (noA b),e0.bs,e0.bsz,fun b _ _=>noA b,fun b z=>absurd z (noA b),e0.funs,e0.frf⟩,
  rfl,e0.bare,Un.kept hk,⟨_,x.toInCall.ns,fun i y v h1 h2 h3=>?_⟩,fun y c h=>⟨_,x.cell y c h⟩,e0.hok.fresh (Nat.le_refl _),fun y c h=>?_,fun p hp=>absurd (show p∈([]:List (Addr×Obj)) from hp) (by simp),e0.hok.kept hk,?_⟩
 ·exact name_of_addr x.apart (PySem.mem_of_lookup h1) (PySem.mem_of_lookup h2)
 ·have hy:scope.names.lookup y=some .cell\/scope.names.lookup y=some .free:=hy
  rcases hy with hy | hy
  ·exact cell_has hy
  ·exact absurd rfl (S.nofree _ (PySem.mem_of_lookup hy))
 ·exact Nat.le_of_lt (x.above y c (PySem.mem_of_lookup h))
 ·have hi:i<vs.length:=by
   unfold start at h2
   by_cases hi:i<vs.length
   ·exact hi
   ·rw [List.getElem?_append_right (by simpa using hi)] at h2
    rw [List.getElem?_replicate] at h2
    split at h2<;>cases h2
  have ha:vs[i]? = some v:=by
   unfold start at h2
   rw [List.getElem?_append_left (by simpa using hi),List.getElem?_map] at h2
   cases e:vs[i]? with
   | none=>rw [e] at h2;cases h2
   | some a=>rw [e] at h2;cases h2;rfl
  obtain ⟨u,hu,rv⟩:=r.get ha
  have hp:ps[i]? = some y:=by
   rw [<-S.pre,List.getElem?_take_of_lt (by lia)];exact h1
  have ndP:ps.Nodup:=by rw [<-S.pre];exact S.nd.sublist (List.take_sublist _ _)
  refine ⟨u,rv,?_⟩
  rcases S.par y (List.mem_of_getElem? hp) with k | k
  ·exact .inl ⟨k,bindL_get ndP hp hu k⟩
  ·obtain ⟨c,e⟩:=cell_has (n:=s.heap.objs.size+1) k
   refine .inr ⟨.inl k,c,e,?_⟩
   have q:=x.cell y c e
   rw [bindC_get ndP hp hu (by show scope.names.lookup y≠_;rw [k];decide)] at q
   exact q
 ·exact e0.hok.fresh (Nat.le_of_lt (x.above y c (PySem.mem_of_lookup h)))
 ·unfold start
  show _=N.length
  rw [List.length_append,List.length_map,List.length_replicate]
  lia
theorem fn_of{CX:CXT}{P:Program}{w:World}{K:PySem.W.Frag}{mg:Str->Option Value}{base:Heap}{k:Nat}{f:Addr}{name qual:Str}{params:Arguments}{body:List Stmt}{scope:Scope}{dV kV doc pm cdv ct oc:Value}{an od:Option Addr}
  {osl:Array (Option Value)} {N ps:List Str} {sp:Sp} (lk:K.lookup f=some ⟨oc,od,.func (PySem.W.fnOf name qual params body scope dV kV doc pm an cdv ct),osl⟩) (hcd:PySem.W.codeIn K cdv qual=true) (S:FnScope N ps scope)
  (len:∀ vs H Q E,sp vs H Q E->vs.length=ps.length)
  (hbody:∀ (A:Around) (outer:List Env) (s:Shared) (H:Hp) (vs:List V) (Q:VK) (E:XK),Room k (A.deeper (envOfC qual scope s.heap.objs.size f cdv))->sp vs H Q E ->
   ∃ t,PSs (cxOf CX P w K mg base N qual scope f cdv A outer s H E) body t/\t { nx:=fun _ H'=>Q .non H',rt:=Q } (start N vs) H) :
  FnOk P w K mg base CX (k+1) f (PySem.W.fnOf name qual params body scope dV kV doc pm an cdv ct) ps sp:=by
 refine ⟨len,fun A outer s H args us vs Q E hr e0 hb r hsp=>?_⟩
 have hl:=len _ _ _ _ hsp
 have KX:K.In s.heap:=e0.mod.kin.keeps fun b o e=>(e0.bs b o e).1
 have lim:s.heap.NoLimit:=e0.mod.nolimit.keeps fun b o e=>(e0.bs b o e).1
 have hkind:∀ y∈ps.zip us,scope.names.lookup y.1=some .local\/(scope.names.lookup y.1=some .cell/\((cellsFrom (s.heap.objs.size+1) scope.names []).lookup y.1).isSome=true):=fun ⟨n,v⟩ hy=>by
  rcases S.par n (List.of_mem_zip hy).1 with q | q
  ·exact .inl q
  ·exact .inr ⟨q,PySem.W.cellsFrom_some _ _ _ (.inl q)⟩
 refine codeAny_call_function hr.depth (KX _ _ lk) rfl S.co S.gen rfl (PySem.W.codeRec_of KX hcd) (hb _ _ _ _ ?_)
 refine wpAny_newFunctionEnv_cells S.kind hkind fun env he s1 x=>?_
 subst he
 refine ⟨lim.keeps x.toInCall.keep,codeAny_func ?_⟩
 obtain ⟨t,ht,hq⟩:=hbody A outer s H vs Q E (hr.deeper _) hsp
 have I:Inv (cxOf CX P w K mg base N qual scope f cdv A outer s H E) [] (start N vs) H s1:=inv_start S hr.hd e0 hl r x
 refine wpAny_mono (ht [] s1 (start N vs) H _ I hq) (fun fl s' hs=>?_) fun e s' hs=>hs
 have fin:∀ {σ':St} {H':Hp} {v:V} {u:Value},Inv (cxOf CX P w K mg base N qual scope f cdv A outer s H E) [] σ' H' s'->RelV v u->Q v H'->CE outer P w H s Q u s' :=
  fun {σ' H' v u} J rv q=>⟨v,H',J.os,J.bare,J.base,J.hok,rv,q⟩
 cases fl with
 | ret u =>
  obtain ⟨v,σ',H',J,rv,q⟩:=hs
  exact fin J rv q
 | next =>
  obtain ⟨σ',H',J,q⟩:=hs
  exact fin (v:=V.non) (u:=Value.none) J rfl q
 | brk =>
  obtain ⟨_,_,_,q⟩:=hs
  exact False.elim q
 | cont =>
  obtain ⟨_,_,_,q⟩:=hs
  exact False.elim q
open PySem PySem.Spec PyProof.Rows
section
variable {X:Cx} {x:Str} {p pos:Pos} {e:Expr} {es:List Expr} {t:TA} {id T:String} {r:List V->Hp->VK->Prop}
def tCB(r:List V->Hp->VK->Prop)(t:TA):TE:=fun σ H Q=>t σ H fun vs H1=>r vs H1 Q
theorem z_q(hc:CallR X (.builtin id) r)(hg:Gl X x)(hm:X.mg x=none)(hv:bootBuiltins x=some (.builtin id))(ha:PA X (e::es) t)(hn:x ≠ "__name__" := by decide)(hdb:(x == ("__debug__" : Str))=false:=by decide)
  (he:starEach (e::es) X.env=(false,eval e X.env)::starEach es X.env:=by rfl) (hpl:(backTo pos (starEach es X.env)).any (·.1)=false:=by rfl):PE X (.Call (.Name x p) (e::es) [] pos) (tCB r t):=by
 intro pins s σ H Q I h
 refine wpAny_Call_Name_kw (ld_blt I hg hm hv ?_ hn hdb)
 exact PyProof.Rows.callWith_builtin1 (thn (ha pos pins s σ H _ I h) fun us s1 ⟨vs,H1,I1,r1,q1⟩=>hc pins s1 σ H1 vs us Q I1 r1 q1) he hpl
theorem pe_callTy(hc:CallR X (.type T) r)(hg:Gl X x)(hm:X.mg x=none)(hv:bootBuiltins x=some (.type T))(ha:PA X (e::es) t)(hn:x ≠ "__name__" := by decide)(hdb:(x == ("__debug__" : Str))=false:=by decide)
  (he:starEach (e::es) X.env=(false,eval e X.env)::starEach es X.env:=by rfl) (hpl:(backTo pos (starEach es X.env)).any (·.1)=false:=by rfl):PE X (.Call (.Name x p) (e::es) [] pos) (tCB r t):=by
 intro pins s σ H Q I h
 refine wpAny_Call_Name_kw (ld_blt I hg hm hv ?_ hn hdb)
 exact PyProof.Rows.callWith_type1 (thn (ha pos pins s σ H _ I h) fun us s1 ⟨vs,H1,I1,r1,q1⟩=>hc pins s1 σ H1 vs us Q I1 r1 q1) he hpl
end
end L2
namespace HT
open PySem PyProof.Rows
section
open PySem.SeqAt
open PySem.AutoSeq1 (wpAny_loadPart')
open PySem.MeetsSeq PySem.MeetsSeq2 PySem.MeetsSeq3
end
section
variable {prog:Program} {w:World} {A:Around} {E:Value->Shared->Prop} {s:Shared}
def sIx(n d:Nat):Option Int->Nat
 | none=>d
 | some v=>if v<0 then (v+(n:Int)).toNat else min v.toNat n
end
end HT
namespace L2
open PySem PySem.Spec PyProof.Rows
abbrev TO:=St->Hp->(Option Int->Hp->Prop)->Prop
def PO(X:Cx)(e:Option Expr)(t:TO):Prop :=
 ∀ (pins:List (Addr×Obj)) (s:Shared) (σ:St) (H:Hp) (Q:Option Int->Hp->Prop),Inv X pins σ H s->t σ H Q ->
  wpAny (model X.prog X.w) X.A (evalPart e X.env) (fun u s'=>∃ o H',Inv X pins σ H' s'/\IsPart u o/\Q o H') X.xe s
def tNoPart:TO:=fun _ H Q=>Q none H
def tPart(t:TE):TO:=fun σ H Q=>t σ H fun x H1=>∃ i,x = .int i/\Q (some i) H1
section
variable {X:Cx} {e:Expr} {te:TE} {lo hi:Option Expr} {tl th:TO} {pos p2:Pos}
theorem po_none:PO X none tNoPart:=by
 intro pins s σ H Q I h
 rw [evalPart_none]
 exact wpAny_pure ⟨none,H,I,.none,h⟩
theorem po_some(h:PE X e te):PO X (some e) (tPart te):=by
 intro pins s σ H Q I hw
 rw [evalPart_some]
 refine thn (h pins s σ H _ I hw) fun u s1 ⟨x,H1,I1,r1,q1⟩=>?_
 obtain ⟨i,rfl,q⟩:=q1
 obtain ⟨t,rfl⟩:=r1
 exact ⟨some i,H1,I1,.int i t,q⟩
def SlR(X:Cx)(r:V->Option Int->Option Int->Hp->VK->Prop):Prop :=
 ∀ (pins:List (Addr×Obj)) (s:Shared) (σ:St) (H:Hp) (x:V) (v vl vu:Value) (lo hi:Option Int) (sl:Addr) (Q:VK),Inv X pins σ H s->RelV x v->s.heap.IsSliceOf sl vl vu .none->IsPart vl lo->IsPart vu hi->r x lo hi H Q ->
  ∃ T id,typeLookup (.type T) "__getitem__" = pure (some (.builtin id))/\s.TypeIs v T/\wpAny (model X.prog X.w) X.A (getItem v (.ref sl)) (EP X pins σ Q) X.xe s
def tSl(r:V->Option Int->Option Int->Hp->VK->Prop)(te:TE)(tl th:TO):TE:=fun σ H Q=>te σ H fun x H1=>tl σ H1 fun l H2=>th σ H2 fun u H3=>r x l u H3 Q
theorem pe_slice{r:V->Option Int->Option Int->Hp->VK->Prop}(hr:SlR X r)(he:PE X e te)(hl:PO X lo tl)(hu:PO X hi th):PE X (.Subscript e (.Slice lo hi none p2) pos) (tSl r te tl th):=by
 intro pins s σ H Q I h
 refine Subscript_ (thn (he pins s σ H _ I h) fun v s1 ⟨x,H1,I1,r1,q1⟩=>?_)
 refine wpAny_Slice (thn (hl pins s1 σ H1 _ I1 q1) fun vl s2 ⟨l,H2,I2,pl,q2⟩=>thn (hu pins s2 σ H2 _ I2 q2) fun vu s3 ⟨u,H3,I3,pu,q3⟩=>?_)
 rw [evalPart_none]
 refine wpAny_pure ?_
 have I4:Inv X pins σ H3 { s3 with heap:=s3.heap.push { cls:=.type "slice",data:=.fields #[vl,vu,.none] } }:=I3.kept (t':=s3.toks) fun b ob q=>Heap.get?_push_of_some _ q
 obtain ⟨T,id,hT,ht,hg⟩:=hr pins { s3 with heap:=s3.heap.push { cls:=.type "slice",data:=.fields #[vl,vu,.none] } } σ H3 x v vl vu l u s3.heap.objs.size Q I4 r1 (Heap.IsSliceOf.new ..) pl pu q3
 show wpAny (model X.prog X.w) X.A (subscriptTail e (.Slice lo hi none p2) v (.ref s3.heap.objs.size)) (EP X pins σ Q) X.xe { s3 with heap:=s3.heap.push { cls:=.type "slice",data:=.fields #[vl,vu,.none] } }
 exact tail_any (ops:=[.ref s3.heap.objs.size,v]) ht hT hg (by with_unfolding_all rfl)
def cutV(xs:List V)(lo hi:Option Int):List V:=(xs.drop (HT.sIx xs.length 0 lo)).take (HT.sIx xs.length xs.length hi-HT.sIx xs.length 0 lo)
theorem cutV_length(xs:List V)(lo hi:Option Int):(cutV xs lo hi).length<=xs.length:=by
 unfold cutV
 rw [List.length_take,List.length_drop]
 lia
end
end L2
namespace L2
open PySem PySem.Spec PyProof.Rows
def ixN(n:Nat)(i:Int):Option Nat:=if 0<=i then (if i<n then some i.toNat else none) else if -(n:Int)<=i then some (i+n).toNat else none
def atI{α:Type}(xs:List α)(i:Int):Option α:=(ixN xs.length i).bind fun j=>xs[j]?
theorem ixN_seq{n:Nat}{i:Int}{j:Nat}(h:ixN n i=some j):seqIndex? i n=some j/\j<n /\ -(n:Int)<=i/\i<n:=by
 unfold ixN at h
 by_cases h0:0<=i
 ·rw [if_pos h0] at h
  by_cases h1:i<n
  ·rw [if_pos h1] at h
   have e:i.toNat=j:=Option.some.inj h
   exact ⟨by rw [seqIndex_of h0 h1,e],by lia,by lia,h1⟩
  ·rw [if_neg h1] at h;cases h
 ·rw [if_neg h0] at h
  by_cases h1 : -(n:Int)<=i
  ·rw [if_pos h1] at h
   have e:(i+n).toNat=j:=Option.some.inj h
   exact ⟨by rw [seqIndex_neg (by lia) h1,e],by lia,h1,by lia⟩
  ·rw [if_neg h1] at h;cases h
theorem atI_get{α:Type}{xs:List α}{i:Int}{v:α}(h:atI xs i=some v):∃ j,seqIndex? i xs.length=some j/\xs[j]? = some v/\j<xs.length /\ -(xs.length:Int)<=i/\i<xs.length:=by
 unfold atI at h
 cases e:ixN xs.length i with
 | none=>rw [e] at h;cases h
 | some j =>
  rw [e] at h
  obtain ⟨h1,h2,h3,h4⟩:=ixN_seq e
  exact ⟨j,h1,h,h2,h3,h4⟩
theorem atI_nat{α:Type}{xs:List α}{j:Nat}{v:α}(h:xs[j]? = some v):atI xs (j:Int)=some v:=by
 have hj:j<xs.length:=(List.getElem?_eq_some_iff.mp h).1
 have e:ixN xs.length (j:Int)=some j:=by
  unfold ixN
  rw [if_pos (by lia),if_pos (by lia)];simp
 unfold atI;rw [e];exact h
def PlainIx(b:Expr):Prop:=∀ o i,subscripted b false o i=operate [o,i] (getItem o i)
def IxR(X:Cx)(r:R2):Prop :=
 ∀ (value slice:Expr) (pins:List (Addr×Obj)) (s:Shared) (σ:St) (H:Hp) (x y:V) (v u:Value) (Q:VK),Inv X pins σ H s->RelV x v->RelV y u->r x y H Q ->
  subscripted slice false v u=operate [v,u] (getItem v u)->wpAny (model X.prog X.w) X.A (subscriptTail value slice v u) (EP X pins σ Q) X.xe s
def MtR(X:Cx)(id:String)(r:V->List V->Hp->VK->Prop):Prop :=
 ∀ (pins:List (Addr×Obj)) (s:Shared) (σ:St) (H:Hp) (x:V) (xs:List V) (v:Value) (us:List Value) (Q:VK),Inv X pins σ H s->RelV x v->Vals xs us->r x xs H Q ->
  wpAny (model X.prog X.w) X.A (call (.builtin id) (v::us)) (EP X pins σ Q) X.xe s
section
variable {X:Cx} {a b:Expr} {ta tb:TE} {pos:Pos}
theorem z_u{r:R2}(hr:IxR X r)(ha:PE X a ta)(hb:PE X b tb)(hs:PlainIx b):PE X (.Subscript a b pos) (tOp r ta tb):=by
 intro pins s σ H Q I h
 exact Subscript_ (binT ha hb I h fun v u s2 x y H2 I2 rx ry q=>hr a b pins s2 σ H2 x y v u Q I2 rx ry q (hs _ _))
def rIxL(K:PySem.W.Frag):R2:=fun x y H Q=>∃ p xs i v,x = .ref p/\y = .int i/\SqL K H p xs/\atI xs i=some v/\Q v H
def rIxT(K:PySem.W.Frag):R2:=fun x y H Q=>∃ p xs i v,x = .ref p/\y = .int i/\SqT K H p xs/\atI xs i=some v/\Q v H
theorem ix_list:IxR X (rIxL X.K):=by
 intro value slice pins s σ H x y v u Q I rx ry h hs
 obtain ⟨p,xs,i,z,rfl,rfl,hq,he,q⟩:=h
 cases rx
 obtain ⟨t,rfl⟩:=ry
 obtain ⟨its,r,pl,hz⟩:=I.list hq
 obtain ⟨j,h1,h2,h3,h4,h5⟩:=atI_get he
 obtain ⟨w,ew,rw'⟩:=r.get h2
 have hl:=r.length
 have hn:=line63
 have fin:EP X pins σ Q w s:=⟨z,H,I,rw',q⟩
 by_cases h0:0<=i
 ·have hj:i.toNat=j:=by
   rw [seqIndex_of h0 h5] at h1
   exact Option.some.inj h1
  exact item_listR pl.isList h0 (by lia) (by rw [hj];simpa using ew) fin hs
 ·have hj:(i+(its.toArray.size:Int)).toNat=j:=by
   rw [seqIndex_neg (by lia) h4] at h1
   rw [List.size_toArray,<-hl]
   exact Option.some.inj h1
  exact subscriptTail_builtinR (x:=w) pl.isList.typeIs slot_list_getitem.lookup
   (wpAny_getItem_list_neg (Q:=fun r s'=>r=w/\EP X pins σ Q r s') pl.isList (by lia) (by rw [List.size_toArray]<;>lia) (by lia) (by rw [hj];simpa using ew) ⟨rfl,fin⟩) hs
theorem ix_tup:IxR X (rIxT X.K):=by
 intro value slice pins s σ H x y v u Q I rx ry h hs
 obtain ⟨p,xs,i,z,rfl,rfl,hq,he,q⟩:=h
 cases rx
 obtain ⟨t,rfl⟩:=ry
 obtain ⟨its,r,pl,hz⟩:=I.tuple hq
 obtain ⟨j,h1,h2,h3,h4,h5⟩:=atI_get he
 obtain ⟨w,ew,rw'⟩:=r.get h2
 have hl:=r.length
 have hn:=line63
 have fin:EP X pins σ Q w s:=⟨z,H,I,rw',q⟩
 exact subscriptTail_builtinR (x:=w) pl.typeIs slot_tuple_getitem.lookup
  (getItem_tuple (j:=j) (Q:=fun r s'=>r=w/\EP X pins σ Q r s') pl (by lia) (by lia) (by rw [List.size_toArray,<-hl];exact h1) (by simpa using ew) ⟨rfl,fin⟩) hs
theorem mapSeq_set(its:List Value)(n j:Nat)(u:Value):Obj.mapSeq (·.setIfInBounds j u) { cls:=.type "list",data:=.seq its.toArray n }={ cls:=.type "list",data:=.seq (its.set j u).toArray n }:=by
 simp [Obj.mapSeq]
theorem Inv.lst{pins:List (Addr×Obj)}{σ:St}{H:Hp}{s:Shared}{p:Addr}{xs:List V}(I:Inv X pins σ H s)(h:H p=some (.lst xs)) :
  ∃ (its:List Value) (n:Nat),Vals xs its/\s.heap.get? p=some { cls:=.type "list",data:=.seq its.toArray n }/\xs.length<=sizeLine:=by
 obtain ⟨z,its,n,r,e⟩:=I.hok p _ h
 exact ⟨its,n,r,e,z⟩
theorem Inv.lstUpd{pins:List (Addr×Obj)}{σ:St}{H:Hp}{s:Shared}{p:Addr}{xs ys:List V}{its its':List Value}{n n':Nat}{f:Obj->Obj}(I:Inv X pins σ H s)(h:H p=some (.lst xs))
  (ho:s.heap.get? p=some { cls:=.type "list",data:=.seq its.toArray n }) (hf:f { cls:=.type "list",data:=.seq its.toArray n }={ cls:=.type "list",data:=.seq its'.toArray n' }) (r:Vals ys its') (hz:ys.length<=sizeLine) (t:Nat) :
  Inv X pins σ (upd H p (.lst ys)) { s with heap:=s.heap.update p f,toks:=t }:=by
 have e:(s.heap.update p f).get? p=some { cls:=.type "list",data:=.seq its'.toArray n' }:=by
  rw [Heap.get?_update_self f ho (by rw [hf]<;>rfl),hf]
 refine I.write (x:=p) (e:=p) (by rw [h];trivial) (.inl rfl) (fun b u hb q=>(Heap.get?_update_other _ _ (Ne.symm hb)).trans q) ⟨_,e⟩ ?_
 exact ⟨hz,its',n',r,e⟩
def rSetL:V->V->V->Hp->(Hp->Prop)->Prop:=fun o i v H Q=>∃ p xs k j,o = .ref p/\i = .int k/\H p=some (.lst xs)/\ixN xs.length k=some j/\Q (upd H p (.lst (xs.set j v)))
theorem set_list:PSet X rSetL:=by
 intro pins s σ H o i v ov iv u Q I ro ri rv h
 obtain ⟨p,xs,k,j,rfl,rfl,hp,hj,q⟩:=h
 cases ro
 obtain ⟨t,rfl⟩:=ri
 obtain ⟨its,n,r,ho,hz⟩:=I.lst hp
 obtain ⟨h1,h2,h3,h4⟩:=ixN_seq hj
 have hl:=r.length
 have hn:=line63
 have I':Inv X pins σ (upd H p (.lst (xs.set j v))) { s with heap:=s.heap.update p (Obj.mapSeq (·.setIfInBounds j u)) } :=
  I.lstUpd hp ho (mapSeq_set its n j u) (r.set rv j) (by rw [List.length_set];exact hz) s.toks
 by_cases h0:0<=k
 ·have hk:k.toNat=j:=by
   rw [seqIndex_of h0 h4] at h1
   exact Option.some.inj h1
  exact PySem.W.ki_setAt ho h0 (by lia) (by rw [List.size_toArray,<-hl];exact h4) (by rw [hk];exact ⟨_,I',q⟩)
 ·have hk:(k+(its.toArray.size:Int)).toNat=j:=by
   rw [seqIndex_neg (by lia) h3] at h1
   rw [List.size_toArray,<-hl]
   exact Option.some.inj h1
  exact PySem.W.ki_setBack ho (by lia) (by rw [List.size_toArray,<-hl];exact h3) (by lia) (by rw [hk];exact ⟨_,I',q⟩)
theorem slice_bounds(lo hi:Option Int)(n:Nat):(sliceBounds lo hi none n).1=((HT.sIx n 0 lo:Nat):Int)/\(sliceBounds lo hi none n).2.1=((HT.sIx n n hi:Nat):Int)/\(sliceBounds lo hi none n).2.2=1:=by
 refine ⟨?_,?_,rfl⟩
 ·cases lo with
  | none=>simp [sliceBounds,HT.sIx]
  | some i =>
   simp only [sliceBounds,HT.sIx,Option.getD_none,show (1:Int) > 0 by decide,if_true]
   by_cases h:i<0
   ·simp only [h,if_true]<;>lia
   ·simp only [h,if_false]<;>lia
 ·cases hi with
  | none=>simp [sliceBounds,HT.sIx]
  | some i =>
   simp only [sliceBounds,HT.sIx,Option.getD_none,show (1:Int) > 0 by decide,if_true]
   by_cases h:i<0
   ·simp only [h,if_true]<;>lia
   ·simp only [h,if_false]<;>lia
theorem slicePick_cut(its:List Value)(lo hi:Option Int):slicePick its.toArray lo hi none=((its.drop (HT.sIx its.length 0 lo)).take (HT.sIx its.length its.length hi-HT.sIx its.length 0 lo)).toArray:=by
 obtain ⟨h1,h2,h3⟩:=slice_bounds lo hi its.toArray.size
 unfold slicePick
 rw [h1,h2,h3]
 simp only [sliceRange_one,pick_run,List.size_toArray]<;>rfl
def rSlL(K:PySem.W.Frag):V->Option Int->Option Int->Hp->VK->Prop:=fun x lo hi H Q=>∃ a xs,x = .ref a/\SqL K H a xs/\∀ p,H p=none->Q (.ref p) (upd H p (.lst (cutV xs lo hi)))
theorem sl_list:SlR X (rSlL X.K):=by
 intro pins s σ H x v vl vu lo hi sl Q I rx hs pl pu h
 obtain ⟨a,xs,rfl,hx,q⟩:=h
 cases rx
 obtain ⟨its,r,ht,hz⟩:=I.list hx
 have hlen:=r.length
 refine ⟨"list",_,slot_list_getitem.lookup,ht.isList.typeIs,?_⟩
 refine wpAny_getItem_list_slice ht.isList hs pl pu .none (by simp) ?_ (by rw [List.size_toArray]<;>lia)
 rw [slicePick_cut,<-hlen]
 refine ⟨.ref s.heap.objs.size,_,I.laid (t':=s.toks) (o:=.lst (cutV xs lo hi)) (fun b ob q=>Heap.get?_push_of_some _ q) (Nat.le_refl _) ?_,rfl,q _ (I.hok.fresh (Nat.le_refl _))⟩
 exact ⟨Nat.le_trans (cutV_length xs lo hi) hz,_,0,(r.drop (HT.sIx xs.length 0 lo)).take (HT.sIx xs.length xs.length hi-HT.sIx xs.length 0 lo),Heap.get?_push_size _ rfl⟩
theorem call_tuple_of:CallR X (.type "tuple") (fun xs H Q=>∃ p ys,xs=[.ref p]/\((SqL X.K H p ys/\∀ l,H l=none->Q (.ref l) (upd H l (.tup ys)))\/(SqT X.K H p ys/\Q (.ref p) H))):=by
 intro pins s σ H xs us Q I r h
 obtain ⟨p,ys,rfl,h⟩:=h
 obtain ⟨u,rfl,rx⟩:=vals1 r
 cases rx
 rcases h with ⟨hq,q⟩ | ⟨hq,q⟩
 ·obtain ⟨its,r',pl,hz⟩:=I.list hq
  have hlen:=r'.length
  refine call_tuple_list pl.isList (fun h' kp=>?_) (by simp only [List.size_toArray]<;>lia)
  have I1:Inv X pins σ H { s with heap:=h' }:=I.kept (t':=s.toks) kp
  have I2:Inv X pins σ (upd H h'.objs.size (.tup ys)) { s with heap:=h'.push { cls:=.type "tuple",data:=.seq its.toArray } } :=
   I1.laid (t':=s.toks) (fun b o e=>Heap.get?_push_of_some _ e) (Nat.le_refl _) (show ObjOk X.prog X.w _ _ _ (.tup ys) from ⟨hz,its,r',IsTup.new _ _⟩)
  exact ⟨.ref h'.objs.size,_,I2,rfl,q _ (I1.hok.fresh (Nat.le_refl _))⟩
 ·obtain ⟨its,r',pl,hz⟩:=I.tuple hq
  exact call_tuple_same pl ⟨.ref p,H,I,rfl,q⟩
def tyV(K:PySem.W.Frag)(T:String)(x:V)(H:Hp):Prop:=match x with
 | .str _=>T = "str"
 | .int _=>T = "int"
 | .ref p=>(T = "list" /\ ∃ xs,SqL K H p xs)\/(T = "tuple" /\ ∃ o,K.lookup p=some o/\o.cls = .type "tuple" /\ o.dict=none) \/
   (T = "dict" /\ ((∃ kvs,H p=some (.dK kvs))\/∃ kvs,H p=some (.dT kvs)))\/(T = "set" /\ ∃ S n,H p=some (.set S n))
 | _=>False
theorem tyV_is{pins:List (Addr×Obj)}{σ:St}{H:Hp}{s:Shared}{T:String}{x:V}{v:Value}(I:Inv X pins σ H s)(r:RelV x v)(ty:tyV X.K T x H) :
  s.TypeIs v T/\∀ a,v = .ref a->∃ ob,s.heap.get? a=some ob/\ob.dict=none:=by
 cases x with
 | str z =>
  obtain ⟨t,rfl⟩:=r
  cases (show T = "str" from ty)
  exact ⟨typeIs_str s z t,fun _ e=>nomatch e⟩
 | int i =>
  obtain ⟨t,rfl⟩:=r
  cases (show T = "int" from ty)
  exact ⟨typeIs_int s i t,fun _ e=>nomatch e⟩
 | ref p =>
  cases r
  rcases ty with ⟨rfl,xs,hq⟩ | ⟨rfl,o,hk,hc,hd⟩ | ⟨rfl,hk⟩ | ⟨rfl,S,n,hk⟩
  ·obtain ⟨its,_,pl,_⟩:=I.list hq
   refine ⟨pl.isList.typeIs,fun a e=>?_⟩
   cases e
   obtain ⟨o,n,e,c,hd,_⟩:=pl
   exact ⟨o,e,hd⟩
  ·refine ⟨⟨o,I.kIn p o hk,hc⟩,fun a e=>?_⟩
   cases e
   exact ⟨o,I.kIn _ o hk,hd⟩
  ·have z:∃ o,s.heap.get? p=some o/\o.ExactDict:=by
    rcases hk with ⟨kvs,hk⟩ | ⟨kvs,hk⟩
    ·obtain ⟨_,_,_,_,o,_,_,e,ex,_⟩:=I.hok p _ hk
     exact ⟨o,e,ex⟩
    ·obtain ⟨_,_,_,_,o,_,_,e,ex,_⟩:=I.hok p _ hk
     exact ⟨o,e,ex⟩
   obtain ⟨o,e,ex⟩:=z
   refine ⟨⟨o,e,ex.1⟩,fun a e2=>?_⟩
   cases e2
   exact ⟨o,e,ex.2.1⟩
  ·obtain ⟨o,_,_,_,e,ex,_⟩:=I.hok p _ hk
   refine ⟨⟨o,e,ex.1⟩,fun a e2=>?_⟩
   cases e2
   exact ⟨o,e,ex.2.1⟩
 | _=>exact False.elim ty
def tBM0(K:PySem.W.Frag)(T:String)(r:V->List V->Hp->VK->Prop)(to:TE):TE:=fun σ H Q=>to σ H fun x H1=>tyV K T x H1/\r x [] H1 Q
def tBM(K:PySem.W.Frag)(T:String)(r:V->List V->Hp->VK->Prop)(to:TE)(t:TA):TE:=fun σ H Q=>to σ H fun x H1=>tyV K T x H1/\t σ H1 fun xs H2=>r x xs H2 Q
variable {o e:Expr} {es:List Expr} {to:TE} {t:TA} {name:Str} {apos cpos:Pos} {T id:String} {r:V->List V->Hp->VK->Prop}
theorem pe_bm0(pa:PlainAttrs T)(slot:Slot T name id)(hty:typeOf (.builtin id)=pure (.type "method_descriptor"))(hm:MtR X id r)(ho:PE X o to)
  (hbase:attributeBase o name X.env (eval o X.env)=eval o X.env:=by rfl) (hline:(apos.endLine == cpos.line)=true:=by rfl):PE X (.Call (.Attribute o name apos) [] [] cpos) (tBM0 X.K T r to):=by
 intro pins s σ H Q I h
 refine wpAny_Call_method0_late hbase hline (thn (ho pins s σ H _ I h) fun v s1 ⟨x,H1,I1,r1,ty,q1⟩=>?_)
 obtain ⟨h1,h2⟩:=tyV_is I1 r1 ty
 exact ⟨T,id,pa,slot,hty,h1,h2,Calls.callWith_builtin rfl (PySem.evalArgs_none (hm pins s1 σ H1 x [] v [] Q I1 r1 .nil q1))⟩
theorem pe_bm(pa:PlainAttrs T)(slot:Slot T name id)(hty:typeOf (.builtin id)=pure (.type "method_descriptor"))(hm:MtR X id r)(ho:PE X o to)(ha:PA X (e::es) t)
  (hbase:attributeBase o name X.env (eval o X.env)=eval o X.env:=by rfl)
  (hfew:((backTo cpos (starEach (e::es) X.env)).all (fun x=>!x.1)&&(backToKw cpos (keywordEach [] X.env)).all (fun x=>x.1.isSome)
   && decide ((e::es).length+([]:List Keyword).length+(if ([]:List Keyword).isEmpty then 0 else 1)<30))=true:=by rfl)
  (hline:(apos.endLine == cpos.line)=true:=by rfl) (hs:starEach (e::es) X.env=(false,eval e X.env)::starEach es X.env:=by rfl) (hplain:(backTo cpos (starEach es X.env)).any (·.1)=false:=by rfl) :
  PE X (.Call (.Attribute o name apos) (e::es) [] cpos) (tBM X.K T r to t):=by
 intro pins s σ H Q I h
 refine wpAny_Call_method_late hbase hfew hline rfl (thn (ho pins s σ H _ I h) fun v s1 ⟨x,H1,I1,r1,ty,q1⟩=>?_)
 obtain ⟨h1,h2⟩:=tyV_is I1 r1 ty
 refine ⟨T,id,pa,slot,hty,h1,h2,?_⟩
 have hA:=ha cpos pins s1 σ H1 _ I1 q1
 rw [hs] at hA ⊢
 refine Calls.callWith_builtin (by show (false || (backTo cpos (starEach es X.env)).any (·.1))=false;rw [hplain]<;>rfl) (Calls.evalArgs_plain ?_)
 exact thn hA fun us s2 ⟨vs,H2,I2,r2,q2⟩=>hm pins s2 σ H2 x vs v us Q I2 r1 r2 q2
/- xs.append(e),list.index on a module's tuple .. are MtR facts of 06m -/
end
end L2
namespace L2
open PySem PySem.Spec PyProof.Rows
def MtM(X:Cx)(id:String)(r:V->List V->Hp->VK->Prop):Prop :=
 ∀ (pins:List (Addr×Obj)) (s:Shared) (σ:St) (H:Hp) (x:V) (xs:List V) (v:Value) (us:List Value) (Q:VK),Inv X pins σ H s->RelV x v->Vals xs us->r x xs H Q ->
  wpAny (model X.prog X.w) X.A (call (.builtin id) (v::us)) (EP X pins σ Q) X.xe s
theorem Vals.one:∀ {x:V} {us:List Value},Vals [x] us->∃ u,us=[u]/\RelV x u
 | _,_,.cons r .nil=>⟨_,rfl,r⟩
theorem Vals.zero:∀ {us:List Value},Vals [] us->us=[]
 | _,.nil=>rfl
theorem Vals.reverse{xs:List V}{us:List Value}(h:Vals xs us):Vals xs.reverse us.reverse:=by
 induction h with
 | nil=>exact .nil
 | cons r t ih=>rw [List.reverse_cons,List.reverse_cons];exact Vals.append ih (.cons r .nil)
section
variable {X:Cx} {pins:List (Addr×Obj)} {σ:St} {H:Hp} {s:Shared} {l b:Addr} {xs ys zs:List V}
theorem Inv.lset{its its':List Value}{n:Nat}{f:Array Value->Array Value}{t':Nat}(I:Inv X pins σ H s)(hH:H l=some (.lst xs))
  (e:s.heap.get? l=some { cls:=.type "list",data:=.seq its.toArray n }) (hf:f its.toArray=its'.toArray) (hv:Vals ys its') (hz:ys.length<=sizeLine) :
  Inv X pins σ (upd H l (.lst ys)) { s with heap:=s.heap.update l (Obj.mapSeq f),toks:=t' }:=by
 have q:=PySem.IsL.update e f
 rw [hf] at q
 refine I.write (x:=l) (e:=l) (by rw [hH];exact trivial) (.inl rfl) (fun b' u hb hu=>(Heap.get?_update_other s.heap (Obj.mapSeq f) (Ne.symm hb)).trans hu) ⟨_,q⟩ ?_
 exact ⟨hz,its',_,hv,q⟩
theorem Inv.lnew{its:List Value}{t':Nat}(I:Inv X pins σ H s)(hv:Vals ys its)(hz:ys.length<=sizeLine) :
  Inv X pins σ (upd H s.heap.objs.size (.lst ys)) { s with heap:=s.heap.push { cls:=.type "list",data:=.seq its.toArray },toks:=t' } :=
 I.laid (fun _ _ q=>Heap.get?_push_of_some _ q) (Nat.le_refl _) ⟨hz,its,0,hv,Heap.get?_push_size _ rfl⟩
theorem Inv.fresh(I:Inv X pins σ H s):H s.heap.objs.size=none:=I.hok.fresh (Nat.le_refl _)
theorem Inv.lstM(I:Inv X pins σ H s)(hH:H l=some (.lst xs)):xs.length<=sizeLine/\∃ (its:List Value) (n:Nat),Vals xs its/\xs.length=its.length/\s.heap.get? l=some { cls:=.type "list",data:=.seq its.toArray n }:=by
 obtain ⟨z,its,n,r,e⟩:=I.hok l _ hH
 exact ⟨z,its,n,r,r.length,e⟩
theorem notLongL{n:Nat}(h:n<=sizeLine):Builtin.List.listTooLong n=false:=by
 unfold Builtin.List.listTooLong
 exact decide_eq_false (by lia)
end
section
variable {X:Cx}
def rAppend:V->List V->Hp->VK->Prop:=fun x vs H Q=>∃ l xs y,x = .ref l/\vs=[y]/\H l=some (.lst xs)/\xs.length<sizeLine/\Q .non (upd H l (.lst (xs++[y])))
theorem y_q:MtM X "list.append" rAppend:=by
 intro pins s σ H x vs v us Q I rx rv h
 obtain ⟨l,xs,y,rfl,rfl,hH,hz,q⟩:=h
 cases rx
 obtain ⟨u,rfl,ru⟩:=rv.one
 obtain ⟨z,its,n,r,hl,e⟩:=I.lstM hH
 refine call_meets F.slot_list_append ⟨_,e,rfl⟩ F.entry_list_append (F.args_list_append_2 _ _) (PySem.list_append l its.toArray n u (by rw [List.size_toArray];lia)) ⟨e,?_⟩
 refine ⟨.non,_,I.lset (its':=its++[u]) hH e (by simp) (r.append (.cons ru .nil)) ?_,rfl,q⟩
 rw [List.length_append,List.length_singleton]
 lia
def rReverse:V->List V->Hp->VK->Prop:=fun x vs H Q=>∃ l xs,x = .ref l/\vs=[]/\H l=some (.lst xs)/\Q .non (upd H l (.lst xs.reverse))
theorem mt_reverse:MtM X "list.reverse" rReverse:=by
 intro pins s σ H x vs v us Q I rx rv h
 obtain ⟨l,xs,rfl,rfl,hH,q⟩:=h
 cases rx
 have hus:=rv.zero
 subst hus
 obtain ⟨z,its,n,r,hl,e⟩:=I.lstM hH
 refine call_meets F.slot_list_reverse ⟨_,e,rfl⟩ F.entry_list_reverse (F.args_list_reverse_1 _) (AutoSeq1.list_reverse_list_0 l its.toArray n (by rw [List.size_toArray];lia)) ⟨e,?_⟩
 refine ⟨.non,_,I.lset (its':=its.reverse) hH e (by simp) r.reverse ?_,rfl,q⟩
 rw [List.length_reverse]
 lia
def rCat:R2:=fun x y H Q=>∃ l b xs zs,x = .ref l/\y = .ref b/\H l=some (.lst xs)/\H b=some (.lst zs)/\xs.length+zs.length<=sizeLine/\∀ p,H p=none->Q (.ref p) (upd H p (.lst (xs++zs)))
theorem op_cat:OpR X (binaryOp .Add) rCat:=by
 intro pins s σ H x y v u Q I rx ry h
 obtain ⟨l,b,xs,zs,rfl,rfl,hH,hB,hz,q⟩:=h
 cases rx
 cases ry
 obtain ⟨z,its,n,r,hl,e⟩:=I.lstM hH
 obtain ⟨z2,its2,n2,r2,hl2,e2⟩:=I.lstM hB
 refine PySem.P.add_list e e2 ?_ (by rw [List.size_toArray,List.size_toArray];lia)
 have ea:its.toArray++its2.toArray=(its++its2).toArray:=by simp
 rw [ea]
 exact ⟨.ref _,_,I.lnew (t':=s.toks) (r.append r2) (by rw [List.length_append];lia),rfl,q _ I.fresh⟩
end
section
variable {prog:Program} {w:World} {A:Around} {E:Value->Shared->Prop} {s:Shared}
theorem splice_eq(its its2 : List Value)(a c : Nat) : its.toArray.extract 0 a ++ its2.toArray ++ its.toArray.extract c its.toArray.size = (its.take a ++ its2 ++ its.drop c).toArray := by
  apply Array.toList_inj.mp
  first
    | (simp
       exact List.take_of_length_le (by simp))
    | simp [List.take_of_length_le]
    | simp
end
end L2
namespace L2
open PySem PySem.Spec PyProof.Rows
section
variable {κ:Type} [DecidableEq κ]
theorem RelO.isSome_eq{o:Option V}{u:Option Value}(r:RelO o u):o.isSome=u.isSome:=by
 cases o with
 | none=>cases u with
  | none=>rfl
  | some _=>exact (show False from r).elim
 | some _=>cases u with
  | none=>exact (show False from r).elim
  | some _=>rfl
end
theorem kV_is{P:Program}{w:World}{k:Key}{u:Value}(r:RelV (kV k) u):(mixKind P w).is k u=true:=by
 cases k with
 | inl i=>obtain ⟨t,e⟩:=(show ∃ t,u=Value.int i t from r);subst e;exact mixKind_int P w i t
 | inr x=>obtain ⟨t,e⟩:=(show ∃ t,u=Value.str x t from r);subst e;exact mixKind_str P w x t
theorem items_are{P:Program}{w:World}:∀ {ks:List Key} {us:List Value},Vals (ks.map kV) us->ItemsAre (mixKind P w) ks us
 | [],_,r=>by rw [List.map_nil] at r;cases r;exact .nil
 | k::ks,_,r=>by
  rw [List.map_cons] at r
  cases r with
  | cons h t=>exact .cons (kV_is h) (items_are t)
section
variable {P:Program} {w:World} {H:Hp} {h:Heap} {a:Addr}
theorem key_of{ks:List Key}(ok:HOk P w H h)(e:H a=some (.tup (ks.map kV))):(tupleKind (mixKind P w)).is h ks a:=by
 obtain ⟨_,its,r,o,h1,h2,n,h3⟩:=(show ObjOk P w H h a (.tup (ks.map kV)) from ok a _ e)
 exact ⟨o,its.toArray,n,h1,h2,h3,by simpa using items_are r⟩
end
section
variable {X:Cx} {pins:List (Addr×Obj)} {σ:St} {H:Hp} {s:Shared} {a:Addr} {y v:V} {u r:Value} {o:Option V} {A:Around} {E:Value->Shared->Prop}
theorem Inv.big(I:Inv X pins σ H s):sysModules<s.heap.objs.size:=by
 have h:mainGlobals<s.heap.objs.size:=(I.mod.glob.keeps I.bk).lt
 exact Nat.lt_trans (by decide) h
theorem d_write{h':Heap}{t':Nat}{ob:HO}(I:Inv X pins σ H s)(mu:Mut (H a))(hs:Heap.SameBut a s.heap h')(he:∃ q,h'.get? a=some q)(new:ObjOk X.prog X.w (upd H a ob) h' a ob) :
  Inv X pins σ (upd H a ob) { s with heap:=h',toks:=t' } :=
 I.write (x:=a) (e:=a) mu (.inl rfl) (fun b q hb z=>(hs.2 b hb).trans z) he new
end
def NoSl(i:Expr):Prop:=∀ ov iv,subscripted i false ov iv=operate [ov,iv] (getItem ov iv)
theorem subD_of{prog:Program}{w:World}{A:Around}{E:Value->Shared->Prop}{s:Shared}{env:Env}{value slice:Expr}{pos:Pos}{T id:String}{Q:Value->Shared->Prop}
  (hl:typeLookup (.type T) "__getitem__" = pure (some (.builtin id))) (hs:NoSl slice)
  (h:wpAny (model prog w) A (eval value env) (fun o s₁=>wpAny (model prog w) A (eval slice env) (fun i s₂=>s₂.TypeIs o T/\wpAny (model prog w) A (getItem o i) Q E s₂) E s₁) E s) :
  wpAny (model prog w) A (eval (.Subscript value slice pos) env) Q E s:=by
 refine Subscript_ (wpAny_mono h (fun o s₁ h₁=>wpAny_mono h₁ (fun i s₂ h₂=>?_) fun _ _ x=>x) fun _ _ x=>x)
 obtain ⟨hT,h₂⟩:=h₂
 unfold subscriptTail
 refine wpAny_bind ?_
 rw [getitemInPython_of_ne hT.not_modules]
 refine wpAny_bind (wpAny_specialOf hT hl ?_)
 have fin:wpAny (model prog w) A (subscripted slice false o i) (fun r s₃=>wpAny (model prog w) A (letTemporaryGo value o r >>= fun _=>pure r) Q E s₃) E s₂:=by
  rw [hs o i]
  exact wpAny_operating (wpAny_mono h₂ (fun r s₃ h₃=>wpAny_bind (wpAny_letTemporaryGo (wpAny_pure h₃))) fun _ _ x=>x)
 first
  | exact wpAny_pure (wpAny_bind fin)
  | exact wpAny_bind (wpAny_pure (wpAny_bind fin))
  | exact wpAny_bind fin
def tPairs:List (TE×TE)->St->Hp->(List (V×V)->Hp->Prop)->Prop
 | [],_,H,Q=>Q [] H
 | (tk,tv)::r,σ,H,Q=>tk σ H fun x H1=>tv σ H1 fun y H2=>tPairs r σ H2 fun ps H3=>Q ((x,y)::ps) H3
abbrev VV:List (V×V)->List (Value×Value)->Prop:=Paired fun p q=>RelV p.1 q.1/\RelV p.2 q.2
def PPs(X:Cx)(pos:Pos)(keys:List (Option Expr))(values:List Expr)(trs:List (TE×TE)):Prop :=
 ∀ (pins:List (Addr×Obj)) (s:Shared) (σ:St) (H:Hp) (Q:List (V×V)->Hp->Prop),Inv X pins σ H s->tPairs trs σ H Q ->
  wpAny (model X.prog X.w) X.A (evalPairs (pairTrees keys values X.env pos)) (fun vs s'=>∃ ps H',Inv X pins σ H' s'/\VV ps vs/\Q ps H') X.xe s
theorem pps_nil{X:Cx}{pos:Pos}:PPs X pos [] [] []:=fun pins s σ H Q I h=>pairTrees_nil_walk ⟨[],H,I,.nil,h⟩
theorem pps_cons{X:Cx}{pos:Pos}{k v:Expr}{ks:List (Option Expr)}{vs:List Expr}{tk tv:TE}{trs:List (TE×TE)}(hk:PE X k tk)(hv:PE X v tv)(hr:PPs X pos ks vs trs) :
  PPs X pos (some k::ks) (v::vs) ((tk,tv)::trs):=fun pins s σ H Q I h =>
 pairTrees_cons_walk (thn (hk pins s σ H _ I h) fun u s1 ⟨x,H1,I1,rx,q1⟩=>thn (hv pins s1 σ H1 _ I1 q1) fun w2 s2 ⟨y,H2,I2,ry,q2⟩ =>
  thn (hr pins s2 σ H2 _ I2 q2) fun ws s3 ⟨ps,H3,I3,rel,q3⟩=>⟨(x,y)::ps,H3,I3,.cons ⟨rx,ry⟩ rel,q3⟩)
end L2
namespace Att
open PySem PySem.W PySem.Calls PyProof.Rows
theorem ints_of_wellAll{P:Params}{h:Heap}:∀ (ns:List Int) (vs:List Value),WellAll P h vs (ns.map WData.int)->IntsAre vs ns:=by
 intro ns
 induction ns with
 | nil =>
  intro vs w
  rw [List.map_nil] at w
  cases w
  exact .nil
 | cons n ns ih =>
  intro vs w
  rw [List.map_cons] at w
  cases w with
  | cons a b =>
   cases a
   exact .cons _ _ (ih _ b)
theorem script_of{l:OpenLaw}{n:Nat}(hn:l.most=some n){P:Params}{h:Heap}{args:List WData}{vals:List Value}
  (hpre:l.row.toRowW.claim.pre args=true) (hwl:WellAll P h vals args) :
  ∃ a vs ns,vals=[Value.ref a]/\args=[WData.list (ns.map WData.int)]/\h.get? a=some { cls:=.type "list",data:=.seq vs.toArray }/\IntsAre vs ns/\ns.length<=n:=by
 have hsh:WShape.hasAll [] args [.list .int]=true:=(pre_splitW hpre).1
 have hc:l.pre.holds [] { args:=args }=true:=(pre_splitW hpre).2
 obtain ⟨d,r,rfl,h1,h2⟩:=hasAllW_cons hsh
 obtain rfl:=hasAllW_nil h2
 obtain ⟨xs,rfl,h3⟩:=hasW_list h1
 obtain ⟨ns,rfl⟩:=items_int h3
 have hlen:ns.length<=n:=by
  unfold OpenLaw.pre at hc
  have h4:(WTm.not (.lt (.lit (.int (n:Int))) (.len (.arg 0)))).holds [] { args:=[.list (ns.map .int)] }=true:=by
   have h4:=(holds_andW hc).1
   rw [hn] at h4
   exact h4
  have h5:=condW_of h4 (w_not (w_lt w_lit (w_len_list (w_arg rfl))))
  rw [List.length_map] at h5
  refine Nat.le_of_not_lt fun q=>?_
  have q':(n:Int)<((ns.length:Nat):Int):=by lia
  first
   | (rw [decide_eq_true q'] at h5;exact absurd h5 (by decide))
   | (simp at h5;lia)
 cases hwl with
 | cons w1 w2 =>
  cases w2
  cases w1 with
  | list ho hall=>exact ⟨_,_,ns,rfl,rfl,ho,ints_of_wellAll ns _ hall,hlen⟩
theorem post_true(l:OpenLaw)(args:List WData):l.row.toRowW.claim.post args (.bool true) args=true :=
 postW_of (r:=l.row.toRowW) (X:=(true == true))
  (show WShape.has [] (.bool true) .bool=true by first | rfl | decide | simp [WShape.has,WShape.arms,WShape.armsAll])
  (show (WTm.eq .res (.lit (.bool true))).value [] { args:=args,res:=some (.bool true),after:=args }=some (.bool (true == true)) from w_eq_bool (w_res rfl) w_lit) rfl
theorem attach_call{l:OpenLaw}{n:Nat}{q:Program}{loose:List Str}{XP:(Str->Option Value)->Heap->Prop}{YP:World->Heap->Prop}{d:DefRec}
  (hn:l.most=some n) (hdf:d.params.defaults=[])
  (call:∀ (w:World) (s₀ s₁:Shared) (mg mb:Str->Option Value) (fa:Addr) (o:Obj) (pm cd doc:Value) (a:Addr) (vs:List Value) (ns:List Int),
   Ground q loose [] XP w s₀ mg mb s₁.heap->YP w s₁.heap ->
   s₁.heap.get? fa=some o->o.data = .func (docDef d.name d.params d.body d.scope pm cd doc)->s₁.heap.CodeRec cd d.name->mg d.name=some (.ref fa) ->
   s₁.heap.get? a=some { cls:=.type "list",data:=.seq vs.toArray }->IntsAre vs ns->ns.length<=n->s₁.gens = #[] ->
   codeAny (model l.prog w) callerA (.call (.ref fa) ⟨[.ref a],[]⟩) (fun r s'=>r = .ok (.ret (.bool true))/\OldK s₁.heap s'.heap/\s'.os=s₁.os/\AllBare s'.gens) s₁) :
  WalkO q loose XP YP l.row.toRowW d [] (fun f vs=>PySem.call f vs):=by
 intro w s₀ s₁ mg mb G Y fa o pm cd doc dV kV ho hd hcd hD hmg hg args vals as hpre hlay hrd hwl hlo
 obtain rfl:dV = .none:=Dflts.none hD hdf
 obtain rfl:kV = .none:=Dflts.noKw hD
 obtain ⟨a,vs,ns,rfl,rfl,hobj,hints,hlen⟩:=script_of hn hpre hwl
 refine enter_call (codeAny_mono (call w s₀ s₁ mg mb fa o pm cd doc a vs ns G Y ho (fd_plain hd) hcd hmg hobj hints hlen hg) fun r s' hq=>?_)
 obtain ⟨rfl,h2,h3,h4⟩:=hq
 exact ⟨.inl ⟨.bool true,.bool true,[],rfl,fun _=>rfl,.bool true,post_true l _,fun _=>⟨List.Pairwise.nil,fun _ hm=>(nomatch hm)⟩⟩,h2,h3,h4⟩
end Att
namespace L2
open PySem PySem.Spec PyProof.Rows
theorem vals_ints:∀ {vs:List Value} {ns:List Int},IntsAre vs ns->Vals (ns.map V.int) vs
 | _,_,.nil=>.nil
 | _,_,.cons n t h=>.cons ⟨t,rfl⟩ (vals_ints h)
def Only(H:Hp):Prop:=∀ b,H b=none\/∃ o xs,H b=some (.frz o (.lst xs))
theorem law_call{P:Program}{w:World}{K:PySem.W.Frag}{mg mb:Str->Option Value}{CX:CXT}{k:Nat}{fa a:Addr}{fd:FuncData}{x:Str}{sp:Sp}{s₁:Shared}{vs:List Value}{ns:List Int}
  (KX:K.In s₁.heap) (hns:s₁.heap.Ns mainGlobals mg) (hb:s₁.heap.Ns builtinsNs mb) (hbb:∀ x:Str,x ≠ "__name__" -> mb x=bootBuiltins x) (hlim:s₁.heap.NoLimit) (hg:s₁.gens = #[])
  (ha:s₁.heap.get? a=some { cls:=.type "list",data:=.seq vs.toArray }) (hi:IntsAre vs ns) (hl:ns.length<=sizeLine) (hr:Room k callerA)
  (F:∀ base:Heap,K.In base->base.Ns mainGlobals mg->FnOk P w K mg base CX k fa fd [x] sp) (hbind:∀ (s:Shared) (u:Value),BindsTo s fd ⟨[u],[]⟩ [(x,u)])
  (hsp:∀ H:Hp,Only H->SqL K H a (ns.map V.int)->sp [.ref a] H (fun v _=>v = .bl true) fun _ _ _=>False)
  (hCX:∀ H e s',CX [] H s₁ (fun _ _ _=>False) e s'->False) :
  codeAny (model P w) callerA (.call (.ref fa) ⟨[.ref a],[]⟩) (fun r s'=>r = .ok (.ret (.bool true))/\OldK s₁.heap s'.heap/\s'.os=s₁.os/\AllBare s'.gens) s₁:=by
 have rv:=vals_ints hi
 have lenV:=hi.length
 have core:∀ H:Hp,Only H->SqL K H a (ns.map V.int)->HOk P w H s₁.heap->(∀ b,H b≠none->b=a)->(H a≠none->K.lookup a=none) ->
   codeAny (model P w) callerA (.call (.ref fa) ⟨[.ref a],[]⟩) (fun r s'=>r = .ok (.ret (.bool true))/\OldK s₁.heap s'.heap/\s'.os=s₁.os/\AllBare s'.gens) s₁:=by
  intro H hO hS hok hA hK
  have base_of:∀ {b:Addr} {o:Obj},s₁.heap.get? b=some o->H b=none->(hidT s₁.heap H).get? b=some o:=fun e n=>hidT_get e n
  have noA:∀ {b:Addr} {o:Obj} {es:Array DictEntry} {ep:Nat},s₁.heap.get? b=some o->o.data = .dict es ep->H b=none:=fun {b o es ep} e d=>by
   cases q:H b with
   | none=>rfl
   | some u =>
    have e':b=a:=hA b (by rw [q];simp)
    subst e'
    rw [ha] at e;cases e
    have d':Data.seq vs.toArray _=Data.dict es ep:=d
    cases d'
  have nsK:∀ {b:Addr} {m:Str->Option Value},s₁.heap.Ns b m->(hidT s₁.heap H).Ns b m:=fun {b m} ⟨o,es,ep,e,d,r⟩=>⟨o,es,ep,base_of e (noA e d),d,r⟩
  have hKb:K.In (hidT s₁.heap H):=fun b o e=>base_of (KX b o e) (by
   cases q:H b with
   | none=>rfl
   | some u =>
    have e':b=a:=hA b (by rw [q];simp)
    subst e'
    rw [hK (by rw [q];simp)] at e;cases e)
  have hM:Mod K mg (hidT s₁.heap H):=⟨hKb,nsK hns,⟨mb,nsK hb,hbb⟩,let ⟨mc,h1,h2⟩:=hlim;⟨mc,nsK h1,h2⟩⟩
  have e0:Env0 P w K mg (hidT s₁.heap H) callerA [] s₁ H:=⟨rfl,rfl,hM,fun b o e=>of_hidT e,Nat.le_of_eq (hidT_size _ _),trivial,fun b hb=>absurd (show b∈([]:List Addr) from hb) (by simp),hok,.of_eq hg⟩
  refine codeAny_mono ((F _ hKb (nsK hns)).run callerA [] s₁ H ⟨[.ref a],[]⟩ [.ref a] [.ref a] _ _ hr e0 (hbind s₁ (.ref a)) (.cons rfl .nil) (hsp H hO hS)) fun r s' h=>?_
  cases r with
  | error e=>exact (hCX H e s' h).elim
  | ok fl =>
   cases fl with
   | next=>exact False.elim h
   | brk=>exact False.elim h
   | cont=>exact False.elim h
   | ret u =>
    obtain ⟨v,H',os,bare,un,hok',r',q⟩:=h
    have q':v = .bl true:=q
    subst q'
    obtain rfl:u=Value.bool true:=r'
    refine ⟨rfl,OldK.of_keep fun b o e=>?_,os,bare⟩
    cases q:H b with
    | none=>exact un.keep b o e q (by intro z;exact absurd (show b∈([]:List Addr) from z) (by simp)) (by simp)
    | some u =>
     rcases hO b with z | ⟨ob,xs,z⟩
     ·rw [q] at z;cases z
     ·have z2:=un.frzs b ob _ z
      obtain ⟨e1,_⟩:=hok b _ z
      obtain ⟨e2,_⟩:=hok' b _ z2
      rw [e] at e1;cases e1
      exact e2
 cases hk:K.lookup a with
 | some o =>
  have e:=KX a o hk
  rw [ha] at e
  cases e
  refine core (fun _=>none) (fun _=>.inl rfl) (.inr ⟨_,vs.toArray,_,hk,rfl,rfl,rfl,by rw [List.size_toArray,lenV];exact hl,by simpa using rv⟩) (fun b u z=>by have z':(none:Option HO)=some u:=z;cases z') (fun b z=>absurd rfl z) fun z=>absurd rfl z
 | none =>
  refine core (fun b=>if b=a then some (.frz { cls:=.type "list",data:=.seq vs.toArray } (.lst (ns.map V.int))) else none) (fun b=>?_) (.inl (.inr ⟨{ cls:=.type "list",data:=.seq vs.toArray },if_pos rfl⟩)) (fun b u z=>?_) (fun b z=>?_) fun _=>hk
  ·by_cases hb:b=a
   ·exact .inr ⟨_,_,if_pos hb⟩
   ·exact .inl (if_neg hb)
  ·by_cases hb:b=a
   ·have z':=(if_pos hb).symm.trans z
    cases z'
    subst hb
    exact ⟨ha,by rw [List.length_map];exact hl,vs,_,rv,ha⟩
   ·have z':=(if_neg hb).symm.trans z
    cases z'
  ·by_cases hb:b=a
   ·exact hb
   ·exact absurd (if_neg hb) z
theorem walk_of{l:PySem.W.OpenLaw}{n k:Nat}{q:Program}{loose:List Str}{XP:(Str->Option Value)->Heap->Prop}{YP:World->Heap->Prop}{d:DefRec}{K:Params->PySem.W.Frag}{CX:World->CXT}{sp:World->Sp}{x:Str}
  (hn:l.most=some n) (hn2:n<=sizeLine) (hdf:d.params.defaults=[]) (hr:Room k callerA)
  (hY:∀ (w:World) (h:Heap),YP w h->(K w.params).In h)
  (F:∀ (w:World) (mg:Str->Option Value) (fa:Addr) (h:Heap),(K w.params).In h->h.Ns mainGlobals mg->mg d.name=some (.ref fa) ->
   ∃ fd:FuncData,(∀ (s:Shared) (u:Value),BindsTo s fd ⟨[u],[]⟩ [(x,u)]) /\
    ∀ base:Heap,(K w.params).In base->base.Ns mainGlobals mg->FnOk l.prog w (K w.params) mg base (CX w) k fa fd [x] (sp w))
  (hsp:∀ (w:World) (H:Hp) (a:Addr) (ns:List Int),ns.length<=n->Only H->SqL (K w.params) H a (ns.map V.int)->sp w [.ref a] H (fun v _=>v = .bl true) fun _ _ _=>False)
  (hCX:∀ (w:World) (H:Hp) (s:Shared) (e:Value) (s':Shared),CX w [] H s (fun _ _ _=>False) e s'->False) :
  PySem.W.WalkO q loose XP YP l.row.toRowW d [] (fun f vs=>PySem.call f vs):=by
 refine Att.attach_call hn hdf fun w s₀ s₁ mg mb fa o pm cd doc a vs ns G Y ho hd hcd hmg hobj hints hlen hg=>?_
 have KX:=hY w _ Y
 obtain ⟨fd,hb,hF⟩:=F w mg fa _ KX G.T.g hmg
 exact law_call KX G.T.g G.T.b G.T.builtins G.T.nolimit hg hobj hints (Nat.le_trans hlen hn2) hr hF hb (fun H hO hS=>hsp w H a ns hlen hO hS) fun H e s'=>hCX w H s₁ e s'
abbrev CX0:CXT:=fun _ _ _ _ _ _=>False
abbrev E0:XK:=fun _ _ _=>False
theorem pass0{X:Cx}:Passes CX0 X E0:=fun _ _ _ _ _ _ _ h=>h.elim
structure Fun(K:PySem.W.Frag)(x qual:Str)(st:Stmt)(f:Addr)(fd:FuncData):Prop where
 ex:∃ (oc:Value) (od:Option Addr) (kV doc pm:Value) (an:Option Addr) (cdv ct:Value) (osl:Array (Option Value)),
  fd=PySem.W.fnOf x qual (z_j st) (z_i st) (z_f st) .none kV doc pm an cdv ct/\K.lookup f=some ⟨oc,od,.func fd,osl⟩/\PySem.W.codeIn K cdv qual=true
 kp:PySem.W.keepIn K (.ref f)=true
section
variable {P:Program} {w:World} {K:PySem.W.Frag} {mg:Str->Option Value} {base:Heap}
theorem Fun.ok{x qual:Str}{st:Stmt}{f:Addr}{fd:FuncData}{N ps:List Str}{k:Nat}{sp:Sp}(F:Fun K x qual st f fd)(S:FnScope N ps (z_f st))(len:∀ vs H Q E,sp vs H Q E->vs.length=ps.length)
  (hbody:∀ (cdv:Value) (A:Around) (outer:List Env) (s:Shared) (H:Hp) (vs:List V) (Q:VK) (E:XK),Room k (A.deeper (envOfC qual (z_f st) s.heap.objs.size f cdv))->sp vs H Q E ->
   ∃ t,PSs (cxOf CX0 P w K mg base N qual (z_f st) f cdv A outer s H E).nox (z_i st) t/\t { nx:=fun _ H'=>Q .non H',rt:=Q } (start N vs) H):FnOk P w K mg base CX0 (k+1) f fd ps sp:=by
 obtain ⟨oc,od,kV,doc,pm,an,cdv,ct,osl,rfl,lk,hcd⟩:=F.ex
 refine fn_of lk hcd S len fun A outer s H vs Q E hr hsp=>?_
 obtain ⟨t,h,q⟩:=hbody cdv A outer s H vs Q E hr hsp
 exact ⟨t,h.nox,q⟩
theorem Fun.binds{x qual:Str}{st:Stmt}{f:Addr}{fd:FuncData}{ps:List Str}(F:Fun K x qual st f fd)
  (h:∀ (kV doc pm:Value) (an:Option Addr) (cdv ct:Value) (us:List Value),us.length=ps.length->bindArgs (PySem.W.fnOf x qual (z_j st) (z_i st) (z_f st) .none kV doc pm an cdv ct) ⟨us,[]⟩=pure (ps.zip us)):Binds K fd ps []:=by
 obtain ⟨oc,od,kV,doc,pm,an,cdv,ct,osl,rfl,lk,hcd⟩:=F.ex
 exact .all (h kV doc pm an cdv ct)
theorem y_p{x qual:Str}{st:Stmt}{f:Addr}{oc:Value}{od an:Option Addr}{osl:Array (Option Value)}{kV doc pm cdv ct:Value}(l:K.lookup f=some ⟨oc,od,.func (PySem.W.fnOf x qual (z_j st) (z_i st) (z_f st) .none kV doc pm an cdv ct),osl⟩)
  (c:PySem.W.codeIn K cdv qual=true) (k:PySem.W.keepIn K (.ref f)=true):Fun K x qual st f (PySem.W.fnOf x qual (z_j st) (z_i st) (z_f st) .none kV doc pm an cdv ct):=⟨⟨oc,od,kV,doc,pm,an,cdv,ct,osl,rfl,l,c⟩,k⟩
end
section
variable {X:Cx}
theorem pv(i:Nat){x:Str}{pos:Pos}(hN:X.N[i]? = some x:=by rfl)(hv:Vis X.env.scope x:=by first | exact Or.inl rfl | exact Or.inr (Or.inl rfl) | exact Or.inr (Or.inr rfl))(hd:(x == ("__debug__" : Str))=false:=by decide)
  (hcd:(x == ("__classdict__" : Str))=false:=by decide):PE X (.Name x pos) (tVar i):=pe_var hN hv hd hcd
end
theorem iteF{A B:Prop}(h:B):if false=true then A else B:=by
 rw [if_neg Bool.false_ne_true]
 exact h
theorem iteT{A B:Prop}(h:A):if true=true then A else B:=by
 rw [if_pos rfl]
 exact h
theorem ite2{c A B:Prop}[Decidable c](h1:c->A)(h2:¬c->B):if c then A else B:=by
 by_cases h:c
 ·rw [if_pos h]
  exact h1 h
 ·rw [if_neg h]
  exact h2 h
def Same(H H':Hp):Prop:=∀ b o,H b=some o->H' b=some o
theorem Same.refl(H:Hp):Same H H:=fun _ _ h=>h
theorem Same.trans{H H1 H2:Hp}(a:Same H H1)(b:Same H1 H2):Same H H2:=fun c o h=>b c o (a c o h)
theorem Same.free{H H':Hp}(e:Same H H'){l:Addr}(h:H' l=Option.none):H l=Option.none:=by
 cases q:H l with
 | none=>rfl
 | some o =>
  rw [e l o q] at h
  cases h
theorem Same.seq{K:PySem.W.Frag}{H H':Hp}{a:Addr}{xs:List V}(e:Same H H')(h:SqL K H a xs):SqL K H' a xs:=by
 rcases h with (h | ⟨o,h⟩) | h
 ·exact .inl (.inl (e _ _ h))
 ·exact .inl (.inr ⟨o,e _ _ h⟩)
 ·exact .inr h
end L2
namespace L2
open PySem PySem.Spec PyProof.Rows
end L2
namespace L2
open PySem PySem.Spec PyProof.Rows
def clOf(env:Env):List (Str×NameKind)->List (Str×Addr)->List (Str×Addr)
 | [],acc=>acc
 | (n,k)::r,acc=>if (k == NameKind.free)=true then clOf env r ((n,(env.cells.lookup n).getD 0)::acc) else clOf env r acc
theorem x_i{env:Env}{x:Str}:∀ (l:List (Str×NameKind)) (acc:List (Str×Addr)),
  (clOf env l acc).lookup x=if (l.any fun p=>(p.1 == x)&&(p.2 == NameKind.free))=true then some ((env.cells.lookup x).getD 0) else acc.lookup x
 | [],acc=>by simp [clOf]
 | (n,k)::r,acc=>by
  unfold clOf
  by_cases hk:(k == NameKind.free)=true
  ·rw [if_pos hk,x_i r]
   by_cases hr:(r.any fun p=>(p.1 == x)&&(p.2 == NameKind.free))=true
   ·rw [if_pos hr,if_pos]
    rw [List.any_cons,hr,Bool.or_true]
   ·rw [if_neg hr]
    have hr':(r.any fun p=>(p.1 == x)&&(p.2 == NameKind.free))=false:=(Bool.not_eq_true _).mp hr
    rw [List.any_cons,hr',Bool.or_false,hk,Bool.and_true,List.lookup_cons]
    by_cases hn:n=x
    ·subst hn
     simp
    ·have h1:(n == x)=false:=by simpa using hn
     have h2:(x == n)=false:=by simpa using fun z=>hn (Eq.symm z)
     simp [h1,h2]
  ·rw [if_neg hk,x_i r]
   have hk':(k == NameKind.free)=false:=by simpa using hk
   rw [List.any_cons,hk',Bool.and_false,Bool.false_or]
theorem closure_clOf{env:Env}{scope:Scope}(h:∀ n k,(n,k)∈scope.names->(k == NameKind.free)=true->(env.cells.lookup n).isSome=true):closureFor scope env=pure (clOf env scope.names []):=by
 have go:∀ (l:List (Str×NameKind)) (acc:List (Str×Addr)),(∀ n k,(n,k)∈l->(k == NameKind.free)=true->(env.cells.lookup n).isSome=true) ->
   (forIn l acc (fun (x:Str×NameKind) (r:List (Str×Addr))=>match x with
    | (name,kind)=>if (kind == NameKind.free)=true then (do let a <-cellOf env name;pure (ForInStep.yield ((name,a)::r))) else pure (ForInStep.yield r)):Sem (List (Str×Addr)))=pure (clOf env l acc):=by
  intro l
  induction l with
  | nil=>intro acc _;rfl
  | cons p r ih =>
   intro acc hp
   obtain ⟨n,k⟩:=p
   rw [List.forIn_cons]
   unfold clOf
   by_cases hk:(k == NameKind.free)=true
   ·obtain ⟨c,hc⟩:=Option.isSome_iff_exists.mp (hp n k List.mem_cons_self hk)
    have hc1:cellOf env n=pure c:=by simp only [cellOf,hc]
    simp only [hk,if_true,hc1,hc,Option.getD_some]
    have:=ih ((n,c)::acc) (fun n' k' h'=>hp n' k' (List.mem_cons_of_mem _ h'))
    simpa using this
   ·simp only [hk,if_false]
    have:=ih acc (fun n' k' h'=>hp n' k' (List.mem_cons_of_mem _ h'))
    simpa using this
 have:=go scope.names [] h
 simp only [closureFor]
 simpa using this
def compOk(sc out:Scope)(xs:List Str)(cs:List Str):Bool :=
 (sc.kind == .function)&&(out.kind == .function)&&sc.names.all (fun p=>p.2 != NameKind.cell)&&sc.names.all (fun p=>p.2 != NameKind.local || sc.names.lookup p.1 == some .local)&&xs.all (fun x=>sc.names.lookup x == some .local)
  && sc.names.all (fun p=>p.2 != NameKind.free || out.names.lookup p.1 == some .cell)&&cs.all (fun c=>sc.names.lookup c == some .free)
structure CompOk(sc out:Scope)(xs:List Str)(cs:List Str):Prop where
 kind:sc.kind = .function
 okind:out.kind = .function
 cell:∀ y∈sc.names,y.2 ≠ .cell
 names:∀ y∈sc.names,y.2 = .local->sc.names.lookup y.1=some .local
 x:∀ x∈xs,sc.names.lookup x=some .local
 free:∀ n k,(n,k)∈sc.names->k = .free->out.names.lookup n=some .cell
 cs:∀ c∈cs,sc.names.lookup c=some .free
theorem compOk.mk{sc out:Scope}{xs:List Str}{cs:List Str}(h:compOk sc out xs cs=true):CompOk sc out xs cs:=by
 unfold compOk at h
 simp only [Bool.and_eq_true,List.all_eq_true,beq_iff_eq,bne_iff_ne,ne_eq,Bool.or_eq_true] at h
 obtain ⟨⟨⟨⟨⟨⟨h1,h2⟩,h3⟩,h4⟩,h5⟩,h6⟩,h7⟩:=h
 exact ⟨h1,h2,h3,fun y hy hl=>(h4 y hy).resolve_left fun z=>z hl,h5,fun n k hm hk=>(h6 (n,k) hm).resolve_left fun z=>z hk,h7⟩
theorem relabel_free{sc:Scope}{env:Env}{n:Str}(hk:env.scope.kind = .function)(hout:env.scope.names.lookup n=some .cell)(h:sc.names.lookup n=some .free):(relabel sc env).names.lookup n=some .cell:=by
 unfold relabel
 have go:∀ l:List (Str×NameKind),l.lookup n=some .free ->
   (l.map fun (p:Str×NameKind)=>if (p.2 == NameKind.free&&env.scope.kind == .function&&env.kindOf p.1 == some .cell)=true then (p.1,NameKind.cell) else (p.1,p.2)).lookup n=some .cell:=by
  intro l
  induction l with
  | nil=>intro h;simp at h
  | cons p r ih =>
   intro h
   obtain ⟨m,k⟩:=p
   rw [List.lookup_cons] at h
   cases hm:n == m with
   | true =>
    rw [hm] at h
    cases h
    have e:n=m:=by simpa using hm
    subst e
    have hko:env.kindOf n=some .cell:=hout
    rw [List.map_cons]
    simp [hk,hko]
   | false =>
    rw [hm] at h
    rw [List.map_cons]
    by_cases hc:(k == NameKind.free&&env.scope.kind == .function&&env.kindOf m == some .cell)=true
    ·rw [if_pos hc,List.lookup_cons,hm]
     exact ih h
    ·rw [if_neg hc,List.lookup_cons,hm]
     exact ih h
 exact go sc.names h
def cxComp(X:Cx)(xs:List Str)(capt:List Nat)(scope:Scope)(C:Addr)(s:Shared)(H:Hp)(ex:List Addr):Cx :=
 { X with N:=xs++capt.map (fun j=>X.N.getD j ""),s₀:=s,H₀:=H,env:=compEnvC scope (clOf X.env scope.names []) C X.env,outer:=X.stack,ex:=ex,fn:=fun _=>false,pn:=[] }
def PTs(X:Cx)(ifs:List Expr)(t:TT):Prop :=
 ∀ (pins:List (Addr×Obj)) (s:Shared) (σ:St) (H:Hp) (Q:Bool->Hp->Prop),Inv X pins σ H s->t σ H Q ->
  wpAny (model X.prog X.w) X.A (forIn ifs true fun c r=>if r=true then do let ok <-isTrue c X.env (eval c X.env);pure (ForInStep.yield ok) else pure (ForInStep.yield r)) (TP X pins σ Q) X.xe s
def tYes:TT:=fun _ H Q=>Q true H
theorem x_a{X:Cx}:PTs X [] tYes:=fun pins s σ H Q I h=>by
 show wpAny _ _ (pure true) _ _ _
 exact wpAny_pure ⟨H,I,h⟩
theorem pts_one{X:Cx}{c:Expr}{t:TT}(hc:PT X c t):PTs X [c] t:=fun pins s σ H Q I h=>by
 rw [List.forIn_cons]
 simp only [if_true]
 refine wpAny_bind (wpAny_bind (thn (hc pins s σ H Q I h) fun b s1 q=>?_))
 refine wpAny_pure ?_
 show wpAny _ _ (forIn [] b _) _ _ _
 exact wpAny_pure q
theorem compLoop_own{prog:Program}{w:World}{A:Around}{R:Result->Shared->Prop}{s:Shared}{elt target iter:Expr}{ifs:List Expr}{scope:Scope}{pos:Pos}{it acc:Value}{env:Env}(I:Nat->Shared->Prop)
  (turn:∀ n s,I n s->wpAny (model prog w) A (pyNext it) (fun r s₁=>match r with
   | none=>R (.ok .next) s₁
   | some v=>wpAny (model prog w) A (letOwnedTupleGo target it v) (fun _ s₁'=>wpAny (model prog w) A (assign target env v) (fun _ s₂ =>
     wpAny (model prog w) A (forIn ifs true fun c r=>if r=true then do let ok <-isTrue c env (eval c env);pure (ForInStep.yield ok) else pure (ForInStep.yield r)) (fun ok s₃ =>
      if ok=true then wpAny (model prog w) A (eval elt env) (fun x s₄ =>
       wpAny (model prog w) A (call (.builtin "list.append") [acc,x]) (fun _ s₅=>∃ m,m<n/\I m s₅) (notedBy (model prog w) A env fun e s'=>R (.error e) s') s₄) (notedBy (model prog w) A env fun e s'=>R (.error e) s') s₃
      else ∃ m,m<n/\I m s₃) (notedBy (model prog w) A env fun e s'=>R (.error e) s') s₂) (notedBy (model prog w) A env fun e s'=>R (.error e) s') s₁') (notedBy (model prog w) A env fun e s'=>R (.error e) s') s₁) (notedBy (model prog w) A env fun e s'=>R (.error e) s') s)
  (n:Nat) (h:I n s):codeAny (model prog w) A (.compLoop (.ListComp elt [⟨target,iter,ifs,0⟩] scope pos) 0 it acc env) R s:=by
 refine codeAny_loop rfl I (fun n s hI=>?_) n h
 show wpAny _ A ((compTurn (.ListComp elt [⟨target,iter,ifs,0⟩] scope pos) 0 it acc env).onRaise (fun x=>do noteFrame x env;theTreesLotGoes x)) _ _ s
 refine wpAny_noted ?_
 rw [compTurn_list]
 refine wpAny_bind (wpAny_standAt (wpAny_bind (wpAny_mono (turn n s hI) (fun r s₁ h₁=>?_) fun _ _ h'=>h')))
 cases r with
 | none=>exact wpAny_pure h₁
 | some v =>
  refine wpAny_bind (wpAny_mono h₁ (fun _ s₁' h₁'=>?_) fun _ _ h'=>h')
  refine wpAny_bind (wpAny_mono h₁' (fun _ s₂ h₂=>wpAny_bind (wpAny_mono h₂ (fun ok s₃ h₃=>?_) fun _ _ h'=>h')) fun _ _ h'=>h')
  cases ok with
  | false=>exact wpAny_pure ⟨rfl,h₃⟩
  | true =>
   exact wpAny_bind (wpAny_bind (wpAny_mono h₃ (fun x s₄ h₄=>wpAny_bind (wpAny_mono h₄ (fun _ s₅ h₅=>wpAny_pure (wpAny_pure ⟨rfl,h₅⟩)) fun _ _ h'=>h')) fun _ _ h'=>h'))
section
variable {X:Cx} {pins:List (Addr×Obj)} {σ:St} {H H2:Hp} {s s2:Shared} {xs:List Str} {capt:List Nat} {scope:Scope} {fp:List Addr}
abbrev emptyL:Obj:={ cls:=.type "list",dict:=none,data:=.seq ([]:List Value).toArray }
theorem Inv.stk_lt(I:Inv X pins σ H s){b:Addr}(hb:s.heap.objs.size<=b):b∉frs X.stack:=fun z=>by
 rcases List.mem_cons.mp (I.stkSub b z) with e | e
 ·exact absurd (Nat.lt_of_lt_of_le I.lt hb) (by rw [e];exact Nat.lt_irrefl _)
 ·exact I.nofs hb e
theorem comp_cxok(I:Inv X pins σ H2 s2)(ok:CompOk scope X.env.scope xs (capt.map fun j=>X.N.getD j ""))(hf:∀ b∈fp,FpOk X pins H2 b)(hfo:∀ b∈fp,∃ o,s2.heap.get? b=some o){HH:Heap}(eH:HH=s2.heap.push emptyL) :
  (cxComp X xs capt scope HH.objs.size { s2 with heap:=HH } H2 (s2.heap.objs.size::fp)).Ok:=by
 have hsz:HH.objs.size=s2.heap.objs.size+1:=by rw [eH,Heap.size_push]
 have look:∀ y c,(clOf X.env scope.names []).lookup y=some c->X.env.cells.lookup y=some c:=fun y c e=>by
  rw [x_i] at e
  split at e
  ·rename_i ha
   obtain ⟨p,hp,hq⟩:=List.any_eq_true.mp ha
   simp only [Bool.and_eq_true,beq_iff_eq] at hq
   obtain ⟨q1,q2⟩:=hq
   subst q1
   obtain ⟨c',hc'⟩:=I.ok.has p.1 (.inl (ok.free p.1 p.2 hp q2))
   rw [hc'] at e ⊢
   exact e
  ·cases e
 have keep:∀ b o,s2.heap.get? b=some o->HH.get? b=some o:=fun b o e=>by rw [eH];exact Heap.get?_push_of_some _ e
 refine ⟨I.ok.mod,ok.kind,I.ok.glob,I.ok.blt,Nat.le_refl _,fun y z c h1 h2=>I.ok.inj y z c (look y c h1) (look z c h2),fun y hy=>?_,(fun y c h _=>nomatch h),I.ok.hd,I.ok.frames,I.ok.gd,.inl rfl,fun b hb=>?_,fun b o e=>?_,?_,fun b o e hb=>?_,fun b hb=>?_,?_,fun b hb=>I.stkFree b hb⟩
 ·-- each cell's name has its cell
  have hy':(relabel scope X.env).names.lookup y=some .cell\/(relabel scope X.env).names.lookup y=some .free:=hy
  have inn:∀ (l:List (Str×NameKind)) (k:NameKind),(∀ p∈l,p.2 ≠ .cell)->(k = .cell\/k = .free) ->
    (l.map fun (p:Str×NameKind)=>if (p.2 == NameKind.free&&X.env.scope.kind == .function&&X.env.kindOf p.1 == some .cell)=true then (p.1,NameKind.cell) else (p.1,p.2)).lookup y=some k->∃ p∈l,p.1=y/\p.2 = .free:=by
   intro l k hnc hkk
   induction l with
   | nil=>intro h;simp at h
   | cons p r ih =>
    intro h
    obtain ⟨m,k'⟩:=p
    rw [List.map_cons] at h
    by_cases hc:(k' == NameKind.free&&X.env.scope.kind == .function&&X.env.kindOf m == some .cell)=true
    ·rw [if_pos hc,List.lookup_cons] at h
     have hfree:k' = .free:=by
      simp only [Bool.and_eq_true,beq_iff_eq] at hc
      exact hc.1.1
     cases hm:y == m with
     | true=>exact ⟨(m,k'),List.mem_cons_self,by simpa using Eq.symm (by simpa using hm),hfree⟩
     | false =>
      rw [hm] at h
      obtain ⟨p,hp,q⟩:=ih (fun p hp=>hnc p (List.mem_cons_of_mem _ hp)) h
      exact ⟨p,List.mem_cons_of_mem _ hp,q⟩
    ·rw [if_neg hc,List.lookup_cons] at h
     cases hm:y == m with
     | true =>
      rw [hm] at h
      cases h
      rcases hkk with z | z
      ·exact absurd z (hnc (m,k') List.mem_cons_self)
      ·exact ⟨(m,k'),List.mem_cons_self,by simpa using Eq.symm (by simpa using hm),z⟩
     | false =>
      rw [hm] at h
      obtain ⟨p,hp,q⟩:=ih (fun p hp=>hnc p (List.mem_cons_of_mem _ hp)) h
      exact ⟨p,List.mem_cons_of_mem _ hp,q⟩
  have hex:∃ p∈scope.names,p.1=y/\p.2 = .free:=by
   rcases hy' with h | h
   ·exact inn scope.names .cell ok.cell (.inl rfl) h
   ·exact inn scope.names .free ok.cell (.inr rfl) h
  obtain ⟨p,hp,q1,q2⟩:=hex
  refine ⟨_,(x_i (env:=X.env) scope.names []).trans (if_pos (List.any_eq_true.mpr ⟨p,hp,?_⟩))⟩
  simp [q1,q2]
 ·-- the records that turn are not the frame's
  rcases List.mem_cons.mp hb with z | z
  ·subst z
   refine ⟨Nat.ne_of_lt (show s2.heap.objs.size<HH.objs.size by lia),fun y c e q=>?_⟩
   obtain ⟨v,hv⟩:=I.cell y c (look y c e)
   have:=hv.lt
   rw [q] at this
   exact absurd this (Nat.lt_irrefl _)
  ·obtain ⟨o,ho⟩:=hfo b z
   exact ⟨Nat.ne_of_lt (Nat.lt_of_lt_of_le (Heap.lt_size ho) (show s2.heap.objs.size<=HH.objs.size by lia)),fun y c e=>(hf b z).2.2.2.2.1 y c (look y c e)⟩
 ·obtain ⟨h1,h2⟩:=I.bs b o e
  exact ⟨keep b o h1,h2⟩
 ·show X.base.objs.size<=HH.objs.size
  have h1:=I.ok.bsz
  have h2:=I.sz
  lia
 ·-- the base's objects do not turn
  have h0:=(I.bs b o e).1
  rcases List.mem_cons.mp hb with z | z
  ·subst z
   exact absurd (Heap.lt_size h0) (Nat.lt_irrefl _)
  ·rcases (hf b z).2.2.2.1 with q | q
   ·exact I.ok.noex b o e q
   ·have h1:=(I.ok.bs b o e).1
    exact absurd (Nat.lt_of_lt_of_le (Heap.lt_size h1) q) (Nat.lt_irrefl _)
 ·show b∉frs X.stack
  rcases List.mem_cons.mp hb with z | z
  ·subst z
   exact I.stk_lt (Nat.le_refl _)
  ·intro q
   rcases List.mem_cons.mp (I.stkSub b q) with e | e
   ·exact (hf b z).2.1 e
   ·exact (hf b z).2.2.1 e
 ·show HH.FunFrames X.base X.stack
  exact Heap.FunFrames.of_keeps (fun b o e _=>⟨o,keep b o e,rfl⟩) I.stack
theorem comp_inv(I:Inv X pins σ H2 s2)(ok:CompOk scope X.env.scope xs (capt.map fun j=>X.N.getD j ""))(hcap:∀ j∈capt,j<X.N.length)(hf:∀ b∈fp,FpOk X pins H2 b)(hfo:∀ b∈fp,∃ o,s2.heap.get? b=some o)
  {HH h1:Heap} {t:Nat} {m:Str->Option Value} {oc:Obj} (eH:HH=s2.heap.push emptyL) (hns:h1.Ns HH.objs.size m) (hsb:Heap.SameBut HH.objs.size (HH.push oc) h1) :
  Inv (cxComp X xs capt scope HH.objs.size { s2 with heap:=HH } H2 (s2.heap.objs.size::fp)) [(s2.heap.objs.size,emptyL)] (List.replicate xs.length none++capt.map fun j=>(σ[j]?).join) H2 { s2 with heap:=h1,toks:=t }:=by
 have hsz:HH.objs.size=s2.heap.objs.size+1:=by rw [eH,Heap.size_push]
 have look:∀ y c,(clOf X.env scope.names []).lookup y=some c->X.env.cells.lookup y=some c:=fun y c e=>by
  rw [x_i] at e
  split at e
  ·rename_i ha
   obtain ⟨p,hp,hq⟩:=List.any_eq_true.mp ha
   simp only [Bool.and_eq_true,beq_iff_eq] at hq
   obtain ⟨q1,q2⟩:=hq
   subst q1
   obtain ⟨c',hc'⟩:=I.ok.has p.1 (.inl (ok.free p.1 p.2 hp q2))
   rw [hc'] at e ⊢
   exact e
  ·cases e
 have keep0:∀ b o,HH.get? b=some o->h1.get? b=some o:=fun b o e=>hsb.extBut b o (Nat.ne_of_lt (Heap.lt_size e)) (Heap.get?_push_of_some _ e)
 have keep:∀ b o,s2.heap.get? b=some o->h1.get? b=some o:=fun b o e=>keep0 b o (by rw [eH];exact Heap.get?_push_of_some _ e)
 have hD:h1.get? s2.heap.objs.size=some emptyL:=keep0 _ _ (by rw [eH];exact Heap.get?_push_size _ rfl)
 refine ⟨comp_cxok I ok hf hfo eH,rfl,I.bare,Un.kept keep0,⟨m,hns,fun i y v h1' h2 h3=>?_⟩,fun y c e=>?_,I.hok.fresh (show s2.heap.objs.size<=HH.objs.size by lia),fun y c e=>I.freeC y c (look y c e),fun p hp=>?_,I.hok.kept keep,?_⟩
 ·by_cases hi:i<xs.length
  ·have h2':(List.replicate xs.length (none:Option V))[i]? = some (some v):=by
    rw [<-List.getElem?_append_left (l₂:=capt.map fun j=>(σ[j]?).join) (by simpa using hi)]
    exact h2
   rw [List.getElem?_replicate_of_lt hi] at h2'
   cases h2'
  ·have h1'':(capt.map fun j=>X.N.getD j "")[i-xs.length]? = some y:=by
    rw [<-List.getElem?_append_right (l₁:=xs) (by lia)]
    exact h1'
   have h2':(capt.map fun j=>(σ[j]?).join)[i-xs.length]? = some (some v):=by
    have q:=List.getElem?_append_right (l₁:=List.replicate xs.length (none:Option V)) (l₂:=capt.map fun j=>(σ[j]?).join) (i:=i) (by simpa using hi)
    rw [List.length_replicate] at q
    rw [<-q]
    exact h2
   rw [List.getElem?_map] at h1'' h2'
   cases hj:capt[i-xs.length]? with
   | none=>rw [hj] at h1'';cases h1''
   | some j =>
    rw [hj] at h1'' h2'
    have ey:X.N.getD j "" = y:=by simpa using h1''
    have ev:(σ[j]?).join=some v:=by simpa using h2'
    have hjm:j∈capt:=List.mem_of_getElem? hj
    have hjl:=hcap j hjm
    have hN:X.N[j]? = some y:=by
     rw [List.getD_eq_getElem?_getD,List.getElem?_eq_getElem hjl] at ey
     rw [List.getElem?_eq_getElem hjl]
     simpa using ey
    have hσ:σ[j]? = some (some v):=by
     cases e:σ[j]? with
     | none=>rw [e] at ev;cases ev
     | some o=>rw [e] at ev;have ev':o=some v:=ev;rw [ev']
    have hfr:scope.names.lookup y=some .free:=ok.cs y (List.mem_map.mpr ⟨j,hjm,ey⟩)
    have hout:X.env.scope.names.lookup y=some .cell:=ok.free y .free (PySem.mem_of_lookup hfr) rfl
    obtain ⟨mX,_,hl⟩:=I.loc
    obtain ⟨u,ru,lk⟩:=hl j y v hN hσ (.inr (.inl hout))
    refine ⟨u,ru,?_⟩
    have hko:X.env.kindOf y=some .cell:=hout
    rcases lk with ⟨z,_⟩ | ⟨_,c,hc,hcell⟩
    ·rw [hko] at z;cases z
    ·refine .inr ⟨.inl (relabel_free ok.okind hout hfr),c,?_,hcell.keeps keep⟩
     show (clOf X.env scope.names []).lookup y=some c
     rw [x_i,if_pos (List.any_eq_true.mpr ⟨(y,.free),PySem.mem_of_lookup hfr,by simp⟩),hc]
     rfl
 ·obtain ⟨v,hv⟩:=I.cell y c (look y c e)
  exact ⟨v,hv.keeps keep⟩
 ·have hp':p=(s2.heap.objs.size,emptyL):=by simpa [cxComp] using hp
  subst hp'
  refine ⟨hD,I.hok.fresh (Nat.le_refl _),Nat.ne_of_lt (show s2.heap.objs.size<HH.objs.size by lia),I.stk_lt (Nat.le_refl _),fun v z=>by cases z⟩
 ·show _=(xs++capt.map fun j=>X.N.getD j "").length
  simp
def CompG(J:It)(n:Nat)(c:St)(g:TG)(tt:TT)(te:TE)(H1:Hp)(Fin:List V->Hp->Prop):Prop :=
 ∃ W:Nat->Nat->List V->Hp->Prop,(∃ m,W 0 m [] H1)/\∀ i m ys H,W i m ys H->(J.stop i H/\Fin ys H) \/
  (J.go i H/\ys.length<sizeLine/\∃ N:List V->Hp->Prop,(∀ ys' H',N ys' H'->∃ m',m'<m/\W (i+1) m' ys' H') /\
   ∀ x H',J.yld i H x H'->∀ os:St,os.length=n->g x (os++c) H' fun σ1 H1=>tt σ1 H1 fun b H2=>if b=true then te σ1 H2 fun y H3=>N (ys++[y]) H3 else N ys H2)
def tCompG(n:Nat)(g:TG)(capt:List Nat)(wi:TI)(tt:TT)(te:TE):TE:=fun σ H Q=>wi σ H fun J H1 =>
 CompG J n (capt.map fun j=>(σ[j]?).join) g tt te H1 fun ys H=>∀ l,H l=none->Q (.ref l) (upd H l (.lst ys))
def Shp(n:Nat)(g:TG):Prop:=∀ v (os c:St) H Q,os.length=n->g v (os++c) H Q->g v (os++c) H fun σ' H'=>(∃ os':St,os'.length=n/\σ'=os'++c)/\Q σ' H'
def CompW(J:It)(S:V->St)(tt:TT)(te:TE)(H1:Hp)(Fin:List V->Hp->Prop):Prop :=
 ∃ W:Nat->Nat->List V->Hp->Prop,(∃ m,W 0 m [] H1)/\∀ i m ys H,W i m ys H->(J.stop i H/\Fin ys H) \/
  (J.go i H/\ys.length<sizeLine/\∃ N:List V->Hp->Prop,(∀ ys' H',N ys' H'->∃ m',m'<m/\W (i+1) m' ys' H') /\
   ∀ x H',J.yld i H x H'->tt (S x) H' fun b H2=>if b=true then te (S x) H2 fun y H3=>N (ys++[y]) H3 else N ys H2)
def tComp(capt:List Nat)(wi:TI)(tt:TT)(te:TE):TE:=fun σ H Q=>wi σ H fun J H1 =>
 CompW J (fun x=>some x::capt.map fun j=>(σ[j]?).join) tt te H1 fun ys H=>∀ l,H l=none->Q (.ref l) (upd H l (.lst ys))
theorem CompW.g{J:It}{c:St}{tt:TT}{te:TE}{H:Hp}{Fin:List V->Hp->Prop}(h:CompW J (fun x=>some x::c) tt te H Fin):CompG J 1 c (gName 0) tt te H Fin:=by
 obtain ⟨W,w0,st⟩:=h
 refine ⟨W,w0,fun i m ys H w=>?_⟩
 rcases st i m ys H w with q | ⟨go,hl,N,hN,step⟩
 ·exact .inl q
 ·refine .inr ⟨go,hl,N,hN,fun x H' y os hos=>?_⟩
  obtain ⟨o,rfl⟩:=List.length_eq_one_iff.mp hos
  exact step x H' y
theorem shp_name:Shp 1 (gName 0):=fun v os c H Q hos h=>by
 obtain ⟨o,rfl⟩:=List.length_eq_one_iff.mp hos
 exact ⟨⟨[some v],rfl,rfl⟩,h⟩
theorem shp_tup2{K:PySem.W.Frag}:Shp 2 (gTup K 2 (gCons (gName 0) (gCons (gName 1) gNil))):=fun v os c H Q hos h=>by
 match os,hos with
 | [a,b],_ =>
 obtain ⟨p,xs,rfl,hp,hl,v1,r1,rfl,v2,r2,rfl,rfl,q⟩:=h
 exact ⟨p,_,rfl,hp,hl,v1,_,rfl,v2,_,rfl,rfl,⟨[some v1,some v2],rfl,rfl⟩,q⟩
theorem HOk.track{P:Program}{w:World}{H:Hp}{h:Heap}{a:Addr}{o:HO}(k:HOk P w H h)(n:H a=none)(new:ObjOk P w (upd H a o) h a o):HOk P w (upd H a o) h:=fun b u e=>by
 by_cases hb:b=a
 ·subst hb;rw [z_b] at e;cases e;exact new
 ·rw [z_m hb] at e
  exact (k b u e).stay (fun _ _ _ q=>q) (fun c q=>by rw [z_m (z_l q n)];exact q) (fun c xs q=>by rw [z_m (z_l q n)];exact q) fun c ob xs q=>by rw [z_m (z_l q n)];exact q
theorem comp_block{elt iter tg:Expr}{g:TG}{ifs:List Expr}{pos:Pos}{tt:TT}{te:TE}{it:Addr}{tn:Nat->Heap->Prop}{J:It}{RR:Value->Addr->Result->Shared->Prop}
  (hx0:∀ e s,¬X.xe e s) (hc:X.calm=true) (ok:CompOk scope X.env.scope xs (capt.map fun j=>X.N.getD j "")) (hcap:∀ j∈capt,j<X.N.length) (hG:∀ C s H ex,PG (cxComp X xs capt scope C s H ex) tg g) (hgs:Shp xs.length g)
  (hT:∀ C s H ex,PTs (cxComp X xs capt scope C s H ex) ifs tt) (hE:∀ C s H ex,PE (cxComp X xs capt scope C s H ex) elt te)
  (I2:Inv X pins σ H2 s2) (T:Turn X.prog X.w X.K tg J fp it tn) (st2:tn 0 s2.heap) (f2:∀ b∈fp,FpOk X pins H2 b)
  (Fin:List V->Hp->Prop) (hW:CompG J xs.length (capt.map fun j=>(σ[j]?).join) g tt te H2 Fin)
  (hRR:∀ D C s' ys H' oc,H' D=none->Fin ys H'->Inv X pins σ (upd H' D (.lst ys)) s'->s'.heap.get? C=some oc->(∃ m,s'.heap.Ns C m)->C≠D->H' C=none->C≠X.env.locals->C∉frs X.stack->X.s₀.heap.objs.size<=C->(∀ y c,X.env.cells.lookup y=some c->c≠C)->(∀ p∈X.pn++pins,p.1≠C) ->
   (∀ v,oc.data ≠ .cell v)->RR (.ref D) C (.ok .next) s') :
  wpAny (model X.prog X.w) X.A (newList []) (fun acc s₃=>wpAny (model X.prog X.w) X.A (newFunctionEnv scope X.env.globals (clOf X.env scope.names []) [] X.env.qual none .none (some X.env)) (fun cenv s₄ =>
   codeAny (model X.prog X.w) X.A (.compStart (.ListComp elt [⟨tg,iter,ifs,0⟩] scope pos) 0 (.ref it) acc { cenv with scope:=relabel scope X.env }) (RR acc cenv.locals) s₄) X.xe s₃) X.xe s2:=by
 refine wpAny_newObj_type (wpAny_newFunctionEnv ok.cell (by intro y hy;simp at hy) (fun h1 hns hsb=>?_) ok.kind)
 dsimp only at hns hsb ⊢
 generalize eH:s2.heap.push { cls:=.type "list",dict:=none,data:=.seq ([]:List Value).toArray }=HH at hns hsb ⊢
 have eH':HH=s2.heap.push emptyL:=eH.symm
 have hsz:HH.objs.size=s2.heap.objs.size+1:=by rw [eH',Heap.size_push]
 have hfo:∀ b∈fp,∃ o,s2.heap.get? b=some o:=fun b hb=>let ⟨o,ho,_⟩:=T.obj 0 _ st2 b hb;⟨o,ho⟩
 have flt:∀ b∈fp,b<s2.heap.objs.size:=fun b hb=>let ⟨o,ho⟩:=hfo b hb;Heap.lt_size ho
 have keep1:∀ b o,s2.heap.get? b=some o->h1.get? b=some o:=fun b o e =>
  hsb.extBut b o (Nat.ne_of_lt (Nat.lt_of_lt_of_le (Heap.lt_size e) (show s2.heap.objs.size<=HH.objs.size by lia))) (Heap.get?_push_of_some _ (by rw [eH'];exact Heap.get?_push_of_some _ e))
 have I4:=comp_inv (t:=s2.toks+([]:List (Str×Value)).length) I2 ok hcap f2 hfo eH' hns hsb
 have st4:tn 0 h1:=T.keep 0 _ _ st2 fun b _ o e=>keep1 b o e
 obtain ⟨W,⟨m0,w0⟩,turn⟩:=hW
 generalize hX:cxComp X xs capt scope HH.objs.size { s2 with heap:=HH } H2 (s2.heap.objs.size::fp)=Y at I4
 have eProg:Y.prog=X.prog:=by rw [<-hX];rfl
 have eW:Y.w=X.w:=by rw [<-hX];rfl
 have eK:Y.K=X.K:=by rw [<-hX];rfl
 have eA:Y.A=X.A:=by rw [<-hX];rfl
 have eEnv:Y.env=compEnvC scope (clOf X.env scope.names []) HH.objs.size X.env:=by rw [<-hX];rfl
 have eXe:Y.xe=X.xe:=by rw [<-hX];rfl
 have eCalm:Y.calm=true:=by rw [<-hX];exact hc
 have ePn:Y.pn=[]:=by rw [<-hX];rfl
 have eEx:Y.ex=s2.heap.objs.size::fp:=by rw [<-hX];rfl
 have eFs:Y.fs=frs X.stack:=by rw [<-hX];rfl
 have hT':PTs Y ifs tt:=by rw [<-hX];exact hT _ _ _ _
 have hE':PE Y elt te:=by rw [<-hX];exact hE _ _ _ _
 have hG':PG Y tg g:=by rw [<-hX];exact hG _ _ _ _
 have eH0:Y.H₀=H2:=by rw [<-hX];rfl
 have eS0:Y.s₀={ s2 with heap:=HH }:=by rw [<-hX];rfl
 have eL:Y.env.locals=HH.objs.size:=by rw [eEnv];rfl
 have ecl:Y.env.cells=clOf X.env scope.names []:=by rw [eEnv];rfl
 have look:∀ y c,(clOf X.env scope.names []).lookup y=some c->X.env.cells.lookup y=some c:=fun y c e=>by
  rw [x_i] at e
  split at e
  ·rename_i ha
   obtain ⟨p,hp,hq⟩:=List.any_eq_true.mp ha
   simp only [Bool.and_eq_true,beq_iff_eq] at hq
   obtain ⟨q1,q2⟩:=hq
   subst q1
   obtain ⟨c',hc'⟩:=I2.ok.has p.1 (.inl (ok.free p.1 p.2 hp q2))
   rw [hc'] at e ⊢
   exact e
  ·cases e
 have fpOk:∀ {pins':List (Addr×Obj)} {H':Hp},(∀ b∈fp,H' b=none)->(∀ p∈pins',p.1∉fp)->∀ b∈fp,FpOk Y pins' H' b:=fun {pins' H'} hn hp b hb=>by
  have hlt:=flt b hb
  refine ⟨hn b hb,by rw [eL];exact Nat.ne_of_lt (Nat.lt_of_lt_of_le hlt (show s2.heap.objs.size<=HH.objs.size by lia)),?_,.inl (by rw [eEx];exact List.mem_cons_of_mem _ hb),fun y c e=>(f2 b hb).2.2.2.2.1 y c (look y c (by rw [<-ecl];exact e)),fun p hpp z=>?_⟩
  ·rw [eFs]
   intro q
   rcases List.mem_cons.mp (I2.stkSub b q) with e | e
   ·exact (f2 b hb).2.1 e
   ·exact (f2 b hb).2.2.1 e
  ·rw [ePn,List.nil_append] at hpp
   exact hp p hpp (by rw [z];exact hb)
 have Dnf:s2.heap.objs.size∉fp:=fun z=>absurd (flt _ z) (Nat.lt_irrefl _)
 have loop:codeAny (model X.prog X.w) X.A (.compLoop (.ListComp elt [⟨tg,iter,ifs,0⟩] scope pos) 0 (.ref it) (.ref s2.heap.objs.size) Y.env) (RR (.ref s2.heap.objs.size) HH.objs.size) { s2 with heap:=h1,toks:=s2.toks+([]:List (Str×Value)).length }:=by
  refine compLoop_own (fun n s'=>∃ i ys its k os H',Inv Y [(s2.heap.objs.size,{ cls:=.type "list",data:=.seq its.toArray k })] (os++capt.map fun j=>(σ[j]?).join) H' s'/\os.length=xs.length/\Vals ys its/\ys.length<=sizeLine/\tn i s'.heap/\(∀ b∈fp,H' b=none)/\W i n ys H') ?_ m0
   ⟨0,[],[],0,_,H2,I4,List.length_replicate,.nil,Nat.zero_le _,st4,fun b hb=>(f2 b hb).1,w0⟩
  rintro n s3 ⟨i,ys,its,k,os,H3,I3,hos,rv,hys,st3,fr3,w3⟩
  have noErr:∀ {e:Value} {s:Shared},X.xe e s->notedBy (model X.prog X.w) X.A Y.env (fun e s'=>RR (.ref s2.heap.objs.size) HH.objs.size (.error e) s') e s:=fun {e s} z=>(hx0 e s z).elim
  have pinD:=I3.pin (s2.heap.objs.size,{ cls:=.type "list",data:=.seq its.toArray k }) (by simp)
  have fp3:=fpOk (pins':=[(s2.heap.objs.size,{ cls:=.type "list",data:=.seq its.toArray k })]) fr3 (by simpa using Dnf)
  rcases turn i n ys H3 w3 with ⟨stop,fin⟩ | ⟨go,hlt,N,hN,step⟩
  ·-- it stops
   have d:=T.done Y eProg eW eK eCalm i _ s3 _ H3 X.xe I3 fp3 st3 stop
   rw [eA] at d
   refine wpAny_mono d (fun r s4 ⟨hr,I4'⟩=>?_) fun e s z=>noErr z
   subst hr
   show RR (.ref s2.heap.objs.size) HH.objs.size (.ok .next) s4
   have pinD4:=I4'.pin (s2.heap.objs.size,{ cls:=.type "list",data:=.seq its.toArray k }) (by simp)
   obtain ⟨mC,nsC,_⟩:=I4'.loc
   rw [eL] at nsC
   obtain ⟨oC,esC,epC,hoC,hdC,_⟩:=id nsC
   have base4:=I4'.base
   rw [eFs,eEx,eH0,eS0] at base4
   have hCn:H3 HH.objs.size=none:=by rw [<-eL];exact I4'.free
   refine hRR s2.heap.objs.size HH.objs.size s4 ys H3 oC pinD4.2.1 fin ?_ hoC ⟨mC,nsC⟩ (Nat.ne_of_gt (show s2.heap.objs.size<HH.objs.size by lia)) hCn (Nat.ne_of_gt (Nat.lt_of_lt_of_le I2.lt (show s2.heap.objs.size<=HH.objs.size by lia))) (I2.stk_lt (by lia)) (by have:=I2.sz;lia) (fun y c e z=>?_) (fun p hp z=>?_) (fun v z=>by rw [hdC] at z;cases z)
   ·have hok4:=I4'.hok
    rw [eProg,eW] at hok4
    have hbl:∀ b ob,s2.heap.get? b=some ob->b∉fp->HH.get? b=some ob/\b∉s2.heap.objs.size::fp:=fun b ob e hm =>
     ⟨by rw [eH'];exact Heap.get?_push_of_some _ e,fun z=>(List.mem_cons.mp z).elim (fun q=>absurd (Heap.lt_size e) (by rw [q];exact Nat.lt_irrefl _)) hm⟩
    refine I2.call' (ch:=fp) (by rw [I4'.os,eS0]) ⟨fun b ob e nn hb hx=>?_,fun b ob e nn hb hx=>?_,fun b ob e nn hx=>?_,fun b ob e hx=>?_,fun b xs e=>?_,fun b ob u e=>?_,fun b pp qq e=>?_⟩ (HOk.track hok4 pinD4.2.1 ⟨hys,its,k,rv,pinD4.1⟩) I4'.bare fun b hb=>⟨(f2 b hb).2.2.2.1,(f2 b hb).2.1,(f2 b hb).2.2.2.2.1,(f2 b hb).2.2.2.2.2⟩
    ·obtain ⟨h1',h2'⟩:=hbl b ob e hx
     exact base4.keep b ob h1' nn hb h2'
    ·obtain ⟨h1',h2'⟩:=hbl b ob e hx
     exact base4.slot b ob h1' nn hb h2'
    ·obtain ⟨h1',h2'⟩:=hbl b ob e hx
     rw [z_m (Nat.ne_of_lt (Heap.lt_size e))]
     exact base4.free b ob h1' nn h2'
    ·obtain ⟨h1',h2'⟩:=hbl b ob e hx
     exact base4.there b ob h1' h2'
    ·have q:=base4.tups b xs e
     rw [z_m (z_l q pinD4.2.1)]
     exact q
    ·have q:=base4.frzs b ob u e
     rw [z_m (z_l q pinD4.2.1)]
     exact q
    ·have q:=base4.tbls b pp qq e
     rw [z_m (z_l q pinD4.2.1)]
     exact q
   ·obtain ⟨v,hv⟩:=I2.cell y c e
    have:=hv.lt
    rw [z] at this
    exact absurd this (Nat.not_lt.mpr (show s2.heap.objs.size<=HH.objs.size by lia))
   ·have:=Heap.lt_size (I2.pin p hp).1
    rw [z] at this
    exact absurd this (Nat.not_lt.mpr (show s2.heap.objs.size<=HH.objs.size by lia))
  ·-- one turn
   have d:=T.item Y eProg eW eK eCalm i _ s3 _ H3 X.xe I3 fp3 st3 go
   rw [eA] at d
   refine wpAny_mono d (fun r s4 ⟨u,hr,h4⟩=>?_) fun e s z=>noErr z
   subst hr
   refine wpAny_mono h4 (fun _ s5 ⟨v,H5,I5,r5,y5,st5,fr5⟩=>?_) fun e s z=>noErr z
   have fp5:=fpOk (pins':=[(s2.heap.objs.size,{ cls:=.type "list",data:=.seq its.toArray k })]) fr5 (by simpa using Dnf)
   have I5':=I5.pinned fp5 (T.obj _ _ st5)
   have pg':=hG' _ s5 _ H5 v u _ I5' r5 (hgs v os _ H5 _ hos (step v H5 y5 os hos))
   rw [eProg,eW,eA,eXe] at pg'
   refine wpAny_mono pg' (fun _ s6 ⟨σ6,H6,I6,⟨os6,hos6,e6⟩,q6⟩=>?_) fun e s z=>noErr z
   subst e6
   have t6:=hT' _ s6 _ H6 _ I6 q6
   rw [eProg,eW,eA,eXe] at t6
   refine wpAny_mono t6 (fun b s7 ⟨H7,I7,q7⟩=>?_) fun e s z=>noErr z
   have ntn:∀ {σ':St} {H':Hp} {s':Shared},Inv Y ([(s2.heap.objs.size,{ cls:=.type "list",data:=.seq its.toArray k })]++pinsAt fp s5.heap) σ' H' s'->tn (i+1) s'.heap/\∀ b∈fp,H' b=none:=fun {σ' H' s'} J'=>by
    refine ⟨T.keep _ _ _ st5 fun b hb o e=>(J'.pin (b,o) (List.mem_append_right _ (List.mem_append_right _ (mem_pinsAt hb e)))).1,fun b hb=>?_⟩
    obtain ⟨o,e,_⟩:=T.obj _ _ st5 b hb
    exact (J'.pin (b,o) (List.mem_append_right _ (List.mem_append_right _ (mem_pinsAt hb e)))).2.1
   cases b with
   | false =>
    rw [if_neg Bool.false_ne_true] at q7
    obtain ⟨m',hm,w7⟩:=hN _ _ q7
    rw [if_neg Bool.false_ne_true]
    exact ⟨m',hm,i+1,ys,its,k,os6,H7,I7.unpinned,hos6,rv,hys,(ntn I7).1,(ntn I7).2,w7⟩
   | true =>
    rw [if_pos rfl] at q7
    rw [if_pos rfl]
    have e7:=hE' _ s7 _ H7 _ I7 q7
    rw [eProg,eW,eA,eXe] at e7
    refine wpAny_mono e7 (fun uy s8 ⟨y,H8,I8,r8,n8⟩=>?_) fun e s z=>noErr z
    obtain ⟨m',hm,w8⟩:=hN _ _ n8
    have pin8:=I8.pin (s2.heap.objs.size,{ cls:=.type "list",data:=.seq its.toArray k }) (by simp)
    have hlen:ys.length=its.length:=rv.length
    refine wpAny_list_append_plain (hsz:=by rw [List.size_toArray];lia) ⟨k,pin8.1⟩ fun h9 ⟨k9,hl9⟩ hs9=>?_
    have hk9:∀ b o,b≠s2.heap.objs.size->s8.heap.get? b=some o->h9.get? b=some o:=fun b o hb e=>(hs9.2 b hb).trans e
    have I8u:Inv Y (pinsAt fp s5.heap) (os6++capt.map fun j=>(σ[j]?).join) H8 s8:=I8.pins_of fun p hp=>I8.pin p (List.mem_append_right _ (List.mem_append_right _ hp))
    have I9:Inv Y (pinsAt fp s5.heap) (os6++capt.map fun j=>(σ[j]?).join) H8 { s8 with heap:=h9,toks:=s8.toks }:=I8u.turned (it:=s2.heap.objs.size) hk9 pin8.2.1 (by rw [eL];exact Nat.ne_of_lt (show s2.heap.objs.size<HH.objs.size by lia)) (.inl (by rw [eEx];exact List.mem_cons_self))
     (fun y c e z=>by
      rw [ecl] at e
      obtain ⟨v',hv⟩:=I2.cell y c (look y c e)
      have:=hv.lt
      rw [z] at this
      exact absurd this (Nat.lt_irrefl _))
     (fun p hp z=>by
      rw [ePn,List.nil_append] at hp
      exact Dnf (by rw [<-z];exact (of_pinsAt hp).1))
    have hl9':h9.get? s2.heap.objs.size=some { cls:=.type "list",data:=.seq (its++[uy]).toArray k9 }:=by
     rw [hl9];simp
    refine ⟨m',hm,i+1,ys++[y],its++[uy],k9,os6,H8,I9.pins_of fun p hp=>?_,hos6,rv.append (.cons r8 .nil),?_,?_,(ntn I8).2,w8⟩
    ·have hp':p=(s2.heap.objs.size,{ cls:=.type "list",data:=.seq (its++[uy]).toArray k9 }):=by simpa using hp
     subst hp'
     exact ⟨hl9',pin8.2.1,pin8.2.2.1,pin8.2.2.2.1,fun v z=>by cases z⟩
    ·rw [List.length_append,List.length_singleton];lia
    ·refine T.keep _ _ _ (ntn I8).1 fun b hb o e=>hk9 b o (fun z=>Dnf (by rw [<-z];exact hb)) e
 rw [eEnv] at loop
 refine codeAny_compStart_list ?_ ?_
 ·exact loop
 ·exact T.self _ 0 _ _ _ st4 loop
theorem pe_compG{elt iter tg:Expr}{g:TG}{ifs:List Expr}{pos:Pos}{wi:TI}{tt:TT}{te:TE}(xs:List Str)(capt:List Nat)
  (hx0:∀ e s,¬X.xe e s) (hc:X.calm=true) (hi:PI X tg iter wi) (hG:∀ C s H ex,PG (cxComp X xs capt scope C s H ex) tg g) (hgs:Shp xs.length g)
  (hT:∀ C s H ex,PTs (cxComp X xs capt scope C s H ex) ifs tt) (hE:∀ C s H ex,PE (cxComp X xs capt scope C s H ex) elt te)
  (hk:compOk scope X.env.scope xs (capt.map fun j=>X.N.getD j "")=true) (hcap:∀ j∈capt,j<X.N.length)
  (hs:∀ y,foldedSetIterable iter X.env y=pure y:=by intro _;rfl):PE X (.ListComp elt [⟨tg,iter,ifs,0⟩] scope pos) (tCompG xs.length g capt wi tt te):=by
 intro pins s σ H Q I h
 have ok:=compOk.mk hk
 rw [eval_ListComp]
 refine wpAny_comprehension_free (use:=none) (cl:=clOf X.env scope.names []) rfl hs (closure_clOf fun n k hm hf=>?_) ok.kind ok.names (thn (hi pins s σ H _ I h) fun xv s1 h1=>thn h1 fun itv s2 h2=>?_)
 ·obtain ⟨c,e⟩:=I.ok.has n (.inl (ok.free n k hm (by simpa using hf)))
  rw [e];rfl
 ·obtain ⟨it,fp,tn,J,H2,e,I2,T,st2,f2,hW⟩:=h2
  subst e
  refine comp_block (RR:=fun acc C=>compPost (model X.prog X.w) X.A X.xe none (EP X pins σ Q) acc C) hx0 hc ok hcap hG hgs hT hE I2 T st2 f2 (fun ys H=>∀ l,H l=none->Q (.ref l) (upd H l (.lst ys))) hW ?_
  intro D C s' ys H' oc hD fin I' hC ⟨m,hns⟩ hCD hCn hL _ hsz hcl hpn _
  refine ⟨m,hns,fun h' hsb=>⟨.ref D,_,I'.turned (t':=s'.toks) (it:=C) (fun b o hb e=>(hsb.2 b hb).trans e) (by rw [z_m hCD];exact hCn) hL (.inr hsz) hcl hpn,rfl,fin D hD⟩⟩
theorem pe_comp{elt iter:Expr}{x:Str}{px:Pos}{ifs:List Expr}{pos:Pos}{wi:TI}{tt:TT}{te:TE}(capt:List Nat)
  (hx0:∀ e s,¬X.xe e s) (hc:X.calm=true) (hi:PI X (.Name x px) iter wi)
  (hT:∀ C s H ex,PTs (cxComp X [x] capt scope C s H ex) ifs tt) (hE:∀ C s H ex,PE (cxComp X [x] capt scope C s H ex) elt te)
  (hk:compOk scope X.env.scope [x] (capt.map fun j=>X.N.getD j "")=true) (hcap:∀ j∈capt,j<X.N.length) (hnd:(x::capt.map fun j=>X.N.getD j "").Nodup)
  (hs:∀ y,foldedSetIterable iter X.env y=pure y:=by intro _;rfl):PE X (.ListComp elt [⟨.Name x px,iter,ifs,0⟩] scope pos) (tComp capt wi tt te):=by
 intro pins s σ H Q I h
 have ok:=compOk.mk hk
 rw [eval_ListComp]
 refine wpAny_comprehension_free (use:=none) (cl:=clOf X.env scope.names []) rfl hs (closure_clOf fun n k hm hf=>?_) ok.kind ok.names (thn (hi pins s σ H _ I h) fun xv s1 h1=>thn h1 fun itv s2 h2=>?_)
 ·obtain ⟨c,e⟩:=I.ok.has n (.inl (ok.free n k hm (by simpa using hf)))
  rw [e];rfl
 ·obtain ⟨it,fp,tn,J,H2,e,I2,T,st2,f2,hW⟩:=h2
  subst e
  refine comp_block (RR:=fun acc C=>compPost (model X.prog X.w) X.A X.xe none (EP X pins σ Q) acc C) hx0 hc ok hcap (xs:=[x]) (g:=gName 0) (fun C s H ex=>y_c hnd rfl (.inl (lookup_relabel_local (ok.x x (by simp)))) (.inr (lookup_relabel_local (ok.x x (by simp))))) shp_name hT hE I2 T st2 f2 (fun ys H=>∀ l,H l=none->Q (.ref l) (upd H l (.lst ys))) hW.g ?_
  intro D C s' ys H' oc hD fin I' hC ⟨m,hns⟩ hCD hCn hL _ hsz hcl hpn _
  refine ⟨m,hns,fun h' hsb=>⟨.ref D,_,I'.turned (t':=s'.toks) (it:=C) (fun b o hb e=>(hsb.2 b hb).trans e) (by rw [z_m hCD];exact hCn) hL (.inr hsz) hcl hpn,rfl,fin D hD⟩⟩
theorem ps_comp{elt iter:Expr}{x:Str}{px:Pos}{py:Pos}{ifs:List Expr}{pos spos:Pos}{wi:TI}{tt:TT}{te:TE}{i:Nat}{y:Str}(capt:List Nat)
  (hN:X.N.Nodup) (hiy:X.N[i]? = some y) (hy:Loc X.env.scope y)
  (hx0:∀ e s,¬X.xe e s) (hc:X.calm=true) (hi:PI X (.Name x px) iter wi)
  (hT:∀ C s H ex,PTs (cxComp X [x] capt scope C s H ex) ifs tt) (hE:∀ C s H ex,PE (cxComp X [x] capt scope C s H ex) elt te)
  (hk:compOk scope X.env.scope [x] (capt.map fun j=>X.N.getD j "")=true) (hcap:∀ j∈capt,j<X.N.length) (hnd:(x::capt.map fun j=>X.N.getD j "").Nodup)
  (hsw:swapsWith (.ListComp elt [⟨.Name x px,iter,ifs,0⟩] scope pos) (some (.Name y py)) spos.line X.env=pure true)
  (hs:∀ y,foldedSetIterable iter X.env y=pure y:=by intro _;rfl) (hf:X.fn y=true\/X.env.scope.names.lookup y=some .local:=by first | exact .inl rfl | exact .inr rfl | assumption) :
  PS X (.Assign [.Name y py] (.ListComp elt [⟨.Name x px,iter,ifs,0⟩] scope pos) spos) (tAsg (tComp capt wi tt te) (gName i)):=by
 intro pins s σ H D0 I h
 have ok:=compOk.mk hk
 rw [exec_Assign_Name_used _ _ _ _ hsw]
 refine wpAny_bind (wpAny_standAt (wpAny_bind ?_))
 show wpAny _ X.A (do let _ <-comprehension (.ListComp elt [⟨.Name x px,iter,ifs,0⟩] scope pos) scope X.env _ (newList []) false (eval iter X.env) (some (assign (.Name y py) X.env))) _ _ s
 refine wpAny_bind (wpAny_mono (wpAny_comprehension_free (use:=some (assign (.Name y py) X.env)) (cl:=clOf X.env scope.names []) (Q:=fun _ s'=>SP X pins D0 .next s') rfl hs (closure_clOf fun n k hm hf=>?_) ok.kind ok.names (thn (hi pins s σ H _ I h) fun xv s1 h1=>thn h1 fun itv s2 h2=>?_))
  (fun _ s' hq=>wpAny_pure (wpAny_pure hq)) fun _ _ e=>e)
 ·obtain ⟨c,e⟩:=I.ok.has n (.inl (ok.free n k hm (by simpa using hf)))
  rw [e];rfl
 ·obtain ⟨it,fp,tn,J,H2,e,I2,T,st2,f2,hW⟩:=h2
  subst e
  refine comp_block (RR:=fun acc C=>compPost (model X.prog X.w) X.A X.xe (some (assign (.Name y py) X.env)) (fun _ s'=>SP X pins D0 .next s') acc C) hx0 hc ok hcap (xs:=[x]) (g:=gName 0) (fun C s H ex=>y_c hnd rfl (.inl (lookup_relabel_local (ok.x x (by simp)))) (.inr (lookup_relabel_local (ok.x x (by simp))))) shp_name hT hE I2 T st2 f2 (fun ys H=>∀ l,H l=none->gName i (.ref l) σ (upd H l (.lst ys)) D0.nx) hW.g ?_
  intro D C s' ys H' oc hD fin I' hC ⟨m,hns⟩ hCD hCn hL hst hsz hcl hpn hnc
  show wpAny _ _ (assign (.Name y py) X.env (.ref D)) _ _ s'
  have hCf:C∉X.fs:=fun z=>by
   rcases I'.ok.stk with e | ⟨e,_⟩
   ·exact hst (by rw [e];exact z)
   ·refine hst ?_
    rw [e]
    unfold frs
    rw [List.filterMap_cons]
    split
    ·exact z
    ·exact List.mem_cons_of_mem _ z
  have Ip:Inv X (pins++[(C,oc)]) σ (upd H' D (.lst ys)) s':=I'.pins_of fun p hp=>(List.mem_append.mp hp).elim (fun z=>I'.pin p (List.mem_append_right _ z)) fun z=>by
   have z':p=(C,oc):=by simpa using z
   subst z'
   exact ⟨hC,by rw [z_m hCD];exact hCn,hL,hCf,hnc⟩
  have pg:=y_c (X:=X) (i:=i) (x:=y) (pos:=py) hN hiy hy hf
  refine thn (pg _ s' σ _ (.ref D) (.ref D) (fun σ' H''=>D0.nx σ' H''/\H''=upd H' D (.lst ys)) Ip rfl ⟨fin D hD,rfl⟩) fun _ s'' ⟨σ',H'',I'',q,eH⟩=>?_
  subst eH
  have pC:=I''.pin (C,oc) (by simp)
  obtain ⟨o,es,ep,ho,r⟩:=hns
  rw [hC] at ho
  cases ho
  refine ⟨m,⟨oc,es,ep,pC.1,r⟩,fun h' hsb=>?_⟩
  have Iu:Inv X pins σ' (upd H' D (.lst ys)) s'':=I''.pins_of fun p hp=>I''.pin p (List.mem_append_right _ (List.mem_append_left _ hp))
  exact ⟨σ',_,Iu.turned (t':=s''.toks) (it:=C) (fun b o hb e=>(hsb.2 b hb).trans e) pC.2.1 hL (.inr hsz) hcl hpn,q⟩
end
open PySem PySem.Spec PyProof.Rows
section
variable {X:Cx}
def bigB:Int:=1645504557321206042154969182557350504982735865633579863348609024
def CDivL(i j:Int):Prop:=0<j/\j<bigB
theorem log2_lt_of{n k:Nat}(h:n<2^k)(hk:0<k):n.log2<k:=by
 by_cases h0:n=0
 ·subst h0;simpa using hk
 ·exact (Nat.log2_lt h0).mpr h
theorem op_fdivL:OpR X (binaryOp .FloorDiv) (rI CDivL fun i j=>.int (i/j)):=opI fun i j _ _ _ _ _ hc q=>by
 have h1:(0:Int)<j:=hc.1
 have h2:j<bigB:=hc.2
 refine floordiv_int (by lia) (by rw [Int.fdiv_eq_ediv_of_nonneg i (by lia)];exact q) (.inl (PyProof.noPylong_of_log2 ?_))
 have h3:j.natAbs<2^210:=by
  have e:(2^210:Nat)=1645504557321206042154969182557350504982735865633579863348609024:=by decide
  unfold bigB at h2
  rw [e]
  lia
 exact Nat.lt_of_lt_of_le (log2_lt_of h3 (by decide)) (by decide)
theorem x_h{T:String}:CallR X (.builtin "isinstance") (fun xs H Q=>∃ x t b,xs=[x,.ty T]/\TyOf X.K H x t/\PySem.W.kitOne X.K t (.type T)=some b/\Q (.bl b) H):=by
 intro pins s σ H xs us Q I r h
 obtain ⟨x,t,b,rfl,ty,e,q⟩:=h
 obtain ⟨u,w',rfl,rx,rt⟩:=vals2 r
 cases rt
 exact isinst_ok I rx ty e fun tk=>⟨.bl b,H,I.tok _,rfl,q⟩
theorem bools_of{bs:List Bool}:∀ {us:List Value},Vals (bs.map V.bl) us->us=bs.map Value.bool:=by
 induction bs with
 | nil=>intro us r;cases r;rfl
 | cons b bs ih =>
  intro us r
  rw [List.map_cons] at r
  cases r with
  | cons r1 r2 =>
   cases r1
   rw [ih r2,List.map_cons]
theorem call_all:CallR X (.builtin "all") (fun xs H Q=>X.calm=true/\∃ (p:Addr) (bs:List Bool),xs=[.ref p]/\SqL X.K H p (bs.map V.bl)/\Q (.bl (bs.all id)) H):=by
 intro pins s σ H xs us Q I r h
 obtain ⟨hc,p,bs,rfl,hp,q⟩:=h
 obtain ⟨u,rfl,ru⟩:=vals1 r
 cases ru
 obtain ⟨its,rv,pl,hz⟩:=I.list hp
 have e:=bools_of rv
 subst e
 have hl:=pl.isList
 have hlt:p<s.heap.objs.size:=by obtain ⟨_,e,_⟩:=hl;exact Heap.lt_size e
 refine call_all_walk (wpAny_pyIter_list hl ?_)
 refine ⟨s.heap.objs.size,[s.heap.objs.size,p],[s.heap.objs.size],(bs.map Value.bool).toArray.size,_,_,fun i=>(bs[i]?).getD true,rfl,Walks.list (A:=X.A.in1) (I.ok.hd hc) _ p (Nat.ne_of_lt hlt) (bs.map Value.bool).toArray,
  ⟨⟨_,Heap.get?_push_size _ rfl,rfl,rfl⟩,hl.push _⟩,fun i v s' Q' E' hP hQ=>?_,fun h' tk hk=>?_⟩
 ·have hP':(bs.map Value.bool)[i]? = some v:=by simpa using hP
  rw [List.getElem?_map] at hP'
  cases e:bs[i]? with
  | none=>rw [e] at hP';cases hP'
  | some b =>
   rw [e] at hP'
   have ev:Value.bool b=v:=Option.some.inj hP'
   subst ev
   simp only [e,Option.getD_some] at hQ
   exact wpAny_truthy_bool hQ
 ·have e:((List.range (bs.map Value.bool).toArray.size).all fun i=>(bs[i]?).getD true)=bs.all id:=by
   rw [List.size_toArray,List.length_map]
   rw [Bool.eq_iff_iff,List.all_eq_true,List.all_eq_true]
   constructor
   ·intro h b hb
    obtain ⟨i,hi,rfl⟩:=List.mem_iff_getElem.mp hb
    have:=h i (List.mem_range.mpr hi)
    rw [List.getElem?_eq_getElem hi] at this
    exact this
   ·intro h i hi
    have hi':=List.mem_range.mp hi
    rw [List.getElem?_eq_getElem hi']
    exact h _ (List.getElem_mem hi')
  rw [e]
  exact ⟨.bl _,H,I.kept (t':=tk) fun b o eb=>hk b o (fun z=>by rw [List.mem_singleton.mp z] at eb;exact Nat.lt_irrefl _ (Heap.lt_size eb)) (Heap.get?_push_of_some _ eb),rfl,q⟩
end
section
variable {S:V->St} {tt:TT} {te:TE} {H:Hp} {Fin:List V->Hp->Prop}
theorem comp_range{lo:Int}{n:Nat}(Pv:Nat->List V->Hp->Prop)(h0:Pv 0 [] H)(hz:∀ i ys H,i<n->Pv i ys H->ys.length<sizeLine)
  (hs:∀ i ys H,i<n->Pv i ys H->tt (S (.int (lo+i))) H fun b H2=>if b=true then te (S (.int (lo+i))) H2 fun y H3=>Pv (i+1) (ys++[y]) H3 else Pv (i+1) ys H2)
  (hd:∀ ys H,Pv n ys H->Fin ys H):CompW (Itr lo n) S tt te H Fin:=by
 refine ⟨fun i m ys H=>m=n-i/\i<=n/\Pv i ys H,⟨n,by simp,Nat.zero_le _,h0⟩,?_⟩
 rintro i m ys H ⟨rfl,hi,p⟩
 by_cases hlt:i<n
 ·refine .inr ⟨hlt,hz i ys H hlt p,Pv (i+1),fun ys' H' p'=>⟨n-(i+1),by lia,rfl,hlt,p'⟩,fun x H' y=>?_⟩
  obtain ⟨e,y⟩:=y
  subst e y
  exact hs i ys _ hlt p
 ·have e:i=n:=by lia
  subst e
  exact .inl ⟨Nat.le_refl _,hd ys H p⟩
theorem comp_list{K:PySem.W.Frag}{a:Addr}{xs:List V}(Pv:Nat->List V->Hp->Prop)(h0:Pv 0 [] H)(hl:∀ i ys H,i<=xs.length->Pv i ys H->SqL K H a xs)(hz:∀ i ys H,i<xs.length->Pv i ys H->ys.length<sizeLine)
  (hs:∀ i x ys H,xs[i]? = some x->Pv i ys H->tt (S x) H fun b H2=>if b=true then te (S x) H2 fun y H3=>Pv (i+1) (ys++[y]) H3 else Pv (i+1) ys H2)
  (hd:∀ ys H,Pv xs.length ys H->Fin ys H):CompW (Itl K a) S tt te H Fin:=by
 refine ⟨fun i m ys H=>m=xs.length-i/\i<=xs.length/\Pv i ys H,⟨xs.length,by simp,Nat.zero_le _,h0⟩,?_⟩
 rintro i m ys H ⟨rfl,hi,p⟩
 have q:=hl i ys H hi p
 by_cases hlt:i<xs.length
 ·refine .inr ⟨⟨xs,xs[i],q,by simp [hlt]⟩,hz i ys H hlt p,Pv (i+1),fun ys' H' p'=>⟨xs.length-(i+1),by lia,rfl,hlt,p'⟩,fun x H' y=>?_⟩
  obtain ⟨e,y⟩:=y
  subst e
  exact hs i x ys _ (y xs q) p
 ·have e:i=xs.length:=by lia
  subst e
  exact .inl ⟨⟨xs,q,Nat.le_refl _⟩,hd ys H p⟩
theorem comp_tup{K:PySem.W.Frag}{a:Addr}{xs:List V}(Pv:Nat->List V->Hp->Prop)(h0:Pv 0 [] H)(hl:∀ i ys H,i<=xs.length->Pv i ys H->SqT K H a xs)(hz:∀ i ys H,i<xs.length->Pv i ys H->ys.length<sizeLine)
  (hs:∀ i x ys H,xs[i]? = some x->Pv i ys H->tt (S x) H fun b H2=>if b=true then te (S x) H2 fun y H3=>Pv (i+1) (ys++[y]) H3 else Pv (i+1) ys H2)
  (hd:∀ ys H,Pv xs.length ys H->Fin ys H):CompW (Itt K a) S tt te H Fin:=by
 refine ⟨fun i m ys H=>m=xs.length-i/\i<=xs.length/\Pv i ys H,⟨xs.length,by simp,Nat.zero_le _,h0⟩,?_⟩
 rintro i m ys H ⟨rfl,hi,p⟩
 have q:=hl i ys H hi p
 by_cases hlt:i<xs.length
 ·refine .inr ⟨⟨xs,xs[i],q,by simp [hlt]⟩,hz i ys H hlt p,Pv (i+1),fun ys' H' p'=>⟨xs.length-(i+1),by lia,rfl,hlt,p'⟩,fun x H' y=>?_⟩
  obtain ⟨e,y⟩:=y
  subst e
  exact hs i x ys _ (y xs q) p
 ·have e:i=xs.length:=by lia
  subst e
  exact .inl ⟨⟨xs,q,Nat.le_refl _⟩,hd ys H p⟩
end
end L2
namespace L2
open PySem PySem.Spec PyProof.Rows PySem.SeqAt
mutual
def RdD(K:PySem.W.Frag)(H:Hp):PyData->V->Prop
 | .none,v=>v = .non
 | .bool b,v=>v = .bl b
 | .int i,v=>v = .int i
 | .str x,v=>v = .str x
 | .list ds,v=>∃ p xs,v = .ref p/\SqL K H p xs/\RdDs K H ds xs
 | .tuple ds,v=>∃ p xs,v = .ref p/\SqT K H p xs/\RdDs K H ds xs
 | .dict _,_=>False
def RdDs(K:PySem.W.Frag)(H:Hp):List PyData->List V->Prop
 | [],xs=>xs=[]
 | d::ds,xs=>∃ x r,xs=x::r/\RdD K H d x/\RdDs K H ds r
end
section
variable {K:PySem.W.Frag} {H H':Hp}
theorem RdDs.cons{d:PyData}{ds:List PyData}{x:V}{xs:List V}(h:RdD K H d x)(r:RdDs K H ds xs):RdDs K H (d::ds) (x::xs):=by
 unfold RdDs
 exact ⟨x,xs,rfl,h,r⟩
theorem RdDs.nil:RdDs K H [] []:=by unfold RdDs;rfl
theorem RdD.int(i:Int):RdD K H (.int i) (.int i):=by unfold RdD;rfl
theorem RdD.bl(i:Bool):RdD K H (.bool i) (.bl i):=by unfold RdD;rfl
theorem RdD.str(i:Str):RdD K H (.str i) (.str i):=by unfold RdD;rfl
theorem RdD.non:RdD K H .none .non:=by unfold RdD;rfl
theorem RdD.lst{ds:List PyData}{p:Addr}{xs:List V}(h:SqL K H p xs)(r:RdDs K H ds xs):RdD K H (.list ds) (.ref p):=by
 unfold RdD
 exact ⟨p,xs,rfl,h,r⟩
theorem RdD.tup{ds:List PyData}{p:Addr}{xs:List V}(h:SqT K H p xs)(r:RdDs K H ds xs):RdD K H (.tuple ds) (.ref p):=by
 unfold RdD
 exact ⟨p,xs,rfl,h,r⟩
end
def Cmp(n:Nat)(d:PyData):Prop:=d.canLay0=true/\d.depth<=n
theorem Cmp.int{n:Nat}(i:Int):Cmp n (.int i):=⟨by simp [PyData.canLay0],by simp [PyData.depth]⟩
theorem Cmp.none{n:Nat}:Cmp n .none:=⟨by simp [PyData.canLay0],by simp [PyData.depth]⟩
theorem cmpAll{n:Nat}:∀ {ds:List PyData},(∀ d∈ds,Cmp n d)->PyData.canLayAll0 ds=true/\PyData.depthAll ds<=n
 | [],_=>⟨by simp [PyData.canLayAll0],by simp [PyData.depthAll]⟩
 | d::ds,h=>by
  obtain ⟨h1,h2⟩:=h d List.mem_cons_self
  obtain ⟨h3,h4⟩:=cmpAll (ds:=ds) fun e he=>h e (List.mem_cons_of_mem _ he)
  refine ⟨by simp [PyData.canLayAll0,h1,h3],?_⟩
  simp only [PyData.depthAll]
  lia
theorem Cmp.list{n:Nat}{ds:List PyData}(h:∀ d∈ds,Cmp n d):Cmp (n+1) (.list ds):=by
 obtain ⟨h1,h2⟩:=cmpAll h
 exact ⟨by simp [PyData.canLay0,h1],by simp only [PyData.depth];lia⟩
theorem Cmp.tuple{n:Nat}{ds:List PyData}(h:∀ d∈ds,Cmp n d):Cmp (n+1) (.tuple ds):=by
 obtain ⟨h1,h2⟩:=cmpAll h
 exact ⟨by simp [PyData.canLay0,h1],by simp only [PyData.depth];lia⟩
theorem Cmp.mono{n m:Nat}{d:PyData}(h:Cmp n d)(l:n<=m):Cmp m d:=⟨h.1,Nat.le_trans h.2 l⟩
mutual
theorem eqv_self:∀ {d:PyData},d.canLay0=true->PyData.eqv d d=true
 | .none,_=>by simp [PyData.eqv]
 | .bool _,_=>by simp [PyData.eqv]
 | .int _,_=>by simp [PyData.eqv]
 | .str _,_=>by simp [PyData.eqv]
 | .list ds,h=>by
  rw [PyData.eqv]
  exact eqvAll_self (by simpa [PyData.canLay0] using h)
 | .tuple ds,h=>by
  rw [PyData.eqv]
  exact eqvAll_self (by simpa [PyData.canLay0] using h)
 | .dict _,h=>by simp [PyData.canLay0] at h
theorem eqvAll_self:∀ {ds:List PyData},PyData.canLayAll0 ds=true->PyData.eqvAll ds ds=true
 | [],_=>by simp [PyData.eqvAll]
 | d::ds,h=>by
  have h':(PyData.canLay0 d&&PyData.canLayAll0 ds)=true:=by simpa [PyData.canLayAll0] using h
  obtain ⟨h1,h2⟩:=Bool.and_eq_true_iff.mp h'
  rw [PyData.eqvAll,eqv_self h1,eqvAll_self h2]
  rfl
end
theorem eqvAll_ints:∀ (a b:List Int),PyData.eqvAll (a.map PyData.int) (b.map PyData.int)=decide (a=b)
 | [],[]=>by simp [PyData.eqvAll]
 | [],_::_=>by simp [PyData.eqvAll]
 | _::_,[]=>by simp [PyData.eqvAll]
 | x::a,y::b=>by
  show PyData.eqvAll (PyData.int x::a.map PyData.int) (PyData.int y::b.map PyData.int)=_
  rw [PyData.eqvAll,eqvAll_ints a b,PyData.eqv]
  by_cases h:x=y<;>simp [h]
section
variable {X:Cx} {pins:List (Addr×Obj)} {σ:St} {H:Hp} {s:Shared}
mutual
theorem Inv.reads(I:Inv X pins σ H s):∀ {d:PyData} {x:V} {v:Value},RdD X.K H d x->RelV x v->∃ as,Reads s.heap v d as
 | .none,_,_,h,r=>by unfold RdD at h;subst h;cases r;exact ⟨_,.none⟩
 | .bool b,_,_,h,r=>by unfold RdD at h;subst h;cases r;exact ⟨_,.bool b⟩
 | .int i,_,_,h,r=>by unfold RdD at h;subst h;obtain ⟨t,rfl⟩:=r;exact ⟨_,.int i t⟩
 | .str i,_,_,h,r=>by unfold RdD at h;subst h;obtain ⟨t,rfl⟩:=r;exact ⟨_,.str i t⟩
 | .list ds,_,_,h,r=>by
  unfold RdD at h
  obtain ⟨p,xs,rfl,h2,h3⟩:=h
  cases r
  obtain ⟨its,rv,⟨o,n,e1,e2,e3,e4⟩,_⟩:=I.list h2
  obtain ⟨as,ra⟩:=Inv.readsAll I h3 rv
  exact ⟨_,.list e1 e2 e4 (by simpa using ra)⟩
 | .tuple ds,_,_,h,r=>by
  unfold RdD at h
  obtain ⟨p,xs,rfl,h2,h3⟩:=h
  cases r
  obtain ⟨its,rv,⟨o,e1,e2,n,e4⟩,_⟩:=I.tuple h2
  obtain ⟨as,ra⟩:=Inv.readsAll I h3 rv
  exact ⟨_,.tuple e1 e2 e4 (by simpa using ra)⟩
 | .dict _,_,_,h,_=>by unfold RdD at h;exact h.elim
theorem Inv.readsAll(I:Inv X pins σ H s):∀ {ds:List PyData} {xs:List V} {vs:List Value},RdDs X.K H ds xs->Vals xs vs->∃ as,ReadsAll s.heap vs ds as
 | [],_,_,h,r=>by unfold RdDs at h;subst h;cases r;exact ⟨_,.nil⟩
 | d::ds,_,_,h,r=>by
  unfold RdDs at h
  obtain ⟨x,q,rfl,h2,h3⟩:=h
  cases r with
  | cons r1 r2 =>
   obtain ⟨as,ra⟩:=Inv.reads I h2 r1
   obtain ⟨bs,rb⟩:=Inv.readsAll I h3 r2
   exact ⟨_,.cons ra rb⟩
end
def rEqD(K:PySem.W.Frag)(no:Bool):R2:=fun x y H Q=>∃ dx dy,RdD K H dx x/\RdD K H dy y/\Cmp 64 dx/\Cmp 64 dy/\Q (.bl (no ^^ PyData.eqv dx dy)) H
theorem Cmp.shaped{d:PyData}(h:Cmp 64 d):shaped d=true:=by
 unfold SeqAt.shaped
 rw [h.1,decide_eq_true h.2]
 rfl
theorem op_eqD(hu:X.A.units+64<cLine):OpR X (compareOp .Eq) (rEqD X.K false):=by
 intro pins s σ H x y v u Q I rx ry h
 obtain ⟨dx,dy,hx,hy,cx,cy,q⟩:=h
 obtain ⟨as,ra⟩:=I.reads hx rx
 obtain ⟨bs,rb⟩:=I.reads hy ry
 rw [Bool.false_xor] at q
 exact compareEq_shaped ra rb cx.shaped cy.shaped hu ⟨.bl _,H,I,rfl,q⟩
theorem op_neD(hu:X.A.units+64<cLine):OpR X (compareOp .NotEq) (rEqD X.K true):=by
 intro pins s σ H x y v u Q I rx ry h
 obtain ⟨dx,dy,hx,hy,cx,cy,q⟩:=h
 obtain ⟨as,ra⟩:=I.reads hx rx
 obtain ⟨bs,rb⟩:=I.reads hy ry
 rw [Bool.true_xor] at q
 exact compareNe_shaped ra rb cx.shaped cy.shaped hu ⟨.bl _,H,I,rfl,q⟩
end
theorem rEqD.eq{K:PySem.W.Frag}{x y:V}{H:Hp}{Q:VK}{no:Bool}(d:PyData)(hx:RdD K H d x)(hy:RdD K H d y)(c:Cmp 64 d)(q:Q (.bl (!no)) H):rEqD K no x y H Q :=
 ⟨d,d,hx,hy,c,c,by rw [eqv_self c.1,Bool.xor_true];exact q⟩
open PySem PySem.Spec PyProof.Rows
open PySem PySem.Spec
theorem z_d{H:Hp}{p:Addr}(h:H p=none)(o:HO):Same H (upd H p o):=fun b u q=>by rw [z_m (z_l q h)];exact q
theorem y_y{H H':Hp}{p:Addr}(s:Same H H')(n:H p=none)(o:HO):Same H (upd H' p o):=fun b u q=>by rw [z_m (z_l q n)];exact s b u q
theorem small{n:Nat}(h:n<=100000):n<=sizeLine:=Nat.le_trans h (by decide)
theorem y_u{n:Nat}(h:n<=100000):n<sizeLine:=Nat.lt_of_le_of_lt h (by decide)
def Drawn(rs:List Int):Prop:=∀ r∈rs,0<=r/\r<1000000
theorem z_r{α β:Type}{R S:α->β->Prop}(h:∀ a b,R a b->S a b):∀ {xs:List α} {ys:List β},Paired R xs ys->Paired S xs ys
 | _,_,.nil=>.nil
 | _,_,.cons a b=>.cons (h _ _ a) (z_r h b)
theorem pairedSnoc{α β:Type}{R:α->β->Prop}{x:α}{y:β}(h:R x y):∀ {xs:List α} {ys:List β},Paired R xs ys->Paired R (xs++[x]) (ys++[y])
 | _,_,.nil=>.cons h .nil
 | _,_,.cons a b=>.cons a (pairedSnoc h b)
theorem y_r{c:Bool}{A B:Prop}(h:c=false)(q:B):if c=true then A else B:=by rw [h];exact q
theorem x_m{c:Bool}{A B:Prop}(h:c=true)(q:A):if c=true then A else B:=by rw [h];exact q
section
variable {K:PySem.W.Frag} {a:Addr} {S:V->St} {te:TE} {H:Hp} {Fin:List V->Hp->Prop}
theorem x_l{xs:List V}(f:V->V)(hS:SqL K H a xs)(hz:xs.length<=100000)(hs:∀ x∈xs,∀ N:V->Hp->Prop,N (f x) H->te (S x) H N)(hd:Fin (xs.map f) H):CompW (Itl K a) S tYes te H Fin:=by
 refine comp_list (xs:=xs) (fun i ys H'=>ys=(xs.take i).map f/\H=H') ⟨rfl,rfl⟩ ?_ ?_ ?_ ?_
 ·rintro i ys H' _ ⟨_,rfl⟩
  exact hS
 ·rintro i ys H' hi ⟨rfl,_⟩
  rw [List.length_map,List.length_take]
  exact y_u (by lia)
 ·rintro i x ys H' hx ⟨rfl,rfl⟩
  obtain ⟨hi,he⟩:=List.getElem?_eq_some_iff.mp hx
  unfold tYes
  dsimp only
  rw [if_pos rfl]
  refine hs x (he▸List.getElem_mem hi) _ ⟨?_,rfl⟩
  rw [List.take_succ_eq_append_getElem hi,List.map_append,he]
  rfl
 ·rintro ys H' ⟨rfl,rfl⟩
  rw [List.take_length]
  exact hd
end
end L2
namespace L2
open PySem PySem.Spec
end L2
namespace L2
open PySem PySem.Spec
end L2
namespace L2
open PySem PySem.Spec PyProof.Rows
mutual
def Dat(H:Hp):PyData->V->Prop
 | .none,v=>v = .non
 | .bool b,v=>v = .bl b
 | .int i,v=>v = .int i
 | .str x,v=>v = .str x
 | .list ds,v=>∃ p xs,v = .ref p/\H p=some (.lst xs)/\Dats H ds xs
 | .tuple ds,v=>∃ p xs,v = .ref p/\H p=some (.tup xs)/\Dats H ds xs
 | .dict _,_=>False
def Dats(H:Hp):List PyData->List V->Prop
 | [],xs=>xs=[]
 | d::ds,xs=>∃ x r,xs=x::r/\Dat H d x/\Dats H ds r
end
section
variable {H H':Hp}
mutual
theorem Dat.same(e:Same H H'):∀ {d:PyData} {v:V},Dat H d v->Dat H' d v
 | .none,_,h=>by unfold Dat at *;exact h
 | .bool _,_,h=>by unfold Dat at *;exact h
 | .int _,_,h=>by unfold Dat at *;exact h
 | .str _,_,h=>by unfold Dat at *;exact h
 | .list ds,_,h=>by
  unfold Dat at *
  obtain ⟨p,xs,h1,h2,h3⟩:=h
  exact ⟨p,xs,h1,e _ _ h2,Dats.same e h3⟩
 | .tuple ds,_,h=>by
  unfold Dat at *
  obtain ⟨p,xs,h1,h2,h3⟩:=h
  exact ⟨p,xs,h1,e _ _ h2,Dats.same e h3⟩
 | .dict _,_,h=>by unfold Dat at h;exact h.elim
theorem Dats.same(e:Same H H'):∀ {ds:List PyData} {xs:List V},Dats H ds xs->Dats H' ds xs
 | [],_,h=>by unfold Dats at *;exact h
 | d::ds,_,h=>by
  unfold Dats at *
  obtain ⟨x,r,h1,h2,h3⟩:=h
  exact ⟨x,r,h1,Dat.same e h2,Dats.same e h3⟩
end
mutual
theorem Dat.rd{K:PySem.W.Frag}:∀ {d:PyData} {v:V},Dat H d v->RdD K H d v
 | .none,_,h=>by unfold Dat at h;subst h;exact .non
 | .bool _,_,h=>by unfold Dat at h;subst h;exact .bl _
 | .int _,_,h=>by unfold Dat at h;subst h;exact .int _
 | .str _,_,h=>by unfold Dat at h;subst h;exact .str _
 | .list ds,_,h=>by
  unfold Dat at h
  obtain ⟨p,xs,rfl,h2,h3⟩:=h
  exact RdD.lst (SqL.of h2) (Dats.rd h3)
 | .tuple ds,_,h=>by
  unfold Dat at h
  obtain ⟨p,xs,rfl,h2,h3⟩:=h
  exact RdD.tup (SqT.of h2) (Dats.rd h3)
 | .dict _,_,h=>by unfold Dat at h;exact h.elim
theorem Dats.rd{K:PySem.W.Frag}:∀ {ds:List PyData} {xs:List V},Dats H ds xs->RdDs K H ds xs
 | [],_,h=>by unfold Dats at h;subst h;exact .nil
 | d::ds,_,h=>by
  unfold Dats at h
  obtain ⟨x,r,rfl,h2,h3⟩:=h
  exact .cons (Dat.rd h2) (Dats.rd h3)
end
theorem Dat.int(i:Int):Dat H (.int i) (.int i):=by unfold Dat;rfl
theorem Dat.non:Dat H .none .non:=by unfold Dat;rfl
theorem Dat.str(x:Str):Dat H (.str x) (.str x):=by unfold Dat;rfl
theorem Dat.lst{ds:List PyData}{p:Addr}{xs:List V}(h:H p=some (.lst xs))(r:Dats H ds xs):Dat H (.list ds) (.ref p):=by unfold Dat;exact ⟨p,xs,rfl,h,r⟩
theorem Dat.tup{ds:List PyData}{p:Addr}{xs:List V}(h:H p=some (.tup xs))(r:Dats H ds xs):Dat H (.tuple ds) (.ref p):=by unfold Dat;exact ⟨p,xs,rfl,h,r⟩
theorem Dats.nil:Dats H [] []:=by unfold Dats;rfl
theorem Dats.cons{d:PyData}{ds:List PyData}{x:V}{xs:List V}(h:Dat H d x)(r:Dats H ds xs):Dats H (d::ds) (x::xs):=by unfold Dats;exact ⟨x,xs,rfl,h,r⟩
theorem Dats.length{ds:List PyData}{xs:List V}(a:Dats H ds xs):ds.length=xs.length:=by
 induction ds generalizing xs with
 | nil=>unfold Dats at a;subst a;rfl
 | cons d r ih =>
  unfold Dats at a
  obtain ⟨x,q,rfl,h1,h2⟩:=a
  simp [ih h2]
theorem Dats.get{ds:List PyData}{xs:List V}(a:Dats H ds xs){i:Nat}{x:V}(h:xs[i]? = some x):∃ d,ds[i]? = some d/\Dat H d x:=by
 induction ds generalizing xs i with
 | nil=>unfold Dats at a;subst a;simp at h
 | cons d r ih =>
  unfold Dats at a
  obtain ⟨y,q,rfl,h1,h2⟩:=a
  cases i with
  | zero=>simp at h;subst h;exact ⟨d,rfl,h1⟩
  | succ k=>exact ih h2 (by simpa using h)
end
def dInt:PyData->Bool
 | .int _=>true | .bool _=>true | _=>false
def dBool:PyData->Bool
 | .bool _=>true | _=>false
def dStr:PyData->Bool
 | .str _=>true | _=>false
def dTup:PyData->Bool
 | .tuple _=>true | _=>false
def dLst:PyData->Bool
 | .list _=>true | _=>false
theorem Dat.ty{K:PySem.W.Frag}{H:Hp}{d:PyData}{v:V}(h:Dat H d v):∃ t,TyOf K H v t/\PySem.W.kitOne K t (.type "int")=some (dInt d)/\PySem.W.kitOne K t (.type "bool")=some (dBool d)/\PySem.W.kitOne K t (.type "str")=some (dStr d)/\PySem.W.kitOne K t (.type "tuple")=some (dTup d)/\PySem.W.kitOne K t (.type "list")=some (dLst d):=by
 cases d with
 | none=>unfold Dat at h;subst h;exact ⟨_,.non,rfl,rfl,rfl,rfl,rfl⟩
 | bool b=>unfold Dat at h;subst h;exact ⟨_,.bl b,rfl,rfl,rfl,rfl,rfl⟩
 | int b=>unfold Dat at h;subst h;exact ⟨_,.int b,rfl,rfl,rfl,rfl,rfl⟩
 | str b=>unfold Dat at h;subst h;exact ⟨_,.str b,rfl,rfl,rfl,rfl,rfl⟩
 | list ds =>
  unfold Dat at h
  obtain ⟨p,xs,rfl,h2,_⟩:=h
  exact ⟨_,.lst h2,rfl,rfl,rfl,rfl,rfl⟩
 | tuple ds =>
  unfold Dat at h
  obtain ⟨p,xs,rfl,h2,_⟩:=h
  exact ⟨_,.tup h2,rfl,rfl,rfl,rfl,rfl⟩
 | dict _=>unfold Dat at h;exact h.elim
def wholeD:PyData->Bool
 | .int _=>true | _=>false
theorem wholeD_eq(d:PyData):(dInt d && !dBool d)=wholeD d:=by cases d<;>rfl
def betD(d:PyData)(lo hi:Int):Bool:=match d with
 | .int i=>decide (lo<=i)&&decide (i<=hi)
 | _=>false
def sp_whole:Sp:=fun vs H Q _=>∃ d v,vs=[v]/\Dat H d v/\Q (.bl (wholeD d)) H
def sp_between:Sp:=fun vs H Q _=>∃ d v lo hi,vs=[v,.int lo,.int hi]/\Dat H d v/\Q (.bl (betD d lo hi)) H
section
variable {K:PySem.W.Frag} {a:Addr} {S:V->St} {te:TE} {H:Hp} {Fin:List V->Hp->Prop}
theorem comp_datT{ds:List PyData}{xs:List V}(f:PyData->V)(hp:H a=some (.tup xs))(hD:Dats H ds xs)(hz:ds.length<=100000)(hs:∀ d x,d∈ds->Dat H d x->∀ N:V->Hp->Prop,N (f d) H->te (S x) H N)(hd:Fin (ds.map f) H):CompW (Itt K a) S tYes te H Fin:=by
 have hl:=hD.length
 refine comp_tup (xs:=xs) (fun i ys H'=>ys=(ds.take i).map f/\H=H') ⟨rfl,rfl⟩ ?_ ?_ ?_ ?_
 ·rintro i ys H' _ ⟨_,rfl⟩
  exact SqT.of hp
 ·rintro i ys H' hi ⟨rfl,_⟩
  rw [List.length_map,List.length_take]
  exact y_u (by lia)
 ·rintro i x ys H' hx ⟨rfl,rfl⟩
  obtain ⟨d,hd1,hd2⟩:=hD.get hx
  obtain ⟨hi,he⟩:=List.getElem?_eq_some_iff.mp hd1
  unfold tYes
  dsimp only
  rw [if_pos rfl]
  refine hs d x (he▸List.getElem_mem hi) hd2 _ ⟨?_,rfl⟩
  rw [List.take_succ_eq_append_getElem hi,List.map_append,he]
  rfl
 ·rintro ys H' ⟨rfl,rfl⟩
  rw [<-hl,List.take_length]
  exact hd
end
theorem Dat.tupI{H:Hp}{ds:List PyData}{v:V}(h:Dat H (.tuple ds) v):∃ p xs,v = .ref p/\H p=some (.tup xs)/\Dats H ds xs:=by unfold Dat at h;exact h
theorem Dat.lstI{H:Hp}{ds:List PyData}{v:V}(h:Dat H (.list ds) v):∃ p xs,v = .ref p/\H p=some (.lst xs)/\Dats H ds xs:=by unfold Dat at h;exact h
theorem Dat.intI{H:Hp}{i:Int}{v:V}(h:Dat H (.int i) v):v = .int i:=by unfold Dat at h;exact h
theorem Dats.consI{H:Hp}{d:PyData}{ds:List PyData}{xs:List V}(h:Dats H (d::ds) xs):∃ x r,xs=x::r/\Dat H d x/\Dats H ds r:=by unfold Dats at h;exact h
theorem Dats.nilI{H:Hp}{xs:List V}(h:Dats H [] xs):xs=[]:=by unfold Dats at h;exact h
theorem all_bls{ds:List PyData}(f:PyData->Bool):(ds.map f).all id=ds.all f:=by rw [List.all_map];rfl
end L2
namespace L2
open PySem PySem.Spec
def Bag(H:Hp)(l:Addr):Prop:=∃ b0 b1:Int,H l=some (.lst [.int b0,.int b1])/\0<=b0
def Bg(l:Addr)(H H':Hp):Prop:=(∀ b o,b≠l->H b=some o->H' b=some o)/\Bag H' l
theorem Bg.trans{l:Addr}{H H1 H2:Hp}(a:Bg l H H1)(b:Bg l H1 H2):Bg l H H2:=⟨fun c o n e=>b.1 c o n (a.1 c o n e),b.2⟩
theorem Bg.refl{l:Addr}{H:Hp}(b:Bag H l):Bg l H H:=⟨fun _ _ _ e=>e,b⟩
theorem Bag.ne{H:Hp}{l p:Addr}(b:Bag H l)(n:H p=none):p≠l:=fun e=>by
 obtain ⟨_,_,h,_⟩:=b
 rw [e,h] at n;cases n
theorem Bag.neT{H:Hp}{l p:Addr}{xs:List V}(b:Bag H l)(n:H p=some (.tup xs)):p≠l:=fun e=>by
 obtain ⟨_,_,h,_⟩:=b
 rw [e,h] at n;cases n
theorem Bg.new{l p:Addr}{H:Hp}(b:Bag H l)(n:H p=none)(o:HO):Bg l H (upd H p o):=by
 refine ⟨fun c u _ e=>by rw [z_m (z_l e n)];exact e,?_⟩
 obtain ⟨b0,b1,h,h0⟩:=b
 exact ⟨b0,b1,by rw [z_m (z_l h n)];exact h,h0⟩
theorem Bg.put{l:Addr}{H:Hp}(b0 b1:Int)(h0:0<=b0):Bg l H (upd H l (.lst [.int b0,.int b1])) :=
 ⟨fun c u n e=>by rw [z_m n];exact e,b0,b1,z_b,h0⟩
theorem Bag.set{l p:Addr}{H:Hp}(b:Bag H l)(hp:p≠l)(o:HO):Bag (upd H p o) l:=by
 obtain ⟨b0,b1,h,h0⟩:=b
 exact ⟨b0,b1,by rw [z_m (Ne.symm hp)];exact h,h0⟩
theorem Bg.set{l p:Addr}{H H':Hp}(b:Bg l H H')(n:H p=none)(hp:p≠l)(o:HO):Bg l H (upd H' p o) :=
 ⟨fun c u nc e=>by rw [z_m (z_l e n)];exact b.1 c u nc e,b.2.set hp o⟩
theorem Bg.same{l:Addr}{H H1 H2:Hp}(n:H l=none)(a:Same H H1)(b:Bg l H1 H2):Same H H2:=fun c o e=>b.1 c o (z_l e n) (a c o e)
theorem Bag.same{H H':Hp}{l:Addr}(b:Bag H l)(s:Same H H'):Bg l H H':=by
 obtain ⟨b0,b1,h,h0⟩:=b
 exact ⟨fun c o _ e=>s c o e,b0,b1,s _ _ h,h0⟩
theorem at_map{ns:List Int}{i:Nat}(h:i<ns.length):∃ v:Int,atI (ns.map V.int) (i:Int)=some (.int v) :=
 ⟨ns[i],atI_nat (by rw [List.getElem?_map,List.getElem?_eq_getElem h]<;>rfl)⟩
theorem at_mapI{ns:List Int}{i:Int}(h0:0<=i)(h:i<ns.length):∃ v:Int,atI (ns.map V.int) i=some (.int v):=by
 obtain ⟨k,rfl⟩:=Int.eq_ofNat_of_zero_le h0
 exact at_map (by lia)
def sp_L_take:Sp:=fun vs H Q _=>∃ (l:Addr) (many:Int),vs=[.ref l,.int many]/\Bag H l/\0<many/\many<bigB/\∀ d H',0<=d->d<many->Bg l H H'->Q (.int d) H'
open PySem PySem.Spec PyProof.Rows
theorem pairedGet{α β:Type}{R:α->β->Prop}:∀ {xs:List α} {ys:List β} {i:Nat} {x:α},Paired R xs ys->xs[i]? = some x->∃ y,ys[i]? = some y/\R x y
 | _,_,i,x,.nil,h=>by simp at h
 | _,_,0,x,.cons a b,h=>by
  simp at h
  subst h
  exact ⟨_,rfl,a⟩
 | _,_,i+1,x,.cons a b,h=>by
  rw [List.getElem?_cons_succ] at h ⊢
  exact pairedGet b h
theorem pairedGet'{α β:Type}{R:α->β->Prop}:∀ {xs:List α} {ys:List β} {i:Nat} {y:β},Paired R xs ys->ys[i]? = some y->∃ x,xs[i]? = some x/\R x y
 | _,_,i,x,.nil,h=>by simp at h
 | _,_,0,x,.cons a b,h=>by
  simp at h
  subst h
  exact ⟨_,rfl,a⟩
 | _,_,i+1,x,.cons a b,h=>by
  rw [List.getElem?_cons_succ] at h ⊢
  exact pairedGet' b h
theorem take_get{α:Type}{xs:List α}{i:Nat}{x:α}(h:xs[i]? = some x):xs.take (i+1)=xs.take i++[x]:=by
 obtain ⟨hi,he⟩:=List.getElem?_eq_some_iff.mp h
 rw [List.take_succ_eq_append_getElem hi,he]
open PySem
theorem xor_sum(a b:Nat):(a^^^b)+2*(a&&&b)=a+b:=by
 have o:((a^^^b)|||(a&&&b))=a|||b:=Nat.eq_of_testBit_eq fun i=>by
  rw [Nat.testBit_or,Nat.testBit_or,Nat.testBit_xor,Nat.testBit_and]
  generalize a.testBit i=u;generalize b.testBit i=v
  revert u v;decide
 have n:((a^^^b)&&&(a&&&b))=0:=Nat.eq_of_testBit_eq fun i=>by
  rw [Nat.testBit_and,Nat.testBit_xor,Nat.testBit_and,Nat.zero_testBit]
  generalize a.testBit i=u;generalize b.testBit i=v
  revert u v;decide
 have x:=PyProof.Rows.nat_or_add_and (a^^^b) (a&&&b)
 rw [o,n] at x
 have y:=PyProof.Rows.nat_or_add_and a b
 clear o n
 lia
theorem xor_nat(a b:Nat):Builtin.bitXor (a:Int) (b:Int)=((a^^^b:Nat):Int):=by
 rw [PyProof.Rows.bitXor_and,PyProof.Rows.bitAnd_pp (by lia) (by lia),Int.toNat_natCast,Int.toNat_natCast]
 have h:=xor_sum a b
 lia
section
variable {X:Cx} {pins:List (Addr×Obj)} {σ:St} {H:Hp} {s:Shared} {h':Heap}
theorem Inv.turnedL{t':Nat}{ch:List Addr}(I:Inv X pins σ H s)(k:∀ b o,b∉ch->s.heap.get? b=some o->h'.get? b=some o)(hc:∀ b∈ch,FpOk X pins H b):Inv X pins σ H { s with heap:=h',toks:=t' }:=by
 have nit:∀ b u,H b=some u->b∉ch:=fun b u e z=>by have:=(hc b z).1;rw [this] at e;cases e
 refine I.step (g':=s.gens) (d':=s.drawn) (ch:=ch) (fun b hb=>?_) (fun b o _ _ hn e _=>k b o hn e) (fun b o _ _ hn e _=>⟨o.slots,k b o hn e⟩) (fun _ _ _ _ n=>n)
  (fun b o hn e=>⟨o,k b o hn e⟩) (fun _ _ e=>e) (fun _ _ _ e=>e) (fun _ _ _ e=>e) (fun m hm=>?_) (fun b u e=>?_) I.bare
 ·obtain ⟨_,f1,_,f3,f4,f5⟩:=hc b hb
  exact ⟨f3,f1,f4,f5⟩
 ·obtain ⟨o,es,ep,ho,r⟩:=hm
  exact ⟨o,es,ep,k _ o (fun z=>(hc _ z).2.1 rfl) ho,r⟩
 ·refine (I.hok b u e).stay (fun c v hn q=>k c v ?_ q) (fun _ q=>q) (fun _ _ q=>q) fun _ _ _ q=>q
  rcases hn with z | z
  ·rw [z];exact nit b u e
  ·exact nit c _ z
end
def Itz(K : PySem.W.Frag)(a b : Addr) : It :=
  ⟨fun i H => ∃ xs ys x y, SqL K H a xs /\ SqL K H b ys /\ xs[i]? = some x /\ ys[i]? = some y,
   fun i H v H' => ∃ p x y, v = .ref p /\ H p = none /\ H' = upd H p (.tup [x, y]) /\ (∀ xs, SqL K H a xs -> xs[i]? = some x) /\ ∀ ys, SqL K H b ys -> ys[i]? = some y,
   fun i H => ∃ xs ys, SqL K H a xs /\ SqL K H b ys /\ (xs.length <= i \/ ys.length <= i)⟩
theorem turn_zip{P:Program}{w:World}{K:PySem.W.Frag}{elts:List Expr}{kk:Nat}{pos:Pos}(a b z TI TO i1 i2:Addr)(D:ZipApart z TI TO i1 i2 a b) :
  Turn P w K (.Tuple elts kk pos) (Itz K a b) [z,TI,TO,i1,i2] z (fun i h=>IsZip h z TI TO .none/\IsPair h TI (.ref i1) (.ref i2)/\(∃ c d,IsPair h TO c d)/\h.IsListIter i1 a i/\h.IsListIter i2 b i) where
 mem:=by simp
 obj:=fun i h st c hc=>by
  obtain ⟨h1,h2,⟨x,y,h3⟩,⟨o4,e4,c4,d4⟩,⟨o5,e5,c5,d5⟩⟩:=st
  have hc':c=z\/c=TI\/c=TO\/c=i1\/c=i2:=by simpa using hc
  rcases hc' with rfl | rfl | rfl | rfl | rfl
  ·exact ⟨_,h1,fun v q=>by cases q⟩
  ·exact ⟨_,h2,fun v q=>by cases q⟩
  ·exact ⟨_,h3,fun v q=>by cases q⟩
  ·exact ⟨o4,e4,fun v q=>by rw [d4] at q;cases q⟩
  ·exact ⟨o5,e5,fun v q=>by rw [d5] at q;cases q⟩
 keep:=fun i h h' st k=>by
  obtain ⟨h1,h2,⟨x,y,h3⟩,h4,h5⟩:=st
  exact ⟨k z (by simp) _ h1,k TI (by simp) _ h2,⟨x,y,k TO (by simp) _ h3⟩,h4.at fun o e=>k i1 (by simp) o e,h5.at fun o e=>k i2 (by simp) o e⟩
 item:=by
  intro X hP hw hK hc i pins s σ H E I hf st hg
  subst hP hw hK
  obtain ⟨xs,ys,x,y,hq1,hq2,hx,hy⟩:=hg
  obtain ⟨its1,rv1,p1,hz1⟩:=I.list hq1
  obtain ⟨its2,rv2,p2,hz2⟩:=I.list hq2
  obtain ⟨u1,hu1,ru1⟩:=rv1.get hx
  obtain ⟨u2,hu2,ru2⟩:=rv2.get hy
  obtain ⟨sz,sTI,⟨c,d,sTO⟩,s1,s2⟩:=st
  refine wpAny_pyNext_zip_item D sz sTI sTO s1 s2 p1.isList p2.isList (x:=u1) (y:=u2) (by simpa using hu1) (by simpa using hu2) fun h' b1 b2 b3 b4 b5 b6 hk=>?_
  have lt:∀ {c o},s.heap.get? c=some o->c≠s.heap.objs.size:=fun e=>Nat.ne_of_lt (Heap.lt_size e)
  have I0:Inv X pins σ (upd H s.heap.objs.size (.tup [x,y])) { s with heap:=s.heap.push { cls:=.type "tuple",data:=.seq #[u1,u2] },toks:=s.toks } :=
   I.laid (a:=s.heap.objs.size) (o:=.tup [x,y]) (t':=s.toks) (fun b u e=>Heap.get?_push_of_some _ e) (Nat.le_refl _) ⟨(by show 2<=sizeLine;decide),[u1,u2],.cons ru1 (.cons ru2 .nil),_,Heap.get?_push_size _ rfl,rfl,_,rfl⟩
  have hnone:∀ c∈[z,TI,TO,i1,i2],(upd H s.heap.objs.size (.tup [x,y])) c=none:=fun c hc'=>by
   have hne:c≠s.heap.objs.size:=by
    have hc'':c=z\/c=TI\/c=TO\/c=i1\/c=i2:=by simpa using hc'
    rcases hc'' with rfl | rfl | rfl | rfl | rfl
    ·exact lt sz
    ·exact lt sTI
    ·exact lt sTO
    ·obtain ⟨_,e,_⟩:=s1;exact lt e
    ·obtain ⟨_,e,_⟩:=s2;exact lt e
   rw [z_m hne]
   exact (hf c hc').1
  have hf':∀ c∈[z,TI,TO,i1,i2],FpOk X pins (upd H s.heap.objs.size (.tup [x,y])) c:=fun c hc'=>⟨hnone c hc',(hf c hc').2⟩
  have kk1:∀ c o,c∉[z,TO,i1,i2]->(s.heap.push { cls:=.type "tuple",data:=.seq #[u1,u2] }).get? c=some o->h'.get? c=some o:=fun c o hn e=>by
   rcases Heap.get?_push_cases e with ⟨rfl,rfl⟩ | e'
   ·exact b5
   ·exact hk c o (fun q=>hn (by simp [q])) (fun q=>hn (by simp [q])) (fun q=>hn (by simp [q])) (fun q=>hn (by simp [q])) e'
  have kk2:∀ c∈[z,TO,i1,i2],FpOk X pins (upd H s.heap.objs.size (.tup [x,y])) c:=fun c hc'=>hf' c (by
   have hc'':c=z\/c=TO\/c=i1\/c=i2:=by simpa using hc'
   rcases hc'' with rfl | rfl | rfl | rfl<;>simp)
  have I1:=I0.turnedL (h':=h') (t':=s.toks) (ch:=[z,TO,i1,i2]) kk1 kk2
  refine ⟨_,rfl,wpAny_letOwnedTupleGo_zip b1 fun h2 c1 c2=>?_⟩
  have I2:=I1.turnedL (h':=h2) (t':=s.toks) (ch:=[z]) (fun c o hn e=>(c2.2 c (fun q=>hn (by simp [q]))).trans e) (fun c hc'=>hf' c (by rw [List.mem_singleton.mp hc'];simp))
  refine ⟨.ref s.heap.objs.size,_,I2,rfl,⟨_,x,y,rfl,I.hok.fresh (Nat.le_refl _),rfl,fun xs' q=>by rw [I.list_inj q hq1];exact hx,fun ys' q=>by rw [I.list_inj q hq2];exact hy⟩,?_,hnone⟩
  have mv:∀ c o,c≠z->h'.get? c=some o->h2.get? c=some o:=fun c o hn e=>(c2.2 c hn).trans e
  exact ⟨c1,mv _ _ D.TIz (hk _ _ D.TIz D.TITO D.TIi1 D.TIi2 sTI),⟨_,_,mv _ _ D.TOz b2⟩,b3.at fun o e=>mv _ o D.i1z e,b4.at fun o e=>mv _ o D.i2z e⟩
 done:=by
  intro X hP hw hK hc i pins s σ H E I hf st hg
  subst hP hw hK
  obtain ⟨xs,ys,hq1,hq2,hx⟩:=hg
  obtain ⟨its1,rv1,p1,hz1⟩:=I.list hq1
  obtain ⟨its2,rv2,p2,hz2⟩:=I.list hq2
  have l1:=rv1.length
  have l2:=rv2.length
  obtain ⟨sz,sTI,⟨c,d,sTO⟩,s1,s2⟩:=st
  refine wpAny_pyNext_zip_end (I.ok.hd hc) D sz sTI sTO s1 s2 p1.isList p2.isList ?_ fun h' hk=>⟨rfl,I.turnedL (t':=s.toks) (ch:=[z,TO,i1,i2]) (fun c o hn e=>hk c o (fun q=>hn (by simp [q])) (fun q=>hn (by simp [q])) (fun q=>hn (by simp [q])) (fun q=>hn (by simp [q])) e) (fun c hc'=>hf c ?_)⟩
  ·rcases hx with q | q
   ·exact .inl (by simp;lia)
   ·exact .inr (by simp;lia)
  ·have hc'':c=z\/c=TO\/c=i1\/c=i2:=by simpa using hc'
   rcases hc'' with rfl | rfl | rfl | rfl<;>simp
 self:=fun _ _ _ _ _ st h=>wpAny_pyIter_zip st.1 h
def iZip(K:PySem.W.Frag)(ta:TA):TI:=fun σ H R=>ta σ H fun vs H1=>∃ a b,vs=[.ref a,.ref b]/\(∃ xs,SqL K H1 a xs)/\(∃ ys,SqL K H1 b ys)/\R (Itz K a b) H1
theorem pi_zip{X:Cx}{elts:List Expr}{kk:Nat}{tpos:Pos}{a b:Expr}{ta:TA}{p pos:Pos}(hg:Gl X "zip")(hm:X.mg "zip" = none)(ha:PA X [a,b] ta)(hs:starEach [a,b] X.env=[(false,eval a X.env),(false,eval b X.env)]:=by rfl)(hs2:starEach [b] X.env=[(false,eval b X.env)]:=by rfl) :
  PI X (.Tuple elts kk tpos) (.Call (.Name "zip" p) [a,b] [] pos) (iZip X.K ta):=by
 intro pins s σ H R I h
 refine Call_ (ld_blt I hg hm PyProof.Rows.boot_zip (PyProof.Rows.callWith_type1 (thn (ha pos pins s σ H _ I h) fun us s1 ⟨vs,H1,I1,r1,q1⟩=>?_) (by rw [hs,hs2]) (by rw [hs2];rfl)))
 obtain ⟨l1,l2,e,⟨xs,hq1⟩,⟨ys,hq2⟩,q⟩:=q1
 subst e
 cases r1 with
 | cons r rr =>
  cases rr with
  | cons r' rr =>
   cases rr
   cases r
   cases r'
   obtain ⟨its1,rv1,p1,hz1⟩:=I1.list hq1
   obtain ⟨its2,rv2,p2,hz2⟩:=I1.list hq2
   have hlt1 : @LT.lt Nat _ l1 s1.heap.objs.size:=by obtain ⟨o,e,_⟩:=p1.isList;exact Heap.lt_size e
   have hlt2 : @LT.lt Nat _ l2 s1.heap.objs.size:=by obtain ⟨o,e,_⟩:=p2.isList;exact Heap.lt_size e
   refine call_zip_2 p1.isList p2.isList fun h' hz hTI hTO hi1 hi2 hsz hk=>wpAny_pyIter_zip hz ?_
   have D:ZipApart (s1.heap.objs.size+4) (s1.heap.objs.size+2) (s1.heap.objs.size+3) s1.heap.objs.size (s1.heap.objs.size+1) l1 l2:=PySem.W.ktu_apart _ _ _ hlt1 hlt2
   refine ⟨_,[s1.heap.objs.size+4,s1.heap.objs.size+2,s1.heap.objs.size+3,s1.heap.objs.size,s1.heap.objs.size+1],_,_,H1,rfl,I1.kept (t':=s1.toks) hk,turn_zip l1 l2 _ _ _ _ _ D,⟨hz,hTI,⟨_,_,hTO⟩,hi1,hi2⟩,fun c hc=>?_,q⟩
   have hc':c=s1.heap.objs.size+4\/c=s1.heap.objs.size+2\/c=s1.heap.objs.size+3\/c=s1.heap.objs.size\/c=s1.heap.objs.size+1:=by simpa using hc
   have hle : @LE.le Nat _ s1.heap.objs.size c:=by
    rcases hc' with rfl | rfl | rfl | rfl | rfl
    ·exact Nat.le_add_right _ _
    ·exact Nat.le_add_right _ _
    ·exact Nat.le_add_right _ _
    ·exact Nat.le_refl _
    ·exact Nat.le_add_right _ _
   exact I1.fpOk hle (I1.hok.fresh hle)
theorem for_zip{K:PySem.W.Frag}{a b:Addr}{xs ys:List V}{g:TG}{tb:TS}{D:Ends}{σ:St}{H:Hp}(Pv:Nat->St->Hp->Prop)(h0:Pv 0 σ H)(hl:∀ i σ H,Pv i σ H->SqL K H a xs/\SqL K H b ys)(he:xs.length=ys.length)
  (hs:∀ i x y p σ H,xs[i]? = some x->ys[i]? = some y->Pv i σ H->H p=none->g (.ref p) σ (upd H p (.tup [x,y])) fun σ2 H2=>tb { D with nx:=Pv (i+1),ct:=Pv (i+1),bk:=D.nx } σ2 H2) (hd:∀ σ H,Pv xs.length σ H->D.nx σ H) :
  ∃ W:Nat->Nat->St->Hp->Prop,(∃ m,W 0 m σ H)/\∀ i m σ H,W i m σ H ->
   ((Itz K a b).stop i H/\D.nx σ H)\/((Itz K a b).go i H/\∃ N:St->Hp->Prop,(∀ σ' H',N σ' H'->∃ m',m'<m/\W (i+1) m' σ' H')/\∀ x H',(Itz K a b).yld i H x H'->g x σ H' fun σ2 H2=>tb { D with nx:=N,ct:=N,bk:=D.nx } σ2 H2):=by
 refine ⟨fun i m σ H=>m=xs.length-i/\i<=xs.length/\Pv i σ H,⟨xs.length,by simp,Nat.zero_le _,h0⟩,?_⟩
 rintro i m σ H ⟨rfl,hi,p⟩
 obtain ⟨q1,q2⟩:=hl i σ H p
 by_cases hlt:i<xs.length
 ·have hlt2:i<ys.length:=by lia
  refine .inr ⟨⟨xs,ys,xs[i],ys[i],q1,q2,by simp [hlt],by simp [hlt2]⟩,Pv (i+1),fun σ' H' p'=>⟨xs.length-(i+1),by lia,rfl,hlt,p'⟩,fun v H' y=>?_⟩
  obtain ⟨pp,x,y,rfl,hp,rfl,e1,e2⟩:=y
  exact hs i x y pp σ H (e1 xs q1) (e2 ys q2) p hp
 ·have e:i=xs.length:=by lia
  subst e
  exact .inl ⟨⟨xs,ys,q1,q2,.inl (Nat.le_refl _)⟩,hd σ H p⟩
open PySem PySem.Spec PyProof.Rows
open PySem
end L2
namespace HT
open PySem PyProof.Rows
end HT
namespace L2
open PySem PySem.Spec PyProof.Rows
def bt(X i:Nat):Nat:=X/2^i%2
theorem bt_lt(X i:Nat):bt X i<2:=Nat.mod_lt _ (by decide)
end L2
namespace L2
open PySem PySem.Spec PyProof.Rows PySem.SeqAt MeetsSeq MeetsSeq2 MeetsSeq3
open AutoSeq1 (wpAny_loadPart')
end L2
namespace L2
open PySem PySem.Spec PyProof.Rows PySem.SeqAt MeetsSeq MeetsSeq2 MeetsSeq3
open AutoSeq1 (wpAny_loadPart')
open PySem PySem.Spec PyProof.Rows
def sdN(m:Nat)(W:List Nat)(e:Nat):Nat:=if e%2=1 then 2^m-1-W.getD (e/2) 0 else W.getD (e/2) 0
def Wv(m:Nat)(sd:List Nat)(gs:List (Nat×Nat)):List Nat:=gs.foldl (fun W g=>W++[sdN m W g.1&&&sdN m W g.2]) (0::sd)
theorem Wv_snoc(m:Nat)(sd:List Nat)(gs:List (Nat×Nat))(g:Nat×Nat):Wv m sd (gs++[g])=Wv m sd gs++[sdN m (Wv m sd gs) g.1&&&sdN m (Wv m sd gs) g.2]:=by
 unfold Wv
 rw [List.foldl_append]
 rfl
theorem snoc_ind{α:Type}{P:List α->Prop}(h0:P [])(hs:∀ l a,P l->P (l++[a])):∀ l,P l:=by
 intro l
 have:∀ r:List α,P r.reverse:=by
  intro r
  induction r with
  | nil=>exact h0
  | cons a r ih=>rw [List.reverse_cons];exact hs _ _ ih
 have h:=this l.reverse
 rwa [List.reverse_reverse] at h
theorem Wv_len(m:Nat)(sd:List Nat)(gs:List (Nat×Nat)):(Wv m sd gs).length=1+sd.length+gs.length:=by
 induction gs using snoc_ind with
 | h0=>unfold Wv;simp;lia
 | hs gs g ih=>rw [Wv_snoc,List.length_append,ih,List.length_append];simp;lia
def Low(m:Nat)(W:List Nat):Prop:=∀ v∈W,v<2^m
theorem getD_low{m:Nat}{W:List Nat}(h:Low m W)(i:Nat):W.getD i 0<2^m:=by
 rw [List.getD_eq_getElem?_getD]
 cases e:W[i]? with
 | none=>exact Nat.pow_pos (by decide)
 | some v=>exact h v (List.mem_of_getElem? e)
theorem sdN_low{m:Nat}{W:List Nat}(h:Low m W)(e:Nat):sdN m W e<2^m:=by
 unfold sdN
 have h1:=getD_low h (e/2)
 split
 ·lia
 ·exact h1
theorem Wv_low{m:Nat}{sd:List Nat}(h:Low m sd)(gs:List (Nat×Nat)):Low m (Wv m sd gs):=by
 induction gs using snoc_ind with
 | h0 =>
  intro v hv
  rcases List.mem_cons.mp hv with rfl | h'
  ·exact Nat.pow_pos (by decide)
  ·exact h v h'
 | hs gs g ih =>
  rw [Wv_snoc]
  intro v hv
  rcases List.mem_append.mp hv with h' | h'
  ·exact ih v h'
  ·rw [List.mem_singleton.mp h']
   exact Nat.lt_of_le_of_lt Nat.and_le_left (sdN_low ih _)
theorem tb_not{m x i:Nat}(h:x<2^m):(2^m-1-x).testBit i=(decide (i<m) && !x.testBit i):=by
 rw [show 2^m-1-x=2^m-(x+1) by lia]
 exact Nat.testBit_two_pow_sub_succ h i
theorem tb_hi{m x i:Nat}(h:x<2^m)(hi:¬i<m):x.testBit i=false:=Nat.testBit_lt_two_pow (Nat.lt_of_lt_of_le h (Nat.pow_le_pow_right (by decide) (by lia)))
open PySem
def nV(L:List Nat):List V:=L.map fun k:Nat=>V.int (k:Int)
theorem z_v{L:List Nat}:(nV L).length=L.length:=by unfold nV;simp
theorem comp_tup_map{K:PySem.W.Frag}{a:Addr}{S:V->St}{te:TE}{H:Hp}{Fin:List V->Hp->Prop}{xs:List V}(f:V->V)(hS:SqT K H a xs)(hz:xs.length<=100000)(hs:∀ x∈xs,∀ N:V->Hp->Prop,N (f x) H->te (S x) H N)(hd:Fin (xs.map f) H):CompW (Itt K a) S tYes te H Fin:=by
 refine comp_tup (xs:=xs) (fun i ys H'=>ys=(xs.take i).map f/\H=H') ⟨rfl,rfl⟩ ?_ ?_ ?_ ?_
 ·rintro i ys H' _ ⟨_,rfl⟩
  exact hS
 ·rintro i ys H' hi ⟨rfl,_⟩
  rw [List.length_map,List.length_take]
  exact y_u (by lia)
 ·rintro i x ys H' hx ⟨rfl,rfl⟩
  obtain ⟨hi,he⟩:=List.getElem?_eq_some_iff.mp hx
  unfold tYes
  dsimp only
  rw [if_pos rfl]
  refine hs x (he▸List.getElem_mem hi) _ ⟨?_,rfl⟩
  rw [List.take_succ_eq_append_getElem hi,List.map_append,he]
  rfl
 ·rintro ys H' ⟨rfl,rfl⟩
  rw [List.take_length]
  exact hd
abbrev KN:PySem.W.Frag:=[]
theorem SqL.up{K:PySem.W.Frag}{H:Hp}{a:Addr}{xs:List V}(h:SqL KN H a xs):SqL K H a xs:=by
 rcases h with h | ⟨o,_,_,e,_⟩
 ·exact .inl h
 ·exact nomatch (show (none:Option Obj)=some o from e)
theorem SqT.up{K:PySem.W.Frag}{H:Hp}{a:Addr}{xs:List V}(h:SqT KN H a xs):SqT K H a xs:=by
 rcases h with h | ⟨o,_,_,e,_⟩
 ·exact .inl h
 ·exact nomatch (show (none:Option Obj)=some o from e)
section
variable {X:Cx}
theorem y_b:IxR X (rIxL KN):=fun va sl pins s σ H x y v u Q I rx ry ⟨p,xs,i,z,e1,e2,hq,r⟩ hs=>ix_list va sl pins s σ H x y v u Q I rx ry ⟨p,xs,i,z,e1,e2,hq.up,r⟩ hs
theorem z_p:IxR X (rIxT KN):=fun va sl pins s σ H x y v u Q I rx ry ⟨p,xs,i,z,e1,e2,hq,r⟩ hs=>ix_tup va sl pins s σ H x y v u Q I rx ry ⟨p,xs,i,z,e1,e2,hq.up,r⟩ hs
theorem sl_list0:SlR X (rSlL KN):=fun pins s σ H x v vl vu lo hi sl Q I rx hs pl pu ⟨a,xs,e,hq,r⟩=>sl_list pins s σ H x v vl vu lo hi sl Q I rx hs pl pu ⟨a,xs,e,hq.up,r⟩
theorem LenV.up{K:PySem.W.Frag}{x:V}{H:Hp}{n:Nat}(h:LenV KN x H n):LenV K x H n:=by
 cases x with
 | ref p =>
  rcases (show (∃ xs,SqL KN H p xs/\n=xs.length)\/∃ xs,SqT KN H p xs/\n=xs.length from h) with ⟨xs,a,b⟩ | ⟨xs,a,b⟩
  ·exact .inl ⟨xs,a.up,b⟩
  ·exact .inr ⟨xs,a.up,b⟩
 | _=>exact h
theorem TruV.up{K:PySem.W.Frag}{x:V}{H:Hp}{k:Bool}(h:TruV KN x H k):TruV K x H k:=by
 cases x with
 | ref p =>
  rcases (show (∃ xs,SqL KN H p xs/\k = !xs.isEmpty)\/(∃ xs,SqT KN H p xs/\k = !xs.isEmpty)\/∃ kvs,H p=some (.dK kvs)/\k = !kvs.isEmpty from h) with ⟨xs,a,b⟩ | ⟨xs,a,b⟩ | c
  ·exact .inl ⟨xs,a.up,b⟩
  ·exact .inr (.inl ⟨xs,a.up,b⟩)
  ·exact .inr (.inr c)
 | _=>exact h
theorem x_k:CallR X (.builtin "len") (fun xs H Q=>∃ x n,xs=[x]/\LenV KN x H n/\Q (.int n) H):=fun pins s σ H xs us Q I r ⟨x,n,e,l,q⟩=>call_len pins s σ H xs us Q I r ⟨x,n,e,l.up,q⟩
theorem x_b:CallR X (.type "tuple") (fun xs H Q=>∃ p ys,xs=[.ref p]/\((SqL KN H p ys/\∀ l,H l=none->Q (.ref l) (upd H l (.tup ys)))\/(SqT KN H p ys/\Q (.ref p) H))):=fun pins s σ H xs us Q I r ⟨p,ys,e,l⟩ =>
 call_tuple_of pins s σ H xs us Q I r ⟨p,ys,e,l.imp (fun z=>⟨z.1.up,z.2⟩) fun z=>⟨z.1.up,z.2⟩⟩
theorem call_all0:CallR X (.builtin "all") (fun xs H Q=>X.calm=true/\∃ (p:Addr) (bs:List Bool),xs=[.ref p]/\SqL KN H p (bs.map V.bl)/\Q (.bl (bs.all id)) H):=fun pins s σ H xs us Q I r ⟨c,p,bs,e,l,q⟩ =>
 call_all pins s σ H xs us Q I r ⟨c,p,bs,e,l.up,q⟩
theorem Turn.up{P:Program}{w:World}{K:PySem.W.Frag}{tg:Expr}{J J':It}{fp:List Addr}{it:Addr}{tn:Nat->Heap->Prop}(t:Turn P w K tg J fp it tn)(g:∀ i H,J'.go i H->J.go i H)(d:∀ i H,J'.stop i H->J.stop i H)
  (y:∀ i H x H',J.yld i H x H'->J'.yld i H x H'):Turn P w K tg J' fp it tn where
 mem:=t.mem
 obj:=t.obj
 keep:=t.keep
 item:=fun X a b c e i pins s σ H E I f n q=>thn (t.item X a b c e i pins s σ H E I f n (g _ _ q)) fun r s1 ⟨u,h1,h2⟩=>⟨u,h1,thn h2 fun _ s2 ⟨x,H',I',r',y',z⟩=>⟨x,H',I',r',y _ _ _ _ y',z⟩⟩
 done:=fun X a b c e i pins s σ H E I f n q=>t.done X a b c e i pins s σ H E I f n (d _ _ q)
 self:=t.self
def cl(t:TE):TE:=fun σ H Q=>∃ R,t σ H R/\∀ x H',R x H'->Q x H'
def cla(t:TA):TA:=fun σ H Q=>∃ R,t σ H R/\∀ x H',R x H'->Q x H'
theorem PE.cl{e:Expr}{t:TE}(h:PE X e t):PE X e (cl t):=fun pins s σ H Q I ⟨R,q,m⟩=>thn (h pins s σ H R I q) fun v s' ⟨x,H',I',r,z⟩=>⟨x,H',I',r,m _ _ z⟩
theorem PA.cl{es:List Expr}{t:TA}(h:PA X es t):PA X es (cla t):=fun pos pins s σ H Q I ⟨R,q,m⟩=>thn (h pos pins s σ H R I q) fun v s' ⟨x,H',I',r,z⟩=>⟨x,H',I',r,m _ _ z⟩
theorem PE.wk0{e:Expr}{t t':TE}(h:PE X e t)(m:∀ σ H Q,t' σ H Q->t σ H Q):PE X e t':=fun pins s σ H Q I q=>h pins s σ H Q I (m _ _ _ q)
theorem PI.weak{tg l:Expr}{wi wi':TI}(h:PI X tg l wi)
  (m:∀ σ H R,wi' σ H R->wi σ H fun J0 H1=>∃ J1,((∀ i H,J1.go i H->J0.go i H)/\(∀ i H,J1.stop i H->J0.stop i H)/\∀ i H x H',J0.yld i H x H'->J1.yld i H x H')/\R J1 H1):PI X tg l wi':=fun pins s σ H R I q =>
 thn (h pins s σ H _ I (m _ _ _ q)) fun v s1 z=>thn z fun itv s2 z=>by
  obtain ⟨it,fp,tn,J,H',e,I',t,n,f,J1,⟨g,d,y⟩,r⟩:=z
  exact ⟨it,fp,tn,J1,H',e,I',t.up g d y,n,f,r⟩
theorem z_x{tg l:Expr}{tl:TE}(hl:PE X l tl):PI X tg l (iList KN tl):=(pi_list hl.cl).weak fun σ H R q=>⟨_,q,fun x H1 ⟨a,e,⟨xs,z⟩,r⟩=>⟨a,e,⟨xs,z.up⟩,Itl KN a,
 ⟨fun i H ⟨xs,x,u,v⟩=>⟨xs,x,u.up,v⟩,fun i H ⟨xs,u,v⟩=>⟨xs,u.up,v⟩,fun i H x H' ⟨u,v⟩=>⟨u,fun xs z=>v xs z.up⟩⟩,r⟩⟩
theorem pi_tup0{tg l:Expr}{tl:TE}(hl:PE X l tl):PI X tg l (iTup KN tl):=(pi_tup hl.cl).weak fun σ H R q=>⟨_,q,fun x H1 ⟨a,e,⟨xs,z⟩,r⟩=>⟨a,e,⟨xs,z.up⟩,Itt KN a,
 ⟨fun i H ⟨xs,x,u,v⟩=>⟨xs,x,u.up,v⟩,fun i H ⟨xs,u,v⟩=>⟨xs,u.up,v⟩,fun i H x H' ⟨u,v⟩=>⟨u,fun xs z=>v xs z.up⟩⟩,r⟩⟩
theorem pi_zip0{elts:List Expr}{kk:Nat}{tpos:Pos}{a b:Expr}{ta:TA}{p pos:Pos}(hg:Gl X "zip")(hm:X.mg "zip" = none)(ha:PA X [a,b] ta)(hs:starEach [a,b] X.env=[(false,eval a X.env),(false,eval b X.env)]:=by rfl)(hs2:starEach [b] X.env=[(false,eval b X.env)]:=by rfl) :
  PI X (.Tuple elts kk tpos) (.Call (.Name "zip" p) [a,b] [] pos) (iZip KN ta):=(pi_zip hg hm ha.cl hs hs2).weak fun σ H R q=>⟨_,q,fun x H1 ⟨a,b,e,⟨xs,z⟩,⟨ys,z'⟩,r⟩=>⟨a,b,e,⟨xs,z.up⟩,⟨ys,z'.up⟩,Itz KN a b,
 ⟨fun i H ⟨xs,ys,x,y,u,u',v⟩=>⟨xs,ys,x,y,u.up,u'.up,v⟩,fun i H ⟨xs,ys,u,u',v⟩=>⟨xs,ys,u.up,u'.up,v⟩,fun i H x H' ⟨p,x',y',u,v,w,f,g⟩=>⟨p,x',y',u,v,w,fun xs z=>f xs z.up,fun ys z=>g ys z.up⟩⟩,r⟩⟩
theorem y_t{a:Expr}{ta:TE}(ha:PE X a ta)(he:∀ whole,isTrue a X.env whole=(do let v <-whole;standAt a.pos;holding [v] (truthy v))) :
  PT X a (fun σ H Q=>ta σ H fun x H'=>∃ k,TruV KN x H' k/\Q k H'):=fun pins s σ H Q I q=>pt_truth ha.cl he pins s σ H Q I ⟨_,q,fun x H' ⟨k,t,z⟩=>⟨k,t.up,z⟩⟩
theorem tyV.up{K:PySem.W.Frag}{T:String}{x:V}{H:Hp}(h:tyV KN T x H):tyV K T x H:=by
 cases x with
 | ref p =>
  rcases (show (T = "list" /\ ∃ xs,SqL KN H p xs)\/(T = "tuple" /\ ∃ o,KN.lookup p=some o/\o.cls = .type "tuple" /\ o.dict=none)\/(T = "dict" /\ ((∃ kvs,H p=some (.dK kvs))\/∃ kvs,H p=some (.dT kvs)))\/(T = "set" /\ ∃ S n,H p=some (.set S n)) from h) with ⟨a,xs,b⟩ | ⟨_,o,e,_⟩ | c
  ·exact .inl ⟨a,xs,b.up⟩
  ·exact nomatch (show (none:Option Obj)=some o from e)
  ·exact .inr (.inr c)
 | _=>exact h
variable {o e:Expr} {es:List Expr} {to:TE} {t:TA} {name:Str} {apos cpos:Pos} {T id:String} {r:V->List V->Hp->VK->Prop}
theorem pe_bm00(pa:PlainAttrs T)(slot:Slot T name id)(hty:typeOf (.builtin id)=pure (.type "method_descriptor"))(hm:MtR X id r)(ho:PE X o to)
  (hbase:attributeBase o name X.env (eval o X.env)=eval o X.env:=by rfl) (hline:(apos.endLine == cpos.line)=true:=by rfl):PE X (.Call (.Attribute o name apos) [] [] cpos) (tBM0 KN T r to) :=
 (pe_bm0 pa slot hty hm ho.cl hbase hline).wk0 fun σ H Q q=>⟨_,q,fun x H1 z=>⟨z.1.up,z.2⟩⟩
theorem pe_bmN(pa:PlainAttrs T)(slot:Slot T name id)(hty:typeOf (.builtin id)=pure (.type "method_descriptor"))(hm:MtR X id r)(ho:PE X o to)(ha:PA X (e::es) t)
  (hbase:attributeBase o name X.env (eval o X.env)=eval o X.env:=by rfl)
  (hfew:((backTo cpos (starEach (e::es) X.env)).all (fun x=>!x.1)&&(backToKw cpos (keywordEach [] X.env)).all (fun x=>x.1.isSome)
   && decide ((e::es).length+([]:List Keyword).length+(if ([]:List Keyword).isEmpty then 0 else 1)<30))=true:=by rfl)
  (hline:(apos.endLine == cpos.line)=true:=by rfl) (hs:starEach (e::es) X.env=(false,eval e X.env)::starEach es X.env:=by rfl) (hplain:(backTo cpos (starEach es X.env)).any (·.1)=false:=by rfl) :
  PE X (.Call (.Attribute o name apos) (e::es) [] cpos) (tBM KN T r to t):=(pe_bm pa slot hty hm ho.cl ha hbase hfew hline hs hplain).wk0 fun σ H Q q=>⟨_,q,fun x H1 z=>⟨z.1.up,z.2⟩⟩
theorem pg_tup0{pos:Pos}{es:List Expr}{k:Nat}{t:TGs}{n:Nat}(hc:X.calm=true)(h:PGs X es t)
  (hn:(assignEach es X.env).length=n:=by rfl) (hst:(assignEach es X.env).findIdx? (·.1)=none:=by rfl):PG X (.Tuple es k pos) (gTup KN n t):=fun pins s σ H v u Q I r ⟨a,xs,e,hq,z⟩=>pg_tup hc h hn hst pins s σ H v u Q I r ⟨a,xs,e,hq.up,z⟩
end
theorem l_cons{P:List Value->Prop}{n:Nat}(h:∀ a us,us.length=n->P (a::us)):∀ us:List Value,us.length=n+1->P us
 | [],e=>nomatch e
 | a::us,e=>h a us (Nat.succ.inj e)
theorem l_nil{P:List Value->Prop}(h:P []):∀ us:List Value,us.length=0->P us
 | [],_=>h
 | _::_,e=>nomatch e
def onI(f:Int->Int):V->V
 | .int e=>.int (f e)
 | v=>v
end L2
namespace L2
open PySem PySem.Spec PyProof.Rows
section
variable {X:Cx}
theorem call_repr(hu:X.A.units+64<cLine):CallR X (.builtin "repr") (fun xs H Q=>∃ (a:Addr) (d:PyData),xs=[.ref a]/\RdD X.K H d (.ref a)/\d.showable=true/\d.hasDict=false/\d.depth<=20/\d.shown.length<=sizeLine/\Q (.str d.shown) H):=by
 intro pins s σ H xs us Q I r h
 obtain ⟨a,d,rfl,hd,hs,hn,hp,hz,q⟩:=h
 obtain ⟨u,rfl,rx⟩:=vals1 r
 obtain ⟨as,rr⟩:=Inv.reads I hd rx
 cases (show u=Value.ref a from rx)
 refine repr_of_reads' rr hs (PyData.noDict_hsm hn) I.ok.gd (by lia) (fun _ _ e=>e) (fun h' u tk k=>⟨.str d.shown,H,I.kept k,⟨_,rfl⟩,q⟩) hz
end
end L2
namespace L2
open PySem PySem.Spec PyProof.Rows
def nw(n:Nat):Str:=Str.ofString (toString (n:Int))
theorem nw_signs(n:Nat):(nw n).cps.toList=(Nat.toDigits 10 n).map Char.toNat:=PySem.W.KIN.signs_num n
theorem digs_len:∀ (k n:Nat),n<10^(k+1)->(Nat.toDigits 10 n).length<=k+1
 | 0,n,h=>by rw [Nat.toDigits_of_lt_base (by simpa using h)];simp
 | k+1,n,h=>by
  by_cases h9:n<10
  ·rw [Nat.toDigits_of_lt_base h9];simp
  ·have t:Nat.toDigits 10 (n/10)++Nat.toDigits 10 (n%10)=Nat.toDigits 10 (10*(n/10)+n%10):=Nat.toDigits_append_toDigits (by decide) (by lia) (Nat.mod_lt n (by decide))
   rw [Nat.div_add_mod] at t
   rw [<-t,List.length_append,Nat.toDigits_of_lt_base (Nat.mod_lt n (by decide))]
   have:=digs_len k (n/10) (by rw [Nat.pow_succ] at h;lia)
   simp only [List.length_cons,List.length_nil]
   lia
theorem nw_len{n:Nat}(h:n<10^9):(nw n).length<=9:=by
 show (nw n).cps.size<=_
 rw [<-Array.length_toList,nw_signs,List.length_map]
 exact digs_len 8 n h
theorem lgN{n:Nat}(h:n<10^9):((n:Nat):Int).natAbs.log2<1920:=log2_lt_of (k:=1920) (Nat.lt_of_lt_of_le h (by decide)) (by decide)
theorem pairedMapL{α β γ:Type}{R:α->β->Prop}{f:γ->β}:∀ {zs:List γ} {xs:List α},Paired (fun x z=>R x (f z)) xs zs->Paired R xs (zs.map f):=by
 intro zs xs h
 induction h with
 | nil=>exact .nil
 | cons a _ ih=>exact .cons a ih
theorem comp_new{K:PySem.W.Frag}{a:Addr}{S:V->St}{te:TE}{H:Hp}{Fin:List V->Hp->Prop}{xs:List V}{α:Type}(ps:List α)(f:α->HO)(hS:SqL K H a xs)(hl:xs.length=ps.length)(hz:ps.length<=100000)
  (hs:∀ (i:Nat) (x:V) (p:α) (H':Hp),xs[i]? = some x->ps[i]? = some p->Same H H'->∀ N:V->Hp->Prop,(∀ r H2,H' r=none->Same H' H2->H2 r=some (f p)->N (.ref r) H2)->te (S x) H' N)
  (hd:∀ rs H',Same H H'->(∀ r∈rs,H r=none)->Paired (fun r p=>H' r=some (f p)) rs ps->Fin (rs.map V.ref) H'):CompW (Itl K a) S tYes te H Fin:=by
 refine comp_list (xs:=xs) (fun i ys H'=>∃ rs:List Addr,ys=rs.map V.ref/\Same H H'/\(∀ r∈rs,H r=none)/\Paired (fun r p=>H' r=some (f p)) rs (ps.take i)) ⟨[],rfl,Same.refl _,(fun _ h=>absurd h (by simp)),.nil⟩ ?_ ?_ ?_ ?_
 ·rintro i ys H' _ ⟨_,_,s,_⟩
  exact s.seq hS
 ·rintro i ys H' _ ⟨rs,rfl,_,_,pr⟩
  have h1:=Paired.length pr
  rw [List.length_take] at h1
  rw [List.length_map]
  exact y_u (by lia)
 ·rintro i x ys H' hx ⟨rs,rfl,s,hn,pr⟩
  have hi:i<ps.length:=by rw [<-hl];exact (List.getElem?_eq_some_iff.mp hx).1
  unfold tYes
  refine iteT (hs i x ps[i] H' hx (List.getElem?_eq_getElem hi) s _ fun r H2 h0 s2 e=>⟨rs++[r],by rw [List.map_append];rfl,s.trans s2,fun q hq=>?_,?_⟩)
  ·rcases List.mem_append.mp hq with h | h
   ·exact hn q h
   ·rw [List.mem_singleton.mp h];exact s.free h0
  ·rw [List.take_add_one,List.getElem?_eq_getElem hi]
   exact pairedSnoc (R:=fun r p=>H2 r=some (f p)) e (z_r (fun _ _ z=>s2 _ _ z) pr)
 ·rintro ys H' ⟨rs,rfl,s,hn,pr⟩
  rw [hl,List.take_length] at pr
  exact hd rs H' s hn pr
open PySem
theorem Paired.at{α β:Type}{R:α->β->Prop}:∀ {xs:List α} {ps:List β} {i:Nat} {x:α},Paired R xs ps->xs[i]? = some x->∃ p,ps[i]? = some p/\R x p
 | _,_,_,_,.nil,h=>by cases h
 | _,_,0,_,.cons r _,h=>by cases h;exact ⟨_,rfl,r⟩
 | _,_,i+1,_,.cons _ t,h=>Paired.at (i:=i) t h
theorem comp_paired{K:PySem.W.Frag}{a:Addr}{S:V->St}{te:TE}{H:Hp}{Fin:List V->Hp->Prop}{α:Type}{R:Addr->α->Prop}{rs:List Addr}{ps:List α}(f:α->V)(hS:SqL K H a (rs.map V.ref))(hp:Paired R rs ps)(hz:rs.length<=100000)(hs:∀ r p,R r p->p∈ps->∀ N:V->Hp->Prop,N (f p) H->te (S (.ref r)) H N)(hd:Fin (ps.map f) H):CompW (Itl K a) S tYes te H Fin:=by
 have hl:=Paired.length hp
 refine comp_list (xs:=rs.map V.ref) (fun i ys H'=>ys=(ps.take i).map f/\H=H') ⟨rfl,rfl⟩ ?_ ?_ ?_ ?_
 ·rintro i ys H' _ ⟨_,rfl⟩
  exact hS
 ·rintro i ys H' hi ⟨rfl,_⟩
  rw [List.length_map,List.length_take]
  rw [List.length_map] at hi
  exact y_u (by lia)
 ·rintro i x ys H' hx ⟨rfl,rfl⟩
  rw [List.getElem?_map] at hx
  obtain ⟨r,hr,rfl⟩:=Option.map_eq_some_iff.mp hx
  obtain ⟨p,hpi,hR⟩:=Paired.at hp hr
  unfold tYes
  dsimp only
  rw [if_pos rfl]
  refine hs r p hR (List.mem_of_getElem? hpi) _ ⟨?_,rfl⟩
  rw [take_get hpi,List.map_append]
  rfl
 ·rintro ys H' ⟨rfl,rfl⟩
  rw [List.length_map,hl,List.take_length]
  exact hd
theorem comp_listG{K:PySem.W.Frag}{n:Nat}{c:St}{g:TG}{tt:TT}{te:TE}{H:Hp}{Fin:List V->Hp->Prop}{a:Addr}{xs:List V}(Pv:Nat->List V->Hp->Prop)(h0:Pv 0 [] H)(hl:∀ i ys H,i<=xs.length->Pv i ys H->SqL K H a xs)(hz:∀ i ys H,i<xs.length->Pv i ys H->ys.length<sizeLine)
  (hs:∀ i x ys H (os:St),os.length=n->xs[i]? = some x->Pv i ys H->g x (os++c) H fun σ2 H2=>tt σ2 H2 fun b H3=>if b=true then te σ2 H3 fun y H4=>Pv (i+1) (ys++[y]) H4 else Pv (i+1) ys H3)
  (hd:∀ ys H,Pv xs.length ys H->Fin ys H):CompG (Itl K a) n c g tt te H Fin:=by
 refine ⟨fun i m ys H=>m=xs.length-i/\i<=xs.length/\Pv i ys H,⟨xs.length,by simp,Nat.zero_le _,h0⟩,?_⟩
 rintro i m ys H ⟨rfl,hi,p⟩
 have q1:=hl i ys H hi p
 by_cases hlt:i<xs.length
 ·refine .inr ⟨⟨xs,xs[i],q1,by simp [hlt]⟩,hz i ys H hlt p,Pv (i+1),fun ys' H' p'=>⟨xs.length-(i+1),by lia,rfl,hlt,p'⟩,fun v H' y os hos=>?_⟩
  obtain ⟨e,y⟩:=y
  subst e
  exact hs i v ys _ os hos (y xs q1) p
 ·have e:i=xs.length:=by lia
  subst e
  exact .inl ⟨⟨xs,q1,Nat.le_refl _⟩,hd ys H p⟩
def cell_sp(K:PySem.W.Frag):Sp:=fun vs H Q _=>∃ (a:Addr) (ns:List Int) (k:Int),vs=[.ref a,.int k]/\SqL K H a (ns.map V.int)/\0<=k/\∀ v:Int,Q (.int v) H
def bag_sp(K:PySem.W.Frag):Sp:=fun vs H Q _=>∃ (a:Addr) (ns:List Int) (k:Int),vs=[.ref a,.int k]/\SqL K H a (ns.map V.int)/\0<=k/\k<1000/\∀ l (b0 b1:Int),H l=none->0<=b0->Q (.ref l) (upd H l (.lst [.int b0,.int b1]))
def TNs(H:Hp)(p:Addr)(rs:List Addr)(rows:List (List Nat)):Prop:=H p=some (.lst (rs.map V.ref))/\Paired (fun r ns=>H r=some (.tup (nV ns))) rs rows
theorem TNs.same{H H':Hp}{p:Addr}{rs:List Addr}{rows:List (List Nat)}(s:Same H H')(h:TNs H p rs rows):TNs H' p rs rows:=⟨s _ _ h.1,z_r (fun _ _ q=>s _ _ q) h.2⟩
theorem TNs.len{H:Hp}{p:Addr}{rs:List Addr}{rows:List (List Nat)}(h:TNs H p rs rows):rs.length=rows.length:=Paired.length h.2
structure Wn where
 ins:Nat
 boxes:List (List Nat)
 gates:List (List Nat)
 outs:List Nat
def Wn.first(W:Wn):Nat:=1+W.ins+W.boxes.length
def Wn.knots(W:Wn):Nat:=W.first+W.gates.length
structure WnA(H:Hp)(w b g o:Addr)(bs gs:List Addr)(W:Wn):Prop where
 w:H w=some (.tup [.int (W.ins:Int),.ref b,.ref g,.ref o])
 b:TNs H b bs W.boxes
 g:TNs H g gs W.gates
 o:H o=some (.lst (nV W.outs))
theorem WnA.same{H H':Hp}{w b g o:Addr}{bs gs:List Addr}{W:Wn}(s:Same H H')(h:WnA H w b g o bs gs W):WnA H' w b g o bs gs W:=⟨s _ _ h.w,h.b.same s,h.g.same s,s _ _ h.o⟩
def dNs(ns:List Nat):List PyData:=ns.map fun n:Nat=>PyData.int (n:Int)
def dRs(rows:List (List Nat)):PyData:=.list (rows.map fun ns=>PyData.tuple (dNs ns))
def dWn(W:Wn):PyData:=.tuple [.int (W.ins:Int),dRs W.boxes,dRs W.gates,.list (dNs W.outs)]
theorem rd_ns{K:PySem.W.Frag}{H:Hp}:∀ ns:List Nat,RdDs K H (dNs ns) (nV ns)
 | []=>RdDs.nil
 | n::r=>RdDs.cons (.int _) (rd_ns r)
theorem rd_rows{K:PySem.W.Frag}{H:Hp}{rs:List Addr}{rows:List (List Nat)}(h:Paired (fun r ns=>H r=some (.tup (nV ns))) rs rows):RdDs K H (rows.map fun ns=>PyData.tuple (dNs ns)) (rs.map V.ref):=by
 induction h with
 | nil=>exact RdDs.nil
 | cons a r ih=>exact RdDs.cons (RdD.tup (SqT.of a) (rd_ns _)) ih
theorem TNs.rd{K:PySem.W.Frag}{H:Hp}{p:Addr}{rs:List Addr}{rows:List (List Nat)}(h:TNs H p rs rows):RdD K H (dRs rows) (.ref p):=RdD.lst (SqL.of h.1) (rd_rows h.2)
theorem WnA.rd{K:PySem.W.Frag}{H:Hp}{w b g o:Addr}{bs gs:List Addr}{W:Wn}(h:WnA H w b g o bs gs W):RdD K H (dWn W) (.ref w):=RdD.tup (SqT.of h.w) (RdDs.cons (.int _) (RdDs.cons h.b.rd (RdDs.cons h.g.rd (RdDs.cons (RdD.lst (SqL.of h.o) (rd_ns _)) .nil))))
theorem cmp_ns{n:Nat}(ns:List Nat):∀ d∈dNs ns,Cmp n d:=fun d hd=>by
 obtain ⟨i,_,rfl⟩:=List.mem_map.mp hd
 exact .int _
theorem cmp_rs(rows:List (List Nat)):Cmp 2 (dRs rows):=Cmp.list fun d hd=>by
 obtain ⟨p,_,rfl⟩:=List.mem_map.mp hd
 exact Cmp.tuple (cmp_ns p)
theorem cmp_wn(W:Wn):Cmp 3 (dWn W):=Cmp.tuple fun d hd=>by
 simp only [List.mem_cons,List.not_mem_nil,or_false] at hd
 rcases hd with rfl | rfl | rfl | rfl
 ·exact .int _
 ·exact cmp_rs _
 ·exact cmp_rs _
 ·exact Cmp.mono (Cmp.list (n:=1) (cmp_ns W.outs)) (by decide)
theorem sh_ns:∀ {ns:List Nat},(∀ n∈ns,n<10^9)->PyData.showableAll (dNs ns)=true/\∀ t∈PyData.shownAll (dNs ns),t.length<=9
 | [],_=>⟨by simp [dNs,PyData.showableAll],fun t h=>by simp [dNs,PyData.shownAll] at h⟩
 | n::r,h=>by
  obtain ⟨h1,h2⟩:=sh_ns (ns:=r) fun m hm=>h m (List.mem_cons_of_mem _ hm)
  have hn:=h n List.mem_cons_self
  refine ⟨?_,fun t ht=>?_⟩
  ·show PyData.showableAll (PyData.int (n:Int)::dNs r)=true
   rw [PyData.showableAll,h1,PyData.showable,decide_eq_true (lgN hn)]
   rfl
  ·rw [show PyData.shownAll (dNs (n::r))=nw n::PyData.shownAll (dNs r) from by show PyData.shownAll (PyData.int (n:Int)::dNs r)=_;rw [PyData.shownAll,PyData.shown];rfl] at ht
   rcases List.mem_cons.mp ht with rfl | ht
   ·exact nw_len hn
   ·exact h2 t ht
theorem x_j:∀ ds:List PyData,(PyData.shownAll ds).length=ds.length
 | []=>by simp [PyData.shownAll]
 | _::r=>by rw [PyData.shownAll,List.length_cons,List.length_cons,x_j r]
theorem sh_tup{ns:List Nat}(h:∀ n∈ns,n<10^9)(hl:ns.length<=20):PyData.showable (.tuple (dNs ns))=true/\(PyData.shown (.tuple (dNs ns))).length<=223:=by
 obtain ⟨h1,h2⟩:=sh_ns h
 refine ⟨by rw [PyData.showable];exact h1,?_⟩
 rw [PyData.shown]
 have a:=tupleText_len_le (PyData.shownAll (dNs ns))
 have b:=StrLaws.sumLen_le _ h2
 rw [x_j] at a b
 have c:(dNs ns).length=ns.length:=List.length_map _
 lia
theorem sh_lst{ns:List Nat}(h:∀ n∈ns,n<10^9)(hl:ns.length<=20):PyData.showable (.list (dNs ns))=true/\(PyData.shown (.list (dNs ns))).length<=223:=by
 obtain ⟨h1,h2⟩:=sh_ns h
 refine ⟨by rw [PyData.showable];exact h1,?_⟩
 rw [PyData.shown]
 have a:=listText_len_le (PyData.shownAll (dNs ns))
 have b:=StrLaws.sumLen_le _ h2
 rw [x_j] at a b
 have c:(dNs ns).length=ns.length:=List.length_map _
 lia
theorem sh_all:∀ {rows:List (List Nat)},(∀ r∈rows,(∀ n∈r,n<10^9)/\r.length<=20)->PyData.showableAll (rows.map fun ns=>PyData.tuple (dNs ns))=true/\∀ t∈PyData.shownAll (rows.map fun ns=>PyData.tuple (dNs ns)),t.length<=223
 | [],_=>⟨by simp [PyData.showableAll],fun t h=>by simp [PyData.shownAll] at h⟩
 | n::r,h=>by
  obtain ⟨h1,h2⟩:=sh_all (rows:=r) fun m hm=>h m (List.mem_cons_of_mem _ hm)
  obtain ⟨a,b⟩:=sh_tup (h n List.mem_cons_self).1 (h n List.mem_cons_self).2
  refine ⟨?_,fun t ht=>?_⟩
  ·rw [List.map_cons,PyData.showableAll,h1,a]
   rfl
  ·rw [List.map_cons,PyData.shownAll] at ht
   rcases List.mem_cons.mp ht with rfl | ht
   ·exact b
   ·exact h2 t ht
theorem sh_rs{rows:List (List Nat)}(h:∀ r∈rows,(∀ n∈r,n<10^9)/\r.length<=20)(hl:rows.length<=200):PyData.showable (dRs rows)=true/\(PyData.shown (dRs rows)).length<=50000:=by
 obtain ⟨h1,h2⟩:=sh_all h
 unfold dRs
 refine ⟨by rw [PyData.showable];exact h1,?_⟩
 rw [PyData.shown]
 have a:=listText_len_le (PyData.shownAll (rows.map fun ns=>PyData.tuple (dNs ns)))
 have b:=StrLaws.sumLen_le _ h2
 rw [x_j,List.length_map] at a b
 lia
section
variable {prog:Program} {w:World} {K:Type} [DecidableEq K]
 (knd:KeyKind prog w K)
inductive ItemsN (hz:Heap):List (List K)->List Value->Prop
 | nil:ItemsN hz [] []
 | cons {k:List K} {a:Addr} {ks:List (List K)} {vs:List Value}:IsTupleKey knd hz k a->ItemsN hz ks vs->ItemsN hz (k::ks) (.ref a::vs)
def IsNestKey(hz:Heap)(ks:List (List K))(a:Addr):Prop:=∃ o its n,hz.get? a=some o/\o.cls = .type "tuple" /\ o.data = .seq its n/\ItemsN knd hz ks its.toList
variable {knd}
theorem ItemsN.inj{hz:Heap}{x y:List (List K)}{vs:List Value}(kx:ItemsN knd hz x vs)(ky:ItemsN knd hz y vs):x=y:=by
 induction kx generalizing y with
 | nil=>cases ky;rfl
 | cons h1 _ ih =>
  cases ky with
  | cons h2 t2=>rw [h1.inj h2,ih t2]
theorem IsNestKey.typeIs{sz:Shared}{ks:List (List K)}{a:Addr}(x:IsNestKey knd sz.heap ks a):sz.TypeIs (.ref a) "tuple" := let ⟨o,_,_,oz,cz,_⟩:=x;⟨o,oz,cz⟩
theorem IsNestKey.inj{hz:Heap}{a:Addr}{x y:List (List K)}(kx:IsNestKey knd hz x a)(ky:IsNestKey knd hz y a):x=y:=by
 obtain ⟨o,its,n,oz,_,dz,iz⟩:=kx
 obtain ⟨o',its',n',oz',_,dz',iz'⟩:=ky
 obtain rfl:o=o':=Option.some.inj (oz.symm.trans oz')
 rw [dz] at dz'
 injection dz' with h1 _
 subst h1
 exact iz.inj iz'
theorem IsNestKey.keeps{hz hz':Heap}{ks:List (List K)}{a d:Addr}{o:Obj}{es ep}(x:IsNestKey knd hz ks a)(oz:hz.get? d=some o)(dz:o.data = .dict es ep)(hs:Heap.SameBut d hz hz') :
  IsNestKey knd hz' ks a:=by
 obtain ⟨o',its,n,oz',cz,dz',iz⟩:=x
 have nz:a≠d:=by
  rintro rfl
  obtain rfl:o'=o:=Option.some.inj (oz'.symm.trans oz)
  rw [dz] at dz';exact nomatch dz'
 refine ⟨o',its,n,(hs.2 a nz).trans oz',cz,dz',?_⟩
 revert iz
 generalize its.toList=vs
 intro iz
 induction iz with
 | nil=>exact .nil
 | cons h1 _ ih=>exact .cons (h1.keeps oz dz hs) ih
def nestHash(knd:KeyKind prog w K)(ks:List (List K)):Int:=reduceHash (Builtin.Tuple.tupleHashOf (ks.map (tupleKeyHash knd)))
def nestDraws(ks:List (List K)):Nat:=(ks.map fun k=>k.length+1).sum
variable {Az:Around} {Ez:Value->Shared->Prop} {sz:Shared}
theorem wpAny_pyHash_nest{ks:List (List K)}{a:Addr}{Qz:Int->Shared->Prop}(uz:Az.units+1<cLine)(kz:IsNestKey knd sz.heap ks a)(hz:Qz (nestHash knd ks) { sz with toks:=sz.toks+(nestDraws ks+1) }) :
  wpAny (model prog w) Az (pyHash (.ref a)) Qz Ez sz:=by
 have ty0:=kz.typeIs
 obtain ⟨o,its,n,oz,_,dz,iz⟩:=kz
 unfold pyHash
 try unfold pyHashByItsType
 first | refine wpAny_bind (wpAny_cRoomFor_or (.inr (by lia)) ?_) | skip
 refine wpAny_bind (wpAny_specialOf ty0 F.slot_tuple_hash.lookup ?_)
 show wpAny _ _ (if (some (Value.builtin "tuple.__hash__") == some Value.none)=true then _ else _) Qz Ez sz
 rw [if_neg (by rw [beq_builtin_none];exact nofun)]
 refine wpAny_bind (wpAny_specialOf ty0 F.slot_tuple_hash.lookup ?_)
 show wpAny _ _ (callSpecialIfBoundUnlessNone? (.ref a) "__hash__" _ >>= _) Qz Ez sz
 refine wpAny_bind (wpAny_callSpecialIfBoundUnlessNone?_slot ty0 F.slot_tuple_hash (wpAny_call_entry F.slot_tuple_hash ty0 F.entry_tuple_hash ?_ (F.args_tuple_hash_1 _)))
 show wpAny _ _ (Builtin.Tuple.tupleItemsOf (.ref a) >>= _) _ _ sz
 refine wpAny_bind (wpAny_tupleItemsOf oz dz ?_)
 refine wpAny_bind ?_
 rw [<-Array.forIn_toList]
 refine wpAny_forIn_list _
  (fun rst (b:Array Int) sz'=>∃ dn lf,ks=dn++lf/\ItemsN knd sz.heap lf rst/\b.toList=dn.map (tupleKeyHash knd)/\sz'={ sz with toks:=sz.toks+nestDraws dn })
  _ ?_ ?_ _ _ ⟨[],ks,rfl,iz,rfl,rfl⟩
 ·rintro x rst b sz' ⟨dn,lf,rfl,lz,bz,rfl⟩
  cases lz with
  | @cons k b0 ks' _ h1 lz' =>
   refine wpAny_bind (wpAny_pyHash_tuple (knd:=knd) (ks:=k) uz h1 ?_)
   have e:nestDraws (dn++[k])=nestDraws dn+(k.length+1):=by unfold nestDraws;simp
   first
    | exact wpAny_pure ⟨dn++[k],ks',by simp,lz',by simp [bz],by rw [e,Nat.add_assoc]⟩
    | exact wpAny_bind (wpAny_pure (wpAny_pure ⟨dn++[k],ks',by simp,lz',by simp [bz],by rw [e,Nat.add_assoc]⟩))
 ·rintro b sz' ⟨dn,lf,rfl,lz,bz,rfl⟩
  cases lz
  rw [List.append_nil] at hz
  show wpAny _ _ (retInt (Builtin.Tuple.tupleHashOf (b.toList))) _ _ _
  rw [bz]
  refine wpAny_ret_mkInt ?_
  show wpAny _ _ (if (decide (-(2:Int)^63<=Builtin.Tuple.tupleHashOf (dn.map (tupleKeyHash knd)))&&decide (Builtin.Tuple.tupleHashOf (dn.map (tupleKeyHash knd))<2^63))=true then _ else _) Qz Ez _
  unfold nestHash reduceHash at hz
  by_cases rz:(decide (-(2:Int)^63<=Builtin.Tuple.tupleHashOf (dn.map (tupleKeyHash knd)))&&decide (Builtin.Tuple.tupleHashOf (dn.map (tupleKeyHash knd))<2^63))=true
  ·rw [if_pos rz]
   rw [if_pos rz] at hz
   exact wpAny_pure (by simpa [Nat.add_assoc] using hz)
  ·rw [if_neg rz]
   rw [if_neg rz] at hz
   exact wpAny_bind (wpAny_rule (wpAny_pure (by simpa [Nat.add_assoc] using hz)))
theorem nest_eq_tree{x y:List (List K)}{a b:Addr}{Pz:Fin->Shared->Prop}(uz:Az.units<cLine)(kx:IsNestKey knd sz.heap x a)(ky:IsNestKey knd sz.heap y b)(hz:Pz (.done (.ret (.bool (decide (x=y))))) sz) :
  wpAny (model prog w) Az (Builtin.«tuple.__eq__» ⟨[.ref a,.ref b],[]⟩) Pz Ez sz:=by
 have tyb:=ky.typeIs
 obtain ⟨oa,vx,na,oa1,_,da1,ia1⟩:=kx
 obtain ⟨ob,vy,nb,ob1,_,db1,ib1⟩:=ky
 show wpAny _ _ (isInstance (.ref b) (.type "tuple") >>= _) _ _ sz
 refine wpAny_bind (wpAny_isInstance tyb isSubtype_tuple_tuple ?_)
 simp only [if_false,Bool.not_true,Bool.false_eq_true]
 refine wpAny_bind (wpAny_tupleItemsOf oa1 da1 ?_)
 refine wpAny_bind (wpAny_tupleItemsOf ob1 db1 ?_)
 refine wpAny_bind ?_
 refine wpAny_forIn_list _
  (fun rst r sz'=>r.1=none/\sz'=sz/\∃ x' y' vx' vy',rst=List.zip vx' vy'/\ItemsN knd sz.heap x' vx'/\ItemsN knd sz.heap y' vy'/\decide (x'=y')=decide (x=y)/\(vx'.length == vy'.length)=(vx.size == vy.size))
  _ ?_ ?_ _ _ ⟨rfl,rfl,x,y,vx.toList,vy.toList,rfl,ia1,ib1,rfl,by simp⟩
 ·rintro ⟨u,v⟩ rst r sz' ⟨rz,rfl,x',y',vx',vy',zz,kx',ky',qd,ql⟩
  cases kx' with
  | nil=>simp at zz
  | @cons k1 u' x'' vx'' h1 kx'' =>
   cases ky' with
   | nil=>simp at zz
   | @cons k2 v' y'' vy'' h2 ky'' =>
    simp only [List.zip_cons_cons,List.cons.injEq,Prod.mk.injEq] at zz
    obtain ⟨⟨rfl,rfl⟩,rfl⟩:=zz
    refine wpAny_bind (wpAny_eqBool_tuple (x:=k1) (y:=k2) uz h1 h2 ?_)
    by_cases kz:k1=k2
    ·subst kz
     rw [decide_eq_true rfl]
     simp only [if_false,Bool.not_true,Bool.false_eq_true]
     refine wpAny_pure ⟨rfl,rfl,x'',y'',vx'',vy'',rfl,kx'',ky'',?_,by simpa using ql⟩
     rw [<-qd]
     by_cases xyz:x''=y''
     ·simp [xyz]
     ·simp [xyz]
    ·rw [decide_eq_false kz]
     simp only [if_true,Bool.not_false]
     have fz:decide (x=y)=false:=by rw [<-qd];simp [kz]
     rw [fz] at hz
     exact wpAny_bind (wpAny_pure (wpAny_pure (wpAny_pure hz)))
 ·rintro ⟨r1,r2⟩ sz' ⟨rz,rfl,x',y',vx',vy',zz,kx',ky',qd,ql⟩
  simp only at rz
  subst rz
  refine wpAny_pure ?_
  have fn:(vx.size == vy.size)=decide (x=y):=by
   rw [<-qd,<-ql]
   cases kx' with
   | nil =>
    cases ky' with
    | nil=>simp
    | cons _ _=>simp
   | cons _ _ =>
    cases ky' with
    | nil=>simp
    | cons _ _=>simp at zz
  show Pz (.done (.ret (.bool (vx.size == vy.size)))) sz'
  rw [fn];exact hz
theorem wpAny_eqBool_nest{x y:List (List K)}{a b:Addr}{Qz:Bool->Shared->Prop}(uz:Az.units+1<cLine)(kx:IsNestKey knd sz.heap x a)(ky:IsNestKey knd sz.heap y b)(hz:Qz (decide (x=y)) sz) :
  wpAny (model prog w) Az (eqBool (.ref a) (.ref b)) Qz Ez sz:=by
 unfold eqBool
 try (with_reducible refine wpAny_holding ?_)
 show wpAny _ _ (if (Value.ref a == Value.ref b)=true then _ else _) Qz Ez sz
 by_cases abz:(Value.ref a == Value.ref b)=true
 ·rw [if_pos abz]
  have e:a=b:=by have:=eq_of_beq abz;injection this
  subst e
  obtain rfl:=kx.inj ky
  exact wpAny_bind (wpAny_rule (wpAny_pure (by simpa using hz)))
 ·rw [if_neg abz]
  exact wpAny_bind (wpAny_richCompare_same_room (op:=.Eq) kx.typeIs ky.typeIs F.slot_tuple_eq
   (wpAny_call_entry F.slot_tuple_eq kx.typeIs F.entry_tuple_eq (nest_eq_tree uz kx ky ⟨_,rfl,(fun e=>nomatch e),wpAny_truthy_bool hz⟩) (F.args_tuple_eq_2 _ _)) (by lia))
theorem wpAny_eqIsQuiet_tuple7{ks:List K}{a:Addr}{Qz:Bool->Shared->Prop}(kz:IsTupleKey knd sz.heap ks a)(hz:Qz true sz):wpAny (model prog w) Az (eqIsQuiet 7 (.ref a)) Qz Ez sz:=by
 have ty0:=kz.typeIs
 obtain ⟨o,its,n,oz,_,dz,iz⟩:=kz
 unfold eqIsQuiet
 refine wpAny_bind (wpAny_specialOf ty0 F.slot_tuple_eq.lookup ?_)
 show wpAny _ _ (isInstance (.ref a) (.type "tuple") >>= _) _ _ sz
 refine wpAny_bind (wpAny_isInstance ty0 isSubtype_tuple_tuple ?_)
 simp only [if_false,Bool.not_true,Bool.false_eq_true]
 refine wpAny_bind (wpAny_seqItems oz dz ?_)
 refine wpAny_bind ?_
 show wpAny _ _ (forIn its _ _) _ _ sz
 rw [<-Array.forIn_toList]
 refine wpAny_forIn_list _ (fun rst r sz'=>r.1=none/\sz'=sz/\∀ v∈rst,carriedByValue v=true) _ ?_ ?_ _ _ ⟨rfl,rfl,iz.byValue⟩
 ·rintro v rst r sz' ⟨rz,rfl,evr⟩
  rw [eqIsQuiet_byValue _ (evr v List.mem_cons_self)]
  refine wpAny_bind (wpAny_pure (?_))
  simp only [if_false,Bool.not_true,Bool.false_eq_true]
  exact wpAny_pure ⟨rfl,rfl,fun u uz'=>evr u (List.mem_cons_of_mem _ uz')⟩
 ·rintro ⟨r1,r2⟩ sz' ⟨rz,rfl,_⟩
  simp only at rz
  subst rz
  exact wpAny_pure hz
theorem wpAny_eqIsQuiet_nest{ks:List (List K)}{a:Addr}{Qz:Bool->Shared->Prop}(kz:IsNestKey knd sz.heap ks a)(hz:Qz true sz):wpAny (model prog w) Az (eqIsQuiet 8 (.ref a)) Qz Ez sz:=by
 have ty0:=kz.typeIs
 obtain ⟨o,its,n,oz,_,dz,iz⟩:=kz
 unfold eqIsQuiet
 refine wpAny_bind (wpAny_specialOf ty0 F.slot_tuple_eq.lookup ?_)
 show wpAny _ _ (isInstance (.ref a) (.type "tuple") >>= _) _ _ sz
 refine wpAny_bind (wpAny_isInstance ty0 isSubtype_tuple_tuple ?_)
 simp only [if_false,Bool.not_true,Bool.false_eq_true]
 refine wpAny_bind (wpAny_seqItems oz dz ?_)
 refine wpAny_bind ?_
 show wpAny _ _ (forIn its _ _) _ _ sz
 rw [<-Array.forIn_toList]
 refine wpAny_forIn_list _ (fun rst r sz'=>r.1=none/\sz'=sz/\∃ ks,ItemsN knd sz.heap ks rst) _ ?_ ?_ _ _ ⟨rfl,rfl,ks,iz⟩
 ·rintro v rst r sz' ⟨rz,rfl,ks',evr⟩
  cases evr with
  | cons h1 t =>
   refine wpAny_bind (wpAny_eqIsQuiet_tuple7 h1 ?_)
   simp only [if_false,Bool.not_true,Bool.false_eq_true]
   exact wpAny_pure ⟨rfl,rfl,_,t⟩
 ·rintro ⟨r1,r2⟩ sz' ⟨rz,rfl,_⟩
  simp only at rz
  subst rz
  exact wpAny_pure hz
end
def nestKind{prog:Program}{w:World}{K:Type}[DecidableEq K](knd:KeyKind prog w K):HeapKind prog w (List (List K)) where
 is:=IsNestKey knd
 hash:=nestHash knd
 draws:=fun ks=>nestDraws ks+1
 room:=fun Az=>Az.units+1<cLine
 inj:=fun kx ky=>kx.inj ky
 keeps:=fun x oz dz hs=>x.keeps oz dz hs
 pyHash:=fun uz kz hz=>wpAny_pyHash_nest uz kz hz
 eqBool:=fun uz kx ky hz=>wpAny_eqBool_nest uz kx ky hz
 quiet:=fun kz hz=>wpAny_eqIsQuiet_nest kz hz
def NKey(H:Hp)(b:Addr)(k:List (List Key)):Prop:=∃ rs:List Addr,H b=some (.tup (rs.map V.ref))/\Paired (fun r (x:List Key)=>H r=some (.tup (x.map kV))) rs k
theorem NKey.tups{H H':Hp}{b:Addr}{k:List (List Key)}(h:NKey H b k)(t:∀ c xs,H c=some (.tup xs)->H' c=some (.tup xs)):NKey H' b k:=let ⟨rs,a,p⟩:=h;⟨rs,t _ _ a,Paired.mapP p fun _ _ z=>t _ _ z⟩
theorem NKey.same{H H':Hp}{b:Addr}{k:List (List Key)}(h:NKey H b k)(s:Same H H'):NKey H' b k:=h.tups fun _ _ e=>s _ _ e
theorem nkey_of{P:Program}{w:World}{H:Hp}{h:Heap}{a:Addr}{k:List (List Key)}(ok:HOk P w H h)(e:NKey H a k):(nestKind (mixKind P w)).is h k a:=by
 obtain ⟨rs,e,pr⟩:=e
 obtain ⟨zl,its,r,o,h1,h2,n,h3⟩:=(show ObjOk P w H h a (.tup (rs.map V.ref)) from ok a _ e)
 refine ⟨o,its.toArray,n,h1,h2,h3,?_⟩
 rw [List.toList_toArray]
 clear h1 h2 h3 e zl
 induction pr generalizing its with
 | nil=>cases r;exact .nil
 | @cons c x cs ks q t ih =>
  rw [List.map_cons] at r
  cases r with
  | cons r1 r2 =>
   cases (show _=Value.ref c from r1)
   exact .cons (key_of ok q) (ih _ r2)
abbrev NL:=List (List (List Key)×Addr×V)
def NRel:NL->List (List (List Key)×Addr×Value)->Prop:=Paired fun p q=>p.1=q.1/\p.2.1=q.2.1/\RelV p.2.2 q.2.2
def NAt(P:Program)(w:World)(a:Addr)(L:NL)(h:Heap):Prop:=L.length<=sizeLine/\(a == sysModules)=false/\∃ xs,NRel L xs /\
 ∃ o es ep,h.get? a=some o/\o.ExactDict/\o.data = .dict es ep/\es.toList=xs.map (entryOfKey (nestKind (mixKind P w)))/\(xs.map (·.1)).Nodup
def NDO(P:Program)(w:World)(a:Addr)(L:NL):HO:=.ext (NAt P w a L)
structure ND(P:Program)(w:World)(H:Hp)(a:Addr)(L:NL):Prop where
 at_:H a=some (NDO P w a L)
 keys:∀ p∈L,NKey H p.2.1 p.1
def valN(L:NL)(k:List (List Key)):Option V:=(L.find? fun p=>decide (p.1=k)).map (·.2.2)
def putN(L:NL)(k:List (List Key))(b:Addr)(v:V):NL:=if (valN L k).isSome then L.map (fun p=>if p.1=k then (p.1,p.2.1,v) else p) else L++[(k,b,v)]
theorem NRel.val{L:NL}{xs:List (List (List Key)×Addr×Value)}(r:NRel L xs)(k:List (List Key)):RelO (valN L k) ((atKey xs k).map (·.2)):=by
 unfold NRel at r
 induction r with
 | nil=>exact True.intro
 | @cons p q ps qs h t ih =>
  obtain ⟨h1,_,h2⟩:=h
  by_cases e:p.1=k
  ·have e':q.1=k:=h1.symm.trans e
   have a:valN (p::ps) k=some p.2.2:=by simp [valN,List.find?_cons,e]
   have b:atKey (q::qs) k=some q.2:=by simp [atKey,List.find?_cons,e']
   rw [a,b];exact h2
  ·have e':¬q.1=k:=fun z=>e (h1.trans z)
   have a:valN (p::ps) k=valN ps k:=by simp [valN,List.find?_cons,e]
   have b:atKey (q::qs) k=atKey qs k:=by simp [atKey,List.find?_cons,e']
   rw [a,b];exact ih
theorem NRel.put{L:NL}{xs:List (List (List Key)×Addr×Value)}(r:NRel L xs)(k:List (List Key))(b:Addr){v:V}{u:Value}(rv:RelV v u):NRel (putN L k b v) (storedH xs k b u):=by
 have e:=(r.val k).isSome_eq
 rw [Option.isSome_map] at e
 unfold putN storedH
 rw [e]
 by_cases q:(atKey xs k).isSome=true
 ·rw [if_pos q,if_pos q]
  clear e q
  unfold NRel at r ⊢
  induction r with
  | nil=>exact .nil
  | @cons p q ps qs h t ih =>
   rw [List.map_cons,List.map_cons]
   refine .cons ?_ ih
   obtain ⟨h1,h2,h3⟩:=h
   unfold putAt
   by_cases e:p.1=k
   ·rw [if_pos e,if_pos (h1.symm.trans e)];exact ⟨h1,h2,rv⟩
   ·rw [if_neg e,if_neg (fun z=>e (h1.trans z))];exact ⟨h1,h2,h3⟩
 ·rw [if_neg q,if_neg q];exact Paired.snoc r ⟨rfl,rfl,rv⟩
theorem putN_len(L:NL)(k:List (List Key))(b:Addr)(v:V):(putN L k b v).length<=L.length+1:=by
 unfold putN
 split
 ·rw [List.length_map];lia
 ·rw [List.length_append];exact Nat.le_refl _
theorem putN_keys{H:Hp}{L:NL}{k:List (List Key)}{b:Addr}{v:V}(hk:∀ p∈L,NKey H p.2.1 p.1)(hb:NKey H b k):∀ p∈putN L k b v,NKey H p.2.1 p.1:=by
 intro p hp
 unfold putN at hp
 split at hp
 ·obtain ⟨q,hq,rfl⟩:=List.mem_map.mp hp
  split
  ·exact hk q hq
  ·exact hk q hq
 ·rcases List.mem_append.mp hp with h | h
  ·exact hk p h
  ·rw [List.mem_singleton.mp h];exact hb
section
variable {X:Cx} {pins:List (Addr×Obj)} {σ:St} {H:Hp} {s:Shared} {a b:Addr} {L:NL} {k:List (List Key)}
theorem nd_rd{P:Program}{w:World}{h:Heap}(ok:HOk P w H h)(d:ND P w H a L):L.length<=sizeLine/\(a == sysModules)=false/\∃ xs,NRel L xs/\h.DictOfH (nestKind (mixKind P w)) a xs:=by
 obtain ⟨⟨z,y,xs,r,o,es,ep,h1,h2,h3,h4,h5⟩,_⟩:=(show ObjOk P w H h a (NDO P w a L) from ok a _ d.at_)
 refine ⟨z,y,xs,r,o,es,ep,h1,h2,h3,h4,fun x hx=>?_,h5⟩
 have all:∀ {l:NL} {m:List (List (List Key)×Addr×Value)},NRel l m->(∀ p∈l,NKey H p.2.1 p.1)->∀ x∈m,(nestKind (mixKind P w)).is h x.1 x.2.1:=by
  intro l m q
  unfold NRel at q
  induction q with
  | nil=>intro _ x hx;exact nomatch hx
  | @cons p q ps qs hq t ih =>
   intro hk x hx
   rcases List.mem_cons.mp hx with e | hx
   ·subst e
    rw [<-hq.1,<-hq.2.1]
    exact nkey_of ok (hk p (List.mem_cons_self ..))
   ·exact ih (fun p hp=>hk p (List.mem_cons_of_mem _ hp)) x hx
 exact all r d.keys x hx
theorem nat_stay{P:Program}{w:World}:∀ h1 h2:Heap,NAt P w a L h1->(∀ o,h1.get? a=some o->h2.get? a=some o)->NAt P w a L h2:=fun h1 h2 u k=>by
 obtain ⟨z,y,xs,r,o,es,ep,e,q⟩:=u
 exact ⟨z,y,xs,r,o,es,ep,k _ e,q⟩
theorem nd_new{P:Program}{w:World}{H':Hp}{h':Heap}{o:Obj}{es:Array DictEntry}{ep:Nat}{xs:List (List (List Key)×Addr×Value)}(z:L.length<=sizeLine)(y:(a == sysModules)=false)(r:NRel L xs)(h1:h'.get? a=some o)(h2:o.ExactDict)(h3:o.data = .dict es ep)
  (h4:es.toList=xs.map (entryOfKey (nestKind (mixKind P w)))) (h5:(xs.map (·.1)).Nodup):ObjOk P w H' h' a (NDO P w a L):=⟨⟨z,y,xs,r,o,es,ep,h1,h2,h3,h4,h5⟩,⟨o,h1⟩,nat_stay⟩
variable {A:Around} {E:Value->Shared->Prop}
theorem n_in{Q:Value->Shared->Prop}(hu:A.units+2<cLine)(I:Inv X pins σ H s)(d:ND X.prog X.w H a L)(hb:NKey H b k)(h:∀ s',Inv X pins σ H s'->Q (.bool (valN L k).isSome) s') :
  wpAny (model X.prog X.w) A (compareOp .In (.ref b) (.ref a)) Q E s:=by
 obtain ⟨z,hd,xs,rel,dd⟩:=nd_rd I.hok d
 refine wpAny_in_heap (knd:=nestKind (mixKind X.prog X.w)) (show A.in1.units+1<cLine from hu) (nkey_of I.hok hb) hd dd ?_
 have q:=(rel.val k).isSome_eq
 rw [Option.isSome_map] at q
 rw [<-q]
 exact h _ (I.tok _)
theorem n_notIn{Q:Value->Shared->Prop}(hu:A.units+2<cLine)(I:Inv X pins σ H s)(d:ND X.prog X.w H a L)(hb:NKey H b k)(h:∀ s',Inv X pins σ H s'->Q (.bool (!(valN L k).isSome)) s') :
  wpAny (model X.prog X.w) A (compareOp .NotIn (.ref b) (.ref a)) Q E s:=by
 obtain ⟨z,hd,xs,rel,dd⟩:=nd_rd I.hok d
 refine wpAny_notIn_heap (knd:=nestKind (mixKind X.prog X.w)) (show A.in1.units+1<cLine from hu) (nkey_of I.hok hb) hd dd ?_
 have q:=(rel.val k).isSome_eq
 rw [Option.isSome_map] at q
 rw [<-q]
 exact h _ (I.tok _)
theorem n_get{v:V}{Q:Value->Shared->Prop}(hu:A.units+2<cLine)(I:Inv X pins σ H s)(d:ND X.prog X.w H a L)(hb:NKey H b k)(l:valN L k=some v)(h:∀ w' s',Inv X pins σ H s'->RelV v w'->Q w' s') :
  wpAny (model X.prog X.w) A (getItem (.ref a) (.ref b)) Q E s:=by
 obtain ⟨z,hd,xs,rel,dd⟩:=nd_rd I.hok d
 obtain ⟨w',hw,rw'⟩:=RelO.some_of (v:=v) (o:=(atKey xs k).map (·.2)) (by rw [<-l];exact rel.val k)
 obtain ⟨p,hp,hp2⟩:=Option.map_eq_some_iff.mp hw
 refine wpAny_getItem_heap (knd:=nestKind (mixKind X.prog X.w)) (show A.in1.units+1<cLine from hu) (nkey_of I.hok hb) dd hp ?_
 rw [hp2]
 exact h w' _ (I.tok _) rw'
theorem n_put{v:V}{r:Value}{Q:Unit->Shared->Prop}(hu:A.units+2<cLine)(I:Inv X pins σ H s)(d:ND X.prog X.w H a L)(hb:NKey H b k)(hl:L.length<sizeLine)(rv:RelV v r)
  (h:∀ s',Inv X pins σ (upd H a (NDO X.prog X.w a (putN L k b v))) s'->Q () s'):wpAny (model X.prog X.w) A (setItem (.ref a) (.ref b) r) Q E s:=by
 obtain ⟨z,hd,xs,rel,dd⟩:=nd_rd I.hok d
 have hz:xs.length<=sizeLine:=by rw [<-Paired.length rel];exact z
 have hl':(putN L k b v).length<=sizeLine:=by have:=putN_len L k b v;lia
 refine wpAny_setItem_heap (knd:=nestKind (mixKind X.prog X.w)) (hsz:=hz) (show A.in1.units+1<cLine from hu) (nkey_of I.hok hb) dd fun h' dd' hs=>h _ ?_
 obtain ⟨q,es,ep,hq,h2,h3,h4,_,h5⟩:=dd'
 exact d_write I (by rw [d.at_];exact True.intro) hs ⟨q,hq⟩ (nd_new hl' hd (rel.put k b rv) hq h2 h3 h4 h5)
theorem ND.put{P:Program}{w:World}(d:ND P w H a L)(hb:NKey H b k)(v:V):ND P w (upd H a (NDO P w a (putN L k b v))) a (putN L k b v) :=
 ⟨z_b,fun p hp=>(putN_keys d.keys hb p hp).tups fun c ys ec=>by rw [z_m (ne_of ec d.at_ (fun z=>nomatch z))];exact ec⟩
theorem ND.same{P:Program}{w:World}{H':Hp}(d:ND P w H a L)(e:Same H H'):ND P w H' a L:=⟨e _ _ d.at_,fun p hp=>(d.keys p hp).same e⟩
theorem n_len{Q:Value->Shared->Prop}(I:Inv X pins σ H s)(d:ND X.prog X.w H a L)(h:∀ t s',Inv X pins σ H s'->Q (.int L.length t) s'):wpAny (model X.prog X.w) A (call (.builtin "len") [.ref a]) Q E s:=by
 obtain ⟨z,hd,xs,rel,dd⟩:=nd_rd I.hok d
 have hxl:xs.length=L.length:=(Paired.length rel).symm
 rw [sizeLine_eq] at z
 have hT:=dd.typeIs
 obtain ⟨o,es,ep,ho,hc,hdat,hes,_,_⟩:=dd
 have hsz:es.size=L.length:=by rw [size_of_entries hes,hxl]
 refine Calls.call_function_entry kind_len plain_len entry_len (args_len1 _) ?_
 unfold Builtin.«len»
 refine wpAny_bind (m:=oneArg "len" _) (wpAny_pure ?_)
 refine wpAny_bind (m:=callSpecial? (.ref a) (Str.ofString "__len__")) (wpAny_callSpecial?_slot (name:=Str.ofString "__len__") hT F.slot_dict_len (wpAny_call_entry F.slot_dict_len hT F.entry_dict_len ?_ (F.args_dict_len_1 _)))
 show wpAny _ _ (dictSize a >>= _) _ _ s
 unfold dictSize
 refine wpAny_bind (wpAny_bind (wpAny_dictEntries ho hdat (wpAny_pure ?_)))
 refine wpAny_bind (m:=Builtin.Dict.pendingCount a) (wpAny_pendingCount_other hd ?_)
 refine wpAny_ret_mkInt ?_
 refine wpAny_bind (wpAny_holding (wpAny_pure ?_))
 refine wpAny_bind (wpAny_letGo ?_)
 rw [Nat.add_zero,hsz]
 rw [if_neg (by lia),if_neg (by lia)]
 exact wpAny_bind (wpAny_mkInt (wpAny_pure ⟨_,rfl,h _ _ (I.tok _)⟩))
end
def tNIn(P:Program)(w:World)(no:Bool)(ty td:TE):TE:=fun σ H Q=>ty σ H fun y H1=>td σ H1 fun x H2=>∃ a b L k,x = .ref a/\y = .ref b/\ND P w H2 a L/\NKey H2 b k/\Q (.bl (no ^^ (valN L k).isSome)) H2
def tNGet(P:Program)(w:World)(td ty:TE):TE:=fun σ H Q=>td σ H fun x H1=>ty σ H1 fun y H2=>∃ a b L k v,x = .ref a/\y = .ref b/\ND P w H2 a L/\NKey H2 b k/\valN L k=some v/\Q v H2
def sNPut(P:Program)(w:World)(td ty tv:TE):TS:=fun D σ H=>tv σ H fun v H1=>td σ H1 fun x H2=>ty σ H2 fun y H3=>∃ a b L k,x = .ref a/\y = .ref b/\ND P w H3 a L/\NKey H3 b k/\L.length<sizeLine/\D.nx σ (upd H3 a (NDO P w a (putN L k b v)))
section
variable {X:Cx} {P:Program} {w:World} {o i e value:Expr} {pos pos':Pos} {td ty tv:TE}
theorem pc_nin(hp:X.prog=P)(hw:X.w=w)(hu:X.A.units+64<cLine)(hi:PE X i ty)(ho:PE X o td):PC X .In i o (tNIn P w false ty td):=by
 subst hp hw
 intro pins s σ H Q I h
 refine thn (hi pins s σ H _ I h) fun iv s1 z1=>?_
 obtain ⟨y,H1,I1,ry,q1⟩:=z1
 refine thn (ho pins s1 σ H1 _ I1 q1) fun u s2 z2=>?_
 obtain ⟨x,H2,I2,rx,a,b,L,k,ex,ey,d,hb,q2⟩:=z2
 subst ex ey
 obtain rfl:u=Value.ref a:=rx
 obtain rfl:iv=Value.ref b:=ry
 exact n_in (by lia) I2 d hb fun s3 I3=>⟨.bl (valN L k).isSome,H2,I3,rfl,by rw [Bool.false_xor] at q2;exact q2⟩
theorem pc_nnotin(hp:X.prog=P)(hw:X.w=w)(hu:X.A.units+64<cLine)(hi:PE X i ty)(ho:PE X o td):PC X .NotIn i o (tNIn P w true ty td):=by
 subst hp hw
 intro pins s σ H Q I h
 refine thn (hi pins s σ H _ I h) fun iv s1 z1=>?_
 obtain ⟨y,H1,I1,ry,q1⟩:=z1
 refine thn (ho pins s1 σ H1 _ I1 q1) fun u s2 z2=>?_
 obtain ⟨x,H2,I2,rx,a,b,L,k,ex,ey,d,hb,q2⟩:=z2
 subst ex ey
 obtain rfl:u=Value.ref a:=rx
 obtain rfl:iv=Value.ref b:=ry
 exact n_notIn (by lia) I2 d hb fun s3 I3=>⟨.bl (!(valN L k).isSome),H2,I3,rfl,by rw [Bool.true_xor] at q2;exact q2⟩
theorem pe_nget(hp:X.prog=P)(hw:X.w=w)(hu:X.A.units+64<cLine)(ho:PE X o td)(hi:PE X i ty)(hs:NoSl i):PE X (.Subscript o i pos) (tNGet P w td ty):=by
 subst hp hw
 intro pins s σ H Q I h
 refine subD_of PySem.F.slot_dict_getitem.lookup hs (thn (ho pins s σ H _ I h) fun u s1 z1=>?_)
 obtain ⟨x,H1,I1,rx,q1⟩:=z1
 refine thn (hi pins s1 σ H1 _ I1 q1) fun iv s2 z2=>?_
 obtain ⟨y,H2,I2,ry,a,b,L,k,v,ex,ey,d,hb,hv,q2⟩:=z2
 subst ex ey
 obtain rfl:u=Value.ref a:=rx
 obtain rfl:iv=Value.ref b:=ry
 obtain ⟨_,_,xs,_,dd⟩:=nd_rd I2.hok d
 exact ⟨dd.typeIs,n_get (by lia) I2 d hb hv fun w' s3 I3 rw'=>⟨v,H2,I3,rw',q2⟩⟩
theorem ps_nput(hp:X.prog=P)(hw:X.w=w)(hu:X.A.units+64<cLine)(ho:PE X o td)(hi:PE X i ty)(hv:PE X value tv)(hs:swapsWith value (some (.Subscript o i pos')) pos.line X.env=pure false) :
  PS X (.Assign [.Subscript o i pos'] value pos) (sNPut P w td ty tv):=by
 subst hp hw
 intro pins s σ H D I h
 refine wpAny_Assign_Subscript (thn (hv pins s σ H _ I h) fun r s1 z1=>?_) hs
 obtain ⟨v,H1,I1,rv,q1⟩:=z1
 refine thn (ho pins s1 σ H1 _ I1 q1) fun u s2 z2=>?_
 obtain ⟨x,H2,I2,rx,q2⟩:=z2
 refine thn (hi pins s2 σ H2 _ I2 q2) fun iv s3 z3=>?_
 obtain ⟨y,H3,I3,ry,a,b,L,k,ex,ey,d,hb,hl,q3⟩:=z3
 subst ex ey
 obtain rfl:u=Value.ref a:=rx
 obtain rfl:iv=Value.ref b:=ry
 exact n_put (by lia) I3 d hb hl rv fun s4 I4=>⟨σ,_,I4,q3⟩
theorem call_lenN(hp:X.prog=P)(hw:X.w=w):CallR X (.builtin "len") (fun xs H Q=>∃ a L,xs=[.ref a]/\ND P w H a L/\Q (.int (L.length:Nat)) H):=by
 subst hp hw
 intro pins s σ H xs us Q I r h
 obtain ⟨a,L,rfl,d,q⟩:=h
 obtain ⟨u,rfl,rx⟩:=vals1 r
 cases (show u=Value.ref a from rx)
 exact n_len I d fun t s' I'=>⟨.int (L.length:Nat),H,I',⟨_,rfl⟩,q⟩
end
def tNDisp(P:Program)(w:World)(trs:List (TE×TE)):TE:=fun σ H Q=>∀ d,H d=none->tPairs trs σ (upd H d (NDO P w d [])) fun ps H1=>∃ b k v,ps=[(.ref b,v)]/\H1 d=some (NDO P w d [])/\NKey H1 b k/\Q (.ref d) (upd H1 d (NDO P w d (putN [] k b v)))
theorem pe_ndisp{X:Cx}{P:Program}{w:World}{pos:Pos}{keys:List (Option Expr)}{values:List Expr}{trs:List (TE×TE)}(hp:X.prog=P)(hw:X.w=w)(hu:X.A.units+64<cLine)(h:PPs X pos keys values trs)(hall:keys.all (·.isSome)=true)(hl:keys.length=values.length)(h0:keys≠[])
  (h15:keys.length<=15):PE X (.Dict keys values pos) (tNDisp P w trs):=by
 subst hp hw
 intro pins s σ H Q I q
 have hn:=I.hok.fresh (Nat.le_refl s.heap.objs.size)
 have I1:=I.laid (a:=s.heap.objs.size) (o:=NDO X.prog X.w s.heap.objs.size []) (h':=s.heap.push { cls:=.type "dict",data:=.dict #[] }) (t':=s.toks) (fun _ _ q=>Heap.get?_push_of_some _ q) (Nat.le_refl _)
  (nd_new (xs:=[]) (Nat.zero_le _) (beq_eq_false_iff_ne.mpr (Ne.symm (Nat.ne_of_lt I.big))) .nil (Heap.get?_push_size _ rfl) ⟨rfl,rfl,rfl⟩ rfl rfl List.nodup_nil)
 refine wpAny_Dict_any hall hl h0 h15 (thn (h pins _ σ _ _ I1 (q _ hn)) fun ws s2 z2=>?_)
 obtain ⟨ps,H2,I2,rel,b,k,v,ep,hd,hb,q2⟩:=z2
 subst ep
 cases rel with
 | @cons p u ps us r1 r2 =>
  cases r2
  obtain ⟨u1,u2⟩:=u
  obtain ⟨ra,rb⟩:=r1
  cases (show u1=Value.ref b from ra)
  have D:ND X.prog X.w H2 s.heap.objs.size []:=⟨hd,fun p hp=>nomatch hp⟩
  obtain ⟨z,hs,xs,rl,dd⟩:=nd_rd I2.hok D
  cases rl
  unfold storeAll
  simp only [List.forIn_cons,List.forIn_nil]
  refine wpAny_bind (wpAny_bind (wpAny_dictSet_heap (knd:=nestKind (mixKind X.prog X.w)) (hsz:=Nat.zero_le _) (show X.A.units+1<cLine by lia) (nkey_of I2.hok hb) dd fun h' dd' hsb=>wpAny_pure ?_))
  refine wpAny_pure ⟨.ref s.heap.objs.size,_,?_,rfl,q2⟩
  obtain ⟨q,es,ep,hq,h2,h3,h4,_,h5⟩:=dd'
  exact d_write I2 (by rw [D.at_];exact True.intro) hsb ⟨q,hq⟩ (nd_new (by have:=putN_len [] k b v;exact Nat.le_trans this (by decide)) hs (NRel.put .nil k b rb) hq h2 h3 h4 h5)
open PySem PySem.Spec PyProof.Rows
def sdL(n:Nat):List Nat:=(List.range n).map fun k=>(((List.range (2^n)).filter fun s=>decide (bt s k=1)).map fun s=>2^s).sum
theorem sdL_len{n:Nat}:(sdL n).length=n:=by unfold sdL;simp
theorem sum_pow_range(m:Nat):((List.range m).map fun s=>2^s).sum=2^m-1:=by
 induction m with
 | zero=>rfl
 | succ m ih =>
  rw [List.range_succ,List.map_append,List.sum_append,ih]
  have:=Nat.one_le_two_pow (n:=m)
  simp only [List.map_cons,List.map_nil,List.sum_cons,List.sum_nil,Nat.pow_succ]
  lia
theorem range_two(n:Nat):List.range (2^(n+1))=List.range (2^n)++(List.range (2^n)).map (2^n + ·):=by
 rw [Nat.pow_succ,Nat.mul_two,List.range_add]
theorem bt_add{n k s:Nat}(h:k<n):bt (2^n+s) k=bt s k:=by
 unfold bt
 obtain ⟨d,rfl⟩:∃ d,n=k+1+d:=⟨n-(k+1),by lia⟩
 have e:2^(k+1+d)=2^k*(2*2^d):=by rw [Nat.pow_add,Nat.pow_add];simp [Nat.mul_assoc]
 rw [e,Nat.mul_add_div (Nat.two_pow_pos k),Nat.mul_add_mod]
theorem bt_below{n s:Nat}(h:s<2^n):bt s n=0:=by unfold bt;rw [Nat.div_eq_of_lt h]
theorem bt_top{n s:Nat}(h:s<2^n):bt (2^n+s) n=1:=by
 unfold bt
 rw [Nat.add_div_left _ (Nat.two_pow_pos n),Nat.div_eq_of_lt h]
theorem map_pow_add(m:Nat)(l:List Nat):(l.map fun s=>2^(m+s)).sum=2^m*(l.map fun s=>2^s).sum:=by
 induction l with
 | nil=>simp
 | cons a l ih =>
  rw [List.map_cons,List.sum_cons,ih,List.map_cons,List.sum_cons,Nat.pow_add,Nat.mul_add]
theorem sdL_succ(n:Nat):sdL (n+1)=(sdL n).map (fun x=>x*(2^2^n+1))++[(2^2^n-1)*2^2^n]:=by
 unfold sdL
 rw [List.range_succ,List.map_append,List.map_map,List.map_cons,List.map_nil]
 refine congr (congrArg _ (List.map_congr_left fun k hk=>?_)) (congrArg (· :: []) ?_)
 ·have hk':=List.mem_range.mp hk
  rw [range_two,List.filter_append,List.map_append,List.sum_append,List.filter_map,List.map_map]
  have e:((fun s=>decide (bt s k=1)) ∘ fun x=>2^n+x)=fun s=>decide (bt s k=1):=funext fun s=>by
   show decide (bt (2^n+s) k=1)=_
   rw [bt_add hk']
  rw [e]
  show _+(List.map (fun s=>2^(2^n+s)) _).sum=_*_
  rw [map_pow_add,Nat.mul_add,Nat.mul_one,Nat.mul_comm (2^2^n),Nat.add_comm]
 ·rw [range_two,List.filter_append,List.map_append,List.sum_append,List.filter_map,List.map_map]
  have e1:(List.range (2^n)).filter (fun s=>decide (bt s n=1))=[]:=List.filter_eq_nil_iff.mpr fun s hs=>by rw [bt_below (List.mem_range.mp hs)];decide
  have e2:(List.range (2^n)).filter ((fun s=>decide (bt s n=1)) ∘ fun x=>2^n+x)=List.range (2^n):=List.filter_eq_self.mpr fun s hs=>by
   show decide (bt (2^n+s) n=1)=true
   rw [bt_top (List.mem_range.mp hs)];decide
  rw [e1,e2]
  show 0+(List.map (fun s=>2^(2^n+s)) _).sum=_
  rw [map_pow_add,sum_pow_range,Nat.zero_add,Nat.mul_comm]
theorem ones_succ(n:Nat):(2^2^n-1)*(2^2^n+1)=2^2^(n+1)-1:=by
 have h:=Nat.one_le_two_pow (n:=2^n)
 rw [Nat.pow_succ 2 n,Nat.mul_two,Nat.pow_add,Nat.mul_add,Nat.mul_one,Nat.sub_mul,Nat.one_mul]
 generalize 2^2^n=x at h
 have:x<=x*x:=Nat.le_mul_of_pos_left x h
 lia
theorem sq_succ(n:Nat):2^2^n*2^2^n=2^2^(n+1):=by rw [<-Nat.pow_add,<-Nat.mul_two,<-Nat.pow_succ]
def sp_all_stands:Sp:=fun vs H Q _=>∃ n:Nat,vs=[.int (n:Int)]/\n<=6/\∀ p q H',H p=none->H q=none->Same H H'->H' p=some (.tup [.ref q,.int ((2^2^n-1:Nat):Int)])->H' q=some (.lst ((sdL n).map fun x=>.int ((x:Nat):Int)))->Q (.ref p) H'
theorem and_natJ(a b:Nat):Builtin.bitAnd (a:Int) (b:Int)=((a&&&b:Nat):Int):=rfl
def bapS(high:Nat)(gs:List Nat)(x:Nat):List Nat:=(gs.map (· &&& x)++gs.map (· &&& (high^^^x))).filter (· != 0)
def bap(high:Nat)(ns:List Nat):List Nat:=ns.foldl (bapS high) [high]
theorem bapS_len(h:Nat)(gs:List Nat)(x:Nat):(bapS h gs x).length<=2*gs.length:=by
 unfold bapS
 refine Nat.le_trans (List.length_filter_le _ _) ?_
 rw [List.length_append,List.length_map,List.length_map]
 lia
theorem bap_succ(h:Nat)(ns:List Nat)(i:Nat)(x:Nat)(hx:ns[i]? = some x):bap h (ns.take (i+1))=bapS h (bap h (ns.take i)) x:=by
 unfold bap
 rw [List.take_add_one,hx,List.foldl_append]
 rfl
theorem bap_len(h:Nat)(ns:List Nat):∀ i,(bap h (ns.take i)).length<=2^i
 | 0=>by show 1<=1;exact Nat.le_refl _
 | i+1=>by
  cases hx:ns[i]? with
  | none =>
   rw [List.take_add_one,hx]
   show (bap h (ns.take i++[])).length<=_
   rw [List.append_nil]
   exact Nat.le_trans (bap_len h ns i) (Nat.pow_le_pow_right (by decide) (Nat.le_succ _))
  | some x =>
   rw [bap_succ h ns i x hx,Nat.pow_succ]
   have h1:=bapS_len h (bap h (ns.take i)) x
   have h2:=bap_len h ns i
   lia
def sp_beats_apart:Sp:=fun vs H Q _=>∃ (l:Addr) (ns:List Nat) (h:Nat),vs=[.ref l,.int (h:Int)]/\H l=some (.lst (nV ns))/\ns.length<=16/\∀ p H',H p=none->Same H H'->H' p=some (.lst (nV (bap h ns)))->Q (.ref p) H'
def amg(ns:List Nat)(b:Nat):List Nat:=ns.map fun x=>if x&&&b=0 then 0 else 1
def sp_bits_among:Sp:=fun vs H Q _=>∃ (l:Addr) (ns:List Nat) (b:Nat),vs=[.ref l,.int (b:Int)]/\H l=some (.lst (nV ns))/\ns.length<=20/\∀ p H',H p=none->Same H H'->H' p=some (.tup (nV (amg ns b)))->Q (.ref p) H'
def sp_least_beat:Sp:=fun vs H Q _=>∃ b:Nat,vs=[.int (b:Int)]/\0<b/\∀ r:Nat,bt b r=1->(∀ j,j<r->bt b j=0)->Q (.int (r:Int)) H
section
variable {J:Type} (st:J->J->Prop) (j0:J)
inductive Rk:Nat->J->Prop
 | zero:Rk 0 j0
 | step {k:Nat} {i j:J}:Rk k i->st i j->Rk (k+1) j
structure Bf(L:List (J×Nat))(a:Nat):Prop where
 head:L[0]? = some (j0,0)
 nd:(L.map (·.1)).Nodup
 rch:∀ z∈L,Rk st j0 z.2 z.1
 mono:∀ (i k:Nat) (x y:J×Nat),L[i]? = some x->L[k]? = some y->i<=k->x.2<=y.2
 next:∀ (x y:J×Nat),L[a]? = some x->y∈L->y.2<=x.2+1
 done:∀ (i:Nat) (x:J×Nat),i<a->L[i]? = some x->∀ j,st x.1 j->∃ z∈L,z.1=j/\z.2<=x.2+1
variable {st j0}
theorem Bf.start:Bf st j0 [(j0,0)] 0 where
 head:=rfl
 nd:=by simp
 rch:=fun z hz=>by rw [List.mem_singleton.mp hz];exact .zero
 mono:=fun i k x y hx hy _=>by
  have h1:=List.mem_of_getElem? hx
  have h2:=List.mem_of_getElem? hy
  rw [List.mem_singleton.mp h1,List.mem_singleton.mp h2]
  exact Nat.le_refl _
 next:=fun x y hx hy=>by rw [List.mem_singleton.mp hy];exact Nat.zero_le _
 done:=fun i x hi=>absurd hi (Nat.not_lt_zero _)
theorem Bf.push{L:List (J×Nat)}{a:Nat}{x:J×Nat}{j:J}(B:Bf st j0 L a)(hx:L[a]? = some x)(hs:st x.1 j)(hn:j∉L.map (·.1)):Bf st j0 (L++[(j,x.2+1)]) a:=by
 have ha:=(List.getElem?_eq_some_iff.mp hx).1
 have get:∀ (i:Nat) (y:J×Nat),(L++[(j,x.2+1)])[i]? = some y->L[i]? = some y\/(i=L.length/\y=(j,x.2+1)):=fun i y h=>by
  by_cases hi:i<L.length
  ·rw [List.getElem?_append_left hi] at h
   exact .inl h
  ·rw [List.getElem?_append_right (by lia)] at h
   have h0:i-L.length=0:=by
    cases e:i-L.length with
    | zero=>rfl
    | succ m=>rw [e] at h;simp at h
   rw [h0] at h
   cases h
   exact .inr ⟨by lia,rfl⟩
 refine ⟨?_,?_,fun z hz=>?_,fun i k u v hu hv hik=>?_,fun u v hu hv=>?_,fun i u hi hu w hw=>?_⟩
 ·rw [List.getElem?_append_left (by lia)]
  exact B.head
 ·rw [List.map_append,List.nodup_append]
  exact ⟨B.nd,by simp,fun y hy z hz=>by rw [List.mem_singleton.mp hz];intro e;exact hn (by rw [<-show y=j from e];exact hy)⟩
 ·rcases List.mem_append.mp hz with h | h
  ·exact B.rch z h
  ·rw [List.mem_singleton.mp h]
   exact .step (B.rch x (List.mem_of_getElem? hx)) hs
 ·rcases get i u hu with h1 | ⟨h1,rfl⟩
  ·rcases get k v hv with h2 | ⟨h2,rfl⟩
   ·exact B.mono i k u v h1 h2 hik
   ·exact B.next x u hx (List.mem_of_getElem? h1)
  ·rcases get k v hv with h2 | ⟨h2,rfl⟩
   ·have:=(List.getElem?_eq_some_iff.mp h2).1
    lia
   ·exact Nat.le_refl _
 ·rw [List.getElem?_append_left ha,hx] at hu
  cases hu
  rcases List.mem_append.mp hv with h | h
  ·exact B.next x v hx h
  ·rw [List.mem_singleton.mp h]
   exact Nat.le_refl _
 ·rw [List.getElem?_append_left (by lia)] at hu
  obtain ⟨z,h1,h2⟩:=B.done i u hi hu w hw
  exact ⟨z,List.mem_append_left _ h1,h2⟩
theorem Bf.turn{L:List (J×Nat)}{a:Nat}{x:J×Nat}(B:Bf st j0 L a)(hx:L[a]? = some x)(hd:∀ j,st x.1 j->∃ z∈L,z.1=j):Bf st j0 L (a+1):=by
 refine ⟨B.head,B.nd,B.rch,B.mono,fun u v hu hv=>?_,fun i u hi hu w hw=>?_⟩
 ·have h1:=B.next x v hx hv
  have h2:=B.mono a (a+1) x u hx hu (Nat.le_succ _)
  lia
 ·by_cases hia:i<a
  ·exact B.done i u hia hu w hw
  ·have e:i=a:=by lia
   subst e
   rw [hx] at hu
   cases hu
   obtain ⟨z,h1,h2⟩:=hd w hw
   exact ⟨z,h1,h2,B.next x z hx h1⟩
theorem Bf.low{L:List (J×Nat)}{a:Nat}{x:J×Nat}(B:Bf st j0 L a)(hx:L[a]? = some x):∀ {k:Nat} {j:J},Rk st j0 k j->k<=x.2->∃ z∈L,z.1=j/\z.2<=k:=by
 intro k j h
 induction h with
 | zero=>exact fun _=>⟨(j0,0),List.mem_of_getElem? B.head,rfl,Nat.le_refl _⟩
 | @step k i j h hs ih =>
  intro hk
  obtain ⟨z,h1,h2,h3⟩:=ih (by lia)
  obtain ⟨n,hn⟩:=List.getElem?_of_mem h1
  have hna:n<a:=by
   refine Nat.lt_of_not_le fun hle=>?_
   have:=B.mono a n x z hx hn hle
   lia
  obtain ⟨u,h4,h5,h6⟩:=B.done n z hna hn j (by rw [h2];exact hs)
  exact ⟨u,h4,h5,by lia⟩
theorem Bf.full{L:List (J×Nat)}(B:Bf st j0 L L.length):∀ {k:Nat} {j:J},Rk st j0 k j->j∈L.map (·.1):=by
 intro k j h
 induction h with
 | zero=>exact List.mem_map.mpr ⟨_,List.mem_of_getElem? B.head,rfl⟩
 | @step k i j h hs ih =>
  obtain ⟨z,h1,h2⟩:=List.mem_map.mp ih
  obtain ⟨n,hn⟩:=List.getElem?_of_mem h1
  obtain ⟨u,h4,h5,h6⟩:=B.done n z (List.getElem?_eq_some_iff.mp hn).1 hn j (by rw [h2];exact hs)
  exact List.mem_map.mpr ⟨u,h4,h5⟩
def Least(st:J->J->Prop)(j0:J)(bad:J->Prop)(d:Nat):Prop:=(∃ j,Rk st j0 d j/\bad j)/\∀ k j,k<d->Rk st j0 k j->¬bad j
theorem Bf.least{bad:J->Prop}{L:List (J×Nat)}{a:Nat}{x:J×Nat}(B:Bf st j0 L a)(hx:L[a]? = some x)(hb:bad x.1)(hn:∀ (i:Nat) (y:J×Nat),i<a->L[i]? = some y->¬bad y.1):Least st j0 bad x.2:=by
 refine ⟨⟨x.1,B.rch x (List.mem_of_getElem? hx),hb⟩,fun k j hk hr hbad=>?_⟩
 obtain ⟨z,h1,h2,h3⟩:=B.low hx hr (by lia)
 obtain ⟨n,hz⟩:=List.getElem?_of_mem h1
 have hna:n<a:=by
  refine Nat.lt_of_not_le fun hle=>?_
  have:=B.mono a n x z hx hz hle
  lia
 exact hn n z hna hz (by rw [h2];exact hbad)
end
theorem nodup_len{α:Type}[DecidableEq α]:∀ {xs ys:List α},xs.Nodup->(∀ x∈xs,x∈ys)->xs.length<=ys.length
 | [],_,_,_=>Nat.zero_le _
 | x::xs,ys,h,hs=>by
  have hx:=hs x List.mem_cons_self
  have h1:=nodup_len (xs:=xs) (ys:=ys.erase x) (List.nodup_cons.mp h).2 fun y hy=>(List.mem_erase_of_ne (show y≠x from fun e=>(List.nodup_cons.mp h).1 (by rw [<-e];exact hy))).mpr (hs y (List.mem_cons_of_mem _ hy))
  have h2:=List.length_erase_of_mem hx
  have h3:0<ys.length:=List.length_pos_of_mem hx
  rw [List.length_cons]
  lia
def allB:Nat->List (List Nat)
 | 0=>[[]]
 | n+1=>(allB n).map (0 :: ·)++(allB n).map (1 :: ·)
theorem allB_len:∀ n,(allB n).length=2^n
 | 0=>rfl
 | n+1=>by
  unfold allB
  rw [List.length_append,List.length_map,List.length_map,allB_len n,Nat.pow_succ]
  lia
theorem allB_mem:∀ {n:Nat} {s:List Nat},s.length=n->(∀ x∈s,x<2)->s∈allB n
 | 0,[],_,_=>by simp [allB]
 | n+1,x::r,h,hb=>by
  have hr:=allB_mem (n:=n) (s:=r) (by simpa using h) fun y hy=>hb y (List.mem_cons_of_mem _ hy)
  have hx:=hb x List.mem_cons_self
  unfold allB
  rw [List.mem_append]
  rcases (show x=0\/x=1 by lia) with rfl | rfl
  ·exact .inl (List.mem_map.mpr ⟨r,hr,rfl⟩)
  ·exact .inr (List.mem_map.mpr ⟨r,hr,rfl⟩)
def Jt(a b:Nat)(j:List Nat×List Nat):Prop:=j.1.length=a/\j.2.length=b/\(∀ x∈j.1,x<2)/\∀ x∈j.2,x<2
theorem joints_len{a b:Nat}{L:List (List Nat×List Nat)}(h:L.Nodup)(hj:∀ j∈L,Jt a b j):L.length<=2^(a+b):=by
 have h1:=nodup_len (ys:=(allB a).flatMap fun s=>(allB b).map fun t=>(s,t)) h fun j hm=>?_
 ·refine Nat.le_trans h1 ?_
  rw [List.length_flatMap]
  have e:(allB a).map (fun s=>((allB b).map fun t=>(s,t)).length)=(allB a).map fun _=>2^b:=List.map_congr_left fun s _=>by rw [List.length_map,allB_len]
  rw [e,List.map_const',List.sum_replicate_nat,allB_len,Nat.pow_add]
  exact Nat.le_refl _
 ·obtain ⟨h1,h2,h3,h4⟩:=hj j hm
  exact List.mem_flatMap.mpr ⟨j.1,allB_mem h1 h3,List.mem_map.mpr ⟨j.2,allB_mem h2 h4,rfl⟩⟩
open PySem PySem.Spec PyProof.Rows
theorem two_of{os:St}(h:os.length=2):∃ y0 y1,os=[y0,y1]:=by
 cases os with
 | nil=>cases h
 | cons a r =>
  cases r with
  | nil=>cases h
  | cons b r =>
   cases r with
   | nil=>exact ⟨a,b,rfl⟩
   | cons c r=>cases h
def vN:Option (Option V)->Nat
 | some (some (.int i))=>i.toNat
 | _=>0
def slN(σ:St)(k:Nat):Nat:=vN σ[k]?
def gp(g:List Nat):Nat×Nat:=(g.getD 0 0,g.getD 1 0)
def Wn.wv(W:Wn)(m:Nat)(sd:List Nat):List Nat:=Wv m sd (W.gates.map gp)
def Wn.ow(W:Wn)(m:Nat)(sd:List Nat):List Nat:=W.outs.map (sdN m (W.wv m sd))
def Wn.nx(W:Wn)(m:Nat)(sd:List Nat):List Nat:=W.boxes.map fun b=>sdN m (W.wv m sd) (b.getD 1 0)
structure Wn.Oj(W:Wn):Prop where
 ins:W.ins<=6
 nb:W.boxes.length<=8
 ng:W.gates.length<=60
 no:W.outs.length<=6
 box:∀ b∈W.boxes,∃ f e,b=[f,e]/\f<2/\e<2*W.knots
 gate:∀ (i:Nat) (g:List Nat),W.gates[i]? = some g->∃ x y,g=[x,y]/\x<2*(W.first+i)/\y<2*(W.first+i)
 out:∀ o∈W.outs,o<2*W.knots
theorem xor_ones{m x:Nat}(h:x<2^m):(2^m-1)^^^x=2^m-1-x:=by
 apply Nat.eq_of_testBit_eq
 intro i
 rw [tb_not h,Nat.testBit_xor,Nat.testBit_two_pow_sub_one]
 by_cases hi:i<m
 ·simp [hi]
 ·simp [hi,tb_hi h hi]
def endsN(m:Nat)(L:List Nat):List Nat:=L.flatMap fun x=>[x,2^m-1-x]
theorem endsN_snoc(m:Nat)(L:List Nat)(x:Nat):endsN m (L++[x])=endsN m L++[x,2^m-1-x]:=by
 unfold endsN
 rw [List.flatMap_append]
 simp
theorem endsN_len(m:Nat):∀ L:List Nat,(endsN m L).length=2*L.length
 | []=>rfl
 | x::r=>by
  show ([x,2^m-1-x]++endsN m r).length=_
  rw [List.length_append,endsN_len m r]
  simp
  lia
theorem endsN_get(m:Nat):∀ (L:List Nat) (e:Nat),e/2<L.length->(endsN m L)[e]? = some (sdN m L e)
 | [],e,h=>absurd h (Nat.not_lt_zero _)
 | x::r,0,_=>rfl
 | x::r,1,_=>rfl
 | x::r,e+2,h=>by
  have e2:(e+2)/2=e/2+1:=by lia
  have ih:=endsN_get m r e (by rw [e2] at h;simpa using h)
  show ([x,2^m-1-x]++endsN m r)[e+2]? = _
  rw [List.getElem?_append_right (by simp)]
  show (endsN m r)[e]? = _
  rw [ih]
  unfold sdN
  rw [e2,show (e+2)%2=e%2 by lia]
  rfl
theorem sdL_low:∀ n:Nat,Low (2^n) (sdL n)
 | 0=>fun v hv=>by have:sdL 0=[]:=rfl;rw [this] at hv;cases hv
 | n+1=>fun v hv=>by
  have e:=sq_succ n
  have e1:=ones_succ n
  have hp:=Nat.one_le_two_pow (n:=2^n)
  rw [sdL_succ] at hv
  rw [<-e]
  rcases List.mem_append.mp hv with h | h
  ·obtain ⟨x,hx,rfl⟩:=List.mem_map.mp h
   have hl:=sdL_low n x hx
   have:x*(2^2^n+1)<=(2^2^n-1)*(2^2^n+1):=Nat.mul_le_mul_right _ (by lia)
   rw [e] at *
   have:=Nat.one_le_two_pow (n:=2^(n+1))
   lia
  ·rw [List.mem_singleton.mp h]
   exact Nat.mul_lt_mul_of_pos_right (by lia) (by lia)
def sdJ(n:Nat)(s:List Nat):List Nat:=sdL n++s.map (· * (2^2^n-1))
theorem sdJ_low{n:Nat}{s:List Nat}(h:∀ x∈s,x<2):Low (2^n) (sdJ n s):=fun v hv=>by
 unfold sdJ at hv
 rcases List.mem_append.mp hv with h1 | h1
 ·exact sdL_low n v h1
 ·obtain ⟨x,hx,rfl⟩:=List.mem_map.mp h1
  have:=h x hx
  have hp:=Nat.one_le_two_pow (n:=2^n)
  have:x*(2^2^n-1)<=1*(2^2^n-1):=Nat.mul_le_mul_right _ (by lia)
  show x*(2^2^n-1)<_
  lia
def unl(a b:List Nat):Nat:=(a.zip b).foldl (fun p z=>p|||(z.1^^^z.2)) 0
abbrev Jn:=List Nat×List Nat
def nxtJ(U W:Wn)(j:Jn)(r:Nat):Jn:=((U.nx (2^U.ins) (sdJ U.ins j.1)).map (bt · r),(W.nx (2^U.ins) (sdJ U.ins j.2)).map (bt · r))
def stJ(U W:Wn)(i j:Jn):Prop:=∃ r,r<2^U.ins/\j=nxtJ U W i r
def badJ(U W:Wn)(j:Jn):Prop:=unl (U.ow (2^U.ins) (sdJ U.ins j.1)) (W.ow (2^U.ins) (sdJ U.ins j.2))≠0
def firJ(U W:Wn):Jn:=(U.boxes.map fun b=>b.getD 0 0,W.boxes.map fun b=>b.getD 0 0)
theorem tb_bt(x r:Nat):x.testBit r=decide (bt x r=1):=by
 unfold bt
 rw [Nat.testBit_eq_decide_div_mod_eq]
structure Gr(h:Nat)(ns:List Nat)(g:Nat):Prop where
 pos:g≠0
 sub:∀ r,g.testBit r=true->h.testBit r=true
 like:∀ x∈ns,∀ r r',g.testBit r=true->g.testBit r'=true->x.testBit r=x.testBit r'
theorem bap_gr{h:Nat}(h0:h≠0):∀ (ns:List Nat),(∀ g∈bap h ns,Gr h ns g)/\∀ r,h.testBit r=true->∃ g∈bap h ns,g.testBit r=true:=by
 refine snoc_ind ?_ fun ns x ⟨h1,h2⟩=>?_
 ·refine ⟨fun g hg=>?_,fun r hr=>⟨h,List.mem_singleton.mpr rfl,hr⟩⟩
  rw [List.mem_singleton.mp hg]
  exact ⟨h0,fun r hr=>hr,fun x hx=>nomatch hx⟩
 ·have e:bap h (ns++[x])=bapS h (bap h ns) x:=by unfold bap;rw [List.foldl_append];rfl
  rw [e]
  unfold bapS
  refine ⟨fun g hg=>?_,fun r hr=>?_⟩
  ·obtain ⟨hm,hne⟩:=List.mem_filter.mp hg
   have hne':g≠0:=by simpa using hne
   rcases List.mem_append.mp hm with hm | hm
   ·obtain ⟨k,hk,rfl⟩:=List.mem_map.mp hm
    have G:=h1 k hk
    have tb:∀ r,(k&&&x).testBit r=true->k.testBit r=true/\x.testBit r=true:=fun r hr=>by rw [Nat.testBit_and] at hr;simpa using hr
    refine ⟨hne',fun r hr=>G.sub r (tb r hr).1,fun y hy r r' hr hr'=>?_⟩
    rcases List.mem_append.mp hy with hy | hy
    ·exact G.like y hy r r' (tb r hr).1 (tb r' hr').1
    ·rw [List.mem_singleton.mp hy,(tb r hr).2,(tb r' hr').2]
   ·obtain ⟨k,hk,rfl⟩:=List.mem_map.mp hm
    have G:=h1 k hk
    have tb:∀ r,(k&&&(h^^^x)).testBit r=true->k.testBit r=true/\x.testBit r=false:=fun r hr=>by
     rw [Nat.testBit_and,Nat.testBit_xor] at hr
     have hk':k.testBit r=true:=by revert hr;cases k.testBit r<;>simp
     rw [hk',G.sub r hk'] at hr
     exact ⟨hk',by simpa using hr⟩
    refine ⟨hne',fun r hr=>G.sub r (tb r hr).1,fun y hy r r' hr hr'=>?_⟩
    rcases List.mem_append.mp hy with hy | hy
    ·exact G.like y hy r r' (tb r hr).1 (tb r' hr').1
    ·rw [List.mem_singleton.mp hy,(tb r hr).2,(tb r' hr').2]
  ·obtain ⟨k,hk,hkr⟩:=h2 r hr
   cases hx:x.testBit r with
   | true =>
    have hb:(k&&&x).testBit r=true:=by rw [Nat.testBit_and,hkr,hx];rfl
    refine ⟨k&&&x,List.mem_filter.mpr ⟨List.mem_append_left _ (List.mem_map.mpr ⟨k,hk,rfl⟩),?_⟩,hb⟩
    have:k&&&x≠0:=fun z=>by rw [z,Nat.zero_testBit] at hb;cases hb
    simpa using this
   | false =>
    have hb:(k&&&(h^^^x)).testBit r=true:=by rw [Nat.testBit_and,Nat.testBit_xor,hkr,hx,hr];rfl
    refine ⟨k&&&(h^^^x),List.mem_filter.mpr ⟨List.mem_append_right _ (List.mem_map.mpr ⟨k,hk,rfl⟩),?_⟩,hb⟩
    have:k&&&(h^^^x)≠0:=fun z=>by rw [z,Nat.zero_testBit] at hb;cases hb
    simpa using this
theorem amg_bt{h g r:Nat}{ns ws:List Nat}(G:Gr h ns g)(hw:∀ x∈ws,x∈ns)(hr:g.testBit r=true):amg ws g=ws.map (bt · r):=by
 unfold amg
 refine List.map_congr_left fun x hx=>?_
 have hb:bt x r=0\/bt x r=1:=by unfold bt;lia
 by_cases c:x&&&g=0
 ·rw [if_pos c]
  have t:(x&&&g).testBit r=false:=by rw [c];exact Nat.zero_testBit r
  rw [Nat.testBit_and,hr,Bool.and_true,tb_bt] at t
  have:=of_decide_eq_false t
  show 0=bt x r
  lia
 ·rw [if_neg c]
  obtain ⟨r',hr'⟩:∃ r',(x&&&g).testBit r'=true:=Nat.exists_testBit_of_ne_zero c
  rw [Nat.testBit_and] at hr'
  have h1:x.testBit r'=true:=by revert hr';cases x.testBit r'<;>simp
  have h2:g.testBit r'=true:=by revert hr';cases g.testBit r'<;>simp
  have h3:=G.like x (hw x hx) r r' hr h2
  rw [h1,tb_bt] at h3
  exact (of_decide_eq_true h3).symm
def JK(H:Hp)(k:Addr)(j:Jn):Prop:=∃ a c,H k=some (.tup [.ref a,.ref c])/\H a=some (.tup (nV j.1))/\H c=some (.tup (nV j.2))
theorem JK.same{H H':Hp}{k:Addr}{j:Jn}(s:Same H H')(h:JK H k j):JK H' k j:=let ⟨a,c,h1,h2,h3⟩:=h;⟨a,c,s _ _ h1,s _ _ h2,s _ _ h3⟩
theorem JK.tups{H H':Hp}{k:Addr}{j:Jn}(h:JK H k j)(t:∀ c xs,H c=some (.tup xs)->H' c=some (.tup xs)):JK H' k j:=let ⟨a,c,h1,h2,h3⟩:=h;⟨a,c,t _ _ h1,t _ _ h2,t _ _ h3⟩
def kN(s:List Nat):List Key:=s.map fun n:Nat=>Sum.inl (n:Int)
def jk(j:Jn):List (List Key):=[kN j.1,kN j.2]
theorem kN_v(s:List Nat):(kN s).map kV=nV s:=by unfold kN nV;rw [List.map_map];rfl
theorem kN_inj{s t:List Nat}(h:kN s=kN t):s=t:=by
 unfold kN at h
 exact (List.map_inj_right (fun a b e=>by injection e with e;lia)).mp h
theorem jk_inj{i j:Jn}(h:jk i=jk j):i=j:=by
 unfold jk at h
 injection h with h1 h2
 injection h2 with h2 _
 exact Prod.ext (kN_inj h1) (kN_inj h2)
theorem JK.nkey{H:Hp}{k:Addr}{j:Jn}(h:JK H k j):NKey H k (jk j):=let ⟨a,c,h1,h2,h3⟩:=h;⟨[a,c],h1,.cons (by rw [kN_v];exact h2) (.cons (by rw [kN_v];exact h3) .nil)⟩
def LT2(H:Hp)(r:Addr)(z:Nat×Jn):Prop:=∃ k,H r=some (.tup [.int (z.1:Int),.ref k])/\JK H k z.2
theorem LT2.same{H H':Hp}{r:Addr}{z:Nat×Jn}(s:Same H H')(h:LT2 H r z):LT2 H' r z:=let ⟨k,h1,h2⟩:=h;⟨k,s _ _ h1,h2.same s⟩
def fst_j:Sp:=fun vs H Q _=>∃ (w b g o:Addr) (bs gs:List Addr) (W:Wn),vs=[.ref w]/\WnA H w b g o bs gs W/\W.Oj/\∀ p H',H p=none->Same H H'->H' p=some (.lst (nV (W.boxes.map fun x=>x.getD 0 0)))->Q (.ref p) H'
def ends_j:Sp:=fun vs H Q _=>∃ (w b g o s r:Addr) (bs gs:List Addr) (W:Wn) (m:Nat) (row st:List Nat),vs=[.ref w,.ref s,.ref r,.int ((2^m-1:Nat):Int)]/\WnA H w b g o bs gs W/\W.Oj/\H s=some (.lst (nV st))/\H r=some (.lst (nV row))/\row.length=W.ins/\st.length=W.boxes.length/\Low m (row++st) /\
 ∀ p H',H p=none->Same H H'->H' p=some (.lst (nV (endsN m (W.wv m (row++st)))))->Q (.ref p) H'
def beat_j:Sp:=fun vs H Q _=>∃ (w b g o s r:Addr) (bs gs:List Addr) (W:Wn) (m:Nat) (row st:List Nat),vs=[.ref w,.ref s,.ref r,.int ((2^m-1:Nat):Int)]/\WnA H w b g o bs gs W/\W.Oj/\H s=some (.lst (nV st))/\H r=some (.lst (nV row))/\row.length=W.ins/\st.length=W.boxes.length/\Low m (row++st) /\
 ∀ p l1 l2 H',H p=none->Same H H'->H' p=some (.tup [.ref l1,.ref l2])->H' l1=some (.lst (nV (W.ow m (row++st))))->H' l2=some (.lst (nV (W.nx m (row++st))))->Q (.ref p) H'
structure Two(H:Hp)(w w':Addr)(U W:Wn):Prop where
 one:∃ b g o bs gs,WnA H w b g o bs gs U
 two:∃ b g o bs gs,WnA H w' b g o bs gs W
 ok:U.Oj
 ok':W.Oj
 ins:U.ins=W.ins
 outs:U.outs.length=W.outs.length
theorem Two.same{H H':Hp}{w w':Addr}{U W:Wn}(s:Same H H')(h:Two H w w' U W):Two H' w w' U W :=
 ⟨let ⟨b,g,o,bs,gs,h1⟩:=h.one;⟨b,g,o,bs,gs,h1.same s⟩,let ⟨b,g,o,bs,gs,h1⟩:=h.two;⟨b,g,o,bs,gs,h1.same s⟩,h.ok,h.ok',h.ins,h.outs⟩
def firj_sp:Sp:=fun vs H Q _=>∃ (w w':Addr) (U W:Wn),vs=[.ref w,.ref w']/\Two H w w' U W/\∀ p H',H p=none->Same H H'->JK H' p (firJ U W)->Q (.ref p) H'
def from_j:Sp:=fun vs H Q _=>∃ (w w' k:Addr) (U W:Wn) (j:Jn),vs=[.ref w,.ref w',.ref k]/\Two H w w' U W/\JK H k j/\Jt U.boxes.length W.boxes.length j /\
 ∀ p l rs (lats:List (Nat×Jn)) H',H l=none->Same H H'->H' p=some (.tup [.int ((unl (U.ow (2^U.ins) (sdJ U.ins j.1)) (W.ow (2^U.ins) (sdJ U.ins j.2)):Nat):Int),.ref l])->H' l=some (.lst (rs.map V.ref))->Paired (LT2 H') rs lats->lats.length<=65536 ->
  (∀ z∈lats,z.1<2^U.ins/\z.2=nxtJ U W j z.1)->(∀ r,r<2^U.ins->∃ z∈lats,z.2=nxtJ U W j r)->Q (.ref p) H'
theorem Wn.Oj.low{W:Wn}(ok:W.Oj){m:Nat}{row st:List Nat}(h1:row.length=W.ins)(h2:st.length=W.boxes.length):(W.wv m (row++st)).length=W.knots:=by
 unfold Wn.wv Wn.knots Wn.first
 rw [Wv_len,List.length_map,List.length_append]
 lia
theorem nxtJ_jt{U W:Wn}(j:Jn)(r:Nat):Jt U.boxes.length W.boxes.length (nxtJ U W j r):=by
 refine ⟨by show (List.map _ (Wn.nx _ _ _)).length=_;unfold Wn.nx;rw [List.length_map,List.length_map],by show (List.map _ (Wn.nx _ _ _)).length=_;unfold Wn.nx;rw [List.length_map,List.length_map],fun x hx=>?_,fun x hx=>?_⟩
 ·obtain ⟨y,_,rfl⟩:=List.mem_map.mp hx
  exact bt_lt _ _
 ·obtain ⟨y,_,rfl⟩:=List.mem_map.mp hx
  exact bt_lt _ _
theorem firJ_jt{U W:Wn}(ok:U.Oj)(ok':W.Oj):Jt U.boxes.length W.boxes.length (firJ U W):=by
 refine ⟨List.length_map _,List.length_map _,fun x hx=>?_,fun x hx=>?_⟩
 ·obtain ⟨y,hy,rfl⟩:=List.mem_map.mp hx
  obtain ⟨f,e,rfl,h,_⟩:=ok.box y hy
  exact h
 ·obtain ⟨y,hy,rfl⟩:=List.mem_map.mp hx
  obtain ⟨f,e,rfl,h,_⟩:=ok'.box y hy
  exact h
theorem bap_le(h:Nat)(ns:List Nat)(hn:ns.length<=16):(bap h ns).length<=65536:=by
 have h1:=bap_len h ns ns.length
 rw [List.take_length] at h1
 exact Nat.le_trans h1 (Nat.pow_le_pow_right (by decide) hn)
theorem or_and_add(a b:Nat):(a|||b)+(a&&&b)=a+b:=PyProof.Rows.nat_or_add_and a b
theorem or_natJ(a b:Nat):Builtin.bitOr (a:Int) (b:Int)=((a|||b:Nat):Int):=by
 have h:=or_and_add a b
 rw [PyProof.Rows.bitOr_and,and_natJ]
 lia
theorem valN_new{N:NL}{k:List (List Key)}{b:Addr}{v:V}(h:(valN N k).isSome=false)(k':List (List Key)):valN (putN N k b v) k'=if k'=k then some v else valN N k':=by
 have e:putN N k b v=N++[(k,b,v)]:=by unfold putN;rw [h];rfl
 rw [e]
 by_cases hk:k'=k
 ·subst hk
  rw [if_pos rfl]
  unfold valN at h ⊢
  rw [List.find?_append]
  cases hf:N.find? fun p=>decide (p.1=k') with
  | none=>simp
  | some z=>rw [hf] at h;cases h
 ·rw [if_neg hk]
  unfold valN
  rw [List.find?_append]
  have:([(k,b,v)]:NL).find? (fun p=>decide (p.1=k'))=none:=by simp [Ne.symm hk]
  rw [this]
  simp
theorem putN_newlen{N:NL}{k:List (List Key)}{b:Addr}{v:V}(h:(valN N k).isSome=false):(putN N k b v).length=N.length+1:=by
 unfold putN
 rw [h]
 simp
structure Kn(P:Program)(w:World)(H:Hp)(ca:Addr)(N:NL)(L:List Jn):Prop where
 d:ND P w H ca N
 len:N.length=L.length
 key:∀ j,(valN N (jk j)).isSome=true↔j∈L
theorem Kn.none{P:Program}{w:World}{H:Hp}{ca:Addr}{N:NL}{L:List Jn}(h:Kn P w H ca N L){j:Jn}(hj:j∉L):(valN N (jk j)).isSome=false:=by
 cases e:(valN N (jk j)).isSome with
 | false=>rfl
 | true=>exact absurd ((h.key j).mp e) hj
theorem Kn.same{P:Program}{w:World}{H H':Hp}{ca:Addr}{N:NL}{L:List Jn}(h:Kn P w H ca N L)(s:Same H H'):Kn P w H' ca N L:=⟨h.d.same s,h.len,h.key⟩
theorem Kn.keep{P:Program}{w:World}{H H':Hp}{ca:Addr}{N:NL}{L:List Jn}(h:Kn P w H ca N L)(e:H' ca=H ca)(t:∀ c xs,H c=some (.tup xs)->H' c=some (.tup xs)):Kn P w H' ca N L:=⟨⟨e.trans h.d.at_,fun p hp=>(h.d.keys p hp).tups t⟩,h.len,h.key⟩
theorem Kn.put{P:Program}{w:World}{H:Hp}{ca b:Addr}{N:NL}{L:List Jn}{j:Jn}(h:Kn P w H ca N L)(hj:j∉L)(hb:JK H b j)(v:V):Kn P w (upd H ca (NDO P w ca (putN N (jk j) b v))) ca (putN N (jk j) b v) (L++[j]):=by
 have hn:=h.none hj
 refine ⟨h.d.put hb.nkey v,by rw [putN_newlen hn,h.len,List.length_append];rfl,fun i=>?_⟩
 rw [valN_new hn]
 by_cases e:i=j
 ·subst e
  rw [if_pos rfl]
  simp
 ·rw [if_neg (fun z=>e (jk_inj z)),h.key i,List.mem_append,List.mem_singleton]
  exact ⟨.inl,fun z=>z.resolve_right e⟩
theorem Kn.start{P:Program}{w:World}{H:Hp}{ca b:Addr}{j:Jn}(h:H ca=some (NDO P w ca []))(hb:JK H b j)(v:V):Kn P w (upd H ca (NDO P w ca (putN [] (jk j) b v))) ca (putN [] (jk j) b v) [j] :=
 Kn.put (L:=[]) ⟨⟨h,fun p hp=>nomatch hp⟩,rfl,fun i=>⟨(fun z=>by cases z),(fun z=>by cases z)⟩⟩ (by simp) hb v
theorem nd_tup{P:Program}{w:World}{H:Hp}{ca:Addr}{N N':NL}(h:H ca=some (NDO P w ca N)):∀ c xs,H c=some (.tup xs)->(upd H ca (NDO P w ca N')) c=some (.tup xs):=fun c xs e=>by
 rw [z_m (fun z=>by rw [z,h] at e;cases e)]
 exact e
def CmV(H:Hp)(N:NL)(L:List (Jn×Nat))(z:Jn×Nat):Prop:=(z.2=0/\valN N (jk z.1)=some .non)\/∃ p q r z',valN N (jk z.1)=some (.ref p)/\H p=some (.tup [.ref q,.int ((r:Nat):Int)])/\JK H q z'.1/\z'∈L/\z.2=z'.2+1/\r<64
theorem CmV.keep{H H':Hp}{N:NL}{L:List (Jn×Nat)}{z:Jn×Nat}(h:CmV H N L z)(t:∀ c xs,H c=some (.tup xs)->H' c=some (.tup xs)):CmV H' N L z:=by
 rcases h with h | ⟨p,q,r,z',h1,h2,h3,h4⟩
 ·exact .inl h
 ·exact .inr ⟨p,q,r,z',h1,t _ _ h2,h3.tups t,h4⟩
theorem CmV.more{H:Hp}{N:NL}{L:List (Jn×Nat)}{z:Jn×Nat}{j:Jn}{b:Addr}{v:V}{d:Nat}(h:CmV H N L z)(hn:(valN N (jk j)).isSome=false)(hz:z.1≠j):CmV H (putN N (jk j) b v) (L++[(j,d)]) z:=by
 have e:valN (putN N (jk j) b v) (jk z.1)=valN N (jk z.1):=by rw [valN_new hn,if_neg (fun y=>hz (jk_inj y))]
 rcases h with h | ⟨p,q,r,z',h1,h2,h3,h4,h5⟩
 ·exact .inl ⟨h.1,by rw [e];exact h.2⟩
 ·exact .inr ⟨p,q,r,z',by rw [e];exact h1,h2,h3,List.mem_append_left _ h4,h5⟩
def way_j(P:Program)(w:World):Sp:=fun vs H Q _=>∃ (ca k:Addr) (N:NL) (L:List (Jn×Nat)) (z:Jn×Nat),vs=[.ref ca,.ref k]/\ND P w H ca N/\(∀ y∈L,CmV H N L y)/\JK H k z.1/\z∈L/\(∀ y∈L,y.2<66000)/\∀ p (ns:List Nat) H',H p=none->Same H H'->H' p=some (.lst (nV ns))->ns.length=z.2->(∀ n∈ns,n<64)->Q (.ref p) H'
theorem comp_newJ{K:PySem.W.Frag}{a:Addr}{S:V->St}{te:TE}{H:Hp}{Fin:List V->Hp->Prop}{xs:List V}{α:Type}(ps:List α)(R:Hp->Addr->α->Prop)(mono:∀ (H H':Hp) (r:Addr) (p:α),Same H H'->R H r p->R H' r p)(hS:SqL K H a xs)(hl:xs.length=ps.length)(hz:ps.length<=100000)
  (hs:∀ (i:Nat) (x:V) (p:α) (H':Hp),xs[i]? = some x->ps[i]? = some p->Same H H'->∀ N:V->Hp->Prop,(∀ r H2,H' r=none->Same H' H2->R H2 r p->N (.ref r) H2)->te (S x) H' N)
  (hd:∀ rs H',Same H H'->(∀ r∈rs,H r=none)->Paired (R H') rs ps->Fin (rs.map V.ref) H'):CompW (Itl K a) S tYes te H Fin:=by
 refine comp_list (xs:=xs) (fun i ys H'=>∃ rs:List Addr,ys=rs.map V.ref/\Same H H'/\(∀ r∈rs,H r=none)/\Paired (R H') rs (ps.take i)) ⟨[],rfl,Same.refl _,(fun _ h=>absurd h (by simp)),.nil⟩ ?_ ?_ ?_ ?_
 ·rintro i ys H' _ ⟨_,_,s,_⟩
  exact s.seq hS
 ·rintro i ys H' _ ⟨rs,rfl,_,_,pr⟩
  have h1:=Paired.length pr
  rw [List.length_take] at h1
  rw [List.length_map]
  exact y_u (by lia)
 ·rintro i x ys H' hx ⟨rs,rfl,s,hn,pr⟩
  have hi:i<ps.length:=by rw [<-hl];exact (List.getElem?_eq_some_iff.mp hx).1
  unfold tYes
  refine iteT (hs i x ps[i] H' hx (List.getElem?_eq_getElem hi) s _ fun r H2 h0 s2 e=>⟨rs++[r],by rw [List.map_append];rfl,s.trans s2,fun q hq=>?_,?_⟩)
  ·rcases List.mem_append.mp hq with h | h
   ·exact hn q h
   ·rw [List.mem_singleton.mp h];exact s.free h0
  ·rw [List.take_add_one,List.getElem?_eq_getElem hi]
   exact pairedSnoc (R:=R H2) e (z_r (fun _ _ z=>mono _ _ _ _ s2 z) pr)
 ·rintro ys H' ⟨rs,rfl,s,hn,pr⟩
  rw [hl,List.take_length] at pr
  exact hd rs H' s hn pr
theorem hi_list{k:Nat}(hk:200<k){ds:List PyData}(h:∀ d∈ds,k∉d.shown.cps.toList):k∉(PyData.list ds).shown.cps.toList:=fun hm=>by
 rw [PyData.shown_list,mem_cps_append,mem_cps_append,signs_lbrack,signs_rbrack,mem_join,signs_sep] at hm
 simp only [List.mem_cons,List.not_mem_nil,or_false] at hm
 rcases hm with (e | ⟨t,ht,hc⟩ | ⟨_,e | e⟩) | e
 ·lia
 ·exact shownAll_free h t ht hc
 ·lia
 ·lia
 ·lia
theorem hi_tuple{k:Nat}(hk:200<k){ds:List PyData}(h:∀ d∈ds,k∉d.shown.cps.toList):k∉(PyData.tuple ds).shown.cps.toList:=fun hm=>by
 rw [PyData.shown_tuple,mem_cps_append,mem_cps_append,signs_lparen,mem_join,signs_sep,signs_tuple_end] at hm
 rcases hm with (e | ⟨t,ht,hc⟩ | ⟨_,e⟩) | e
 ·have:=List.mem_singleton.mp e
  lia
 ·exact shownAll_free h t ht hc
 ·simp only [List.mem_cons,List.not_mem_nil,or_false] at e
  lia
 ·split at e
  ·simp only [List.mem_cons,List.not_mem_nil,or_false] at e
   lia
  ·simp only [List.mem_cons,List.not_mem_nil,or_false] at e
   lia
theorem hi_ns{k:Nat}(hk:200<k)(ns:List Nat):∀ d∈dNs ns,k∉d.shown.cps.toList:=fun d hd=>by
 obtain ⟨n,_,rfl⟩:=List.mem_map.mp hd
 exact shown_int_free' ⟨by lia,.inr (by lia)⟩ _
theorem hi_rs{k:Nat}(hk:200<k)(rows:List (List Nat)):k∉(dRs rows).shown.cps.toList:=hi_list hk fun d hd=>by
 obtain ⟨r,_,rfl⟩:=List.mem_map.mp hd
 exact hi_tuple hk (hi_ns hk r)
theorem ok_wn(W:Wn):PyData.strOk (dWn W).shown=true:=by
 unfold PyData.strOk
 rw [<-Array.all_toList,List.all_eq_true]
 intro c hc
 refine decide_eq_true (Classical.byContradiction fun n=>?_)
 have hk:200<c:=by lia
 refine hi_tuple hk (fun d hd=>?_) hc
 simp only [List.mem_cons,List.not_mem_nil,or_false] at hd
 rcases hd with rfl | rfl | rfl | rfl
 ·exact shown_int_free' ⟨by lia,.inr (by lia)⟩ _
 ·exact hi_rs hk _
 ·exact hi_rs hk _
 ·exact hi_list hk (hi_ns hk _)
open PySem
section
variable {prog:Program} {w:World} {K:Type} [DecidableEq K] {knd:KeyKind prog w K}
def Ext(h h':Heap):Prop:=∀ b o,h.get? b=some o->h'.get? b=some o
theorem IsNestKey.ext{h h':Heap}{ks:List (List K)}{a:Addr}(x:IsNestKey knd h ks a)(e:Ext h h'):IsNestKey knd h' ks a:=by
 obtain ⟨o,its,n,oz,cz,dz,iz⟩:=x
 refine ⟨o,its,n,e _ _ oz,cz,dz,?_⟩
 revert iz
 generalize its.toList=vs
 intro iz
 induction iz with
 | nil=>exact .nil
 | cons h1 _ ih=>exact .cons (let ⟨o,its,n,oz,r⟩:=h1;⟨o,its,n,e _ _ oz,r⟩) ih
variable {A:Around} {E:Value->Shared->Prop} {s:Shared}
theorem none_past{h:Heap}{a:Addr}(q:h.objs.size<=a):h.get? a=none:=by
 cases e:h.get? a with
 | none=>rfl
 | some o=>exact absurd (Heap.lt_size e) (Nat.not_lt.mpr q)
end
end L2
namespace L2
open PySem PySem.Spec PyProof.Rows
theorem vals_ref:∀ {rs:List Addr} {its:List Value},Vals (rs.map V.ref) its->∀ (i:Nat) (v:Value),its[i]? = some v->∃ r,rs[i]? = some r/\v = .ref r
 | [],_,h,i,v,hv=>by cases h;simp at hv
 | r::rs,_,h,i,v,hv=>by
  rw [List.map_cons] at h
  cases h with
  | cons h1 h2 =>
   cases (show _=Value.ref r from h1)
   match i,hv with
   | 0,hv=>exact ⟨r,rfl,by simpa using hv.symm⟩
   | i+1,hv=>exact vals_ref h2 i v hv
end L2
namespace L2
open PySem PySem.Spec PyProof.Rows
section
variable {prog:Program} {w:World} {A:Around} {E:Value->Shared->Prop} {s:Shared}
theorem no_keys:typeLookup (.type "list") "keys" = pure none:=am_miss_of_fast (by decide +kernel)
theorem by_keys{l : Addr}{its : Array Value}{tk : Tok}{Q : Value -> Shared -> Prop}(pl : PlainL s.heap l its)(calm : A.handled = none)
    (out : ∀ h' t' e, Heap.NewAttrErr s.heap h' e (.ref l) "keys" -> E (.ref e) { s with heap := h', toks := t' }) : wpAny (model prog w) A (getAttrBy (.ref l) (.str "keys" tk) false) Q E s := by
  obtain ⟨⟨c, dct, dat, sl⟩, n, at_, k1, k2, k3⟩ := pl
  have k1 : c = .type "list" := k1
  have k2 : dct = none := k2
  have k3 : dat = .seq its n := k3
  subst k1 k2 k3
  obtain ⟨hp, gn, dr, tk0, os⟩ := s
  have ty : ∀ z, (⟨hp, gn, dr, z, os⟩ : Shared).TypeIs (.ref l) "list" := fun _ => ⟨_, at_, rfl⟩
  have m1 := sub_AttributeError
  have m2 := PySem.F.slot_list_getattribute.lookup
  have m3 := PySem.F.slot_list_getattribute.bind (.ref l)
  have m4 := am_list_getattr_none
  unfold getAttrBy
  repeat (any_goals (first
    | assumption
    | exact ty _
    | ((with_reducible show wpAny _ _ (call (Value.builtin "list.__getattribute__") _ _) _ _ _)
       refine call_meets PySem.F.slot_list_getattribute (ty _) am_entry_list_getattribute (PySem.F.args_list_getattribute_2 _ _) (meets_getattribute_miss_list l its n sl _ _ no_keys (by decide +kernel) (by size_fits)) ⟨at_, calm, fun h' t' e new => ?_⟩)
    | wp_step))
  obtain ⟨t1, u1, here⟩ := new.there
  show wpAny _ _ (getattributeRaised _ _ _ _ _ _ _) _ _ _
  unfold getattributeRaised
  repeat (any_goals (first | assumption | wp_step))
  exact out _ _ _ new
theorem keysQ{l:Addr}{its:Array Value}{Q:Option Value->Shared->Prop}(pl:PlainL s.heap l its)(calm:A.handled=none)(out:∀ h' t',Ext s.heap h'->Q none { s with heap:=h',toks:=t' }) :
  wpAny (model prog w) A (getAttr? (.ref l) "keys") Q E s:=by
 unfold getAttr? getAttrBy?
 refine wpAny_bind (wpAny_mkText (wpAny_bind (wpAny_attempt (by_keys pl calm fun h' t' e new=>?_))))
 obtain ⟨t1,u1,here⟩:=new.there
 dsimp only
 refine wpAny_bind (wpAny_isInstance (T := "AttributeError") ⟨_,here,rfl⟩ sub_AttributeError ?_)
 rw [if_pos rfl]
 refine wpAny_pure ?_
 exact out h' t' new.keeps
end
end L2
namespace L2
open PySem PySem.Spec PyProof.Rows
theorem en_dul:entryFor table "dict.update.loop" = some Builtin.«dict.update.loop» := entryFor_of_tree (by kernel_rfl)
theorem pl_dul:plainId "dict.update.loop" = true:=by decide +kernel
section
variable {prog:Program} {w:World} {K:Type} [DecidableEq K] {knd:KeyKind prog w K}
def stN(L:List (List (List K)×Addr×Value)):List (List (List K)×Addr×Value):=L.foldl (fun xs p=>storedH xs p.1 p.2.1 p.2.2) []
theorem stN_snoc(L:List (List (List K)×Addr×Value))(p:List (List K)×Addr×Value):stN (L++[p])=storedH (stN L) p.1 p.2.1 p.2.2:=by
 unfold stN
 rw [List.foldl_append]
 rfl
theorem storedH_len(xs:List (List (List K)×Addr×Value))(k:List (List K))(b:Addr)(u:Value):(storedH xs k b u).length<=xs.length+1:=by
 unfold storedH
 split
 ·rw [List.length_map];lia
 ·rw [List.length_append];exact Nat.le_refl _
theorem stN_len:∀ L:List (List (List K)×Addr×Value),(stN L).length<=L.length:=by
 refine snoc_ind (Nat.le_refl _) fun L p ih=>?_
 rw [stN_snoc,List.length_append]
 exact Nat.le_trans (storedH_len _ _ _ _) (Nat.succ_le_succ ih)
def PairAt(h:Heap)(t:Addr)(x y:Value):Prop:=∃ o n,h.get? t=some o/\o.cls = .type "tuple" /\ o.data = .seq #[x,y] n
variable {A:Around} {E:Value->Shared->Prop} {s:Shared}
theorem wp_pair{t:Addr}{x y:Value}{Q:List Value->Shared->Prop}(h:PairAt s.heap t x y)(q:Q [x,y] s):wpAny (model prog w) A (Builtin.Dict.pairItems (.ref t)) Q E s:=by
 obtain ⟨o,n,e,c,d⟩:=h
 unfold Builtin.Dict.pairItems
 refine wpAny_bind (wpAny_typeOf (T := "tuple") ⟨o,e,c⟩ ?_)
 rw [if_pos (by decide)]
 exact wpAny_bind (wpAny_seqItems e d (wpAny_pure q))
theorem storedH_keys{h:Heap}{xs:List (List (List K)×Addr×Value)}{k:List (List K)}{b:Addr}{u:Value}(hx:∀ x∈xs,IsNestKey knd h x.1 x.2.1)(hb:IsNestKey knd h k b):∀ x∈storedH xs k b u,IsNestKey knd h x.1 x.2.1:=by
 unfold storedH
 intro x hm
 split at hm
 ·obtain ⟨y,hy,rfl⟩:=List.mem_map.mp hm
  have e:(putAt k u y).1=y.1/\(putAt k u y).2.1=y.2.1:=by
   unfold putAt
   split<;>exact ⟨rfl,rfl⟩
  rw [e.1,e.2]
  exact hx y hy
 ·rcases List.mem_append.mp hm with h | h
  ·exact hx x h
  ·rw [List.mem_singleton.mp h]
   exact hb
theorem keysIn{h:Heap}:∀ ps:List (List (List K)×Addr×Value),(∀ p∈ps,IsNestKey knd h p.1 p.2.1)->∀ i,∀ x∈stN (ps.take i),IsNestKey knd h x.1 x.2.1:=by
 have key:∀ ps:List (List (List K)×Addr×Value),(∀ p∈ps,IsNestKey knd h p.1 p.2.1)->∀ x∈stN ps,IsNestKey knd h x.1 x.2.1:=by
  refine snoc_ind (fun _ x hx=>nomatch hx) fun L p ih hp=>?_
  rw [stN_snoc]
  exact storedH_keys (ih fun q hq=>hp q (List.mem_append_left _ hq)) (hp p (List.mem_append_right _ (List.mem_singleton.mpr rfl)))
 exact fun ps hp i=>key _ fun p hm=>hp p (List.mem_of_mem_take hm)
theorem dmove{h0 h h':Heap}{D:Addr}{xs:List (List (List K)×Addr×Value)}(d:h.DictOfH (nestKind knd) D xs)(hx:∀ x∈xs,IsNestKey knd h0 x.1 x.2.1)(e:∀ o,h.get? D=some o->h'.get? D=some o)(ex:Ext h0 h'):h'.DictOfH (nestKind knd) D xs:=by
 obtain ⟨o,es,ep,d1,d2,d3,d4,_,d6⟩:=d
 exact ⟨o,es,ep,e o d1,d2,d3,d4,fun x hm=>(hx x hm).ext ex,d6⟩
theorem loopP{R:Result->Shared->Prop}{I:Addr}{fp wr:List Addr}{G:Array GenState->Array GenState->Prop}{n:Nat}{P:Nat->Value->Prop}{St:Nat->Shared->Prop}
  (W:WalksS prog w A.in1 I fp wr G n P St) (D:Addr) (far:D∉fp) (ps:List (List (List K)×Addr×Value)) (hl:ps.length=n) (hn:n<=100000) (h0:Heap)
  (ky:∀ i v,P i v->∃ t p,v = .ref t/\PairAt h0 t (.ref p.2.1) p.2.2/\ps[i]? = some p) (hk:∀ p∈ps,IsNestKey knd h0 p.1 p.2.1) (h0D:h0.get? D=none) (h0w:∀ b∈wr,h0.get? b=none) (uz:A.units+2<cLine) :
  ∀ (left i:Nat) (c:Int) (tk:Tok) (z:Shared),i+left=n->St i z->Ext h0 z.heap->z.heap.DictOfH (nestKind knd) D (stN (ps.take i)) ->
   (∀ y,Moved (D::wr) G z y->y.heap.DictOfH (nestKind knd) D (stN ps)->R (.ok (.ret .none)) y) ->
   codeAny (model prog w) A (.builtin "dict.update.loop" ⟨[.ref D,.ref I,.int c tk,.none],[]⟩) R z
 | 0,i,c,tk,z,e,wi,ex,di,out=>by
  obtain rfl:i=n:=e
  have nw:D∉wr:=fun q=>far (W.sub D q)
  refine codeAny_builtin en_dul ?_
  rw [Around.under_plainId pl_dul _]
  show wpAny _ A.in1 (pyNext (.ref I) >>= _) _ _ z
  refine wpAny_bind (W.done z _ _ wi fun y mv=>?_)
  have hk':=keysIn ps hk i
  rw [<-hl,List.take_length] at di hk'
  refine wpAny_bind (m:=Builtin.Dict.addKeywords D []) (wpAny_pure ?_)
  refine wpAny_pure (out y (mv.mono fun b=>List.mem_cons_of_mem _) ?_)
  exact dmove di hk' (fun o q=>mv.heap D o nw q) (fun c o q=>mv.heap c o (fun hc=>by rw [h0w c hc] at q;cases q) (ex c o q))
 | left+1,i,c,tk,z,e,wi,ex,di,out=>by
  have nw:D∉wr:=fun q=>far (W.sub D q)
  have il:i<ps.length:=by lia
  refine codeAny_builtin en_dul ?_
  rw [Around.under_plainId pl_dul _]
  show wpAny _ A.in1 (pyNext (.ref I) >>= _) _ _ z
  refine wpAny_bind (W.item i z _ _ (by lia) wi fun v y pv wj mv=>?_)
  obtain ⟨t,p,rfl,pt,pi⟩:=ky i v pv
  have kb:=hk p (List.mem_of_getElem? pi)
  have ey:Ext h0 y.heap:=fun c o q=>mv.heap c o (fun hc=>by rw [h0w c hc] at q;cases q) (ex c o q)
  have dy:y.heap.DictOfH (nestKind knd) D (stN (ps.take i)):=dmove di (keysIn ps hk i) (fun o q=>mv.heap D o nw q) ey
  refine wpAny_bind (wpAny_holding (wpAny_bind (wpAny_tryCatch (wp_pair (x:=.ref p.2.1) (y:=p.2.2) (let ⟨o,n,a,r⟩:=pt;⟨o,n,ey _ _ a,r⟩) ?_))))
  show wpAny _ A.in1 (holding [Value.ref p.2.1,p.2.2] (dictSet D (.ref p.2.1) p.2.2)) _ _ y
  have hz:(stN (ps.take i)).length<=sizeLine:=by
   have:=stN_len (ps.take i)
   rw [List.length_take] at this
   rw [sizeLine_eq]
   lia
  refine wpAny_holding (wpAny_dictSet_heap (knd:=nestKind knd) (hsz:=hz) (show A.in1.units+1<cLine from uz) (kb.ext ey) dy fun hn' dn only=>?_)
  have et:ps.take (i+1)=ps.take i++[p]:=by rw [List.take_add_one,pi];rfl
  rw [<-stN_snoc,<-et] at dn
  have oth:∀ {c:Addr} {o:Obj},c≠D->y.heap.get? c=some o->hn'.get? c=some o:=fun {c o} nc q=>by rw [only.2 c nc];exact q
  refine wpAny_pure ⟨plainId_quiet pl_dul _,loopP W D far ps hl hn h0 ky hk h0D h0w uz left (i+1) _ _ _ (by lia) (W.frame _ y _ _ wj (Nat.le_add_right _ _) fun c hc o q=>oth (fun z=>far (z▸hc)) q) (fun c o q=>oth (fun z=>by rw [z,h0D] at q;cases q) (ey c o q)) dn fun x mx dx=>?_⟩
  exact out x (Moved.trans W.gtrans ((mv.mono fun b=>List.mem_cons_of_mem _).then_heap (Nat.le_add_right _ _) fun c o hc q=>oth (fun z=>hc (z▸List.mem_cons_self)) q) mx) dx
def mtDict:Obj:={ cls:=.type "dict",data:=.dict #[] }
theorem call_dict_pairs{l:Addr}{items:Array Value}{ps:List (List (List K)×Addr×Value)}{Q:Value->Shared->Prop}(calm:A.handled=none)(uz:A.units+8<cLine)(pl:PlainL s.heap l items)(same:ps.length=items.size)(few:ps.length<=100000)
  (ky:∀ (i:Nat) (v:Value),items[i]? = some v->∃ (t:Addr) (p:List (List K)×Addr×Value),v = .ref t/\PairAt s.heap t (.ref p.2.1) p.2.2/\ps[i]? = some p) (hk:∀ p∈ps,IsNestKey knd s.heap p.1 p.2.1)
  (out:∀ (h':Heap) (tk:Nat),h'.DictOfH (nestKind knd) s.heap.objs.size (stN ps)->Ext s.heap h'->Q (.ref s.heap.objs.size) { s with heap:=h',toks:=tk }) :
  wpAny (model prog w) A (call (.type "dict") [.ref l]) Q E s:=by
 refine callType_codes (Q₁:=fun x z=>x = .ref s.heap.objs.size/\z={ s with heap:=s.heap.push mtDict }) PySem.F.kt_called_dict (PySem.F.kt_typeCall_dict_1 _) PySem.F.entry_dict_init (kt_code_dict_new _ ⟨rfl,rfl⟩) ?_
 rintro x z ⟨rfl,rfl⟩
 have new:(s.heap.push mtDict).DictOfH (nestKind knd) s.heap.objs.size []:=Heap.DictOfH.new s.heap
 obtain ⟨ol,nl,el,cl,dl,sl⟩:=pl
 have pl1:PlainL (s.heap.push mtDict) l items:=⟨ol,nl,Heap.get?_push_of_some _ el,cl,dl,sl⟩
 have lt_l:l<s.heap.objs.size:=Heap.lt_size el
 refine ⟨new.typeIs (s:={ s with heap:=s.heap.push mtDict }),PySem.F.args_dict_init_2 _ _,?_⟩
 unfold Builtin.«dict.__init__»
 refine wpAny_bind ?_
 unfold Builtin.Dict.selfAndRest
 refine wpAny_bind (wpAny_notOrdered_dict (new.typeIs (s:={ s with heap:=s.heap.push mtDict })) ?_)
 show wpAny _ _ (pure (s.heap.objs.size,[Value.ref l])) _ _ _
 refine wpAny_pure ?_
 show wpAny _ _ (Builtin.Dict.updateFrom "dict.__init__" s.heap.objs.size (.ref l) [] .none) _ _ _
 unfold Builtin.Dict.updateFrom
 have ty:Shared.TypeIs { s with heap:=s.heap.push mtDict } (.ref l) "list" := ⟨ol,Heap.get?_push_of_some _ el,cl⟩
 refine wpAny_bind (wpAny_typeOf ty ?_)
 rw [if_pos (by decide)]
 refine wpAny_bind (keysQ pl1 (by simp [calm]) fun h1 t1 e1=>?_)
 rw [if_pos (show (none:Option Value).isNone=true from rfl)]
 have new2:h1.DictOfH (nestKind knd) s.heap.objs.size []:=dmove new (fun x hx=>nomatch hx) (fun o q=>e1 _ _ q) (h0:=s.heap) fun c o q=>e1 _ _ (Heap.get?_push_of_some _ q)
 have el2:=e1 _ _ (Heap.get?_push_of_some _ el)
 have il2:h1.IsList l items:=⟨ol,el2,cl,nl,sl⟩
 refine wpAny_bind (wpAny_rule (wpAny_bind (wpAny_pyIter_list il2 (wpAny_pure ?_))))
 dsimp only
 have lt1:s.heap.objs.size<h1.objs.size:=by
  obtain ⟨o,_,_,e,_⟩:=id new2
  exact Heap.lt_size e
 have l_it:l≠h1.objs.size:=Nat.ne_of_lt (Nat.lt_trans lt_l lt1)
 have far:s.heap.objs.size∉[h1.objs.size,l]:=by
  simp only [List.mem_cons,List.not_mem_nil,or_false,not_or]
  exact ⟨Nat.ne_of_lt lt1,Nat.ne_of_gt lt_l⟩
 refine ⟨plainId_quiet pl_dul _,loopP (knd:=knd) (Walks.list (A:=A.in1.in1) (by simp [calm]) _ l l_it items).toS s.heap.objs.size far ps same (by lia) s.heap ky hk (none_past (Nat.le_refl _)) (fun b q=>?_) (show A.units+1+2<cLine by lia) items.size 0 _ _ _ (Nat.zero_add _) ⟨⟨_,Heap.get?_push_size _ rfl,rfl,rfl⟩,⟨ol,Heap.get?_push_of_some _ el2,cl,nl,sl⟩⟩ (fun c o q=>Heap.get?_push_of_some _ (e1 _ _ (Heap.get?_push_of_some _ q))) (dmove (h0:=s.heap) new2 (fun x hx=>nomatch hx) (fun o q=>Heap.get?_push_of_some _ q) fun c o q=>Heap.get?_push_of_some _ (e1 _ _ (Heap.get?_push_of_some _ q))) fun y mv dy=>?_⟩
 ·rw [List.mem_singleton.mp q]
  exact none_past (Nat.le_of_lt lt1)
 ·have kp:Ext s.heap y.heap:=fun b o q=>by
   have lb:=Heap.lt_size q
   refine mv.heap b o ?_ (Heap.get?_push_of_some _ (e1 _ _ (Heap.get?_push_of_some _ q)))
   simp only [List.mem_cons,List.not_mem_nil,or_false,not_or]
   exact ⟨Nat.ne_of_lt lb,Nat.ne_of_lt (Nat.lt_trans lb lt1)⟩
  obtain ⟨hy,gy,dy',ty',oy⟩:=y
  cases (show gy=s.gens from mv.gens)
  cases (show dy'=s.drawn from mv.drawn)
  cases (show oy=s.os from mv.os)
  exact ⟨rfl,out hy ty' dy kp⟩
end
def ptN(L:NL):NL:=L.foldl (fun N p=>putN N p.1 p.2.1 p.2.2) []
theorem ptN_snoc(L:NL)(p:List (List Key)×Addr×V):ptN (L++[p])=putN (ptN L) p.1 p.2.1 p.2.2:=by
 unfold ptN
 rw [List.foldl_append]
 rfl
theorem ptN_rel{L:NL}{xs:List (List (List Key)×Addr×Value)}(r:NRel L xs):NRel (ptN L) (stN xs):=by
 have go:∀ {L:NL} {xs:List (List (List Key)×Addr×Value)},NRel L xs->∀ {N:NL} {ys:List (List (List Key)×Addr×Value)},NRel N ys->NRel (L.foldl (fun N p=>putN N p.1 p.2.1 p.2.2) N) (xs.foldl (fun xs p=>storedH xs p.1 p.2.1 p.2.2) ys):=by
  intro L xs r
  unfold NRel at r
  induction r with
  | nil=>exact fun q=>q
  | @cons p q l m h t ih =>
   intro N ys rn
   obtain ⟨h1,h2,h3⟩:=h
   rw [List.foldl_cons,List.foldl_cons,<-h1,<-h2]
   exact ih (rn.put p.1 p.2.1 h3)
 exact go r .nil
theorem ptN_keys{H:Hp}:∀ L:NL,(∀ p∈L,NKey H p.2.1 p.1)->∀ p∈ptN L,NKey H p.2.1 p.1:=by
 refine snoc_ind (fun _ x hx=>nomatch hx) fun L p ih hp=>?_
 rw [ptN_snoc]
 exact putN_keys (ih fun q hq=>hp q (List.mem_append_left _ hq)) (hp p (List.mem_append_right _ (List.mem_singleton.mpr rfl)))
theorem ptN_len:∀ L:NL,(ptN L).length<=L.length:=by
 refine snoc_ind (Nat.le_refl _) fun L p ih=>?_
 rw [ptN_snoc,List.length_append]
 exact Nat.le_trans (putN_len _ _ _ _) (Nat.succ_le_succ ih)
def PrA(H:Hp)(t:Addr)(p:List (List Key)×Addr×V):Prop:=H t=some (.tup [.ref p.2.1,p.2.2])/\NKey H p.2.1 p.1
def tDicP(P:Program)(w:World)(xs:List V)(H:Hp)(Q:VK):Prop:=∃ (l:Addr) (rs:List Addr) (L:NL),xs=[.ref l]/\H l=some (.lst (rs.map V.ref))/\Paired (PrA H) rs L/\L.length<=100000/\∀ a,H a=none->Q (.ref a) (upd H a (NDO P w a (ptN L)))
theorem call_dicP{X:Cx}{P:Program}{w:World}(hp:X.prog=P)(hw:X.w=w)(hc:X.calm=true)(hu:X.A.units+64<cLine):CallR X (.type "dict") (tDicP P w):=by
 subst hp hw
 intro pins s σ H xs us Q I r h
 obtain ⟨l,rs,L,rfl,hl,pr,hz,q⟩:=h
 obtain ⟨u,rfl,ru⟩:=vals1 r
 cases ru
 obtain ⟨its,rv,pl,hzl⟩:=I.list (SqL.of hl)
 clear hzl
 have hlen:its.length=L.length:=by rw [<-rv.length,List.length_map,Paired.length pr]
 obtain ⟨ps,rel,hps⟩:∃ ps:List (List (List Key)×Addr×Value),NRel L ps/\∀ (i:Nat) (p:List (List Key)×Addr×Value),ps[i]? = some p->∃ t,rs[i]? = some t/\PairAt s.heap t (.ref p.2.1) p.2.2/\IsNestKey (mixKind X.prog X.w) s.heap p.1 p.2.1:=by
  clear hl rv pl hlen hz q
  induction pr with
  | nil=>exact ⟨[],.nil,fun i p h=>by simp at h⟩
  | @cons t p rs L h1 h2 ih =>
   obtain ⟨ps,rel,hps⟩:=ih
   obtain ⟨ht,hk⟩:=h1
   obtain ⟨vs,rv,pt,_⟩:=I.tuple (SqT.of ht)
   cases rv with
   | cons r1 r2 =>
    cases r2 with
    | @cons _ u _ _ r2 r3 =>
     cases r3
     cases r1
     refine ⟨(p.1,p.2.1,u)::ps,.cons ⟨rfl,rfl,r2⟩ rel,fun i q hq=>?_⟩
     match i,hq with
     | 0,hq =>
      cases hq
      obtain ⟨o,e,c,n,d⟩:=id pt
      exact ⟨t,rfl,⟨o,n,e,c,d⟩,nkey_of I.hok hk⟩
     | i+1,hq=>exact hps i q hq
 have hpl:ps.length=L.length:=(Paired.length rel).symm
 refine call_dict_pairs (knd:=mixKind X.prog X.w) (ps:=ps) (I.ok.hd hc) (by lia) pl (by rw [List.size_toArray,hlen,hpl]) (by lia) (fun i v hv=>?_) (fun p hm=>?_) fun h' tk hD hk=>?_
 ·have hv':its[i]? = some v:=by simpa using hv
  obtain ⟨t,ht,rfl⟩:=vals_ref rv i v hv'
  have il:i<ps.length:=by rw [hpl,<-hlen];exact (List.getElem?_eq_some_iff.mp hv').1
  obtain ⟨t',ht',pa,_⟩:=hps i _ (List.getElem?_eq_getElem il)
  rw [ht] at ht'
  cases ht'
  exact ⟨t,_,rfl,pa,List.getElem?_eq_getElem il⟩
 ·obtain ⟨i,hi⟩:=List.getElem?_of_mem hm
  obtain ⟨_,_,_,z⟩:=hps i p hi
  exact z
 ·obtain ⟨o,es,ep,h1,h2,h3,h4,_,h5⟩:=hD
  have hzz:(ptN L).length<=sizeLine:=by have:=ptN_len L;rw [sizeLine_eq];lia
  exact ⟨.ref s.heap.objs.size,_,I.laid (a:=s.heap.objs.size) (o:=NDO X.prog X.w s.heap.objs.size (ptN L)) hk (Nat.le_refl _) (nd_new hzz (beq_eq_false_iff_ne.mpr (Ne.symm (Nat.ne_of_lt I.big))) (ptN_rel rel) h1 h2 h3 h4 h5),rfl,q _ (I.hok.fresh (Nat.le_refl _))⟩
open PySem PySem.Spec PyProof.Rows
def dN(s:List Nat):PyData:=.tuple (s.map fun n:Nat=>PyData.int (n:Int))
def dJ(j:Jn):PyData:=.tuple [dN j.1,dN j.2]
def stD(n:Nat):PyData->Bool
 | .tuple bs=>decide (bs.length=n)&&bs.all (betD · 0 1)
 | _=>false
def jtD(a b:Nat):PyData->Bool
 | .tuple [x,y]=>stD a x&&stD b y
 | _=>false
theorem bet01{d:PyData}(h:betD d 0 1=true):∃ n:Nat,d = .int (n:Int)/\n<2:=by
 cases d with
 | int i =>
  have h:(decide ((0:Int)<=i)&&decide (i<=1))=true:=h
  simp only [Bool.and_eq_true,decide_eq_true_eq] at h
  exact ⟨i.toNat,congrArg PyData.int (by lia),by lia⟩
 | _=>cases h
theorem bits_of_all:∀ {bs:List PyData},bs.all (betD · 0 1)=true->∃ s:List Nat,bs=s.map (fun n:Nat=>PyData.int (n:Int))/\∀ x∈s,x<2
 | [],_=>⟨[],rfl,fun x hx=>nomatch hx⟩
 | d::r,h=>by
  rw [List.all_cons,Bool.and_eq_true] at h
  obtain ⟨n,rfl,hn⟩:=bet01 h.1
  obtain ⟨s,rfl,hs⟩:=bits_of_all h.2
  refine ⟨n::s,rfl,fun x hx=>?_⟩
  rcases List.mem_cons.mp hx with rfl | hx
  ·exact hn
  ·exact hs x hx
theorem stD_iff{n:Nat}{d:PyData}:stD n d=true↔∃ s:List Nat,d=dN s/\s.length=n/\∀ x∈s,x<2:=by
 constructor
 ·intro h
  cases d with
  | tuple bs =>
   have h:(decide (bs.length=n)&&bs.all (betD · 0 1))=true:=h
   rw [Bool.and_eq_true,decide_eq_true_eq] at h
   obtain ⟨s,rfl,hs⟩:=bits_of_all h.2
   exact ⟨s,rfl,by rw [<-h.1,List.length_map],hs⟩
  | _=>cases h
 ·rintro ⟨s,rfl,hl,hs⟩
  show (decide ((s.map fun n:Nat=>PyData.int (n:Int)).length=n)&&(s.map fun n:Nat=>PyData.int (n:Int)).all (betD · 0 1))=true
  rw [List.length_map,decide_eq_true hl,Bool.true_and,List.all_map,List.all_eq_true]
  intro x hx
  have:=hs x hx
  show (decide ((0:Int)<=(x:Int))&&decide ((x:Int)<=1))=true
  rw [decide_eq_true (by lia),decide_eq_true (by lia)]
  rfl
theorem jtD_iff{a b:Nat}{d:PyData}:jtD a b d=true↔∃ j:Jn,d=dJ j/\Jt a b j:=by
 constructor
 ·intro h
  unfold jtD at h
  split at h
  ·rw [Bool.and_eq_true] at h
   obtain ⟨s,rfl,h1,h2⟩:=stD_iff.mp h.1
   obtain ⟨t,rfl,h3,h4⟩:=stD_iff.mp h.2
   exact ⟨(s,t),rfl,h1,h3,h2,h4⟩
  ·cases h
 ·rintro ⟨j,rfl,h1,h2,h3,h4⟩
  show (stD a (dN j.1)&&stD b (dN j.2))=true
  rw [stD_iff.mpr ⟨j.1,rfl,h1,h3⟩,stD_iff.mpr ⟨j.2,rfl,h2,h4⟩]
  rfl
theorem dN_inj{s t:List Nat}(h:dN s=dN t):s=t:=by
 unfold dN at h
 injection h with h
 exact (List.map_inj_right (fun a b e=>by injection e with e;exact Int.ofNat_inj.mp e)).mp h
theorem dJ_inj{i j:Jn}(h:dJ i=dJ j):i=j:=by
 unfold dJ at h
 injection h with h
 injection h with h1 h2
 injection h2 with h2 _
 exact Prod.ext (dN_inj h1) (dN_inj h2)
theorem dats_nVI{H:Hp}:∀ {s:List Nat} {xs:List V},Dats H (s.map fun n:Nat=>PyData.int (n:Int)) xs->xs=nV s
 | [],xs,h=>h.nilI
 | a::s,xs,h=>by
  obtain ⟨x,r,rfl,h1,h2⟩:=Dats.consI h
  rw [h1.intI,dats_nVI h2]
  rfl
theorem dat_jk{H:Hp}{v:V}{j:Jn}(h:Dat H (dJ j) v):∃ k,v = .ref k/\JK H k j:=by
 obtain ⟨k,xs,rfl,h1,h2⟩:=Dat.tupI h
 obtain ⟨x,r,rfl,h3,h4⟩:=Dats.consI h2
 obtain ⟨y,r',rfl,h5,h6⟩:=Dats.consI h4
 obtain rfl:=h6.nilI
 obtain ⟨a,ys,rfl,h7,h8⟩:=Dat.tupI h3
 obtain ⟨c,zs,rfl,h9,h10⟩:=Dat.tupI h5
 rw [dats_nVI h8] at h7
 rw [dats_nVI h10] at h9
 exact ⟨k,rfl,a,c,h1,h7,h9⟩
theorem dats_jk{H:Hp}:∀ {L:List Jn} {xs:List V},Dats H (L.map dJ) xs->∃ rs:List Addr,xs=rs.map V.ref/\Paired (JK H) rs L
 | [],xs,h=>⟨[],h.nilI,.nil⟩
 | j::L,xs,h=>by
  obtain ⟨x,r,rfl,h1,h2⟩:=Dats.consI h
  obtain ⟨k,rfl,hk⟩:=dat_jk h1
  obtain ⟨rs,rfl,hr⟩:=dats_jk h2
  exact ⟨k::rs,rfl,.cons hk hr⟩
def Clo(U W:Wn)(L:List Jn):Prop:=firJ U W∈L/\∀ j∈L,∀ i,stJ U W j i->i∈L
def TabL(U W:Wn)(L:List Jn):Prop:=L.Nodup/\(∀ j∈L,Jt U.boxes.length W.boxes.length j)/\(∀ j∈L,¬badJ U W j)/\Clo U W L
def TabD(U W:Wn)(d:PyData):Prop:=∃ L:List Jn,d = .list (L.map dJ)/\TabL U W L
theorem tabD_list{U W:Wn}{L:List Jn}:TabD U W (.list (L.map dJ))↔TabL U W L :=
 ⟨fun ⟨M,e,h⟩=>by
  injection e with e
  rw [(List.map_inj_right (fun _ _=>dJ_inj)).mp e]
  exact h,fun h=>⟨L,rfl,h⟩⟩
theorem all_jtD{a b:Nat}:∀ {ds:List PyData},ds.all (jtD a b)=true->∃ L:List Jn,ds=L.map dJ/\∀ j∈L,Jt a b j
 | [],_=>⟨[],rfl,fun x hx=>nomatch hx⟩
 | d::r,h=>by
  rw [List.all_cons,Bool.and_eq_true] at h
  obtain ⟨j,rfl,hj⟩:=jtD_iff.mp h.1
  obtain ⟨L,rfl,hL⟩:=all_jtD h.2
  refine ⟨j::L,rfl,fun x hx=>?_⟩
  rcases List.mem_cons.mp hx with rfl | hx
  ·exact hj
  ·exact hL x hx
theorem not_tab{U W:Wn}{ds:List PyData}(h:ds.all (jtD U.boxes.length W.boxes.length)=false):¬TabD U W (.list ds):=by
 rintro ⟨L,e,_,hj,_⟩
 injection e with e
 subst e
 have:(L.map dJ).all (jtD U.boxes.length W.boxes.length)=true:=by
  rw [List.all_map,List.all_eq_true]
  exact fun j hm=>jtD_iff.mpr ⟨j,rfl,hj j hm⟩
 rw [h] at this
 cases this
def NJ(H:Hp)(p:List (List Key)×Addr×V)(j:Jn):Prop:=p.1=jk j/\JK H p.2.1 j
theorem nl_of{H:Hp}{rs:List Addr}{L:List Jn}(pr:Paired (JK H) rs L)(v:V):∃ M:NL,M.map (·.2.1)=rs/\Paired (NJ H) M L/\∀ p∈M,p.2.2=v:=by
 induction pr with
 | nil=>exact ⟨[],rfl,.nil,fun p hp=>nomatch hp⟩
 | @cons r j rs L h t ih =>
  obtain ⟨M,h1,h2,h3⟩:=ih
  refine ⟨(jk j,r,v)::M,by rw [List.map_cons,h1],.cons ⟨rfl,h⟩ h2,fun p hp=>?_⟩
  rcases List.mem_cons.mp hp with rfl | hp
  ·rfl
  ·exact h3 p hp
theorem valN_iff{M:NL}(k:List (List Key)):(valN M k).isSome=true↔k∈M.map (·.1):=by
 unfold valN
 rw [Option.isSome_map,List.find?_isSome]
 constructor
 ·rintro ⟨p,hp,e⟩
  exact List.mem_map.mpr ⟨p,hp,of_decide_eq_true e⟩
 ·intro h
  obtain ⟨p,hp,e⟩:=List.mem_map.mp h
  exact ⟨p,hp,decide_eq_true e⟩
theorem putN_fst(N:NL)(k:List (List Key))(b:Addr)(v:V):(putN N k b v).map (·.1)=if (valN N k).isSome then N.map (·.1) else N.map (·.1)++[k]:=by
 unfold putN
 by_cases c:(valN N k).isSome=true
 ·rw [if_pos c,if_pos c,List.map_map]
  refine List.map_congr_left fun p _=>?_
  show (if p.1=k then (p.1,p.2.1,v) else p).1=p.1
  split<;>rfl
 ·rw [if_neg c,if_neg c,List.map_append]
  rfl
theorem ptN_fst:∀ M:NL,((ptN M).map (·.1)).Nodup/\∀ k,k∈(ptN M).map (·.1)↔k∈M.map (·.1):=by
 refine snoc_ind ⟨List.nodup_nil,fun k=>Iff.rfl⟩ fun M p ⟨h1,h2⟩=>?_
 rw [ptN_snoc,putN_fst]
 by_cases c:p.1∈(ptN M).map (·.1)
 ·rw [if_pos ((valN_iff _).mpr c)]
  refine ⟨h1,fun k=>(h2 k).trans ?_⟩
  rw [List.map_append,List.mem_append]
  refine ⟨.inl,fun h=>h.elim id fun h=>?_⟩
  have h:=List.mem_singleton.mp h
  subst h
  exact (h2 _).mp c
 ·rw [if_neg (fun e=>c ((valN_iff _).mp e))]
  refine ⟨List.nodup_append.mpr ⟨h1,by simp,fun a ha b hb=>?_⟩,fun k=>?_⟩
  ·rw [List.mem_singleton.mp hb]
   exact fun e=>c (e▸ha)
  ·rw [List.map_append,List.mem_append,List.mem_append,h2 k]
   rfl
theorem nj_fst{H:Hp}{M:NL}{L:List Jn}(pr:Paired (NJ H) M L):M.map (·.1)=L.map jk:=by
 induction pr with
 | nil=>rfl
 | @cons p i M L h t ih=>rw [List.map_cons,List.map_cons,ih,h.1]
theorem not_nodup{α:Type}:∀ {L:List α},¬L.Nodup->∃ A x B,L=A++x::B/\x∈B
 | [],h=>absurd List.nodup_nil h
 | a::L,h=>by
  by_cases c:a∈L
  ·exact ⟨[],a,L,rfl,c⟩
  ·obtain ⟨A,x,B,e,hx⟩:=not_nodup (L:=L) fun nd=>h (List.nodup_cons.mpr ⟨c,nd⟩)
   exact ⟨a::A,x,B,by rw [e];rfl,hx⟩
theorem nodup_inj{α β:Type}{f:α->β}(inj:∀ {a b:α},f a=f b->a=b):∀ {L:List α},L.Nodup->(L.map f).Nodup
 | [],_=>List.nodup_nil
 | a::L,h=>List.nodup_cons.mpr ⟨fun hm=>let ⟨b,h1,h2⟩:=List.mem_map.mp hm;(List.nodup_cons.mp h).1 (inj h2▸h1),nodup_inj inj (List.nodup_cons.mp h).2⟩
theorem ptN_few{H:Hp}{M:NL}{L:List Jn}(pr:Paired (NJ H) M L):(ptN M).length<L.length↔¬L.Nodup:=by
 obtain ⟨h1,h2⟩:=ptN_fst M
 have e:=nj_fst pr
 constructor
 ·intro hl nd
  have:=nodup_len (nodup_inj (f:=jk) (fun z=>jk_inj z) nd) (ys:=(ptN M).map (·.1)) fun k hk=>(h2 k).mpr (by rw [e];exact hk)
  rw [List.length_map,List.length_map] at this
  lia
 ·intro nd
  obtain ⟨A,x,B,rfl,hx⟩:=not_nodup nd
  have:=nodup_len h1 (ys:=(A++B).map jk) fun k hk=>by
   have hk:=(h2 k).mp hk
   rw [e] at hk
   obtain ⟨j,hj,rfl⟩:=List.mem_map.mp hk
   refine List.mem_map.mpr ⟨j,?_,rfl⟩
   rcases List.mem_append.mp hj with h | h
   ·exact List.mem_append_left _ h
   ·rcases List.mem_cons.mp h with rfl | h
    ·exact List.mem_append_right _ hx
    ·exact List.mem_append_right _ h
  rw [List.length_map,List.length_map,List.length_append] at this
  rw [List.length_append,List.length_cons]
  lia
theorem ptN_key{H:Hp}{M:NL}{L:List Jn}(pr:Paired (NJ H) M L)(j:Jn):(valN (ptN M) (jk j)).isSome=decide (j∈L):=by
 have h:=(valN_iff (M:=ptN M) (jk j)).trans ((ptN_fst M).2 (jk j))
 rw [nj_fst pr] at h
 by_cases c:j∈L
 ·rw [decide_eq_true c]
  exact h.mpr (List.mem_map.mpr ⟨j,c,rfl⟩)
 ·rw [decide_eq_false c]
  cases e:(valN (ptN M) (jk j)).isSome with
  | false=>rfl
  | true =>
   obtain ⟨i,hi,hj⟩:=List.mem_map.mp (h.mp e)
   exact absurd (jk_inj hj▸hi) c
theorem nd_pt{P:Program}{w:World}{H:Hp}{a:Addr}{M:NL}{L:List Jn}(pr:Paired (NJ H) M L)(e:H a=some (NDO P w a (ptN M))):ND P w H a (ptN M):=by
 refine ⟨e,ptN_keys M fun p hp=>?_⟩
 obtain ⟨i,hi⟩:=List.getElem?_of_mem hp
 obtain ⟨j,_,h1,h2⟩:=pairedGet pr hi
 rw [h1]
 exact h2.nkey
mutual
def Wd:PyData->Prop
 | .list ds=>ds.length<=1000/\Wds ds
 | .tuple ds=>ds.length<=1000/\Wds ds
 | _=>True
def Wds:List PyData->Prop
 | []=>True
 | d::ds=>Wd d/\Wds ds
end
theorem Wds.mem:∀ {ds:List PyData},Wds ds->∀ {d:PyData},d∈ds->Wd d
 | d::ds,h,e,hm=>by
  unfold Wds at h
  rcases List.mem_cons.mp hm with rfl | hm
  ·exact h.1
  ·exact Wds.mem h.2 hm
theorem Wds.of:∀ {ds:List PyData},(∀ d∈ds,Wd d)->Wds ds
 | [],_=>by unfold Wds;trivial
 | d::ds,h=>by
  unfold Wds
  exact ⟨h d List.mem_cons_self,Wds.of fun e he=>h e (List.mem_cons_of_mem _ he)⟩
theorem Wd.tup{ds:List PyData}(h:Wd (.tuple ds)):ds.length<=1000/\∀ d∈ds,Wd d:=by
 unfold Wd at h
 exact ⟨h.1,fun d hd=>h.2.mem hd⟩
theorem Wd.lst{ds:List PyData}(h:Wd (.list ds)):ds.length<=1000/\∀ d∈ds,Wd d:=by
 unfold Wd at h
 exact ⟨h.1,fun d hd=>h.2.mem hd⟩
theorem Wd.mkT{ds:List PyData}(h:ds.length<=1000)(hd:∀ d∈ds,Wd d):Wd (.tuple ds):=by unfold Wd;exact ⟨h,Wds.of hd⟩
theorem Wd.mkL{ds:List PyData}(h:ds.length<=1000)(hd:∀ d∈ds,Wd d):Wd (.list ds):=by unfold Wd;exact ⟨h,Wds.of hd⟩
def stand_d:Sp:=fun vs H Q _=>∃ (wk b g o:Addr) (bs gs:List Addr) (W:Wn) (d:PyData) (v:V),vs=[.ref wk,v]/\WnA H wk b g o bs gs W/\Dat H d v/\Wd d/\∀ H',Same H H'->Q (.bl (stD W.boxes.length d)) H'
def joint_d:Sp:=fun vs H Q _=>∃ (wk w':Addr) (U W:Wn) (d:PyData) (v:V),vs=[.ref wk,.ref w',v]/\Two H wk w' U W/\Dat H d v/\Wd d/\∀ H',Same H H'->Q (.bl (jtD U.boxes.length W.boxes.length d)) H'
open PySem PySem.Spec PyProof.Rows
theorem comp_datL{K:PySem.W.Frag}{a:Addr}{S:V->St}{te:TE}{H:Hp}{Fin:List V->Hp->Prop}{ds:List PyData}{xs:List V}(f:PyData->Bool)(hp:H a=some (.lst xs))(hD:Dats H ds xs)(hz:ds.length<=100000)
  (hs:∀ (d:PyData) (x:V) (H':Hp),d∈ds->Dat H d x->Same H H'->∀ N:V->Hp->Prop,(∀ H2,Same H' H2->N (.bl (f d)) H2)->te (S x) H' N)
  (hd:∀ H',Same H H'->Fin ((ds.map f).map V.bl) H'):CompW (Itl K a) S tYes te H Fin:=by
 have hl:=hD.length
 refine comp_list (xs:=xs) (fun i ys H'=>ys=((ds.take i).map f).map V.bl/\Same H H') ⟨rfl,Same.refl _⟩ ?_ ?_ ?_ ?_
 ·rintro i ys H' _ ⟨_,s⟩
  exact SqL.of (s _ _ hp)
 ·rintro i ys H' hi ⟨rfl,_⟩
  rw [List.length_map,List.length_map,List.length_take]
  exact y_u (by lia)
 ·rintro i x ys H' hx ⟨rfl,s⟩
  obtain ⟨d,h1,h2⟩:=hD.get hx
  unfold tYes
  refine iteT (hs d x H' (List.mem_of_getElem? h1) h2 s _ fun H2 s2=>⟨?_,s.trans s2⟩)
  rw [List.take_add_one,h1,List.map_append,List.map_append]
  rfl
 ·rintro ys H' ⟨rfl,s⟩
  rw [<-hl,List.take_length]
  exact hd H' s
structure Tm(k n:Nat)(d:PyData):Prop where
 sh:d.showable=true
 cl:d.canLay0=true
 dp:d.depth<=k
 ln:d.shown.length<=n
 hi:∀ c,200<c->c∉d.shown.cps.toList
 wd:Wd d
theorem showAll{ds:List PyData}(h:∀ d∈ds,d.showable=true):PyData.showableAll ds=true:=by
 induction ds with
 | nil=>simp [PyData.showableAll]
 | cons d r ih =>
  rw [PyData.showableAll,h d List.mem_cons_self,ih fun e he=>h e (List.mem_cons_of_mem _ he)]
  rfl
theorem shownAll_le{n:Nat}{ds:List PyData}(h:∀ d∈ds,d.shown.length<=n):∀ t∈PyData.shownAll ds,t.length<=n:=by
 induction ds with
 | nil=>intro t ht;simp [PyData.shownAll] at ht
 | cons d r ih =>
  intro t ht
  rw [PyData.shownAll] at ht
  rcases List.mem_cons.mp ht with rfl | ht
  ·exact h d List.mem_cons_self
  ·exact ih (fun e he=>h e (List.mem_cons_of_mem _ he)) t ht
theorem Tm.tuple{k n m:Nat}{ds:List PyData}(h:∀ d∈ds,Tm k n d)(hm:ds.length<=m)(h1:m<=1000):Tm (k+1) (4+m*n+2*m) (.tuple ds):=by
 have c:=Cmp.tuple (n:=k) fun d hd=>(⟨(h d hd).cl,(h d hd).dp⟩:Cmp k d)
 refine ⟨by rw [PyData.showable];exact showAll fun d hd=>(h d hd).sh,c.1,c.2,?_,fun x hx=>hi_tuple hx fun d hd=>(h d hd).hi x hx,Wd.mkT (by lia) fun d hd=>(h d hd).wd⟩
 rw [PyData.shown]
 have a:=tupleText_len_le (PyData.shownAll ds)
 have b:=StrLaws.sumLen_le _ (shownAll_le fun d hd=>(h d hd).ln)
 rw [x_j] at a b
 have e:=Nat.mul_le_mul_right n hm
 lia
theorem Tm.list{k n m:Nat}{ds:List PyData}(h:∀ d∈ds,Tm k n d)(hm:ds.length<=m)(h1:m<=1000):Tm (k+1) (4+m*n+2*m) (.list ds):=by
 have c:=Cmp.list (n:=k) fun d hd=>(⟨(h d hd).cl,(h d hd).dp⟩:Cmp k d)
 refine ⟨by rw [PyData.showable];exact showAll fun d hd=>(h d hd).sh,c.1,c.2,?_,fun x hx=>hi_list hx fun d hd=>(h d hd).hi x hx,Wd.mkL (by lia) fun d hd=>(h d hd).wd⟩
 rw [PyData.shown]
 have a:=listText_len_le (PyData.shownAll ds)
 have b:=StrLaws.sumLen_le _ (shownAll_le fun d hd=>(h d hd).ln)
 rw [x_j] at a b
 have e:=Nat.mul_le_mul_right n hm
 lia
theorem Tm.mono{k n k' n':Nat}{d:PyData}(h:Tm k n d)(hk:k<=k')(hn:n<=n'):Tm k' n' d:=⟨h.sh,h.cl,Nat.le_trans h.dp hk,Nat.le_trans h.ln hn,h.hi,h.wd⟩
theorem Tm.int{k:Nat}(n:Nat)(h:n<10):Tm k 10 (.int (n:Int)) where
 sh:=by rw [PyData.showable];exact decide_eq_true (lgN (show n<10^9 by lia))
 cl:=(Cmp.int (n:=k) _).1
 dp:=(Cmp.int (n:=k) _).2
 ln:=by
  rw [PyData.shown]
  exact Nat.le_trans (nw_len (show n<10^9 by lia)) (by decide)
 hi:=fun c hc=>shown_int_free' ⟨by lia,.inr (by lia)⟩ _
 wd:=by unfold Wd;trivial
theorem Tm.none{k:Nat}:Tm k 10 .none where
 sh:=by simp [PyData.showable]
 cl:=(Cmp.none (n:=k)).1
 dp:=(Cmp.none (n:=k)).2
 ln:=by rw [PyData.shown];decide
 hi:=fun c hc hm=>by
  rw [PyData.shown] at hm
  have:∀ x∈(Str.ofString "None").cps.toList,x<=200:=by decide
  exact absurd (this c hm) (by lia)
 wd:=by unfold Wd;trivial
section
variable {X:Cx}
theorem call_reprD(hu:X.A.units+64<cLine):CallR X (.builtin "repr") (fun xs H Q=>∃ (v:V) (d:PyData),xs=[v]/\RdD X.K H d v/\d.showable=true/\d.hasDict=false/\d.depth<=20/\d.shown.length<=sizeLine/\Q (.str d.shown) H):=by
 intro pins s σ H xs us Q I r h
 obtain ⟨v,d,rfl,hd,hs,hn,hp,hz,q⟩:=h
 cases d with
 | none =>
  unfold RdD at hd
  subst hd
  obtain ⟨u,rfl,rx⟩:=vals1 r
  cases rx
  exact P.repr_of_none ⟨.str _,H,I.tok _,⟨_,rfl⟩,by rw [PyData.shown] at q;exact q⟩
 | bool b =>
  unfold RdD at hd
  subst hd
  obtain ⟨u,rfl,rx⟩:=vals1 r
  cases rx
  exact P.repr_of_bool ⟨.str _,H,I.tok _,⟨_,rfl⟩,by rw [PyData.shown] at q;exact q⟩
 | int i =>
  unfold RdD at hd
  subst hd
  obtain ⟨u,rfl,t,rfl⟩:=vals1 r
  rw [PyData.showable] at hs
  exact P.repr_of_int (of_decide_eq_true hs) ⟨.str _,H,I.tok _,⟨_,rfl⟩,by rw [PyData.shown] at q;exact q⟩
 | str x =>
  unfold RdD at hd
  subst hd
  obtain ⟨u,rfl,t,rfl⟩:=vals1 r
  rw [PyData.shown] at q hz
  exact P.repr_of_str ⟨.str _,H,I.tok _,⟨_,rfl⟩,q⟩ hz
 | list ds =>
  obtain ⟨p,xs,rfl,h2,h3⟩:=(by unfold RdD at hd;exact hd:∃ p xs,v = .ref p/\SqL X.K H p xs/\RdDs X.K H ds xs)
  exact call_repr hu pins s σ H _ us Q I r ⟨p,.list ds,rfl,RdD.lst h2 h3,hs,hn,hp,hz,q⟩
 | tuple ds =>
  obtain ⟨p,xs,rfl,h2,h3⟩:=(by unfold RdD at hd;exact hd:∃ p xs,v = .ref p/\SqT X.K H p xs/\RdDs X.K H ds xs)
  exact call_repr hu pins s σ H _ us Q I r ⟨p,.tuple ds,rfl,RdD.tup h2 h3,hs,hn,hp,hz,q⟩
 | dict _=>unfold RdD at hd;exact hd.elim
end
def Gd(k n:Nat)(H:Hp)(v:V):Prop:=∃ d,Dat H d v/\Tm k n d
def Gds(k n:Nat)(H:Hp)(xs:List V):Prop:=∃ ds,Dats H ds xs/\∀ d∈ds,Tm k n d
section
variable {k n k' n' m:Nat} {H H':Hp} {v:V} {xs ys:List V} {p:Addr}
theorem Gd.same(s:Same H H')(h:Gd k n H v):Gd k n H' v:=by
 obtain ⟨d,h1,h2⟩:=h
 exact ⟨d,h1.same s,h2⟩
theorem Gd.mono(h:Gd k n H v)(hk:k<=k')(hn:n<=n'):Gd k' n' H v:=by
 obtain ⟨d,h1,h2⟩:=h
 exact ⟨d,h1,h2.mono hk hn⟩
theorem Gds.nil:Gds k n H []:=⟨[],.nil,fun d hd=>nomatch hd⟩
theorem Gds.cons(a:Gd k n H v)(b:Gds k n H xs):Gds k n H (v::xs):=by
 obtain ⟨d,h1,h2⟩:=a
 obtain ⟨ds,h3,h4⟩:=b
 refine ⟨d::ds,.cons h1 h3,fun e he=>?_⟩
 rcases List.mem_cons.mp he with rfl | he
 ·exact h2
 ·exact h4 e he
theorem Gds.of:∀ {xs:List V},(∀ x∈xs,Gd k n H x)->Gds k n H xs
 | [],_=>.nil
 | x::xs,h=>.cons (h x List.mem_cons_self) (Gds.of fun y hy=>h y (List.mem_cons_of_mem _ hy))
theorem Gds.len(h:Gds k n H xs):∃ ds:List PyData,Dats H ds xs/\(∀ d∈ds,Tm k n d)/\ds.length=xs.length:=by
 obtain ⟨ds,h1,h2⟩:=h
 exact ⟨ds,h1,h2,h1.length⟩
theorem Gd.tup(h:H p=some (.tup xs))(g:Gds k n H xs)(hm:xs.length<=m)(h1:m<=1000)(hk:k+1<=k')(hn:4+m*n+2*m<=n'):Gd k' n' H (.ref p):=by
 obtain ⟨ds,h2,h3,e⟩:=g.len
 exact ⟨_,Dat.tup h h2,(Tm.tuple h3 (by lia) h1).mono hk hn⟩
theorem Gd.lst(h:H p=some (.lst xs))(g:Gds k n H xs)(hm:xs.length<=m)(h1:m<=1000)(hk:k+1<=k')(hn:4+m*n+2*m<=n'):Gd k' n' H (.ref p):=by
 obtain ⟨ds,h2,h3,e⟩:=g.len
 exact ⟨_,Dat.lst h h2,(Tm.list h3 (by lia) h1).mono hk hn⟩
theorem Gd.int{i:Nat}(h:i<10):Gd k 10 H (.int (i:Int)):=⟨_,.int _,Tm.int i h⟩
theorem Gd.non:Gd k 10 H .non:=⟨_,.non,Tm.none⟩
theorem Gds.nV{s:List Nat}(h:∀ x∈s,x<2):Gds 0 10 H (L2.nV s):=Gds.of fun x hx=>by
 obtain ⟨i,hi,rfl⟩:=List.mem_map.mp hx
 exact Gd.int (by have:=h i hi;lia)
theorem Gd.leafT(h:H p=some (.tup xs))(g:Gds 0 10 H xs)(hm:xs.length<=4):Gd 1 60 H (.ref p):=Gd.tup (m:=4) h g hm (by decide) (by decide) (by decide)
theorem Gd.two{x y:V}(h:H p=some (.tup [x,y]))(a:Gd 1 60 H x)(b:Gd 1 60 H y):Gd 2 128 H (.ref p):=Gd.tup (m:=2) h (.cons a (.cons b .nil)) (by simp) (by decide) (by decide) (by decide)
theorem Gd.jk{a b:Nat}{j:Jn}(h:JK H p j)(hj:Jt a b j)(ha:a<=3)(hb:b<=3):Gd 2 128 H (.ref p):=by
 obtain ⟨q,r,h1,h2,h3⟩:=h
 obtain ⟨l1,l2,b1,b2⟩:=hj
 exact Gd.two h1 (Gd.leafT h2 (.nV b1) (by rw [z_v];lia)) (Gd.leafT h3 (.nV b2) (by rw [z_v];lia))
end
end L2
namespace L2
open PySem PySem.Spec PyProof.Rows
theorem Tm.ok{k n:Nat}{d:PyData}(h:Tm k n d):PyData.strOk d.shown=true:=by
 unfold PyData.strOk
 rw [<-Array.all_toList,List.all_eq_true]
 intro c hc
 exact decide_eq_true (Classical.byContradiction fun n=>h.hi c (by lia) hc)
theorem cmp_three{a b c:Str}(ha:PyData.strOk a=true)(hb:PyData.strOk b=true)(hc:PyData.strOk c=true):Cmp 64 (.tuple [.str a,.str b,.str c]):=Cmp.tuple fun d hd=>by
 simp only [List.mem_cons,List.not_mem_nil,or_false] at hd
 rcases hd with rfl | rfl | rfl
 ·exact ⟨by simp [PyData.canLay0,ha],by simp [PyData.depth]⟩
 ·exact ⟨by simp [PyData.canLay0,hb],by simp [PyData.depth]⟩
 ·exact ⟨by simp [PyData.canLay0,hc],by simp [PyData.depth]⟩
theorem rd_three{K:PySem.W.Frag}{H:Hp}{p:Addr}{a b c:Str}(h:H p=some (.tup [.str a,.str b,.str c])):RdD K H (.tuple [.str a,.str b,.str c]) (.ref p):=RdD.tup (SqT.of h) (RdDs.cons (RdD.str _) (RdDs.cons (RdD.str _) (RdDs.cons (RdD.str _) .nil)))
theorem wna_ne{H:Hp}{l w b g o:Addr}{bs gs:List Addr}{W:Wn}(h:WnA H w b g o bs gs W)(n:H l=none):b≠l/\g≠l/\o≠l:=⟨fun e=>(by have z:=h.b.1;rw [e,n] at z;cases z),fun e=>(by have z:=h.g.1;rw [e,n] at z;cases z),fun e=>(by have z:=h.o;rw [e,n] at z;cases z)⟩
end L2
namespace L2
open PySem PySem.Spec PyProof.Rows
open PySem.W (hideAll hideAll_get hideAll_none of_hideAll funFrames_hide)
structure Fly(a:Addr)(cls:Value)(h0:Heap)(H:Hp)(h:Heap):Prop where
 tr:∃ (oe:Obj) (vs:Array Value) (T:Addr) (oT:Obj) (ts:Array Value) (a0:Value),h.get? a=some oe/\(oe.cls=cls/\vs[0]? = some a0)/\oe.data = .fields vs/\vs[1]? = some (.ref T)/\T≠a/\h.get? T=some oT/\oT.data = .fields ts/\ts[3]? = some .none/\h0.get? T=none/\H T=none
 new:h0.get? a=none
 un:H a=none
def CXF(P:Program)(w:World):CXT:=fun outer H s E e s'=>∃ (a:Addr) (cls:Value) (H':Hp),e = .ref a/\s'.os=s.os/\AllBare s'.gens/\Un (frs outer) [] H H' s.heap s'.heap/\HOk P w H' s'.heap/\Fly a cls s.heap H' s'.heap/\E cls none H'
theorem ObjOk.ex{P:Program}{w:World}{H:Hp}{h:Heap}{a:Addr}{o:HO}(x:ObjOk P w H h a o):∃ ob,h.get? a=some ob:=by
 cases o with
 | lst xs=>obtain ⟨_,_,_,_,e⟩:=x;exact ⟨_,e⟩
 | tup xs=>obtain ⟨_,_,_,ob,e,_⟩:=x;exact ⟨_,e⟩
 | dK kvs=>obtain ⟨_,_,_,_,o,_,_,e,_⟩:=x;exact ⟨_,e⟩
 | dT kvs=>obtain ⟨_,_,_,_,o,_,_,e,_⟩:=x;exact ⟨_,e⟩
 | set S n=>obtain ⟨o,_,_,_,e,_⟩:=x;exact ⟨_,e⟩
 | ins C dx fs=>obtain ⟨_,_,_,e,_⟩:=x;exact ⟨_,e⟩
 | own y=>exact x
 | xd fs=>obtain ⟨_,⟨_,_,_,e,_⟩,_⟩:=x;exact ⟨_,e⟩
 | rng lo hi=>obtain ⟨_,_,_,e⟩:=x;exact ⟨_,e⟩
 | frz ob u=>obtain ⟨e,_⟩:=x;exact ⟨_,e⟩
 | tbl pos qual=>obtain ⟨_,e,_⟩:=x;exact ⟨_,e⟩
 | met f y=>exact ⟨_,(show h.get? a=some _ from x)⟩
 | ext φ=>obtain ⟨_,e,_⟩:=x;exact e
section
variable {P:Program} {w:World} {base h0 h h2:Heap} {l l':List Env} {a T:Addr} {cls a0:Value} {H H':Hp}
theorem move_ok(FF:h.FunFrames base l)(u:Un (frs l) [] H H' h0 h)(hok:HOk P w H' h)(frf:∀ b∈frs l,H' b=none)(ha:H' a=none)(hT:H' T=none)(na:h0.get? a=none)(nT:h0.get? T=none)
  (hfl:Heap.FlyingW (hideAll h (a::T::frs l)) l' a cls a0 h2) (up:h.UpToSlots h2):Un (frs l) [] H H' h0 h2/\HOk P w H' h2/\Fly a cls h0 H' h2:=by
 have keep:∀ b o,h.get? b=some o->b≠a->b≠T->b∉frs l->h2.get? b=some o:=fun b o e n1 n2 n3=>hfl.1 b o (hideAll_get _ e fun z=>by
  rcases List.mem_cons.mp z with z | z
  ·exact n1 z
  ·rcases List.mem_cons.mp z with z | z
   ·exact n2 z
   ·exact n3 z)
 have slot:∀ b o,h.get? b=some o->b∈frs l->(∃ sl,h2.get? b=some { o with slots:=sl })/\∀ vs,o.data ≠ .fields vs:=fun b o e hb=>by
  obtain ⟨_,o',ho',hd⟩:=FF.mem hb
  rw [e] at ho'
  cases ho'
  exact ⟨up b o e hd,hd⟩
 have old:∀ b o,h0.get? b=some o->b≠a/\b≠T:=fun b o e=>⟨fun z=>(by rw [z,na] at e;cases e),fun z=>(by rw [z,nT] at e;cases e)⟩
 have trk:∀ b v,H' b=some v->b≠a/\b≠T/\b∉frs l:=fun b v e=>⟨z_l e ha,z_l e hT,fun z=>by rw [frf b z] at e;cases e⟩
 refine ⟨⟨fun b o e n hb hx=>?_,fun b o e n hb hx=>?_,u.free,fun b o e hx=>?_,u.tups,u.frzs,u.tbls⟩,fun c v e=>?_,?_⟩
 ·exact keep b o (u.keep b o e n hb hx) (old b o e).1 (old b o e).2 hb
 ·obtain ⟨sl,e1⟩:=u.slot b o e n hb hx
  obtain ⟨⟨sl2,e2⟩,_⟩:=slot b _ e1 hb
  exact ⟨sl2,e2⟩
 ·obtain ⟨o',e1⟩:=u.there b o e hx
  by_cases hb:b∈frs l
  ·obtain ⟨⟨sl,e2⟩,_⟩:=slot b o' e1 hb
   exact ⟨_,e2⟩
  ·exact ⟨o',keep b o' e1 (old b o e).1 (old b o e).2 hb⟩
 ·exact (hok c v e).stay (fun b z hb q=>by
   have t:b≠a/\b≠T/\b∉frs l:=by
    rcases hb with rfl | hb
    ·exact trk b v e
    ·exact trk b _ hb
   exact keep b z q t.1 t.2.1 t.2.2) (fun _ q=>q) (fun _ _ q=>q) fun _ _ _ q=>q
 ·obtain ⟨_,_,_,oe,vs,T2,oT,ts,x1,x2,x3,x4,x5,x6,x7,x8,x9⟩:=hfl
  refine ⟨⟨oe,vs,T2,oT,ts,a0,x1,x2,x3,x4,x6,x7,x8,x9,?_,?_⟩,na,ha⟩
  ·cases q:h0.get? T2 with
   | none=>rfl
   | some o =>
    exfalso
    obtain ⟨n1,n2⟩:=old T2 o q
    obtain ⟨o',e1⟩:=u.there T2 o q (by simp)
    by_cases hb:T2∈frs l
    ·obtain ⟨⟨sl,e2⟩,hd⟩:=slot T2 o' e1 hb
     rw [e2] at x7
     cases x7
     exact hd ts x8
    ·rw [hideAll_get _ e1 (fun z=>by
      rcases List.mem_cons.mp z with z | z
      ·exact n1 z
      ·rcases List.mem_cons.mp z with z | z
       ·exact n2 z
       ·exact hb z)] at x5
     cases x5
  ·cases q:H' T2 with
   | none=>rfl
   | some v =>
    exfalso
    obtain ⟨n1,n2,n3⟩:=trk T2 v q
    obtain ⟨ob,e1⟩:=(hok T2 v q).ex
    rw [hideAll_get _ e1 (fun z=>by
      rcases List.mem_cons.mp z with z | z
      ·exact n1 z
      ·rcases List.mem_cons.mp z with z | z
       ·exact n2 z
       ·exact n3 z)] at x5
    cases x5
theorem fly_base(FF:h.FunFrames base l)(F:Fly a cls h0 H h):∃ T a0,Heap.FlyingW (hideAll h (a::T::frs l)) l a cls a0 h/\h0.get? T=none/\H T=none:=by
 obtain ⟨oe,vs,T,oT,ts,a0,x1,x2,x3,x4,x6,x7,x8,x9,x10,x11⟩:=F.tr
 refine ⟨T,a0,⟨fun b o q=>of_hideAll _ q,hideAll_none _ (List.mem_cons_self),funFrames_hide FF fun env he b hb=>?_,oe,vs,T,oT,ts,x1,x2,x3,x4,hideAll_none _ (List.mem_cons_of_mem _ List.mem_cons_self),x6,x7,x8,x9⟩,x10,x11⟩
 exact List.mem_cons_of_mem _ (List.mem_cons_of_mem _ (List.mem_filterMap.mpr ⟨env,he,hb⟩))
end
section
variable {X:Cx} {pins:List (Addr×Obj)} {σ:St} {H:Hp} {s s':Shared} {E:XK}
theorem pass_leave{e:Value}{E2:Value->Shared->Prop}(I:Inv X pins σ H s)(hst:X.stack=X.env::X.outer)(hfr:X.env.frame=some X.env.locals)(hex:X.ex=[])(c:CXF X.prog X.w X.stack H s E e s') :
  wpAny (model X.prog X.w) X.A (leaving X.env e) (fun _ s''=>CXF X.prog X.w X.outer X.H₀ X.s₀ E e s'') E2 s':=by
 obtain ⟨a,cls,H',rfl,os,bare,u,hok,F,q⟩:=c
 have J:Inv X pins σ H' s':=I.call' os u hok bare (fun b hb=>absurd hb (by simp))
 obtain ⟨T,a0,hfl,nT,hT⟩:=fly_base J.stack F
 rw [hst] at hfl
 refine wpAny_leaves_onW (by rw [J.ok.frames,hst]) hfr hfl fun h2 hfl2 up=>?_
 rw [<-hst] at hfl2
 obtain ⟨u2,hok2,F2⟩:=move_ok J.stack u hok J.stkFree F.un hT F.new nT hfl2 up
 have J2:Inv X pins σ H' { s' with heap:=h2 }:=I.call' (s':={ s' with heap:=h2 }) os u2 hok2 bare (fun b hb=>absurd hb (by simp))
 have hb2:=J2.base
 rw [hex] at hb2
 have old:∀ b,s.heap.get? b=none->X.s₀.heap.get? b=none:=fun b hb=>by
  cases z:X.s₀.heap.get? b with
  | none=>rfl
  | some o =>
   obtain ⟨o',e'⟩:=I.base.there b o z (by rw [hex];simp)
   rw [hb] at e'
   cases e'
 obtain ⟨⟨oe,vs,T2,oT,ts,a1,x1,x2,x3,x4,x6,x7,x8,x9,x10,x11⟩,n1,n2⟩:=F2
 exact ⟨a,cls,H',rfl,J2.os,bare,hb2,hok2,⟨⟨oe,vs,T2,oT,ts,a1,x1,x2,x3,x4,x6,x7,x8,x9,old _ x10,x11⟩,old _ n1,n2⟩,q⟩
theorem raise_leave{h':Heap}{a:Addr}{cls:Value}{vs:List Value}{E2:Value->Shared->Prop}(I:Inv X pins σ H s)(hst:X.stack=X.env::X.outer)(hfr:X.env.frame=some X.env.locals)(hex:X.ex=[])(hx:Heap.MadeExcOf s.heap h' a cls vs)(q:E cls none H) :
  wpAny (model X.prog X.w) X.A (leaving X.env (.ref a)) (fun _ s''=>CXF X.prog X.w X.outer X.H₀ X.s₀ E (.ref a) s'') E2 { s with heap:=h' }:=by
 have FF:=I.stack
 have inF:∀ env∈X.stack,∀ b,env.frame=some b->b∈frs X.stack:=fun env he b hb=>List.mem_filterMap.mpr ⟨env,he,hb⟩
 refine wpAny_leaves_madeW (base:=hideAll s.heap (frs X.stack)) (h:=s.heap) (by rw [I.ok.frames,hst]) hfr (fun b o q=>of_hideAll _ q) (by have:=funFrames_hide FF inF;rw [hst] at this ⊢;exact this) hx fun h2 t hfl htup hnt up=>?_
 have keep:∀ b o,s.heap.get? b=some o->b∉frs X.stack->h2.get? b=some o:=fun b o e n=>hfl.1 b o (hideAll_get _ e n)
 have slot:∀ b o,s.heap.get? b=some o->b∈frs X.stack->(∃ sl,h2.get? b=some { o with slots:=sl })/\∀ vs,o.data ≠ .fields vs:=fun b o e hb=>by
  obtain ⟨_,o',ho',hd⟩:=FF.mem hb
  rw [e] at ho'
  cases ho'
  exact ⟨up b o (hx.keeps b o e) hd,hd⟩
 have u2:Un (frs X.stack) [] H H s.heap h2:=by
  refine ⟨fun b o e n hb _=>keep b o e hb,fun b o e n hb _=>(slot b o e hb).1,fun b o e n _=>n,fun b o e _=>?_,fun _ _ q=>q,fun _ _ _ q=>q,fun _ _ _ q=>q⟩
  by_cases hb:b∈frs X.stack
  ·obtain ⟨⟨sl,e2⟩,_⟩:=slot b o e hb
   exact ⟨_,e2⟩
  ·exact ⟨o,keep b o e hb⟩
 have trk:∀ b v,H b=some v->b∉frs X.stack:=fun b v e z=>by rw [I.stkFree b z] at e;cases e
 have hok2:HOk X.prog X.w H h2:=fun c v e=>(I.hok c v e).stay (fun b z hb q=>keep b z q (by
   rcases hb with rfl | hb
   ·exact trk b v e
   ·exact trk b _ hb)) (fun _ q=>q) (fun _ _ q=>q) fun _ _ _ q=>q
 have J2:Inv X pins σ H { s with heap:=h2 }:=I.call' (s':={ s with heap:=h2 }) rfl u2 hok2 I.bare (fun b hb=>absurd hb (by simp))
 have hb2:=J2.base
 rw [hex] at hb2
 have old:∀ b,s.heap.get? b=none->X.s₀.heap.get? b=none:=fun b hb=>by
  cases z:X.s₀.heap.get? b with
  | none=>rfl
  | some o =>
   obtain ⟨o',e'⟩:=I.base.there b o z (by rw [hex];simp)
   rw [hb] at e'
   cases e'
 have unt:∀ b,s.heap.get? b=none->H b=none:=fun b hb=>by
  cases z:H b with
  | none=>rfl
  | some v =>
   obtain ⟨ob,e'⟩:=(I.hok b v z).ex
   rw [hb] at e'
   cases e'
 obtain ⟨_,_,_,oe,vs',T2,oT,ts,x1,x2,x3,x4,x5,x6,x7,x8,x9⟩:=hfl
 have nT:s.heap.get? T2=none:=by
  cases z:s.heap.get? T2 with
  | none=>rfl
  | some o =>
   exfalso
   by_cases hb:T2∈frs X.stack
   ·obtain ⟨⟨sl,e2⟩,hd⟩:=slot T2 o z hb
    rw [e2] at x7
    cases x7
    exact hd ts x8
   ·rw [hideAll_get _ z hb] at x5
    cases x5
 exact ⟨a,cls,H,rfl,J2.os,J2.bare,hb2,hok2,⟨⟨oe,vs',T2,oT,ts,_,x1,x2,x3,x4,x6,x7,x8,x9,old _ nT,unt _ nT⟩,old _ hx.new,unt _ hx.new⟩,q⟩
end
theorem passF{P:Program}{w:World}{K:PySem.W.Frag}{mg:Str->Option Value}{base:Heap}{N:List Str}{qual:Str}{scope:Scope}{f:Addr}{cd:Value}{A:Around}{outer:List Env}{s:Shared}{H:Hp}{E:XK} :
  Passes (CXF P w) (cxOf (CXF P w) P w K mg base N qual scope f cd A outer s H E) E:=fun pins σ H1 s1 e s' I c=>pass_leave I rfl rfl rfl c
abbrev bmV:List Value:=[.type "ValueError",.type "Exception",.type "BaseException",.type "object"]
def excK(K:PySem.W.Frag)(C:Addr)(bm:List Value):Bool:=PySem.W.excIn K C bmV "ValueError.__new__" && match K.lookup C with
 | some ⟨_,_,.cls cd,_⟩=>cd.mro == .ref C::bm
 | _=>false
theorem exc_obj{K:PySem.W.Frag}{h:Heap}{C:Addr}{bm:List Value}(X:K.In h)(q:excK K C bm=true):∃ (N:Addr) (nm qn:Str) (bs:List Value) (hd:Bool) (sn:List Str) (sub:List Value) (ab:Bool) (col:Option Bool) (dd:Option Addr) (k0 k1 k2 k3 k5:Option Value) (mN:Str->Option Value),
  h.get? C=some (excClassObj nm qn C N bs bm hd sn sub ab col dd k0 k1 k2 k3 k5 "ValueError.__new__")/\h.Ns N mN/\mN "__init__" = none/\OwnTail h bmV bm:=by
 unfold excK at q
 rw [Bool.and_eq_true] at q
 obtain ⟨q,q2⟩:=q
 unfold PySem.W.excIn at q
 split at q
 ·rename_i dd cd sl ho
  rw [ho] at q2
  split at q
  ·rename_i C' bm' k0 k1 k2 k3 n k5 hm hs
   simp only [Bool.and_eq_true,beq_iff_eq,Bool.not_eq_true'] at q
   obtain ⟨⟨⟨⟨⟨rfl,rfl⟩,hdel⟩,ht⟩,hok⟩,hni⟩:=q
   obtain ⟨nm,bs,mro,ns,qn,hd,sn,sub,ab,col,del⟩:=cd
   dsimp only at hm hdel hok hni q2
   subst hm hdel
   have e:=beq_iff_eq.mp q2
   injection e with _ e
   subst e
   have hsl:sl = #[k0,k1,k2,k3,some (.builtin "ValueError.__new__"),k5]:=by
    obtain ⟨l⟩:=sl
    simp only at hs
    rw [hs]
   subst hsl
   exact ⟨ns,nm,qn,bs,hd,sn,sub,ab,col,dd,k0,k1,k2,k3,k5,_,X _ _ ho,.of_isNs (PySem.W.isNs_of_in X hok),PySem.W.nsMap_none_of_in X hok hni,PySem.W.tail_of_in X ht⟩
  ·cases q
 ·cases q
def Raises(X:Cx)(E:XK):Prop:=∀ (pins:List (Addr×Obj)) (σ:St) (H:Hp) (s:Shared) (h':Heap) (a:Addr) (cls:Value) (vs:List Value),Inv X pins σ H s->Heap.MadeExcOf s.heap h' a cls vs->E cls none H->X.xe (.ref a) { s with heap:=h' }
theorem raisesF{P:Program}{w:World}{K:PySem.W.Frag}{mg:Str->Option Value}{base:Heap}{N:List Str}{qual:Str}{scope:Scope}{f:Addr}{cd:Value}{A:Around}{outer:List Env}{s:Shared}{H:Hp}{E:XK} :
  Raises (cxOf (CXF P w) P w K mg base N qual scope f cd A outer s H E) E:=fun pins σ H1 s1 h' a cls vs I hx q=>raise_leave I rfl rfl rfl hx q
def sRaise(C:Addr)(E:XK)(t:TA):TS:=fun D σ H=>t σ H fun vs H1=>vs.length<=100/\E (.ref C) none H1
section
variable {X:Cx} {E:XK} {C:Addr} {bm:List Value} {x:Str} {np cpos pos:Pos} {e₀:Expr} {rest:List Expr} {t:TA}
theorem ps_raise(hc:X.calm=true)(hr:Raises X E)(hg:Gl X x)(hm:X.mg x=some (.ref C))(q:excK X.K C bm=true)(ha:PA X (e₀::rest) t)
  (he:starEach (e₀::rest) X.env=(false,eval e₀ X.env)::starEach rest X.env:=by rfl) (hplain:(backTo cpos (starEach rest X.env)).any (·.1)=false:=by rfl) (hdb:(x == ("__debug__" : Str))=false:=by decide) :
  PS X (.Raise (some (.Call (.Name x np) (e₀::rest) [] cpos)) none pos) (sRaise C E t):=by
 intro pins s σ H D I h
 obtain ⟨N,nm,qn,bs,hd,sn,sub,ab,col,dd,k0,k1,k2,k3,k5,mN,hC,hN,hni,T⟩:=exc_obj I.mod.kin q
 refine wpAny_Raise_call_subT (C:=C) (nm:=nm) (q:=qn) (N:=N) (bs:=bs) (bm:=bm) (hdct:=hd) (sn:=sn) (sub:=sub) (ab:=ab) (col:=col) (dd:=dd) (k0:=k0) (k1:=k1) (k2:=k2) (k3:=k3) (k5:=k5)
  PySem.F.excBase_ValueError (mN:=mN) (T.hasType PySem.F.excBase_ValueError.hasBase) (I.ok.hd hc) (by rw [he];show (false || (backTo cpos (starEach rest X.env)).any (·.1))=false;rw [hplain];rfl) hni (ld_glob I hg hm ⟨rfl,?_⟩ hdb)
 have h1:=ha cpos pins s σ H _ I h
 rw [he] at h1 ⊢
 refine Calls.evalArgs_plain (wpAny_mono h1 (fun us s2 z=>?_) fun _ _ y=>y)
 obtain ⟨vs,H2,I2,r,lv,w⟩:=z
 exact ⟨rfl,by rw [<-r.length];exact Nat.le_trans lv (by decide),I2.bk _ _ hC,hN.keeps I2.bk,T.keeps I2.bk,fun h' a hx=>hr pins σ H2 s2 h' a (.ref C) us I2 hx w⟩
end
end L2
namespace L2
open PySem PySem.Spec PyProof.Rows
open PySem.W (hideAll hideAll_get hideAll_none of_hideAll funFrames_hide)
def EXO(a:Addr)(cls:Value):HO:=.ext fun h=>∃ o,h.get? a=some o/\o.cls=cls
section
variable {X:Cx} {pins p0:List (Addr×Obj)} {σ:St} {H:Hp} {s:Shared}
theorem Inv.track{a:Addr}{o:HO}(I:Inv X pins σ H s)(ha:H a=none)(hok:ObjOk X.prog X.w (upd H a o) s.heap a o)(n0:X.s₀.heap.get? a=none)(nL:a≠X.env.locals)(nC:∀ x c,X.env.cells.lookup x=some c->c≠a)(nP:∀ p∈X.pn++pins,p.1≠a):Inv X pins σ (upd H a o) s:=by
 have k:∀ {b:Addr},b≠a->H b=none->upd H a o b=none:=fun n e=>by rw [z_m n];exact e
 refine ⟨I.ok,I.os,I.bare,⟨I.base.keep,I.base.slot,fun b ob e n hx=>?_,I.base.there,fun b xs e=>?_,fun b ob u e=>?_,fun b p q e=>?_⟩,I.loc,I.cell,k (Ne.symm nL) I.free,fun x c e=>k (nC x c e) (I.freeC x c e),fun p hp=>?_,fun b u e=>?_,I.len⟩
 ·exact k (fun z=>by rw [z,n0] at e;cases e) (I.base.free b ob e n hx)
 ·rw [z_m (z_l (I.base.tups b xs e) ha)];exact I.base.tups b xs e
 ·rw [z_m (z_l (I.base.frzs b ob u e) ha)];exact I.base.frzs b ob u e
 ·rw [z_m (z_l (I.base.tbls b p q e) ha)];exact I.base.tbls b p q e
 ·obtain ⟨x1,x2,x3,x4,x5⟩:=I.pin p hp
  exact ⟨x1,k (nP p hp) x2,x3,x4,x5⟩
 ·by_cases hb:b=a
  ·subst hb
   rw [z_b] at e
   cases e
   exact hok
  ·rw [z_m hb] at e
   exact (I.hok b u e).stay (fun c v _ q=>q) (fun c q=>by rw [z_m (z_l q ha)];exact q) (fun c xs q=>by rw [z_m (z_l q ha)];exact q) fun c ob xs q=>by rw [z_m (z_l q ha)];exact q
theorem Inv.unname{M:Model}{A:Around}{E:Value->Shared->Prop}{i:Nat}{n:Str}{pos:Pos}{Q:Unit->Shared->Prop}(I:Inv X pins σ H s)(hN:X.N.Nodup)(hi:X.N[i]? = some n)(hl:X.env.kindOf n=some .local)
  (h:∀ s',Inv X pins (σ.set i none) H s'->Q () s'):wpAny M A (do bindName X.env n .none;unbindBehindTheSuite X.env n pos) Q E s:=by
 obtain ⟨m,hn,hv⟩:=id I.loc
 refine wpAny_nameGoes_keeps hl hn (by rw [I.ok.kind];rfl) fun h' v hn' hs=>h _ ?_
 obtain ⟨oL,_,_,hoL,_⟩:=id hn
 have neL:∀ b o,X.s₀.heap.get? b=some o->b≠X.env.locals:=fun b o e=>Nat.ne_of_lt (Nat.lt_of_lt_of_le (Heap.lt_size e) I.ok.above)
 refine ⟨I.ok,I.os,I.bare,⟨fun b o e n hb hx=>?_,fun b o e n hb hx=>?_,I.base.free,fun b o e hx=>?_,I.base.tups,I.base.frzs,I.base.tbls⟩,⟨_,hn',fun j y v' e1 e2 e3=>?_⟩,fun y c e=>?_,I.free,I.freeC,fun p hp=>?_,fun b u e=>?_,by simpa using I.len⟩
 ·exact (hs.2 b (neL b o e)).trans (I.base.keep b o e n hb hx)
 ·obtain ⟨sl,e1⟩:=I.base.slot b o e n hb hx
  exact ⟨sl,(hs.2 b (neL b o e)).trans e1⟩
 ·obtain ⟨o',e1⟩:=I.base.there b o e hx
  exact ⟨o',(hs.2 b (neL b o e)).trans e1⟩
 ·by_cases hj:j=i
  ·subst hj
   rw [List.getElem?_set] at e2
   simp only [if_true] at e2
   split at e2<;>cases e2
  ·rw [List.getElem?_set_ne (Ne.symm hj)] at e2
   obtain ⟨u',r',q⟩:=hv j y v' e1 e2 e3
   refine ⟨u',r',?_⟩
   rcases q with ⟨k,e⟩ | ⟨k,c,e,z⟩
   ·refine .inl ⟨k,?_⟩
    have:y≠n:=fun e=>hj (nodup_ix hN e1 (e▸hi))
    simp [this,e]
   ·exact .inr ⟨k,c,e,z.sameBut hs (I.cne y c e)⟩
 ·obtain ⟨w',z⟩:=I.cell y c e
  exact ⟨w',z.sameBut hs (I.cne y c e)⟩
 ·obtain ⟨e,n,ne,nf,d⟩:=I.pin p hp
  exact ⟨(hs.2 p.1 ne).trans e,n,ne,nf,d⟩
 ·refine (I.hok b u e).stay (fun c w' hc q=>(hs.2 c ?_).trans q) (fun _ q=>q) (fun _ _ q=>q) fun _ _ _ q=>q
  rintro rfl
  rcases hc with rfl | hc
  ·rw [I.free] at e;cases e
  ·rw [I.free] at hc;cases hc
abbrev EH:=St->Value->Hp->Prop
def XE(X:Cx)(p0:List (Addr×Obj))(Eh:EH)(e:Value)(s':Shared):Prop:=∃ (σ:St) (H:Hp) (s:Shared),Inv X p0 σ H s/\CXF X.prog X.w X.stack H s (fun cls _ H'=>Eh σ cls H') e s'
abbrev Cx.tryB(X:Cx)(p0:List (Addr×Obj))(Eh:EH):Cx:={ X with pn:=X.pn++p0,xe:=XE X p0 Eh }
theorem Cx.Ok.toB{Eh:EH}(k:X.Ok):(X.tryB p0 Eh).Ok:=⟨k.mod,k.kind,k.glob,k.blt,k.above,k.inj,k.has,k.cab,k.hd,k.frames,k.gd,k.stk,k.exf,k.bs,k.bsz,k.noex,k.exfs,k.funs,k.frf⟩
theorem Cx.Ok.ofB{Eh:EH}(k:(X.tryB p0 Eh).Ok):X.Ok:=⟨k.mod,k.kind,k.glob,k.blt,k.above,k.inj,k.has,k.cab,k.hd,k.frames,k.gd,k.stk,k.exf,k.bs,k.bsz,k.noex,k.exfs,k.funs,k.frf⟩
theorem Inv.toB{Eh:EH}(I:Inv X p0 σ H s):Inv (X.tryB p0 Eh) [] σ H s:=⟨I.ok.toB,I.os,I.bare,I.base,I.loc,I.cell,I.free,I.freeC,fun p hp=>I.pin p (by simpa using hp),I.hok,I.len⟩
theorem Inv.ofB{Eh:EH}(I:Inv (X.tryB p0 Eh) pins σ H s):Inv X p0 σ H s:=⟨I.ok.ofB,I.os,I.bare,I.base,I.loc,I.cell,I.free,I.freeC,fun p hp=>I.pin p (List.mem_append_left _ hp),I.hok,I.len⟩
theorem SP.ofB{Eh:EH}{D:Ends}{f:Flow}{s':Shared}(h:SP (X.tryB p0 Eh) [] D f s'):SP X p0 D f s':=by
 cases f with
 | next=>obtain ⟨σ',H',I,q⟩:=h;exact ⟨σ',H',I.ofB,q⟩
 | brk=>obtain ⟨σ',H',I,q⟩:=h;exact ⟨σ',H',I.ofB,q⟩
 | cont=>obtain ⟨σ',H',I,q⟩:=h;exact ⟨σ',H',I.ofB,q⟩
 | ret u=>obtain ⟨v,σ',H',I,r,q⟩:=h;exact ⟨v,σ',H',I.ofB,r,q⟩
def tCallX(sp:Sp)(dvs:List V)(Eh:EH)(t:TA):TE:=fun σ H Q=>t σ H fun vs H1=>sp (vs++dvs) H1 Q (fun cls _ H'=>Eh σ cls H')
theorem pe_callX{Eh:EH}{k:Nat}{f:Addr}{fd:FuncData}{ps:List Str}{sp:Sp}{dvs:List V}{ds:List Value}{x:Str}{p pos:Pos}{e:Expr}{es:List Expr}{t:TA}(F:FnOk X.prog X.w X.K X.mg X.base (CXF X.prog X.w) k f fd ps sp)(hr:Room k X.A)(hg:Gl (X.tryB p0 Eh) x)(hm:X.mg x=some (.ref f))(hk:PySem.W.keepIn X.K (.ref f)=true)(hb:Binds X.K fd ps ds)(hd:Vals dvs ds)
  (ha:PA (X.tryB p0 Eh) (e::es) t) (hdb:(x == ("__debug__" : Str))=false:=by decide) (he:starEach (e::es) X.env=(false,eval e X.env)::starEach es X.env:=by rfl) (hpl:(backTo pos (starEach es X.env)).any (·.1)=false:=by rfl) :
  PE (X.tryB p0 Eh) (.Call (.Name x p) (e::es) [] pos) (tCallX sp dvs Eh t):=by
 intro pins s σ H Q I h
 refine wpAny_Call_Name_kw (ld_glob (X:=X.tryB p0 Eh) I hg hm ?_ hdb)
 refine PySem.W.callWith_K (h₀:=X.base) I.ok.mod.kin hk (thn (ha pos pins s σ H _ I h) fun us s1 z1=>?_) he hpl
 obtain ⟨vs,H1,I1,r,q⟩:=z1
 refine ⟨I1.kIn,?_⟩
 have r2:Vals (vs++dvs) (us++ds):=r.append hd
 have hl:(us++ds).length=ps.length:=by rw [<-r2.length];exact F.len _ _ _ _ q
 refine wpAny_call (codeAny_mono (F.run X.A X.stack s1 H1 ⟨us,[]⟩ (us++ds) (vs++dvs) Q _ hr I1.env0 (hb s1 us I1.kIn hl) r2 q) fun r s' hq=>?_)
 cases r with
 | error e=>exact ⟨σ,H1,s1,I1.ofB,hq⟩
 | ok fl =>
  cases fl with
  | ret u=>exact I1.after hq
  | next=>exact False.elim hq
  | brk=>exact False.elim hq
  | cont=>exact False.elim hq
abbrev Cx.hand(X:Cx)(a:Addr):Cx:={ X with A:=X.A.mark (some (.ref a)),calm:=false,xe:=fun _ _=>False }
theorem Cx.Ok.toH{a:Addr}(k:X.Ok):(X.hand a).Ok:=⟨k.mod,k.kind,k.glob,k.blt,k.above,k.inj,k.has,k.cab,(fun z=>nomatch z),k.frames,k.gd,k.stk,k.exf,k.bs,k.bsz,k.noex,k.exfs,k.funs,k.frf⟩
theorem Inv.toH{a:Addr}(I:Inv X pins σ H s):Inv (X.hand a) pins σ H s:=⟨I.ok.toH,I.os,I.bare,I.base,I.loc,I.cell,I.free,I.freeC,I.pin,I.hok,I.len⟩
theorem Inv.ofH{a:Addr}(k:X.Ok)(I:Inv (X.hand a) pins σ H s):Inv X pins σ H s:=⟨k,I.os,I.bare,I.base,I.loc,I.cell,I.free,I.freeC,I.pin,I.hok,I.len⟩
theorem exc_matches{M:Model}{A:Around}{E:Value->Shared->Prop}{K:PySem.W.Frag}{C F:Addr}{bm bf:List Value}{a:Addr}{oe:Obj}{Q:Bool->Shared->Prop}(KX:K.In s.heap)(qC:excK K C bm=true)(qF:excK K F bf=true)(he:s.heap.get? a=some oe)(hc:oe.cls = .ref C)
  (hsub:(Value.ref C::bm).contains (.ref F)=true) (hq:Q true s):wpAny M A (excMatches (.ref a) (.ref F)) Q E s:=by
 obtain ⟨N,nm,qn,bs,hd,sn,sub,ab,col,dd,k0,k1,k2,k3,k5,mN,hC,hN,hni,T⟩:=exc_obj KX qC
 obtain ⟨N',nm',qn',bs',hd',sn',sub',ab',col',dd',j0,j1,j2,j3,j5,mN',hF,hN',hni',T'⟩:=exc_obj KX qF
 have hB:(Value.ref F::bf).contains (.type "BaseException")=true:=by
  rw [List.contains_cons,T'.hasType PySem.F.excBase_ValueError.hasBase,Bool.or_true]
 obtain ⟨hp,g,d,tk,os⟩:=s
 have f:=tc_notTuple
 unfold excMatches
 repeat (first | (with_reducible refine wpAny_loadPart_at he ?_;rw [hc]) | with_reducible refine wpAny_loadPart_at hF ?_ | with_reducible refine wpAny_loadPart_at hC ?_ | (with_reducible refine wpAny_isSubtype_exc hF ?_;rw [hB]) | (with_reducible refine wpAny_isSubtype_exc hC ?_;rw [hsub]) | wp_step)
 exact hq
def EhOf(K:PySem.W.Frag)(F:Addr)(i:Nat)(ts:TS)(D:Ends):EH:=fun σ cls H=>∃ (C:Addr) (bm:List Value),cls = .ref C/\excK K C bm=true/\(Value.ref C::bm).contains (.ref F)=true /\
 ∀ a,H a=none->ts { nx:=fun σ' H'=>D.nx (σ'.set i none) H',rt:=D.rt,bk:=fun σ' H'=>D.bk (σ'.set i none) H',ct:=fun σ' H'=>D.ct (σ'.set i none) H' } (σ.set i (some (.ref a))) (upd H a (EXO a cls))
def sTry(K:PySem.W.Frag)(F:Addr)(i:Nat)(tb:EH->TS)(ts:TS):TS:=fun D σ H=>tb (EhOf K F i ts D) D σ H
theorem ps_try{body:List Stmt}{b₀:Stmt}{suite:List Stmt}{n x:Str}{np hpos pos:Pos}{F:Addr}{bf:List Value}{i:Nat}{tb:EH->TS}{ts:TS}(hst:X.stack=X.env::X.outer)(hfr:X.env.frame=some X.env.locals)(hex:X.ex=[])(hb:∀ p0 Eh,PSs (X.tryB p0 Eh) body (tb Eh))(hg:Gl X x)(hm:X.mg x=some (.ref F))(qF:excK X.K F bf=true)
  (hN:X.N.Nodup) (hi:X.N[i]? = some n) (hl:X.env.scope.names.lookup n=some .local) (hs:∀ a,PSs (X.hand a) (b₀::suite) ts) (hdb:(x == ("__debug__" : Str))=false:=by decide) :
  PS X (.Try body [.ExceptHandler (some (.Name x np)) (some n) (b₀::suite) hpos] [] [] pos) (sTry X.K F i tb ts):=by
 intro pins s σ H D I h
 refine wpAny_Try_except (wpAny_mono (hb pins (EhOf X.K F i ts D) [] s σ H D I.toB h) (fun f s1 z=>?_) (fun e s1 z=>?_))
 ·have z:=z.ofB
  cases f with
  | next=>exact wpAny_execs_nil z
  | brk=>exact z
  | cont=>exact z
  | ret u=>exact z
 ·obtain ⟨σ1,H1,s2,I2,a,cls,H',rfl,os,bare,u,hok,Fl,C,bm,rfl,qC,hsub,k⟩:=z
  have J:Inv X pins σ1 H' s1:=I2.call' os u hok bare (fun b hb=>absurd hb (by simp))
  obtain ⟨T,a0,hfl,nT,hT⟩:=fly_base J.stack Fl
  rw [hst] at hfl
  refine wpAny_looks_onW (by rw [J.ok.frames,hst]) hfr hfl fun h4 held up4=>?_
  refine wpAny_landsW held fun h5 hfl5 up5=>?_
  have up45:=up4.trans up5
  rw [<-hst] at hfl5
  obtain ⟨u5,hok5,F5⟩:=move_ok J.stack u hok J.stkFree Fl.un hT Fl.new nT hfl5 up45
  have J5:Inv X pins σ1 H' { s1 with heap:=h5 }:=I2.call' (s':={ s1 with heap:=h5 }) os u5 hok5 bare (fun b hb=>absurd hb (by simp))
  refine wpAny_handleBy_cons (codeAny_handlers_test (ld_glob (X:=X.hand a) J5.toH hg hm ?_ hdb)) (by intro q;cases q)
  obtain ⟨oe,he,hc⟩:=hfl5.there
  refine exc_matches J5.kIn qC qF he hc hsub ?_
  refine codeAny_handlers_suite_as ?_
  refine lands_againW hfl5 fun h6 hfl6 up6=>?_
  obtain ⟨u6,hok6,F6⟩:=move_ok J.stack u hok J.stkFree Fl.un hT Fl.new nT hfl6 (up45.trans up6)
  have J6:Inv X pins σ1 H' { s1 with heap:=h6 }:=I2.call' (s':={ s1 with heap:=h6 }) os u6 hok6 bare (fun b hb=>absurd hb (by simp))
  obtain ⟨oe6,he6,hc6⟩:=hfl6.there
  obtain ⟨_,_,_,oe7,vs7,_,_,_,x1,_,x3,_⟩:=hfl6
  have old:X.s₀.heap.get? a=none:=by
   cases z:X.s₀.heap.get? a with
   | none=>rfl
   | some o =>
    obtain ⟨o',e'⟩:=I2.base.there a o z (by rw [hex];simp)
    rw [Fl.new] at e'
    cases e'
  have J7:Inv X pins σ1 (upd H' a (EXO a (.ref C))) { s1 with heap:=h6 }:=by
   refine J6.track F6.un ⟨⟨oe6,he6,hc6⟩,⟨oe6,he6⟩,fun h1 h2 ⟨o,e1,e2⟩ kk=>⟨o,kk o e1,e2⟩⟩ old ?_ ?_ ?_
   ·rintro rfl
    obtain ⟨m,⟨oL,es,ep,hoL,hd,_⟩,_⟩:=J6.loc
    rw [x1] at hoL
    cases hoL
    rw [x3] at hd
    cases hd
   ·rintro y c hy rfl
    obtain ⟨v,o,ho,hd⟩:=J6.cell y c hy
    rw [x1] at ho
    cases ho
    rw [x3] at hd
    cases hd
   ·rintro p hp rfl
    have:=(I2.pin p hp).1
    rw [Fl.new] at this
    cases this
  refine store_ok (i:=i) (v:=.ref a) J7 hN hi (.inl hl) rfl (fun s8 J8=>?_) (.inr hl)
  refine wpAny_mono (hs a pins s8 _ _ _ J8.toH (k a F6.un)) (fun f s9 z=>?_) fun _ _ z=>z.elim
  have kind:X.env.kindOf n=some .local:=hl
  cases f with
  | next =>
   obtain ⟨σ',H9,I9,w⟩:=z
   exact (I9.ofH J.ok).unname hN hi kind fun s' I'=>⟨_,_,I',w⟩
  | brk =>
   obtain ⟨σ',H9,I9,w⟩:=z
   exact (I9.ofH J.ok).unname hN hi kind fun s' I'=>⟨_,_,I',w⟩
  | cont =>
   obtain ⟨σ',H9,I9,w⟩:=z
   exact (I9.ofH J.ok).unname hN hi kind fun s' I'=>⟨_,_,I',w⟩
  | ret v =>
   obtain ⟨v',σ',H9,I9,r,w⟩:=z
   exact (I9.ofH J.ok).unname hN hi kind fun s' I'=>⟨_,_,_,I',r,w⟩
end
end L2
namespace L2
open PySem PySem.Spec PySem.Calls PyProof.Rows
open PySem.W (KitX kitOne kitAny kia_one kia_tup findIn looks_findIn)
def excQ(K:PySem.W.Frag)(C:Addr):Bool:=findIn K (.ref C) "__getattribute__" == some (some (.builtin "BaseException.__getattribute__"))&&findIn K (.ref C) "__getattr__" == some none&&findIn K (.ref C) "__class__" == some (some (.builtin "object.__class__"))
section
variable {prog:Program} {w:World} {A:Around} {E:Value->Shared->Prop} {h:Heap} {g:Array GenState} {d:PySem.Drawn} {t:Nat} {os:OsState} {a C:Addr} {o:Obj} {K:PySem.W.Frag} {bm:List Value}
theorem find_at{M:Model}{n:Str}{y:Option Value}{Q:Option Value->Shared->Prop}(X:K.In h)(e:findIn K (.ref C) n=some y)(hq:Q y ⟨h,g,d,t,os⟩):wpAny M A (typeLookup (.ref C) n) Q E ⟨h,g,d,t,os⟩:=(looks_findIn X e).at hq
theorem cls_get_x{R:Result->Shared->Prop}(X:K.In h)(q:excK K C bm=true)(hx:h.get? a=some o)(hc:o.cls = .ref C)(hq:R (.ok (.ret (.ref C))) ⟨h,g,d,t,os⟩) :
  codeAny (model prog w) A (.call (.builtin "getset_descriptor.__get__") ⟨[.builtin "object.__class__",.ref a,.ref C],[]⟩) R ⟨h,g,d,t,os⟩:=by
 obtain ⟨N,nm,qn,bs,hd,sn,sub,ab,col,dd,k0,k1,k2,k3,k5,mN,hC,hN,hni,T⟩:=exc_obj X q
 have hT5:(⟨h,g,d,t,os⟩:Shared).TypeIs (.builtin "object.__class__") "getset_descriptor" := F.typeOf_object_class
 have ow:(".".intercalate ("object.__class__".cutAt '.').dropLast) = "object" := by decide +kernel
 have hcB:(Value.ref C::bm).contains (.type (".".intercalate ("object.__class__".cutAt '.').dropLast))=true:=by
  rw [ow,List.contains_cons,T.hasType (show bmV.contains (.type "object")=true by decide +kernel),Bool.or_true]
 refine codeAny_call_builtin F.slot_gs_get.plain F.entry_gs_get (F.slot_gs_get.check _ _ _ _ _ _ _ _ hT5 (F.args_gs_get _ _ _) ?_)
 repeat (any_goals (first | assumption | (with_reducible refine wpAny_loadPart_at hx ?_;rw [hc]) | (with_reducible refine wpAny_isSubtype_exc hC ?_;rw [hcB]) | wp_step))
 refine ⟨Code.quiet_builtin _ (by decide +kernel),codeAny_builtin F.entry_object_class ?_⟩
 repeat (any_goals (first | assumption | (with_reducible refine wpAny_loadPart_at hx ?_;rw [hc]) | wp_step))
theorem check_ga_x{M:Model}{nameV:Value}{Q:Unit->Shared->Prop}(X:K.In h)(q:excK K C bm=true)(hx:h.get? a=some o)(hc:o.cls = .ref C)(hq:Q () ⟨h,g,d,t,os⟩):wpAny M A (checkBuiltinCall "BaseException.__getattribute__" ⟨[.ref a,nameV],[]⟩) Q E ⟨h,g,d,t,os⟩:=by
 obtain ⟨N,nm,qn,bs,hd,sn,sub,ab,col,dd,k0,k1,k2,k3,k5,mN,hC,hN,hni,T⟩:=exc_obj X q
 have hk:builtinKind "BaseException.__getattribute__" = some .slot:=by decide +kernel
 have hsplit:splitId "BaseException.__getattribute__" = some ("BaseException", "__getattribute__"):=by decide +kernel
 have hcB:(Value.ref C::bm).contains (.type "BaseException")=true:=by rw [List.contains_cons,T.hasType PySem.F.excBase_ValueError.hasBase,Bool.or_true]
 have ha:=F.args_bexc_ga (.ref a) nameV
 simp only [checkBuiltinCall,hk,hsplit]
 refine wpAny_bind ?_
 ·unfold isInstance
  repeat (first | (with_reducible refine wpAny_loadPart_at hx ?_;rw [hc]) | (with_reducible refine wpAny_isSubtype_exc hC ?_;rw [hcB]) | wp_step)
  exact hq
theorem cls_entry_x{tk:Tok}{Q:Fin->Shared->Prop}(X:K.In h)(q:excK K C bm=true)(f3:findIn K (.ref C) "__class__" = some (some (.builtin "object.__class__")))(hx:h.get? a=some o)(hc:o.cls = .ref C)(hq:Q (.done (.ret (.ref C))) ⟨h,g,d,t,os⟩) :
  wpAny (model prog w) A (Builtin.«object.__getattribute__» ⟨[.ref a,.str "__class__" tk],[]⟩) Q E ⟨h,g,d,t,os⟩:=by
 have hT5:(⟨h,g,d,t,os⟩:Shared).TypeIs (.builtin "object.__class__") "getset_descriptor" := F.typeOf_object_class
 have f5:=F.typeOf_object_class
 have f6:=F.slot_gs_get.lookup
 have f7:=F.slot_gs_set.lookup
 repeat (any_goals (first | assumption | (with_reducible refine wpAny_loadPart_at hx ?_;rw [hc]) | with_reducible refine find_at X f3 ?_ | wp_step))
 refine cls_get_x X q hx hc ?_
 repeat (any_goals (first | assumption | wp_step))
theorem cls_call_x{tk:Tok}{R:Result->Shared->Prop}(X:K.In h)(q:excK K C bm=true)(f3:findIn K (.ref C) "__class__" = some (some (.builtin "object.__class__")))(hx:h.get? a=some o)(hc:o.cls = .ref C)(hq:R (.ok (.ret (.ref C))) ⟨h,g,d,t,os⟩) :
  codeAny (model prog w) A (.call (.builtin "BaseException.__getattribute__") ⟨[.ref a,.str "__class__" tk],[]⟩) R ⟨h,g,d,t,os⟩ :=
 codeAny_call_builtin PySem.F.attrBase_ValueError.ga.plain F.entry_bexc_ga (check_ga_x X q hx hc (cls_entry_x X q f3 hx hc hq))
theorem cls_by_x{tk:Tok}{fill expr:Bool}{Q:Value->Shared->Prop}(X:K.In h)(q:excK K C bm=true)(q2:excQ K C=true)(hx:h.get? a=some o)(hc:o.cls = .ref C)(hq:Q (.ref C) ⟨h,g,d,t,os⟩) :
  wpAny (model prog w) A (getAttrBy (.ref a) (.str "__class__" tk) fill expr) Q E ⟨h,g,d,t,os⟩:=by
 unfold excQ at q2
 rw [Bool.and_eq_true,Bool.and_eq_true] at q2
 have f1:=beq_iff_eq.mp q2.1.1
 have f2:=beq_iff_eq.mp q2.1.2
 have f4:=beq_iff_eq.mp q2.2
 have f3:=PySem.F.attrBase_ValueError.ga.bind (.ref a)
 have hx0:(expr&&onTheHeap (Value.builtin "BaseException.__getattribute__"))=false:=by cases expr<;>rfl
 have hx2:(Value.builtin "BaseException.__getattribute__" == Value.builtin "object.__getattribute__")=false:=by decide +kernel
 have hx1:(onTheHeap (Value.ref C)&&Value.builtin "BaseException.__getattribute__" == Value.builtin "object.__getattribute__")=false:=by rw [hx2];rfl
 repeat (any_goals (first | assumption | (with_reducible refine wpAny_loadPart_at hx ?_;rw [hc]) | with_reducible refine find_at X f1 ?_ | with_reducible refine find_at X f2 ?_ | wp_step))
 refine cls_call_x X q f4 hx hc ?_
 repeat (any_goals (first | assumption | wp_step))
theorem cls_attr_x{Q:Option Value->Shared->Prop}(X:K.In h)(q:excK K C bm=true)(q2:excQ K C=true)(hx:h.get? a=some o)(hc:o.cls = .ref C)(hq:Q (some (.ref C)) ⟨h,g,d,t+1,os⟩):wpAny (model prog w) A (getAttr? (.ref a) "__class__") Q E ⟨h,g,d,t,os⟩:=by
 unfold getAttr? getAttrBy?
 repeat (any_goals (first | assumption | with_reducible apply cls_by_x X q q2 hx hc | wp_step))
end
theorem kitx_x{K:PySem.W.Frag}{a C:Addr}{bm:List Value}(q:excK K C bm=true)(q2:excQ K C=true):KitX K (.ref a) (.ref C) (fun h=>∃ o,h.get? a=some o/\o.cls = .ref C) where
 ty:=fun M h _ ⟨o,h1,h2⟩=>h2▸(PySem.W.Looks.ld h1).andThen .now
 it:=fun _ h X _=>by
  obtain ⟨N,nm,qn,bs,hd,sn,sub,ab,col,dd,k0,k1,k2,k3,k5,mN,hC,hN,hni,T⟩:=exc_obj X q
  intro A' Q' E' s' k z
  unfold isType loadHead
  exact wpAny_bind (wpAny_loadPart (k _ _ hC) (wpAny_pure z))
 ne:=fun h tp dd its n sl X htp=>by
  obtain ⟨N,nm,qn,bs,hd,sn,sub,ab,col,dd,k0,k1,k2,k3,k5,mN,hC,hN,hni,T⟩:=exc_obj X q
  refine Bool.eq_false_iff.mpr fun z=>?_
  have e:C=tp:=Value.ref.inj (beq_iff_eq.mp z)
  subst e
  rw [hC] at htp
  have z2:=congrArg Obj.cls (Option.some.inj htp)
  have z2:Value.type "type" = Value.type "tuple" := z2
  injection z2 with z2
  exact absurd z2 (by decide)
 ca:=fun {prog w A E Q s} X p k=>by
  obtain ⟨o,h1,h2⟩:=p
  obtain ⟨h,g,d,t,os⟩:=s
  exact cls_attr_x X q q2 h1 h2 k
section
variable {X:Cx}
theorem call_isx{K:PySem.W.Frag}(hK:X.K=K):CallR X (.builtin "isinstance") (fun xs H Q=>∃ (a C:Addr) (bm:List Value) (v:V) (c:Value) (b:Bool),xs=[.ref a,v]/\RelV v c/\(∀ u,RelV v u->u=c)/\H a=some (EXO a (.ref C))/\excK K C bm=true/\excQ K C=true/\kitOne K (.ref C) c=some b/\Q (.bl b) H):=by
 subst hK
 intro pins s σ H xs us Q I r h
 obtain ⟨a,C,bm,v,c,b,rfl,rv,ru,ha,q,q2,e,w⟩:=h
 obtain ⟨u,w',rfl,rx,rt⟩:=vals2 r
 cases (show u=Value.ref a from rx)
 rw [ru w' rt]
 obtain ⟨⟨o,h1,h2⟩,_⟩:=(show ObjOk X.prog X.w H s.heap a (EXO a (.ref C)) from I.hok a _ ha)
 exact kia_one (kitx_x q q2) I.kIn ⟨o,h1,h2⟩ e (fun z=>nomatch z) fun tk=>⟨.bl b,H,I.tok _,rfl,w⟩
def clsV:List V->List Value->Prop:=fun vs cs=>Vals vs cs/\∀ us,Vals vs us->us=cs
theorem clsV.nil:clsV [] []:=⟨.nil,fun us h=>by cases h;rfl⟩
theorem clsV.cons{c:Addr}{vs:List V}{cs:List Value}(h:clsV vs cs):clsV (.ref c::vs) (.ref c::cs):=⟨.cons rfl h.1,fun us z=>by
 cases z with
 | cons z1 z2=>rw [h.2 _ z2,show _=Value.ref c from z1]⟩
theorem call_isxT{K:PySem.W.Frag}(hK:X.K=K):CallR X (.builtin "isinstance") (fun xs H Q=>∃ (a C p:Addr) (bm:List Value) (vs:List V) (cs:List Value) (b:Bool),xs=[.ref a,.ref p]/\H p=some (.tup vs)/\clsV vs cs/\H a=some (EXO a (.ref C))/\excK K C bm=true/\excQ K C=true/\kitAny K (.ref C) cs=some b/\Q (.bl b) H):=by
 subst hK
 intro pins s σ H xs us Q I r h
 obtain ⟨a,C,p,bm,vs,cs,b,rfl,hp,⟨_,hcs⟩,ha,q,q2,e,w⟩:=h
 obtain ⟨u,w',rfl,rx,rt⟩:=vals2 r
 cases (show u=Value.ref a from rx)
 cases (show w'=Value.ref p from rt)
 obtain ⟨⟨o,h1,h2⟩,_⟩:=(show ObjOk X.prog X.w H s.heap a (EXO a (.ref C)) from I.hok a _ ha)
 obtain ⟨_,its,rv,ob,e1,e2,n,e3⟩:=(show ObjOk X.prog X.w H s.heap p (.tup vs) from I.hok p _ hp)
 have ei:=hcs its rv
 subst ei
 obtain ⟨cl,dd,da,sl⟩:=ob
 dsimp only at e2 e3
 subst e2 e3
 exact kia_tup (kitx_x q q2) I.kIn ⟨o,h1,h2⟩ e1 e (fun z=>nomatch z) fun tk=>⟨.bl b,H,I.tok _,rfl,w⟩
end
end L2
namespace L2
open PySem PySem.Spec PyProof.Rows
def putV(xs ys:List V)(lo hi:Option Int):List V:=xs.take (HT.sIx xs.length 0 lo)++ys++xs.drop (max (HT.sIx xs.length 0 lo) (HT.sIx xs.length xs.length hi))
section
variable {prog:Program} {w:World} {A:Around} {E:Value->Shared->Prop} {s:Shared}
theorem setItem_sliceG{l b sl : Addr}{its new : List Value}{n m : Nat}{vl vu : Value}{lo hi : Option Int}{Q : Unit -> Shared -> Prop}(ho : s.heap.get? l = some { cls := .type "list", data := .seq its.toArray n })(hb : s.heap.get? b = some { cls := .type "list", data := .seq new.toArray m })(hne : l ≠ b)
    (hs : s.heap.IsSliceOf sl vl vu .none) (pl : IsPart vl lo) (pu : IsPart vu hi) (hz : its.length + new.length <= sizeLine)
    (h : Q () { s with heap := s.heap.update l (Obj.mapSeq (fun xs => xs.extract 0 (HT.sIx its.length 0 lo) ++ new.toArray ++ xs.extract (max (HT.sIx its.length 0 lo) (HT.sIx its.length its.length hi)) xs.size)) }) : wpAny (model prog w) A (setItem (.ref l) (.ref sl) (.ref b)) Q E s := by
  have hl : s.heap.IsList l its.toArray := PySem.IsL.isList (n := n) ho
  have hB : s.heap.IsList b new.toArray := PySem.IsL.isList (n := m) hb
  obtain ⟨os, hos, hcs, hds⟩ := id hs
  have hTs : s.TypeIs (.ref sl) "slice" := ⟨os, hos, hcs⟩
  unfold setItem
  try with_reducible refine wpAny_holding ?_
  first | refine wpAny_bind (wpAny_pure ?_) | skip
  refine wpAny_bind (wpAny_sequenceKey hl.typeIs (by decide) ?_)
  refine wpAny_bind (wpAny_callSpecial?_slot (name := Str.ofString "__setitem__") hl.typeIs slot_list_setitem
    (wpAny_call_entry slot_list_setitem hl.typeIs entry_list_setitem ?_ (args_list_setitem _ _ _)))
  show wpAny _ _ (Builtin.List.listSubscript? (.ref sl) >>= _) _ _ s
  refine wpAny_bind ?_
  unfold Builtin.List.listSubscript?
  refine wpAny_bind (wpAny_specialOf hTs slice_no_index ?_)
  simp only [Option.isNone_none, if_true]
  refine wpAny_pure ?_
  show wpAny _ _ (typeOf (.ref sl) >>= _) _ _ s
  refine wpAny_bind (wpAny_typeOf hTs ?_)
  rw [if_neg (by decide)]
  rw [listSliceParts_eq]
  refine wpAny_bind (wpAny_bind (wpAny_field hos hds (x := .none) rfl (wpAny_bind (wpAny_listPart .none ?_))))
  rw [if_neg (show ¬ ((rawPart none == rawInt 0) = true) from Bool.false_ne_true)]
  refine wpAny_bind (wpAny_field hos hds (x := vl) rfl (wpAny_bind (wpAny_listPart pl ?_)))
  refine wpAny_bind (wpAny_field hos hds (x := vu) rfl (wpAny_bind (wpAny_listPart pu (wpAny_pure ?_))))
  have hsame : Builtin.List.listSameRef (.ref l) (.ref b) = false := by
    unfold Builtin.List.listSameRef
    exact beq_eq_false_iff_ne.mpr hne
  have hsz : its.toArray.size + new.toArray.size <= sizeLine := by rw [List.size_toArray, List.size_toArray]; exact hz
  have hbs : sliceBounds lo hi none its.toArray.size = (((HT.sIx its.length 0 lo : Nat) : Int), ((HT.sIx its.length its.length hi : Nat) : Int), 1) := by
    obtain ⟨h1, h2, h3⟩ := slice_bounds lo hi its.length
    rw [List.size_toArray, <- h1, <- h2, <- h3]
  generalize HT.sIx its.length 0 lo = a at h hbs
  generalize HT.sIx its.length its.length hi = c at h hbs
  have hmax : (max (a : Int) (c : Int)).toNat = max a c := by lia
  have hz' : ((fun xs : Array Value => xs.extract 0 a ++ new.toArray ++ xs.extract (max a c) xs.size) its.toArray).size <= sizeLine + 1 := by
    simp only [Array.size_append, Array.size_extract]
    lia
  first
    | simp only [hsame, Bool.false_eq_true, if_false]
    | refine PySem.W.KFB.if_not hsame ?_
    | (dsimp only
       rw [if_neg (by rw [hsame]; exact Bool.false_ne_true)])
  refine wpAny_bind (m := Builtin.List.listAllItems (.ref b) "must assign iterable to extended slice") ?_
  unfold Builtin.List.listAllItems
  refine wpAny_bind (wpAny_typeOf hB.typeIs ?_)
  first
    | refine PySem.W.KFB.if_so (by decide) ?_
    | rw [if_pos (by decide)]
    | simp only [beq_self_eq_true, Bool.true_or, if_true]
  unfold Builtin.List.listItems
  refine wpAny_bind (wpAny_seqItems hb rfl (wpAny_pure ?_))
  refine wpAny_bind (wpAny_bind (wpAny_seqItems ho rfl (wpAny_pure ?_)))
  refine wpAny_bind (wpAny_of_eq ((sliceIndices_raw lo hi none its.toArray.size (by simp)).trans (congrArg (pure : Int × Int × Int -> Sem (Int × Int × Int)) hbs)) ?_)
  show wpAny _ _ (if ((1 : Int) == 1) = true then _ else _) _ _ s
  rw [if_pos (by decide)]
  refine wpAny_bind (wpAny_rule ?_)
  first
    | simp only [notLongL hsz, Bool.false_eq_true, if_false]
    | refine PySem.W.KFB.if_not (notLongL hsz) ?_
  first | refine wpAny_bind (wpAny_pure ?_) | skip
  show wpAny _ _ (updateSeq l (fun xs => xs.extract 0 ((a : Int)).toNat ++ new.toArray ++ xs.extract (max (a : Int) (c : Int)).toNat xs.size) >>= _) _ _ s
  rw [hmax, Int.toNat_natCast]
  refine wpAny_bind (wpAny_updateSeq (hz := Nat.le_trans (Nat.le_add_right _ _) hsz) (_hz' := hz') ho rfl ?_)
  refine wpAny_bind (wpAny_letGo ?_)
  first
    | exact wpAny_bind (wpAny_pure (wpAny_pure ⟨.none, rfl, wpAny_pure h⟩))
    | exact wpAny_pure ⟨.none, rfl, wpAny_pure h⟩
end
section
variable {X:Cx} {o:Expr} {lo hi:Option Expr} {to:TE} {tl th:TO} {p2 pos:Pos}
def gSls(to:TE)(tl th:TO):TG:=fun v σ H Q=>to σ H fun x H1=>tl σ H1 fun lo H2=>th σ H2 fun hi H3=>∃ l b xs ys,x = .ref l/\v = .ref b/\l≠b/\H3 l=some (.lst xs)/\H3 b=some (.lst ys)/\xs.length+ys.length<=sizeLine/\Q σ (upd H3 l (.lst (putV xs ys lo hi)))
theorem pg_sls(ho:PE X o to)(hl:PO X lo tl)(hu:PO X hi th)
  (ha:∀ v,assign (.Subscript o (.Slice lo hi none p2) pos) X.env v=(do
   let ov <-holding [v] (eval o X.env)
   let iv <-holding [v,ov] (eval (.Slice lo hi none p2) X.env)
   standAt pos
   holding [v,ov,iv] (setItem ov iv v)
   release [iv,v,ov] []):=by intro _;rfl):PG X (.Subscript o (.Slice lo hi none p2) pos) (gSls to tl th):=by
 intro pins s σ H v u Q I r h
 rw [ha]
 refine wpAny_bind (wpAny_holding (thn (ho pins s σ H _ I h) fun ov s1 ⟨x,H1,I1,r1,q1⟩=>?_))
 refine wpAny_bind (wpAny_holding ?_)
 refine wpAny_Slice (thn (hl pins s1 σ H1 _ I1 q1) fun vl s2 ⟨l0,H2,I2,pl,q2⟩=>thn (hu pins s2 σ H2 _ I2 q2) fun vu s3 ⟨u0,H3,I3,pu,q3⟩=>?_)
 rw [evalPart_none]
 refine wpAny_pure ?_
 have I4:Inv X pins σ H3 { s3 with heap:=s3.heap.push { cls:=.type "slice",data:=.fields #[vl,vu,.none] } }:=I3.kept (t':=s3.toks) fun b ob q=>Heap.get?_push_of_some _ q
 obtain ⟨l,b,xs,ys,rfl,rfl,hne,hH,hB,hz,q⟩:=q3
 cases r1
 cases r
 obtain ⟨its,n,rl,e,_⟩:=I4.lst hH
 obtain ⟨new,m,rb,e2,_⟩:=I4.lst hB
 have l1:=rl.length
 have l2:=rb.length
 refine wpAny_bind (wpAny_standAt (wpAny_bind (wpAny_holding ?_)))
 refine setItem_sliceG e e2 hne (Heap.IsSliceOf.new ..) pl pu (by lia) ?_
 refine wpAny_release ⟨σ,_,?_,q⟩
 unfold putV
 rw [l1]
 refine I4.lset (t':=s3.toks) hH e (splice_eq its new _ _) (Vals.append (Vals.append (rl.take _) rb) (rl.drop _)) ?_
 rw [List.length_append,List.length_append,List.length_take,List.length_drop]
 lia
end
section
variable {P:Program} {w:World} {K:PySem.W.Frag} {mg:Str->Option Value} {base:Heap}
theorem Fun.okF{x qual:Str}{st:Stmt}{f:Addr}{fd:FuncData}{N ps:List Str}{k:Nat}{sp:Sp}(F:Fun K x qual st f fd)(S:FnScope N ps (z_f st))(len:∀ vs H Q E,sp vs H Q E->vs.length=ps.length)
  (hbody:∀ (cdv:Value) (A:Around) (outer:List Env) (s:Shared) (H:Hp) (vs:List V) (Q:VK) (E:XK),Room k (A.deeper (envOfC qual (z_f st) s.heap.objs.size f cdv))->sp vs H Q E ->
   ∃ t,PSs (cxOf (CXF P w) P w K mg base N qual (z_f st) f cdv A outer s H E) (z_i st) t/\t { nx:=fun _ H'=>Q .non H',rt:=Q } (start N vs) H):FnOk P w K mg base (CXF P w) (k+1) f fd ps sp:=by
 obtain ⟨oc,od,kV,doc,pm,an,cdv,ct,osl,rfl,lk,hcd⟩:=F.ex
 exact fn_of lk hcd S len fun A outer s H vs Q E hr hsp=>hbody cdv A outer s H vs Q E hr hsp
theorem boot_ValueError:bootBuiltins "ValueError" = some (.type "ValueError"):=by decide +kernel
end
end L2
namespace L2
open PySem PySem.Spec PyProof.Rows
structure Wn.Ox(W:Wn):Prop where
 ins:W.ins<=8
 nb:W.boxes.length<=8
 ng:W.gates.length<=60
 no:W.outs.length<=6
 box:∀ b∈W.boxes,∃ f e,b=[f,e]/\f<2/\e<2*W.knots
 gate:∀ (i:Nat) (g:List Nat),W.gates[i]? = some g->∃ x y,g=[x,y]/\x<2*(W.first+i)/\y<2*(W.first+i)
 out:∀ e∈W.outs,e<2*W.knots
theorem Wn.Ox.oj{W:Wn}(h:W.Ox)(i:W.ins<=6):W.Oj:=⟨i,h.nb,h.ng,h.no,h.box,h.gate,h.out⟩
theorem sh_wx{W:Wn}(ok:W.Ox):(dWn W).showable=true/\(dWn W).hasDict=false/\(dWn W).depth<=20/\(dWn W).shown.length<=sizeLine:=by
 have hc:=cmp_wn W
 have hi:=ok.ins
 have h8:=ok.nb
 have h60:=ok.ng
 have h6:=ok.no
 have hk:W.knots<=77:=by unfold Wn.knots Wn.first;lia
 obtain ⟨a1,a2⟩:=sh_rs (rows:=W.boxes) (fun r hr=>by
  obtain ⟨f,e,rfl,h1,h2⟩:=ok.box r hr
  exact ⟨fun n hn=>by simp only [List.mem_cons,List.not_mem_nil,or_false] at hn;rcases hn with rfl | rfl<;>lia,by simp⟩) (by lia)
 obtain ⟨b1,b2⟩:=sh_rs (rows:=W.gates) (fun r hr=>by
  obtain ⟨i,hi'⟩:=List.getElem?_of_mem hr
  have hl:=(List.getElem?_eq_some_iff.mp hi').1
  obtain ⟨f,e,rfl,h1,h2⟩:=ok.gate i r hi'
  have hkn:W.first+i<=77:=by unfold Wn.knots at hk;lia
  exact ⟨fun n hn=>by simp only [List.mem_cons,List.not_mem_nil,or_false] at hn;rcases hn with rfl | rfl<;>lia,by simp⟩) (by lia)
 obtain ⟨c1,c2⟩:=sh_lst (ns:=W.outs) (fun n hn=>by have:=ok.out n hn;lia) (by lia)
 have hn:W.ins<10^9:=by lia
 refine ⟨?_,PyData.hasDict_of_canLay _ hc.1,Nat.le_trans hc.2 (by decide),?_⟩
 ·unfold dWn
  simp only [PyData.showable,PyData.showableAll] at a1 b1 c1 ⊢
  rw [show PyData.showable (dRs W.boxes)=true from by simpa using a1,show PyData.showable (dRs W.gates)=true from by simpa using b1,c1,decide_eq_true (lgN hn)]
  rfl
 ·unfold dWn
  rw [PyData.shown]
  have e:PyData.shownAll [PyData.int (W.ins:Int),dRs W.boxes,dRs W.gates,.list (dNs W.outs)]=[nw W.ins,PyData.shown (dRs W.boxes),PyData.shown (dRs W.gates),PyData.shown (.list (dNs W.outs))]:=by
   rw [PyData.shownAll,PyData.shownAll,PyData.shownAll,PyData.shownAll,PyData.shownAll,PyData.shown]
   rfl
  rw [e]
  refine Nat.le_trans (tupleText_len_le _) ?_
  have:=nw_len hn
  simp only [List.map_cons,List.map_nil,List.sum_cons,List.sum_nil,List.length_cons,List.length_nil]
  exact Nat.le_trans (show _<=101000 by lia) (by decide)
abbrev OkP(U W:Wn):Prop:=U.ins=W.ins/\U.outs.length=W.outs.length
abbrev OkS(U W:Wn):Prop:=OkP U W/\U.ins<=6
abbrev Wks(H:Hp)(w w':Addr)(U W:Wn):Prop:=(∃ b g o bs gs,WnA H w b g o bs gs U)/\∃ b g o bs gs,WnA H w' b g o bs gs W
structure Px(H:Hp)(w w':Addr)(U W:Wn):Prop where
 wk:Wks H w w' U W
 ok:U.Ox
 ok':W.Ox
theorem Px.two{H:Hp}{w w':Addr}{U W:Wn}(h:Px H w w' U W)(o:OkS U W):Two H w w' U W:=⟨h.wk.1,h.wk.2,h.ok.oj o.2,h.ok'.oj (o.1.1▸o.2),o.1.1,o.1.2⟩
theorem Px.same{H H':Hp}{w w':Addr}{U W:Wn}(s:Same H H')(h:Px H w w' U W):Px H' w w' U W:=by
 obtain ⟨⟨⟨b,g,o,bs,gs,x⟩,b',g',o',bs',gs',y⟩,k,k'⟩:=h
 exact ⟨⟨⟨b,g,o,bs,gs,x.same s⟩,b',g',o',bs',gs',y.same s⟩,k,k'⟩
theorem Px.sw{H:Hp}{w w':Addr}{U W:Wn}(h:Px H w w' U W):Px H w' w W U:=⟨⟨h.wk.2,h.wk.1⟩,h.ok',h.ok⟩
theorem OkS.sw{U W:Wn}(h:OkS U W):OkS W U:=⟨⟨h.1.1.symm,h.1.2.symm⟩,h.1.1▸h.2⟩
def look_x(C:Addr)(ok:Wn->Wn->Prop):Sp:=fun vs H Q E=>∃ (w w':Addr) (U W:Wn),vs=[.ref w,.ref w']/\Wks H w w' U W/\(ok U W->Q .non H)/\(¬ok U W->E (.ref C) none H)
def meet_x(C:Addr):Sp:=fun vs H Q E=>∃ (w w':Addr) (U W:Wn) (mo:Nat),vs=[.ref w,.ref w',.int (mo:Int)]/\Px H w w' U W/\(OkS U W->∀ p x y H',Same H H'->H' p=some (.tup [x,y])->Q (.ref p) H')/\(¬OkS U W->E (.ref C) none H)
def table_x(C:Addr):Sp:=fun vs H Q E=>∃ (w w':Addr) (U W:Wn) (v:V),vs=[.ref w,.ref w',v]/\Px H w w' U W/\Gd 5 40000 H v/\(OkS U W->∀ b H',Same H H'->Q (.bl b) H')/\(¬OkS U W->E (.ref C) none H)
def asked_x(C:Addr):Sp:=fun vs H Q E=>∃ (w w':Addr) (U W:Wn) (v:V) (mo:Nat),vs=[.ref w,.ref w',v,.int (mo:Int)]/\Px H w w' U W/\Gd 5 40000 H v/\(OkS U W->mo=0->∀ b H',Same H H'->Q (.bl b) H')/\(OkS U W->0<mo->∀ p x y H',Same H H'->H' p=some (.tup [x,y])->Q (.ref p) H')/\(¬OkS U W->E (.ref C) none H)
def said_x:Sp:=fun vs H Q _=>∃ (w w':Addr) (U W:Wn) (v:V) (mo:Nat),vs=[.ref w,.ref w',v,.int (mo:Int)]/\Px H w w' U W/\Gd 5 40000 H v/\(OkS U W->mo=0->∀ b p H',Same H H'->H' p=some (.tup [.str "answer",.bl b])->Q (.ref p) H') /\
 (OkS U W->0<mo->∀ p r x y H',Same H H'->H' p=some (.tup [.str "answer",.ref r])->H' r=some (.tup [x,y])->Q (.ref p) H')/\(¬OkS U W->∀ p H',Same H H'->H' p=some (.tup [.str "refused",.int 0])->Q (.ref p) H')
def good_x:Sp:=fun vs H Q _=>∃ (w w':Addr) (U W:Wn) (v:V) (mo:Nat),vs=[.ref w,.ref w',v,.int (mo:Int)]/\Px H w w' U W/\Gd 5 40000 H v/\OkS U W/\0<mo/\∀ H',Same H H'->Q (.bl true) H'
def work_x:Sp:=fun vs H Q _=>∃ (l:Addr) (a b c d:Nat),vs=[.ref l,.int a,.int b,.int c,.int d]/\Bag H l/\a<=8/\b<=8/\c<=20/\d<=6/\∀ w p g o bs gs W H',Bg l H H'->H p=none->H g=none->H o=none->WnA H' w p g o bs gs W->W.Ox->W.ins=a->W.boxes.length=b->W.gates.length=c->W.outs.length=d->Q (.ref w) H'
theorem Tm.x{k:Nat}:Tm k 10 (.str "x") where
 sh:=by simp [PyData.showable]
 cl:=by rw [PyData.canLay0];decide +kernel
 dp:=by simp [PyData.depth]
 ln:=by rw [PyData.shown];decide +kernel
 hi:=fun c hc hm=>by
  rw [PyData.shown] at hm
  have:∀ x∈(reprText "x").cps.toList,x<=200:=by decide +kernel
  exact absurd (this c hm) (by lia)
 wd:=by unfold Wd;trivial
theorem Gd.x{k:Nat}{H:Hp}:Gd k 10 H (.str "x"):=⟨_,.str _,Tm.x⟩
end L2
set_option maxHeartbeats 4000000
namespace K62
open PySem L2
theorem sc_first_stand:FnScope ["work"] ["work"] (z_f z_z):=⟨rfl,rfl,rfl,by decide +kernel,rfl,by decide +kernel,by decide +kernel⟩
theorem sc_bits_of_ends:FnScope ["work", "stand", "row", "high", "bits", "number", "one", "other"] ["work", "stand", "row", "high"] (z_f z_w):=⟨rfl,rfl,rfl,by decide +kernel,rfl,by decide +kernel,by decide +kernel⟩
theorem sc_beat_by:FnScope ["work", "stand", "row", "high", "bits"] ["work", "stand", "row", "high"] (z_f x_e):=⟨rfl,rfl,rfl,by decide +kernel,rfl,by decide +kernel,by decide +kernel⟩
theorem sc_is_whole:FnScope ["thing"] ["thing"] (z_f y_x):=⟨rfl,rfl,rfl,by decide +kernel,rfl,by decide +kernel,by decide +kernel⟩
theorem sc_is_between:FnScope ["thing", "low", "high"] ["thing", "low", "high"] (z_f y_h):=⟨rfl,rfl,rfl,by decide +kernel,rfl,by decide +kernel,by decide +kernel⟩
theorem sc_bits_of:FnScope ["number", "width", "bits", "place"] ["number", "width"] (z_f x_f):=⟨rfl,rfl,rfl,by decide +kernel,rfl,by decide +kernel,by decide +kernel⟩
theorem sc_all_stands:FnScope ["many", "numbers", "high", "beyond", "place"] ["many"] (z_f y_e):=⟨rfl,rfl,rfl,by decide +kernel,rfl,by decide +kernel,by decide +kernel⟩
theorem sc_look_pair:FnScope ["one", "other"] ["one", "other"] (z_f y_o):=⟨rfl,rfl,rfl,by decide +kernel,rfl,by decide +kernel,by decide +kernel⟩
theorem sc_look_small:FnScope ["one", "other"] ["one", "other"] (z_f y_j):=⟨rfl,rfl,rfl,by decide +kernel,rfl,by decide +kernel,by decide +kernel⟩
theorem sc_is_table:FnScope ["one", "other", "thing", "known", "joint", "told"] ["one", "other", "thing"] (z_f y_w):=⟨rfl,rfl,rfl,by decide +kernel,rfl,by decide +kernel,by decide +kernel⟩
theorem sc_is_joint_stand:FnScope ["one", "other", "thing"] ["one", "other", "thing"] (z_f z_s):=⟨rfl,rfl,rfl,by decide +kernel,rfl,by decide +kernel,by decide +kernel⟩
theorem sc_is_stand:FnScope ["work", "thing"] ["work", "thing"] (z_f y_v):=⟨rfl,rfl,rfl,by decide +kernel,rfl,by decide +kernel,by decide +kernel⟩
theorem sc_first_joint_stand:FnScope ["one", "other"] ["one", "other"] (z_f z_o):=⟨rfl,rfl,rfl,by decide +kernel,rfl,by decide +kernel,by decide +kernel⟩
theorem sc_beats_from:FnScope ["one", "other", "joint", "stands", "high", "left", "right", "parting", "a", "b", "laters", "beats", "later"] ["one", "other", "joint"] (z_f y_f):=⟨rfl,rfl,rfl,by decide +kernel,rfl,by decide +kernel,by decide +kernel⟩
theorem sc_beats_apart:FnScope ["numbers", "high", "groups", "number", "parted"] ["numbers", "high"] (z_f z_y):=⟨rfl,rfl,rfl,by decide +kernel,rfl,by decide +kernel,by decide +kernel⟩
theorem sc_bits_among:FnScope ["numbers", "beats"] ["numbers", "beats"] (z_f y_g):=⟨rfl,rfl,rfl,by decide +kernel,rfl,by decide +kernel,by decide +kernel⟩
theorem sc_least_beat:FnScope ["beats", "least"] ["beats"] (z_f y_i):=⟨rfl,rfl,rfl,by decide +kernel,rfl,by decide +kernel,by decide +kernel⟩
theorem sc_meet:FnScope ["one", "other", "most", "joints", "came", "place", "joint", "told", "numbers", "number", "later"] ["one", "other", "most"] (z_f s_meet):=⟨rfl,rfl,rfl,by decide +kernel,rfl,by decide +kernel,by decide +kernel⟩
theorem sc_way_to:FnScope ["came", "joint", "numbers"] ["came", "joint"] (z_f s_way_to):=⟨rfl,rfl,rfl,by decide +kernel,rfl,by decide +kernel,by decide +kernel⟩
theorem sc_L_cell_at:FnScope ["_law_script", "_law_k"] ["_law_script", "_law_k"] (z_f y_n):=⟨rfl,rfl,rfl,by decide +kernel,rfl,by decide +kernel,by decide +kernel⟩
theorem sc_L_bag:FnScope ["_law_script", "_law_k", "_law_cell"] ["_law_script", "_law_k"] (z_f s_L_bag):=⟨rfl,rfl,rfl,by decide +kernel,rfl,by decide +kernel,by decide +kernel⟩
theorem sc_L_take:FnScope ["_law_bag_here", "_law_many", "_law_found"] ["_law_bag_here", "_law_many"] (z_f s_L_take):=⟨rfl,rfl,rfl,by decide +kernel,rfl,by decide +kernel,by decide +kernel⟩
theorem sc_L_work:FnScope ["_law_bag_here", "_law_ins", "_law_boxes", "_law_gates", "_law_outs", "_law_knots", "_law_some", "_law_k", "_law_one", "_law_kept", "_law_first"] ["_law_bag_here", "_law_ins", "_law_boxes", "_law_gates", "_law_outs"] (z_f s_L_work):=⟨rfl,rfl,rfl,by decide +kernel,rfl,by decide +kernel,by decide +kernel⟩
theorem sc_L_asked:FnScope ["_law_one", "_law_other", "_law_thing", "_law_most"] ["_law_one", "_law_other", "_law_thing", "_law_most"] (z_f x_d):=⟨rfl,rfl,rfl,by decide +kernel,rfl,by decide +kernel,by decide +kernel⟩
theorem sc_L_said:FnScope ["_law_one", "_law_other", "_law_thing", "_law_most", "_law_others", "_law_found", "e"] ["_law_one", "_law_other", "_law_thing", "_law_most"] (z_f s_L_said):=⟨rfl,rfl,rfl,by decide +kernel,rfl,by decide +kernel,by decide +kernel⟩
theorem sc_L_good:FnScope ["_law_one", "_law_other", "_law_thing", "_law_most", "_law_found"] ["_law_one", "_law_other", "_law_thing", "_law_most"] (z_f s_L_good):=⟨rfl,rfl,rfl,by decide +kernel,rfl,by decide +kernel,by decide +kernel⟩
theorem sc_law:FnScope ["_law_script", "_law_bag_here", "_law_sizes", "_law_boxes", "_law_one", "_law_other", "_law_most", "_law_first", "_law_thing", "_law_kept", "_law_small"] ["_law_script"] (z_f s_law):=⟨rfl,rfl,rfl,by decide +kernel,rfl,by decide +kernel,by decide +kernel⟩
set_option genInjectivity false in
set_option genSizeOfSpec false in
structure Ad where
 a_first_stand:Addr
 d_first_stand:FuncData
 a_bits_of_ends:Addr
 d_bits_of_ends:FuncData
 a_beat_by:Addr
 d_beat_by:FuncData
 a_is_whole:Addr
 d_is_whole:FuncData
 a_is_between:Addr
 d_is_between:FuncData
 a_bits_of:Addr
 d_bits_of:FuncData
 a_all_stands:Addr
 d_all_stands:FuncData
 a_look_pair:Addr
 d_look_pair:FuncData
 a_look_small:Addr
 d_look_small:FuncData
 a_is_table:Addr
 d_is_table:FuncData
 a_is_joint_stand:Addr
 d_is_joint_stand:FuncData
 a_is_stand:Addr
 d_is_stand:FuncData
 a_first_joint_stand:Addr
 d_first_joint_stand:FuncData
 a_beats_from:Addr
 d_beats_from:FuncData
 a_beats_apart:Addr
 d_beats_apart:FuncData
 a_bits_among:Addr
 d_bits_among:FuncData
 a_least_beat:Addr
 d_least_beat:FuncData
 a_meet:Addr
 d_meet:FuncData
 a_way_to:Addr
 d_way_to:FuncData
 a_L_cell_at:Addr
 d_L_cell_at:FuncData
 a_L_bag:Addr
 d_L_bag:FuncData
 a_L_take:Addr
 d_L_take:FuncData
 a_L_work:Addr
 d_L_work:FuncData
 a_L_asked:Addr
 d_L_asked:FuncData
 a_L_said:Addr
 d_L_said:FuncData
 a_L_good:Addr
 d_L_good:FuncData
 a_law:Addr
 d_law:FuncData
 c_ForgeError:Addr
 c_NoPlan:Addr
 c_NoName:Addr
 c_Twice:Addr
 c_Never:Addr
 c_NoWidth:Addr
 c_NoPart:Addr
 c_TooMuch:Addr
 c_Ring:Addr
 c_NoPair:Addr
 c_NoPaper:Addr
 c_NoWord:Addr
 c_NoText:Addr
 c_NoRow:Addr
theorem seq_pre{s t:TS}{D:Ends}{σ:St}{H:Hp}(I:St->Hp->Prop)(ht:∀ σ' H',I σ' H'->t D σ' H')(hs:(∀ σ' H',I σ' H'->t D σ' H')->s { D with nx:=t D } σ H):tSeq s t D σ H:=hs ht
def bits_of_j:Sp:=fun vs H Q _=>∃ n k:Nat,vs=[.int n,.int k]/\k<=6/\∀ p H',H p=none->Same H H'->H' p=some (.lst (nV ((List.range k).map (bt n))))->Q (.ref p) H'
theorem wna_bg{H H':Hp}{l w b g o:Addr}{bs gs:List Addr}{W:Wn}(h:WnA H w b g o bs gs W)(hB:Bag H l)(G:Bg l H H')(nb:b≠l)(ng:g≠l)(no:o≠l):WnA H' w b g o bs gs W:=⟨G.1 _ _ (hB.neT h.w) h.w,⟨G.1 _ _ nb h.b.1,z_r (fun r ns e=>G.1 _ _ (hB.neT e) e) h.b.2⟩,⟨G.1 _ _ ng h.g.1,z_r (fun r ns e=>G.1 _ _ (hB.neT e) e) h.g.2⟩,G.1 _ _ no h.o⟩
theorem bag_bg{H H':Hp}{l m:Addr}(h:Bag H l)(G:Bg m H H')(n:l≠m):Bag H' l:=by
 obtain ⟨b0,b1,e,z⟩:=h
 exact ⟨b0,b1,G.1 _ _ n e,z⟩
def sp_law(K:PySem.W.Frag):Sp:=fun vs H Q _=>∃ (a:Addr) (ns:List Int),vs=[.ref a]/\SqL K H a (ns.map V.int)/\ns.length<=63/\∀ H',Q (.bl true) H'
theorem cmp_ref:Cmp 64 (.tuple [.str "refused",.int 0]):=Cmp.tuple fun d hd=>by
 simp only [List.mem_cons,List.not_mem_nil,or_false] at hd
 rcases hd with rfl | rfl
 ·exact ⟨by rw [PyData.canLay0];decide +kernel,by simp [PyData.depth]⟩
 ·exact Cmp.int _
theorem rd_ref{K:PySem.W.Frag}{H:Hp}{p:Addr}(h:H p=some (.tup [.str "refused",.int 0])):RdD K H (.tuple [.str "refused",.int 0]) (.ref p):=RdD.tup (SqT.of h) (RdDs.cons (RdD.str _) (RdDs.cons (RdD.int _) .nil))
theorem rd_two{K:PySem.W.Frag}{H:Hp}{p:Addr}{a b:Int}(h:H p=some (.lst [.int a,.int b])):RdD K H (.list [.int a,.int b]) (.ref p):=RdD.lst (SqL.of h) (RdDs.cons (RdD.int _) (RdDs.cons (RdD.int _) .nil))
theorem cmp_twoI{a b:Int}:Cmp 64 (.list [.int a,.int b]):=Cmp.list fun d hd=>by
 simp only [List.mem_cons,List.not_mem_nil,or_false] at hd
 rcases hd with rfl | rfl
 ·exact Cmp.int _
 ·exact Cmp.int _
theorem eqv_two(a b c d:Int):PyData.eqv (.list [.int a,.int b]) (.list [.int c,.int d])=decide ([a,b]=[c,d]):=by
 have h:=eqvAll_ints [a,b] [c,d]
 rw [PyData.eqv]
 exact h
theorem small_ox:Wn.Ox ⟨0,[],[],[1]⟩:=⟨by decide,by decide,by decide,by decide,(fun b hb=>nomatch hb),(fun i g h=>by simp at h),fun e he=>by
 rw [List.mem_singleton.mp he]
 decide⟩
structure Tx(w:World)(K:PySem.W.Frag)(mg:Str->Option Value)(A:Ad):Prop where
 ValueError:mg "ValueError" = none
 all:mg "all" = none
 bool:mg "bool" = none
 dict:mg "dict" = none
 int:mg "int" = none
 isinstance:mg "isinstance" = none
 len:mg "len" = none
 list:mg "list" = none
 range:mg "range" = none
 repr:mg "repr" = none
 tuple:mg "tuple" = none
 zip:mg "zip" = none
 g_MOST_INS:∃ t,mg "MOST_INS" = some (.int 6 t)
 F_first_stand:Fun K "first_stand" "first_stand" z_z A.a_first_stand A.d_first_stand
 B_first_stand:Binds K A.d_first_stand ["work"] []
 M_first_stand:mg "first_stand" = some (.ref A.a_first_stand)
 F_bits_of_ends:Fun K "bits_of_ends" "bits_of_ends" z_w A.a_bits_of_ends A.d_bits_of_ends
 B_bits_of_ends:Binds K A.d_bits_of_ends ["work", "stand", "row", "high"] []
 M_bits_of_ends:mg "bits_of_ends" = some (.ref A.a_bits_of_ends)
 F_beat_by:Fun K "beat_by" "beat_by" x_e A.a_beat_by A.d_beat_by
 B_beat_by:Binds K A.d_beat_by ["work", "stand", "row", "high"] []
 M_beat_by:mg "beat_by" = some (.ref A.a_beat_by)
 F_is_whole:Fun K "is_whole" "is_whole" y_x A.a_is_whole A.d_is_whole
 B_is_whole:Binds K A.d_is_whole ["thing"] []
 M_is_whole:mg "is_whole" = some (.ref A.a_is_whole)
 F_is_between:Fun K "is_between" "is_between" y_h A.a_is_between A.d_is_between
 B_is_between:Binds K A.d_is_between ["thing", "low", "high"] []
 M_is_between:mg "is_between" = some (.ref A.a_is_between)
 F_bits_of:Fun K "bits_of" "bits_of" x_f A.a_bits_of A.d_bits_of
 B_bits_of:Binds K A.d_bits_of ["number", "width"] []
 M_bits_of:mg "bits_of" = some (.ref A.a_bits_of)
 F_all_stands:Fun K "all_stands" "all_stands" y_e A.a_all_stands A.d_all_stands
 B_all_stands:Binds K A.d_all_stands ["many"] []
 M_all_stands:mg "all_stands" = some (.ref A.a_all_stands)
 F_look_pair:Fun K "look_pair" "look_pair" y_o A.a_look_pair A.d_look_pair
 B_look_pair:Binds K A.d_look_pair ["one", "other"] []
 M_look_pair:mg "look_pair" = some (.ref A.a_look_pair)
 F_look_small:Fun K "look_small" "look_small" y_j A.a_look_small A.d_look_small
 B_look_small:Binds K A.d_look_small ["one", "other"] []
 M_look_small:mg "look_small" = some (.ref A.a_look_small)
 F_is_table:Fun K "is_table" "is_table" y_w A.a_is_table A.d_is_table
 B_is_table:Binds K A.d_is_table ["one", "other", "thing"] []
 M_is_table:mg "is_table" = some (.ref A.a_is_table)
 F_is_joint_stand:Fun K "is_joint_stand" "is_joint_stand" z_s A.a_is_joint_stand A.d_is_joint_stand
 B_is_joint_stand:Binds K A.d_is_joint_stand ["one", "other", "thing"] []
 M_is_joint_stand:mg "is_joint_stand" = some (.ref A.a_is_joint_stand)
 F_is_stand:Fun K "is_stand" "is_stand" y_v A.a_is_stand A.d_is_stand
 B_is_stand:Binds K A.d_is_stand ["work", "thing"] []
 M_is_stand:mg "is_stand" = some (.ref A.a_is_stand)
 F_first_joint_stand:Fun K "first_joint_stand" "first_joint_stand" z_o A.a_first_joint_stand A.d_first_joint_stand
 B_first_joint_stand:Binds K A.d_first_joint_stand ["one", "other"] []
 M_first_joint_stand:mg "first_joint_stand" = some (.ref A.a_first_joint_stand)
 F_beats_from:Fun K "beats_from" "beats_from" y_f A.a_beats_from A.d_beats_from
 B_beats_from:Binds K A.d_beats_from ["one", "other", "joint"] []
 M_beats_from:mg "beats_from" = some (.ref A.a_beats_from)
 F_beats_apart:Fun K "beats_apart" "beats_apart" z_y A.a_beats_apart A.d_beats_apart
 B_beats_apart:Binds K A.d_beats_apart ["numbers", "high"] []
 M_beats_apart:mg "beats_apart" = some (.ref A.a_beats_apart)
 F_bits_among:Fun K "bits_among" "bits_among" y_g A.a_bits_among A.d_bits_among
 B_bits_among:Binds K A.d_bits_among ["numbers", "beats"] []
 M_bits_among:mg "bits_among" = some (.ref A.a_bits_among)
 F_least_beat:Fun K "least_beat" "least_beat" y_i A.a_least_beat A.d_least_beat
 B_least_beat:Binds K A.d_least_beat ["beats"] []
 M_least_beat:mg "least_beat" = some (.ref A.a_least_beat)
 F_meet:Fun K "meet" "meet" s_meet A.a_meet A.d_meet
 B_meet:Binds K A.d_meet ["one", "other", "most"] []
 M_meet:mg "meet" = some (.ref A.a_meet)
 F_way_to:Fun K "way_to" "way_to" s_way_to A.a_way_to A.d_way_to
 B_way_to:Binds K A.d_way_to ["came", "joint"] []
 M_way_to:mg "way_to" = some (.ref A.a_way_to)
 F_L_cell_at:Fun K "_law_cell_at" "_law_cell_at" y_n A.a_L_cell_at A.d_L_cell_at
 B_L_cell_at:Binds K A.d_L_cell_at ["_law_script", "_law_k"] []
 M_L_cell_at:mg "_law_cell_at" = some (.ref A.a_L_cell_at)
 F_L_bag:Fun K "_law_bag" "_law_bag" s_L_bag A.a_L_bag A.d_L_bag
 B_L_bag:Binds K A.d_L_bag ["_law_script", "_law_k"] []
 M_L_bag:mg "_law_bag" = some (.ref A.a_L_bag)
 F_L_take:Fun K "_law_take" "_law_take" s_L_take A.a_L_take A.d_L_take
 B_L_take:Binds K A.d_L_take ["_law_bag_here", "_law_many"] []
 M_L_take:mg "_law_take" = some (.ref A.a_L_take)
 F_L_work:Fun K "_law_work" "_law_work" s_L_work A.a_L_work A.d_L_work
 B_L_work:Binds K A.d_L_work ["_law_bag_here", "_law_ins", "_law_boxes", "_law_gates", "_law_outs"] []
 M_L_work:mg "_law_work" = some (.ref A.a_L_work)
 F_L_asked:Fun K "_law_asked" "_law_asked" x_d A.a_L_asked A.d_L_asked
 B_L_asked:Binds K A.d_L_asked ["_law_one", "_law_other", "_law_thing", "_law_most"] []
 M_L_asked:mg "_law_asked" = some (.ref A.a_L_asked)
 F_L_said:Fun K "_law_said" "_law_said" s_L_said A.a_L_said A.d_L_said
 B_L_said:Binds K A.d_L_said ["_law_one", "_law_other", "_law_thing", "_law_most"] []
 M_L_said:mg "_law_said" = some (.ref A.a_L_said)
 F_L_good:Fun K "_law_good" "_law_good" s_L_good A.a_L_good A.d_L_good
 B_L_good:Binds K A.d_L_good ["_law_one", "_law_other", "_law_thing", "_law_most"] []
 M_L_good:mg "_law_good" = some (.ref A.a_L_good)
 F_law:Fun K "law" "law" s_law A.a_law A.d_law
 B_law:Binds K A.d_law ["_law_script"] []
 M_law:mg "law" = some (.ref A.a_law)
 M_ForgeError:mg "ForgeError" = some (.ref A.c_ForgeError)
 M_NoPlan:mg "NoPlan" = some (.ref A.c_NoPlan)
 M_NoName:mg "NoName" = some (.ref A.c_NoName)
 M_Twice:mg "Twice" = some (.ref A.c_Twice)
 M_Never:mg "Never" = some (.ref A.c_Never)
 M_NoWidth:mg "NoWidth" = some (.ref A.c_NoWidth)
 M_NoPart:mg "NoPart" = some (.ref A.c_NoPart)
 M_TooMuch:mg "TooMuch" = some (.ref A.c_TooMuch)
 M_Ring:mg "Ring" = some (.ref A.c_Ring)
 M_NoPair:mg "NoPair" = some (.ref A.c_NoPair)
 M_NoPaper:mg "NoPaper" = some (.ref A.c_NoPaper)
 M_NoWord:mg "NoWord" = some (.ref A.c_NoWord)
 M_NoText:mg "NoText" = some (.ref A.c_NoText)
 M_NoRow:mg "NoRow" = some (.ref A.c_NoRow)
 x_ForgeError:excK K A.c_ForgeError bmV=true
 x_NoPair:excK K A.c_NoPair (.ref A.c_ForgeError::bmV)=true
 q_NoPair:excQ K A.c_NoPair=true
 i_own:PySem.W.kitOne K (.ref A.c_NoPair) (.ref A.c_NoPair)=some true
 i_val:PySem.W.kitOne K (.ref A.c_NoPair) (.type "ValueError")=some true
 i_no1:PySem.W.kitAny K (.ref A.c_NoPair) [.ref A.c_Never,.ref A.c_NoName,.ref A.c_NoPaper,.ref A.c_NoPart,.ref A.c_NoPlan,.ref A.c_NoRow,.ref A.c_NoText,.ref A.c_NoWidth]=some false
 i_no2:PySem.W.kitAny K (.ref A.c_NoPair) [.ref A.c_NoWord,.ref A.c_Ring,.ref A.c_TooMuch,.ref A.c_Twice]=some false
section
variable {P:Program} {w:World} {K:PySem.W.Frag} {mg:Str->Option Value} {base:Heap} {A:Ad}
seal L2.PE L2.PA L2.PT L2.PS L2.PSs
theorem ok_first_stand(T:Tx w K mg A):FnOk P w K mg base CX0 1 A.a_first_stand A.d_first_stand ["work"] fst_j:=by
 refine T.F_first_stand.ok sc_first_stand (fun vs H Q E h=>?_) (fun cdv A' outer s H vs Q E hr h=>?_)
 ·obtain ⟨w,b,g,o,bs,gs,W,rfl,hW,ok,q⟩:=h
  rfl
 obtain ⟨w,b,g,o,bs,gs,W,rfl,hW,ok,q⟩:=h
 refine ⟨_,(z_h (z_t (pe_compG ["first", "end"] [] (fun _ _ h=>h) rfl (z_x (z_u z_p (pv 0) z_g (fun _ _=>rfl))) (fun _ _ _ _=>(pg_tup0 rfl (x_g (y_c (i:=0) (show (["first", "end"]:List Str).Nodup by decide +kernel) rfl (Or.inl rfl)) (x_g (y_c (i:=1) (show (["first", "end"]:List Str).Nodup by decide +kernel) rfl (Or.inl rfl)) pgs_nil)))) shp_tup2 (fun _ _ _ _=>x_a) (fun _ _ _ _=>(pv 0)) rfl (show ∀ j∈([]:List Nat),j<1 by decide)))),?_⟩
 refine ⟨_,rfl,w,_,_,_,rfl,rfl,SqT.of hW.w,rfl,b,rfl,⟨_,SqL.of hW.b.1⟩,comp_listG (xs:=bs.map V.ref) (fun i ys H'=>H=H'/\ys=nV ((W.boxes.take i).map fun x=>x.getD 0 0)) ⟨rfl,rfl⟩ ?_ ?_ ?_ ?_⟩
 ·rintro i ys H' _ ⟨rfl,_⟩
  exact SqL.of hW.b.1
 ·rintro i ys H' hi ⟨rfl,rfl⟩
  rw [z_v,List.length_map,List.length_take]
  have:=ok.nb
  exact y_u (by lia)
 ·rintro i x ys H' os hos hx ⟨rfl,rfl⟩
  obtain ⟨r,hr1,rfl⟩:∃ r,bs[i]? = some r/\V.ref r=x:=by
   rw [List.getElem?_map] at hx
   exact Option.map_eq_some_iff.mp hx
  obtain ⟨ns,h1,h2⟩:=pairedGet hW.b.2 hr1
  obtain ⟨f,e,rfl,_,_⟩:=ok.box ns (List.mem_of_getElem? h1)
  obtain ⟨o1,o2,rfl⟩:=two_of hos
  ·refine ⟨r,_,rfl,SqT.of h2,rfl,_,_,rfl,_,_,rfl,rfl,?_⟩
   unfold tYes
   refine iteT ⟨_,rfl,rfl,?_⟩
   rw [List.take_add_one,h1,List.map_append]
   unfold nV
   rw [List.map_append]
   rfl
 ·rintro ys H' ⟨rfl,rfl⟩ l hl
  rw [List.length_map,hW.b.len,List.take_length]
  exact q l _ hl (z_d hl _) z_b
theorem ok_bits_of_ends(T:Tx w K mg A):FnOk P w K mg base CX0 1 A.a_bits_of_ends A.d_bits_of_ends ["work", "stand", "row", "high"] ends_j:=by
 refine T.F_bits_of_ends.ok sc_bits_of_ends (fun vs H Q E h=>?_) (fun cdv A' outer s H vs Q E hr h=>?_)
 ·obtain ⟨w,b,g,o,s,r,bs,gs,W,m,row,st,rfl,hW,ok,hs,hR,hrl,hsl,low,q⟩:=h
  rfl
 obtain ⟨w,b,g,o,s,r,bs,gs,W,m,row,st,rfl,hW,ok,hs,hR,hrl,hsl,low,q⟩:=h
 refine ⟨_,(z_e (z_n (i:=4) sc_bits_of_ends.nd rfl (Or.inl rfl) (x_c (z_a z_g (z_a (pv 3) z_c))))
  (z_e (ps_for PassesOwn.never rfl (z_x (pv 2)) (y_c (i:=5) sc_bits_of_ends.nd rfl (Or.inl rfl))
    (z_e (y_z (pe_bmN PySem.F.plainAttrs_list PySem.F.slot_list_append PySem.F.type_list_append y_q (pv 4) (z_a (pv 5) z_c)))
  (z_h (y_z (pe_bmN PySem.F.plainAttrs_list PySem.F.slot_list_append PySem.F.type_list_append y_q (pv 4) (z_a (y_a op_xor (pv 3) (pv 5)) z_c))))))
  (z_e (ps_for PassesOwn.never rfl (z_x (pv 1)) (y_c (i:=5) sc_bits_of_ends.nd rfl (Or.inl rfl))
    (z_e (y_z (pe_bmN PySem.F.plainAttrs_list PySem.F.slot_list_append PySem.F.type_list_append y_q (pv 4) (z_a (pv 5) z_c)))
  (z_h (y_z (pe_bmN PySem.F.plainAttrs_list PySem.F.slot_list_append PySem.F.type_list_append y_q (pv 4) (z_a (y_a op_xor (pv 3) (pv 5)) z_c))))))
  (z_e (ps_for PassesOwn.never rfl (z_x (z_u z_p (pv 0) z_g (fun _ _=>rfl))) (pg_tup0 rfl (x_g (y_c (i:=6) sc_bits_of_ends.nd rfl (Or.inl rfl)) (x_g (y_c (i:=7) sc_bits_of_ends.nd rfl (Or.inl rfl)) pgs_nil)))
    (z_e (z_n (i:=5) sc_bits_of_ends.nd rfl (Or.inl rfl) (y_a op_and (z_u y_b (pv 4) (pv 6) (fun _ _=>rfl)) (z_u y_b (pv 4) (pv 7) (fun _ _=>rfl))))
  (z_e (y_z (pe_bmN PySem.F.plainAttrs_list PySem.F.slot_list_append PySem.F.type_list_append y_q (pv 4) (z_a (pv 5) z_c)))
  (z_h (y_z (pe_bmN PySem.F.plainAttrs_list PySem.F.slot_list_append PySem.F.type_list_append y_q (pv 4) (z_a (y_a op_xor (pv 3) (pv 5)) z_c)))))))
  (z_h (z_t (pv 4))))))),?_⟩
 have h6:=ok.ins
 have h8:=ok.nb
 have h60:=ok.ng
 have lowR:∀ x∈row,x<2^m:=fun x hx=>low x (List.mem_append_left _ hx)
 have lowS:∀ x∈st,x<2^m:=fun x hx=>low x (List.mem_append_right _ hx)
 refine ⟨_,rfl,(by show 2<=sizeLine;decide),fun p hp=>?_⟩
 refine ⟨_,rfl,r,rfl,⟨_,SqL.of ((z_d hp _) _ _ hR)⟩,for_list (xs:=nV row) (fun i σ H'=>∃ x y z,σ=[some (.ref w),some (.ref s),some (.ref r),some (.int ((2^m-1:Nat):Int)),some (.ref p),x,y,z]/\Same H H'/\H' p=some (.lst (nV (endsN m (0::row.take i))))) ⟨_,_,_,rfl,z_d hp _,z_b⟩ ?_ ?_ ?_⟩
 ·rintro i σ H' _ ⟨x,y,z,_,s1,_⟩
  exact SqL.of (s1 _ _ hR)
 ·rintro i v σ H' hv ⟨x,y,z,rfl,s1,f1⟩
  obtain ⟨n,hn,rfl⟩:∃ n,row[i]? = some n/\V.int (n:Int)=v:=by
   unfold nV at hv
   rw [List.getElem?_map] at hv
   exact Option.map_eq_some_iff.mp hv
  have hi:=(List.getElem?_eq_some_iff.mp hn).1
  refine ⟨_,rfl,.inl ⟨rfl,_,SqL.of f1⟩,_,rfl,p,_,_,rfl,rfl,f1,y_u (by rw [z_v,endsN_len,List.length_cons,List.length_take];lia),?_⟩
  refine ⟨_,rfl,.inl ⟨rfl,_,SqL.of z_b⟩,_,rfl,_,rfl,_,_,rfl,rfl,p,_,_,rfl,rfl,z_b,y_u (by rw [List.length_append,z_v,endsN_len,List.length_cons,List.length_take];simp;lia),?_⟩
  refine ⟨_,_,_,rfl,y_y (y_y s1 hp _) hp _,?_⟩
  dsimp only
  rw [z_b,xor_nat,xor_ones (lowR n (List.mem_of_getElem? hn))]
  refine congrArg (fun z=>some (HO.lst z)) ?_
  rw [List.append_assoc,show (0::row.take (i+1))=(0::row.take i)++[n] by rw [List.take_add_one,hn];rfl,endsN_snoc]
  unfold nV
  rw [List.map_append]
  rfl
 ·rintro σ H1 ⟨x,y,z,rfl,s1,f1⟩
  rw [z_v,List.take_length] at f1
  refine ⟨_,rfl,s,rfl,⟨_,SqL.of (s1 _ _ hs)⟩,for_list (xs:=nV st) (fun i σ H'=>∃ x y z,σ=[some (.ref w),some (.ref s),some (.ref r),some (.int ((2^m-1:Nat):Int)),some (.ref p),x,y,z]/\Same H H'/\H' p=some (.lst (nV (endsN m (0::row++st.take i))))) ⟨_,_,_,rfl,s1,by rw [List.take_zero,List.append_nil];exact f1⟩ ?_ ?_ ?_⟩
  ·rintro i σ H' _ ⟨x,y,z,_,s1,_⟩
   exact SqL.of (s1 _ _ hs)
  ·rintro i v σ H' hv ⟨x,y,z,rfl,s2,f2⟩
   obtain ⟨n,hn,rfl⟩:∃ n,st[i]? = some n/\V.int (n:Int)=v:=by
    unfold nV at hv
    rw [List.getElem?_map] at hv
    exact Option.map_eq_some_iff.mp hv
   have hi:=(List.getElem?_eq_some_iff.mp hn).1
   refine ⟨_,rfl,.inl ⟨rfl,_,SqL.of f2⟩,_,rfl,p,_,_,rfl,rfl,f2,y_u (by rw [z_v,endsN_len,List.length_append,List.length_cons,List.length_take];lia),?_⟩
   refine ⟨_,rfl,.inl ⟨rfl,_,SqL.of z_b⟩,_,rfl,_,rfl,_,_,rfl,rfl,p,_,_,rfl,rfl,z_b,y_u (by rw [List.length_append,z_v,endsN_len,List.length_append,List.length_cons,List.length_take];simp;lia),?_⟩
   refine ⟨_,_,_,rfl,y_y (y_y s2 hp _) hp _,?_⟩
   dsimp only
   rw [z_b,xor_nat,xor_ones (lowS n (List.mem_of_getElem? hn))]
   refine congrArg (fun z=>some (HO.lst z)) ?_
   rw [List.append_assoc,show (0::row++st.take (i+1))=(0::row++st.take i)++[n] by rw [List.take_add_one,hn,List.append_assoc];rfl,endsN_snoc]
   unfold nV
   rw [List.map_append]
   rfl
  ·rintro σ H2 ⟨x,y,z,rfl,s2,f2⟩
   rw [z_v,List.take_length] at f2
   have hW2:=hW.same s2
   refine ⟨_,rfl,w,_,_,_,rfl,rfl,SqT.of hW2.w,rfl,g,rfl,⟨_,SqL.of hW2.g.1⟩,for_list (xs:=gs.map V.ref) (fun i σ H'=>∃ x y z,σ=[some (.ref w),some (.ref s),some (.ref r),some (.int ((2^m-1:Nat):Int)),some (.ref p),x,y,z]/\Same H H'/\H' p=some (.lst (nV (endsN m (Wv m (row++st) ((W.gates.map gp).take i)))))) ⟨_,_,_,rfl,s2,f2⟩ ?_ ?_ ?_⟩
   ·rintro i σ H' _ ⟨x,y,z,_,s1,_⟩
    exact SqL.of (hW.same s1).g.1
   ·rintro i v σ H' hv ⟨x,y,z,rfl,s3,f3⟩
    obtain ⟨r',hr1,rfl⟩:∃ r,gs[i]? = some r/\V.ref r=v:=by
     rw [List.getElem?_map] at hv
     exact Option.map_eq_some_iff.mp hv
    obtain ⟨ns,h1,h2⟩:=pairedGet (hW.same s3).g.2 hr1
    obtain ⟨u,v,rfl,hu,hv'⟩:=ok.gate i ns h1
    have hi:=(List.getElem?_eq_some_iff.mp h1).1
    have hWl:(Wv m (row++st) ((W.gates.map gp).take i)).length=W.first+i:=by
     rw [Wv_len,List.length_append,List.length_take,List.length_map]
     unfold Wn.first
     lia
    have hl:W.first+i<=80:=by unfold Wn.first;lia
    have lowW:=Wv_low low ((W.gates.map gp).take i)
    have hat:∀ e:Nat,e<2*(W.first+i)->atI (nV (endsN m (Wv m (row++st) ((W.gates.map gp).take i)))) (e:Int)=some (.int ((sdN m (Wv m (row++st) ((W.gates.map gp).take i)) e:Nat):Int)):=fun e he=>atI_nat (by
     unfold nV
     rw [List.getElem?_map,endsN_get m _ e (by rw [hWl];lia)]
     rfl)
    refine ⟨r',_,rfl,SqT.of h2,rfl,_,_,rfl,_,_,rfl,rfl,?_⟩
    refine ⟨_,rfl,_,rfl,p,_,_,_,rfl,rfl,SqL.of f3,hat u hu,_,rfl,_,rfl,p,_,_,_,rfl,rfl,SqL.of f3,hat v hv',_,_,rfl,rfl,?_⟩
    dsimp only
    rw [and_natJ]
    refine ⟨_,rfl,.inl ⟨rfl,_,SqL.of f3⟩,_,rfl,p,_,_,rfl,rfl,f3,y_u (by rw [z_v,endsN_len,hWl];lia),?_⟩
    refine ⟨_,rfl,.inl ⟨rfl,_,SqL.of z_b⟩,_,rfl,_,rfl,_,_,rfl,rfl,p,_,_,rfl,rfl,z_b,y_u (by rw [List.length_append,z_v,endsN_len,hWl];simp;lia),?_⟩
    refine ⟨_,_,_,rfl,y_y (y_y s3 hp _) hp _,?_⟩
    have hx:sdN m (Wv m (row++st) ((W.gates.map gp).take i)) u&&&sdN m (Wv m (row++st) ((W.gates.map gp).take i)) v<2^m:=Nat.lt_of_le_of_lt Nat.and_le_left (sdN_low lowW u)
    dsimp only
    rw [z_b,xor_nat,xor_ones hx]
    refine congrArg (fun z=>some (HO.lst z)) ?_
    rw [List.append_assoc,show Wv m (row++st) ((W.gates.map gp).take (i+1))=Wv m (row++st) ((W.gates.map gp).take i)++[sdN m (Wv m (row++st) ((W.gates.map gp).take i)) u&&&sdN m (Wv m (row++st) ((W.gates.map gp).take i)) v] by rw [take_get (show (W.gates.map gp)[i]? = some (u,v) by rw [List.getElem?_map,h1];rfl),Wv_snoc],endsN_snoc]
    unfold nV
    rw [List.map_append]
    rfl
   ·rintro σ H3 ⟨x,y,z,rfl,s3,f3⟩
    rw [List.length_map,hW2.g.len,List.take_of_length_le (by rw [List.length_map];exact Nat.le_refl _)] at f3
    exact ⟨_,rfl,q p H3 hp s3 f3⟩
theorem ok_beat_by(T:Tx w K mg A)(G_bits_of_ends:FnOk P w K mg base CX0 1 A.a_bits_of_ends A.d_bits_of_ends ["work", "stand", "row", "high"] ends_j):FnOk P w K mg base CX0 2 A.a_beat_by A.d_beat_by ["work", "stand", "row", "high"] beat_j:=by
 refine T.F_beat_by.ok sc_beat_by (fun vs H Q E h=>?_) (fun cdv A' outer s H vs Q E hr h=>?_)
 ·obtain ⟨w,b,g,o,s,r,bs,gs,W,m,row,st,rfl,hW,ok,hs,hR,hrl,hsl,low,q⟩:=h
  rfl
 obtain ⟨w,b,g,o,s,r,bs,gs,W,m,row,st,rfl,hW,ok,hs,hR,hrl,hsl,low,q⟩:=h
 refine ⟨_,(z_e (z_n (i:=4) sc_beat_by.nd rfl (Or.inr rfl) (z_k G_bits_of_ends (hr.mono (by first | decide | lia)) rfl T.M_bits_of_ends T.F_bits_of_ends.kp T.B_bits_of_ends .nil pass0 (z_a (pv 0) (z_a (pv 1) (z_a (pv 2) (z_a (pv 3) z_c))))))
  (z_h (z_t (y_m (z_a (pe_comp [4] (fun _ _ h=>h) rfl (z_x (z_u z_p (pv 0) z_g (fun _ _=>rfl))) (fun _ _ _ _=>x_a) (fun _ _ _ _=>(z_u y_b (pv 1) (pv 0) (fun _ _=>rfl))) rfl (show ∀ j∈([4]:List Nat),j<5 by decide) (show (["end", "bits"]:List Str).Nodup by decide +kernel)) (z_a (pe_compG ["first", "end"] [4] (fun _ _ h=>h) rfl (z_x (z_u z_p (pv 0) z_g (fun _ _=>rfl))) (fun _ _ _ _=>(pg_tup0 rfl (x_g (y_c (i:=0) (show (["first", "end", "bits"]:List Str).Nodup by decide +kernel) rfl (Or.inl rfl)) (x_g (y_c (i:=1) (show (["first", "end", "bits"]:List Str).Nodup by decide +kernel) rfl (Or.inl rfl)) pgs_nil)))) shp_tup2 (fun _ _ _ _=>x_a) (fun _ _ _ _=>(z_u y_b (pv 2) (pv 1) (fun _ _=>rfl))) rfl (show ∀ j∈([4]:List Nat),j<5 by decide)) z_c)))))),?_⟩
 refine ⟨_,rfl,_,rfl,_,rfl,_,rfl,w,b,g,o,s,r,bs,gs,W,m,row,st,rfl,hW,ok,hs,hR,hrl,hsl,low,fun p H1 hp s1 f1=>?_⟩
 have hWl:=ok.low (m:=m) hrl hsl
 have hat:∀ e:Nat,e<2*W.knots->atI (nV (endsN m (W.wv m (row++st)))) (e:Int)=some (.int ((sdN m (W.wv m (row++st)) e:Nat):Int)):=fun e he=>atI_nat (by
  unfold nV
  rw [List.getElem?_map,endsN_get m _ e (by rw [hWl];lia)]
  rfl)
 have hW1:=hW.same s1
 refine ⟨_,rfl,w,_,_,_,rfl,rfl,SqT.of hW1.w,rfl,o,rfl,⟨_,SqL.of hW1.o⟩,x_l (xs:=nV W.outs) (onI fun e=>((sdN m (W.wv m (row++st)) e.toNat:Nat):Int)) (SqL.of hW1.o) (by rw [z_v];have:=ok.no;lia) (fun x hx N hN=>?_) ?_⟩
 ·obtain ⟨e,he,rfl⟩:=List.mem_map.mp hx
  exact ⟨_,rfl,_,rfl,p,_,_,_,rfl,rfl,SqL.of f1,hat e (ok.out e he),hN⟩
 intro l1 hl1
 have e1:(nV W.outs).map (onI fun e=>((sdN m (W.wv m (row++st)) e.toNat:Nat):Int))=nV (W.ow m (row++st)):=by unfold nV Wn.ow;rw [List.map_map,List.map_map];rfl
 rw [e1]
 have t1:=z_d hl1 (.lst (nV (W.ow m (row++st))))
 have hW2:=hW1.same t1
 have f2:=t1 _ _ f1
 refine ⟨_,rfl,w,_,_,_,rfl,rfl,SqT.of hW2.w,rfl,b,rfl,⟨_,SqL.of hW2.b.1⟩,comp_listG (xs:=bs.map V.ref) (fun i ys H'=>(upd H1 l1 (.lst (nV (W.ow m (row++st)))))=H'/\ys=nV ((W.boxes.take i).map fun x=>sdN m (W.wv m (row++st)) (x.getD 1 0))) ⟨rfl,rfl⟩ ?_ ?_ ?_ ?_⟩
 ·rintro i ys H' _ ⟨rfl,_⟩
  exact SqL.of hW2.b.1
 ·rintro i ys H' hi ⟨rfl,rfl⟩
  rw [z_v,List.length_map,List.length_take]
  have:=ok.nb
  exact y_u (by lia)
 ·rintro i x ys H' os hos hx ⟨rfl,rfl⟩
  obtain ⟨r',hr1,rfl⟩:∃ r,bs[i]? = some r/\V.ref r=x:=by
   rw [List.getElem?_map] at hx
   exact Option.map_eq_some_iff.mp hx
  obtain ⟨ns,h1,h2⟩:=pairedGet hW2.b.2 hr1
  obtain ⟨f,e,rfl,_,he⟩:=ok.box ns (List.mem_of_getElem? h1)
  obtain ⟨o1,o2,rfl⟩:=two_of hos
  ·refine ⟨r',_,rfl,SqT.of h2,rfl,_,_,rfl,_,_,rfl,rfl,?_⟩
   unfold tYes
   refine iteT ⟨_,rfl,_,rfl,p,_,_,_,rfl,rfl,SqL.of f2,hat e he,rfl,?_⟩
   rw [List.take_add_one,h1,List.map_append]
   unfold nV
   rw [List.map_append]
   rfl
 ·rintro ys H' ⟨rfl,rfl⟩ l2 hl2
  rw [List.length_map,hW2.b.len,List.take_length]
  have t2:=z_d hl2 (.lst (nV (W.boxes.map fun x=>sdN m (W.wv m (row++st)) (x.getD 1 0))))
  refine ⟨(by show 2<=sizeLine;decide),fun t ht=>?_⟩
  have t3:=z_d ht (.tup [.ref l1,.ref l2])
  have S:=((s1.trans t1).trans t2)
  exact q t l1 l2 _ (S.free ht) (S.trans t3) z_b ((t2.trans t3) _ _ z_b) (t3 _ _ z_b)
theorem ok_is_whole(T:Tx w K mg A):FnOk P w K mg base CX0 1 A.a_is_whole A.d_is_whole ["thing"] sp_whole:=by
 refine T.F_is_whole.ok sc_is_whole (fun vs H Q E h=>?_) (fun cdv A' outer s H vs Q E hr h=>?_)
 ·obtain ⟨d,v,rfl,hD,q⟩:=h
  rfl
 obtain ⟨d,v,rfl,hD,q⟩:=h
 refine ⟨_,(z_h (z_t (pe_and (z_q (x_h (T := "int")) rfl T.isinstance PyProof.Rows.boot_isinstance (z_a (pv 0) (z_a (pe_bltn (v:=.ty "int") rfl T.int PyProof.Rows.boot_int rfl) z_c))) (pe_one (pe_not (z_q (x_h (T := "bool")) rfl T.isinstance PyProof.Rows.boot_isinstance (z_a (pv 0) (z_a (pe_bltn (v:=.ty "bool") rfl T.bool PyProof.Rows.boot_bool rfl) z_c)))))))),?_⟩
 obtain ⟨t,ty,k1,k2,_⟩:=hD.ty (K:=K)
 rw [<-wholeD_eq] at q
 refine ⟨_,rfl,v,t,_,rfl,ty,k1,_,rfl,?_⟩
 cases hI:dInt d with
 | true =>
  rw [hI] at q
  exact iteT ⟨_,rfl,v,t,_,rfl,ty,k2,_,rfl,q⟩
 | false =>
  rw [hI] at q
  exact iteF q
theorem ok_is_between(T:Tx w K mg A)(G_is_whole:FnOk P w K mg base CX0 1 A.a_is_whole A.d_is_whole ["thing"] sp_whole):FnOk P w K mg base CX0 2 A.a_is_between A.d_is_between ["thing", "low", "high"] sp_between:=by
 refine T.F_is_between.ok sc_is_between (fun vs H Q E h=>?_) (fun cdv A' outer s H vs Q E hr h=>?_)
 ·obtain ⟨d,v,lo,hi,rfl,hD,q⟩:=h
  rfl
 obtain ⟨d,v,lo,hi,rfl,hD,q⟩:=h
 refine ⟨_,(z_h (z_t (pe_and (z_k G_is_whole (hr.mono (by first | decide | lia)) rfl T.M_is_whole T.F_is_whole.kp T.B_is_whole .nil pass0 (z_a (pv 0) z_c)) (pe_one (pe_chain op_le op_le (pv 1) (pv 0) (pv 2)))))),?_⟩
 refine ⟨_,rfl,d,v,rfl,hD,_,rfl,?_⟩
 cases d with
 | int i =>
  have e:=hD.intI
  subst e
  refine iteT ⟨_,rfl,_,rfl,_,_,rfl,rfl,_,rfl,?_⟩
  have q:Q (.bl (decide (lo<=i)&&decide (i<=hi))) H:=q
  by_cases h:lo<=i
  ·rw [decide_eq_true h,Bool.true_and] at q
   exact x_m (decide_eq_true h) ⟨_,rfl,_,_,rfl,rfl,q⟩
  ·rw [decide_eq_false h,Bool.false_and] at q
   exact y_r (decide_eq_false h) q
 | _=>exact iteF q
theorem ok_bits_of(T:Tx w K mg A):FnOk P w K mg base CX0 1 A.a_bits_of A.d_bits_of ["number", "width"] bits_of_j:=by
 refine T.F_bits_of.ok sc_bits_of (fun vs H Q E h=>?_) (fun cdv A' outer s H vs Q E hr h=>?_)
 ·obtain ⟨n,k,rfl,hk,q⟩:=h
  rfl
 obtain ⟨n,k,rfl,hk,q⟩:=h
 refine ⟨_,(z_e (z_n (i:=2) sc_bits_of.nd rfl (Or.inl rfl) (x_c z_c))
  (z_e (ps_for PassesOwn.never rfl (pi_range1 rfl T.range (z_a (pv 1) z_c)) (y_c (i:=3) sc_bits_of.nd rfl (Or.inl rfl))
    (z_e (y_z (pe_bmN PySem.F.plainAttrs_list PySem.F.slot_list_append PySem.F.type_list_append y_q (pv 2) (z_a (y_a op_mod (pv 0) z_g) z_c)))
  (z_h (z_n (i:=0) sc_bits_of.nd rfl (Or.inl rfl) (y_a op_fdivL (pv 0) z_g)))))
  (z_h (z_t (pv 2))))),?_⟩
 refine ⟨(by show 0<=sizeLine;decide),fun p hp=>?_⟩
 refine ⟨_,rfl,_,rfl,by lia,by lia,for_range (lo:=0) (fun i σ H'=>∃ (x:Option V) (d:Nat),σ=[some (.int (d:Int)),some (.int (k:Int)),some (.ref p),x]/\Same H H'/\d=n/2^i/\H' p=some (.lst (nV ((List.range i).map (bt n))))) ⟨_,n,rfl,z_d hp _,by rw [Nat.pow_zero,Nat.div_one],z_b⟩ ?_ ?_⟩
 ·rintro i σ H1 hi ⟨x,d,rfl,s1,hd,f1⟩
  refine ⟨_,rfl,.inl ⟨rfl,_,SqL.of f1⟩,_,rfl,_,_,rfl,rfl,(by show (0:Int)<2;decide),p,_,_,rfl,rfl,f1,y_u (by rw [z_v,List.length_map,List.length_range];lia),?_⟩
  refine ⟨_,rfl,_,_,rfl,rfl,⟨by decide,by decide⟩,?_⟩
  refine ⟨some (.int (0+(i:Int))),d/2,?_,y_y s1 hp _,by rw [hd,Nat.pow_succ,Nat.div_div_eq_div_mul],?_⟩
  ·dsimp only
   rw [show ((d:Nat):Int)/2=((d/2:Nat):Int) by lia]
   rfl
  ·rw [z_b,List.range_succ,List.map_append]
   refine congrArg (fun z=>some (HO.lst z)) ?_
   unfold nV
   rw [List.map_append]
   show _++[V.int ((d:Int)%2)]=_++[V.int ((bt n i:Nat):Int)]
   rw [show ((d:Nat):Int)%2=((bt n i:Nat):Int) by unfold bt;rw [<-hd];lia]
 ·rintro σ H1 ⟨x,d,rfl,s1,hd,f1⟩
  rw [Int.toNat_natCast] at f1
  exact ⟨_,rfl,q p H1 hp s1 f1⟩
theorem ok_all_stands(T:Tx w K mg A):FnOk P w K mg base CX0 1 A.a_all_stands A.d_all_stands ["many"] sp_all_stands:=by
 refine T.F_all_stands.ok sc_all_stands (fun vs H Q E h=>?_) (fun cdv A' outer s H vs Q E hr h=>?_)
 ·obtain ⟨n,rfl,hn,q⟩:=h
  rfl
 obtain ⟨n,rfl,hn,q⟩:=h
 refine ⟨_,(z_e (z_n (i:=1) sc_all_stands.nd rfl (Or.inl rfl) (x_c z_c))
  (z_e (z_n (i:=2) sc_all_stands.nd rfl (Or.inl rfl) z_g)
  (z_e (z_n (i:=3) sc_all_stands.nd rfl (Or.inr rfl) z_g)
  (z_e (ps_for PassesOwn.never rfl (pi_range1 rfl T.range (z_a (pv 0) z_c)) (y_c (i:=4) sc_all_stands.nd rfl (Or.inl rfl))
    (z_e (ps_comp [3] sc_all_stands.nd (i:=1) rfl (Or.inl rfl) (fun _ _ h=>h) rfl (z_x (pv 1)) (fun _ _ _ _=>x_a) (fun _ _ _ _=>(y_a op_mul (pv 0) (y_a op_add (pv 1) z_g))) rfl (show ∀ j∈([3]:List Nat),j<5 by decide) (show (["number", "beyond"]:List Str).Nodup by decide +kernel) (by with_unfolding_all rfl))
  (z_e (y_z (pe_bmN PySem.F.plainAttrs_list PySem.F.slot_list_append PySem.F.type_list_append y_q (pv 1) (z_a (y_a op_mul (pv 2) (pv 3)) z_c)))
  (z_e (z_n (i:=2) sc_all_stands.nd rfl (Or.inl rfl) (y_a op_mul (pv 2) (y_a op_add (pv 3) z_g)))
  (z_h (z_n (i:=3) sc_all_stands.nd rfl (Or.inr rfl) (y_a op_mul (pv 3) (pv 3))))))))
  (z_h (z_t (y_m (z_a (pv 1) (z_a (pv 2) z_c))))))))),?_⟩
 refine ⟨(by show 0<=sizeLine;decide),fun z hz=>?_⟩
 have s0:=z_d hz (.lst [])
 refine ⟨_,rfl,_,rfl,by lia,by lia,for_range (lo:=0) (fun i σ H'=>∃ (x:Option V) (a:Addr),σ=[some (.int (n:Int)),some (.ref a),some (.int ((2^2^i-1:Nat):Int)),some (.int ((2^2^i:Nat):Int)),x]/\Same H H'/\H a=none/\H' a=some (.lst ((sdL i).map fun x=>.int ((x:Nat):Int)))) ⟨_,_,rfl,s0,hz,z_b⟩ ?_ ?_⟩
 ·rintro i σ H3 hi ⟨x,a,rfl,s3,ha,fa⟩
  have hi6:i<6:=by lia
  have p32:2^2^i<=2^32:=Nat.pow_le_pow_right (by decide) (Nat.le_trans (Nat.pow_le_pow_right (by decide) (show i<=5 by lia)) (by decide))
  have p1:=Nat.one_le_two_pow (n:=2^i)
  have e1:=ones_succ i
  have e2:=sq_succ i
  have e3:=sdL_succ i
  have hl:=sdL_len (n:=i)
  generalize 2^2^i=b at p32 p1 e1 e2 e3 ⊢
  generalize 2^2^(i+1)=b' at e1 e2 ⊢
  refine ⟨_,rfl,a,rfl,⟨_,SqL.of fa⟩,x_l (xs:=(sdL i).map fun x=>V.int ((x:Nat):Int)) (onI (· * ((b:Int)+1))) (SqL.of fa) (by rw [List.length_map,hl];lia) (fun x hx N hN=>?_) ?_⟩
  ·obtain ⟨v,_,rfl⟩:=List.mem_map.mp hx
   exact ⟨_,rfl,_,rfl,_,_,rfl,rfl,_,_,rfl,rfl,.inr ⟨by lia,by lia⟩,hN⟩
  intro y hy
  have hm:((sdL i).map fun x=>V.int ((x:Nat):Int)).map (onI (· * ((b:Int)+1)))=((sdL i).map fun x=>x*(b+1)).map fun x=>V.int ((x:Nat):Int):=by
   rw [List.map_map,List.map_map]
   refine List.map_congr_left fun x _=>?_
   show V.int (((x:Nat):Int)*((b:Int)+1))=V.int ((x*(b+1):Nat):Int)
   rw [Int.natCast_mul,Int.natCast_add]
   rfl
  rw [hm]
  refine ⟨_,rfl,.inl ⟨rfl,_,SqL.of z_b⟩,_,rfl,_,rfl,_,_,rfl,rfl,.inr ⟨by lia,by lia⟩,y,_,_,rfl,rfl,z_b,y_u (by rw [List.length_map,List.length_map,hl];lia),?_⟩
  refine ⟨_,rfl,_,rfl,_,_,rfl,rfl,_,_,rfl,rfl,.inr ⟨by lia,by lia⟩,?_⟩
  refine ⟨_,rfl,_,rfl,_,_,rfl,rfl,.inr ⟨by lia,by lia⟩,?_⟩
  refine ⟨some (.int (0+(i:Int))),y,?_,y_y (y_y s3 (s3.free hy) _) (s3.free hy) _,s3.free hy,?_⟩
  ·have a1:((b-1:Nat):Int)*((b:Int)+1)=((b'-1:Nat):Int):=by rw [<-e1,Int.natCast_mul,Int.natCast_add];rfl
   have a2:(b:Int)*(b:Int)=(b':Int):=by rw [<-e2,Int.natCast_mul]
   rw [<-a1,<-a2]
   rfl
  ·rw [z_b,e3,List.map_append]
   show _=some (HO.lst (_++[V.int (((b-1)*b:Nat):Int)]))
   rw [Int.natCast_mul]
 ·rintro σ H3 ⟨x,a,rfl,s3,ha,fa⟩
  refine ⟨_,rfl,_,rfl,(by show 2<=sizeLine;decide),fun p hp=>?_⟩
  exact q p a _ (s3.free hp) ha (s3.trans (z_d hp _)) z_b (z_d hp _ _ _ fa)
theorem ok_look_pair(T:Tx w K mg A):FnOk P w K mg base (CXF P w) 1 A.a_look_pair A.d_look_pair ["one", "other"] (look_x A.c_NoPair OkP):=by
 refine T.F_look_pair.okF sc_look_pair (fun vs H Q E h=>?_) (fun cdv A' outer s H vs Q E hr h=>?_)
 ·obtain ⟨w,w',U,W,rfl,hk,q1,q2⟩:=h
  rfl
 obtain ⟨w,w',U,W,rfl,hk,q1,q2⟩:=h
 refine ⟨_,(z_h (ps_if (PW.pt (pw_or (y_d op_ne (z_u z_p (pv 0) z_g (fun _ _=>rfl)) (z_u z_p (pv 1) z_g (fun _ _=>rfl)) (nomark _)) (pw_or1 (y_d op_ne (z_q x_k rfl T.len PySem.boot_len (z_a (z_u z_p (pv 0) z_g (fun _ _=>rfl)) z_c)) (z_q x_k rfl T.len PySem.boot_len (z_a (z_u z_p (pv 1) z_g (fun _ _=>rfl)) z_c)) (nomark _))))) (z_h (ps_raise rfl raisesF rfl T.M_NoPair T.x_NoPair (z_a pe_str z_c))) y_l)),?_⟩
 obtain ⟨⟨b,g,o,bs,gs,hU⟩,b',g',o',bs',gs',hW⟩:=hk
 refine ⟨_,rfl,w,_,_,_,rfl,rfl,SqT.of hU.w,rfl,_,rfl,w',_,_,_,rfl,rfl,SqT.of hW.w,rfl,rfl,_,rfl,?_⟩
 by_cases c1:U.ins=W.ins
 ·refine y_r (by rw [c1];simp) ?_
  refine ⟨_,rfl,w,_,_,_,rfl,rfl,SqT.of hU.w,rfl,_,_,rfl,.inl ⟨_,SqL.of hU.o,rfl⟩,_,rfl,w',_,_,_,rfl,rfl,SqT.of hW.w,rfl,_,_,rfl,.inl ⟨_,SqL.of hW.o,rfl⟩,rfl,_,rfl,?_⟩
  by_cases c2:U.outs.length=W.outs.length
  ·exact y_r (by rw [z_v,z_v,c2];simp) (q1 ⟨c1,c2⟩)
  ·exact x_m (by rw [z_v,z_v];simp;lia) ⟨by decide,q2 fun z=>c2 z.2⟩
 ·exact x_m (by simp;lia) (x_m rfl ⟨by decide,q2 fun z=>c1 z.1⟩)
theorem ok_look_small(T:Tx w K mg A)(G_look_pair:FnOk P w K mg base (CXF P w) 1 A.a_look_pair A.d_look_pair ["one", "other"] (look_x A.c_NoPair OkP)):FnOk P w K mg base (CXF P w) 2 A.a_look_small A.d_look_small ["one", "other"] (look_x A.c_NoPair OkS):=by
 refine T.F_look_small.okF sc_look_small (fun vs H Q E h=>?_) (fun cdv A' outer s H vs Q E hr h=>?_)
 ·obtain ⟨w,w',U,W,rfl,hk,q1,q2⟩:=h
  rfl
 obtain ⟨w,w',U,W,rfl,hk,q1,q2⟩:=h
 obtain ⟨t_MOST_INS,g_MOST_INS⟩:=T.g_MOST_INS
 refine ⟨_,(z_e (y_z (z_k G_look_pair (hr.mono (by first | decide | lia)) rfl T.M_look_pair T.F_look_pair.kp T.B_look_pair .nil passF (z_a (pv 0) (z_a (pv 1) z_c))))
  (z_h (ps_if (y_d op_gt (z_u z_p (pv 0) z_g (fun _ _=>rfl)) (x_n (v:=.int 6) rfl g_MOST_INS ⟨_,rfl⟩) (nomark _)) (z_h (ps_raise rfl raisesF rfl T.M_NoPair T.x_NoPair (z_a pe_str z_c))) y_l))),?_⟩
 obtain ⟨b,g,o,bs,gs,hU⟩:=hk.1
 refine ⟨_,rfl,_,rfl,w,w',U,W,rfl,hk,fun z=>?_,fun n=>q2 fun z=>n z.1⟩
 refine ⟨_,rfl,w,_,_,_,rfl,rfl,SqT.of hU.w,rfl,_,_,rfl,rfl,_,rfl,?_⟩
 by_cases c:U.ins<=6
 ·exact y_r (decide_eq_false (by show ¬((U.ins:Nat):Int) > 6;lia)) (q1 ⟨z,c⟩)
 ·exact x_m (decide_eq_true (by show ((U.ins:Nat):Int) > 6;lia)) ⟨by decide,q2 fun z=>c z.2⟩
theorem ok_beats_apart(T:Tx w K mg A):FnOk P w K mg base CX0 1 A.a_beats_apart A.d_beats_apart ["numbers", "high"] sp_beats_apart:=by
 refine T.F_beats_apart.ok sc_beats_apart (fun vs H Q E h=>?_) (fun cdv A' outer s H vs Q E hr h=>?_)
 ·obtain ⟨l,ns,h,rfl,hl,hn,q⟩:=h
  rfl
 obtain ⟨l,ns,h,rfl,hl,hn,q⟩:=h
 refine ⟨_,(z_e (z_n (i:=2) sc_beats_apart.nd rfl (Or.inl rfl) (x_c (z_a (pv 1) z_c)))
  (z_e (ps_for PassesOwn.never rfl (z_x (pv 0)) (y_c (i:=3) sc_beats_apart.nd rfl (Or.inr rfl))
    (z_e (z_n (i:=4) sc_beats_apart.nd rfl (Or.inl rfl) (y_a op_cat (pe_comp [3] (fun _ _ h=>h) rfl (z_x (pv 2)) (fun _ _ _ _=>x_a) (fun _ _ _ _=>(y_a op_and (pv 0) (pv 1))) rfl (show ∀ j∈([3]:List Nat),j<5 by decide) (show (["group", "number"]:List Str).Nodup by decide +kernel)) (pe_comp [1,3] (fun _ _ h=>h) rfl (z_x (pv 2)) (fun _ _ _ _=>x_a) (fun _ _ _ _=>(y_a op_and (pv 0) (y_a op_xor (pv 1) (pv 2)))) rfl (show ∀ j∈([1,3]:List Nat),j<5 by decide) (show (["group", "high", "number"]:List Str).Nodup by decide +kernel))))
  (z_h (ps_comp [] sc_beats_apart.nd (i:=2) rfl (Or.inl rfl) (fun _ _ h=>h) rfl (z_x (pv 4)) (fun _ _ _ _=>(pts_one (y_d op_ne (pv 0) z_g (nomark _)))) (fun _ _ _ _=>(pv 0)) rfl (show ∀ j∈([]:List Nat),j<5 by decide) (show (["group"]:List Str).Nodup by decide +kernel) (by with_unfolding_all rfl)))))
  (z_h (z_t (pv 2))))),?_⟩
 refine ⟨_,rfl,(by show 1<=sizeLine;decide),fun z hz=>?_⟩
 have s0:=z_d hz (.lst [.int (h:Int)])
 refine ⟨_,rfl,l,rfl,⟨_,SqL.of (s0 _ _ hl)⟩,for_list (xs:=nV ns) (fun i σ H'=>∃ (x y:Option V) (a:Addr),σ=[some (.ref l),some (.int (h:Int)),some (.ref a),x,y]/\Same H H'/\H a=none/\H' a=some (.lst (nV (bap h (ns.take i))))) ⟨_,_,_,rfl,s0,hz,z_b⟩ ?_ ?_ ?_⟩
 ·rintro i σ H' _ ⟨x,y,a,rfl,s,_,_⟩
  exact SqL.of (s _ _ hl)
 ·rintro i v σ H3 hv ⟨x,y,a,rfl,s3,ha,fa⟩
  obtain ⟨w,hw,rfl⟩:∃ w,ns[i]? = some w/\V.int (w:Int)=v:=by
   unfold nV at hv
   rw [List.getElem?_map] at hv
   exact Option.map_eq_some_iff.mp hv
  have hi:i<16:=by have:=(List.getElem?_eq_some_iff.mp hw).1;lia
  have hgl:(bap h (ns.take i)).length<=2^15:=Nat.le_trans (bap_len h ns i) (Nat.pow_le_pow_right (by decide) (by lia))
  rw [show 2^15=32768 by decide] at hgl
  have es:=bap_succ h ns i w hw
  generalize bap h (ns.take i)=gs at fa hgl es
  refine ⟨_,rfl,a,rfl,⟨_,SqL.of fa⟩,x_l (xs:=nV gs) (onI fun e=>((e.toNat&&&w:Nat):Int)) (SqL.of fa) (by rw [z_v];lia) (fun x hx N hN=>?_) ?_⟩
  ·obtain ⟨g,_,rfl⟩:=List.mem_map.mp hx
   exact ⟨_,rfl,_,rfl,_,_,rfl,rfl,hN⟩
  intro p1 hp1
  have e1:(nV gs).map (onI fun e=>((e.toNat&&&w:Nat):Int))=nV (gs.map (· &&& w)):=by unfold nV;rw [List.map_map,List.map_map];rfl
  rw [e1]
  have t1:=z_d hp1 (.lst (nV (gs.map (· &&& w))))
  refine ⟨_,rfl,a,rfl,⟨_,SqL.of (t1 _ _ fa)⟩,x_l (xs:=nV gs) (onI fun e=>((e.toNat&&&(h^^^w):Nat):Int)) (SqL.of (t1 _ _ fa)) (by rw [z_v];lia) (fun x hx N hN=>?_) ?_⟩
  ·obtain ⟨g,_,rfl⟩:=List.mem_map.mp hx
   refine ⟨_,rfl,_,rfl,_,rfl,_,_,rfl,rfl,_,_,rfl,rfl,?_⟩
   dsimp only
   rw [xor_nat,and_natJ]
   exact hN
  intro p2 hp2
  have e2:(nV gs).map (onI fun e=>((e.toNat&&&(h^^^w):Nat):Int))=nV (gs.map (· &&& (h^^^w))):=by unfold nV;rw [List.map_map,List.map_map];rfl
  rw [e2]
  have t2:=z_d hp2 (.lst (nV (gs.map (· &&& (h^^^w)))))
  refine ⟨p1,p2,_,_,rfl,rfl,t2 _ _ z_b,z_b,small (by rw [z_v,z_v,List.length_map,List.length_map];lia),fun p3 hp3=>?_⟩
  have e3:nV (gs.map (· &&& w))++nV (gs.map (· &&& (h^^^w)))=nV (gs.map (· &&& w)++gs.map (· &&& (h^^^w))):=by unfold nV;rw [List.map_append]
  rw [e3]
  have s34:=(s3.trans (t1.trans t2)).trans (z_d hp3 (.lst (nV (gs.map (· &&& w)++gs.map (· &&& (h^^^w))))))
  have hL:(gs.map (· &&& w)++gs.map (· &&& (h^^^w))).length<=65536:=by rw [List.length_append,List.length_map,List.length_map];lia
  have f4:(upd _ p3 (.lst (nV (gs.map (· &&& w)++gs.map (· &&& (h^^^w)))))) p3=some (.lst (nV (gs.map (· &&& w)++gs.map (· &&& (h^^^w))))):=z_b (H:=upd (upd H3 p1 (.lst (nV (gs.map (· &&& w))))) p2 (.lst (nV (gs.map (· &&& (h^^^w))))))
  have es':bap h (ns.take (i+1))=(gs.map (· &&& w)++gs.map (· &&& (h^^^w))).filter (· != 0):=es
  generalize upd (upd (upd H3 p1 (.lst (nV (gs.map (· &&& w))))) p2 (.lst (nV (gs.map (· &&& (h^^^w)))))) p3 (.lst (nV (gs.map (· &&& w)++gs.map (· &&& (h^^^w)))))=H4 at f4 s34 ⊢
  generalize gs.map (· &&& w)++gs.map (· &&& (h^^^w))=L at f4 hL es' ⊢
  refine ⟨_,rfl,p3,rfl,⟨_,SqL.of f4⟩,comp_list (xs:=nV L) (fun j ys H'=>ys=nV ((L.take j).filter (· != 0))/\H4=H') ⟨rfl,rfl⟩ ?_ ?_ ?_ ?_⟩
  ·rintro j ys H' _ ⟨_,rfl⟩
   exact SqL.of f4
  ·rintro j ys H' _ ⟨rfl,_⟩
   rw [z_v]
   exact y_u (Nat.le_trans (List.length_filter_le _ _) (by rw [List.length_take];lia))
  ·rintro j x ys H' hx ⟨rfl,rfl⟩
   obtain ⟨g,hg,rfl⟩:∃ g,L[j]? = some g/\V.int (g:Int)=x:=by
    unfold nV at hx
    rw [List.getElem?_map] at hx
    exact Option.map_eq_some_iff.mp hx
   refine ⟨_,rfl,rfl,_,rfl,?_⟩
   have et:(L.take (j+1)).filter (· != 0)=(L.take j).filter (· != 0)++(if g=0 then [] else [g]):=by
    rw [List.take_add_one,hg,List.filter_append]
    by_cases c:g=0
    ·rw [if_pos c,c];rfl
    ·rw [if_neg c]
     show _++List.filter _ [g]=_
     rw [List.filter_cons_of_pos (by simpa using c)]
     rfl
   by_cases c:g=0
   ·refine y_r (by rw [c];rfl) ⟨?_,rfl⟩
    rw [et,if_pos c,List.append_nil]
   ·refine x_m ?_ ⟨_,rfl,?_,rfl⟩
    ·show (!decide (V.int (g:Int)=V.int 0))=true
     rw [decide_eq_false (fun z=>c (by injection z with z;lia))]
     rfl
    ·rw [et,if_neg c]
     unfold nV
     rw [List.map_append]
     rfl
  ·rintro ys H' ⟨rfl,rfl⟩ y hy
   refine ⟨_,_,y,rfl,s34.trans (z_d hy _),s34.free hy,?_⟩
   rw [z_b,es',List.take_of_length_le (by rw [z_v];exact Nat.le_refl _)]
 ·rintro σ H3 ⟨x,y,a,rfl,s3,ha,fa⟩
  refine ⟨_,rfl,?_⟩
  rw [z_v,List.take_of_length_le (Nat.le_refl _)] at fa
  exact q a H3 ha s3 fa
theorem ok_bits_among(T:Tx w K mg A):FnOk P w K mg base CX0 1 A.a_bits_among A.d_bits_among ["numbers", "beats"] sp_bits_among:=by
 refine T.F_bits_among.ok sc_bits_among (fun vs H Q E h=>?_) (fun cdv A' outer s H vs Q E hr h=>?_)
 ·obtain ⟨l,ns,b,rfl,hl,hn,q⟩:=h
  rfl
 obtain ⟨l,ns,b,rfl,hl,hn,q⟩:=h
 refine ⟨_,(z_h (z_t (pe_callTy x_b rfl T.tuple PyProof.Rows.boot_tuple (z_a (pe_comp [1] (fun _ _ h=>h) rfl (z_x (pv 0)) (fun _ _ _ _=>x_a) (fun _ _ _ _=>(pe_ifExp (y_d op_eq (y_a op_and (pv 0) (pv 1)) z_g (nomark _)) z_g z_g)) rfl (show ∀ j∈([1]:List Nat),j<2 by decide) (show (["number", "beats"]:List Str).Nodup by decide +kernel)) z_c)))),?_⟩
 refine ⟨_,rfl,l,rfl,⟨_,SqL.of hl⟩,x_l (xs:=nV ns) (onI fun e=>((if e.toNat&&&b=0 then 0 else 1:Nat):Int)) (SqL.of hl) (by rw [z_v];lia) (fun x hx N hN=>?_) ?_⟩
 ·obtain ⟨v,_,rfl⟩:=List.mem_map.mp hx
  refine ⟨_,rfl,_,rfl,_,_,rfl,rfl,rfl,_,rfl,?_⟩
  have hN':N (.int ((if v&&&b=0 then 0 else 1:Nat):Int)) H:=hN
  by_cases c:v&&&b=0
  ·rw [if_pos c] at hN'
   refine x_m (decide_eq_true ?_) hN'
   show V.int (Builtin.bitAnd (v:Int) (b:Int))=V.int 0
   rw [and_natJ,c]
   rfl
  ·rw [if_neg c] at hN'
   refine y_r (decide_eq_false fun z=>c ?_) hN'
   have z':V.int ((v&&&b:Nat):Int)=V.int 0:=z
   injection z' with z'
   lia
 intro y hy
 have hm:(nV ns).map (onI fun e=>((if e.toNat&&&b=0 then 0 else 1:Nat):Int))=nV (amg ns b):=by
  unfold nV amg
  rw [List.map_map,List.map_map]
  rfl
 rw [hm]
 have s1:=z_d hy (.lst (nV (amg ns b)))
 refine ⟨y,_,rfl,.inl ⟨SqL.of z_b,fun p hp=>?_⟩⟩
 exact q p _ (s1.free hp) (s1.trans (z_d hp _)) z_b
theorem ok_least_beat(T:Tx w K mg A):FnOk P w K mg base CX0 1 A.a_least_beat A.d_least_beat ["beats"] sp_least_beat:=by
 refine T.F_least_beat.ok sc_least_beat (fun vs H Q E h=>?_) (fun cdv A' outer s H vs Q E hr h=>?_)
 ·obtain ⟨b,rfl,hb,q⟩:=h
  rfl
 obtain ⟨b,rfl,hb,q⟩:=h
 refine ⟨_,(z_e (z_n (i:=1) sc_least_beat.nd rfl (Or.inl rfl) z_g)
  (z_e (ps_while PassesOwn.never (y_d op_eq (y_a op_mod (pv 0) z_g) z_g (nomark _))
    (z_e (z_n (i:=0) sc_least_beat.nd rfl (Or.inl rfl) (y_a op_fdivL (pv 0) z_g))
  (z_h (z_n (i:=1) sc_least_beat.nd rfl (Or.inl rfl) (y_a op_add (pv 1) z_g)))))
  (z_h (z_t (pv 1))))),?_⟩
 refine while_by (fun σ H'=>∃ r:Nat,σ=[some (.int ((b/2^r:Nat):Int)),some (.int (r:Int))]/\H=H'/\0<b/2^r/\∀ j,j<r->bt b j=0) (fun σ H'=>slN σ 0) ⟨0,by rw [Nat.pow_zero,Nat.div_one];rfl,rfl,by rw [Nat.pow_zero,Nat.div_one];exact hb,fun j h=>absurd h (Nat.not_lt_zero _)⟩ ?_ ?_
 ·rintro σ H' ⟨r,rfl,rfl,h0,hz⟩
  refine ⟨_,rfl,_,_,rfl,rfl,(by show (0:Int)<2;decide),rfl,_,rfl,?_⟩
  refine ite2 (fun c=>?_) (fun c=>?_)
  ·have c':V.int (((b/2^r:Nat):Int)%2)=V.int 0:=of_decide_eq_true c
   injection c' with c'
   refine ⟨_,rfl,_,_,rfl,rfl,⟨by decide,by decide⟩,?_⟩
   refine ⟨_,rfl,_,_,rfl,rfl,?_⟩
   have e:b/2^(r+1)=b/2^r/2:=by rw [Nat.pow_succ,Nat.div_div_eq_div_mul]
   refine ⟨⟨r+1,?_,rfl,by rw [e];lia,fun j hj=>?_⟩,?_⟩
   ·rw [e]
    rfl
   ·by_cases hjr:j=r
    ·subst hjr
     show b/2^j%2=0
     lia
    ·exact hz j (by lia)
   ·show (((b/2^r:Nat):Int)/2).toNat<(((b/2^r:Nat):Int)).toNat
    lia
  ·have c':¬((b/2^r:Nat):Int)%2=0:=fun z=>c (decide_eq_true (by show V.int _=V.int 0;rw [z]))
   refine ⟨_,rfl,?_⟩
   refine q r ?_ hz
   show b/2^r%2=1
   lia
 ·rintro σ H' Q Q' m ⟨x,e1,i,j,e2,e3,hc,e4,b',e5,z⟩
  exact ⟨x,e1,i,j,e2,e3,hc,e4,b',e5,m _ _ z⟩
theorem ok_beats_from(T:Tx w K mg A)(G_all_stands:FnOk P w K mg base CX0 1 A.a_all_stands A.d_all_stands ["many"] sp_all_stands)(G_beat_by:FnOk P w K mg base CX0 2 A.a_beat_by A.d_beat_by ["work", "stand", "row", "high"] beat_j)(G_beats_apart:FnOk P w K mg base CX0 1 A.a_beats_apart A.d_beats_apart ["numbers", "high"] sp_beats_apart)(G_bits_among:FnOk P w K mg base CX0 1 A.a_bits_among A.d_bits_among ["numbers", "beats"] sp_bits_among)(G_least_beat:FnOk P w K mg base CX0 1 A.a_least_beat A.d_least_beat ["beats"] sp_least_beat):FnOk P w K mg base CX0 3 A.a_beats_from A.d_beats_from ["one", "other", "joint"] from_j:=by
 refine T.F_beats_from.ok sc_beats_from (fun vs H Q E h=>?_) (fun cdv A' outer s H vs Q E hr h=>?_)
 ·obtain ⟨w,w',k,U,W,j,rfl,T2,⟨ja,jc,hk1,hk2,hk3⟩,⟨hj1,hj2,hj3,hj4⟩,q⟩:=h
  rfl
 obtain ⟨w,w',k,U,W,j,rfl,T2,⟨ja,jc,hk1,hk2,hk3⟩,⟨hj1,hj2,hj3,hj4⟩,q⟩:=h
 refine ⟨_,(z_e (z_n (i:=3) sc_beats_from.nd rfl (Or.inl rfl) (z_k G_all_stands (hr.mono (by first | decide | lia)) rfl T.M_all_stands T.F_all_stands.kp T.B_all_stands .nil pass0 (z_a (z_u z_p (pv 0) z_g (fun _ _=>rfl)) z_c)))
  (z_e (z_n (i:=4) sc_beats_from.nd rfl (Or.inr rfl) (z_u z_p (pv 3) z_g (fun _ _=>rfl)))
  (z_e (z_n (i:=5) sc_beats_from.nd rfl (Or.inl rfl) (z_k G_beat_by (hr.mono (by first | decide | lia)) rfl T.M_beat_by T.F_beat_by.kp T.B_beat_by .nil pass0 (z_a (pv 0) (z_a (pe_comp [4] (fun _ _ h=>h) rfl (pi_tup0 (z_u z_p (pv 2) z_g (fun _ _=>rfl))) (fun _ _ _ _=>x_a) (fun _ _ _ _=>(y_a op_mul (pv 0) (pv 1))) rfl (show ∀ j∈([4]:List Nat),j<13 by decide) (show (["bit", "high"]:List Str).Nodup by decide +kernel)) (z_a (z_u z_p (pv 3) z_g (fun _ _=>rfl)) (z_a (pv 4) z_c))))))
  (z_e (z_n (i:=6) sc_beats_from.nd rfl (Or.inl rfl) (z_k G_beat_by (hr.mono (by first | decide | lia)) rfl T.M_beat_by T.F_beat_by.kp T.B_beat_by .nil pass0 (z_a (pv 1) (z_a (pe_comp [4] (fun _ _ h=>h) rfl (pi_tup0 (z_u z_p (pv 2) z_g (fun _ _=>rfl))) (fun _ _ _ _=>x_a) (fun _ _ _ _=>(y_a op_mul (pv 0) (pv 1))) rfl (show ∀ j∈([4]:List Nat),j<13 by decide) (show (["bit", "high"]:List Str).Nodup by decide +kernel)) (z_a (z_u z_p (pv 3) z_g (fun _ _=>rfl)) (z_a (pv 4) z_c))))))
  (z_e (z_n (i:=7) sc_beats_from.nd rfl (Or.inl rfl) z_g)
  (z_e (ps_for PassesOwn.never rfl (pi_zip0 rfl T.zip (z_a (z_u z_p (pv 5) z_g (fun _ _=>rfl)) (z_a (z_u z_p (pv 6) z_g (fun _ _=>rfl)) z_c))) (pg_tup0 rfl (x_g (y_c (i:=8) sc_beats_from.nd rfl (Or.inl rfl)) (x_g (y_c (i:=9) sc_beats_from.nd rfl (Or.inl rfl)) pgs_nil)))
    (z_h (z_n (i:=7) sc_beats_from.nd rfl (Or.inl rfl) (y_a op_or (pv 7) (y_a op_xor (pv 8) (pv 9))))))
  (z_e (z_n (i:=10) sc_beats_from.nd rfl (Or.inl rfl) (x_c z_c))
  (z_e (ps_for PassesOwn.never rfl (z_x (z_k G_beats_apart (hr.mono (by first | decide | lia)) rfl T.M_beats_apart T.F_beats_apart.kp T.B_beats_apart .nil pass0 (z_a (y_a op_cat (z_u z_p (pv 5) z_g (fun _ _=>rfl)) (z_u z_p (pv 6) z_g (fun _ _=>rfl))) (z_a (pv 4) z_c)))) (y_c (i:=11) sc_beats_from.nd rfl (Or.inl rfl))
    (z_e (z_n (i:=12) sc_beats_from.nd rfl (Or.inl rfl) (y_m (z_a (z_k G_bits_among (hr.mono (by first | decide | lia)) rfl T.M_bits_among T.F_bits_among.kp T.B_bits_among .nil pass0 (z_a (z_u z_p (pv 5) z_g (fun _ _=>rfl)) (z_a (pv 11) z_c))) (z_a (z_k G_bits_among (hr.mono (by first | decide | lia)) rfl T.M_bits_among T.F_bits_among.kp T.B_bits_among .nil pass0 (z_a (z_u z_p (pv 6) z_g (fun _ _=>rfl)) (z_a (pv 11) z_c))) z_c))))
  (z_h (y_z (pe_bmN PySem.F.plainAttrs_list PySem.F.slot_list_append PySem.F.type_list_append y_q (pv 10) (z_a (y_m (z_a (z_k G_least_beat (hr.mono (by first | decide | lia)) rfl T.M_least_beat T.F_least_beat.kp T.B_least_beat .nil pass0 (z_a (pv 11) z_c)) (z_a (pv 12) z_c))) z_c))))))
  (z_h (z_t (y_m (z_a (pv 7) (z_a (pv 10) z_c))))))))))))),?_⟩
 obtain ⟨b,g,o,bs,gs,hU⟩:=T2.one
 obtain ⟨b',g',o',bs',gs',hW⟩:=T2.two
 have okU:=T2.ok
 have okW:=T2.ok'
 have h8:=okU.nb
 have h8':=okW.nb
 refine ⟨_,rfl,w,_,_,_,rfl,rfl,SqT.of hU.w,rfl,U.ins,rfl,okU.ins,fun ps pq H1 hps hpq s1 f1 f1'=>?_⟩
 have f1s:H1 pq=some (.lst (nV (sdL U.ins))):=f1'
 refine ⟨_,rfl,ps,_,_,_,rfl,rfl,SqT.of f1,rfl,?_⟩
 refine ⟨_,rfl,_,rfl,k,_,_,_,rfl,rfl,SqT.of (s1 _ _ hk1),rfl,ja,rfl,⟨_,SqT.of (s1 _ _ hk2)⟩,comp_tup_map (xs:=nV j.1) (onI (· * ((2^2^U.ins-1:Nat):Int))) (SqT.of (s1 _ _ hk2)) (by rw [z_v,hj1];lia) (fun x hx N hN=>?_) ?_⟩
 ·obtain ⟨v,hv,rfl⟩:=List.mem_map.mp hx
  have:=hj3 v hv
  exact ⟨_,rfl,_,rfl,_,_,rfl,rfl,.inl ⟨Int.lt_of_lt_of_le (by decide) (Int.natCast_nonneg v),Int.lt_of_lt_of_le (show ((v:Nat):Int)<2 by lia) (by decide)⟩,hN⟩
 have em:(nV j.1).map (onI (· * ((2^2^U.ins-1:Nat):Int)))=nV (j.1.map (· * (2^2^U.ins-1))):=by
  unfold nV
  rw [List.map_map,List.map_map]
  refine List.map_congr_left fun x _=>?_
  show V.int (((x:Nat):Int)*_)=V.int ((x*(2^2^U.ins-1):Nat):Int)
  rw [Int.natCast_mul]
 rw [em]
 intro l hl
 have sl:=z_d hl (.lst (nV (j.1.map (· * (2^2^U.ins-1)))))
 have S2:=s1.trans sl
 refine ⟨_,rfl,ps,_,_,_,rfl,rfl,SqT.of (sl _ _ f1),rfl,_,rfl,w,b,g,o,l,pq,bs,gs,U,2^U.ins,sdL U.ins,j.1.map (· * (2^2^U.ins-1)),rfl,hU.same S2,okU,z_b,sl _ _ f1s,sdL_len,by rw [List.length_map,hj1],sdJ_low hj3,fun pl lo ln H3 _ s3 e1 e2 e3=>?_⟩
 have S3:=S2.trans s3
 have f3:=(sl.trans s3) _ _ f1
 have f3s:=(sl.trans s3) _ _ f1s
 have e2':H3 lo=some (.lst (nV (U.ow (2^U.ins) (sdJ U.ins j.1)))):=e2
 have e3':H3 ln=some (.lst (nV (U.nx (2^U.ins) (sdJ U.ins j.1)))):=e3
 clear sl hl s3 S2 f1 f1' f1s s1 e2 e3
 refine ⟨_,rfl,_,rfl,k,_,_,_,rfl,rfl,SqT.of (S3 _ _ hk1),rfl,jc,rfl,⟨_,SqT.of (S3 _ _ hk3)⟩,comp_tup_map (xs:=nV j.2) (onI (· * ((2^2^U.ins-1:Nat):Int))) (SqT.of (S3 _ _ hk3)) (by rw [z_v,hj2];lia) (fun x hx N hN=>?_) ?_⟩
 ·obtain ⟨v,hv,rfl⟩:=List.mem_map.mp hx
  have:=hj4 v hv
  exact ⟨_,rfl,_,rfl,_,_,rfl,rfl,.inl ⟨Int.lt_of_lt_of_le (by decide) (Int.natCast_nonneg v),Int.lt_of_lt_of_le (show ((v:Nat):Int)<2 by lia) (by decide)⟩,hN⟩
 have em:(nV j.2).map (onI (· * ((2^2^U.ins-1:Nat):Int)))=nV (j.2.map (· * (2^2^U.ins-1))):=by
  unfold nV
  rw [List.map_map,List.map_map]
  refine List.map_congr_left fun x _=>?_
  show V.int (((x:Nat):Int)*_)=V.int ((x*(2^2^U.ins-1):Nat):Int)
  rw [Int.natCast_mul]
 rw [em]
 intro l hl
 have sl:=z_d hl (.lst (nV (j.2.map (· * (2^2^U.ins-1)))))
 have S4:=S3.trans sl
 refine ⟨_,rfl,ps,_,_,_,rfl,rfl,SqT.of (sl _ _ f3),rfl,_,rfl,w',b',g',o',l,pq,bs',gs',W,2^U.ins,sdL U.ins,j.2.map (· * (2^2^U.ins-1)),rfl,hW.same S4,okW,z_b,sl _ _ f3s,by rw [sdL_len,T2.ins],by rw [List.length_map,hj2],sdJ_low hj4,fun pr ro rn H5 _ s5 g1 g2 g3=>?_⟩
 have S5:=S4.trans s5
 have t5:=sl.trans s5
 have g2':H5 ro=some (.lst (nV (W.ow (2^U.ins) (sdJ U.ins j.2)))):=g2
 have g3':H5 rn=some (.lst (nV (W.nx (2^U.ins) (sdJ U.ins j.2)))):=g3
 have e15:=t5 _ _ e1
 have e25:=t5 _ _ e2'
 have e35:=t5 _ _ e3'
 clear sl hl s5 S4 t5 g2 g3 e1 e2' e3' f3 f3s S3 em
 generalize hA:U.ow (2^U.ins) (sdJ U.ins j.1)=A at e25
 generalize hB:W.ow (2^U.ins) (sdJ U.ins j.2)=B at g2'
 have lA:A.length=U.outs.length:=by rw [<-hA];exact List.length_map _
 have lB:B.length=U.outs.length:=by rw [<-hB,T2.outs];exact List.length_map _
 have h6:=okU.no
 refine ⟨_,rfl,pl,_,_,_,rfl,rfl,SqT.of e15,rfl,_,rfl,pr,_,_,_,rfl,rfl,SqT.of g1,rfl,lo,ro,rfl,⟨_,SqL.of e25⟩,⟨_,SqL.of g2'⟩,for_zip (xs:=nV A) (ys:=nV B) (fun i σ H'=>∃ x8 x9:Option V,σ=[some (.ref w),some (.ref w'),some (.ref k),some (.ref ps),some (.int ((2^2^U.ins-1:Nat):Int)),some (.ref pl),some (.ref pr),some (.int ((((A.zip B).take i).foldl (fun p z=>p|||(z.1^^^z.2)) 0:Nat):Int)),x8,x9,none,none,none]/\Same H5 H') ⟨_,_,rfl,Same.refl _⟩ ?_ (by rw [z_v,z_v,lA,lB]) ?_ ?_⟩
 ·rintro i σ H' ⟨_,_,_,s'⟩
  exact ⟨SqL.of (s' _ _ e25),SqL.of (s' _ _ g2')⟩
 ·rintro i x y pp σ H' hx hy ⟨x8,x9,rfl,s'⟩ hpp
  obtain ⟨u,hu,rfl⟩:∃ n,A[i]? = some n/\V.int (n:Int)=x:=by
   unfold nV at hx
   rw [List.getElem?_map] at hx
   exact Option.map_eq_some_iff.mp hx
  obtain ⟨v,hv,rfl⟩:∃ n,B[i]? = some n/\V.int (n:Int)=y:=by
   unfold nV at hy
   rw [List.getElem?_map] at hy
   exact Option.map_eq_some_iff.mp hy
  refine ⟨pp,_,rfl,SqT.of z_b,rfl,_,_,rfl,_,_,rfl,rfl,?_⟩
  refine ⟨_,rfl,_,rfl,_,rfl,_,_,rfl,rfl,_,_,rfl,rfl,?_⟩
  refine ⟨some (.int (u:Int)),some (.int (v:Int)),?_,s'.trans (z_d hpp _)⟩
  have ez:(A.zip B)[i]? = some (u,v):=by rw [List.getElem?_zip_eq_some];exact ⟨hu,hv⟩
  rw [List.take_add_one,ez,List.foldl_append]
  dsimp only
  rw [xor_nat,or_natJ]
  rfl
 rintro σ H6 ⟨x8,x9,rfl,s6⟩
 have eu:((A.zip B).take (nV A).length).foldl (fun p z=>p|||(z.1^^^z.2)) 0=unl A B:=by
  rw [z_v,List.take_of_length_le (by rw [List.length_zip];lia)]
  rfl
 rw [eu]
 have S6:=S5.trans s6
 refine ⟨(by show 0<=sizeLine;decide),fun la hla=>?_⟩
 have s7:=z_d hla (.lst [])
 have hlaH:H6 la=none:=hla
 generalize hN1:U.nx (2^U.ins) (sdJ U.ins j.1)=N1 at e35
 generalize hN2:W.nx (2^U.ins) (sdJ U.ins j.2)=N2 at g3'
 have lN1:N1.length=U.boxes.length:=by rw [<-hN1];exact List.length_map _
 have lN2:N2.length=W.boxes.length:=by rw [<-hN2];exact List.length_map _
 have e37:=(s6.trans s7) _ _ e35
 have g37:=(s6.trans s7) _ _ g3'
 have e17:=(s6.trans s7) _ _ e15
 have g17:=(s6.trans s7) _ _ g1
 refine ⟨_,rfl,pl,_,_,_,rfl,rfl,SqT.of e17,rfl,_,rfl,pr,_,_,_,rfl,rfl,SqT.of g17,rfl,ln,rn,_,_,rfl,rfl,e37,g37,small (by rw [z_v,z_v];lia),fun pc hpc=>?_⟩
 have ec:nV N1++nV N2=nV (N1++N2):=by unfold nV;rw [List.map_append]
 rw [ec]
 have s8:=z_d hpc (.lst (nV (N1++N2)))
 refine ⟨_,rfl,pc,N1++N2,2^2^U.ins-1,rfl,z_b,by rw [List.length_append];lia,fun pg H9 hpg s9 f9=>?_⟩
 have t9:=s8.trans s9
 have hp1:=Nat.one_le_two_pow (n:=2^U.ins)
 have h0:2^2^U.ins-1≠0:=by
  have:2^1<=2^2^U.ins:=Nat.pow_le_pow_right (by decide) Nat.one_le_two_pow
  lia
 obtain ⟨hgr,hall⟩:=bap_gr h0 (N1++N2)
 have lbap:=bap_le (2^2^U.ins-1) (N1++N2) (by rw [List.length_append];lia)
 generalize bap (2^2^U.ins-1) (N1++N2)=G at f9 hgr hall lbap
 have e19:=t9 _ _ e17
 have g19:=t9 _ _ g17
 have e39:=t9 _ _ e37
 have g39:=t9 _ _ g37
 have la9:=t9 _ _ (z_b (H:=H6) (a:=la) (o:=.lst []))
 have S9:=S6.trans (s7.trans t9)
 have hlaS:=S6.free hla
 have nln:ln≠la:=fun e=>by have:=s6 _ _ e35;rw [e,hla] at this;cases this
 have nrn:rn≠la:=fun e=>by have:=s6 _ _ g3';rw [e,hla] at this;cases this
 have npg:pg≠la:=fun e=>by have:=s8 _ _ (z_b (H:=H6) (a:=la) (o:=.lst []));rw [e,this] at hpg;cases hpg
 refine ⟨pg,rfl,⟨_,SqL.of f9⟩,for_list (xs:=nV G) (fun i σ H'=>∃ (x8 x9 x11 x12:Option V) (rs:List Addr) (lats:List (Nat×Jn)),σ=[some (.ref w),some (.ref w'),some (.ref k),some (.ref ps),some (.int ((2^2^U.ins-1:Nat):Int)),some (.ref pl),some (.ref pr),some (.int ((unl A B:Nat):Int)),x8,x9,some (.ref la),x11,x12]/\Same H H'/\H' pg=some (.lst (nV G))/\H' pl=some (.tup [.ref lo,.ref ln])/\H' pr=some (.tup [.ref ro,.ref rn])/\H' ln=some (.lst (nV N1))/\H' rn=some (.lst (nV N2))/\H' la=some (.lst (rs.map V.ref))/\Paired (LT2 H') rs lats/\lats.length=i/\(∀ z∈lats,z.1<2^U.ins/\z.2=nxtJ U W j z.1)/\∀ x∈G.take i,∃ z∈lats,z.2=(amg N1 x,amg N2 x)) ⟨_,_,_,_,[],[],rfl,S9,f9,e19,g19,e39,g39,la9,.nil,rfl,by simp,by simp⟩ ?_ ?_ ?_⟩
 ·rintro i σ H' _ ⟨_,_,_,_,_,_,_,_,f',_⟩
  exact SqL.of f'
 ·rintro i v σ H' hv ⟨x8,x9,x11,x12,rs,lats,rfl,S',f',a1,a2,a3,a4,a5,pr',hl',hz,hG⟩
  obtain ⟨x,hx,rfl⟩:∃ n,G[i]? = some n/\V.int (n:Int)=v:=by
   unfold nV at hv
   rw [List.getElem?_map] at hv
   exact Option.map_eq_some_iff.mp hv
  have hxG:=hgr x (List.mem_of_getElem? hx)
  have hiG:=(List.getElem?_eq_some_iff.mp hx).1
  refine ⟨_,rfl,pl,_,_,_,rfl,rfl,SqT.of a1,rfl,_,rfl,ln,N1,x,rfl,a3,by lia,fun u1 K1 hu1 c1 d1=>?_⟩
  refine ⟨_,rfl,pr,_,_,_,rfl,rfl,SqT.of (c1 _ _ a2),rfl,_,rfl,rn,N2,x,rfl,c1 _ _ a4,by lia,fun u2 K2 hu2 c2 d2=>?_⟩
  refine ⟨(by show 2<=sizeLine;decide),fun u3 hu3=>?_⟩
  have c3:=z_d hu3 (.tup [.ref u1,.ref u2])
  have C3:=(c1.trans c2).trans c3
  have J3:JK (upd K2 u3 (.tup [.ref u1,.ref u2])) u3 (amg N1 x,amg N2 x):=⟨u1,u2,z_b,(c2.trans c3) _ _ d1,c3 _ _ d2⟩
  show tSeq _ _ _ _ (upd K2 u3 (.tup [.ref u1,.ref u2]))
  generalize upd K2 u3 (.tup [.ref u1,.ref u2])=K3 at c3 C3 J3 ⊢
  have b5:=C3 _ _ a5
  refine ⟨_,rfl,.inl ⟨rfl,_,SqL.of b5⟩,_,rfl,x,rfl,Nat.pos_of_ne_zero hxG.pos,fun r hr1 _=>?_⟩
  have hrt:x.testBit r=true:=by rw [tb_bt,hr1];rfl
  have hrm:r<2^U.ins:=by
   have:=hxG.sub r hrt
   rw [Nat.testBit_two_pow_sub_one] at this
   exact of_decide_eq_true this
  have e1:amg N1 x=N1.map (bt · r):=amg_bt hxG (fun y hy=>List.mem_append_left _ hy) hrt
  have e2:amg N2 x=N2.map (bt · r):=amg_bt hxG (fun y hy=>List.mem_append_right _ hy) hrt
  refine ⟨_,rfl,(by show 2<=sizeLine;decide),fun u4 hu4=>?_⟩
  have c4:=z_d hu4 (.tup [.int (r:Int),.ref u3])
  have C4:=C3.trans c4
  refine ⟨la,_,_,rfl,rfl,c4 _ _ b5,y_u (by rw [List.length_map,Paired.length pr'];lia),?_⟩
  have keepT:∀ c xs,(upd K3 u4 (.tup [.int (r:Int),.ref u3])) c=some (.tup xs)->(upd (upd K3 u4 (.tup [.int (r:Int),.ref u3])) la (.lst (rs.map V.ref++[.ref u4]))) c=some (.tup xs):=fun c xs e=>by rw [z_m (fun z=>by rw [z,c4 _ _ b5] at e;cases e)];exact e
  have kLT:∀ {y:Addr} {z:Nat×Jn},LT2 (upd K3 u4 (.tup [.int (r:Int),.ref u3])) y z->LT2 (upd (upd K3 u4 (.tup [.int (r:Int),.ref u3])) la (.lst (rs.map V.ref++[.ref u4]))) y z:=fun {y z} ⟨kk,h1,h2⟩=>⟨kk,keepT _ _ h1,h2.tups keepT⟩
  refine ⟨x8,x9,some (.int (x:Int)),some (.ref u3),rs++[u4],lats++[(r,(amg N1 x,amg N2 x))],rfl,y_y (S'.trans C4) hlaS _,?_,keepT _ _ (C4 _ _ a1),keepT _ _ (C4 _ _ a2),?_,?_,by rw [z_b,List.map_append];rfl,?_,by rw [List.length_append,hl'];rfl,?_,?_⟩
  ·rw [z_m npg]
   exact C4 _ _ f'
  ·rw [z_m nln]
   exact C4 _ _ a3
  ·rw [z_m nrn]
   exact C4 _ _ a4
  ·exact pairedSnoc (kLT ⟨u3,z_b,J3.same c4⟩) (z_r (fun _ _ z=>kLT (z.same C4)) pr')
  ·intro z hz'
   rcases List.mem_append.mp hz' with h | h
   ·exact hz z h
   ·rw [List.mem_singleton.mp h]
    refine ⟨hrm,?_⟩
    show (amg N1 x,amg N2 x)=_
    rw [e1,e2,<-hN1,<-hN2]
    rfl
  ·intro y hy
   rw [List.take_add_one,hx] at hy
   rcases List.mem_append.mp hy with h | h
   ·obtain ⟨z,hz1,hz2⟩:=hG y h
    exact ⟨z,List.mem_append_left _ hz1,hz2⟩
   ·have:y=x:=by simpa using h
    subst this
    exact ⟨_,List.mem_append_right _ (List.mem_singleton.mpr rfl),rfl⟩
 ·rintro σ H' ⟨x8,x9,x11,x12,rs,lats,rfl,S',f',a1,a2,a3,a4,a5,pr',hl',hz,hG⟩
  rw [z_v] at hl'
  rw [z_v,List.take_length] at hG
  refine ⟨_,rfl,_,rfl,(by show 2<=sizeLine;decide),fun p hp=>?_⟩
  have sp:=z_d hp (.tup [.int ((unl A B:Nat):Int),.ref la])
  refine q p la rs lats _ hlaS (S'.trans sp) ?_ (sp _ _ a5) (z_r (fun _ _ z=>z.same sp) pr') (by rw [hl'];exact lbap) hz fun r hr'=>?_
  ·rw [z_b,hA,hB]
  ·obtain ⟨x,hx,hxr⟩:=hall r (by rw [Nat.testBit_two_pow_sub_one];exact decide_eq_true hr')
   obtain ⟨z,hz1,hz2⟩:=hG x hx
   refine ⟨z,hz1,?_⟩
   rw [hz2,amg_bt (hgr x hx) (fun y hy=>List.mem_append_left _ hy) hxr,amg_bt (hgr x hx) (fun y hy=>List.mem_append_right _ hy) hxr,<-hN1,<-hN2]
   rfl
theorem ok_first_joint_stand(T:Tx w K mg A)(G_first_stand:FnOk P w K mg base CX0 1 A.a_first_stand A.d_first_stand ["work"] fst_j):FnOk P w K mg base CX0 2 A.a_first_joint_stand A.d_first_joint_stand ["one", "other"] firj_sp:=by
 refine T.F_first_joint_stand.ok sc_first_joint_stand (fun vs H Q E h=>?_) (fun cdv A' outer s H vs Q E hr h=>?_)
 ·obtain ⟨w,w',U,W,rfl,T2,q⟩:=h
  rfl
 obtain ⟨w,w',U,W,rfl,T2,q⟩:=h
 refine ⟨_,(z_h (z_t (y_m (z_a (pe_callTy x_b rfl T.tuple PyProof.Rows.boot_tuple (z_a (z_k G_first_stand (hr.mono (by first | decide | lia)) rfl T.M_first_stand T.F_first_stand.kp T.B_first_stand .nil pass0 (z_a (pv 0) z_c)) z_c)) (z_a (pe_callTy x_b rfl T.tuple PyProof.Rows.boot_tuple (z_a (z_k G_first_stand (hr.mono (by first | decide | lia)) rfl T.M_first_stand T.F_first_stand.kp T.B_first_stand .nil pass0 (z_a (pv 1) z_c)) z_c)) z_c))))),?_⟩
 obtain ⟨b,g,o,bs,gs,hU⟩:=T2.one
 obtain ⟨b',g',o',bs',gs',hW⟩:=T2.two
 refine ⟨_,rfl,w,b,g,o,bs,gs,U,rfl,hU,T2.ok,fun l H1 hl s1 f1=>⟨l,_,rfl,.inl ⟨SqL.of f1,fun a ha=>?_⟩⟩⟩
 have t1:=z_d ha (.tup (nV (U.boxes.map fun x=>x.getD 0 0)))
 refine ⟨_,rfl,w',b',g',o',bs',gs',W,rfl,hW.same (s1.trans t1),T2.ok',fun l2 H2 hl2 s2 f2=>⟨l2,_,rfl,.inl ⟨SqL.of f2,fun c hc=>?_⟩⟩⟩
 have t2:=z_d hc (.tup (nV (W.boxes.map fun x=>x.getD 0 0)))
 refine ⟨(by show 2<=sizeLine;decide),fun p hp=>?_⟩
 have t3:=z_d hp (.tup [.ref a,.ref c])
 have s13:=((s1.trans t1).trans s2).trans t2
 exact q p _ (s13.free hp) (s13.trans t3) ⟨a,c,z_b,(s2.trans (t2.trans t3)) _ _ z_b,t3 _ _ z_b⟩
theorem ok_is_stand(T:Tx w K mg A)(G_is_between:FnOk P w K mg base CX0 2 A.a_is_between A.d_is_between ["thing", "low", "high"] sp_between):FnOk P w K mg base CX0 3 A.a_is_stand A.d_is_stand ["work", "thing"] stand_d:=by
 refine T.F_is_stand.ok sc_is_stand (fun vs H Q E h=>?_) (fun cdv A' outer s H vs Q E hr h=>?_)
 ·obtain ⟨wk,b,g,o,bs,gs,W,d,v,rfl,hW,hD,hwd,q⟩:=h
  rfl
 obtain ⟨wk,b,g,o,bs,gs,W,d,v,rfl,hW,hD,hwd,q⟩:=h
 refine ⟨_,(z_e (ps_if (PW.pt (pw_or (pt_not (y_t (z_q (x_h (T := "tuple")) rfl T.isinstance PyProof.Rows.boot_isinstance (z_a (pv 1) (z_a (pe_bltn (v:=.ty "tuple") rfl T.tuple PyProof.Rows.boot_tuple rfl) z_c))) (fun _=>rfl))) (pw_or1 (y_d op_ne (z_q x_k rfl T.len PySem.boot_len (z_a (pv 1) z_c)) (z_q x_k rfl T.len PySem.boot_len (z_a (z_u z_p (pv 0) z_g (fun _ _=>rfl)) z_c)) (nomark _))))) (z_h (z_t pe_bl)) y_l)
  (z_h (z_t (z_q call_all0 rfl T.all PyProof.Rows.boot_all (z_a (pe_comp [] (fun _ _ h=>h) rfl (pi_tup0 (pv 1)) (fun _ _ _ _=>x_a) (fun _ _ _ _=>(z_k G_is_between (hr.mono (by first | decide | lia)) rfl T.M_is_between T.F_is_between.kp T.B_is_between .nil pass0 (z_a (pv 0) (z_a z_g (z_a z_g z_c))))) rfl (show ∀ j∈([]:List Nat),j<2 by decide) (show (["bit"]:List Str).Nodup by decide +kernel)) z_c))))),?_⟩
 obtain ⟨t,ty,_,_,_,k4,_⟩:=hD.ty (K:=K)
 refine ⟨_,rfl,v,t,_,rfl,ty,k4,_,rfl,?_⟩
 cases d with
 | tuple ds =>
  obtain ⟨p,xs,rfl,hp,hds⟩:=hD.tupI
  have hl:=hds.length
  obtain ⟨h1,h2⟩:=hwd.tup
  refine y_r rfl ⟨_,rfl,_,_,rfl,.inr ⟨_,SqT.of hp,rfl⟩,_,rfl,wk,_,_,_,rfl,rfl,SqT.of hW.w,rfl,_,_,rfl,.inl ⟨_,SqL.of hW.b.1,rfl⟩,rfl,_,rfl,?_⟩
  have eb:(bs.map V.ref).length=W.boxes.length:=by rw [List.length_map,hW.b.len]
  dsimp only
  rw [eb,<-hl]
  by_cases c:ds.length=W.boxes.length
  ·rw [c]
   refine y_r (by simp) ?_
   refine ⟨_,rfl,p,rfl,⟨_,SqT.of hp⟩,comp_datT (fun e=>V.bl (betD e 0 1)) hp hds (by lia) (fun e x he hx N n=>⟨_,rfl,e,x,0,1,rfl,hx,n⟩) fun pl hpl=>⟨rfl,pl,ds.map (betD · 0 1),rfl,SqL.of (by rw [z_b,List.map_map];rfl),?_⟩⟩
   have e:stD W.boxes.length (.tuple ds)=(ds.map (betD · 0 1)).all id:=by
    show (decide (ds.length=W.boxes.length)&&ds.all (betD · 0 1))=_
    rw [decide_eq_true c,Bool.true_and,List.all_map]
    rfl
   rw [<-e]
   exact q _ (z_d hpl _)
  ·refine x_m (by simp;exact fun z=>c (Int.ofNat_inj.mp z)) ?_
   have e:stD W.boxes.length (.tuple ds)=false:=by
    show (decide (ds.length=W.boxes.length)&&ds.all (betD · 0 1))=_
    rw [decide_eq_false c,Bool.false_and]
   rw [<-e]
   exact q _ (Same.refl _)
 | _=>exact x_m rfl (q _ (Same.refl _))
theorem ok_is_joint_stand(T:Tx w K mg A)(G_is_stand:FnOk P w K mg base CX0 3 A.a_is_stand A.d_is_stand ["work", "thing"] stand_d):FnOk P w K mg base CX0 4 A.a_is_joint_stand A.d_is_joint_stand ["one", "other", "thing"] joint_d:=by
 refine T.F_is_joint_stand.ok sc_is_joint_stand (fun vs H Q E h=>?_) (fun cdv A' outer s H vs Q E hr h=>?_)
 ·obtain ⟨wk,w',U,W,d,v,rfl,T2,hD,hwd,q⟩:=h
  rfl
 obtain ⟨wk,w',U,W,d,v,rfl,T2,hD,hwd,q⟩:=h
 refine ⟨_,(z_e (ps_if (PW.pt (pw_or (pt_not (y_t (z_q (x_h (T := "tuple")) rfl T.isinstance PyProof.Rows.boot_isinstance (z_a (pv 2) (z_a (pe_bltn (v:=.ty "tuple") rfl T.tuple PyProof.Rows.boot_tuple rfl) z_c))) (fun _=>rfl))) (pw_or1 (y_d op_ne (z_q x_k rfl T.len PySem.boot_len (z_a (pv 2) z_c)) z_g (nomark _))))) (z_h (z_t pe_bl)) y_l)
  (z_h (z_t (pe_and (z_k G_is_stand (hr.mono (by first | decide | lia)) rfl T.M_is_stand T.F_is_stand.kp T.B_is_stand .nil pass0 (z_a (pv 0) (z_a (z_u z_p (pv 2) z_g (fun _ _=>rfl)) z_c))) (pe_one (z_k G_is_stand (hr.mono (by first | decide | lia)) rfl T.M_is_stand T.F_is_stand.kp T.B_is_stand .nil pass0 (z_a (pv 1) (z_a (z_u z_p (pv 2) z_g (fun _ _=>rfl)) z_c)))))))),?_⟩
 obtain ⟨b,g,o,bs,gs,hU⟩:=T2.one
 obtain ⟨b',g',o',bs',gs',hW⟩:=T2.two
 obtain ⟨t,ty,_,_,_,k4,_⟩:=hD.ty (K:=K)
 refine ⟨_,rfl,v,t,_,rfl,ty,k4,_,rfl,?_⟩
 cases d with
 | tuple ds =>
  obtain ⟨p,xs,rfl,hp,hds⟩:=hD.tupI
  have hl:=hds.length
  refine y_r rfl ⟨_,rfl,_,_,rfl,.inr ⟨_,SqT.of hp,rfl⟩,rfl,_,rfl,?_⟩
  dsimp only
  rw [<-hl]
  by_cases c:ds.length=2
  ·obtain ⟨x,y,rfl⟩:∃ x y,ds=[x,y]:=by
    cases ds with
    | nil=>cases c
    | cons x r =>
     cases r with
     | nil=>cases c
     | cons y r =>
      cases r with
      | nil=>exact ⟨x,y,rfl⟩
      | cons z r=>simp at c
   obtain ⟨x',r,rfl,hx,h3⟩:=hds.consI
   obtain ⟨y',r',rfl,hy,h4⟩:=h3.consI
   obtain rfl:=h4.nilI
   obtain ⟨_,hw⟩:=hwd.tup
   refine y_r rfl ⟨_,rfl,_,rfl,p,_,_,_,rfl,rfl,SqT.of hp,rfl,wk,b,g,o,bs,gs,U,x,x',rfl,hU,hx,hw x (by simp),fun H1 s1=>⟨_,rfl,?_⟩⟩
   have q:∀ H',Same H H'->Q (.bl (stD U.boxes.length x&&stD W.boxes.length y)) H':=q
   cases e:stD U.boxes.length x with
   | false =>
    rw [e,Bool.false_and] at q
    exact iteF (q _ s1)
   | true =>
    rw [e,Bool.true_and] at q
    exact iteT ⟨_,rfl,_,rfl,p,_,_,_,rfl,rfl,SqT.of (s1 _ _ hp),rfl,w',b',g',o',bs',gs',W,y,y',rfl,hW.same s1,hy.same s1,hw y (by simp),fun H2 s2=>q _ (s1.trans s2)⟩
  ·refine x_m (by simp;lia) ?_
   have e:jtD U.boxes.length W.boxes.length (.tuple ds)=false:=by
    cases h:jtD U.boxes.length W.boxes.length (.tuple ds) with
    | false=>rfl
    | true =>
     obtain ⟨j,hj,_⟩:=jtD_iff.mp h
     unfold dJ at hj
     injection hj with hj
     rw [hj] at c
     exact absurd rfl c
   rw [<-e]
   exact q _ (Same.refl _)
 | _=>exact x_m rfl (q _ (Same.refl _))
theorem ok_is_table(T:Tx w K mg A)(G_look_small:FnOk P w K mg base (CXF P w) 2 A.a_look_small A.d_look_small ["one", "other"] (look_x A.c_NoPair OkS))(G_beats_from:FnOk P w K mg base CX0 3 A.a_beats_from A.d_beats_from ["one", "other", "joint"] from_j)(G_first_joint_stand:FnOk P w K mg base CX0 2 A.a_first_joint_stand A.d_first_joint_stand ["one", "other"] firj_sp)(G_is_joint_stand:FnOk P w K mg base CX0 4 A.a_is_joint_stand A.d_is_joint_stand ["one", "other", "thing"] joint_d):FnOk P w K mg base (CXF P w) 5 A.a_is_table A.d_is_table ["one", "other", "thing"] (table_x A.c_NoPair):=by
 refine T.F_is_table.okF sc_is_table (fun vs H Q E h=>?_) (fun cdv A' outer s H vs Q E hr h=>?_)
 ·obtain ⟨v,v',U,W,t0,rfl,px,gd,qq,qe⟩:=h
  rfl
 obtain ⟨v,v',U,W,t0,rfl,px,gd,qq,qe⟩:=h
 have hu64:=hr.units
 refine ⟨_,(z_e (y_z (z_k G_look_small (hr.mono (by first | decide | lia)) rfl T.M_look_small T.F_look_small.kp T.B_look_small .nil passF (z_a (pv 0) (z_a (pv 1) z_c))))
  (PSs.nox (z_e (ps_if (PW.pt (pw_or (pt_not (y_t (z_q (x_h (T := "list")) rfl T.isinstance PyProof.Rows.boot_isinstance (z_a (pv 2) (z_a (pe_bltn (v:=.ty "list") rfl T.list PyProof.Rows.boot_list rfl) z_c))) (fun _=>rfl))) (pw_or1 (pt_not (y_t (z_q call_all0 rfl T.all PyProof.Rows.boot_all (z_a (pe_comp [0,1] (fun _ _ h=>h) rfl (z_x (pv 2)) (fun _ _ _ _=>x_a) (fun _ _ _ _=>(z_k G_is_joint_stand (hr.mono (by first | decide | lia)) rfl T.M_is_joint_stand T.F_is_joint_stand.kp T.B_is_joint_stand .nil pass0 (z_a (pv 1) (z_a (pv 2) (z_a (pv 0) z_c))))) rfl (show ∀ j∈([0,1]:List Nat),j<6 by decide) (show (["joint", "one", "other"]:List Str).Nodup by decide +kernel)) z_c)) (fun _=>rfl)))))) (z_h (z_t pe_bl)) y_l)
  (z_e (z_n (i:=3) sc_is_table.nd rfl (Or.inr rfl) (pe_callTy (call_dicP (P:=P) (w:=w) rfl rfl rfl hu64) rfl T.dict PyProof.Rows.boot_dict (z_a (pe_comp [] (fun _ _ h=>h) rfl (z_x (pv 2)) (fun _ _ _ _=>x_a) (fun _ _ _ _=>(y_m (z_a (pv 0) (z_a pe_bl z_c)))) rfl (show ∀ j∈([]:List Nat),j<6 by decide) (show (["joint"]:List Str).Nodup by decide +kernel)) z_c)))
  (z_e (ps_if (PW.pt (pw_or (y_d op_lt (z_q (call_lenN (P:=P) (w:=w) rfl rfl) rfl T.len PySem.boot_len (z_a (pv 3) z_c)) (z_q x_k rfl T.len PySem.boot_len (z_a (pv 2) z_c)) (nomark _)) (pw_or1 (pt_cmp (pc_nnotin (P:=P) (w:=w) rfl rfl hu64 (z_k G_first_joint_stand (hr.mono (by first | decide | lia)) rfl T.M_first_joint_stand T.F_first_joint_stand.kp T.B_first_joint_stand .nil pass0 (z_a (pv 0) (z_a (pv 1) z_c))) (pv 3)))))) (z_h (z_t pe_bl)) y_l)
  (z_e (ps_for PassesOwn.never rfl (z_x (pv 2)) (y_c (i:=4) sc_is_table.nd rfl (Or.inl rfl))
    (z_e (z_n (i:=5) sc_is_table.nd rfl (Or.inl rfl) (z_k G_beats_from (hr.mono (by first | decide | lia)) rfl T.M_beats_from T.F_beats_from.kp T.B_beats_from .nil pass0 (z_a (pv 0) (z_a (pv 1) (z_a (pv 4) z_c)))))
  (z_h (ps_if (PW.pt (pw_or (y_d op_ne (z_u z_p (pv 5) z_g (fun _ _=>rfl)) z_g (nomark _)) (pw_or1 (pt_not (y_t (z_q call_all0 rfl T.all PyProof.Rows.boot_all (z_a (pe_compG ["number", "later"] [3] (fun _ _ h=>h) rfl (z_x (z_u z_p (pv 5) z_g (fun _ _=>rfl))) (fun _ _ _ _=>(pg_tup0 rfl (x_g (y_c (i:=0) (show (["number", "later", "known"]:List Str).Nodup by decide +kernel) rfl (Or.inl rfl)) (x_g (y_c (i:=1) (show (["number", "later", "known"]:List Str).Nodup by decide +kernel) rfl (Or.inl rfl)) pgs_nil)))) shp_tup2 (fun _ _ _ _=>x_a) (fun _ _ _ _=>(pe_cmp (pc_nin (P:=P) (w:=w) rfl rfl hu64 (pv 1) (pv 2)))) rfl (show ∀ j∈([3]:List Nat),j<6 by decide)) z_c)) (fun _=>rfl)))))) (z_h (z_t pe_bl)) y_l))))
  (z_h (z_t pe_bl)))))))),?_⟩
 by_cases hS:OkS U W
 rotate_left
 ·exact ⟨_,rfl,_,rfl,v,v',U,W,rfl,px.wk,fun z=>absurd z hS,fun _=>qe hS⟩
 have T2:=px.two hS
 obtain ⟨dt,hD,tm⟩:=gd
 have hwd:=tm.wd
 have hcm:True:=trivial
 obtain ⟨b,hb⟩:∃ b:Bool,b=true↔TabD U W dt:=⟨@decide _ (Classical.propDecidable _),@decide_eq_true_iff _ (Classical.propDecidable _)⟩
 have q:∀ H',Same H H'->Q (.bl b) H':=fun H' s=>qq hS b H' s
 clear tm
 have nf:¬TabD U W dt->b=false:=fun h=>by
  cases b with
  | false=>rfl
  | true=>exact absurd (hb.mp rfl) h
 refine ⟨_,rfl,_,rfl,v,v',U,W,rfl,px.wk,fun _=>?_,fun n=>absurd hS n⟩
 obtain ⟨t,ty,_,_,_,_,k5⟩:=hD.ty (K:=K)
 refine ⟨_,rfl,t0,t,_,rfl,ty,k5,_,rfl,?_⟩
 cases dt with
 | list ds =>
  obtain ⟨l,xs,rfl,hl,hds⟩:=hD.lstI
  obtain ⟨hw1,hw2⟩:=hwd.lst
  refine y_r rfl ⟨_,rfl,l,rfl,⟨_,SqL.of hl⟩,comp_datL (jtD U.boxes.length W.boxes.length) hl hds (by lia) (fun e x H' he hx s' N n=>⟨_,rfl,_,rfl,_,rfl,v,v',U,W,e,x,rfl,T2.same s',hx.same s',hw2 e he,n⟩) fun H1 s1 p1 hp1=>⟨rfl,p1,ds.map (jtD U.boxes.length W.boxes.length),rfl,SqL.of z_b,?_⟩⟩
  rw [all_bls]
  have s2:=s1.trans (z_d hp1 (.lst ((ds.map (jtD U.boxes.length W.boxes.length)).map V.bl)))
  cases hall0:ds.all (jtD U.boxes.length W.boxes.length) with
  | false =>
   refine ⟨_,rfl,x_m rfl ?_⟩
   rw [<-nf (not_tab hall0)]
   exact q _ s2
  | true =>
   refine ⟨_,rfl,y_r rfl ?_⟩
   obtain ⟨L,rfl,hJ⟩:=all_jtD hall0
   obtain ⟨rs,rfl,pr⟩:=dats_jk hds
   have hb:=hb.trans tabD_list
   have lrs:=Paired.length pr
   rw [List.length_map] at hw1
   show tSeq _ _ _ [some (.ref v),some (.ref v'),some (.ref l),none,none,none] (upd H1 p1 (.lst (((L.map dJ).map (jtD U.boxes.length W.boxes.length)).map V.bl)))
   generalize upd H1 p1 (.lst (((L.map dJ).map (jtD U.boxes.length W.boxes.length)).map V.bl))=H2 at s2 ⊢
   clear s1 hp1 hall0 hwd hcm hw2 hds hD ty k5
   have hl2:=s2 _ _ hl
   have pr2:=z_r (fun _ _ h=>JK.same s2 h) pr
   obtain ⟨M,hM1,hM2,hM3⟩:=nl_of pr2 (.bl true)
   have lM:=Paired.length hM2
   refine ⟨_,rfl,l,rfl,⟨_,SqL.of hl2⟩,comp_newJ M PrA (fun _ _ _ _ s h=>⟨s _ _ h.1,h.2.same s⟩) (SqL.of hl2) (by rw [List.length_map];lia) (by lia) (fun i x p H' hx hp s' N n=>?_) fun ts H3 s3 _ prs pl hpl=>?_⟩
   ·rw [<-hM1,List.getElem?_map,List.getElem?_map,hp] at hx
    cases hx
    obtain ⟨j,_,hj1,hj2⟩:=pairedGet hM2 hp
    exact ⟨_,rfl,(by show 2<=sizeLine;decide),fun t ht=>n t _ ht (z_d ht _) ⟨by rw [z_b,hM3 p (List.mem_of_getElem? hp)],by rw [hj1];exact ((hj2.same s').same (z_d ht _)).nkey⟩⟩
   have s4:=z_d hpl (.lst (ts.map V.ref))
   refine ⟨pl,ts,M,rfl,z_b,z_r (fun _ _ h=>⟨s4 _ _ h.1,h.2.same s4⟩) prs,by lia,fun d hd=>?_⟩
   have s5:=z_d hd (NDO P w d (ptN M))
   have S5:=s3.trans (s4.trans s5)
   have M5:=z_r (fun _ _ h=>show NJ (upd (upd H3 pl (.lst (ts.map V.ref))) d (NDO P w d (ptN M))) _ _ from ⟨h.1,JK.same S5 h.2⟩) hM2
   have D5:ND P w (upd (upd H3 pl (.lst (ts.map V.ref))) d (NDO P w d (ptN M))) d (ptN M):=nd_pt M5 z_b
   have key:∀ j,(valN (ptN M) (jk j)).isSome=decide (j∈L):=ptN_key M5
   have few:=ptN_few M5
   have hl5:=S5 _ _ hl2
   have S5':=s2.trans S5
   show tSeq _ _ _ [some (.ref v),some (.ref v'),some (.ref l),some (.ref d),none,none] (upd (upd H3 pl (.lst (ts.map V.ref))) d (NDO P w d (ptN M)))
   generalize upd (upd H3 pl (.lst (ts.map V.ref))) d (NDO P w d (ptN M))=H5 at D5 hl5 S5' M5 ⊢
   clear s4 s5 S5 hd hpl prs s3 hl2 pr2 s2 hM1 hM2 hM3 M5
   refine ⟨_,rfl,d,_,rfl,D5,_,rfl,_,_,rfl,.inl ⟨_,SqL.of hl5,rfl⟩,_,_,rfl,rfl,_,rfl,?_⟩
   by_cases nd:L.Nodup
   rotate_left
   ·refine x_m (decide_eq_true (by rw [List.length_map,lrs];exact Int.ofNat_lt.mpr (few.mpr nd))) ?_
    rw [<-nf (fun z=>nd (tabD_list.mp z).1)]
    exact q _ S5'
   refine y_r (decide_eq_false (by rw [List.length_map,lrs];exact fun z=>few.mp (Int.ofNat_lt.mp z) nd)) ⟨_,rfl,_,rfl,v,v',U,W,rfl,T2.same S5',fun k0 H6 _ s6 J6=>?_⟩
   have D6:=D5.same s6
   have S6:=S5'.trans s6
   refine ⟨_,rfl,d,k0,_,jk (firJ U W),rfl,rfl,D6,J6.nkey,_,rfl,?_⟩
   by_cases hf:firJ U W∈L
   rotate_left
   ·refine x_m (by rw [key,decide_eq_false hf];rfl) ?_
    rw [<-nf (fun z=>hf (tabD_list.mp z).2.2.2.1)]
    exact q _ S6
   refine y_r (by rw [key,decide_eq_true hf];rfl) ?_
   have hl6:=S6 _ _ hl
   have pr6:=z_r (fun _ _ h=>JK.same S6 h) pr
   clear J6 hl5 S5' D5 s6
   refine ⟨_,rfl,l,rfl,⟨_,SqL.of hl6⟩,for_list (xs:=rs.map V.ref) (fun i σ H'=>∃ x4 x5:Option V,σ=[some (.ref v),some (.ref v'),some (.ref l),some (.ref d),x4,x5]/\Same H6 H'/\∀ (n:Nat) (j:Jn),n<i->L[n]? = some j->¬badJ U W j/\∀ i',stJ U W j i'->i'∈L) ⟨_,_,rfl,Same.refl _,fun n j hn=>absurd hn (Nat.not_lt_zero _)⟩ ?_ ?_ ?_⟩
   ·rintro i σ H' _ ⟨_,_,_,s',_⟩
    exact SqL.of (s' _ _ hl6)
   ·rintro i x σ H7 hx ⟨x4,x5,rfl,s7,hcl⟩
    rw [List.getElem?_map] at hx
    obtain ⟨r,hr1,rfl⟩:=Option.map_eq_some_iff.mp hx
    obtain ⟨j,hj,hk⟩:=pairedGet pr6 hr1
    have hjL:=List.mem_of_getElem? hj
    have S7:=S6.trans s7
    refine ⟨_,rfl,_,rfl,_,rfl,v,v',r,U,W,j,rfl,T2.same S7,hk.same s7,hJ j hjL,fun pt l2 r2 lats H8 hlf s8 e1 e2 p2 hll hz2 hall=>?_⟩
    have D8:=(D6.same s7).same s8
    have ll:=Paired.length p2
    refine ⟨_,rfl,pt,_,_,_,rfl,rfl,SqT.of e1,rfl,rfl,_,rfl,?_⟩
    by_cases hbad:badJ U W j
    ·refine x_m (by rw [decide_eq_false (fun y=>hbad (by injection y with y;exact Int.ofNat_inj.mp y))];rfl) ?_
     refine x_m rfl ?_
     rw [<-nf (fun z=>(tabD_list.mp z).2.2.1 j hjL hbad)]
     exact q _ (S7.trans s8)
    have hu:unl (U.ow (2^U.ins) (sdJ U.ins j.1)) (W.ow (2^U.ins) (sdJ U.ins j.2))=0:=Decidable.not_not.mp hbad
    rw [hu] at e1 ⊢
    refine y_r rfl ⟨_,rfl,pt,_,_,_,rfl,rfl,SqT.of e1,rfl,l2,rfl,⟨_,SqL.of e2⟩,comp_listG (xs:=r2.map V.ref) (fun i ys H'=>H8=H'/\ys=((lats.take i).map fun z=>decide (z.2∈L)).map V.bl) ⟨rfl,rfl⟩ ?_ ?_ ?_ ?_⟩
    ·rintro i ys H' _ ⟨rfl,_⟩
     exact SqL.of e2
    ·rintro i ys H' _ ⟨rfl,rfl⟩
     rw [List.length_map,List.length_map,List.length_take]
     exact y_u (by lia)
    ·rintro i x ys H' os ho hx ⟨rfl,rfl⟩
     rw [List.getElem?_map] at hx
     obtain ⟨r',hr2,rfl⟩:=Option.map_eq_some_iff.mp hx
     obtain ⟨lz,hlz,kk,hrk,Jk⟩:=pairedGet p2 hr2
     obtain ⟨y0,y1,rfl⟩:=two_of ho
     refine ⟨r',_,rfl,SqT.of hrk,rfl,_,_,rfl,_,_,rfl,rfl,?_⟩
     unfold tYes
     refine iteT ⟨_,rfl,_,rfl,d,kk,_,jk lz.2,rfl,rfl,D8,Jk.nkey,rfl,?_⟩
     rw [List.take_add_one,hlz,List.map_append,List.map_append,key]
     show _++[V.bl (false ^^ decide (lz.2∈L))]=_++[V.bl (decide (lz.2∈L))]
     rw [Bool.false_xor]
    ·rintro ys H' ⟨rfl,rfl⟩ pb hpb
     rw [List.length_map,ll,List.take_length]
     refine ⟨rfl,pb,_,rfl,SqL.of z_b,?_⟩
     have s9:=z_d hpb (.lst ((lats.map fun z=>decide (z.2∈L)).map V.bl))
     by_cases c:∀ z∈lats,z.2∈L
     ·rw [show (lats.map fun z=>decide (z.2∈L)).all id=true by rw [List.all_map,List.all_eq_true];exact fun z hz=>decide_eq_true (c z hz)]
      refine ⟨_,rfl,y_r rfl ?_⟩
      refine ⟨_,_,rfl,s7.trans (s8.trans s9),fun n j' hn hj'=>?_⟩
      by_cases hni:n<i
      ·exact hcl n j' hni hj'
      ·have:n=i:=by lia
       subst this
       rw [hj] at hj'
       cases hj'
       refine ⟨hbad,?_⟩
       rintro i' ⟨r'',hr'',rfl⟩
       obtain ⟨z,hz,hz2'⟩:=hall r'' hr''
       rw [<-hz2']
       exact c z hz
     ·have hn:(lats.map fun z=>decide (z.2∈L)).all id=false:=by
       cases e:(lats.map fun z=>decide (z.2∈L)).all id with
       | false=>rfl
       | true =>
        rw [List.all_map,List.all_eq_true] at e
        exact absurd (fun z hz=>of_decide_eq_true (e z hz)) c
      rw [hn]
      refine ⟨_,rfl,x_m rfl ?_⟩
      rw [<-nf (fun y=>c fun z hz=>(tabD_list.mp y).2.2.2.2 j hjL z.2 ⟨z.1,(hz2 z hz).1,(hz2 z hz).2⟩)]
      exact q _ (S7.trans (s8.trans s9))
   ·rintro σ H7 ⟨x4,x5,rfl,s7,hcl⟩
    rw [List.length_map,lrs] at hcl
    have at_:∀ j∈L,¬badJ U W j/\∀ i',stJ U W j i'->i'∈L:=fun j hj=>by
     obtain ⟨n,hn⟩:=List.getElem?_of_mem hj
     exact hcl n j (List.getElem?_eq_some_iff.mp hn).1 hn
    have hbt:b=true:=hb.mpr ⟨nd,hJ,fun j hj=>(at_ j hj).1,hf,fun j hj=>(at_ j hj).2⟩
    rw [<-hbt]
    exact q _ (S6.trans s7)
 | _ =>
  refine x_m rfl ?_
  rw [<-nf (fun z=>by obtain ⟨L,e,_⟩:=z;cases e)]
  exact q _ (Same.refl _)
theorem ok_way_to(T:Tx w K mg A):FnOk P w K mg base CX0 1 A.a_way_to A.d_way_to ["came", "joint"] (way_j P w):=by
 refine T.F_way_to.ok sc_way_to (fun vs H Q E h=>?_) (fun cdv A' outer s H vs Q E hr h=>?_)
 ·obtain ⟨ca,k,N,L,z,rfl,hD,hV,hk,hz,hb,q⟩:=h
  rfl
 obtain ⟨ca,k,N,L,z,rfl,hD,hV,hk,hz,hb,q⟩:=h
 have hu64:=hr.units
 refine ⟨_,(z_e (z_n (i:=2) sc_way_to.nd rfl (Or.inl rfl) (x_c z_c))
  (z_e (ps_while PassesOwn.never (y_d op_notN (pe_nget (P:=P) (w:=w) rfl rfl hu64 (pv 0) (pv 1) (fun _ _=>rfl)) pe_non (nomark _))
    (z_e (y_z (pe_bmN PySem.F.plainAttrs_list PySem.F.slot_list_append PySem.F.type_list_append y_q (pv 2) (z_a (z_u z_p (pe_nget (P:=P) (w:=w) rfl rfl hu64 (pv 0) (pv 1) (fun _ _=>rfl)) z_g (fun _ _=>rfl)) z_c)))
  (z_h (z_n (i:=1) sc_way_to.nd rfl (Or.inl rfl) (z_u z_p (pe_nget (P:=P) (w:=w) rfl rfl hu64 (pv 0) (pv 1) (fun _ _=>rfl)) z_g (fun _ _=>rfl))))))
  (z_e (y_z (pe_bm00 PySem.F.plainAttrs_list PySem.F.slot_list_reverse PySem.F.type_list_reverse mt_reverse (pv 2)))
  (z_h (z_t (pv 2)))))),?_⟩
 refine ⟨(by show 0<=sizeLine;decide),fun p hp=>?_⟩
 refine while_by (fun σ H'=>∃ (k':Addr) (z':Jn×Nat) (ns:List Nat),σ=[some (.ref ca),some (.ref k'),some (.ref p)]/\Same H H'/\H' p=some (.lst (nV ns))/\JK H' k' z'.1/\z'∈L/\ns.length+z'.2=z.2/\∀ n∈ns,n<64) (fun σ H'=>match H' p with | some (.lst xs)=>100000-xs.length | _=>0) ⟨k,z,[],rfl,z_d hp _,z_b,hk.same (z_d hp _),hz,by simp,by simp⟩ ?_ ?_
 ·rintro σ H1 ⟨k',z',ns,rfl,s1,f1,hk',hz',hl,hn⟩
  have hbz:=hb z hz
  have D1:=hD.same s1
  rcases hV z' hz' with ⟨h0,hv⟩ | ⟨pp,qq,r,z2,hv,h2,h3,h4,h5,h6⟩
  ·refine ⟨_,rfl,_,rfl,ca,k',N,jk z'.1,.non,rfl,rfl,D1,hk'.nkey,hv,rfl,_,rfl,?_⟩
   refine y_r rfl ?_
   refine ⟨_,rfl,.inl ⟨rfl,_,SqL.of f1⟩,p,_,rfl,rfl,f1,?_⟩
   refine ⟨_,rfl,?_⟩
   refine q p ns.reverse _ hp (y_y s1 hp _) ?_ (by rw [List.length_reverse];lia) fun n h=>hn n (List.mem_reverse.mp h)
   rw [z_b]
   unfold nV
   rw [List.map_reverse]
  ·refine ⟨_,rfl,_,rfl,ca,k',N,jk z'.1,.ref pp,rfl,rfl,D1,hk'.nkey,hv,rfl,_,rfl,?_⟩
   refine x_m rfl ?_
   refine ⟨_,rfl,.inl ⟨rfl,_,SqL.of f1⟩,_,rfl,_,rfl,ca,k',N,jk z'.1,_,rfl,rfl,D1,hk'.nkey,hv,pp,_,_,_,rfl,rfl,SqT.of (s1 _ _ h2),rfl,p,_,_,rfl,rfl,f1,y_u (by rw [z_v];lia),?_⟩
   have S2:=y_y s1 hp (.lst (nV ns++[.int (r:Int)]))
   have hk2:JK (upd H1 p (.lst (nV ns++[.int (r:Int)]))) k' z'.1:=hk'.tups fun c xs e=>by rw [z_m (fun y=>by rw [y,f1] at e;cases e)];exact e
   refine ⟨_,rfl,_,rfl,ca,k',N,jk z'.1,_,rfl,rfl,hD.same S2,hk2.nkey,hv,pp,_,_,_,rfl,rfl,SqT.of (S2 _ _ h2),rfl,?_⟩
   have e5:nV ns++[V.int (r:Int)]=nV (ns++[r]):=by unfold nV;rw [List.map_append];rfl
   refine ⟨⟨qq,z2,ns++[r],rfl,S2,by rw [z_b,e5],h3.same S2,h4,by rw [List.length_append];simp;lia,fun n h=>?_⟩,?_⟩
   ·rcases List.mem_append.mp h with h | h
    ·exact hn n h
    ·rw [List.mem_singleton.mp h];exact h6
   ·have e6:(upd H1 p (.lst (nV ns++[.int (r:Int)]))) p=some (.lst (nV ns++[.int (r:Int)])):=z_b
    try dsimp only
    rw [e6,f1]
    try dsimp only
    rw [List.length_append,z_v]
    simp
    lia
 ·rintro σ H' Q Q' m ⟨x1,e1,x2,e2,a,b,L',k',v,h1,h2,h3,h4,h5,h6,b',h7,c⟩
  exact ⟨x1,e1,x2,e2,a,b,L',k',v,h1,h2,h3,h4,h5,h6,b',h7,m _ _ c⟩
theorem ok_meet(T:Tx w K mg A)(G_look_small:FnOk P w K mg base (CXF P w) 2 A.a_look_small A.d_look_small ["one", "other"] (look_x A.c_NoPair OkS))(G_first_joint_stand:FnOk P w K mg base CX0 2 A.a_first_joint_stand A.d_first_joint_stand ["one", "other"] firj_sp)(G_beats_from:FnOk P w K mg base CX0 3 A.a_beats_from A.d_beats_from ["one", "other", "joint"] from_j)(G_way_to:FnOk P w K mg base CX0 1 A.a_way_to A.d_way_to ["came", "joint"] (way_j P w))(G_least_beat:FnOk P w K mg base CX0 1 A.a_least_beat A.d_least_beat ["beats"] sp_least_beat)(G_bits_of:FnOk P w K mg base CX0 1 A.a_bits_of A.d_bits_of ["number", "width"] bits_of_j):FnOk P w K mg base (CXF P w) 4 A.a_meet A.d_meet ["one", "other", "most"] (meet_x A.c_NoPair):=by
 refine T.F_meet.okF sc_meet (fun vs H Q E h=>?_) (fun cdv A' outer s H vs Q E hr h=>?_)
 ·obtain ⟨w',v',U,W,mo,rfl,px,qq,qe⟩:=h
  rfl
 obtain ⟨w',v',U,W,mo,rfl,px,qq,qe⟩:=h
 have hu64:=hr.units
 refine ⟨_,(z_e (y_z (z_k G_look_small (hr.mono (by first | decide | lia)) rfl T.M_look_small T.F_look_small.kp T.B_look_small .nil passF (z_a (pv 0) (z_a (pv 1) z_c))))
  (PSs.nox (z_e (z_n (i:=3) sc_meet.nd rfl (Or.inl rfl) (x_c (z_a (z_k G_first_joint_stand (hr.mono (by first | decide | lia)) rfl T.M_first_joint_stand T.F_first_joint_stand.kp T.B_first_joint_stand .nil pass0 (z_a (pv 0) (z_a (pv 1) z_c))) z_c)))
  (z_e (z_n (i:=4) sc_meet.nd rfl (Or.inl rfl) (pe_ndisp (P:=P) (w:=w) rfl rfl hu64 (pps_cons (z_u y_b (pv 3) z_g (fun _ _=>rfl)) pe_non pps_nil) rfl rfl (by simp) (by decide)))
  (z_e (z_n (i:=5) sc_meet.nd rfl (Or.inl rfl) z_g)
  (z_e (ps_while PassesOwn.never (y_d op_lt (pv 5) (z_q x_k rfl T.len PySem.boot_len (z_a (pv 3) z_c)) (nomark _))
    (z_e (z_n (i:=6) sc_meet.nd rfl (Or.inl rfl) (z_u y_b (pv 3) (pv 5) (fun _ _=>rfl)))
  (z_e (z_n (i:=7) sc_meet.nd rfl (Or.inl rfl) (z_k G_beats_from (hr.mono (by first | decide | lia)) rfl T.M_beats_from T.F_beats_from.kp T.B_beats_from .nil pass0 (z_a (pv 0) (z_a (pv 1) (z_a (pv 6) z_c)))))
  (z_e (ps_if (y_d op_ne (z_u z_p (pv 7) z_g (fun _ _=>rfl)) z_g (nomark _)) (z_e (z_n (i:=8) sc_meet.nd rfl (Or.inl rfl) (y_a op_cat (z_k G_way_to (hr.mono (by first | decide | lia)) rfl T.M_way_to T.F_way_to.kp T.B_way_to .nil pass0 (z_a (pv 4) (z_a (pv 6) z_c))) (x_c (z_a (z_k G_least_beat (hr.mono (by first | decide | lia)) rfl T.M_least_beat T.F_least_beat.kp T.B_least_beat .nil pass0 (z_a (z_u z_p (pv 7) z_g (fun _ _=>rfl)) z_c)) z_c))))
  (z_h (z_t (y_m (z_a pe_str (z_a (pe_comp [0] (fun _ _ h=>h) rfl (z_x (pv 8)) (fun _ _ _ _=>x_a) (fun _ _ _ _=>(z_k G_bits_of (hr.mono (by first | decide | lia)) rfl T.M_bits_of T.F_bits_of.kp T.B_bits_of .nil pass0 (z_a (pv 0) (z_a (z_u z_p (pv 1) z_g (fun _ _=>rfl)) z_c)))) rfl (show ∀ j∈([0]:List Nat),j<11 by decide) (show (["number", "one"]:List Str).Nodup by decide +kernel)) z_c)))))) y_l)
  (z_e (ps_for PassesOwn.never rfl (z_x (z_u z_p (pv 7) z_g (fun _ _=>rfl))) (pg_tup0 rfl (x_g (y_c (i:=9) sc_meet.nd rfl (Or.inl rfl)) (x_g (y_c (i:=10) sc_meet.nd rfl (Or.inl rfl)) pgs_nil)))
    (z_h (ps_if (pt_cmp (pc_nnotin (P:=P) (w:=w) rfl rfl hu64 (pv 10) (pv 4))) (z_e (ps_if (y_d op_ge (z_q x_k rfl T.len PySem.boot_len (z_a (pv 3) z_c)) (pv 2) (nomark _)) (z_h (z_t (y_m (z_a pe_str (z_a (pv 2) z_c))))) y_l)
  (z_e (ps_nput (P:=P) (w:=w) rfl rfl hu64 (pv 4) (pv 10) (y_m (z_a (pv 6) (z_a (pv 9) z_c))) rfl)
  (z_h (y_z (pe_bmN PySem.F.plainAttrs_list PySem.F.slot_list_append PySem.F.type_list_append y_q (pv 3) (z_a (pv 10) z_c)))))) y_l)))
  (z_h (z_n (i:=5) sc_meet.nd rfl (Or.inl rfl) (y_a op_add (pv 5) z_g))))))))
  (z_h (z_t (y_m (z_a pe_str (z_a (pv 3) z_c))))))))))),?_⟩
 by_cases hS:OkS U W
 rotate_left
 ·exact ⟨_,rfl,_,rfl,w',v',U,W,rfl,px.wk,fun z=>absurd z hS,fun _=>qe hS⟩
 have T2:=px.two hS
 have q1:∀ p H' (L:List Jn),Same H H'->H' p=some (.tup [.str "open",.int (mo:Int)])->L.Nodup->(∀ j∈L,∃ k,Rk (stJ U W) (firJ U W) k j)->mo<L.length->Q (.ref p) H':=fun p H' L s e _ _ _=>qq hS p _ _ H' s e
 have q2:∀ p l rs d H',Same H H'->H' p=some (.tup [.str "part",.ref l])->H' l=some (.lst (List.map V.ref rs))->rs.length=d+1->Least (stJ U W) (firJ U W) (badJ U W) d->Q (.ref p) H':=fun p l rs d H' s e _ _ _=>qq hS p _ _ H' s e
 have q3:∀ p l rs (L:List Jn) H',Same H H'->H' p=some (.tup [.str "alike",.ref l])->H' l=some (.lst (List.map V.ref rs))->Paired (JK H') rs L->L.Nodup->(∀ j,j∈L↔∃ k,Rk (stJ U W) (firJ U W) k j)->(∀ j∈L,¬badJ U W j)->L.length<=65536->Q (.ref p) H':=fun p l rs L H' s e _ _ _ _ _ _=>qq hS p _ _ H' s e
 have hb6:=T2.ok.ins
 have nbU:=T2.ok.nb
 have nbW:=T2.ok'.nb
 have pw16:2^(U.boxes.length+W.boxes.length)<=65536:=Nat.le_trans (Nat.pow_le_pow_right (by decide) (show _<=16 by lia)) (by decide)
 refine ⟨_,rfl,_,rfl,w',v',U,W,rfl,px.wk,fun _=>?_,fun n=>absurd hS n⟩
 refine ⟨_,rfl,_,rfl,w',v',U,W,rfl,T2,fun k0 H1 hk0 s1 J1=>?_⟩
 refine ⟨(by show 1<=sizeLine;decide),fun jl hjl=>?_⟩
 have hjlH:=s1.free hjl
 have s2:=s1.trans (z_d hjl (.lst [.ref k0]))
 have J2:=J1.same (z_d hjl (.lst [.ref k0]))
 have f2:=z_b (H:=H1) (a:=jl) (o:=.lst [.ref k0])
 show tSeq _ _ _ _ (upd H1 jl (.lst [.ref k0]))
 generalize upd H1 jl (.lst [.ref k0])=H2 at s2 J2 f2 ⊢
 refine fun ca hca=>?_
 have hcaH:=s2.free hca
 have t3:=z_d hca (NDO P w ca [])
 refine ⟨_,rfl,jl,_,_,_,rfl,rfl,SqL.of (t3 _ _ f2),rfl,k0,jk (firJ U W),.non,rfl,z_b,(J2.same t3).nkey,?_⟩
 have K3:=Kn.start (P:=P) (w:=w) z_b (J2.same t3) .non
 have S3:=y_y (s2.trans t3) hcaH (NDO P w ca (putN [] (jk (firJ U W)) k0 .non))
 have njc:jl≠ca:=fun e=>by rw [<-e,f2] at hca;cases hca
 have f3:(upd (upd H2 ca (NDO P w ca [])) ca (NDO P w ca (putN [] (jk (firJ U W)) k0 .non))) jl=some (.lst [.ref k0]):=by rw [z_m njc];exact t3 _ _ f2
 have J3:=(J2.same t3).tups (nd_tup (N':=putN [] (jk (firJ U W)) k0 .non) z_b)
 show tSeq _ _ _ _ (upd (upd H2 ca (NDO P w ca [])) ca (NDO P w ca (putN [] (jk (firJ U W)) k0 .non)))
 generalize upd (upd H2 ca (NDO P w ca [])) ca (NDO P w ca (putN [] (jk (firJ U W)) k0 .non))=H3 at K3 S3 f3 J3 ⊢
 clear t3 hca J2 f2 s2 hjl J1 s1
 refine while_by (fun σ H'=>∃ (a:Nat) (rs:List Addr) (L:List (Jn×Nat)) (N:NL) (x6 x7 x8 x9 x10:Option V),σ=[some (.ref w'),some (.ref v'),some (.int (mo:Int)),some (.ref jl),some (.ref ca),some (.int (a:Int)),x6,x7,x8,x9,x10]/\Same H H'/\H' jl=some (.lst (rs.map V.ref))/\Paired (fun r (z:Jn×Nat)=>JK H' r z.1) rs L/\Kn P w H' ca N (L.map (·.1))/\(∀ z∈L,CmV H' N L z)/\Bf (stJ U W) (firJ U W) L a/\(∀ (i:Nat) (y:Jn×Nat),i<a->L[i]? = some y->¬badJ U W y.1)/\(∀ z∈L,Jt U.boxes.length W.boxes.length z.1)/\(∀ z∈L,z.2<L.length)/\a<=L.length) (fun σ H'=>70000-slN σ 5) ⟨0,[k0],[(firJ U W,0)],_,_,_,_,_,_,rfl,S3,f3,.cons J3 .nil,K3,?_,Bf.start,(fun i y hi=>absurd hi (Nat.not_lt_zero _)),?_,?_,Nat.zero_le _⟩ ?_ ?_
 ·intro z hz
  rw [List.mem_singleton.mp hz]
  exact .inl ⟨rfl,by rw [valN_new rfl,if_pos rfl]⟩
 ·intro z hz
  rw [List.mem_singleton.mp hz]
  exact firJ_jt T2.ok T2.ok'
 ·intro z hz
  rw [List.mem_singleton.mp hz]
  exact Nat.one_pos
 ·rintro σ H4 ⟨a,rs,L,N,x6,x7,x8,x9,x10,rfl,S4,f4,pr,K4,V4,B4,hnb,hJt,hd,haL⟩
  have lrs:=Paired.length pr
  have lL:L.length<=65536:=by
   have h:=joints_len B4.nd (fun j hj=>by obtain ⟨z,hz,rfl⟩:=List.mem_map.mp hj;exact hJt z hz)
   rw [List.length_map] at h
   lia
  refine ⟨_,rfl,_,rfl,_,_,rfl,.inl ⟨_,SqL.of f4,rfl⟩,_,_,rfl,rfl,_,rfl,?_⟩
  by_cases ha:a<L.length
  ·refine x_m (decide_eq_true (by rw [List.length_map];lia)) ?_
   have hx:L[a]? = some L[a]:=List.getElem?_eq_getElem ha
   generalize L[a]=z at hx
   have hzL:=List.mem_of_getElem? hx
   obtain ⟨kj,hkj,Jz⟩:=pairedGet' pr hx
   refine ⟨_,rfl,_,rfl,jl,_,_,_,rfl,rfl,SqL.of f4,atI_nat (show (rs.map V.ref)[a]? = some (.ref kj) by rw [List.getElem?_map,hkj];rfl),?_⟩
   refine ⟨_,rfl,_,rfl,_,rfl,w',v',kj,U,W,z.1,rfl,T2.same S4,Jz,hJt z hzL,fun pt l r2 lats H5 hlf s5 e1 e2 p2 hll hz2 hall=>?_⟩
   have f5:=s5 _ _ f4
   have pr5:=z_r (fun _ _ h=>JK.same s5 h) pr
   have K5:=K4.same s5
   have V5:∀ y∈L,CmV H5 N L y:=fun y hy=>(V4 y hy).keep fun c xs e=>s5 _ _ e
   have S5:=S4.trans s5
   have Jz5:=Jz.same s5
   have nlj:l≠jl:=fun e=>by rw [e,f4] at hlf;cases hlf
   have nlc:l≠ca:=fun e=>by rw [e,K4.d.at_] at hlf;cases hlf
   refine ⟨_,rfl,pt,_,_,_,rfl,rfl,SqT.of e1,rfl,rfl,_,rfl,?_⟩
   by_cases hbad:badJ U W z.1
   ·refine x_m ?_ ?_
    ·rw [decide_eq_false (fun y=>hbad (by injection y with y;exact Int.ofNat_inj.mp y))]
     rfl
    refine ⟨_,rfl,_,rfl,ca,kj,N,L,z,rfl,K5.d,V5,Jz5,hzL,(fun y hy=>by have:=hd y hy;lia),fun pn ns H6 hpn s6 f6 hln hn64=>?_⟩
    refine ⟨_,rfl,pt,_,_,_,rfl,rfl,SqT.of (s6 _ _ e1),rfl,_,rfl,Nat.pos_of_ne_zero hbad,fun r hr1 _=>?_⟩
    have hdz:=hd z hzL
    refine ⟨(by show 1<=sizeLine;decide),fun o1 ho1=>?_⟩
    have s7:=z_d ho1 (.lst [.int (r:Int)])
    refine ⟨pn,o1,_,_,rfl,rfl,s7 _ _ f6,z_b,small (by rw [z_v,hln];simp;lia),fun o2 ho2=>?_⟩
    have en:nV ns++[V.int (r:Int)]=nV (ns++[r]):=by unfold nV;rw [List.map_append];rfl
    rw [en]
    have s8:=z_d ho2 (.lst (nV (ns++[r])))
    have f8:=z_b (H:=upd H6 o1 (.lst [.int (r:Int)])) (a:=o2) (o:=.lst (nV (ns++[r])))
    have S8:=S5.trans (s6.trans (s7.trans s8))
    show tSeq _ _ _ _ (upd (upd H6 o1 (.lst [.int (r:Int)])) o2 (.lst (nV (ns++[r]))))
    generalize upd (upd H6 o1 (.lst [.int (r:Int)])) o2 (.lst (nV (ns++[r])))=H8 at s8 f8 S8 ⊢
    obtain ⟨ub,ug,uo,ubs,ugs,hU⟩:=T2.one
    refine ⟨_,rfl,o2,rfl,⟨_,SqL.of f8⟩,comp_new (ns++[r]) (fun n=>.lst (nV ((List.range U.ins).map (bt n)))) (SqL.of f8) z_v (by rw [List.length_append,hln];simp;lia) (fun i x n H' hx hn s' N hN=>?_) fun us H9 s9 _ pu py hpy=>?_⟩
    ·obtain ⟨n',hn',rfl⟩:∃ y,(ns++[r])[i]? = some y/\V.int (y:Int)=x:=by
      unfold nV at hx
      rw [List.getElem?_map] at hx
      exact Option.map_eq_some_iff.mp hx
     rw [hn] at hn'
     cases hn'
     exact ⟨_,rfl,_,rfl,w',_,_,_,rfl,rfl,SqT.of (hU.same (S8.trans s')).w,rfl,n,U.ins,rfl,hb6,fun p H' hp s e=>hN p H' hp s e⟩
    have sy:=z_d hpy (.lst (us.map V.ref))
    refine ⟨(by show 2<=sizeLine;decide),fun p hp=>?_⟩
    have sp:=z_d hp (.tup [.str "part",.ref py])
    exact q2 p py us z.2 _ (S8.trans (s9.trans (sy.trans sp))) z_b (sp _ _ z_b) (by rw [Paired.length pu,List.length_append,hln];rfl) (B4.least hx hbad hnb)
   ·refine y_r ?_ ?_
    ·rw [decide_eq_true]
     ·rfl
     ·exact congrArg V.int (congrArg (fun n:Nat=>(n:Int)) (Classical.not_not.mp hbad))
    have lr2:=Paired.length p2
    refine ⟨_,rfl,pt,_,_,_,rfl,rfl,SqT.of e1,rfl,l,rfl,⟨_,SqL.of e2⟩,for_list (xs:=r2.map V.ref) (fun i σ H'=>∃ (rs:List Addr) (L:List (Jn×Nat)) (N:NL) (x8 x9 x10:Option V),σ=[some (.ref w'),some (.ref v'),some (.int (mo:Int)),some (.ref jl),some (.ref ca),some (.int (a:Int)),some (.ref kj),some (.ref pt),x8,x9,x10]/\Same H H'/\H' jl=some (.lst (rs.map V.ref))/\Paired (fun r (z:Jn×Nat)=>JK H' r z.1) rs L/\Kn P w H' ca N (L.map (·.1))/\(∀ z∈L,CmV H' N L z)/\Bf (stJ U W) (firJ U W) L a/\L[a]? = some z/\(∀ (i:Nat) (y:Jn×Nat),i<a->L[i]? = some y->¬badJ U W y.1)/\(∀ z∈L,Jt U.boxes.length W.boxes.length z.1)/\(∀ z∈L,z.2<L.length)/\H' l=some (.lst (r2.map V.ref))/\Paired (LT2 H') r2 lats/\JK H' kj z.1/\∀ y∈lats.take i,y.2∈L.map (·.1)) ⟨rs,L,N,_,_,_,rfl,S5,f5,pr5,K5,V5,B4,hx,hnb,hJt,hd,e2,p2,Jz5,by simp⟩ ?_ ?_ ?_⟩
    ·rintro i σ H' _ ⟨_,_,_,_,_,_,_,_,_,_,_,_,_,_,_,_,_,e2',_⟩
     exact SqL.of e2'
    ·clear f4 pr K4 V4 B4 hnb hJt hd haL lrs lL ha hx f5 pr5 K5 V5 Jz5 hzL hkj Jz
     clear rs L N
     rintro i v σ H6 hv ⟨rs,L,N,x8,x9,x10,rfl,S6,f6,pr,K6,V6,B6,hx,hnb,hJt,hd,e26,p26,Jz6,hdone⟩
     have lrs:=Paired.length pr
     have lL:L.length<=65536:=by
      have h:=joints_len B6.nd (fun j hj=>by obtain ⟨z,hz,rfl⟩:=List.mem_map.mp hj;exact hJt z hz)
      rw [List.length_map] at h
      lia
     obtain ⟨r,hr1,rfl⟩:∃ r,r2[i]? = some r/\V.ref r=v:=by
      rw [List.getElem?_map] at hv
      exact Option.map_eq_some_iff.mp hv
     obtain ⟨lz,hlz,kk,hrk,Jk⟩:=pairedGet p26 hr1
     obtain ⟨hlt,hnx⟩:=hz2 lz (List.mem_of_getElem? hlz)
     have hst:stJ U W z.1 lz.2:=⟨lz.1,hlt,hnx⟩
     have hl64:lz.1<64:=Nat.lt_of_lt_of_le hlt (Nat.le_trans (Nat.pow_le_pow_right (by decide) hb6) (by decide))
     have hsucc:∀ {M:List Jn},(∀ y∈lats.take i,y.2∈M)->lz.2∈M->∀ y∈lats.take (i+1),y.2∈M:=fun h1 h2 y hy=>by
      rw [List.take_add_one,hlz] at hy
      rcases List.mem_append.mp hy with h | h
      ·exact h1 y h
      ·have:y=lz:=by simpa using h
       rw [this]
       exact h2
     refine ⟨r,_,rfl,SqT.of hrk,rfl,_,_,rfl,_,_,rfl,rfl,?_⟩
     refine ⟨_,rfl,_,rfl,ca,kk,N,jk lz.2,rfl,rfl,K6.d,Jk.nkey,_,rfl,?_⟩
     by_cases hmem:lz.2∈L.map (·.1)
     ·refine y_r (by rw [(K6.key lz.2).mpr hmem];rfl) ?_
      exact ⟨rs,L,N,_,_,_,rfl,S6,f6,pr,K6,V6,B6,hx,hnb,hJt,hd,e26,p26,Jz6,hsucc hdone hmem⟩
     ·have hno:=K6.none hmem
      refine x_m (by rw [hno];rfl) ?_
      refine ⟨_,rfl,_,_,rfl,.inl ⟨_,SqL.of f6,rfl⟩,_,rfl,_,_,rfl,rfl,_,rfl,?_⟩
      by_cases hmo:mo<=L.length
      ·refine x_m (decide_eq_true (by rw [List.length_map];lia)) ?_
       refine ⟨_,rfl,(by show 2<=sizeLine;decide),fun p hp=>?_⟩
       refine q1 p _ (L.map (·.1)++[lz.2]) (S6.trans (z_d hp _)) z_b ?_ (fun j hj=>?_) (by rw [List.length_append,List.length_map];simp;lia)
       ·have B7:=B6.push hx hst hmem
        have e:=B7.nd
        rw [List.map_append] at e
        exact e
       ·rcases List.mem_append.mp hj with h | h
        ·obtain ⟨y,hy,rfl⟩:=List.mem_map.mp h
         exact ⟨_,B6.rch y hy⟩
        ·rw [List.mem_singleton.mp h]
         exact ⟨_,.step (B6.rch z (List.mem_of_getElem? hx)) hst⟩
      ·refine y_r (decide_eq_false (by rw [List.length_map];lia)) ?_
       refine ⟨_,rfl,_,rfl,(by show 2<=sizeLine;decide),fun pv hpv=>?_⟩
       have sv:=z_d hpv (.tup [.ref kj,.int (lz.1:Int)])
       have fv:=z_b (H:=H6) (a:=pv) (o:=.tup [.ref kj,.int (lz.1:Int)])
       have K7:=K6.same sv
       refine ⟨_,rfl,_,rfl,ca,kk,N,jk lz.2,rfl,rfl,K7.d,(Jk.same sv).nkey,Nat.lt_of_le_of_lt (show N.length<=65536 by rw [K6.len,List.length_map];exact lL) (by decide),?_⟩
       have K8:=K7.put hmem (Jk.same sv) (.ref pv)
       have tu:=nd_tup (N':=putN N (jk lz.2) kk (.ref pv)) K7.d.at_
       have S8:=y_y (S6.trans sv) hcaH (NDO P w ca (putN N (jk lz.2) kk (.ref pv)))
       have f8:(upd (upd H6 pv (.tup [.ref kj,.int (lz.1:Int)])) ca (NDO P w ca (putN N (jk lz.2) kk (.ref pv)))) jl=some (.lst (rs.map V.ref)):=by rw [z_m njc];exact sv _ _ f6
       have e28:(upd (upd H6 pv (.tup [.ref kj,.int (lz.1:Int)])) ca (NDO P w ca (putN N (jk lz.2) kk (.ref pv)))) l=some (.lst (r2.map V.ref)):=by rw [z_m nlc];exact sv _ _ e26
       have tu6:∀ c xs,H6 c=some (.tup xs)->(upd (upd H6 pv (.tup [.ref kj,.int (lz.1:Int)])) ca (NDO P w ca (putN N (jk lz.2) kk (.ref pv)))) c=some (.tup xs):=fun c xs e=>tu _ _ (sv _ _ e)
       have fv8:=tu _ _ fv
       show tSeq _ _ _ _ (upd (upd H6 pv (.tup [.ref kj,.int (lz.1:Int)])) ca (NDO P w ca (putN N (jk lz.2) kk (.ref pv))))
       generalize upd (upd H6 pv (.tup [.ref kj,.int (lz.1:Int)])) ca (NDO P w ca (putN N (jk lz.2) kk (.ref pv)))=H8 at K8 S8 f8 e28 tu6 fv8 ⊢
       refine ⟨_,rfl,.inl ⟨rfl,_,SqL.of f8⟩,_,rfl,jl,_,_,rfl,rfl,f8,y_u (by rw [List.length_map];lia),?_⟩
       have tj:∀ c xs,H8 c=some (.tup xs)->(upd H8 jl (.lst (rs.map V.ref++[.ref kk]))) c=some (.tup xs):=fun c xs e=>by rw [z_m (fun y=>by rw [y,f8] at e;cases e)];exact e
       have tA:∀ c xs,H6 c=some (.tup xs)->(upd H8 jl (.lst (rs.map V.ref++[.ref kk]))) c=some (.tup xs):=fun c xs e=>tj _ _ (tu6 _ _ e)
       have hxl:=(List.getElem?_eq_some_iff.mp hx).1
       refine ⟨rs++[kk],L++[(lz.2,z.2+1)],putN N (jk lz.2) kk (.ref pv),_,_,_,rfl,y_y S8 hjlH _,by rw [z_b,List.map_append];rfl,pairedSnoc (R:=fun r (z:Jn×Nat)=>JK (upd H8 jl (.lst (rs.map V.ref++[.ref kk]))) r z.1) (Jk.tups tA) (z_r (fun _ _ h=>JK.tups h tA) pr),?_,fun y hy=>?_,B6.push hx hst hmem,by rw [List.getElem?_append_left hxl];exact hx,fun i y hi hy=>?_,fun y hy=>?_,fun y hy=>?_,by rw [z_m nlj];exact e28,z_r (fun _ _ h=>let ⟨kk',g1,g2⟩:=h;⟨kk',tA _ _ g1,g2.tups tA⟩) p26,Jz6.tups tA,?_⟩
       ·rw [List.map_append]
        exact K8.keep (by rw [z_m (Ne.symm njc)]) tj
       ·rcases List.mem_append.mp hy with h | h
        ·exact ((V6 y h).keep tA).more hno (fun e=>hmem (e▸List.mem_map.mpr ⟨y,h,rfl⟩))
        ·rw [List.mem_singleton.mp h]
         exact .inr ⟨pv,kj,lz.1,z,by rw [valN_new hno,if_pos rfl],tj _ _ fv8,Jz6.tups tA,List.mem_append_left _ (List.mem_of_getElem? hx),rfl,hl64⟩
       ·rw [List.getElem?_append_left (by lia)] at hy
        exact hnb i y hi hy
       ·rcases List.mem_append.mp hy with h | h
        ·exact hJt y h
        ·rw [List.mem_singleton.mp h]
         show Jt _ _ lz.2
         rw [hnx]
         exact nxtJ_jt _ _
       ·rw [List.length_append]
        rcases List.mem_append.mp hy with h | h
        ·have:=hd y h
         simp
         lia
        ·rw [List.mem_singleton.mp h]
         have:=hd z (List.mem_of_getElem? hx)
         simp
         lia
       ·refine hsucc (fun y hy=>?_) ?_
        ·rw [List.map_append]
         exact List.mem_append_left _ (hdone y hy)
        ·rw [List.map_append]
         exact List.mem_append_right _ (List.mem_singleton.mpr rfl)
    ·clear f4 pr K4 V4 B4 haL lrs lL ha f5 pr5 K5 V5 Jz5 hkj Jz
     rintro σ H6 ⟨rs',L',N',x8,x9,x10,rfl,S6,f6,pr,K6,V6,B6,hx',hnb',hJt',hd',e26,p26,Jz6,hdone⟩
     rw [List.length_map,lr2,List.take_length] at hdone
     refine ⟨_,rfl,_,_,rfl,rfl,?_⟩
     have ha':=(List.getElem?_eq_some_iff.mp hx').1
     have lL:L'.length<=65536:=by
      have h:=joints_len B6.nd (fun j hj=>by obtain ⟨z,hz,rfl⟩:=List.mem_map.mp hj;exact hJt' z hz)
      rw [List.length_map] at h
      lia
     refine ⟨⟨a+1,rs',L',N',some (.ref kj),some (.ref pt),x8,x9,x10,?_,S6,f6,pr,K6,V6,B6.turn hx' (fun j ⟨r,hr',e⟩=>?_),fun i y hi hy=>?_,hJt',hd',ha'⟩,?_⟩
     ·dsimp only
      rw [show ((a:Nat):Int)+1=((a+1:Nat):Int) by lia]
      rfl
     ·obtain ⟨y,hy,hy2⟩:=hall r hr'
      obtain ⟨u,hu,hu2⟩:=List.mem_map.mp (hdone y hy)
      exact ⟨u,hu,by rw [hu2,hy2,e]⟩
     ·by_cases hia:i<a
      ·exact hnb' i y hia hy
      ·have:i=a:=by lia
       subst this
       rw [hx'] at hy
       cases hy
       exact hbad
     ·show 70000-(((a:Nat):Int)+1).toNat<70000-((a:Nat):Int).toNat
      lia
  ·refine y_r (decide_eq_false (by rw [List.length_map];lia)) ?_
   have ea:a=L.length:=by lia
   subst ea
   refine ⟨_,rfl,(by show 2<=sizeLine;decide),fun p hp=>?_⟩
   have sp:=z_d hp (.tup [.str "alike",.ref jl])
   refine q3 p jl rs (L.map (·.1)) _ (S4.trans sp) z_b (sp _ _ f4) (pairedMapL (z_r (fun _ _ h=>JK.same sp h) pr)) B4.nd (fun j=>⟨fun hj=>?_,fun ⟨k,hk⟩=>B4.full hk⟩) (fun j hj=>?_) (by rw [List.length_map];exact lL)
   ·obtain ⟨y,hy,rfl⟩:=List.mem_map.mp hj
    exact ⟨_,B4.rch y hy⟩
   ·obtain ⟨y,hy,rfl⟩:=List.mem_map.mp hj
    obtain ⟨i,hi⟩:=List.getElem?_of_mem hy
    exact hnb i y (List.getElem?_eq_some_iff.mp hi).1 hi
 ·rintro σ H' Q Q' m ⟨x1,e1,x2,e2,x3,n3,e3,l3,i,j,e4,e5,b',e6,c⟩
  exact ⟨x1,e1,x2,e2,x3,n3,e3,l3,i,j,e4,e5,b',e6,m _ _ c⟩
theorem ok_L_cell_at(T:Tx w K mg A):FnOk P w K mg base CX0 1 A.a_L_cell_at A.d_L_cell_at ["_law_script", "_law_k"] (cell_sp K):=by
 refine T.F_L_cell_at.ok sc_L_cell_at (fun vs H Q E h=>?_) (fun cdv A' outer s H vs Q E hr h=>?_)
 ·obtain ⟨a,ns,k,rfl,hS,h0,q⟩:=h
  rfl
 obtain ⟨a,ns,k,rfl,hS,h0,q⟩:=h
 refine ⟨_,(z_e (ps_if (y_d op_lt (pv 1) (z_q call_len rfl T.len PySem.boot_len (z_a (pv 0) z_c)) (nomark _)) (z_h (z_t (z_u ix_list (pv 0) (pv 1) (fun _ _=>rfl)))) y_l)
  (z_h (z_t z_g))),?_⟩
 refine ⟨_,rfl,_,rfl,_,_,rfl,.inl ⟨_,hS,rfl⟩,_,_,rfl,rfl,_,rfl,?_⟩
 refine ite2 (fun c=>?_) (fun c=>?_)
 ·have c':k<(((ns.map V.int).length:Nat):Int):=of_decide_eq_true c
  rw [List.length_map] at c'
  obtain ⟨v,hv⟩:=at_mapI h0 c'
  exact ⟨_,rfl,_,rfl,a,_,_,_,rfl,rfl,hS,hv,q v⟩
 ·exact q 0
theorem ok_L_bag(T:Tx w K mg A)(G_L_cell_at:FnOk P w K mg base CX0 1 A.a_L_cell_at A.d_L_cell_at ["_law_script", "_law_k"] (cell_sp K)):FnOk P w K mg base CX0 2 A.a_L_bag A.d_L_bag ["_law_script", "_law_k"] (bag_sp K):=by
 refine T.F_L_bag.ok sc_L_bag (fun vs H Q E h=>?_) (fun cdv A' outer s H vs Q E hr h=>?_)
 ·obtain ⟨a,ns,k,rfl,hS,h0,h9,q⟩:=h
  rfl
 obtain ⟨a,ns,k,rfl,hS,h0,h9,q⟩:=h
 refine ⟨_,(z_e (z_n (i:=2) sc_L_bag.nd rfl (Or.inl rfl) (z_k G_L_cell_at (hr.mono (by first | decide | lia)) rfl T.M_L_cell_at T.F_L_cell_at.kp T.B_L_cell_at .nil pass0 (z_a (pv 0) (z_a (pv 1) z_c))))
  (z_h (z_t (x_c (z_a (y_a op_mul (pv 2) (pe_callTy call_int1 rfl T.int PyProof.Rows.boot_int (z_a (pe_cmpR op_ge (pv 2) (y_a op_pow z_g z_g) (nomark _)) z_c))) (z_a (y_a op_add (y_a op_add (y_a op_add (y_a op_mod (pv 2) z_g) (y_a op_mul (y_a op_mul z_g (pv 1)) (pv 1))) (y_a op_mul z_g (pv 1))) z_g) z_c)))))),?_⟩
 refine ⟨_,rfl,_,rfl,a,ns,k,rfl,hS,h0,fun v=>?_⟩
 refine ⟨_,rfl,_,rfl,_,_,rfl,rfl,⟨by decide,by decide,by decide⟩,_,_,rfl,rfl,.inr ⟨_,rfl,_,_,rfl,rfl,.inr ⟨?_,?_⟩,_,rfl,_,_,rfl,rfl,(by show (0:Int)<2147483647;decide),_,rfl,_,_,rfl,rfl,.inl ⟨by decide,by decide⟩,_,rfl,_,_,rfl,rfl,.inr ⟨Int.lt_of_lt_of_le (by decide) h0,Int.lt_trans h9 (by decide)⟩,_,_,rfl,rfl,_,rfl,_,_,rfl,rfl,.inl ⟨by decide,by decide⟩,_,_,rfl,rfl,_,_,rfl,rfl,(by show 2<=sizeLine;decide),fun l hl=>?_⟩⟩
 ·split<;>decide
 ·split<;>decide
 ·refine q l _ _ hl ?_
  split
  ·rename_i h
   have:=of_decide_eq_true h
   have e:(10:Int)^(18:Int).toNat=1000000000000000000:=by decide
   lia
  ·lia
theorem ok_L_take(T:Tx w K mg A):FnOk P w K mg base CX0 1 A.a_L_take A.d_L_take ["_law_bag_here", "_law_many"] sp_L_take:=by
 refine T.F_L_take.ok sc_L_take (fun vs H Q E h=>?_) (fun cdv A' outer s H vs Q E hr h=>?_)
 ·obtain ⟨l,many,rfl,⟨b0,b1,hl,hb0⟩,h0,hbig,q⟩:=h
  rfl
 obtain ⟨l,many,rfl,⟨b0,b1,hl,hb0⟩,h0,hbig,q⟩:=h
 refine ⟨_,(z_e (ps_if (y_d op_gt (z_u y_b (pv 0) z_g (fun _ _=>rfl)) z_g (nomark _)) (z_e (z_n (i:=2) sc_L_take.nd rfl (Or.inl rfl) (y_a op_mod (z_u y_b (pv 0) z_g (fun _ _=>rfl)) (pv 1)))
  (z_e (ps_asg (y_a op_fdivL (z_u y_b (pv 0) z_g (fun _ _=>rfl)) (pv 1)) (pg_sub (pv 0) z_g set_list))
  (z_h (z_t (pv 2))))) y_l)
  (z_e (ps_asg (y_a op_mod (y_a op_add (y_a op_mul (z_u y_b (pv 0) z_g (fun _ _=>rfl)) z_g) z_g) z_g) (pg_sub (pv 0) z_g set_list))
  (z_h (z_t (y_a op_mod (y_a op_fdivL (y_a op_mod (y_a op_mul (z_u y_b (pv 0) z_g (fun _ _=>rfl)) z_g) z_g) z_g) (pv 1)))))),?_⟩
 refine ⟨_,rfl,l,_,0,_,rfl,rfl,SqL.of hl,rfl,_,_,rfl,rfl,_,rfl,?_⟩
 refine ite2 (fun c=>?_) (fun c=>?_)
 ·have c':0<b0:=of_decide_eq_true c
  refine ⟨_,rfl,l,_,0,_,rfl,rfl,SqL.of hl,rfl,_,rfl,_,_,rfl,rfl,h0,?_⟩
  refine ⟨_,rfl,l,_,0,_,rfl,rfl,SqL.of hl,rfl,_,rfl,_,_,rfl,rfl,⟨h0,hbig⟩,_,rfl,l,_,0,0,rfl,rfl,hl,rfl,?_⟩
  refine ⟨_,rfl,?_⟩
  exact q _ _ (Int.emod_nonneg _ (by lia)) (Int.emod_lt_of_pos _ h0) (Bg.put _ _ (Int.ediv_nonneg hb0 (by lia)))
 ·refine ⟨_,rfl,l,_,1,_,rfl,rfl,SqL.of hl,rfl,_,_,rfl,rfl,.inr ⟨by decide,by decide⟩,_,_,rfl,rfl,_,_,rfl,rfl,(by show (0:Int)<2147483647;decide),_,rfl,l,_,1,1,rfl,rfl,hl,rfl,?_⟩
  refine ⟨_,rfl,l,_,1,_,rfl,rfl,SqL.of z_b,rfl,_,_,rfl,rfl,.inr ⟨by decide,by decide⟩,_,_,rfl,rfl,(by show (0:Int)<2147483629;decide),_,_,rfl,rfl,⟨by decide,by decide⟩,_,rfl,_,_,rfl,rfl,h0,?_⟩
  exact q _ _ (Int.emod_nonneg _ (by lia)) (Int.emod_lt_of_pos _ h0) (Bg.put _ _ hb0)
theorem ok_L_work(T:Tx w K mg A)(G_L_take:FnOk P w K mg base CX0 1 A.a_L_take A.d_L_take ["_law_bag_here", "_law_many"] sp_L_take):FnOk P w K mg base CX0 2 A.a_L_work A.d_L_work ["_law_bag_here", "_law_ins", "_law_boxes", "_law_gates", "_law_outs"] work_x:=by
 refine T.F_L_work.ok sc_L_work (fun vs H Q E h=>?_) (fun cdv A' outer s H vs Q E hr h=>?_)
 ·obtain ⟨l,a,b,c,d,rfl,hb,ha64,hb40,hc20,hd6,q⟩:=h
  rfl
 obtain ⟨l,a,b,c,d,rfl,hb,ha64,hb40,hc20,hd6,q⟩:=h
 refine ⟨_,(z_e (z_n (i:=5) sc_L_work.nd rfl (Or.inr rfl) (y_a op_add (y_a op_add z_g (pv 1)) (pv 2)))
  (z_e (z_n (i:=6) sc_L_work.nd rfl (Or.inl rfl) (x_c z_c))
  (z_e (ps_for PassesOwn.never rfl (pi_range1 rfl T.range (z_a (pv 3) z_c)) (y_c (i:=7) sc_L_work.nd rfl (Or.inl rfl))
    (z_e (z_n (i:=8) sc_L_work.nd rfl (Or.inl rfl) (z_k G_L_take (hr.mono (by first | decide | lia)) rfl T.M_L_take T.F_L_take.kp T.B_L_take .nil pass0 (z_a (pv 0) (z_a (y_a op_mul z_g (pv 5)) z_c))))
  (z_e (y_z (pe_bmN PySem.F.plainAttrs_list PySem.F.slot_list_append PySem.F.type_list_append y_q (pv 6) (z_a (y_m (z_a (pv 8) (z_a (z_k G_L_take (hr.mono (by first | decide | lia)) rfl T.M_L_take T.F_L_take.kp T.B_L_take .nil pass0 (z_a (pv 0) (z_a (y_a op_mul z_g (pv 5)) z_c))) z_c))) z_c)))
  (z_h (z_n (i:=5) sc_L_work.nd rfl (Or.inr rfl) (y_a op_add (pv 5) z_g))))))
  (z_e (z_n (i:=9) sc_L_work.nd rfl (Or.inl rfl) (x_c z_c))
  (z_e (ps_for PassesOwn.never rfl (pi_range1 rfl T.range (z_a (pv 2) z_c)) (y_c (i:=7) sc_L_work.nd rfl (Or.inl rfl))
    (z_e (z_n (i:=10) sc_L_work.nd rfl (Or.inl rfl) (z_k G_L_take (hr.mono (by first | decide | lia)) rfl T.M_L_take T.F_L_take.kp T.B_L_take .nil pass0 (z_a (pv 0) (z_a z_g z_c))))
  (z_h (y_z (pe_bmN PySem.F.plainAttrs_list PySem.F.slot_list_append PySem.F.type_list_append y_q (pv 9) (z_a (y_m (z_a (pv 10) (z_a (z_k G_L_take (hr.mono (by first | decide | lia)) rfl T.M_L_take T.F_L_take.kp T.B_L_take .nil pass0 (z_a (pv 0) (z_a (y_a op_mul z_g (pv 5)) z_c))) z_c))) z_c))))))
  (z_h (z_t (y_m (z_a (pv 1) (z_a (pv 9) (z_a (pv 6) (z_a (pe_comp [0,5] (fun _ _ h=>h) rfl (pi_range1 rfl T.range (z_a (pv 4) z_c)) (fun _ _ _ _=>x_a) (fun _ _ _ _=>(z_k G_L_take (hr.mono (by first | decide | lia)) rfl T.M_L_take T.F_L_take.kp T.B_L_take .nil pass0 (z_a (pv 1) (z_a (y_a op_mul z_g (pv 2)) z_c)))) rfl (show ∀ j∈([0,5]:List Nat),j<11 by decide) (show (["_law_k", "_law_bag_here", "_law_knots"]:List Str).Nodup by decide +kernel)) z_c)))))))))))),?_⟩
 refine ⟨_,rfl,_,_,rfl,rfl,_,rfl,_,_,rfl,rfl,?_⟩
 refine ⟨(by show 0<=sizeLine;decide),fun pg hpg=>?_⟩
 have npg:=hb.ne hpg
 have G0:=Bg.new hb hpg (.lst [])
 have fr:∀ {H':Hp} {t:Addr},Bg l H H'->H' t=none->H t=none:=fun {H' t} g ht=>by
  cases e:H t with
  | none=>rfl
  | some u=>rw [g.1 t u (g.2.ne ht) e] at ht;cases ht
 have big:∀ m:Int,m<=1000000->m<bigB:=fun m h=>Int.lt_of_le_of_lt h (by decide)
 have TB:∀ {H1 H2:Hp} {p:Addr} {rs:List Addr} {rows:List (List Nat)},Bag H1 l->p≠l->Bg l H1 H2->TNs H1 p rs rows->TNs H2 p rs rows:=fun hB np g h=>⟨g.1 _ _ np h.1,z_r (fun r ns e=>g.1 _ _ (hB.neT e) e) h.2⟩
 refine ⟨_,rfl,_,rfl,by lia,by lia,for_range (lo:=0) (fun i σ H'=>∃ (x7 x8 x9 x10:Option V) (rs:List Addr) (rows:List (List Nat)),σ=[some (.ref l),some (.int (a:Int)),some (.int (b:Int)),some (.int (c:Int)),some (.int (d:Int)),some (.int ((1+a+b+i:Nat):Int)),some (.ref pg),x7,x8,x9,x10]/\Bg l H H'/\TNs H' pg rs rows/\rows.length=i/\∀ (j:Nat) (g:List Nat),rows[j]? = some g->∃ x y,g=[x,y]/\x<2*(1+a+b+j)/\y<2*(1+a+b+j)) ⟨none,none,none,none,[],[],?_,G0,⟨z_b,.nil⟩,rfl,by simp⟩ ?_ ?_⟩
 ·rw [show ((1+a+b+0:Nat):Int)=1+(a:Int)+(b:Int) by lia]
  rfl
 ·rintro i σ H1 hi ⟨x7,x8,x9,x10,rs,rows,rfl,G1,T1,hlr,hrow⟩
  have hi':i<c:=by lia
  refine ⟨_,rfl,_,rfl,_,_,rfl,rfl,.inl ⟨by decide,by decide⟩,l,_,rfl,G1.2,by lia,big _ (by lia),fun x H2 x0 x1 g2=>?_⟩
  have T2:=TB G1.2 npg g2 T1
  have G2:=G1.trans g2
  refine ⟨_,rfl,.inl ⟨rfl,_,SqL.of T2.1⟩,_,rfl,_,rfl,_,rfl,_,_,rfl,rfl,.inl ⟨by decide,by decide⟩,l,_,rfl,G2.2,by lia,big _ (by lia),fun y H3 y0 y1 g3=>?_⟩
  have T3:=TB G2.2 npg g3 T2
  have G3:=G2.trans g3
  obtain ⟨xn,rfl⟩:=Int.eq_ofNat_of_zero_le x0
  obtain ⟨yn,rfl⟩:=Int.eq_ofNat_of_zero_le y0
  refine ⟨(by show 2<=sizeLine;decide),fun t ht=>?_⟩
  have st:=z_d ht (.tup [.int (xn:Int),.int (yn:Int)])
  have ntl:=G3.2.ne ht
  have htH:=fr G3 ht
  refine ⟨pg,_,_,rfl,rfl,st _ _ T3.1,y_u (by rw [List.length_map,T3.len];lia),?_⟩
  refine ⟨_,rfl,_,_,rfl,rfl,?_⟩
  have npt:pg≠t:=fun e=>by rw [<-e,T3.1] at ht;cases ht
  have G4:=(G3.set htH ntl (.tup [.int (xn:Int),.int (yn:Int)])).set hpg npg (.lst (rs.map V.ref++[.ref t]))
  refine ⟨some (.int (0+(i:Int))),some (.int (xn:Int)),x9,x10,rs++[t],rows++[[xn,yn]],?_,G4,⟨by rw [z_b,List.map_append];rfl,?_⟩,by rw [List.length_append,hlr];rfl,fun j g hj=>?_⟩
  ·dsimp only
   rw [show ((1+a+b+i:Nat):Int)+1=((1+a+b+(i+1):Nat):Int) by lia]
   rfl
  ·refine pairedSnoc (by rw [z_m (Ne.symm npt),z_b];rfl) (z_r (fun r ns e=>?_) T3.2)
   rw [z_m (fun z=>by rw [z,T3.1] at e;cases e)]
   exact st _ _ e
  ·by_cases hlt:j<rows.length
   ·rw [List.getElem?_append_left hlt] at hj
    exact hrow j g hj
   ·rw [List.getElem?_append_right (by lia)] at hj
    have hj0:j-rows.length=0:=by
     cases e:j-rows.length with
     | zero=>rfl
     | succ m=>rw [e] at hj;simp at hj
    rw [hj0] at hj
    cases hj
    exact ⟨xn,yn,rfl,by lia,by lia⟩
 ·rintro σ H1 ⟨x7,x8,x9,x10,rs,rows,rfl,G1,T1,hlr,hrow⟩
  rw [Int.toNat_natCast] at hlr
  rw [Int.toNat_natCast]
  refine ⟨(by show 0<=sizeLine;decide),fun pb hpb=>?_⟩
  have npb:=G1.2.ne hpb
  have hpbH:=fr G1 hpb
  have sb:=z_d hpb (.lst [])
  have npbg:pb≠pg:=fun e=>by rw [e,T1.1] at hpb;cases hpb
  refine ⟨_,rfl,_,rfl,by lia,by lia,for_range (lo:=0) (fun i σ H'=>∃ (x7 x8 x10:Option V) (us:List Addr) (bx:List (List Nat)),σ=[some (.ref l),some (.int (a:Int)),some (.int (b:Int)),some (.int (c:Int)),some (.int (d:Int)),some (.int ((1+a+b+c:Nat):Int)),some (.ref pg),x7,x8,some (.ref pb),x10]/\Bg l H H'/\TNs H' pg rs rows/\TNs H' pb us bx/\bx.length=i/\∀ g∈bx,∃ f e,g=[f,e]/\f<2/\e<2*(1+a+b+c)) ⟨_,_,_,[],[],rfl,G1.set hpbH npb _,T1.same sb,⟨z_b,.nil⟩,rfl,by simp⟩ ?_ ?_⟩
  ·rintro i σ H2 hi ⟨x7,x8,x10,us,bx,rfl,G2,T2,B2,hlb,hbx⟩
   refine ⟨_,rfl,l,_,rfl,G2.2,by decide,by decide,fun x H3 x0 x1 g3=>?_⟩
   have T3:=TB G2.2 npg g3 T2
   have B3:=TB G2.2 npb g3 B2
   have G3:=G2.trans g3
   refine ⟨_,rfl,.inl ⟨rfl,_,SqL.of B3.1⟩,_,rfl,_,rfl,_,rfl,_,_,rfl,rfl,.inl ⟨by decide,by decide⟩,l,_,rfl,G3.2,by lia,big _ (by lia),fun y H4 y0 y1 g4=>?_⟩
   have T4:=TB G3.2 npg g4 T3
   have B4:=TB G3.2 npb g4 B3
   have G4:=G3.trans g4
   obtain ⟨xn,rfl⟩:=Int.eq_ofNat_of_zero_le x0
   obtain ⟨yn,rfl⟩:=Int.eq_ofNat_of_zero_le y0
   refine ⟨(by show 2<=sizeLine;decide),fun t ht=>?_⟩
   have st:=z_d ht (.tup [.int (xn:Int),.int (yn:Int)])
   have ntl:=G4.2.ne ht
   have htH:=fr G4 ht
   refine ⟨pb,_,_,rfl,rfl,st _ _ B4.1,y_u (by rw [List.length_map,B4.len];lia),?_⟩
   have npt:pb≠t:=fun e=>by rw [<-e,B4.1] at ht;cases ht
   have G5:=(G4.set htH ntl (.tup [.int (xn:Int),.int (yn:Int)])).set hpbH npb (.lst (us.map V.ref++[.ref t]))
   refine ⟨some (.int (0+(i:Int))),x8,some (.int (xn:Int)),us++[t],bx++[[xn,yn]],rfl,G5,⟨?_,?_⟩,⟨by rw [z_b,List.map_append];rfl,?_⟩,by rw [List.length_append,hlb];rfl,fun g hg=>?_⟩
   ·rw [z_m (Ne.symm npbg)]
    exact st _ _ T4.1
   ·refine z_r (fun r ns e=>?_) T4.2
    rw [z_m (fun z=>by rw [z,B4.1] at e;cases e)]
    exact st _ _ e
   ·refine pairedSnoc (by rw [z_m (Ne.symm npt),z_b];rfl) (z_r (fun r ns e=>?_) B4.2)
    rw [z_m (fun z=>by rw [z,B4.1] at e;cases e)]
    exact st _ _ e
   ·rcases List.mem_append.mp hg with h | h
    ·exact hbx g h
    ·rw [List.mem_singleton.mp h]
     exact ⟨xn,yn,rfl,by lia,by lia⟩
  ·rintro σ H2 ⟨x7,x8,x10,us,bx,rfl,G2,T2,B2,hlb,hbx⟩
   rw [Int.toNat_natCast] at hlb
   refine ⟨_,rfl,_,rfl,_,rfl,_,rfl,_,rfl,by lia,by lia,comp_range (lo:=0) (fun i ys H'=>∃ os:List Nat,ys=nV os/\Bg l H2 H'/\os.length=i/\∀ n∈os,n<2*(1+a+b+c)) ⟨[],rfl,Bg.refl G2.2,rfl,by simp⟩ ?_ ?_ ?_⟩
   ·rintro i ys H' hi ⟨os,rfl,_,hl,_⟩
    rw [z_v]
    exact y_u (by lia)
   ·rintro i ys H' hi ⟨os,rfl,g',hl,hos⟩
    unfold tYes
    refine iteT ⟨_,rfl,_,rfl,_,_,rfl,rfl,.inl ⟨by decide,by decide⟩,l,_,rfl,g'.2,by lia,big _ (by lia),fun y H3 y0 y1 g3=>?_⟩
    obtain ⟨yn,rfl⟩:=Int.eq_ofNat_of_zero_le y0
    refine ⟨os++[yn],by unfold nV;rw [List.map_append];rfl,g'.trans g3,by rw [List.length_append,hl];rfl,fun n hn=>?_⟩
    rcases List.mem_append.mp hn with h | h
    ·exact hos n h
    ·rw [List.mem_singleton.mp h]
     lia
   ·rintro ys H3 ⟨os,rfl,g3,hl,hos⟩ po hpo
    rw [Int.toNat_natCast] at hl
    have T3:=TB G2.2 npg g3 T2
    have B3:=TB G2.2 npb g3 B2
    have G3:=G2.trans g3
    have npo:=G3.2.ne hpo
    have hpoH:=fr G3 hpo
    have so:=z_d hpo (.lst (nV os))
    have G4:=G3.set hpoH npo (.lst (nV os))
    refine ⟨(by show 4<=sizeLine;decide),fun pw hpw=>?_⟩
    have npw:=G4.2.ne hpw
    have hpwH:=fr G4 hpw
    have sw:=z_d hpw (.tup [.int (a:Int),.ref pb,.ref pg,.ref po])
    have G5:=G4.set hpwH npw (.tup [.int (a:Int),.ref pb,.ref pg,.ref po])
    have S5:=so.trans sw
    refine q pw pb pg po us rs ⟨a,bx,rows,os⟩ _ G5 hpbH hpg hpoH ⟨z_b,B3.same S5,T3.same S5,sw _ _ z_b⟩ ⟨ha64,by rw [hlb];exact hb40,by rw [hlr];exact Nat.le_trans hc20 (by decide),by rw [hl];exact hd6,?_,?_,?_⟩ rfl hlb hlr hl
    ·intro g hg
     obtain ⟨f,e,h1,h2,h3⟩:=hbx g hg
     refine ⟨f,e,h1,h2,?_⟩
     show e<2*(1+a+bx.length+rows.length)
     rw [hlb,hlr]
     exact h3
    ·intro i g hg
     obtain ⟨x,y,h1,h2,h3⟩:=hrow i g hg
     refine ⟨x,y,h1,?_,?_⟩
     ·show x<2*(1+a+bx.length+i)
      rw [hlb]
      exact h2
     ·show y<2*(1+a+bx.length+i)
      rw [hlb]
      exact h3
    ·intro n hn
     show n<2*(1+a+bx.length+rows.length)
     rw [hlb,hlr]
     exact hos n hn
theorem ok_L_asked(T:Tx w K mg A)(G_is_table:FnOk P w K mg base (CXF P w) 5 A.a_is_table A.d_is_table ["one", "other", "thing"] (table_x A.c_NoPair))(G_meet:FnOk P w K mg base (CXF P w) 4 A.a_meet A.d_meet ["one", "other", "most"] (meet_x A.c_NoPair)):FnOk P w K mg base (CXF P w) 6 A.a_L_asked A.d_L_asked ["_law_one", "_law_other", "_law_thing", "_law_most"] (asked_x A.c_NoPair):=by
 refine T.F_L_asked.okF sc_L_asked (fun vs H Q E h=>?_) (fun cdv A' outer s H vs Q E hr h=>?_)
 ·obtain ⟨w',v',U,W,t0,mo,rfl,px,gd,q0,q1,qe⟩:=h
  rfl
 obtain ⟨w',v',U,W,t0,mo,rfl,px,gd,q0,q1,qe⟩:=h
 refine ⟨_,(z_e (ps_if (y_d op_gt (pv 3) z_g (nomark _)) (z_h (z_t (z_k G_meet (hr.mono (by first | decide | lia)) rfl T.M_meet T.F_meet.kp T.B_meet .nil passF (z_a (pv 0) (z_a (pv 1) (z_a (pv 3) z_c)))))) y_l)
  (z_h (z_t (z_k G_is_table (hr.mono (by first | decide | lia)) rfl T.M_is_table T.F_is_table.kp T.B_is_table .nil passF (z_a (pv 0) (z_a (pv 1) (z_a (pv 2) z_c))))))),?_⟩
 refine ⟨_,rfl,_,_,rfl,rfl,_,rfl,?_⟩
 by_cases c:0<mo
 ·refine x_m (decide_eq_true (by show ((mo:Nat):Int) > 0;lia)) ⟨_,rfl,_,rfl,_,rfl,w',v',U,W,mo,rfl,px,fun h p x y H' s e=>q1 h c p x y H' s e,qe⟩
 ·refine y_r (decide_eq_false (by show ¬((mo:Nat):Int) > 0;lia)) ⟨_,rfl,_,rfl,_,rfl,w',v',U,W,t0,rfl,px,gd,fun h b H' s=>q0 h (by lia) b H' s,qe⟩
theorem ok_L_said(T:Tx w K mg A)(G_L_asked:FnOk P w K mg base (CXF P w) 6 A.a_L_asked A.d_L_asked ["_law_one", "_law_other", "_law_thing", "_law_most"] (asked_x A.c_NoPair)):FnOk P w K mg base CX0 7 A.a_L_said A.d_L_said ["_law_one", "_law_other", "_law_thing", "_law_most"] said_x:=by
 refine T.F_L_said.ok sc_L_said (fun vs H Q E h=>?_) (fun cdv A' outer s H vs Q E hr h=>?_)
 ·obtain ⟨w',v',U,W,t0,mo,rfl,px,gd,q0,q1,qe⟩:=h
  rfl
 obtain ⟨w',v',U,W,t0,mo,rfl,px,gd,q0,q1,qe⟩:=h
 refine ⟨_,(z_e (z_n (i:=4) sc_L_said.nd rfl (Or.inl rfl) z_g)
  (z_e (ps_try (i:=6) rfl rfl rfl (fun _ _=>(z_h (z_n (i:=5) sc_L_said.nd rfl (Or.inl rfl) (pe_callX G_L_asked (hr.mono (by first | decide | lia)) rfl T.M_L_asked T.F_L_asked.kp T.B_L_asked .nil (z_a (pv 0) (z_a (pv 1) (z_a (pv 2) (z_a (pv 3) z_c)))))))) rfl T.M_ForgeError T.x_ForgeError sc_L_said.nd rfl rfl (fun _=>(z_e (ps_if (PW.pt (pw_or (pt_not (y_t (z_q (call_isx rfl) rfl T.isinstance PyProof.Rows.boot_isinstance (z_a (pv 6) (z_a (x_n (v:=.ref A.c_NoPair) rfl T.M_NoPair rfl) z_c))) (fun _=>rfl))) (pw_or1 (pt_not (y_t (z_q (call_isx rfl) rfl T.isinstance PyProof.Rows.boot_isinstance (z_a (pv 6) (z_a (pe_bltn (v:=.ty "ValueError") rfl T.ValueError boot_ValueError rfl) z_c))) (fun _=>rfl)))))) (z_h (z_n (i:=4) sc_L_said.nd rfl (Or.inl rfl) z_g)) y_l)
  (z_e (ps_if (y_t (z_q (call_isxT rfl) rfl T.isinstance PyProof.Rows.boot_isinstance (z_a (pv 6) (z_a (y_m (z_a (x_n (v:=.ref A.c_Never) rfl T.M_Never rfl) (z_a (x_n (v:=.ref A.c_NoName) rfl T.M_NoName rfl) (z_a (x_n (v:=.ref A.c_NoPaper) rfl T.M_NoPaper rfl) (z_a (x_n (v:=.ref A.c_NoPart) rfl T.M_NoPart rfl) (z_a (x_n (v:=.ref A.c_NoPlan) rfl T.M_NoPlan rfl) (z_a (x_n (v:=.ref A.c_NoRow) rfl T.M_NoRow rfl) (z_a (x_n (v:=.ref A.c_NoText) rfl T.M_NoText rfl) (z_a (x_n (v:=.ref A.c_NoWidth) rfl T.M_NoWidth rfl) z_c))))))))) z_c))) (fun _=>rfl)) (z_h (z_n (i:=4) sc_L_said.nd rfl (Or.inl rfl) z_g)) y_l)
  (z_e (ps_if (y_t (z_q (call_isxT rfl) rfl T.isinstance PyProof.Rows.boot_isinstance (z_a (pv 6) (z_a (y_m (z_a (x_n (v:=.ref A.c_NoWord) rfl T.M_NoWord rfl) (z_a (x_n (v:=.ref A.c_Ring) rfl T.M_Ring rfl) (z_a (x_n (v:=.ref A.c_TooMuch) rfl T.M_TooMuch rfl) (z_a (x_n (v:=.ref A.c_Twice) rfl T.M_Twice rfl) z_c))))) z_c))) (fun _=>rfl)) (z_h (z_n (i:=4) sc_L_said.nd rfl (Or.inl rfl) z_g)) y_l)
  (z_h (z_t (y_m (z_a pe_str (z_a (pv 4) z_c))))))))))
  (z_h (z_t (y_m (z_a pe_str (z_a (pv 5) z_c))))))),?_⟩
 refine ⟨_,rfl,_,rfl,_,rfl,_,rfl,w',v',U,W,t0,mo,rfl,px,gd,fun h m b H' s=>?_,fun h m r x y H' s e=>?_,fun n=>?_⟩
 ·exact ⟨_,rfl,(by show 2<=sizeLine;decide),fun p hp=>q0 h m b p _ (s.trans (z_d hp _)) z_b⟩
 ·exact ⟨_,rfl,(by show 2<=sizeLine;decide),fun p hp=>q1 h m p r x y _ (s.trans (z_d hp _)) z_b (z_d hp _ _ _ e)⟩
 ·refine ⟨A.c_NoPair,_,rfl,T.x_NoPair,by simp [List.contains_cons],fun a ha=>?_⟩
  have s0:=z_d ha (EXO a (.ref A.c_NoPair))
  have e0:=z_b (H:=H) (a:=a) (o:=EXO a (.ref A.c_NoPair))
  show tSeq _ _ _ [some (.ref w'),some (.ref v'),some t0,some (.int (mo:Int)),some (.int 0),none,some (.ref a)] (upd H a (EXO a (.ref A.c_NoPair)))
  generalize upd H a (EXO a (.ref A.c_NoPair))=H1 at s0 e0 ⊢
  refine ⟨_,rfl,a,A.c_NoPair,_,_,.ref A.c_NoPair,true,rfl,rfl,(fun u h=>h),e0,T.x_NoPair,T.q_NoPair,T.i_own,_,rfl,y_r rfl ?_⟩
  refine ⟨_,rfl,a,A.c_NoPair,_,_,.type "ValueError",true,rfl,rfl,(fun u h=>h),e0,T.x_NoPair,T.q_NoPair,T.i_val,_,rfl,y_r rfl ?_⟩
  refine ⟨_,rfl,(by show 8<=sizeLine;decide),fun p hp=>?_⟩
  have s1:=z_d hp (.tup [.ref A.c_Never,.ref A.c_NoName,.ref A.c_NoPaper,.ref A.c_NoPart,.ref A.c_NoPlan,.ref A.c_NoRow,.ref A.c_NoText,.ref A.c_NoWidth])
  refine ⟨a,A.c_NoPair,p,_,_,_,false,rfl,z_b,.cons (.cons (.cons (.cons (.cons (.cons (.cons (.cons .nil))))))),s1 _ _ e0,T.x_NoPair,T.q_NoPair,T.i_no1,_,rfl,y_r rfl ?_⟩
  refine ⟨_,rfl,(by show 4<=sizeLine;decide),fun p2 hp2=>?_⟩
  have s2:=z_d hp2 (.tup [.ref A.c_NoWord,.ref A.c_Ring,.ref A.c_TooMuch,.ref A.c_Twice])
  refine ⟨a,A.c_NoPair,p2,_,_,_,false,rfl,z_b,.cons (.cons (.cons (.cons .nil))),s2 _ _ (s1 _ _ e0),T.x_NoPair,T.q_NoPair,T.i_no2,_,rfl,y_r rfl ?_⟩
  exact ⟨_,rfl,(by show 2<=sizeLine;decide),fun p3 hp3=>qe n p3 _ (((s0.trans s1).trans s2).trans (z_d hp3 _)) z_b⟩
theorem ok_L_good(T:Tx w K mg A)(G_L_said:FnOk P w K mg base CX0 7 A.a_L_said A.d_L_said ["_law_one", "_law_other", "_law_thing", "_law_most"] said_x):FnOk P w K mg base CX0 8 A.a_L_good A.d_L_good ["_law_one", "_law_other", "_law_thing", "_law_most"] good_x:=by
 refine T.F_L_good.ok sc_L_good (fun vs H Q E h=>?_) (fun cdv A' outer s H vs Q E hr h=>?_)
 ·obtain ⟨w',v',U,W,t0,mo,rfl,px,gd,ok,hm,q⟩:=h
  rfl
 obtain ⟨w',v',U,W,t0,mo,rfl,px,gd,ok,hm,q⟩:=h
 refine ⟨_,(z_e (z_n (i:=4) sc_L_good.nd rfl (Or.inl rfl) (z_k G_L_said (hr.mono (by first | decide | lia)) rfl T.M_L_said T.F_L_said.kp T.B_L_said .nil pass0 (z_a (pv 0) (z_a (pv 1) (z_a (pv 2) (z_a z_g z_c))))))
  (z_e (ps_if (PW.pt (pw_or (y_d op_ne (z_u z_p (pv 4) z_g (fun _ _=>rfl)) pe_str (nomark _)) (pw_or1 (pt_not (y_t (z_q (x_h (T := "bool")) rfl T.isinstance PyProof.Rows.boot_isinstance (z_a (z_u z_p (pv 4) z_g (fun _ _=>rfl)) (z_a (pe_bltn (v:=.ty "bool") rfl T.bool PyProof.Rows.boot_bool rfl) z_c))) (fun _=>rfl)))))) (z_h (z_t pe_bl)) y_l)
  (z_e (z_n (i:=4) sc_L_good.nd rfl (Or.inl rfl) (z_k G_L_said (hr.mono (by first | decide | lia)) rfl T.M_L_said T.F_L_said.kp T.B_L_said .nil pass0 (z_a (pv 0) (z_a (pv 1) (z_a (pv 2) (z_a (pv 3) z_c))))))
  (z_h (z_t (pe_and (pe_cmpR op_eq (z_u z_p (pv 4) z_g (fun _ _=>rfl)) pe_str (nomark _)) (pe_and (z_q (x_h (T := "tuple")) rfl T.isinstance PyProof.Rows.boot_isinstance (z_a (z_u z_p (pv 4) z_g (fun _ _=>rfl)) (z_a (pe_bltn (v:=.ty "tuple") rfl T.tuple PyProof.Rows.boot_tuple rfl) z_c))) (pe_one (pe_cmpR op_eq (z_q x_k rfl T.len PySem.boot_len (z_a (z_u z_p (pv 4) z_g (fun _ _=>rfl)) z_c)) z_g (nomark _)))))))))),?_⟩
 refine ⟨_,rfl,_,rfl,_,rfl,w',v',U,W,t0,0,rfl,px,gd,fun _ _ b p H' s e=>?_,(fun _ h=>absurd h (Nat.lt_irrefl _)),(fun n=>absurd ok n)⟩
 refine ⟨_,rfl,p,_,_,_,rfl,rfl,SqT.of e,rfl,rfl,_,rfl,y_r rfl ?_⟩
 refine ⟨_,rfl,p,_,_,_,rfl,rfl,SqT.of e,rfl,.bl b,_,true,rfl,TyOf.bl _,rfl,_,rfl,y_r rfl ?_⟩
 refine ⟨_,rfl,_,rfl,_,rfl,_,rfl,w',v',U,W,t0,mo,rfl,px.same s,gd.same s,(fun _ h=>absurd h (by lia)),fun _ _ p2 r x y H2 s2 e2 e3=>?_,(fun n=>absurd ok n)⟩
 refine ⟨_,rfl,p2,_,_,_,rfl,rfl,SqT.of e2,rfl,rfl,_,rfl,x_m rfl ?_⟩
 refine ⟨_,rfl,p2,_,_,_,rfl,rfl,SqT.of e2,rfl,.ref r,_,true,rfl,TyOf.tup e3,rfl,_,rfl,x_m rfl ?_⟩
 exact ⟨_,rfl,p2,_,_,_,rfl,rfl,SqT.of e2,rfl,_,_,rfl,.inr ⟨_,SqT.of e3,rfl⟩,rfl,q _ (s.trans s2)⟩
theorem ok_law(T:Tx w K mg A)(G_L_bag:FnOk P w K mg base CX0 2 A.a_L_bag A.d_L_bag ["_law_script", "_law_k"] (bag_sp K))(G_L_work:FnOk P w K mg base CX0 2 A.a_L_work A.d_L_work ["_law_bag_here", "_law_ins", "_law_boxes", "_law_gates", "_law_outs"] work_x)(G_L_take:FnOk P w K mg base CX0 1 A.a_L_take A.d_L_take ["_law_bag_here", "_law_many"] sp_L_take)(G_L_good:FnOk P w K mg base CX0 8 A.a_L_good A.d_L_good ["_law_one", "_law_other", "_law_thing", "_law_most"] good_x)(G_L_said:FnOk P w K mg base CX0 7 A.a_L_said A.d_L_said ["_law_one", "_law_other", "_law_thing", "_law_most"] said_x):FnOk P w K mg base CX0 9 A.a_law A.d_law ["_law_script"] (sp_law K):=by
 refine T.F_law.ok sc_law (fun vs H Q E h=>?_) (fun cdv A' outer s H vs Q E hr h=>?_)
 ·obtain ⟨a,ns,rfl,hS,h63,q⟩:=h
  rfl
 obtain ⟨a,ns,rfl,hS,h63,q⟩:=h
 have hu64:=hr.units
 refine ⟨_,(z_e (z_n (i:=1) sc_law.nd rfl (Or.inl rfl) (z_k G_L_bag (hr.mono (by first | decide | lia)) rfl T.M_L_bag T.F_L_bag.kp T.B_L_bag .nil pass0 (z_a (pv 0) (z_a z_g z_c))))
  (z_e (z_n (i:=2) sc_law.nd rfl (Or.inl rfl) (x_c (z_a (z_k G_L_take (hr.mono (by first | decide | lia)) rfl T.M_L_take T.F_L_take.kp T.B_L_take .nil pass0 (z_a (pv 1) (z_a z_g z_c))) (z_a (z_k G_L_take (hr.mono (by first | decide | lia)) rfl T.M_L_take T.F_L_take.kp T.B_L_take .nil pass0 (z_a (pv 1) (z_a z_g z_c))) (z_a (z_k G_L_take (hr.mono (by first | decide | lia)) rfl T.M_L_take T.F_L_take.kp T.B_L_take .nil pass0 (z_a (pv 1) (z_a z_g z_c))) (z_a (z_k G_L_take (hr.mono (by first | decide | lia)) rfl T.M_L_take T.F_L_take.kp T.B_L_take .nil pass0 (z_a (pv 1) (z_a z_g z_c))) z_c))))))
  (z_e (ps_if (y_d op_eq (z_k G_L_take (hr.mono (by first | decide | lia)) rfl T.M_L_take T.F_L_take.kp T.B_L_take .nil pass0 (z_a (pv 1) (z_a z_g z_c))) z_g (nomark _)) (z_h (ps_asg (pe_slice sl_list0 (pv 2) po_none (po_some z_g)) (pg_sls (pv 2) (po_some z_g) po_none))) y_l)
  (z_e (z_n (i:=3) sc_law.nd rfl (Or.inl rfl) (x_c (z_a (z_k G_L_take (hr.mono (by first | decide | lia)) rfl T.M_L_take T.F_L_take.kp T.B_L_take .nil pass0 (z_a (pv 1) (z_a z_g z_c))) (z_a (z_k G_L_take (hr.mono (by first | decide | lia)) rfl T.M_L_take T.F_L_take.kp T.B_L_take .nil pass0 (z_a (pv 1) (z_a z_g z_c))) z_c))))
  (z_e (z_n (i:=4) sc_law.nd rfl (Or.inl rfl) (z_k G_L_work (hr.mono (by first | decide | lia)) rfl T.M_L_work T.F_L_work.kp T.B_L_work .nil pass0 (z_a (z_k G_L_bag (hr.mono (by first | decide | lia)) rfl T.M_L_bag T.F_L_bag.kp T.B_L_bag .nil pass0 (z_a (pv 0) (z_a z_g z_c))) (z_a (z_u y_b (pv 2) z_g (fun _ _=>rfl)) (z_a (z_u y_b (pv 3) z_g (fun _ _=>rfl)) (z_a (z_k G_L_take (hr.mono (by first | decide | lia)) rfl T.M_L_take T.F_L_take.kp T.B_L_take .nil pass0 (z_a (pv 1) (z_a z_g z_c))) (z_a (z_u y_b (pv 2) z_g (fun _ _=>rfl)) z_c)))))))
  (z_e (z_n (i:=5) sc_law.nd rfl (Or.inl rfl) (z_k G_L_work (hr.mono (by first | decide | lia)) rfl T.M_L_work T.F_L_work.kp T.B_L_work .nil pass0 (z_a (z_k G_L_bag (hr.mono (by first | decide | lia)) rfl T.M_L_bag T.F_L_bag.kp T.B_L_bag .nil pass0 (z_a (pv 0) (z_a z_g z_c))) (z_a (z_u y_b (pv 2) z_g (fun _ _=>rfl)) (z_a (z_u y_b (pv 3) z_g (fun _ _=>rfl)) (z_a (z_k G_L_take (hr.mono (by first | decide | lia)) rfl T.M_L_take T.F_L_take.kp T.B_L_take .nil pass0 (z_a (pv 1) (z_a z_g z_c))) (z_a (z_u y_b (pv 2) z_g (fun _ _=>rfl)) z_c)))))))
  (z_e (z_n (i:=6) sc_law.nd rfl (Or.inl rfl) (y_a op_add z_g (z_k G_L_take (hr.mono (by first | decide | lia)) rfl T.M_L_take T.F_L_take.kp T.B_L_take .nil pass0 (z_a (pv 1) (z_a z_g z_c)))))
  (z_e (z_n (i:=7) sc_law.nd rfl (Or.inl rfl) (y_m (z_a (pe_callTy x_b rfl T.tuple PyProof.Rows.boot_tuple (z_a (pe_comp [] (fun _ _ h=>h) rfl (z_x (z_u z_p (pv 4) z_g (fun _ _=>rfl))) (fun _ _ _ _=>x_a) (fun _ _ _ _=>(z_u z_p (pv 0) z_g (fun _ _=>rfl))) rfl (show ∀ j∈([]:List Nat),j<11 by decide) (show (["_law_box"]:List Str).Nodup by decide +kernel)) z_c)) (z_a (pe_callTy x_b rfl T.tuple PyProof.Rows.boot_tuple (z_a (pe_comp [] (fun _ _ h=>h) rfl (z_x (z_u z_p (pv 5) z_g (fun _ _=>rfl))) (fun _ _ _ _=>x_a) (fun _ _ _ _=>(z_u z_p (pv 0) z_g (fun _ _=>rfl))) rfl (show ∀ j∈([]:List Nat),j<11 by decide) (show (["_law_box"]:List Str).Nodup by decide +kernel)) z_c)) z_c))))
  (z_e (z_n (i:=8) sc_law.nd rfl (Or.inl rfl) (z_u y_b (x_c (z_a (x_c z_c) (z_a (x_c (z_a (pv 7) z_c)) (z_a pe_non (z_a z_g (z_a pe_str (z_a (y_m (z_a (pv 7) z_c)) (z_a (x_c (z_a (pv 7) (z_a (pv 7) z_c))) z_c)))))))) (z_k G_L_take (hr.mono (by first | decide | lia)) rfl T.M_L_take T.F_L_take.kp T.B_L_take .nil pass0 (z_a (pv 1) (z_a z_g z_c))) (fun _ _=>rfl)))
  (z_e (z_n (i:=9) sc_law.nd rfl (Or.inl rfl) (y_m (z_a (z_q (call_reprD hu64) rfl T.repr PyProof.Rows.boot_repr (z_a (pv 4) z_c)) (z_a (z_q (call_reprD hu64) rfl T.repr PyProof.Rows.boot_repr (z_a (pv 5) z_c)) (z_a (z_q (call_reprD hu64) rfl T.repr PyProof.Rows.boot_repr (z_a (pv 8) z_c)) z_c)))))
  (z_e (z_n (i:=10) sc_law.nd rfl (Or.inl rfl) (y_m (z_a z_g (z_a (x_c z_c) (z_a (x_c z_c) (z_a (x_c (z_a z_g z_c)) z_c))))))
  (z_e (ps_if (PW.pt (pw_and (y_d (op_eqD hu64) (pe_slice sl_list0 (pv 2) po_none (po_some z_g)) (pe_slice sl_list0 (pv 2) (po_some z_g) po_none) (nomark _)) (pw_and1 (y_d op_lt (z_u y_b (pv 2) z_g (fun _ _=>rfl)) z_g (nomark _))))) (z_h (ps_if (pt_not (y_t (z_k G_L_good (hr.mono (by first | decide | lia)) rfl T.M_L_good T.F_L_good.kp T.B_L_good .nil pass0 (z_a (pv 4) (z_a (pv 5) (z_a (pv 8) (z_a (pv 6) z_c))))) (fun _=>rfl))) (z_h (z_t pe_bl)) y_l)) (z_e (ps_if (PW.pt (pw_or (y_d (op_neD hu64) (z_k G_L_said (hr.mono (by first | decide | lia)) rfl T.M_L_said T.F_L_said.kp T.B_L_said .nil pass0 (z_a (pv 4) (z_a (pv 5) (z_a (pv 8) (z_a z_g z_c))))) (y_m (z_a pe_str (z_a z_g z_c))) (nomark _)) (pw_or1 (y_d (op_neD hu64) (z_k G_L_said (hr.mono (by first | decide | lia)) rfl T.M_L_said T.F_L_said.kp T.B_L_said .nil pass0 (z_a (pv 4) (z_a (pv 5) (z_a (pv 8) (z_a (pv 6) z_c))))) (y_m (z_a pe_str (z_a z_g z_c))) (nomark _))))) (z_h (z_t pe_bl)) y_l)
  (z_h (ps_if (y_d (op_neD hu64) (z_k G_L_said (hr.mono (by first | decide | lia)) rfl T.M_L_said T.F_L_said.kp T.B_L_said .nil pass0 (z_a (pv 5) (z_a (pv 4) (z_a (pv 8) (z_a (pv 6) z_c))))) (y_m (z_a pe_str (z_a z_g z_c))) (nomark _)) (z_h (z_t pe_bl)) y_l))))
  (z_e (ps_if (pt_not (y_t (z_k G_L_good (hr.mono (by first | decide | lia)) rfl T.M_L_good T.F_L_good.kp T.B_L_good .nil pass0 (z_a (pv 10) (z_a (pv 10) (z_a (x_c (z_a (y_m (z_a (y_m z_c) (z_a (y_m z_c) z_c))) z_c)) (z_a (pv 6) z_c))))) (fun _=>rfl))) (z_h (z_t pe_bl)) y_l)
  (z_h (z_t (pe_cmpR (op_eqD hu64) (pv 9) (y_m (z_a (z_q (call_reprD hu64) rfl T.repr PyProof.Rows.boot_repr (z_a (pv 4) z_c)) (z_a (z_q (call_reprD hu64) rfl T.repr PyProof.Rows.boot_repr (z_a (pv 5) z_c)) (z_a (z_q (call_reprD hu64) rfl T.repr PyProof.Rows.boot_repr (z_a (pv 8) z_c)) z_c)))) (nomark _))))))))))))))))),?_⟩
 refine ⟨_,rfl,a,ns,0,rfl,hS,by decide,by decide,fun l b0 b1 hl hb0=>?_⟩
 have B1:Bag (upd H l (.lst [.int b0,.int b1])) l:=⟨b0,b1,z_b,hb0⟩
 have s1:=z_d hl (.lst [.int b0,.int b1])
 show tSeq _ _ _ _ (upd H l (.lst [.int b0,.int b1]))
 generalize upd H l (.lst [.int b0,.int b1])=H1 at B1 s1 ⊢
 refine ⟨_,rfl,l,9,rfl,B1,by decide,by decide,fun d1 H2 d10 d11 g2=>⟨_,rfl,l,5,rfl,g2.2,by decide,by decide,fun d2 H3 d20 d21 g3=>⟨_,rfl,l,9,rfl,g3.2,by decide,by decide,fun d3 H4 d30 d31 g4=>⟨_,rfl,l,5,rfl,g4.2,by decide,by decide,fun d4 H5 d40 d41 g5=>⟨(by show 4<=sizeLine;decide),fun ps hps=>?_⟩⟩⟩⟩⟩
 have G5:=((g2.trans g3).trans g4).trans g5
 have S5:=Bg.same hl s1 G5
 have nps:=G5.2.ne hps
 have hpsH:=S5.free hps
 have B6:=G5.2.set nps (.lst [.int d1,.int d2,.int d3,.int d4])
 have S6:=y_y S5 hpsH (.lst [.int d1,.int d2,.int d3,.int d4])
 have f6:=z_b (H:=H5) (a:=ps) (o:=.lst [.int d1,.int d2,.int d3,.int d4])
 dsimp only [gName]
 generalize upd H5 ps (.lst [.int d1,.int d2,.int d3,.int d4])=H6 at B6 S6 f6 ⊢
 clear g2 g3 g4 g5 G5 S5 B1 s1 hps
 clear H1 H2 H3 H4 H5
 obtain ⟨n1,rfl⟩:=Int.eq_ofNat_of_zero_le d10
 obtain ⟨n2,rfl⟩:=Int.eq_ofNat_of_zero_le d20
 obtain ⟨n3,rfl⟩:=Int.eq_ofNat_of_zero_le d30
 obtain ⟨n4,rfl⟩:=Int.eq_ofNat_of_zero_le d40
 refine seq_pre (s:=tIfS _ _ _) (fun σ H'=>∃ m3 m4:Nat,σ=[some (.ref a),some (.ref l),some (.ref ps),none,none,none,none,none,none,none,none]/\Same H H'/\Bag H' l/\m3<9/\m4<5/\H' ps=some (.lst [.int (n1:Int),.int (n2:Int),.int (m3:Int),.int (m4:Int)])) ?_ fun ht=>?_
 rotate_left
 ·refine ⟨_,rfl,l,2,rfl,B6,by decide,by decide,fun x H7 x0 x1 g7=>⟨rfl,_,rfl,?_⟩⟩
  have f7:=g7.1 _ _ nps f6
  have S7:=Bg.same hl S6 g7
  by_cases hx:x=0
  ·refine x_m (decide_eq_true (congrArg V.int hx)) ?_
   refine ⟨_,rfl,_,rfl,ps,_,rfl,SqL.of f7,fun p hp=>?_⟩
   have e:cutV [V.int (n1:Int),.int (n2:Int),.int (n3:Int),.int (n4:Int)] none (some 2)=[.int (n1:Int),.int (n2:Int)]:=rfl
   rw [e]
   have s8:=z_d hp (.lst [.int (n1:Int),.int (n2:Int)])
   have npp:ps≠p:=fun z=>by rw [<-z,f7] at hp;cases hp
   refine ⟨_,rfl,_,rfl,ps,p,_,_,rfl,rfl,npp,s8 _ _ f7,z_b,(by show 6<=sizeLine;decide),?_⟩
   refine ht _ _ ⟨n1,n2,rfl,y_y (S7.trans s8) hpsH _,(g7.2.same s8).2.set nps _,by lia,by lia,z_b⟩
  ·exact y_r (decide_eq_false fun z=>hx (by injection z)) (ht _ _ ⟨n3,n4,rfl,S7,g7.2,by lia,by lia,f7⟩)
 clear S6 B6 f6 d30 d31 d40 d41
 clear H6 n3 n4
 rintro σ H7 ⟨m3,m4,rfl,S7,B7,hm3,hm4,f7⟩
 refine ⟨_,rfl,l,4,rfl,B7,by decide,by decide,fun e1 H8 e10 e11 g8=>⟨_,rfl,l,4,rfl,g8.2,by decide,by decide,fun e2 H9 e20 e21 g9=>⟨(by show 2<=sizeLine;decide),fun pb hpb=>?_⟩⟩⟩
 obtain ⟨x1,rfl⟩:=Int.eq_ofNat_of_zero_le e10
 obtain ⟨x2,rfl⟩:=Int.eq_ofNat_of_zero_le e20
 have G9:=g8.trans g9
 have S9:=Bg.same hl S7 G9
 have f9:=G9.1 _ _ nps f7
 have npb:=G9.2.ne hpb
 have npp:ps≠pb:=fun z=>by rw [<-z,f9] at hpb;cases hpb
 have B10:=G9.2.set npb (.lst [.int (x1:Int),.int (x2:Int)])
 have S10:=y_y S9 (S9.free hpb) (.lst [.int (x1:Int),.int (x2:Int)])
 have k10:=z_b (H:=H9) (a:=pb) (o:=.lst [.int (x1:Int),.int (x2:Int)])
 have f10:=z_d hpb (.lst [.int (x1:Int),.int (x2:Int)]) _ _ f9
 dsimp only [gName]
 generalize upd H9 pb (.lst [.int (x1:Int),.int (x2:Int)])=H10 at B10 S10 k10 f10 ⊢
 clear g8 g9 G9 S9 f9 B7 S7 f7 hpb
 clear H7 H8 H9
 refine ⟨_,rfl,a,ns,1,rfl,S10.seq hS,by decide,by decide,fun l2 c0 c1 hl2 hc0=>?_⟩
 have B11:Bag (upd H10 l2 (.lst [.int c0,.int c1])) l2:=⟨c0,c1,z_b,hc0⟩
 have s11:=z_d hl2 (.lst [.int c0,.int c1])
 have B11l:=(B10.same s11).2
 have n2l:l2≠l:=B10.ne hl2
 have np2:ps≠l2:=fun e=>by rw [<-e,f10] at hl2;cases hl2
 have nq2:pb≠l2:=fun e=>by rw [<-e,k10] at hl2;cases hl2
 have f11:=s11 _ _ f10
 have k11:=s11 _ _ k10
 refine ⟨_,rfl,ps,_,_,_,rfl,rfl,SqL.of f11,rfl,_,rfl,pb,_,_,_,rfl,rfl,SqL.of k11,rfl,_,rfl,l,9,rfl,B11l,by decide,by decide,fun z H12 z0 z1 g12=>?_⟩
 obtain ⟨zn,rfl⟩:=Int.eq_ofNat_of_zero_le z0
 have f12:=g12.1 _ _ nps f11
 have k12:=g12.1 _ _ npb k11
 have B12:=bag_bg B11 g12 n2l
 refine ⟨_,rfl,ps,_,_,_,rfl,rfl,SqL.of f12,rfl,l2,n1,x1,zn,n2,rfl,B12,by lia,by lia,by lia,by lia,fun wk b g o bs gs U H13 G13 eb eg eo hU okU u1 u2 u3 u4=>?_⟩
 have B13:Bag H13 l:=bag_bg g12.2 G13 (Ne.symm n2l)
 have nb:=g12.2.ne eb
 have ng:=g12.2.ne eg
 have no:=g12.2.ne eo
 have S13:Same H H13:=fun c z e=>G13.1 _ _ (z_l (S10 _ _ e) hl2) (g12.1 _ _ (z_l e hl) (s11 _ _ (S10 _ _ e)))
 have f13:=G13.1 _ _ np2 f12
 have k13:=G13.1 _ _ nq2 k12
 clear G13 eb eg eo B12 g12 f11 k11 f12 k12 n2l np2 nq2 B11l s11 B11 hl2 S10 B10 f10 k10
 clear H10 H12
 refine ⟨_,rfl,a,ns,2,rfl,S13.seq hS,by decide,by decide,fun l3 c0 c1 hl3 hc0=>?_⟩
 have B14:Bag (upd H13 l3 (.lst [.int c0,.int c1])) l3:=⟨c0,c1,z_b,hc0⟩
 have s14:=z_d hl3 (.lst [.int c0,.int c1])
 have B14l:=(B13.same s14).2
 have n3l:l3≠l:=B13.ne hl3
 have np3:ps≠l3:=fun e=>by rw [<-e,f13] at hl3;cases hl3
 have f14:=s14 _ _ f13
 have k14:=s14 _ _ k13
 have hU14:=hU.same s14
 obtain ⟨xb,xg,xo⟩:=wna_ne hU hl3
 refine ⟨_,rfl,ps,_,_,_,rfl,rfl,SqL.of f14,rfl,_,rfl,pb,_,_,_,rfl,rfl,SqL.of k14,rfl,_,rfl,l,9,rfl,B14l,by decide,by decide,fun z H15 z0 z1 g15=>?_⟩
 obtain ⟨vn,rfl⟩:=Int.eq_ofNat_of_zero_le z0
 have f15:=g15.1 _ _ nps f14
 have B15:=bag_bg B14 g15 n3l
 have hU15:=wna_bg hU14 B14l g15 nb ng no
 refine ⟨_,rfl,ps,_,_,_,rfl,rfl,SqL.of f15,rfl,l3,m3,x2,vn,m4,rfl,B15,by lia,by lia,by lia,by lia,fun w' b' g' o' bs' gs' W H16 G16 eb eg eo hW okW v1 v2 v3 v4=>?_⟩
 have B16:Bag H16 l:=bag_bg g15.2 G16 (Ne.symm n3l)
 have nb':=g15.2.ne eb
 have ng':=g15.2.ne eg
 have no':=g15.2.ne eo
 have S16:Same H H16:=fun c z e=>G16.1 _ _ (z_l (S13 _ _ e) hl3) (g15.1 _ _ (z_l e hl) (s14 _ _ (S13 _ _ e)))
 have f16:=G16.1 _ _ np3 f15
 have hU16:=wna_bg hU15 B15 G16 xb xg xo
 clear G16 eb eg eo B15 g15 f15 f14 k14 k13 f13 n3l np3 B14l s14 B14 hl3 S13 B13 hU hU14 hU15 xb xg xo npp npb
 clear H13 H15
 refine ⟨_,rfl,l,500,rfl,B16,by decide,by decide,fun y H17 y0 y1 g17=>⟨_,_,rfl,rfl,?_⟩⟩
 obtain ⟨yn,rfl⟩:=Int.eq_ofNat_of_zero_le y0
 have f17:=g17.1 _ _ nps f16
 have hU17:=wna_bg hU16 B16 g17 nb ng no
 have hW17:=wna_bg hW B16 g17 nb' ng' no'
 have B17:=g17.2
 dsimp only [gName]
 show tSeq _ _ _ [some (.ref a),some (.ref l),some (.ref ps),some (.ref pb),some (.ref wk),some (.ref w'),some (.int (1+(yn:Int))),none,none,none,none] H17
 clear g17 B16 f16 hU16 hW S16 y0
 clear H16
 have ef:∀ V0:Wn,V0.boxes.map (fun ns:List Nat=>V.int ((ns.getD 0 0:Nat):Int))=nV (V0.boxes.map fun x=>x.getD 0 0):=fun V0=>by unfold nV;rw [List.map_map];rfl
 refine ⟨_,rfl,wk,_,_,_,rfl,rfl,SqT.of hU17.w,rfl,b,rfl,⟨_,SqL.of hU17.b.1⟩,comp_paired (f:=fun ns:List Nat=>V.int ((ns.getD 0 0:Nat):Int)) (SqL.of hU17.b.1) hU17.b.2 (by have:=okU.nb;have:=hU17.b.len;lia) (fun r ns h hm N hN=>?_) fun f1 hf1=>?_⟩
 ·obtain ⟨x,y,rfl,_,_⟩:=okU.box ns hm
  exact ⟨_,rfl,r,_,_,_,rfl,rfl,SqT.of h,rfl,hN⟩
 rw [ef]
 refine ⟨f1,_,rfl,.inl ⟨SqL.of z_b,fun a1 ha1=>?_⟩⟩
 have s1:=(z_d hf1 (.lst (nV (U.boxes.map fun x=>x.getD 0 0)))).trans (z_d ha1 (.tup (nV (U.boxes.map fun x=>x.getD 0 0))))
 have fa:=z_b (H:=upd H17 f1 (.lst (nV (U.boxes.map fun x=>x.getD 0 0)))) (a:=a1) (o:=.tup (nV (U.boxes.map fun x=>x.getD 0 0)))
 generalize upd (upd H17 f1 (.lst (nV (U.boxes.map fun x=>x.getD 0 0)))) a1 (.tup (nV (U.boxes.map fun x=>x.getD 0 0)))=H18 at s1 fa ⊢
 have hW18:=hW17.same s1
 refine ⟨_,rfl,w',_,_,_,rfl,rfl,SqT.of hW18.w,rfl,b',rfl,⟨_,SqL.of hW18.b.1⟩,comp_paired (f:=fun ns:List Nat=>V.int ((ns.getD 0 0:Nat):Int)) (SqL.of hW18.b.1) hW18.b.2 (by have:=okW.nb;have:=hW18.b.len;lia) (fun r ns h hm N hN=>?_) fun f2 hf2=>?_⟩
 ·obtain ⟨x,y,rfl,_,_⟩:=okW.box ns hm
  exact ⟨_,rfl,r,_,_,_,rfl,rfl,SqT.of h,rfl,hN⟩
 rw [ef]
 refine ⟨f2,_,rfl,.inl ⟨SqL.of z_b,fun a2 ha2=>?_⟩⟩
 have s2:=(z_d hf2 (.lst (nV (W.boxes.map fun x=>x.getD 0 0)))).trans (z_d ha2 (.tup (nV (W.boxes.map fun x=>x.getD 0 0))))
 refine ⟨(by show 2<=sizeLine;decide),fun pf hpf=>?_⟩
 have s3:=z_d hpf (.tup [.ref a1,.ref a2])
 have J19:JK (upd (upd (upd H18 f2 (.lst (nV (W.boxes.map fun x=>x.getD 0 0)))) a2 (.tup (nV (W.boxes.map fun x=>x.getD 0 0)))) pf (.tup [.ref a1,.ref a2])) pf (firJ U W):=⟨a1,a2,z_b,(s2.trans s3) _ _ fa,s3 _ _ z_b⟩
 have S19:=(s1.trans s2).trans s3
 dsimp only [gName]
 show tSeq _ _ _ [some (.ref a),some (.ref l),some (.ref ps),some (.ref pb),some (.ref wk),some (.ref w'),some (.int (1+(yn:Int))),some (.ref pf),none,none,none] (upd (upd (upd H18 f2 (.lst (nV (W.boxes.map fun x=>x.getD 0 0)))) a2 (.tup (nV (W.boxes.map fun x=>x.getD 0 0)))) pf (.tup [.ref a1,.ref a2]))
 generalize upd (upd (upd H18 f2 (.lst (nV (W.boxes.map fun x=>x.getD 0 0)))) a2 (.tup (nV (W.boxes.map fun x=>x.getD 0 0)))) pf (.tup [.ref a1,.ref a2])=H19 at J19 S19 ⊢
 have B19:=(B17.same S19).2
 have hU19:=hU17.same S19
 have hW19:=hW17.same S19
 have f19:=S19 _ _ f17
 clear s1 s2 s3 hpf ha2 hf2 ha1 hf1 fa hW18 B17 hU17 hW17 f17 S19 ef
 clear H17 H18
 have jt:Jt U.boxes.length W.boxes.length (firJ U W):=⟨List.length_map _,List.length_map _,(fun x hx=>by
  obtain ⟨z,hz,rfl⟩:=List.mem_map.mp hx
  obtain ⟨f,e,rfl,h,_⟩:=okU.box z hz
  exact h),fun x hx=>by
  obtain ⟨z,hz,rfl⟩:=List.mem_map.mp hx
  obtain ⟨f,e,rfl,h,_⟩:=okW.box z hz
  exact h⟩
 have J:=Gd.jk J19 jt (by lia) (by lia)
 refine ⟨(by show 0<=sizeLine;decide),fun t0 ht0=>?_⟩
 have r0:=z_d ht0 (.lst [])
 have q0:=z_b (H:=H19) (a:=t0) (o:=.lst [])
 generalize upd H19 t0 (.lst [])=K0 at r0 q0 ⊢
 refine ⟨_,rfl,(by show 1<=sizeLine;decide),fun t1 ht1=>?_⟩
 have r1:=z_d ht1 (.lst [.ref pf])
 have q1:=z_b (H:=K0) (a:=t1) (o:=.lst [.ref pf])
 generalize upd K0 t1 (.lst [.ref pf])=K1 at r1 q1 ⊢
 refine ⟨_,rfl,(by show 1<=sizeLine;decide),fun t2 ht2=>?_⟩
 have r2:=z_d ht2 (.tup [.ref pf])
 have q2:=z_b (H:=K1) (a:=t2) (o:=.tup [.ref pf])
 generalize upd K1 t2 (.tup [.ref pf])=K2 at r2 q2 ⊢
 refine ⟨_,rfl,_,rfl,(by show 2<=sizeLine;decide),fun t3 ht3=>?_⟩
 have r3:=z_d ht3 (.lst [.ref pf,.ref pf])
 have q3:=z_b (H:=K2) (a:=t3) (o:=.lst [.ref pf,.ref pf])
 generalize upd K2 t3 (.lst [.ref pf,.ref pf])=K3 at r3 q3 ⊢
 refine ⟨(by show 7<=sizeLine;decide),fun t4 ht4=>?_⟩
 have r4:=z_d ht4 (.lst [.ref t0,.ref t1,.non,.int 7,.str "x",.ref t2,.ref t3])
 have q4:=z_b (H:=K3) (a:=t4) (o:=.lst [.ref t0,.ref t1,.non,.int 7,.str "x",.ref t2,.ref t3])
 generalize upd K3 t4 (.lst [.ref t0,.ref t1,.non,.int 7,.str "x",.ref t2,.ref t3])=K4 at r4 q4 ⊢
 have r34:=r3.trans r4
 have r24:=r2.trans r34
 have r14:=r1.trans r24
 have r04:=r0.trans r14
 have n0:=B19.ne ht0
 have n1:=(B19.same r0).2.ne ht1
 have n3:=(B19.same (r0.trans (r1.trans r2))).2.ne ht3
 have n4:=(B19.same (r0.trans (r1.trans (r2.trans r3)))).2.ne ht4
 have B20:=(B19.same r04).2
 refine ⟨_,rfl,l,7,rfl,B20,by decide,by decide,fun j H21 j0 j1 g21=>?_⟩
 obtain ⟨jn,rfl⟩:=Int.eq_ofNat_of_zero_le j0
 have all:∀ x∈[V.ref t0,.ref t1,.non,.int 7,.str "x",.ref t2,.ref t3],Gd 5 40000 H21 x:=by
  have J4:=Gd.jk ((J19.same r04).tups fun c xs e=>g21.1 _ _ (B20.neT e) e) jt (by lia) (by lia)
  intro x hx
  simp only [List.mem_cons,List.not_mem_nil,or_false] at hx
  rcases hx with rfl | rfl | rfl | rfl | rfl | rfl | rfl
  ·exact (Gd.lst (m:=2) (k:=2) (n:=128) (k':=3) (n':=264) (g21.1 _ _ n0 (r14 _ _ q0)) .nil (by simp) (by decide) (by decide) (by decide)).mono (by decide) (by decide)
  ·exact (Gd.lst (m:=2) (k':=3) (n':=264) (g21.1 _ _ n1 (r24 _ _ q1)) (.cons J4 .nil) (by simp) (by decide) (by decide) (by decide)).mono (by decide) (by decide)
  ·exact Gd.non.mono (k:=0) (by decide) (by decide)
  ·exact (Gd.int (k:=0) (i:=7) (by decide)).mono (by decide) (by decide)
  ·exact Gd.x.mono (k:=0) (by decide) (by decide)
  ·exact (Gd.tup (m:=2) (k':=3) (n':=264) (g21.1 _ _ (B20.neT (r34 _ _ q2)) (r34 _ _ q2)) (.cons J4 .nil) (by simp) (by decide) (by decide) (by decide)).mono (by decide) (by decide)
  ·exact (Gd.lst (m:=2) (k':=3) (n':=264) (g21.1 _ _ n3 (r4 _ _ q3)) (.cons J4 (.cons J4 .nil)) (by simp) (by decide) (by decide) (by decide)).mono (by decide) (by decide)
 have hU21:=wna_bg (hU19.same r04) B20 g21 nb ng no
 have hW21:=wna_bg (hW19.same r04) B20 g21 nb' ng' no'
 have f21:=g21.1 _ _ nps (r04 _ _ f19)
 have e21:=g21.1 _ _ n4 q4
 obtain ⟨v,hv⟩:∃ v,[V.ref t0,.ref t1,.non,.int 7,.str "x",.ref t2,.ref t3][jn]? = some v:=⟨_,List.getElem?_eq_getElem (by simp only [List.length_cons,List.length_nil];lia)⟩
 have gv:=all v (List.mem_of_getElem? hv)
 refine ⟨t4,_,_,_,rfl,rfl,SqL.of e21,atI_nat hv,?_⟩
 clear r0 r1 r2 r3 r4 r34 r24 r14 r04 q0 q1 q2 q3 q4 ht0 ht1 ht2 ht3 ht4 J J19 jt hU19 hW19 f19 all e21 hv n0 n1 n3 n4 g21 B20 B19 j0 j1 jn
 clear H19 K0 K1 K2 K3 K4 t0 t1 t2 t3 t4
 dsimp only [gName]
 show tSeq _ _ _ [some (.ref a),some (.ref l),some (.ref ps),some (.ref pb),some (.ref wk),some (.ref w'),some (.int ((1+yn:Nat):Int)),some (.ref pf),some v,none,none] H21
 obtain ⟨d,hD,tm⟩:=id gv
 have shU:=sh_wx okU
 have shW:=sh_wx okW
 have shD:d.hasDict=false:=PyData.hasDict_of_canLay _ tm.cl
 have dpD:d.depth<=20:=Nat.le_trans tm.dp (by decide)
 have lnD:d.shown.length<=sizeLine:=Nat.le_trans tm.ln (by decide)
 refine ⟨_,rfl,.ref wk,dWn U,rfl,hU21.rd,shU.1,shU.2.1,shU.2.2.1,shU.2.2.2,_,rfl,.ref w',dWn W,rfl,hW21.rd,shW.1,shW.2.1,shW.2.2.1,shW.2.2.2,_,rfl,v,d,rfl,hD.rd,tm.sh,shD,dpD,lnD,(by show 3<=sizeLine;decide),fun pk hpk=>?_⟩
 have s22:=z_d hpk (.tup [.str (dWn U).shown,.str (dWn W).shown,.str d.shown])
 have k22:=z_b (H:=H21) (a:=pk) (o:=.tup [.str (dWn U).shown,.str (dWn W).shown,.str d.shown])
 dsimp only [gName]
 show tSeq _ _ _ [some (.ref a),some (.ref l),some (.ref ps),some (.ref pb),some (.ref wk),some (.ref w'),some (.int ((1+yn:Nat):Int)),some (.ref pf),some v,some (.ref pk),none] (upd H21 pk (.tup [.str (dWn U).shown,.str (dWn W).shown,.str d.shown]))
 generalize upd H21 pk (.tup [.str (dWn U).shown,.str (dWn W).shown,.str d.shown])=H22 at s22 k22 ⊢
 refine ⟨(by show 0<=sizeLine;decide),fun z1 hz1=>⟨(by show 0<=sizeLine;decide),fun z2 hz2=>⟨(by show 1<=sizeLine;decide),fun z3 hz3=>⟨(by show 4<=sizeLine;decide),fun ws hws=>?_⟩⟩⟩⟩
 have y1':=z_d hz1 (.lst [])
 have y2':=z_d hz2 (.lst [])
 have y3':=z_d hz3 (.lst [.int 1])
 have y4':=z_d hws (.tup [.int 0,.ref z1,.ref z2,.ref z3])
 have hM:WnA (upd (upd (upd (upd H22 z1 (.lst [])) z2 (.lst [])) z3 (.lst [.int 1])) ws (.tup [.int 0,.ref z1,.ref z2,.ref z3])) ws z1 z2 z3 [] [] ⟨0,[],[],[1]⟩:=⟨z_b,⟨y4' _ _ (y3' _ _ (y2' _ _ z_b)),.nil⟩,⟨y4' _ _ (y3' _ _ z_b),.nil⟩,y4' _ _ z_b⟩
 have s23:=s22.trans (y1'.trans (y2'.trans (y3'.trans y4')))
 have k23:=y4' _ _ (y3' _ _ (y2' _ _ (y1' _ _ k22)))
 dsimp only [gName]
 show tSeq _ _ _ [some (.ref a),some (.ref l),some (.ref ps),some (.ref pb),some (.ref wk),some (.ref w'),some (.int ((1+yn:Nat):Int)),some (.ref pf),some v,some (.ref pk),some (.ref ws)] (upd (upd (upd (upd H22 z1 (.lst [])) z2 (.lst [])) z3 (.lst [.int 1])) ws (.tup [.int 0,.ref z1,.ref z2,.ref z3]))
 generalize upd (upd (upd (upd H22 z1 (.lst [])) z2 (.lst [])) z3 (.lst [.int 1])) ws (.tup [.int 0,.ref z1,.ref z2,.ref z3])=H23 at hM s23 k23 ⊢
 clear y1' y2' y3' y4' hws hz3 hz2 hz1 s22 k22 hpk
 have f23:=s23 _ _ f21
 have hU23:=hU21.same s23
 have hW23:=hW21.same s23
 have hD23:=hD.same s23
 replace gv:=gv.same s23
 clear f21 hU21 hW21 hD s23
 clear H21 H22
 have px:Px H23 wk w' U W:=⟨⟨⟨_,_,_,_,_,hU23⟩,_,_,_,_,_,hW23⟩,okU,okW⟩
 refine seq_pre (s:=tIfS _ _ _) (fun σ H'=>σ=[some (.ref a),some (.ref l),some (.ref ps),some (.ref pb),some (.ref wk),some (.ref w'),some (.int ((1+yn:Nat):Int)),some (.ref pf),some v,some (.ref pk),some (.ref ws)]/\Same H23 H') ?_ fun ht=>?_
 rotate_left
 ·refine ⟨_,rfl,_,rfl,ps,_,rfl,SqL.of f23,fun p1 hp1=>?_⟩
  rw [show cutV [V.int (n1:Int),.int (n2:Int),.int (m3:Int),.int (m4:Int)] none (some 2)=[.int (n1:Int),.int (n2:Int)] from rfl]
  have o1:=z_d hp1 (.lst [.int (n1:Int),.int (n2:Int)])
  have e1:=z_b (H:=H23) (a:=p1) (o:=.lst [.int (n1:Int),.int (n2:Int)])
  generalize upd H23 p1 (.lst [.int (n1:Int),.int (n2:Int)])=L1 at o1 e1 ⊢
  refine ⟨_,rfl,_,rfl,ps,_,rfl,SqL.of (o1 _ _ f23),fun p2 hp2=>?_⟩
  rw [show cutV [V.int (n1:Int),.int (n2:Int),.int (m3:Int),.int (m4:Int)] (some 2) none=[.int (m3:Int),.int (m4:Int)] from rfl]
  have o2:=z_d hp2 (.lst [.int (m3:Int),.int (m4:Int)])
  have e2:=z_b (H:=L1) (a:=p2) (o:=.lst [.int (m3:Int),.int (m4:Int)])
  generalize upd L1 p2 (.lst [.int (m3:Int),.int (m4:Int)])=L2' at o2 e2 ⊢
  have so:=o1.trans o2
  refine ⟨_,_,rd_two (o2 _ _ e1),rd_two e2,cmp_twoI,cmp_twoI,_,rfl,?_⟩
  rw [eqv_two]
  by_cases c:([(n1:Int),(n2:Int)]=[(m3:Int),(m4:Int)])
  ·have c':n1=m3/\n2=m4:=by
    simp only [List.cons.injEq,and_true] at c
    lia
   refine x_m (by rw [decide_eq_true c];rfl) ?_
   refine ⟨_,rfl,ps,_,_,_,rfl,rfl,SqL.of (so _ _ f23),rfl,_,_,rfl,rfl,_,rfl,?_⟩
   by_cases c7:n1<7
   ·refine x_m (decide_eq_true (by show ((n1:Nat):Int)<7;lia)) ?_
    exact ⟨_,rfl,_,rfl,_,rfl,_,rfl,wk,w',U,W,v,1+yn,rfl,px.same so,gv.same so,⟨⟨by lia,by lia⟩,by lia⟩,by lia,fun H' s'=>⟨_,rfl,y_r rfl (ht _ _ ⟨rfl,so.trans s'⟩)⟩⟩
   ·refine y_r (decide_eq_false (by show ¬((n1:Nat):Int)<7;lia)) ?_
    have nok:¬OkS U W:=fun z=>absurd z.2 (by lia)
    have z:=so
    refine ⟨_,rfl,_,rfl,_,rfl,wk,w',U,W,v,0,rfl,px.same z,gv.same z,(fun h=>absurd h nok),(fun h=>absurd h nok),fun _ t1 K1 r1 e1=>?_⟩
    refine ⟨(by show 2<=sizeLine;decide),fun t2 ht2=>rEqD.eq _ (rd_ref (z_d ht2 _ _ _ e1)) (rd_ref z_b) cmp_ref ⟨_,rfl,y_r rfl ?_⟩⟩
    have z:=(z.trans r1).trans (z_d ht2 (.tup [.str "refused",.int 0]))
    refine ⟨_,rfl,_,rfl,_,rfl,_,rfl,wk,w',U,W,v,1+yn,rfl,px.same z,gv.same z,(fun h=>absurd h nok),(fun h=>absurd h nok),fun _ t3 K3 r3 e3=>?_⟩
    refine ⟨(by show 2<=sizeLine;decide),fun t4 ht4=>rEqD.eq _ (rd_ref (z_d ht4 _ _ _ e3)) (rd_ref z_b) cmp_ref ⟨_,rfl,y_r rfl ?_⟩⟩
    have z:=(z.trans r3).trans (z_d ht4 (.tup [.str "refused",.int 0]))
    refine ⟨_,rfl,_,rfl,_,rfl,_,rfl,w',wk,W,U,v,1+yn,rfl,(px.same z).sw,gv.same z,(fun h=>absurd h.sw nok),(fun h=>absurd h.sw nok),fun _ t5 K5 r5 e5=>?_⟩
    refine ⟨(by show 2<=sizeLine;decide),fun t6 ht6=>rEqD.eq _ (rd_ref (z_d ht6 _ _ _ e5)) (rd_ref z_b) cmp_ref ⟨_,rfl,y_r rfl ?_⟩⟩
    exact ht _ _ ⟨rfl,(z.trans r5).trans (z_d ht6 (.tup [.str "refused",.int 0]))⟩
  ·refine y_r (by rw [decide_eq_false c];rfl) ?_
   have nok:¬OkS U W:=fun z=>c (by have h1:=z.1.1;have h2:=z.1.2;rw [show n1=m3 by lia,show n2=m4 by lia])
   have z:=so
   refine ⟨_,rfl,_,rfl,_,rfl,wk,w',U,W,v,0,rfl,px.same z,gv.same z,(fun h=>absurd h nok),(fun h=>absurd h nok),fun _ t1 K1 r1 e1=>?_⟩
   refine ⟨(by show 2<=sizeLine;decide),fun t2 ht2=>rEqD.eq _ (rd_ref (z_d ht2 _ _ _ e1)) (rd_ref z_b) cmp_ref ⟨_,rfl,y_r rfl ?_⟩⟩
   have z:=(z.trans r1).trans (z_d ht2 (.tup [.str "refused",.int 0]))
   refine ⟨_,rfl,_,rfl,_,rfl,_,rfl,wk,w',U,W,v,1+yn,rfl,px.same z,gv.same z,(fun h=>absurd h nok),(fun h=>absurd h nok),fun _ t3 K3 r3 e3=>?_⟩
   refine ⟨(by show 2<=sizeLine;decide),fun t4 ht4=>rEqD.eq _ (rd_ref (z_d ht4 _ _ _ e3)) (rd_ref z_b) cmp_ref ⟨_,rfl,y_r rfl ?_⟩⟩
   have z:=(z.trans r3).trans (z_d ht4 (.tup [.str "refused",.int 0]))
   refine ⟨_,rfl,_,rfl,_,rfl,_,rfl,w',wk,W,U,v,1+yn,rfl,(px.same z).sw,gv.same z,(fun h=>absurd h.sw nok),(fun h=>absurd h.sw nok),fun _ t5 K5 r5 e5=>?_⟩
   refine ⟨(by show 2<=sizeLine;decide),fun t6 ht6=>rEqD.eq _ (rd_ref (z_d ht6 _ _ _ e5)) (rd_ref z_b) cmp_ref ⟨_,rfl,y_r rfl ?_⟩⟩
   exact ht _ _ ⟨rfl,(z.trans r5).trans (z_d ht6 (.tup [.str "refused",.int 0]))⟩
 rintro σ H24 ⟨rfl,s24⟩
 refine ⟨_,rfl,_,rfl,(by show 0<=sizeLine;decide),fun u5 hu5=>⟨(by show 0<=sizeLine;decide),fun u6 hu6=>⟨(by show 2<=sizeLine;decide),fun u7 hu7=>⟨(by show 1<=sizeLine;decide),fun u8 hu8=>?_⟩⟩⟩⟩
 have y1':=z_d hu5 (.tup [])
 have y2':=z_d hu6 (.tup [])
 have y3':=z_d hu7 (.tup [.ref u5,.ref u6])
 have y4':=z_d hu8 (.lst [.ref u7])
 have JM:JK (upd (upd (upd (upd H24 u5 (.tup [])) u6 (.tup [])) u7 (.tup [.ref u5,.ref u6])) u8 (.lst [.ref u7])) u7 ([],[]):=⟨u5,u6,y4' _ _ z_b,y4' _ _ (y3' _ _ (y2' _ _ z_b)),y4' _ _ (y3' _ _ z_b)⟩
 have GM:Gd 5 40000 (upd (upd (upd (upd H24 u5 (.tup [])) u6 (.tup [])) u7 (.tup [.ref u5,.ref u6])) u8 (.lst [.ref u7])) (.ref u8):=(Gd.lst (m:=2) (k':=3) (n':=264) z_b (.cons (Gd.jk (a:=0) (b:=0) JM ⟨rfl,rfl,(fun x hx=>nomatch hx),(fun x hx=>nomatch hx)⟩ (by decide) (by decide)) .nil) (by simp) (by decide) (by decide) (by decide)).mono (by decide) (by decide)
 have s25:=s24.trans (y1'.trans (y2'.trans (y3'.trans y4')))
 refine ⟨_,rfl,ws,ws,⟨0,[],[],[1]⟩,⟨0,[],[],[1]⟩,.ref u8,1+yn,rfl,⟨⟨⟨_,_,_,_,_,hM.same s25⟩,_,_,_,_,_,hM.same s25⟩,small_ox,small_ox⟩,GM,⟨⟨rfl,rfl⟩,by decide⟩,by lia,fun H26 s26=>⟨_,rfl,y_r rfl ?_⟩⟩
 have S26:=s25.trans s26
 refine ⟨_,rfl,_,rfl,.ref wk,dWn U,rfl,(hU23.same S26).rd,shU.1,shU.2.1,shU.2.2.1,shU.2.2.2,_,rfl,.ref w',dWn W,rfl,(hW23.same S26).rd,shW.1,shW.2.1,shW.2.2.1,shW.2.2.2,_,rfl,v,d,rfl,(hD23.same S26).rd,tm.sh,shD,dpD,lnD,(by show 3<=sizeLine;decide),fun t ht=>?_⟩
 have st:=z_d ht (.tup [.str (dWn U).shown,.str (dWn W).shown,.str d.shown])
 exact rEqD.eq _ (rd_three (st _ _ (S26 _ _ k23))) (rd_three z_b) (cmp_three (ok_wn U) (ok_wn W) tm.ok) (q _)
end
theorem all_ok{P:Program}{w:World}{K:PySem.W.Frag}{mg:Str->Option Value}{base:Heap}{A:Ad}(T:Tx w K mg A):FnOk P w K mg base CX0 9 A.a_law A.d_law ["_law_script"] (sp_law K):=by
 have G_first_stand:=ok_first_stand (P:=P) (base:=base) T
 have G_bits_of_ends:=ok_bits_of_ends (P:=P) (base:=base) T
 have G_beat_by:=ok_beat_by (P:=P) (base:=base) T G_bits_of_ends
 have G_is_whole:=ok_is_whole (P:=P) (base:=base) T
 have G_is_between:=ok_is_between (P:=P) (base:=base) T G_is_whole
 have G_bits_of:=ok_bits_of (P:=P) (base:=base) T
 have G_all_stands:=ok_all_stands (P:=P) (base:=base) T
 have G_look_pair:=ok_look_pair (P:=P) (base:=base) T
 have G_look_small:=ok_look_small (P:=P) (base:=base) T G_look_pair
 have G_beats_apart:=ok_beats_apart (P:=P) (base:=base) T
 have G_bits_among:=ok_bits_among (P:=P) (base:=base) T
 have G_least_beat:=ok_least_beat (P:=P) (base:=base) T
 have G_beats_from:=ok_beats_from (P:=P) (base:=base) T G_all_stands G_beat_by G_beats_apart G_bits_among G_least_beat
 have G_first_joint_stand:=ok_first_joint_stand (P:=P) (base:=base) T G_first_stand
 have G_is_stand:=ok_is_stand (P:=P) (base:=base) T G_is_between
 have G_is_joint_stand:=ok_is_joint_stand (P:=P) (base:=base) T G_is_stand
 have G_is_table:=ok_is_table (P:=P) (base:=base) T G_look_small G_beats_from G_first_joint_stand G_is_joint_stand
 have G_way_to:=ok_way_to (P:=P) (base:=base) T
 have G_meet:=ok_meet (P:=P) (base:=base) T G_look_small G_first_joint_stand G_beats_from G_way_to G_least_beat G_bits_of
 have G_L_cell_at:=ok_L_cell_at (P:=P) (base:=base) T
 have G_L_bag:=ok_L_bag (P:=P) (base:=base) T G_L_cell_at
 have G_L_take:=ok_L_take (P:=P) (base:=base) T
 have G_L_work:=ok_L_work (P:=P) (base:=base) T G_L_take
 have G_L_asked:=ok_L_asked (P:=P) (base:=base) T G_is_table G_meet
 have G_L_said:=ok_L_said (P:=P) (base:=base) T G_L_asked
 have G_L_good:=ok_L_good (P:=P) (base:=base) T G_L_said
 exact ok_law T G_L_bag G_L_work G_L_take G_L_good G_L_said
theorem of_len1{fd:FuncData}{ns:List Str}(h:∀ a0,bindArgs fd ⟨[a0],[]⟩=pure (ns.zip [a0])):∀ us:List Value,us.length=1->bindArgs fd ⟨us,[]⟩=pure (ns.zip us):=fun us hl=>by
 exact l_cons (P:=fun us=>bindArgs fd ⟨us,[]⟩=pure (ns.zip (us))) (fun a0=>l_nil (h a0)) us hl
theorem of_len2{fd:FuncData}{ns:List Str}(h:∀ a0 a1,bindArgs fd ⟨[a0,a1],[]⟩=pure (ns.zip [a0,a1])):∀ us:List Value,us.length=2->bindArgs fd ⟨us,[]⟩=pure (ns.zip us):=fun us hl=>by
 exact l_cons (P:=fun us=>bindArgs fd ⟨us,[]⟩=pure (ns.zip (us))) (fun a0=>l_cons (P:=fun us=>bindArgs fd ⟨a0::us,[]⟩=pure (ns.zip (a0::us))) (fun a1=>l_nil (h a0 a1))) us hl
theorem of_len3{fd:FuncData}{ns:List Str}(h:∀ a0 a1 a2,bindArgs fd ⟨[a0,a1,a2],[]⟩=pure (ns.zip [a0,a1,a2])):∀ us:List Value,us.length=3->bindArgs fd ⟨us,[]⟩=pure (ns.zip us):=fun us hl=>by
 exact l_cons (P:=fun us=>bindArgs fd ⟨us,[]⟩=pure (ns.zip (us))) (fun a0=>l_cons (P:=fun us=>bindArgs fd ⟨a0::us,[]⟩=pure (ns.zip (a0::us))) (fun a1=>l_cons (P:=fun us=>bindArgs fd ⟨a0::a1::us,[]⟩=pure (ns.zip (a0::a1::us))) (fun a2=>l_nil (h a0 a1 a2)))) us hl
theorem of_len4{fd:FuncData}{ns:List Str}(h:∀ a0 a1 a2 a3,bindArgs fd ⟨[a0,a1,a2,a3],[]⟩=pure (ns.zip [a0,a1,a2,a3])):∀ us:List Value,us.length=4->bindArgs fd ⟨us,[]⟩=pure (ns.zip us):=fun us hl=>by
 exact l_cons (P:=fun us=>bindArgs fd ⟨us,[]⟩=pure (ns.zip (us))) (fun a0=>l_cons (P:=fun us=>bindArgs fd ⟨a0::us,[]⟩=pure (ns.zip (a0::us))) (fun a1=>l_cons (P:=fun us=>bindArgs fd ⟨a0::a1::us,[]⟩=pure (ns.zip (a0::a1::us))) (fun a2=>l_cons (P:=fun us=>bindArgs fd ⟨a0::a1::a2::us,[]⟩=pure (ns.zip (a0::a1::a2::us))) (fun a3=>l_nil (h a0 a1 a2 a3))))) us hl
theorem of_len5{fd:FuncData}{ns:List Str}(h:∀ a0 a1 a2 a3 a4,bindArgs fd ⟨[a0,a1,a2,a3,a4],[]⟩=pure (ns.zip [a0,a1,a2,a3,a4])):∀ us:List Value,us.length=5->bindArgs fd ⟨us,[]⟩=pure (ns.zip us):=fun us hl=>by
 exact l_cons (P:=fun us=>bindArgs fd ⟨us,[]⟩=pure (ns.zip (us))) (fun a0=>l_cons (P:=fun us=>bindArgs fd ⟨a0::us,[]⟩=pure (ns.zip (a0::us))) (fun a1=>l_cons (P:=fun us=>bindArgs fd ⟨a0::a1::us,[]⟩=pure (ns.zip (a0::a1::us))) (fun a2=>l_cons (P:=fun us=>bindArgs fd ⟨a0::a1::a2::us,[]⟩=pure (ns.zip (a0::a1::a2::us))) (fun a3=>l_cons (P:=fun us=>bindArgs fd ⟨a0::a1::a2::a3::us,[]⟩=pure (ns.zip (a0::a1::a2::a3::us))) (fun a4=>l_nil (h a0 a1 a2 a3 a4)))))) us hl
theorem all_mk{w:World}{K:PySem.W.Frag}{h:Heap}{mg:Str->Option Value}{fa:Addr}(X:K.In h)(G:h.Ns mainGlobals mg)(hfa:mg "law" = some (.ref fa))
  {f0 f1 f2 f3 f4 f5 f6 f7 f8 f9 f10 f11 f12 f13 f14 f15 f16 f17 f18 f19 f20 f21 f22 f23 f24 f25 f26:Addr} {od0 an0 od1 an1 od2 an2 od3 an3 od4 an4 od5 an5 od6 an6 od7 an7 od8 an8 od9 an9 od10 an10 od11 an11 od12 an12 od13 an13 od14 an14 od15 an15 od16 an16 od17 an17 od18 an18 od19 an19 od20 an20 od21 an21 od22 an22 od23 an23 od24 an24 od25 an25 od26 an26:Option Addr} {sl0 sl1 sl2 sl3 sl4 sl5 sl6 sl7 sl8 sl9 sl10 sl11 sl12 sl13 sl14 sl15 sl16 sl17 sl18 sl19 sl20 sl21 sl22 sl23 sl24 sl25 sl26:Array (Option Value)} {oc0 kV0 dc0 pm0 cd0 ct0 oc1 kV1 dc1 pm1 cd1 ct1 oc2 kV2 dc2 pm2 cd2 ct2 oc3 kV3 dc3 pm3 cd3 ct3 oc4 kV4 dc4 pm4 cd4 ct4 oc5 kV5 dc5 pm5 cd5 ct5 oc6 kV6 dc6 pm6 cd6 ct6 oc7 kV7 dc7 pm7 cd7 ct7 oc8 kV8 dc8 pm8 cd8 ct8 oc9 kV9 dc9 pm9 cd9 ct9 oc10 kV10 dc10 pm10 cd10 ct10 oc11 kV11 dc11 pm11 cd11 ct11 oc12 kV12 dc12 pm12 cd12 ct12 oc13 kV13 dc13 pm13 cd13 ct13 oc14 kV14 dc14 pm14 cd14 ct14 oc15 kV15 dc15 pm15 cd15 ct15 oc16 kV16 dc16 pm16 cd16 ct16 oc17 kV17 dc17 pm17 cd17 ct17 oc18 kV18 dc18 pm18 cd18 ct18 oc19 kV19 dc19 pm19 cd19 ct19 oc20 kV20 dc20 pm20 cd20 ct20 oc21 kV21 dc21 pm21 cd21 ct21 oc22 kV22 dc22 pm22 cd22 ct22 oc23 kV23 dc23 pm23 cd23 ct23 oc24 kV24 dc24 pm24 cd24 ct24 oc25 kV25 dc25 pm25 cd25 ct25 oc26 kV26 dc26 pm26 cd26 ct26:Value}
  {C_ForgeError:Addr} (aC_ForgeError:PySem.W.nsIn K mainGlobals "ForgeError" = some (some (.ref C_ForgeError)))
  {C_NoPlan:Addr} (aC_NoPlan:PySem.W.nsIn K mainGlobals "NoPlan" = some (some (.ref C_NoPlan)))
  {C_NoName:Addr} (aC_NoName:PySem.W.nsIn K mainGlobals "NoName" = some (some (.ref C_NoName)))
  {C_Twice:Addr} (aC_Twice:PySem.W.nsIn K mainGlobals "Twice" = some (some (.ref C_Twice)))
  {C_Never:Addr} (aC_Never:PySem.W.nsIn K mainGlobals "Never" = some (some (.ref C_Never)))
  {C_NoWidth:Addr} (aC_NoWidth:PySem.W.nsIn K mainGlobals "NoWidth" = some (some (.ref C_NoWidth)))
  {C_NoPart:Addr} (aC_NoPart:PySem.W.nsIn K mainGlobals "NoPart" = some (some (.ref C_NoPart)))
  {C_TooMuch:Addr} (aC_TooMuch:PySem.W.nsIn K mainGlobals "TooMuch" = some (some (.ref C_TooMuch)))
  {C_Ring:Addr} (aC_Ring:PySem.W.nsIn K mainGlobals "Ring" = some (some (.ref C_Ring)))
  {C_NoPair:Addr} (aC_NoPair:PySem.W.nsIn K mainGlobals "NoPair" = some (some (.ref C_NoPair)))
  {C_NoPaper:Addr} (aC_NoPaper:PySem.W.nsIn K mainGlobals "NoPaper" = some (some (.ref C_NoPaper)))
  {C_NoWord:Addr} (aC_NoWord:PySem.W.nsIn K mainGlobals "NoWord" = some (some (.ref C_NoWord)))
  {C_NoText:Addr} (aC_NoText:PySem.W.nsIn K mainGlobals "NoText" = some (some (.ref C_NoText)))
  {C_NoRow:Addr} (aC_NoRow:PySem.W.nsIn K mainGlobals "NoRow" = some (some (.ref C_NoRow)))
  (a0:PySem.W.nsIn K mainGlobals "first_stand" = some (some (.ref f0))) (l0:K.lookup f0=some ⟨oc0,od0,.func (PySem.W.fnOf "first_stand" "first_stand" (z_j z_z) (z_i z_z) (z_f z_z) .none kV0 dc0 pm0 an0 cd0 ct0),sl0⟩) (c0:PySem.W.codeIn K cd0 "first_stand" = true) (k0:PySem.W.keepIn K (.ref f0)=true)
  (a1:PySem.W.nsIn K mainGlobals "bits_of_ends" = some (some (.ref f1))) (l1:K.lookup f1=some ⟨oc1,od1,.func (PySem.W.fnOf "bits_of_ends" "bits_of_ends" (z_j z_w) (z_i z_w) (z_f z_w) .none kV1 dc1 pm1 an1 cd1 ct1),sl1⟩) (c1:PySem.W.codeIn K cd1 "bits_of_ends" = true) (k1:PySem.W.keepIn K (.ref f1)=true)
  (a2:PySem.W.nsIn K mainGlobals "beat_by" = some (some (.ref f2))) (l2:K.lookup f2=some ⟨oc2,od2,.func (PySem.W.fnOf "beat_by" "beat_by" (z_j x_e) (z_i x_e) (z_f x_e) .none kV2 dc2 pm2 an2 cd2 ct2),sl2⟩) (c2:PySem.W.codeIn K cd2 "beat_by" = true) (k2:PySem.W.keepIn K (.ref f2)=true)
  (a3:PySem.W.nsIn K mainGlobals "is_whole" = some (some (.ref f3))) (l3:K.lookup f3=some ⟨oc3,od3,.func (PySem.W.fnOf "is_whole" "is_whole" (z_j y_x) (z_i y_x) (z_f y_x) .none kV3 dc3 pm3 an3 cd3 ct3),sl3⟩) (c3:PySem.W.codeIn K cd3 "is_whole" = true) (k3:PySem.W.keepIn K (.ref f3)=true)
  (a4:PySem.W.nsIn K mainGlobals "is_between" = some (some (.ref f4))) (l4:K.lookup f4=some ⟨oc4,od4,.func (PySem.W.fnOf "is_between" "is_between" (z_j y_h) (z_i y_h) (z_f y_h) .none kV4 dc4 pm4 an4 cd4 ct4),sl4⟩) (c4:PySem.W.codeIn K cd4 "is_between" = true) (k4:PySem.W.keepIn K (.ref f4)=true)
  (a5:PySem.W.nsIn K mainGlobals "bits_of" = some (some (.ref f5))) (l5:K.lookup f5=some ⟨oc5,od5,.func (PySem.W.fnOf "bits_of" "bits_of" (z_j x_f) (z_i x_f) (z_f x_f) .none kV5 dc5 pm5 an5 cd5 ct5),sl5⟩) (c5:PySem.W.codeIn K cd5 "bits_of" = true) (k5:PySem.W.keepIn K (.ref f5)=true)
  (a6:PySem.W.nsIn K mainGlobals "all_stands" = some (some (.ref f6))) (l6:K.lookup f6=some ⟨oc6,od6,.func (PySem.W.fnOf "all_stands" "all_stands" (z_j y_e) (z_i y_e) (z_f y_e) .none kV6 dc6 pm6 an6 cd6 ct6),sl6⟩) (c6:PySem.W.codeIn K cd6 "all_stands" = true) (k6:PySem.W.keepIn K (.ref f6)=true)
  (a7:PySem.W.nsIn K mainGlobals "look_pair" = some (some (.ref f7))) (l7:K.lookup f7=some ⟨oc7,od7,.func (PySem.W.fnOf "look_pair" "look_pair" (z_j y_o) (z_i y_o) (z_f y_o) .none kV7 dc7 pm7 an7 cd7 ct7),sl7⟩) (c7:PySem.W.codeIn K cd7 "look_pair" = true) (k7:PySem.W.keepIn K (.ref f7)=true)
  (a8:PySem.W.nsIn K mainGlobals "look_small" = some (some (.ref f8))) (l8:K.lookup f8=some ⟨oc8,od8,.func (PySem.W.fnOf "look_small" "look_small" (z_j y_j) (z_i y_j) (z_f y_j) .none kV8 dc8 pm8 an8 cd8 ct8),sl8⟩) (c8:PySem.W.codeIn K cd8 "look_small" = true) (k8:PySem.W.keepIn K (.ref f8)=true)
  (a9:PySem.W.nsIn K mainGlobals "is_table" = some (some (.ref f9))) (l9:K.lookup f9=some ⟨oc9,od9,.func (PySem.W.fnOf "is_table" "is_table" (z_j y_w) (z_i y_w) (z_f y_w) .none kV9 dc9 pm9 an9 cd9 ct9),sl9⟩) (c9:PySem.W.codeIn K cd9 "is_table" = true) (k9:PySem.W.keepIn K (.ref f9)=true)
  (a10:PySem.W.nsIn K mainGlobals "is_joint_stand" = some (some (.ref f10))) (l10:K.lookup f10=some ⟨oc10,od10,.func (PySem.W.fnOf "is_joint_stand" "is_joint_stand" (z_j z_s) (z_i z_s) (z_f z_s) .none kV10 dc10 pm10 an10 cd10 ct10),sl10⟩) (c10:PySem.W.codeIn K cd10 "is_joint_stand" = true) (k10:PySem.W.keepIn K (.ref f10)=true)
  (a11:PySem.W.nsIn K mainGlobals "is_stand" = some (some (.ref f11))) (l11:K.lookup f11=some ⟨oc11,od11,.func (PySem.W.fnOf "is_stand" "is_stand" (z_j y_v) (z_i y_v) (z_f y_v) .none kV11 dc11 pm11 an11 cd11 ct11),sl11⟩) (c11:PySem.W.codeIn K cd11 "is_stand" = true) (k11:PySem.W.keepIn K (.ref f11)=true)
  (a12:PySem.W.nsIn K mainGlobals "first_joint_stand" = some (some (.ref f12))) (l12:K.lookup f12=some ⟨oc12,od12,.func (PySem.W.fnOf "first_joint_stand" "first_joint_stand" (z_j z_o) (z_i z_o) (z_f z_o) .none kV12 dc12 pm12 an12 cd12 ct12),sl12⟩) (c12:PySem.W.codeIn K cd12 "first_joint_stand" = true) (k12:PySem.W.keepIn K (.ref f12)=true)
  (a13:PySem.W.nsIn K mainGlobals "beats_from" = some (some (.ref f13))) (l13:K.lookup f13=some ⟨oc13,od13,.func (PySem.W.fnOf "beats_from" "beats_from" (z_j y_f) (z_i y_f) (z_f y_f) .none kV13 dc13 pm13 an13 cd13 ct13),sl13⟩) (c13:PySem.W.codeIn K cd13 "beats_from" = true) (k13:PySem.W.keepIn K (.ref f13)=true)
  (a14:PySem.W.nsIn K mainGlobals "beats_apart" = some (some (.ref f14))) (l14:K.lookup f14=some ⟨oc14,od14,.func (PySem.W.fnOf "beats_apart" "beats_apart" (z_j z_y) (z_i z_y) (z_f z_y) .none kV14 dc14 pm14 an14 cd14 ct14),sl14⟩) (c14:PySem.W.codeIn K cd14 "beats_apart" = true) (k14:PySem.W.keepIn K (.ref f14)=true)
  (a15:PySem.W.nsIn K mainGlobals "bits_among" = some (some (.ref f15))) (l15:K.lookup f15=some ⟨oc15,od15,.func (PySem.W.fnOf "bits_among" "bits_among" (z_j y_g) (z_i y_g) (z_f y_g) .none kV15 dc15 pm15 an15 cd15 ct15),sl15⟩) (c15:PySem.W.codeIn K cd15 "bits_among" = true) (k15:PySem.W.keepIn K (.ref f15)=true)
  (a16:PySem.W.nsIn K mainGlobals "least_beat" = some (some (.ref f16))) (l16:K.lookup f16=some ⟨oc16,od16,.func (PySem.W.fnOf "least_beat" "least_beat" (z_j y_i) (z_i y_i) (z_f y_i) .none kV16 dc16 pm16 an16 cd16 ct16),sl16⟩) (c16:PySem.W.codeIn K cd16 "least_beat" = true) (k16:PySem.W.keepIn K (.ref f16)=true)
  (a17:PySem.W.nsIn K mainGlobals "meet" = some (some (.ref f17))) (l17:K.lookup f17=some ⟨oc17,od17,.func (PySem.W.fnOf "meet" "meet" (z_j s_meet) (z_i s_meet) (z_f s_meet) .none kV17 dc17 pm17 an17 cd17 ct17),sl17⟩) (c17:PySem.W.codeIn K cd17 "meet" = true) (k17:PySem.W.keepIn K (.ref f17)=true)
  (a18:PySem.W.nsIn K mainGlobals "way_to" = some (some (.ref f18))) (l18:K.lookup f18=some ⟨oc18,od18,.func (PySem.W.fnOf "way_to" "way_to" (z_j s_way_to) (z_i s_way_to) (z_f s_way_to) .none kV18 dc18 pm18 an18 cd18 ct18),sl18⟩) (c18:PySem.W.codeIn K cd18 "way_to" = true) (k18:PySem.W.keepIn K (.ref f18)=true)
  (a19:PySem.W.nsIn K mainGlobals "_law_cell_at" = some (some (.ref f19))) (l19:K.lookup f19=some ⟨oc19,od19,.func (PySem.W.fnOf "_law_cell_at" "_law_cell_at" (z_j y_n) (z_i y_n) (z_f y_n) .none kV19 dc19 pm19 an19 cd19 ct19),sl19⟩) (c19:PySem.W.codeIn K cd19 "_law_cell_at" = true) (k19:PySem.W.keepIn K (.ref f19)=true)
  (a20:PySem.W.nsIn K mainGlobals "_law_bag" = some (some (.ref f20))) (l20:K.lookup f20=some ⟨oc20,od20,.func (PySem.W.fnOf "_law_bag" "_law_bag" (z_j s_L_bag) (z_i s_L_bag) (z_f s_L_bag) .none kV20 dc20 pm20 an20 cd20 ct20),sl20⟩) (c20:PySem.W.codeIn K cd20 "_law_bag" = true) (k20:PySem.W.keepIn K (.ref f20)=true)
  (a21:PySem.W.nsIn K mainGlobals "_law_take" = some (some (.ref f21))) (l21:K.lookup f21=some ⟨oc21,od21,.func (PySem.W.fnOf "_law_take" "_law_take" (z_j s_L_take) (z_i s_L_take) (z_f s_L_take) .none kV21 dc21 pm21 an21 cd21 ct21),sl21⟩) (c21:PySem.W.codeIn K cd21 "_law_take" = true) (k21:PySem.W.keepIn K (.ref f21)=true)
  (a22:PySem.W.nsIn K mainGlobals "_law_work" = some (some (.ref f22))) (l22:K.lookup f22=some ⟨oc22,od22,.func (PySem.W.fnOf "_law_work" "_law_work" (z_j s_L_work) (z_i s_L_work) (z_f s_L_work) .none kV22 dc22 pm22 an22 cd22 ct22),sl22⟩) (c22:PySem.W.codeIn K cd22 "_law_work" = true) (k22:PySem.W.keepIn K (.ref f22)=true)
  (a23:PySem.W.nsIn K mainGlobals "_law_asked" = some (some (.ref f23))) (l23:K.lookup f23=some ⟨oc23,od23,.func (PySem.W.fnOf "_law_asked" "_law_asked" (z_j x_d) (z_i x_d) (z_f x_d) .none kV23 dc23 pm23 an23 cd23 ct23),sl23⟩) (c23:PySem.W.codeIn K cd23 "_law_asked" = true) (k23:PySem.W.keepIn K (.ref f23)=true)
  (a24:PySem.W.nsIn K mainGlobals "_law_said" = some (some (.ref f24))) (l24:K.lookup f24=some ⟨oc24,od24,.func (PySem.W.fnOf "_law_said" "_law_said" (z_j s_L_said) (z_i s_L_said) (z_f s_L_said) .none kV24 dc24 pm24 an24 cd24 ct24),sl24⟩) (c24:PySem.W.codeIn K cd24 "_law_said" = true) (k24:PySem.W.keepIn K (.ref f24)=true)
  (a25:PySem.W.nsIn K mainGlobals "_law_good" = some (some (.ref f25))) (l25:K.lookup f25=some ⟨oc25,od25,.func (PySem.W.fnOf "_law_good" "_law_good" (z_j s_L_good) (z_i s_L_good) (z_f s_L_good) .none kV25 dc25 pm25 an25 cd25 ct25),sl25⟩) (c25:PySem.W.codeIn K cd25 "_law_good" = true) (k25:PySem.W.keepIn K (.ref f25)=true)
  (a26:PySem.W.nsIn K mainGlobals "law" = some (some (.ref f26))) (l26:K.lookup f26=some ⟨oc26,od26,.func (PySem.W.fnOf "law" "law" (z_j s_law) (z_i s_law) (z_f s_law) .none kV26 dc26 pm26 an26 cd26 ct26),sl26⟩) (c26:PySem.W.codeIn K cd26 "law" = true) (k26:PySem.W.keepIn K (.ref f26)=true)
  (z0:PySem.W.nsIn K mainGlobals "ValueError" = some none)
  (z1:PySem.W.nsIn K mainGlobals "all" = some none)
  (z2:PySem.W.nsIn K mainGlobals "bool" = some none)
  (z3:PySem.W.nsIn K mainGlobals "dict" = some none)
  (z4:PySem.W.nsIn K mainGlobals "int" = some none)
  (z5:PySem.W.nsIn K mainGlobals "isinstance" = some none)
  (z6:PySem.W.nsIn K mainGlobals "len" = some none)
  (z7:PySem.W.nsIn K mainGlobals "list" = some none)
  (z8:PySem.W.nsIn K mainGlobals "range" = some none)
  (z9:PySem.W.nsIn K mainGlobals "repr" = some none)
  (z10:PySem.W.nsIn K mainGlobals "tuple" = some none)
  (z11:PySem.W.nsIn K mainGlobals "zip" = some none)
  (f_x_ForgeError:excK K C_ForgeError bmV=true)
  (f_x_NoPair:excK K C_NoPair (.ref C_ForgeError::bmV)=true)
  (f_q_NoPair:excQ K C_NoPair=true)
  (f_i_own:PySem.W.kitOne K (.ref C_NoPair) (.ref C_NoPair)=some true)
  (f_i_val:PySem.W.kitOne K (.ref C_NoPair) (.type "ValueError")=some true)
  (f_i_no1:PySem.W.kitAny K (.ref C_NoPair) [.ref C_Never,.ref C_NoName,.ref C_NoPaper,.ref C_NoPart,.ref C_NoPlan,.ref C_NoRow,.ref C_NoText,.ref C_NoWidth]=some false)
  (f_i_no2:PySem.W.kitAny K (.ref C_NoPair) [.ref C_NoWord,.ref C_Ring,.ref C_TooMuch,.ref C_Twice]=some false)
  {t_MOST_INS:Tok} (g_MOST_INS:PySem.W.nsIn K mainGlobals "MOST_INS" = some (some (.int 6 t_MOST_INS)))
  : ∃ A:Ad,A.a_law=fa/\(∀ (s:Shared) (v:Value),BindsTo s A.d_law ⟨[v],[]⟩ [("_law_script",v)])/\Tx w K mg A:=by
 have e:=hfa.symm.trans (PySem.W.mg_of X G a26)
 cases e
 have F0:=y_p (st:=z_z) l0 c0 k0
 have F1:=y_p (st:=z_w) l1 c1 k1
 have F2:=y_p (st:=x_e) l2 c2 k2
 have F3:=y_p (st:=y_x) l3 c3 k3
 have F4:=y_p (st:=y_h) l4 c4 k4
 have F5:=y_p (st:=x_f) l5 c5 k5
 have F6:=y_p (st:=y_e) l6 c6 k6
 have F7:=y_p (st:=y_o) l7 c7 k7
 have F8:=y_p (st:=y_j) l8 c8 k8
 have F9:=y_p (st:=y_w) l9 c9 k9
 have F10:=y_p (st:=z_s) l10 c10 k10
 have F11:=y_p (st:=y_v) l11 c11 k11
 have F12:=y_p (st:=z_o) l12 c12 k12
 have F13:=y_p (st:=y_f) l13 c13 k13
 have F14:=y_p (st:=z_y) l14 c14 k14
 have F15:=y_p (st:=y_g) l15 c15 k15
 have F16:=y_p (st:=y_i) l16 c16 k16
 have F17:=y_p (st:=s_meet) l17 c17 k17
 have F18:=y_p (st:=s_way_to) l18 c18 k18
 have F19:=y_p (st:=y_n) l19 c19 k19
 have F20:=y_p (st:=s_L_bag) l20 c20 k20
 have F21:=y_p (st:=s_L_take) l21 c21 k21
 have F22:=y_p (st:=s_L_work) l22 c22 k22
 have F23:=y_p (st:=x_d) l23 c23 k23
 have F24:=y_p (st:=s_L_said) l24 c24 k24
 have F25:=y_p (st:=s_L_good) l25 c25 k25
 have F26:=y_p (st:=s_law) l26 c26 k26
 refine ⟨⟨f0,PySem.W.fnOf "first_stand" "first_stand" (z_j z_z) (z_i z_z) (z_f z_z) .none kV0 dc0 pm0 an0 cd0 ct0,f1,PySem.W.fnOf "bits_of_ends" "bits_of_ends" (z_j z_w) (z_i z_w) (z_f z_w) .none kV1 dc1 pm1 an1 cd1 ct1,f2,PySem.W.fnOf "beat_by" "beat_by" (z_j x_e) (z_i x_e) (z_f x_e) .none kV2 dc2 pm2 an2 cd2 ct2,f3,PySem.W.fnOf "is_whole" "is_whole" (z_j y_x) (z_i y_x) (z_f y_x) .none kV3 dc3 pm3 an3 cd3 ct3,f4,PySem.W.fnOf "is_between" "is_between" (z_j y_h) (z_i y_h) (z_f y_h) .none kV4 dc4 pm4 an4 cd4 ct4,f5,PySem.W.fnOf "bits_of" "bits_of" (z_j x_f) (z_i x_f) (z_f x_f) .none kV5 dc5 pm5 an5 cd5 ct5,f6,PySem.W.fnOf "all_stands" "all_stands" (z_j y_e) (z_i y_e) (z_f y_e) .none kV6 dc6 pm6 an6 cd6 ct6,f7,PySem.W.fnOf "look_pair" "look_pair" (z_j y_o) (z_i y_o) (z_f y_o) .none kV7 dc7 pm7 an7 cd7 ct7,f8,PySem.W.fnOf "look_small" "look_small" (z_j y_j) (z_i y_j) (z_f y_j) .none kV8 dc8 pm8 an8 cd8 ct8,f9,PySem.W.fnOf "is_table" "is_table" (z_j y_w) (z_i y_w) (z_f y_w) .none kV9 dc9 pm9 an9 cd9 ct9,f10,PySem.W.fnOf "is_joint_stand" "is_joint_stand" (z_j z_s) (z_i z_s) (z_f z_s) .none kV10 dc10 pm10 an10 cd10 ct10,f11,PySem.W.fnOf "is_stand" "is_stand" (z_j y_v) (z_i y_v) (z_f y_v) .none kV11 dc11 pm11 an11 cd11 ct11,f12,PySem.W.fnOf "first_joint_stand" "first_joint_stand" (z_j z_o) (z_i z_o) (z_f z_o) .none kV12 dc12 pm12 an12 cd12 ct12,f13,PySem.W.fnOf "beats_from" "beats_from" (z_j y_f) (z_i y_f) (z_f y_f) .none kV13 dc13 pm13 an13 cd13 ct13,f14,PySem.W.fnOf "beats_apart" "beats_apart" (z_j z_y) (z_i z_y) (z_f z_y) .none kV14 dc14 pm14 an14 cd14 ct14,f15,PySem.W.fnOf "bits_among" "bits_among" (z_j y_g) (z_i y_g) (z_f y_g) .none kV15 dc15 pm15 an15 cd15 ct15,f16,PySem.W.fnOf "least_beat" "least_beat" (z_j y_i) (z_i y_i) (z_f y_i) .none kV16 dc16 pm16 an16 cd16 ct16,f17,PySem.W.fnOf "meet" "meet" (z_j s_meet) (z_i s_meet) (z_f s_meet) .none kV17 dc17 pm17 an17 cd17 ct17,f18,PySem.W.fnOf "way_to" "way_to" (z_j s_way_to) (z_i s_way_to) (z_f s_way_to) .none kV18 dc18 pm18 an18 cd18 ct18,f19,PySem.W.fnOf "_law_cell_at" "_law_cell_at" (z_j y_n) (z_i y_n) (z_f y_n) .none kV19 dc19 pm19 an19 cd19 ct19,f20,PySem.W.fnOf "_law_bag" "_law_bag" (z_j s_L_bag) (z_i s_L_bag) (z_f s_L_bag) .none kV20 dc20 pm20 an20 cd20 ct20,f21,PySem.W.fnOf "_law_take" "_law_take" (z_j s_L_take) (z_i s_L_take) (z_f s_L_take) .none kV21 dc21 pm21 an21 cd21 ct21,f22,PySem.W.fnOf "_law_work" "_law_work" (z_j s_L_work) (z_i s_L_work) (z_f s_L_work) .none kV22 dc22 pm22 an22 cd22 ct22,f23,PySem.W.fnOf "_law_asked" "_law_asked" (z_j x_d) (z_i x_d) (z_f x_d) .none kV23 dc23 pm23 an23 cd23 ct23,f24,PySem.W.fnOf "_law_said" "_law_said" (z_j s_L_said) (z_i s_L_said) (z_f s_L_said) .none kV24 dc24 pm24 an24 cd24 ct24,f25,PySem.W.fnOf "_law_good" "_law_good" (z_j s_L_good) (z_i s_L_good) (z_f s_L_good) .none kV25 dc25 pm25 an25 cd25 ct25,fa,PySem.W.fnOf "law" "law" (z_j s_law) (z_i s_law) (z_f s_law) .none kV26 dc26 pm26 an26 cd26 ct26,C_ForgeError,C_NoPlan,C_NoName,C_Twice,C_Never,C_NoWidth,C_NoPart,C_TooMuch,C_Ring,C_NoPair,C_NoPaper,C_NoWord,C_NoText,C_NoRow⟩,rfl,fun s v=>.of_eq rfl,?_⟩
 exact ⟨PySem.W.mg_none_of X G z0,PySem.W.mg_none_of X G z1,PySem.W.mg_none_of X G z2,PySem.W.mg_none_of X G z3,PySem.W.mg_none_of X G z4,PySem.W.mg_none_of X G z5,PySem.W.mg_none_of X G z6,PySem.W.mg_none_of X G z7,PySem.W.mg_none_of X G z8,PySem.W.mg_none_of X G z9,PySem.W.mg_none_of X G z10,PySem.W.mg_none_of X G z11,⟨_,PySem.W.mg_of X G g_MOST_INS⟩,F0,F0.binds fun _ _ _ _ _ _ us hl=>of_len1 (fun _=>rfl) us hl,PySem.W.mg_of X G a0,F1,F1.binds fun _ _ _ _ _ _ us hl=>of_len4 (fun _ _ _ _=>rfl) us hl,PySem.W.mg_of X G a1,F2,F2.binds fun _ _ _ _ _ _ us hl=>of_len4 (fun _ _ _ _=>rfl) us hl,PySem.W.mg_of X G a2,F3,F3.binds fun _ _ _ _ _ _ us hl=>of_len1 (fun _=>rfl) us hl,PySem.W.mg_of X G a3,F4,F4.binds fun _ _ _ _ _ _ us hl=>of_len3 (fun _ _ _=>rfl) us hl,PySem.W.mg_of X G a4,F5,F5.binds fun _ _ _ _ _ _ us hl=>of_len2 (fun _ _=>rfl) us hl,PySem.W.mg_of X G a5,F6,F6.binds fun _ _ _ _ _ _ us hl=>of_len1 (fun _=>rfl) us hl,PySem.W.mg_of X G a6,F7,F7.binds fun _ _ _ _ _ _ us hl=>of_len2 (fun _ _=>rfl) us hl,PySem.W.mg_of X G a7,F8,F8.binds fun _ _ _ _ _ _ us hl=>of_len2 (fun _ _=>rfl) us hl,PySem.W.mg_of X G a8,F9,F9.binds fun _ _ _ _ _ _ us hl=>of_len3 (fun _ _ _=>rfl) us hl,PySem.W.mg_of X G a9,F10,F10.binds fun _ _ _ _ _ _ us hl=>of_len3 (fun _ _ _=>rfl) us hl,PySem.W.mg_of X G a10,F11,F11.binds fun _ _ _ _ _ _ us hl=>of_len2 (fun _ _=>rfl) us hl,PySem.W.mg_of X G a11,F12,F12.binds fun _ _ _ _ _ _ us hl=>of_len2 (fun _ _=>rfl) us hl,PySem.W.mg_of X G a12,F13,F13.binds fun _ _ _ _ _ _ us hl=>of_len3 (fun _ _ _=>rfl) us hl,PySem.W.mg_of X G a13,F14,F14.binds fun _ _ _ _ _ _ us hl=>of_len2 (fun _ _=>rfl) us hl,PySem.W.mg_of X G a14,F15,F15.binds fun _ _ _ _ _ _ us hl=>of_len2 (fun _ _=>rfl) us hl,PySem.W.mg_of X G a15,F16,F16.binds fun _ _ _ _ _ _ us hl=>of_len1 (fun _=>rfl) us hl,PySem.W.mg_of X G a16,F17,F17.binds fun _ _ _ _ _ _ us hl=>of_len3 (fun _ _ _=>rfl) us hl,PySem.W.mg_of X G a17,F18,F18.binds fun _ _ _ _ _ _ us hl=>of_len2 (fun _ _=>rfl) us hl,PySem.W.mg_of X G a18,F19,F19.binds fun _ _ _ _ _ _ us hl=>of_len2 (fun _ _=>rfl) us hl,PySem.W.mg_of X G a19,F20,F20.binds fun _ _ _ _ _ _ us hl=>of_len2 (fun _ _=>rfl) us hl,PySem.W.mg_of X G a20,F21,F21.binds fun _ _ _ _ _ _ us hl=>of_len2 (fun _ _=>rfl) us hl,PySem.W.mg_of X G a21,F22,F22.binds fun _ _ _ _ _ _ us hl=>of_len5 (fun _ _ _ _ _=>rfl) us hl,PySem.W.mg_of X G a22,F23,F23.binds fun _ _ _ _ _ _ us hl=>of_len4 (fun _ _ _ _=>rfl) us hl,PySem.W.mg_of X G a23,F24,F24.binds fun _ _ _ _ _ _ us hl=>of_len4 (fun _ _ _ _=>rfl) us hl,PySem.W.mg_of X G a24,F25,F25.binds fun _ _ _ _ _ _ us hl=>of_len4 (fun _ _ _ _=>rfl) us hl,PySem.W.mg_of X G a25,F26,F26.binds fun _ _ _ _ _ _ us hl=>of_len1 (fun _=>rfl) us hl,PySem.W.mg_of X G a26,PySem.W.mg_of X G aC_ForgeError,PySem.W.mg_of X G aC_NoPlan,PySem.W.mg_of X G aC_NoName,PySem.W.mg_of X G aC_Twice,PySem.W.mg_of X G aC_Never,PySem.W.mg_of X G aC_NoWidth,PySem.W.mg_of X G aC_NoPart,PySem.W.mg_of X G aC_TooMuch,PySem.W.mg_of X G aC_Ring,PySem.W.mg_of X G aC_NoPair,PySem.W.mg_of X G aC_NoPaper,PySem.W.mg_of X G aC_NoWord,PySem.W.mg_of X G aC_NoText,PySem.W.mg_of X G aC_NoRow,f_x_ForgeError,f_x_NoPair,f_q_NoPair,f_i_own,f_i_val,f_i_no1,f_i_no2⟩
theorem walk{l:PySem.W.OpenLaw}{q:Program}{loose:List Str}{XP:(Str->Option Value)->Heap->Prop}{YP:World->Heap->Prop}{d:DefRec}{K:Params->PySem.W.Frag}(hn:l.most=some 63)(hdf:d.params.defaults=[])(hnm:d.name = "law")
  (hY:∀ (w:World) (h:Heap),YP w h->(K w.params).In h)
  (F:∀ (w:World) (mg:Str->Option Value) (fa:Addr) (h:Heap),(K w.params).In h->h.Ns mainGlobals mg->mg "law" = some (.ref fa) ->
   ∃ A:Ad,A.a_law=fa/\(∀ (s:Shared) (v:Value),BindsTo s A.d_law ⟨[v],[]⟩ [("_law_script",v)])/\Tx w (K w.params) mg A) :
  PySem.W.WalkO q loose XP YP l.row.toRowW d [] (fun f vs=>PySem.call f vs):=by
 refine L2.walk_of (n:=63) (k:=9) (x := "_law_script") (CX:=fun _=>CX0) (sp:=fun w=>sp_law (K w.params)) hn (by decide) hdf ⟨rfl,by decide,by decide⟩ hY (fun w mg fa h k1 k2 k3=>?_) (fun _ _ a ns hl _ hS=>⟨a,ns,rfl,hS,hl,fun _=>rfl⟩) fun _ _ _ _ _ z=>z
 obtain ⟨A,rfl,hb,T⟩:=F w mg fa h k1 k2 (by rw [<-hnm];exact k3)
 exact ⟨A.d_law,hb,fun base _ _=>all_ok T⟩
end K62
open PySem PySem.W PyProof.Rows
set_option maxRecDepth 100000 in
set_option maxHeartbeats 0 in
theorem PySem.Challenge.cw_lampforge_k62_works_not_looked_at_togeth_holds : PySem.Challenge.rw_lampforge_k62_works_not_looked_at_togeth.Holds := by
 w_on;o_law
 refine PySem.W.holds_open (q:=K62.hV) (loose:=K62.hL) (Xt:=fun s=>PySem.W.xlAt K62.hV [] s&&PySem.W.recOk (PySem.W.RowW.records PySem.Challenge.rw_lampforge_k62_works_not_looked_at_togeth.row.toRowW) s) (XP:=PySem.W.XL K62.hV []) (Yf:=PySem.W.Hook.obs (PySem.W.kHook K62.hK K62.hA K62.hQ)) (Ya:=PySem.W.Hook.val (PySem.W.kHook K62.hK K62.hA K62.hQ)) (YP:=PySem.W.Hook.says (PySem.W.kHook K62.hK K62.hA K62.hQ)) (N:=8228) ?hl (PySem.W.Hook.of (PySem.W.kHook K62.hK K62.hA K62.hQ)) (PySem.W.Hook.keeps (PySem.W.kHook K62.hK K62.hA K62.hQ)) (fun s e=>PySem.W.xl_of s (Bool.and_eq_true_iff.mp e).1) PySem.W.XL.keeps (by rfl) (by rfl) (by rfl) (fun s e=>PySem.W.recFacts_of (Bool.and_eq_true_iff.mp e).2) (by rfl) (by first | assumption | decide +kernel) (by decide +kernel) ⟨rfl,rfl,rfl,rfl,rfl,by decide +kernel⟩ ?hw ?hc
 case hl=>exact fun w=>K62.hM (K62.hl2 w) (K62.hl1 w)
 (case hw=>w_witness2)
 k_fill
 refine K62.walk (l:=PySem.Challenge.rw_lampforge_k62_works_not_looked_at_togeth) rfl rfl rfl (fun w h Y=>PySem.W.kIn_of Y) ?F
 case F =>
  intro w mg fa h KX G hmg
  refine' K62.all_mk KX G hmg ?aC_ForgeError ?aC_NoPlan ?aC_NoName ?aC_Twice ?aC_Never ?aC_NoWidth ?aC_NoPart ?aC_TooMuch ?aC_Ring ?aC_NoPair ?aC_NoPaper ?aC_NoWord ?aC_NoText ?aC_NoRow ?a0 ?l0 ?c0 ?k0 ?a1 ?l1 ?c1 ?k1 ?a2 ?l2 ?c2 ?k2 ?a3 ?l3 ?c3 ?k3 ?a4 ?l4 ?c4 ?k4 ?a5 ?l5 ?c5 ?k5 ?a6 ?l6 ?c6 ?k6 ?a7 ?l7 ?c7 ?k7 ?a8 ?l8 ?c8 ?k8 ?a9 ?l9 ?c9 ?k9 ?a10 ?l10 ?c10 ?k10 ?a11 ?l11 ?c11 ?k11 ?a12 ?l12 ?c12 ?k12 ?a13 ?l13 ?c13 ?k13 ?a14 ?l14 ?c14 ?k14 ?a15 ?l15 ?c15 ?k15 ?a16 ?l16 ?c16 ?k16 ?a17 ?l17 ?c17 ?k17 ?a18 ?l18 ?c18 ?k18 ?a19 ?l19 ?c19 ?k19 ?a20 ?l20 ?c20 ?k20 ?a21 ?l21 ?c21 ?k21 ?a22 ?l22 ?c22 ?k22 ?a23 ?l23 ?c23 ?k23 ?a24 ?l24 ?c24 ?k24 ?a25 ?l25 ?c25 ?k25 ?a26 ?l26 ?c26 ?k26 ?z0 ?z1 ?z2 ?z3 ?z4 ?z5 ?z6 ?z7 ?z8 ?z9 ?z10 ?z11 ?f_x_ForgeError ?f_x_NoPair ?f_q_NoPair ?f_i_own ?f_i_val ?f_i_no1 ?f_i_no2 ?g_MOST_INS
  (case aC_ForgeError=>k_is)
  (case aC_NoPlan=>k_is)
  (case aC_NoName=>k_is)
  (case aC_Twice=>k_is)
  (case aC_Never=>k_is)
  (case aC_NoWidth=>k_is)
  (case aC_NoPart=>k_is)
  (case aC_TooMuch=>k_is)
  (case aC_Ring=>k_is)
  (case aC_NoPair=>k_is)
  (case aC_NoPaper=>k_is)
  (case aC_NoWord=>k_is)
  (case aC_NoText=>k_is)
  (case aC_NoRow=>k_is)
  (case a0=>k_is)
  (case l0=>k_is)
  (case c0=>k_is)
  (case k0=>k_is)
  (case a1=>k_is)
  (case l1=>k_is)
  (case c1=>k_is)
  (case k1=>k_is)
  (case a2=>k_is)
  (case l2=>k_is)
  (case c2=>k_is)
  (case k2=>k_is)
  (case a3=>k_is)
  (case l3=>k_is)
  (case c3=>k_is)
  (case k3=>k_is)
  (case a4=>k_is)
  (case l4=>k_is)
  (case c4=>k_is)
  (case k4=>k_is)
  (case a5=>k_is)
  (case l5=>k_is)
  (case c5=>k_is)
  (case k5=>k_is)
  (case a6=>k_is)
  (case l6=>k_is)
  (case c6=>k_is)
  (case k6=>k_is)
  (case a7=>k_is)
  (case l7=>k_is)
  (case c7=>k_is)
  (case k7=>k_is)
  (case a8=>k_is)
  (case l8=>k_is)
  (case c8=>k_is)
  (case k8=>k_is)
  (case a9=>k_is)
  (case l9=>k_is)
  (case c9=>k_is)
  (case k9=>k_is)
  (case a10=>k_is)
  (case l10=>k_is)
  (case c10=>k_is)
  (case k10=>k_is)
  (case a11=>k_is)
  (case l11=>k_is)
  (case c11=>k_is)
  (case k11=>k_is)
  (case a12=>k_is)
  (case l12=>k_is)
  (case c12=>k_is)
  (case k12=>k_is)
  (case a13=>k_is)
  (case l13=>k_is)
  (case c13=>k_is)
  (case k13=>k_is)
  (case a14=>k_is)
  (case l14=>k_is)
  (case c14=>k_is)
  (case k14=>k_is)
  (case a15=>k_is)
  (case l15=>k_is)
  (case c15=>k_is)
  (case k15=>k_is)
  (case a16=>k_is)
  (case l16=>k_is)
  (case c16=>k_is)
  (case k16=>k_is)
  (case a17=>k_is)
  (case l17=>k_is)
  (case c17=>k_is)
  (case k17=>k_is)
  (case a18=>k_is)
  (case l18=>k_is)
  (case c18=>k_is)
  (case k18=>k_is)
  (case a19=>k_is)
  (case l19=>k_is)
  (case c19=>k_is)
  (case k19=>k_is)
  (case a20=>k_is)
  (case l20=>k_is)
  (case c20=>k_is)
  (case k20=>k_is)
  (case a21=>k_is)
  (case l21=>k_is)
  (case c21=>k_is)
  (case k21=>k_is)
  (case a22=>k_is)
  (case l22=>k_is)
  (case c22=>k_is)
  (case k22=>k_is)
  (case a23=>k_is)
  (case l23=>k_is)
  (case c23=>k_is)
  (case k23=>k_is)
  (case a24=>k_is)
  (case l24=>k_is)
  (case c24=>k_is)
  (case k24=>k_is)
  (case a25=>k_is)
  (case l25=>k_is)
  (case c25=>k_is)
  (case k25=>k_is)
  (case a26=>k_is)
  (case l26=>k_is)
  (case c26=>k_is)
  (case k26=>k_is)
  (case z0=>k_is)
  (case z1=>k_is)
  (case z2=>k_is)
  (case z3=>k_is)
  (case z4=>k_is)
  (case z5=>k_is)
  (case z6=>k_is)
  (case z7=>k_is)
  (case z8=>k_is)
  (case z9=>k_is)
  (case z10=>k_is)
  (case z11=>k_is)
  (case f_x_ForgeError=>kernel_rfl)
  (case f_x_NoPair=>kernel_rfl)
  (case f_q_NoPair=>kernel_rfl)
  (case f_i_own=>kernel_rfl)
  (case f_i_val=>kernel_rfl)
  (case f_i_no1=>kernel_rfl)
  (case f_i_no2=>kernel_rfl)
  (case g_MOST_INS=>k_is)
