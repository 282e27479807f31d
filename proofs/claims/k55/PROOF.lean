import PyProof.Rows.All
import Wide.All
import OpenK.AllK
import Wide.FinOn
import Lean
import PyProof.EqAt
import PyProof.EqKinds
import PyProof.TupleCall
import PySem.Challenge.RW_sumcraft_k55_whole_frames_hold
set_option Elab.async false
set_option linter.all false
set_option maxRecDepth 100000
set_option maxHeartbeats 4000000
namespace My
open PySem PySem.Spec PyProof.Rows PySem.W
def top (i : Nat) : Stmt := PySem.Challenge.pw_sumcraft_k55_whole_frames_hold.main.body.getD i (.Pass ⟨0, 0, 0, 0⟩)
def inCls (s : Stmt) (j : Nat) : Stmt := match s with
 | .ClassDef _ _ _ b _ _ _ _ _ _ _ => b.getD j (.Pass ⟨0, 0, 0, 0⟩)
 | _ => .Pass ⟨0, 0, 0, 0⟩
abbrev s_bare : Stmt := top 6
abbrev s_pair_times : Stmt := top 7
abbrev s_pair_of_form : Stmt := top 8
abbrev s_pair_product : Stmt := top 9
abbrev s_divisor : Stmt := top 14
abbrev s_ratio : Stmt := top 15
abbrev s_form_value : Stmt := top 18
abbrev s_raised : Stmt := top 19
abbrev s_raised_from : Stmt := top 20
abbrev s_low_forms : Stmt := top 21
abbrev s_power_of : Stmt := top 22
abbrev s_run_product : Stmt := top 23
abbrev s_choices : Stmt := top 24
abbrev s_within : Stmt := top 35
abbrev s_check_choose : Stmt := top 36
abbrev s_check_base : Stmt := top 37
abbrev s_piece_of : Stmt := top 38
abbrev s_product : Stmt := top 39
abbrev s__law_cell_at : Stmt := top 42
abbrev s__law_number : Stmt := top 43
abbrev s__law_whole : Stmt := top 44
abbrev s__law_divisor : Stmt := top 45
abbrev s__law_mixed : Stmt := top 46
abbrev s__law_forms : Stmt := top 47
abbrev s__law_ratio : Stmt := top 48
abbrev s__law_part : Stmt := top 49
abbrev s__law_parts : Stmt := top 50
abbrev s__law_pair_at : Stmt := top 51
abbrev s__law_is_fraction : Stmt := top 52
abbrev s__law_holds : Stmt := top 53
abbrev s_law : Stmt := top 54
abbrev s_Part_step : Stmt := inCls (top 25) 1
abbrev s_Part_up : Stmt := inCls (top 25) 2
abbrev s_Part_down : Stmt := inCls (top 25) 3
abbrev s_Part_floor : Stmt := inCls (top 25) 4
abbrev s_Choose___init__ : Stmt := inCls (top 26) 0
abbrev s_Choose_lifted : Stmt := inCls (top 26) 1
abbrev s_Choose_worth : Stmt := inCls (top 26) 2
abbrev s_Choose_step : Stmt := inCls (top 26) 3
abbrev s_Choose_up : Stmt := inCls (top 26) 4
abbrev s_Choose_down : Stmt := inCls (top 26) 5
abbrev s_Choose_floor : Stmt := inCls (top 26) 6
abbrev s_Weight___init__ : Stmt := inCls (top 27) 0
abbrev s_Weight_worth : Stmt := inCls (top 27) 1
abbrev s_Weight_step : Stmt := inCls (top 27) 2
abbrev s_Power___init__ : Stmt := inCls (top 28) 0
abbrev s_Power_worth : Stmt := inCls (top 28) 1
abbrev s_Power_up : Stmt := inCls (top 28) 2
abbrev s_Power_down : Stmt := inCls (top 28) 3
abbrev s_Power_floor : Stmt := inCls (top 28) 4
abbrev s_Growth___init__ : Stmt := inCls (top 29) 0
abbrev s_Growth_worth : Stmt := inCls (top 29) 1
abbrev s_Growth_step : Stmt := inCls (top 29) 2
abbrev s_Growth_floor : Stmt := inCls (top 29) 3
abbrev s_Term___init__ : Stmt := inCls (top 40) 0
abbrev s_Term_worth : Stmt := inCls (top 40) 2
abbrev s_Term_floor : Stmt := inCls (top 40) 3
abbrev s_Term_frame : Stmt := inCls (top 40) 4
def kE (P : Params) (x : String) (n : Nat) (v : Value) : DictEntry := ⟨PyData.keyHash P (Str.ofString x), .str (Str.ofString x) n, v⟩
def kM (x q : Str) (s : Stmt) (m : Str) (k c : Nat) : Obj := match s with
 | .FunctionDef _ a b _ _ _ sc _ _ _ => ⟨.type "function", none, .func (fnOf x q a b sc .none .none .none (.str m k) none (.ref c) .none), #[]⟩
 | _ => ⟨.none, none, .plain, #[]⟩
def kN (x q : Str) (s : Stmt) : Obj := match s with
 | .FunctionDef _ a b _ _ _ sc _ _ _ => ⟨.none, none, .func { name := x, qualname := q, params := a, body := .stmts b, scope := sc, globals := 0, closure := [], defaults := .none, kwdefaults := .none }, #[]⟩
 | _ => ⟨.none, none, .plain, #[]⟩
def oT (x : Array Value) : Obj := { cls := .type "tuple", data := Data.seq x }
def oF (x : Array Value) : Obj := { cls := .none, data := Data.fields x }
def oK (x : Array Value) : Obj := { cls := .type "code", data := Data.fields x }
def oB (x : Array Value) : Obj := { cls := .type "builtin_function_or_method", data := Data.fields x }
def cp (n : Nat) : Value := .str "/claim/cut.py" n
def ob11 : Obj := oT #[]
def ob12 : Obj := oF #[]
def ob13 : Obj := oK #[.str "<module>" 182, .str "<module>" 183, cp 184, .int 1 0, .int 0 0, .int 0 0, .int 0 0, .int 0 0, .ref 11, .bool false, .int 181 0, .ref 12, .none, .none, .none, .none, .int 185 0, .int 1 0, cp 186]
def ob14 : Obj := { cls := .type "frame", slots := #[some (.ref 13), some (.ref 3), some (.ref 3), none, some (.str "__main__" 164), none, some (.ref 0)] }
def ob3 (P : Params) : Obj := { cls := .type "dict", data := Data.dict #[kE P "__name__" 165 (.str "sumcraft.parts" 328), kE P "__doc__" 166 (.none), kE P "__package__" 167 (.none), kE P "__loader__" 168 (.builtin "__main__.__loader__#opaque"), kE P "__spec__" 169 (.none), kE P "__annotations__" 170 (.ref 6), kE P "__builtins__" 171 (.ref 4), kE P "__file__" 173 (cp 172), kE P "__cached__" 174 (.none), kE P "_wall" 193 (.ref 21), kE P "SumError" 213 (.ref 31), kE P "NoNumber" 229 (.ref 44), kE P "NoTerm" 245 (.ref 56), kE P "bare" 253 (.ref 63), kE P "pair_times" 267 (.ref 70), kE P "pair_of_form" 274 (.ref 77), kE P "pair_product" 283 (.ref 84), kE P "LONG" 287 (.int 4000 286), kE P "WINDOW" 289 (.int 300 288), kE P "shortened" 306 (.ref 91), kE P "divisor" 318 (.ref 98), kE P "ratio" 327 (.ref 105), kE P "FEW" 331 (.int 16 330), kE P "form_value" 340 (.ref 112), kE P "raised" 348 (.ref 119), kE P "raised_from" 354 (.ref 124), kE P "low_forms" 362 (.ref 131), kE P "power_of" 372 (.ref 138), kE P "run_product" 383 (.ref 145), kE P "choices" 392 (.ref 152), kE P "Part" 456 (.ref 197)] 31 }
def ob12' : Obj := oF #[.int 1 0, .int 0 0, .ref 20, .int 5 0, .int 0 0, .ref 27, .int 7 0, .int 0 0, .ref 40, .int 9 0, .int 0 0, .ref 52, .int 12 0, .int 0 0, .ref 62, .int 14 0, .int 0 0, .ref 69, .int 21 0, .int 0 0, .ref 76, .int 23 0, .int 0 0, .ref 83, .int 31 0, .int 0 0, .ref 90, .int 47 0, .int 0 0, .ref 97, .int 59 0, .int 0 0, .ref 104, .int 68 0, .int 0 0, .ref 111, .int 70 0, .int 0 0, .ref 118, .int 72 0, .int 0 0, .ref 123, .int 74 0, .int 0 0, .ref 130, .int 76 0, .int 0 0, .ref 137, .int 81 0, .int 0 0, .ref 144, .int 89 0, .int 0 0, .ref 151, .int 92 0, .int 0 0, .ref 158]
def ob15 : Obj := oT #[]
def ob16 : Obj := oF #[]
def ob17 : Obj := oT #[.str "k" 190]
def ob18 : Obj := oT #[]
def ob19 : Obj := kN "_wall" "_wall" (top 0)
def ob20 : Obj := oK #[.str "_wall" 187, .str "_wall" 188, cp 189, .int 1 0, .int 1 0, .int 0 0, .int 0 0, .int 3 0, .ref 15, .bool true, .int 181 0, .ref 16, .none, .ref 17, .ref 18, .ref 19, .int 191 0, .int 1 0, cp 192]
def ob21 : Obj := kM "_wall" "_wall" (top 0) "__main__" 164 20
def ob22 : Obj := oT #[.type "ValueError"]
def ob23 : Obj := oB #[.builtin "type.__prepare__", .type "type"]
def ob24 (P : Params) : Obj := { cls := .type "dict", data := Data.dict #[kE P "__module__" 203 (.str "sumcraft.errors" 194), kE P "__qualname__" 205 (.str "SumError" 204), kE P "__firstlineno__" 207 (.int 5 206), kE P "__static_attributes__" 208 (.ref 29)] 4 }
def ob25 : Obj := oT #[]
def ob26 : Obj := oF #[]
def ob27 : Obj := oK #[.str "SumError" 198, .str "SumError" 199, cp 200, .int 5 0, .int 0 0, .int 0 0, .int 0 0, .int 0 0, .ref 25, .bool false, .int 181 0, .ref 26, .none, .none, .none, .none, .int 201 0, .int 5 0, cp 202]
def ob28 : Obj := { cls := .type "frame", slots := #[some (.ref 27), some (.ref 3), some (.ref 24), none, some (.str "sumcraft.errors" 194), none, some (.ref 0)] }
def ob29 : Obj := oT #[]
def ob30 (P : Params) : Obj := { cls := .type "dict", data := Data.dict #[kE P "__module__" 203 (.str "sumcraft.errors" 194), kE P "__firstlineno__" 207 (.int 5 206), kE P "__static_attributes__" 208 (.ref 29), kE P "__weakref__" 210 (.ref 32), kE P "__doc__" 211 (.none)] 3 }
def ob31 : Obj := { cls := .type "type", data := Data.cls { name := "SumError", bases := [.type "ValueError"], mro := [.ref 31, .type "ValueError", .type "Exception", .type "BaseException", .type "object"], ns := 30, qualname := "SumError", subclasses := [.ref 44, .ref 56] }, slots := #[some (.ref 22), none, some (.str "SumError" 196), some (.str "SumError" 204), some (.builtin "ValueError.__new__"), some (.bool true)] }
def ob32 : Obj := { cls := .type "getset_descriptor", data := Data.fields #[.str "__weakref__" 209, .ref 31, .builtin "ExceptionGroup.__weakref__", .none] }
def ob33 : Obj := { cls := .type "super", data := Data.fields #[.ref 31, .ref 31, .ref 31] }
def ob34 : Obj := oB #[.builtin "object.__init_subclass__", .ref 31]
def ob35 : Obj := oT #[.ref 31]
def ob36 : Obj := oB #[.builtin "type.__prepare__", .type "type"]
def ob37 (P : Params) : Obj := { cls := .type "dict", data := Data.dict #[kE P "__module__" 221 (.str "sumcraft.errors" 194), kE P "__qualname__" 223 (.str "NoNumber" 222), kE P "__firstlineno__" 225 (.int 7 224), kE P "__static_attributes__" 226 (.ref 42)] 4 }
def ob38 : Obj := oT #[]
def ob39 : Obj := oF #[]
def ob40 : Obj := oK #[.str "NoNumber" 216, .str "NoNumber" 217, cp 218, .int 7 0, .int 0 0, .int 0 0, .int 0 0, .int 0 0, .ref 38, .bool false, .int 181 0, .ref 39, .none, .none, .none, .none, .int 219 0, .int 7 0, cp 220]
def ob41 : Obj := { cls := .type "frame", slots := #[some (.ref 40), some (.ref 3), some (.ref 37), none, some (.str "sumcraft.errors" 194), none, some (.ref 0)] }
def ob42 : Obj := oT #[]
def ob43 (P : Params) : Obj := { cls := .type "dict", data := Data.dict #[kE P "__module__" 221 (.str "sumcraft.errors" 194), kE P "__firstlineno__" 225 (.int 7 224), kE P "__static_attributes__" 226 (.ref 42), kE P "__doc__" 227 (.none)] 2 }
def ob44 : Obj := { cls := .type "type", data := Data.cls { name := "NoNumber", bases := [.ref 31], mro := [.ref 44, .ref 31, .type "ValueError", .type "Exception", .type "BaseException", .type "object"], ns := 43, qualname := "NoNumber" }, slots := #[some (.ref 35), none, some (.str "NoNumber" 214), some (.str "NoNumber" 222), some (.builtin "ValueError.__new__"), some (.bool true)] }
def ob45 : Obj := { cls := .type "super", data := Data.fields #[.ref 44, .ref 44, .ref 44] }
def ob46 : Obj := oB #[.builtin "object.__init_subclass__", .ref 44]
def ob47 : Obj := oT #[.ref 31]
def ob48 : Obj := oB #[.builtin "type.__prepare__", .type "type"]
def ob49 (P : Params) : Obj := { cls := .type "dict", data := Data.dict #[kE P "__module__" 237 (.str "sumcraft.errors" 194), kE P "__qualname__" 239 (.str "NoTerm" 238), kE P "__firstlineno__" 241 (.int 9 240), kE P "__static_attributes__" 242 (.ref 54)] 4 }
def ob50 : Obj := oT #[]
def ob51 : Obj := oF #[]
def ob52 : Obj := oK #[.str "NoTerm" 232, .str "NoTerm" 233, cp 234, .int 9 0, .int 0 0, .int 0 0, .int 0 0, .int 0 0, .ref 50, .bool false, .int 181 0, .ref 51, .none, .none, .none, .none, .int 235 0, .int 9 0, cp 236]
def ob53 : Obj := { cls := .type "frame", slots := #[some (.ref 52), some (.ref 3), some (.ref 49), none, some (.str "sumcraft.errors" 194), none, some (.ref 0)] }
def ob54 : Obj := oT #[]
def ob55 (P : Params) : Obj := { cls := .type "dict", data := Data.dict #[kE P "__module__" 237 (.str "sumcraft.errors" 194), kE P "__firstlineno__" 241 (.int 9 240), kE P "__static_attributes__" 242 (.ref 54), kE P "__doc__" 243 (.none)] 2 }
def ob56 : Obj := { cls := .type "type", data := Data.cls { name := "NoTerm", bases := [.ref 31], mro := [.ref 56, .ref 31, .type "ValueError", .type "Exception", .type "BaseException", .type "object"], ns := 55, qualname := "NoTerm" }, slots := #[some (.ref 47), none, some (.str "NoTerm" 230), some (.str "NoTerm" 238), some (.builtin "ValueError.__new__"), some (.bool true)] }
def ob57 : Obj := { cls := .type "super", data := Data.fields #[.ref 56, .ref 56, .ref 56] }
def ob58 : Obj := oB #[.builtin "object.__init_subclass__", .ref 56]
def ob59 : Obj := oT #[]
def ob60 : Obj := oF #[]
def ob61 : Obj := kN "bare" "bare" (top 6)
def ob62 : Obj := oK #[.str "bare" 248, .str "bare" 249, cp 250, .int 12 0, .int 1 0, .int 0 0, .int 0 0, .int 3 0, .ref 59, .bool true, .int 181 0, .ref 60, .none, .none, .none, .ref 61, .int 251 0, .int 12 0, cp 252]
def ob63 : Obj := kM "bare" "bare" (top 6) "sumcraft.pairs" 246 62
def ob64 : Obj := oT #[]
def ob65 : Obj := oF #[]
def ob66 : Obj := oT #[.str "one" 257, .str "other" 258, .str "answer" 259, .str "low" 260, .str "number" 261, .str "high" 262, .str "factor" 263, .str "powers" 264]
def ob67 : Obj := oT #[]
def ob68 : Obj := kN "pair_times" "pair_times" (top 7)
def ob69 : Obj := oK #[.str "pair_times" 254, .str "pair_times" 255, cp 256, .int 14 0, .int 2 0, .int 0 0, .int 0 0, .int 3 0, .ref 64, .bool true, .int 181 0, .ref 65, .none, .ref 66, .ref 67, .ref 68, .int 265 0, .int 14 0, cp 266]
def ob70 : Obj := kM "pair_times" "pair_times" (top 7) "sumcraft.pairs" 246 69
def ob71 : Obj := oT #[]
def ob72 : Obj := oF #[]
def ob73 : Obj := oT #[.str "form" 271]
def ob74 : Obj := oT #[]
def ob75 : Obj := kN "pair_of_form" "pair_of_form" (top 8)
def ob76 : Obj := oK #[.str "pair_of_form" 268, .str "pair_of_form" 269, cp 270, .int 21 0, .int 1 0, .int 0 0, .int 0 0, .int 3 0, .ref 71, .bool true, .int 181 0, .ref 72, .none, .ref 73, .ref 74, .ref 75, .int 272 0, .int 21 0, cp 273]
def ob77 : Obj := kM "pair_of_form" "pair_of_form" (top 8) "sumcraft.pairs" 246 76
def ob78 : Obj := oT #[]
def ob79 : Obj := oF #[]
def ob80 : Obj := oT #[.str "pairs" 278, .str "answer" 279, .str "pair" 280]
def ob81 : Obj := oT #[]
def ob82 : Obj := kN "pair_product" "pair_product" (top 9)
def ob83 : Obj := oK #[.str "pair_product" 275, .str "pair_product" 276, cp 277, .int 23 0, .int 1 0, .int 0 0, .int 0 0, .int 3 0, .ref 78, .bool true, .int 181 0, .ref 79, .none, .ref 80, .ref 81, .ref 82, .int 281 0, .int 23 0, cp 282]
def ob84 : Obj := kM "pair_product" "pair_product" (top 9) "sumcraft.pairs" 246 83
def ob85 : Obj := oT #[]
def ob86 : Obj := oF #[]
def ob87 : Obj := oT #[.str "big" 293, .str "small" 294, .str "cut" 295, .str "ahead" 296, .str "behind" 297, .str "half" 298, .str "upper" 299, .str "lower" 300, .str "times" 301, .str "rest" 302, .str "further" 303]
def ob88 : Obj := oT #[]
def ob89 : Obj := kN "shortened" "shortened" (top 13)
def ob90 : Obj := oK #[.str "shortened" 290, .str "shortened" 291, cp 292, .int 31 0, .int 2 0, .int 0 0, .int 0 0, .int 3 0, .ref 85, .bool true, .int 181 0, .ref 86, .none, .ref 87, .ref 88, .ref 89, .int 304 0, .int 31 0, cp 305]
def ob91 : Obj := kM "shortened" "shortened" (top 13) "sumcraft.ratios" 284 90
def ob92 : Obj := oT #[]
def ob93 : Obj := oF #[]
def ob94 : Obj := oT #[.str "one" 310, .str "other" 311, .str "big" 312, .str "small" 313, .str "pair" 314, .str "rest" 315]
def ob95 : Obj := oT #[]
def ob96 : Obj := kN "divisor" "divisor" (top 14)
def ob97 : Obj := oK #[.str "divisor" 307, .str "divisor" 308, cp 309, .int 47 0, .int 2 0, .int 0 0, .int 0 0, .int 3 0, .ref 92, .bool true, .int 181 0, .ref 93, .none, .ref 94, .ref 95, .ref 96, .int 316 0, .int 47 0, cp 317]
def ob98 : Obj := kM "divisor" "divisor" (top 14) "sumcraft.ratios" 284 97
def ob99 : Obj := oT #[]
def ob100 : Obj := oF #[]
def ob101 : Obj := oT #[.str "top" 322, .str "bottom" 323, .str "shared" 324]
def ob102 : Obj := oT #[]
def ob103 : Obj := kN "ratio" "ratio" (top 15)
def ob104 : Obj := oK #[.str "ratio" 319, .str "ratio" 320, cp 321, .int 59 0, .int 2 0, .int 0 0, .int 0 0, .int 3 0, .ref 99, .bool true, .int 181 0, .ref 100, .none, .ref 101, .ref 102, .ref 103, .int 325 0, .int 59 0, cp 326]
def ob105 : Obj := kM "ratio" "ratio" (top 15) "sumcraft.ratios" 284 104
def ob106 : Obj := oT #[]
def ob107 : Obj := oF #[]
def ob108 : Obj := oT #[.str "form" 335, .str "n" 336, .str "k" 337]
def ob109 : Obj := oT #[]
def ob110 : Obj := kN "form_value" "form_value" (top 18)
def ob111 : Obj := oK #[.str "form_value" 332, .str "form_value" 333, cp 334, .int 68 0, .int 3 0, .int 0 0, .int 0 0, .int 3 0, .ref 106, .bool true, .int 181 0, .ref 107, .none, .ref 108, .ref 109, .ref 110, .int 338 0, .int 68 0, cp 339]
def ob112 : Obj := kM "form_value" "form_value" (top 18) "sumcraft.parts" 328 111
def ob113 : Obj := oT #[]
def ob114 : Obj := oF #[]
def ob115 : Obj := oT #[.str "form" 344, .str "by" 345]
def ob116 : Obj := oT #[]
def ob117 : Obj := kN "raised" "raised" (top 19)
def ob118 : Obj := oK #[.str "raised" 341, .str "raised" 342, cp 343, .int 70 0, .int 2 0, .int 0 0, .int 0 0, .int 3 0, .ref 113, .bool true, .int 181 0, .ref 114, .none, .ref 115, .ref 116, .ref 117, .int 346 0, .int 70 0, cp 347]
def ob119 : Obj := kM "raised" "raised" (top 19) "sumcraft.parts" 328 118
def ob120 : Obj := oT #[]
def ob121 : Obj := oF #[]
def ob122 : Obj := kN "raised_from" "raised_from" (top 20)
def ob123 : Obj := oK #[.str "raised_from" 349, .str "raised_from" 350, cp 351, .int 72 0, .int 3 0, .int 0 0, .int 0 0, .int 3 0, .ref 120, .bool true, .int 181 0, .ref 121, .none, .none, .none, .ref 122, .int 352 0, .int 72 0, cp 353]
def ob124 : Obj := kM "raised_from" "raised_from" (top 20) "sumcraft.parts" 328 123
def ob125 : Obj := oT #[]
def ob126 : Obj := oF #[]
def ob127 : Obj := oT #[.str "upper" 358, .str "lower" 359]
def ob128 : Obj := oT #[]
def ob129 : Obj := kN "low_forms" "low_forms" (top 21)
def ob130 : Obj := oK #[.str "low_forms" 355, .str "low_forms" 356, cp 357, .int 74 0, .int 2 0, .int 0 0, .int 0 0, .int 3 0, .ref 125, .bool true, .int 181 0, .ref 126, .none, .ref 127, .ref 128, .ref 129, .int 360 0, .int 74 0, cp 361]
def ob131 : Obj := kM "low_forms" "low_forms" (top 21) "sumcraft.parts" 328 130
def ob132 : Obj := oT #[]
def ob133 : Obj := oF #[]
def ob134 : Obj := oT #[.str "number" 366, .str "exponent" 367, .str "answer" 368, .str "step" 369]
def ob135 : Obj := oT #[]
def ob136 : Obj := kN "power_of" "power_of" (top 22)
def ob137 : Obj := oK #[.str "power_of" 363, .str "power_of" 364, cp 365, .int 76 0, .int 2 0, .int 0 0, .int 0 0, .int 3 0, .ref 132, .bool true, .int 181 0, .ref 133, .none, .ref 134, .ref 135, .ref 136, .int 370 0, .int 76 0, cp 371]
def ob138 : Obj := kM "power_of" "power_of" (top 22) "sumcraft.parts" 328 137
def ob139 : Obj := oT #[]
def ob140 : Obj := oF #[]
def ob141 : Obj := oT #[.str "low" 376, .str "high" 377, .str "answer" 378, .str "number" 379, .str "middle" 380]
def ob142 : Obj := oT #[]
def ob143 : Obj := kN "run_product" "run_product" (top 23)
def ob144 : Obj := oK #[.str "run_product" 373, .str "run_product" 374, cp 375, .int 81 0, .int 2 0, .int 0 0, .int 0 0, .int 3 0, .ref 139, .bool true, .int 181 0, .ref 140, .none, .ref 141, .ref 142, .ref 143, .int 381 0, .int 81 0, cp 382]
def ob145 : Obj := kM "run_product" "run_product" (top 23) "sumcraft.parts" 328 144
def ob146 : Obj := oT #[]
def ob147 : Obj := oF #[]
def ob148 : Obj := oT #[.str "one" 387, .str "other" 388, .str "few" 389]
def ob149 : Obj := oT #[]
def ob150 : Obj := kN "choices" "choices" (top 24)
def ob151 : Obj := oK #[.str "choices" 384, .str "choices" 385, cp 386, .int 89 0, .int 2 0, .int 0 0, .int 0 0, .int 3 0, .ref 146, .bool true, .int 181 0, .ref 147, .none, .ref 148, .ref 149, .ref 150, .int 390 0, .int 89 0, cp 391]
def ob152 : Obj := kM "choices" "choices" (top 24) "sumcraft.parts" 328 151
def ob153 : Obj := oT #[]
def ob154 : Obj := oB #[.builtin "type.__prepare__", .type "type"]
def ob155 (P : Params) : Obj := { cls := .type "dict", data := Data.dict #[kE P "__module__" 400 (.str "sumcraft.parts" 328), kE P "__qualname__" 402 (.str "Part" 401), kE P "__firstlineno__" 404 (.int 92 403), kE P "worth" 413 (.ref 166), kE P "step" 422 (.ref 173), kE P "up" 430 (.ref 180), kE P "down" 438 (.ref 187), kE P "floor" 448 (.ref 194), kE P "__static_attributes__" 449 (.ref 195)] 9 }
def ob156 : Obj := oT #[]
def ob157 : Obj := oF #[.int 94 0, .int 4 0, .ref 165, .int 97 0, .int 4 0, .ref 172, .int 100 0, .int 4 0, .ref 179, .int 103 0, .int 4 0, .ref 186, .int 106 0, .int 4 0, .ref 193]
def ob158 : Obj := oK #[.str "Part" 395, .str "Part" 396, cp 397, .int 92 0, .int 0 0, .int 0 0, .int 0 0, .int 0 0, .ref 156, .bool false, .int 181 0, .ref 157, .none, .none, .none, .none, .int 398 0, .int 92 0, cp 399]
def ob159 : Obj := { cls := .type "frame", slots := #[some (.ref 158), some (.ref 3), some (.ref 155), none, some (.str "sumcraft.parts" 328), none, some (.ref 0)] }
def ob160 : Obj := oT #[]
def ob161 : Obj := oF #[]
def ob162 : Obj := oT #[.str "self" 408, .str "n" 409, .str "k" 410]
def ob163 : Obj := oT #[]
def ob164 : Obj := kN "worth" "Part.worth" (inCls (top 25) 0)
def ob165 : Obj := oK #[.str "worth" 405, .str "Part.worth" 406, cp 407, .int 94 0, .int 3 0, .int 0 0, .int 0 0, .int 3 0, .ref 160, .bool true, .int 181 0, .ref 161, .none, .ref 162, .ref 163, .ref 164, .int 411 0, .int 94 0, cp 412]
def ob166 : Obj := kM "worth" "Part.worth" (inCls (top 25) 0) "sumcraft.parts" 328 165
def ob167 : Obj := oT #[]
def ob168 : Obj := oF #[]
def ob169 : Obj := oT #[.str "self" 417, .str "i" 418, .str "far" 419]
def ob170 : Obj := oT #[]
def ob171 : Obj := kN "step" "Part.step" (inCls (top 25) 1)
def ob172 : Obj := oK #[.str "step" 414, .str "Part.step" 415, cp 416, .int 97 0, .int 3 0, .int 0 0, .int 0 0, .int 3 0, .ref 167, .bool true, .int 181 0, .ref 168, .none, .ref 169, .ref 170, .ref 171, .int 420 0, .int 97 0, cp 421]
def ob173 : Obj := kM "step" "Part.step" (inCls (top 25) 1) "sumcraft.parts" 328 172
def ob174 : Obj := oT #[]
def ob175 : Obj := oF #[]
def ob176 : Obj := oT #[.str "self" 426, .str "far" 427]
def ob177 : Obj := oT #[]
def ob178 : Obj := kN "up" "Part.up" (inCls (top 25) 2)
def ob179 : Obj := oK #[.str "up" 423, .str "Part.up" 424, cp 425, .int 100 0, .int 2 0, .int 0 0, .int 0 0, .int 3 0, .ref 174, .bool true, .int 181 0, .ref 175, .none, .ref 176, .ref 177, .ref 178, .int 428 0, .int 100 0, cp 429]
def ob180 : Obj := kM "up" "Part.up" (inCls (top 25) 2) "sumcraft.parts" 328 179
def ob181 : Obj := oT #[]
def ob182 : Obj := oF #[]
def ob183 : Obj := oT #[.str "self" 434, .str "far" 435]
def ob184 : Obj := oT #[]
def ob185 : Obj := kN "down" "Part.down" (inCls (top 25) 3)
def ob186 : Obj := oK #[.str "down" 431, .str "Part.down" 432, cp 433, .int 103 0, .int 2 0, .int 0 0, .int 0 0, .int 3 0, .ref 181, .bool true, .int 181 0, .ref 182, .none, .ref 183, .ref 184, .ref 185, .int 436 0, .int 103 0, cp 437]
def ob187 : Obj := kM "down" "Part.down" (inCls (top 25) 3) "sumcraft.parts" 328 186
def ob188 : Obj := oT #[]
def ob189 : Obj := oF #[]
def ob190 : Obj := oT #[.str "self" 442, .str "n" 443, .str "k" 444, .str "far" 445]
def ob191 : Obj := oT #[]
def ob192 : Obj := kN "floor" "Part.floor" (inCls (top 25) 4)
def ob193 : Obj := oK #[.str "floor" 439, .str "Part.floor" 440, cp 441, .int 106 0, .int 4 0, .int 0 0, .int 0 0, .int 3 0, .ref 188, .bool true, .int 181 0, .ref 189, .none, .ref 190, .ref 191, .ref 192, .int 446 0, .int 106 0, cp 447]
def ob194 : Obj := kM "floor" "Part.floor" (inCls (top 25) 4) "sumcraft.parts" 328 193
def ob195 : Obj := oT #[]
def ob196 (P : Params) : Obj := { cls := .type "dict", data := Data.dict #[kE P "__module__" 400 (.str "sumcraft.parts" 328), kE P "__firstlineno__" 404 (.int 92 403), kE P "worth" 413 (.ref 166), kE P "step" 422 (.ref 173), kE P "up" 430 (.ref 180), kE P "down" 438 (.ref 187), kE P "floor" 448 (.ref 194), kE P "__static_attributes__" 449 (.ref 195), kE P "__dict__" 451 (.ref 198), kE P "__weakref__" 453 (.ref 199), kE P "__doc__" 454 (.none)] 4 }
def ob197 : Obj := { cls := .type "type", data := Data.cls { name := "Part", bases := [.type "object"], mro := [.ref 197, .type "object"], ns := 196, qualname := "Part" }, slots := #[none, none, some (.str "Part" 393), some (.str "Part" 401), some (.builtin "object.__new__"), some (.bool true)] }
def ob198 : Obj := { cls := .type "getset_descriptor", data := Data.fields #[.str "__dict__" 450, .ref 197, .builtin "function.__dict__", .builtin "function.__dict__#set"] }
def ob199 : Obj := { cls := .type "getset_descriptor", data := Data.fields #[.str "__weakref__" 452, .ref 197, .builtin "ExceptionGroup.__weakref__", .none] }
def ob200 : Obj := { cls := .type "super", data := Data.fields #[.ref 197, .ref 197, .ref 197] }
def ob201 : Obj := oB #[.builtin "object.__init_subclass__", .ref 197]
def ob3' (P : Params) : Obj := { cls := .type "dict", data := Data.dict #[kE P "__name__" 165 (.str "sumcraft.parts" 328), kE P "__doc__" 166 (.none), kE P "__package__" 167 (.none), kE P "__loader__" 168 (.builtin "__main__.__loader__#opaque"), kE P "__spec__" 169 (.none), kE P "__annotations__" 170 (.ref 6), kE P "__builtins__" 171 (.ref 4), kE P "__file__" 173 (cp 172), kE P "__cached__" 174 (.none), kE P "_wall" 193 (.ref 21), kE P "SumError" 213 (.ref 31), kE P "NoNumber" 229 (.ref 44), kE P "NoTerm" 245 (.ref 56), kE P "bare" 253 (.ref 63), kE P "pair_times" 267 (.ref 70), kE P "pair_of_form" 274 (.ref 77), kE P "pair_product" 283 (.ref 84), kE P "LONG" 287 (.int 4000 286), kE P "WINDOW" 289 (.int 300 288), kE P "shortened" 306 (.ref 91), kE P "divisor" 318 (.ref 98), kE P "ratio" 327 (.ref 105), kE P "FEW" 331 (.int 16 330), kE P "form_value" 340 (.ref 112), kE P "raised" 348 (.ref 119), kE P "raised_from" 354 (.ref 124), kE P "low_forms" 362 (.ref 131), kE P "power_of" 372 (.ref 138), kE P "run_product" 383 (.ref 145), kE P "choices" 392 (.ref 152), kE P "Part" 456 (.ref 197), kE P "Choose" 535 (.ref 256), kE P "Weight" 578 (.ref 289), kE P "Power" 638 (.ref 336), kE P "Growth" 691 (.ref 376)] 35 }
def ob12'' : Obj := oF #[.int 1 0, .int 0 0, .ref 20, .int 5 0, .int 0 0, .ref 27, .int 7 0, .int 0 0, .ref 40, .int 9 0, .int 0 0, .ref 52, .int 12 0, .int 0 0, .ref 62, .int 14 0, .int 0 0, .ref 69, .int 21 0, .int 0 0, .ref 76, .int 23 0, .int 0 0, .ref 83, .int 31 0, .int 0 0, .ref 90, .int 47 0, .int 0 0, .ref 97, .int 59 0, .int 0 0, .ref 104, .int 68 0, .int 0 0, .ref 111, .int 70 0, .int 0 0, .ref 118, .int 72 0, .int 0 0, .ref 123, .int 74 0, .int 0 0, .ref 130, .int 76 0, .int 0 0, .ref 137, .int 81 0, .int 0 0, .ref 144, .int 89 0, .int 0 0, .ref 151, .int 92 0, .int 0 0, .ref 158, .int 108 0, .int 0 0, .ref 207, .int 144 0, .int 0 0, .ref 264, .int 154 0, .int 0 0, .ref 297, .int 170 0, .int 0 0, .ref 344]
def ob197' : Obj := { cls := .type "type", data := Data.cls { name := "Part", bases := [.type "object"], mro := [.ref 197, .type "object"], ns := 196, qualname := "Part", subclasses := [.ref 256, .ref 289, .ref 336, .ref 376] }, slots := #[none, none, some (.str "Part" 393), some (.str "Part" 401), some (.builtin "object.__new__"), some (.bool true)] }
def ob202 : Obj := oT #[.ref 197]
def ob203 : Obj := oB #[.builtin "type.__prepare__", .type "type"]
def ob204 (P : Params) : Obj := { cls := .type "dict", data := Data.dict #[kE P "__module__" 464 (.str "sumcraft.parts" 328), kE P "__qualname__" 466 (.str "Choose" 465), kE P "__firstlineno__" 468 (.int 108 467), kE P "__init__" 477 (.ref 215), kE P "lifted" 483 (.ref 220), kE P "worth" 492 (.ref 227), kE P "step" 503 (.ref 234), kE P "up" 513 (.ref 241), kE P "down" 523 (.ref 248), kE P "floor" 529 (.ref 253), kE P "__static_attributes__" 532 (.ref 254)] 11 }
def ob205 : Obj := oT #[]
def ob206 : Obj := oF #[.int 110 0, .int 4 0, .ref 214, .int 114 0, .int 4 0, .ref 219, .int 117 0, .int 4 0, .ref 226, .int 120 0, .int 4 0, .ref 233, .int 126 0, .int 4 0, .ref 240, .int 132 0, .int 4 0, .ref 247, .int 138 0, .int 4 0, .ref 252]
def ob207 : Obj := oK #[.str "Choose" 459, .str "Choose" 460, cp 461, .int 108 0, .int 0 0, .int 0 0, .int 0 0, .int 0 0, .ref 205, .bool false, .int 181 0, .ref 206, .none, .none, .none, .none, .int 462 0, .int 108 0, cp 463]
def ob208 : Obj := { cls := .type "frame", slots := #[some (.ref 207), some (.ref 3), some (.ref 204), none, some (.str "sumcraft.parts" 328), none, some (.ref 0)] }
def ob209 : Obj := oT #[]
def ob210 : Obj := oF #[]
def ob211 : Obj := oT #[.str "self" 472, .str "upper" 473, .str "lower" 474]
def ob212 : Obj := oT #[]
def ob213 : Obj := kN "__init__" "Choose.__init__" (inCls (top 26) 0)
def ob214 : Obj := oK #[.str "__init__" 469, .str "Choose.__init__" 470, cp 471, .int 110 0, .int 3 0, .int 0 0, .int 0 0, .int 3 0, .ref 209, .bool true, .int 181 0, .ref 210, .none, .ref 211, .ref 212, .ref 213, .int 475 0, .int 110 0, cp 476]
def ob215 : Obj := kM "__init__" "Choose.__init__" (inCls (top 26) 0) "sumcraft.parts" 328 214
def ob216 : Obj := oT #[]
def ob217 : Obj := oF #[]
def ob218 : Obj := kN "lifted" "Choose.lifted" (inCls (top 26) 1)
def ob219 : Obj := oK #[.str "lifted" 478, .str "Choose.lifted" 479, cp 480, .int 114 0, .int 2 0, .int 0 0, .int 0 0, .int 3 0, .ref 216, .bool true, .int 181 0, .ref 217, .none, .none, .none, .ref 218, .int 481 0, .int 114 0, cp 482]
def ob220 : Obj := kM "lifted" "Choose.lifted" (inCls (top 26) 1) "sumcraft.parts" 328 219
def ob221 : Obj := oT #[]
def ob222 : Obj := oF #[]
def ob223 : Obj := oT #[.str "self" 487, .str "n" 488, .str "k" 489]
def ob224 : Obj := oT #[]
def ob225 : Obj := kN "worth" "Choose.worth" (inCls (top 26) 2)
def ob226 : Obj := oK #[.str "worth" 484, .str "Choose.worth" 485, cp 486, .int 117 0, .int 3 0, .int 0 0, .int 0 0, .int 3 0, .ref 221, .bool true, .int 181 0, .ref 222, .none, .ref 223, .ref 224, .ref 225, .int 490 0, .int 117 0, cp 491]
def ob227 : Obj := kM "worth" "Choose.worth" (inCls (top 26) 2) "sumcraft.parts" 328 226
def ob228 : Obj := oT #[]
def ob229 : Obj := oF #[]
def ob230 : Obj := oT #[.str "self" 496, .str "i" 497, .str "far" 498, .str "factors" 499, .str "low" 500]
def ob231 : Obj := oT #[]
def ob232 : Obj := kN "step" "Choose.step" (inCls (top 26) 3)
def ob233 : Obj := oK #[.str "step" 493, .str "Choose.step" 494, cp 495, .int 120 0, .int 3 0, .int 0 0, .int 0 0, .int 3 0, .ref 228, .bool true, .int 181 0, .ref 229, .none, .ref 230, .ref 231, .ref 232, .int 501 0, .int 120 0, cp 502]
def ob234 : Obj := kM "step" "Choose.step" (inCls (top 26) 3) "sumcraft.parts" 328 233
def ob235 : Obj := oT #[]
def ob236 : Obj := oF #[]
def ob237 : Obj := oT #[.str "self" 507, .str "far" 508, .str "factors" 509, .str "low" 510]
def ob238 : Obj := oT #[]
def ob239 : Obj := kN "up" "Choose.up" (inCls (top 26) 4)
def ob240 : Obj := oK #[.str "up" 504, .str "Choose.up" 505, cp 506, .int 126 0, .int 2 0, .int 0 0, .int 0 0, .int 3 0, .ref 235, .bool true, .int 181 0, .ref 236, .none, .ref 237, .ref 238, .ref 239, .int 511 0, .int 126 0, cp 512]
def ob241 : Obj := kM "up" "Choose.up" (inCls (top 26) 4) "sumcraft.parts" 328 240
def ob242 : Obj := oT #[]
def ob243 : Obj := oF #[]
def ob244 : Obj := oT #[.str "self" 517, .str "far" 518, .str "factors" 519, .str "low" 520]
def ob245 : Obj := oT #[]
def ob246 : Obj := kN "down" "Choose.down" (inCls (top 26) 5)
def ob247 : Obj := oK #[.str "down" 514, .str "Choose.down" 515, cp 516, .int 132 0, .int 2 0, .int 0 0, .int 0 0, .int 3 0, .ref 242, .bool true, .int 181 0, .ref 243, .none, .ref 244, .ref 245, .ref 246, .int 521 0, .int 132 0, cp 522]
def ob248 : Obj := kM "down" "Choose.down" (inCls (top 26) 5) "sumcraft.parts" 328 247
def ob249 : Obj := oT #[]
def ob250 : Obj := oF #[]
def ob251 : Obj := kN "floor" "Choose.floor" (inCls (top 26) 6)
def ob252 : Obj := oK #[.str "floor" 524, .str "Choose.floor" 525, cp 526, .int 138 0, .int 4 0, .int 0 0, .int 0 0, .int 3 0, .ref 249, .bool true, .int 181 0, .ref 250, .none, .none, .none, .ref 251, .int 527 0, .int 138 0, cp 528]
def ob253 : Obj := kM "floor" "Choose.floor" (inCls (top 26) 6) "sumcraft.parts" 328 252
def ob254 : Obj := oT #[.str "above" 530, .str "lows" 531]
def ob255 (P : Params) : Obj := { cls := .type "dict", data := Data.dict #[kE P "__module__" 464 (.str "sumcraft.parts" 328), kE P "__firstlineno__" 468 (.int 108 467), kE P "__init__" 477 (.ref 215), kE P "lifted" 483 (.ref 220), kE P "worth" 492 (.ref 227), kE P "step" 503 (.ref 234), kE P "up" 513 (.ref 241), kE P "down" 523 (.ref 248), kE P "floor" 529 (.ref 253), kE P "__static_attributes__" 532 (.ref 254), kE P "__doc__" 533 (.none)] 2 }
def ob256 : Obj := { cls := .type "type", data := Data.cls { name := "Choose", bases := [.ref 197], mro := [.ref 256, .ref 197, .type "object"], ns := 255, qualname := "Choose" }, slots := #[some (.ref 202), none, some (.str "Choose" 457), some (.str "Choose" 465), some (.builtin "object.__new__"), some (.bool true)] }
def ob257 : Obj := { cls := .type "super", data := Data.fields #[.ref 256, .ref 256, .ref 256] }
def ob258 : Obj := oB #[.builtin "object.__init_subclass__", .ref 256]
def ob259 : Obj := oT #[.ref 197]
def ob260 : Obj := oB #[.builtin "type.__prepare__", .type "type"]
def ob261 (P : Params) : Obj := { cls := .type "dict", data := Data.dict #[kE P "__module__" 543 (.str "sumcraft.parts" 328), kE P "__qualname__" 545 (.str "Weight" 544), kE P "__firstlineno__" 547 (.int 144 546), kE P "__init__" 555 (.ref 272), kE P "worth" 564 (.ref 279), kE P "step" 573 (.ref 286), kE P "__static_attributes__" 575 (.ref 287)] 7 }
def ob262 : Obj := oT #[]
def ob263 : Obj := oF #[.int 146 0, .int 4 0, .ref 271, .int 149 0, .int 4 0, .ref 278, .int 152 0, .int 4 0, .ref 285]
def ob264 : Obj := oK #[.str "Weight" 538, .str "Weight" 539, cp 540, .int 144 0, .int 0 0, .int 0 0, .int 0 0, .int 0 0, .ref 262, .bool false, .int 181 0, .ref 263, .none, .none, .none, .none, .int 541 0, .int 144 0, cp 542]
def ob265 : Obj := { cls := .type "frame", slots := #[some (.ref 264), some (.ref 3), some (.ref 261), none, some (.str "sumcraft.parts" 328), none, some (.ref 0)] }
def ob266 : Obj := oT #[]
def ob267 : Obj := oF #[]
def ob268 : Obj := oT #[.str "self" 551, .str "form" 552]
def ob269 : Obj := oT #[]
def ob270 : Obj := kN "__init__" "Weight.__init__" (inCls (top 27) 0)
def ob271 : Obj := oK #[.str "__init__" 548, .str "Weight.__init__" 549, cp 550, .int 146 0, .int 2 0, .int 0 0, .int 0 0, .int 3 0, .ref 266, .bool true, .int 181 0, .ref 267, .none, .ref 268, .ref 269, .ref 270, .int 553 0, .int 146 0, cp 554]
def ob272 : Obj := kM "__init__" "Weight.__init__" (inCls (top 27) 0) "sumcraft.parts" 328 271
def ob273 : Obj := oT #[]
def ob274 : Obj := oF #[]
def ob275 : Obj := oT #[.str "self" 559, .str "n" 560, .str "k" 561]
def ob276 : Obj := oT #[]
def ob277 : Obj := kN "worth" "Weight.worth" (inCls (top 27) 1)
def ob278 : Obj := oK #[.str "worth" 556, .str "Weight.worth" 557, cp 558, .int 149 0, .int 3 0, .int 0 0, .int 0 0, .int 3 0, .ref 273, .bool true, .int 181 0, .ref 274, .none, .ref 275, .ref 276, .ref 277, .int 562 0, .int 149 0, cp 563]
def ob279 : Obj := kM "worth" "Weight.worth" (inCls (top 27) 1) "sumcraft.parts" 328 278
def ob280 : Obj := oT #[]
def ob281 : Obj := oF #[]
def ob282 : Obj := oT #[.str "self" 568, .str "i" 569, .str "far" 570]
def ob283 : Obj := oT #[]
def ob284 : Obj := kN "step" "Weight.step" (inCls (top 27) 2)
def ob285 : Obj := oK #[.str "step" 565, .str "Weight.step" 566, cp 567, .int 152 0, .int 3 0, .int 0 0, .int 0 0, .int 3 0, .ref 280, .bool true, .int 181 0, .ref 281, .none, .ref 282, .ref 283, .ref 284, .int 571 0, .int 152 0, cp 572]
def ob286 : Obj := kM "step" "Weight.step" (inCls (top 27) 2) "sumcraft.parts" 328 285
def ob287 : Obj := oT #[.str "form" 574]
def ob288 (P : Params) : Obj := { cls := .type "dict", data := Data.dict #[kE P "__module__" 543 (.str "sumcraft.parts" 328), kE P "__firstlineno__" 547 (.int 144 546), kE P "__init__" 555 (.ref 272), kE P "worth" 564 (.ref 279), kE P "step" 573 (.ref 286), kE P "__static_attributes__" 575 (.ref 287), kE P "__doc__" 576 (.none)] 2 }
def ob289 : Obj := { cls := .type "type", data := Data.cls { name := "Weight", bases := [.ref 197], mro := [.ref 289, .ref 197, .type "object"], ns := 288, qualname := "Weight" }, slots := #[some (.ref 259), none, some (.str "Weight" 536), some (.str "Weight" 544), some (.builtin "object.__new__"), some (.bool true)] }
def ob290 : Obj := { cls := .type "super", data := Data.fields #[.ref 289, .ref 289, .ref 289] }
def ob291 : Obj := oB #[.builtin "object.__init_subclass__", .ref 289]
def ob292 : Obj := oT #[.ref 197]
def ob293 : Obj := oB #[.builtin "type.__prepare__", .type "type"]
def ob294 (P : Params) : Obj := { cls := .type "dict", data := Data.dict #[kE P "__module__" 586 (.str "sumcraft.parts" 328), kE P "__qualname__" 588 (.str "Power" 587), kE P "__firstlineno__" 590 (.int 154 589), kE P "__init__" 598 (.ref 305), kE P "worth" 607 (.ref 312), kE P "up" 615 (.ref 319), kE P "down" 623 (.ref 326), kE P "floor" 633 (.ref 333), kE P "__static_attributes__" 635 (.ref 334)] 9 }
def ob295 : Obj := oT #[]
def ob296 : Obj := oF #[.int 156 0, .int 4 0, .ref 304, .int 159 0, .int 4 0, .ref 311, .int 162 0, .int 4 0, .ref 318, .int 165 0, .int 4 0, .ref 325, .int 168 0, .int 4 0, .ref 332]
def ob297 : Obj := oK #[.str "Power" 581, .str "Power" 582, cp 583, .int 154 0, .int 0 0, .int 0 0, .int 0 0, .int 0 0, .ref 295, .bool false, .int 181 0, .ref 296, .none, .none, .none, .none, .int 584 0, .int 154 0, cp 585]
def ob298 : Obj := { cls := .type "frame", slots := #[some (.ref 297), some (.ref 3), some (.ref 294), none, some (.str "sumcraft.parts" 328), none, some (.ref 0)] }
def ob299 : Obj := oT #[]
def ob300 : Obj := oF #[]
def ob301 : Obj := oT #[.str "self" 594, .str "fraction" 595]
def ob302 : Obj := oT #[]
def ob303 : Obj := kN "__init__" "Power.__init__" (inCls (top 28) 0)
def ob304 : Obj := oK #[.str "__init__" 591, .str "Power.__init__" 592, cp 593, .int 156 0, .int 2 0, .int 0 0, .int 0 0, .int 3 0, .ref 299, .bool true, .int 181 0, .ref 300, .none, .ref 301, .ref 302, .ref 303, .int 596 0, .int 156 0, cp 597]
def ob305 : Obj := kM "__init__" "Power.__init__" (inCls (top 28) 0) "sumcraft.parts" 328 304
def ob306 : Obj := oT #[]
def ob307 : Obj := oF #[]
def ob308 : Obj := oT #[.str "self" 602, .str "n" 603, .str "k" 604]
def ob309 : Obj := oT #[]
def ob310 : Obj := kN "worth" "Power.worth" (inCls (top 28) 1)
def ob311 : Obj := oK #[.str "worth" 599, .str "Power.worth" 600, cp 601, .int 159 0, .int 3 0, .int 0 0, .int 0 0, .int 3 0, .ref 306, .bool true, .int 181 0, .ref 307, .none, .ref 308, .ref 309, .ref 310, .int 605 0, .int 159 0, cp 606]
def ob312 : Obj := kM "worth" "Power.worth" (inCls (top 28) 1) "sumcraft.parts" 328 311
def ob313 : Obj := oT #[]
def ob314 : Obj := oF #[]
def ob315 : Obj := oT #[.str "self" 611, .str "far" 612]
def ob316 : Obj := oT #[]
def ob317 : Obj := kN "up" "Power.up" (inCls (top 28) 2)
def ob318 : Obj := oK #[.str "up" 608, .str "Power.up" 609, cp 610, .int 162 0, .int 2 0, .int 0 0, .int 0 0, .int 3 0, .ref 313, .bool true, .int 181 0, .ref 314, .none, .ref 315, .ref 316, .ref 317, .int 613 0, .int 162 0, cp 614]
def ob319 : Obj := kM "up" "Power.up" (inCls (top 28) 2) "sumcraft.parts" 328 318
def ob320 : Obj := oT #[]
def ob321 : Obj := oF #[]
def ob322 : Obj := oT #[.str "self" 619, .str "far" 620]
def ob323 : Obj := oT #[]
def ob324 : Obj := kN "down" "Power.down" (inCls (top 28) 3)
def ob325 : Obj := oK #[.str "down" 616, .str "Power.down" 617, cp 618, .int 165 0, .int 2 0, .int 0 0, .int 0 0, .int 3 0, .ref 320, .bool true, .int 181 0, .ref 321, .none, .ref 322, .ref 323, .ref 324, .int 621 0, .int 165 0, cp 622]
def ob326 : Obj := kM "down" "Power.down" (inCls (top 28) 3) "sumcraft.parts" 328 325
def ob327 : Obj := oT #[]
def ob328 : Obj := oF #[]
def ob329 : Obj := oT #[.str "self" 627, .str "n" 628, .str "k" 629, .str "far" 630]
def ob330 : Obj := oT #[]
def ob331 : Obj := kN "floor" "Power.floor" (inCls (top 28) 4)
def ob332 : Obj := oK #[.str "floor" 624, .str "Power.floor" 625, cp 626, .int 168 0, .int 4 0, .int 0 0, .int 0 0, .int 3 0, .ref 327, .bool true, .int 181 0, .ref 328, .none, .ref 329, .ref 330, .ref 331, .int 631 0, .int 168 0, cp 632]
def ob333 : Obj := kM "floor" "Power.floor" (inCls (top 28) 4) "sumcraft.parts" 328 332
def ob334 : Obj := oT #[.str "fraction" 634]
def ob335 (P : Params) : Obj := { cls := .type "dict", data := Data.dict #[kE P "__module__" 586 (.str "sumcraft.parts" 328), kE P "__firstlineno__" 590 (.int 154 589), kE P "__init__" 598 (.ref 305), kE P "worth" 607 (.ref 312), kE P "up" 615 (.ref 319), kE P "down" 623 (.ref 326), kE P "floor" 633 (.ref 333), kE P "__static_attributes__" 635 (.ref 334), kE P "__doc__" 636 (.none)] 2 }
def ob336 : Obj := { cls := .type "type", data := Data.cls { name := "Power", bases := [.ref 197], mro := [.ref 336, .ref 197, .type "object"], ns := 335, qualname := "Power" }, slots := #[some (.ref 292), none, some (.str "Power" 579), some (.str "Power" 587), some (.builtin "object.__new__"), some (.bool true)] }
def ob337 : Obj := { cls := .type "super", data := Data.fields #[.ref 336, .ref 336, .ref 336] }
def ob338 : Obj := oB #[.builtin "object.__init_subclass__", .ref 336]
def ob339 : Obj := oT #[.ref 197]
def ob340 : Obj := oB #[.builtin "type.__prepare__", .type "type"]
def ob341 (P : Params) : Obj := { cls := .type "dict", data := Data.dict #[kE P "__module__" 646 (.str "sumcraft.parts" 328), kE P "__qualname__" 648 (.str "Growth" 647), kE P "__firstlineno__" 650 (.int 170 649), kE P "__init__" 658 (.ref 352), kE P "worth" 667 (.ref 359), kE P "step" 676 (.ref 366), kE P "floor" 686 (.ref 373), kE P "__static_attributes__" 688 (.ref 374)] 8 }
def ob342 : Obj := oT #[]
def ob343 : Obj := oF #[.int 172 0, .int 4 0, .ref 351, .int 175 0, .int 4 0, .ref 358, .int 178 0, .int 4 0, .ref 365, .int 181 0, .int 4 0, .ref 372]
def ob344 : Obj := oK #[.str "Growth" 641, .str "Growth" 642, cp 643, .int 170 0, .int 0 0, .int 0 0, .int 0 0, .int 0 0, .ref 342, .bool false, .int 181 0, .ref 343, .none, .none, .none, .none, .int 644 0, .int 170 0, cp 645]
def ob345 : Obj := { cls := .type "frame", slots := #[some (.ref 344), some (.ref 3), some (.ref 341), none, some (.str "sumcraft.parts" 328), none, some (.ref 0)] }
def ob346 : Obj := oT #[]
def ob347 : Obj := oF #[]
def ob348 : Obj := oT #[.str "self" 654, .str "fraction" 655]
def ob349 : Obj := oT #[]
def ob350 : Obj := kN "__init__" "Growth.__init__" (inCls (top 29) 0)
def ob351 : Obj := oK #[.str "__init__" 651, .str "Growth.__init__" 652, cp 653, .int 172 0, .int 2 0, .int 0 0, .int 0 0, .int 3 0, .ref 346, .bool true, .int 181 0, .ref 347, .none, .ref 348, .ref 349, .ref 350, .int 656 0, .int 172 0, cp 657]
def ob352 : Obj := kM "__init__" "Growth.__init__" (inCls (top 29) 0) "sumcraft.parts" 328 351
def ob353 : Obj := oT #[]
def ob354 : Obj := oF #[]
def ob355 : Obj := oT #[.str "self" 662, .str "n" 663, .str "k" 664]
def ob356 : Obj := oT #[]
def ob357 : Obj := kN "worth" "Growth.worth" (inCls (top 29) 1)
def ob358 : Obj := oK #[.str "worth" 659, .str "Growth.worth" 660, cp 661, .int 175 0, .int 3 0, .int 0 0, .int 0 0, .int 3 0, .ref 353, .bool true, .int 181 0, .ref 354, .none, .ref 355, .ref 356, .ref 357, .int 665 0, .int 175 0, cp 666]
def ob359 : Obj := kM "worth" "Growth.worth" (inCls (top 29) 1) "sumcraft.parts" 328 358
def ob360 : Obj := oT #[]
def ob361 : Obj := oF #[]
def ob362 : Obj := oT #[.str "self" 671, .str "i" 672, .str "far" 673]
def ob363 : Obj := oT #[]
def ob364 : Obj := kN "step" "Growth.step" (inCls (top 29) 2)
def ob365 : Obj := oK #[.str "step" 668, .str "Growth.step" 669, cp 670, .int 178 0, .int 3 0, .int 0 0, .int 0 0, .int 3 0, .ref 360, .bool true, .int 181 0, .ref 361, .none, .ref 362, .ref 363, .ref 364, .int 674 0, .int 178 0, cp 675]
def ob366 : Obj := kM "step" "Growth.step" (inCls (top 29) 2) "sumcraft.parts" 328 365
def ob367 : Obj := oT #[]
def ob368 : Obj := oF #[]
def ob369 : Obj := oT #[.str "self" 680, .str "n" 681, .str "k" 682, .str "far" 683]
def ob370 : Obj := oT #[]
def ob371 : Obj := kN "floor" "Growth.floor" (inCls (top 29) 3)
def ob372 : Obj := oK #[.str "floor" 677, .str "Growth.floor" 678, cp 679, .int 181 0, .int 4 0, .int 0 0, .int 0 0, .int 3 0, .ref 367, .bool true, .int 181 0, .ref 368, .none, .ref 369, .ref 370, .ref 371, .int 684 0, .int 181 0, cp 685]
def ob373 : Obj := kM "floor" "Growth.floor" (inCls (top 29) 3) "sumcraft.parts" 328 372
def ob374 : Obj := oT #[.str "fraction" 687]
def ob375 (P : Params) : Obj := { cls := .type "dict", data := Data.dict #[kE P "__module__" 646 (.str "sumcraft.parts" 328), kE P "__firstlineno__" 650 (.int 170 649), kE P "__init__" 658 (.ref 352), kE P "worth" 667 (.ref 359), kE P "step" 676 (.ref 366), kE P "floor" 686 (.ref 373), kE P "__static_attributes__" 688 (.ref 374), kE P "__doc__" 689 (.none)] 2 }
def ob376 : Obj := { cls := .type "type", data := Data.cls { name := "Growth", bases := [.ref 197], mro := [.ref 376, .ref 197, .type "object"], ns := 375, qualname := "Growth" }, slots := #[some (.ref 339), none, some (.str "Growth" 639), some (.str "Growth" 647), some (.builtin "object.__new__"), some (.bool true)] }
def ob377 : Obj := { cls := .type "super", data := Data.fields #[.ref 376, .ref 376, .ref 376] }
def ob378 : Obj := oB #[.builtin "object.__init_subclass__", .ref 376]
def ob3'' (P : Params) : Obj := { cls := .type "dict", data := Data.dict #[kE P "__name__" 165 (.str "law_sumcraft_k55_whole_frames_hold" 805), kE P "__doc__" 166 (.none), kE P "__package__" 167 (.none), kE P "__loader__" 168 (.builtin "__main__.__loader__#opaque"), kE P "__spec__" 169 (.none), kE P "__annotations__" 170 (.ref 6), kE P "__builtins__" 171 (.ref 4), kE P "__file__" 173 (cp 172), kE P "__cached__" 174 (.none), kE P "_wall" 193 (.ref 21), kE P "SumError" 213 (.ref 31), kE P "NoNumber" 229 (.ref 44), kE P "NoTerm" 245 (.ref 56), kE P "bare" 253 (.ref 63), kE P "pair_times" 267 (.ref 70), kE P "pair_of_form" 274 (.ref 77), kE P "pair_product" 283 (.ref 84), kE P "LONG" 287 (.int 4000 286), kE P "WINDOW" 289 (.int 300 288), kE P "shortened" 306 (.ref 91), kE P "divisor" 318 (.ref 98), kE P "ratio" 327 (.ref 105), kE P "FEW" 331 (.int 16 330), kE P "form_value" 340 (.ref 112), kE P "raised" 348 (.ref 119), kE P "raised_from" 354 (.ref 124), kE P "low_forms" 362 (.ref 131), kE P "power_of" 372 (.ref 138), kE P "run_product" 383 (.ref 145), kE P "choices" 392 (.ref 152), kE P "Part" 456 (.ref 197), kE P "Choose" 535 (.ref 256), kE P "Weight" 578 (.ref 289), kE P "Power" 638 (.ref 336), kE P "Growth" 691 (.ref 376), kE P "MOST_PARTS" 695 (.int 6 694), kE P "UPPER_LEAST" 699 (.ref 379), kE P "LOWER_LEAST" 706 (.ref 380), kE P "GREATEST" 710 (.ref 381), kE P "within" 716 (.ref 386), kE P "check_choose" 725 (.ref 393), kE P "check_base" 732 (.ref 400), kE P "piece_of" 739 (.ref 407), kE P "product" 751 (.ref 414), kE P "Term" 804 (.ref 451), kE P "_law_cell_at" 814 (.ref 462), kE P "_law_number" 822 (.ref 469), kE P "_law_whole" 829 (.ref 476), kE P "_law_divisor" 838 (.ref 483), kE P "_law_mixed" 848 (.ref 490), kE P "_law_forms" 859 (.ref 497), kE P "_law_ratio" 871 (.ref 504), kE P "_law_part" 877 (.ref 509), kE P "_law_parts" 883 (.ref 514), kE P "_law_pair_at" 898 (.ref 521), kE P "_law_is_fraction" 905 (.ref 528), kE P "_law_holds" 921 (.ref 535), kE P "law" 938 (.ref 542)] 58 }
def ob12''' : Obj := oF #[.int 1 0, .int 0 0, .ref 20, .int 5 0, .int 0 0, .ref 27, .int 7 0, .int 0 0, .ref 40, .int 9 0, .int 0 0, .ref 52, .int 12 0, .int 0 0, .ref 62, .int 14 0, .int 0 0, .ref 69, .int 21 0, .int 0 0, .ref 76, .int 23 0, .int 0 0, .ref 83, .int 31 0, .int 0 0, .ref 90, .int 47 0, .int 0 0, .ref 97, .int 59 0, .int 0 0, .ref 104, .int 68 0, .int 0 0, .ref 111, .int 70 0, .int 0 0, .ref 118, .int 72 0, .int 0 0, .ref 123, .int 74 0, .int 0 0, .ref 130, .int 76 0, .int 0 0, .ref 137, .int 81 0, .int 0 0, .ref 144, .int 89 0, .int 0 0, .ref 151, .int 92 0, .int 0 0, .ref 158, .int 108 0, .int 0 0, .ref 207, .int 144 0, .int 0 0, .ref 264, .int 154 0, .int 0 0, .ref 297, .int 170 0, .int 0 0, .ref 344, .int 188 0, .int 0 0, .ref 385, .int 190 0, .int 0 0, .ref 392, .int 196 0, .int 0 0, .ref 399, .int 199 0, .int 0 0, .ref 406, .int 212 0, .int 0 0, .ref 413, .int 221 0, .int 0 0, .ref 420, .int 244 0, .int 0 0, .ref 461, .int 248 0, .int 0 0, .ref 468, .int 254 0, .int 0 0, .ref 475, .int 256 0, .int 0 0, .ref 482, .int 264 0, .int 0 0, .ref 489, .int 273 0, .int 0 0, .ref 496, .int 284 0, .int 0 0, .ref 503, .int 292 0, .int 0 0, .ref 508, .int 301 0, .int 0 0, .ref 513, .int 309 0, .int 0 0, .ref 520, .int 322 0, .int 0 0, .ref 527, .int 326 0, .int 0 0, .ref 534, .int 339 0, .int 0 0, .ref 541]
def ob379 : Obj := oT #[.int 0 696, .int 0 697, .int 0 698]
def ob380 : Obj := oT #[.int (-3) 701, .int (-3) 703, .int (-9) 705]
def ob381 : Obj := oT #[.int 3 707, .int 3 708, .int 9 709]
def ob382 : Obj := oT #[]
def ob383 : Obj := oF #[]
def ob384 : Obj := kN "within" "within" (top 35)
def ob385 : Obj := oK #[.str "within" 711, .str "within" 712, cp 713, .int 188 0, .int 2 0, .int 0 0, .int 0 0, .int 3 0, .ref 382, .bool true, .int 181 0, .ref 383, .none, .none, .none, .ref 384, .int 714 0, .int 188 0, cp 715]
def ob386 : Obj := kM "within" "within" (top 35) "sumcraft.terms" 692 385
def ob387 : Obj := oT #[]
def ob388 : Obj := oF #[]
def ob389 : Obj := oT #[.str "upper" 720, .str "lower" 721, .str "low" 722]
def ob390 : Obj := oT #[]
def ob391 : Obj := kN "check_choose" "check_choose" (top 36)
def ob392 : Obj := oK #[.str "check_choose" 717, .str "check_choose" 718, cp 719, .int 190 0, .int 2 0, .int 0 0, .int 0 0, .int 3 0, .ref 387, .bool true, .int 181 0, .ref 388, .none, .ref 389, .ref 390, .ref 391, .int 723 0, .int 190 0, cp 724]
def ob393 : Obj := kM "check_choose" "check_choose" (top 36) "sumcraft.terms" 692 392
def ob394 : Obj := oT #[]
def ob395 : Obj := oF #[]
def ob396 : Obj := oT #[.str "fraction" 729]
def ob397 : Obj := oT #[]
def ob398 : Obj := kN "check_base" "check_base" (top 37)
def ob399 : Obj := oK #[.str "check_base" 726, .str "check_base" 727, cp 728, .int 196 0, .int 1 0, .int 0 0, .int 0 0, .int 3 0, .ref 394, .bool true, .int 181 0, .ref 395, .none, .ref 396, .ref 397, .ref 398, .int 730 0, .int 196 0, cp 731]
def ob400 : Obj := kM "check_base" "check_base" (top 37) "sumcraft.terms" 692 399
def ob401 : Obj := oT #[]
def ob402 : Obj := oF #[]
def ob403 : Obj := oT #[.str "part" 736]
def ob404 : Obj := oT #[]
def ob405 : Obj := kN "piece_of" "piece_of" (top 38)
def ob406 : Obj := oK #[.str "piece_of" 733, .str "piece_of" 734, cp 735, .int 199 0, .int 1 0, .int 0 0, .int 0 0, .int 3 0, .ref 401, .bool true, .int 181 0, .ref 402, .none, .ref 403, .ref 404, .ref 405, .int 737 0, .int 199 0, cp 738]
def ob407 : Obj := kM "piece_of" "piece_of" (top 38) "sumcraft.terms" 692 406
def ob408 : Obj := oT #[]
def ob409 : Obj := oF #[]
def ob410 : Obj := oT #[.str "fractions" 743, .str "top" 744, .str "bottom" 745, .str "fraction" 746, .str "left" 747, .str "right" 748]
def ob411 : Obj := oT #[]
def ob412 : Obj := kN "product" "product" (top 39)
def ob413 : Obj := oK #[.str "product" 740, .str "product" 741, cp 742, .int 212 0, .int 1 0, .int 0 0, .int 0 0, .int 3 0, .ref 408, .bool true, .int 181 0, .ref 409, .none, .ref 410, .ref 411, .ref 412, .int 749 0, .int 212 0, cp 750]
def ob414 : Obj := kM "product" "product" (top 39) "sumcraft.terms" 692 413
def ob415 : Obj := oT #[]
def ob416 : Obj := oB #[.builtin "type.__prepare__", .type "type"]
def ob417 (P : Params) : Obj := { cls := .type "dict", data := Data.dict #[kE P "__module__" 759 (.str "sumcraft.terms" 692), kE P "__qualname__" 761 (.str "Term" 760), kE P "__firstlineno__" 763 (.int 221 762), kE P "__init__" 769 (.ref 426), kE P "told" 776 (.ref 433), kE P "worth" 782 (.ref 438), kE P "floor" 788 (.ref 443), kE P "frame" 794 (.ref 448), kE P "__static_attributes__" 797 (.ref 449)] 9 }
def ob418 : Obj := oT #[]
def ob419 : Obj := oF #[.int 223 0, .int 4 0, .ref 425, .int 229 0, .int 4 0, .ref 432, .int 232 0, .int 4 0, .ref 437, .int 235 0, .int 4 0, .ref 442, .int 238 0, .int 4 0, .ref 447]
def ob420 : Obj := oK #[.str "Term" 754, .str "Term" 755, cp 756, .int 221 0, .int 0 0, .int 0 0, .int 0 0, .int 0 0, .ref 418, .bool false, .int 181 0, .ref 419, .none, .none, .none, .none, .int 757 0, .int 221 0, cp 758]
def ob421 : Obj := { cls := .type "frame", slots := #[some (.ref 420), some (.ref 3), some (.ref 417), none, some (.str "sumcraft.terms" 692), none, some (.ref 0)] }
def ob422 : Obj := oT #[]
def ob423 : Obj := oF #[]
def ob424 : Obj := kN "__init__" "Term.__init__" (inCls (top 40) 0)
def ob425 : Obj := oK #[.str "__init__" 764, .str "Term.__init__" 765, cp 766, .int 223 0, .int 2 0, .int 0 0, .int 0 0, .int 3 0, .ref 422, .bool true, .int 181 0, .ref 423, .none, .none, .none, .ref 424, .int 767 0, .int 223 0, cp 768]
def ob426 : Obj := kM "__init__" "Term.__init__" (inCls (top 40) 0) "sumcraft.terms" 692 425
def ob427 : Obj := oT #[]
def ob428 : Obj := oF #[]
def ob429 : Obj := oT #[.str "self" 773]
def ob430 : Obj := oT #[]
def ob431 : Obj := kN "told" "Term.told" (inCls (top 40) 1)
def ob432 : Obj := oK #[.str "told" 770, .str "Term.told" 771, cp 772, .int 229 0, .int 1 0, .int 0 0, .int 0 0, .int 3 0, .ref 427, .bool true, .int 181 0, .ref 428, .none, .ref 429, .ref 430, .ref 431, .int 774 0, .int 229 0, cp 775]
def ob433 : Obj := kM "told" "Term.told" (inCls (top 40) 1) "sumcraft.terms" 692 432
def ob434 : Obj := oT #[]
def ob435 : Obj := oF #[]
def ob436 : Obj := kN "worth" "Term.worth" (inCls (top 40) 2)
def ob437 : Obj := oK #[.str "worth" 777, .str "Term.worth" 778, cp 779, .int 232 0, .int 3 0, .int 0 0, .int 0 0, .int 3 0, .ref 434, .bool true, .int 181 0, .ref 435, .none, .none, .none, .ref 436, .int 780 0, .int 232 0, cp 781]
def ob438 : Obj := kM "worth" "Term.worth" (inCls (top 40) 2) "sumcraft.terms" 692 437
def ob439 : Obj := oT #[]
def ob440 : Obj := oF #[]
def ob441 : Obj := kN "floor" "Term.floor" (inCls (top 40) 3)
def ob442 : Obj := oK #[.str "floor" 783, .str "Term.floor" 784, cp 785, .int 235 0, .int 4 0, .int 0 0, .int 0 0, .int 3 0, .ref 439, .bool true, .int 181 0, .ref 440, .none, .none, .none, .ref 441, .int 786 0, .int 235 0, cp 787]
def ob443 : Obj := kM "floor" "Term.floor" (inCls (top 40) 3) "sumcraft.terms" 692 442
def ob444 : Obj := oT #[]
def ob445 : Obj := oF #[]
def ob446 : Obj := kN "frame" "Term.frame" (inCls (top 40) 4)
def ob447 : Obj := oK #[.str "frame" 789, .str "Term.frame" 790, cp 791, .int 238 0, .int 2 0, .int 0 0, .int 0 0, .int 3 0, .ref 444, .bool true, .int 181 0, .ref 445, .none, .none, .none, .ref 446, .int 792 0, .int 238 0, cp 793]
def ob448 : Obj := kM "frame" "Term.frame" (inCls (top 40) 4) "sumcraft.terms" 692 447
def ob449 : Obj := oT #[.str "parts" 795, .str "pieces" 796]
def ob450 (P : Params) : Obj := { cls := .type "dict", data := Data.dict #[kE P "__module__" 759 (.str "sumcraft.terms" 692), kE P "__firstlineno__" 763 (.int 221 762), kE P "__init__" 769 (.ref 426), kE P "told" 776 (.ref 433), kE P "worth" 782 (.ref 438), kE P "floor" 788 (.ref 443), kE P "frame" 794 (.ref 448), kE P "__static_attributes__" 797 (.ref 449), kE P "__dict__" 799 (.ref 452), kE P "__weakref__" 801 (.ref 453), kE P "__doc__" 802 (.none)] 4 }
def ob451 : Obj := { cls := .type "type", data := Data.cls { name := "Term", bases := [.type "object"], mro := [.ref 451, .type "object"], ns := 450, qualname := "Term" }, slots := #[none, none, some (.str "Term" 752), some (.str "Term" 760), some (.builtin "object.__new__"), some (.bool true)] }
def ob452 : Obj := { cls := .type "getset_descriptor", data := Data.fields #[.str "__dict__" 798, .ref 451, .builtin "function.__dict__", .builtin "function.__dict__#set"] }
def ob453 : Obj := { cls := .type "getset_descriptor", data := Data.fields #[.str "__weakref__" 800, .ref 451, .builtin "ExceptionGroup.__weakref__", .none] }
def ob454 : Obj := { cls := .type "super", data := Data.fields #[.ref 451, .ref 451, .ref 451] }
def ob455 : Obj := oB #[.builtin "object.__init_subclass__", .ref 451]
def ob456 : Obj := oT #[]
def ob457 : Obj := oF #[]
def ob458 : Obj := oT #[.str "_law_script" 810, .str "_law_k" 811]
def ob459 : Obj := oT #[]
def ob460 : Obj := kN "_law_cell_at" "_law_cell_at" (top 42)
def ob461 : Obj := oK #[.str "_law_cell_at" 807, .str "_law_cell_at" 808, cp 809, .int 244 0, .int 2 0, .int 0 0, .int 0 0, .int 3 0, .ref 456, .bool true, .int 181 0, .ref 457, .none, .ref 458, .ref 459, .ref 460, .int 812 0, .int 244 0, cp 813]
def ob462 : Obj := kM "_law_cell_at" "_law_cell_at" (top 42) "law_sumcraft_k55_whole_frames_hold" 805 461
def ob463 : Obj := oT #[]
def ob464 : Obj := oF #[]
def ob465 : Obj := oT #[.str "_law_cell" 818, .str "_law_most" 819]
def ob466 : Obj := oT #[]
def ob467 : Obj := kN "_law_number" "_law_number" (top 43)
def ob468 : Obj := oK #[.str "_law_number" 815, .str "_law_number" 816, cp 817, .int 248 0, .int 2 0, .int 0 0, .int 0 0, .int 3 0, .ref 463, .bool true, .int 181 0, .ref 464, .none, .ref 465, .ref 466, .ref 467, .int 820 0, .int 248 0, cp 821]
def ob469 : Obj := kM "_law_number" "_law_number" (top 43) "law_sumcraft_k55_whole_frames_hold" 805 468
def ob470 : Obj := oT #[]
def ob471 : Obj := oF #[]
def ob472 : Obj := oT #[.str "_law_found" 826]
def ob473 : Obj := oT #[]
def ob474 : Obj := kN "_law_whole" "_law_whole" (top 44)
def ob475 : Obj := oK #[.str "_law_whole" 823, .str "_law_whole" 824, cp 825, .int 254 0, .int 1 0, .int 0 0, .int 0 0, .int 3 0, .ref 470, .bool true, .int 181 0, .ref 471, .none, .ref 472, .ref 473, .ref 474, .int 827 0, .int 254 0, cp 828]
def ob476 : Obj := kM "_law_whole" "_law_whole" (top 44) "law_sumcraft_k55_whole_frames_hold" 805 475
def ob477 : Obj := oT #[]
def ob478 : Obj := oF #[]
def ob479 : Obj := oT #[.str "_law_one" 833, .str "_law_other" 834, .str "_law_rest" 835]
def ob480 : Obj := oT #[]
def ob481 : Obj := kN "_law_divisor" "_law_divisor" (top 45)
def ob482 : Obj := oK #[.str "_law_divisor" 830, .str "_law_divisor" 831, cp 832, .int 256 0, .int 2 0, .int 0 0, .int 0 0, .int 3 0, .ref 477, .bool true, .int 181 0, .ref 478, .none, .ref 479, .ref 480, .ref 481, .int 836 0, .int 256 0, cp 837]
def ob483 : Obj := kM "_law_divisor" "_law_divisor" (top 45) "law_sumcraft_k55_whole_frames_hold" 805 482
def ob484 : Obj := oT #[]
def ob485 : Obj := oF #[]
def ob486 : Obj := oT #[.str "_law_cell" 842, .str "_law_k" 843, .str "_law_number_here" 844, .str "_law_time" 845]
def ob487 : Obj := oT #[]
def ob488 : Obj := kN "_law_mixed" "_law_mixed" (top 46)
def ob489 : Obj := oK #[.str "_law_mixed" 839, .str "_law_mixed" 840, cp 841, .int 264 0, .int 2 0, .int 0 0, .int 0 0, .int 3 0, .ref 484, .bool true, .int 181 0, .ref 485, .none, .ref 486, .ref 487, .ref 488, .int 846 0, .int 264 0, cp 847]
def ob490 : Obj := kM "_law_mixed" "_law_mixed" (top 46) "law_sumcraft_k55_whole_frames_hold" 805 489
def ob491 : Obj := oT #[]
def ob492 : Obj := oF #[]
def ob493 : Obj := oT #[.str "_law_one" 852, .str "_law_other" 853, .str "_law_most" 854, .str "_law_high" 855, .str "_law_low" 856]
def ob494 : Obj := oT #[]
def ob495 : Obj := kN "_law_forms" "_law_forms" (top 47)
def ob496 : Obj := oK #[.str "_law_forms" 849, .str "_law_forms" 850, cp 851, .int 273 0, .int 3 0, .int 0 0, .int 0 0, .int 3 0, .ref 491, .bool true, .int 181 0, .ref 492, .none, .ref 493, .ref 494, .ref 495, .int 857 0, .int 273 0, cp 858]
def ob497 : Obj := kM "_law_forms" "_law_forms" (top 47) "law_sumcraft_k55_whole_frames_hold" 805 496
def ob498 : Obj := oT #[]
def ob499 : Obj := oF #[]
def ob500 : Obj := oT #[.str "_law_one" 863, .str "_law_other" 864, .str "_law_top" 865, .str "_law_number_here" 866, .str "_law_bottom" 867, .str "_law_by" 868]
def ob501 : Obj := oT #[]
def ob502 : Obj := kN "_law_ratio" "_law_ratio" (top 48)
def ob503 : Obj := oK #[.str "_law_ratio" 860, .str "_law_ratio" 861, cp 862, .int 284 0, .int 2 0, .int 0 0, .int 0 0, .int 3 0, .ref 498, .bool true, .int 181 0, .ref 499, .none, .ref 500, .ref 501, .ref 502, .int 869 0, .int 284 0, cp 870]
def ob504 : Obj := kM "_law_ratio" "_law_ratio" (top 48) "law_sumcraft_k55_whole_frames_hold" 805 503
def ob505 : Obj := oT #[]
def ob506 : Obj := oF #[]
def ob507 : Obj := kN "_law_part" "_law_part" (top 49)
def ob508 : Obj := oK #[.str "_law_part" 872, .str "_law_part" 873, cp 874, .int 292 0, .int 2 0, .int 0 0, .int 0 0, .int 3 0, .ref 505, .bool true, .int 181 0, .ref 506, .none, .none, .none, .ref 507, .int 875 0, .int 292 0, cp 876]
def ob509 : Obj := kM "_law_part" "_law_part" (top 49) "law_sumcraft_k55_whole_frames_hold" 805 508
def ob510 : Obj := oT #[]
def ob511 : Obj := oF #[]
def ob512 : Obj := kN "_law_parts" "_law_parts" (top 50)
def ob513 : Obj := oK #[.str "_law_parts" 878, .str "_law_parts" 879, cp 880, .int 301 0, .int 2 0, .int 0 0, .int 0 0, .int 3 0, .ref 510, .bool true, .int 181 0, .ref 511, .none, .none, .none, .ref 512, .int 881 0, .int 301 0, cp 882]
def ob514 : Obj := kM "_law_parts" "_law_parts" (top 50) "law_sumcraft_k55_whole_frames_hold" 805 513
def ob515 : Obj := oT #[]
def ob516 : Obj := oF #[]
def ob517 : Obj := oT #[.str "_law_some" 887, .str "_law_n" 888, .str "_law_k" 889, .str "_law_most" 890, .str "_law_powers" 891, .str "_law_lists" 892, .str "_law_time" 893, .str "_law_found" 894, .str "_law_number_here" 895]
def ob518 : Obj := oT #[]
def ob519 : Obj := kN "_law_pair_at" "_law_pair_at" (top 51)
def ob520 : Obj := oK #[.str "_law_pair_at" 884, .str "_law_pair_at" 885, cp 886, .int 309 0, .int 3 0, .int 0 0, .int 0 0, .int 3 0, .ref 515, .bool true, .int 181 0, .ref 516, .none, .ref 517, .ref 518, .ref 519, .int 896 0, .int 309 0, cp 897]
def ob521 : Obj := kM "_law_pair_at" "_law_pair_at" (top 51) "law_sumcraft_k55_whole_frames_hold" 805 520
def ob522 : Obj := oT #[]
def ob523 : Obj := oF #[]
def ob524 : Obj := oT #[.str "_law_found" 902]
def ob525 : Obj := oT #[]
def ob526 : Obj := kN "_law_is_fraction" "_law_is_fraction" (top 52)
def ob527 : Obj := oK #[.str "_law_is_fraction" 899, .str "_law_is_fraction" 900, cp 901, .int 322 0, .int 1 0, .int 0 0, .int 0 0, .int 3 0, .ref 522, .bool true, .int 181 0, .ref 523, .none, .ref 524, .ref 525, .ref 526, .int 903 0, .int 322 0, cp 904]
def ob528 : Obj := kM "_law_is_fraction" "_law_is_fraction" (top 52) "law_sumcraft_k55_whole_frames_hold" 805 527
def ob529 : Obj := oT #[]
def ob530 : Obj := oF #[]
def ob531 : Obj := oT #[.str "_law_term" 909, .str "_law_frame" 910, .str "_law_far" 911, .str "_law_n" 912, .str "_law_k" 913, .str "_law_here" 914, .str "_law_there" 915, .str "_law_i" 916, .str "_law_worth" 917, .str "_law_up" 918]
def ob532 : Obj := oT #[]
def ob533 : Obj := kN "_law_holds" "_law_holds" (top 53)
def ob534 : Obj := oK #[.str "_law_holds" 906, .str "_law_holds" 907, cp 908, .int 326 0, .int 5 0, .int 0 0, .int 0 0, .int 3 0, .ref 529, .bool true, .int 181 0, .ref 530, .none, .ref 531, .ref 532, .ref 533, .int 919 0, .int 326 0, cp 920]
def ob535 : Obj := kM "_law_holds" "_law_holds" (top 53) "law_sumcraft_k55_whole_frames_hold" 805 534
def ob536 : Obj := oT #[]
def ob537 : Obj := oF #[]
def ob538 : Obj := oT #[.str "_law_script" 925, .str "_law_parts_here" 926, .str "_law_far" 927, .str "_law_term" 928, .str "_law_frame" 929, .str "_law_points" 930, .str "_law_cell" 931, .str "_law_number_here" 932, .str "_law_most" 933, .str "_law_n" 934, .str "_law_k" 935]
def ob539 : Obj := oT #[]
def ob540 : Obj := kN "law" "law" (top 54)
def ob541 : Obj := oK #[.str "law" 922, .str "law" 923, cp 924, .int 339 0, .int 1 0, .int 0 0, .int 0 0, .int 3 0, .ref 536, .bool true, .int 181 0, .ref 537, .none, .ref 538, .ref 539, .ref 540, .int 936 0, .int 339 0, cp 937]
def ob542 : Obj := kM "law" "law" (top 54) "law_sumcraft_k55_whole_frames_hold" 805 541
def env0 : Env := { scope := PySem.Challenge.pw_sumcraft_k55_whole_frames_hold.main.scope, locals := mainNs, globals := mainNs, cells := [], code := .ref 13, frame := some 14 }
def cd0 : Code := .body (behindTheImports PySem.Challenge.pw_sumcraft_k55_whole_frames_hold) env0
def fr0 : List Frame := [topFrame { line := 0, col := 0, endLine := 0, endCol := 0 }]
noncomputable def hp1 (P : Params) : Heap := ⟨⟨[boot_o_0 P, boot_o_1 P, boot_o_2 P, boot_o_3 P, boot_o_4 P, boot_o_5 P, boot_o_6 P, boot_o_7 P, boot_o_8 P, boot_o_9 P, boot_o_10 P, ob11, ob12, ob13, ob14]⟩, {}⟩
noncomputable def hp3 (P : Params) : Heap := ⟨⟨[boot_o_0 P, boot_o_1 P, boot_o_2 P, ob3 P, boot_o_4 P, boot_o_5 P, boot_o_6 P, boot_o_7 P, boot_o_8 P, boot_o_9 P, boot_o_10 P, ob11, ob12', ob13, ob14, ob15, ob16, ob17, ob18, ob19, ob20, ob21, ob22, ob23, ob24 P, ob25, ob26, ob27, ob28, ob29, ob30 P, ob31, ob32, ob33, ob34, ob35, ob36, ob37 P, ob38, ob39, ob40, ob41, ob42, ob43 P, ob44, ob45, ob46, ob47, ob48, ob49 P, ob50, ob51, ob52, ob53, ob54, ob55 P, ob56, ob57, ob58, ob59, ob60, ob61, ob62, ob63, ob64, ob65, ob66, ob67, ob68, ob69, ob70, ob71, ob72, ob73, ob74, ob75, ob76, ob77, ob78, ob79, ob80, ob81, ob82, ob83, ob84, ob85, ob86, ob87, ob88, ob89, ob90, ob91, ob92, ob93, ob94, ob95, ob96, ob97, ob98, ob99, ob100, ob101, ob102, ob103, ob104, ob105, ob106, ob107, ob108, ob109, ob110, ob111, ob112, ob113, ob114, ob115, ob116, ob117, ob118, ob119, ob120, ob121, ob122, ob123, ob124, ob125, ob126, ob127, ob128, ob129, ob130, ob131, ob132, ob133, ob134, ob135, ob136, ob137, ob138, ob139, ob140, ob141, ob142, ob143, ob144, ob145, ob146, ob147, ob148, ob149, ob150, ob151, ob152, ob153, ob154, ob155 P, ob156, ob157, ob158, ob159, ob160, ob161, ob162, ob163, ob164, ob165, ob166, ob167, ob168, ob169, ob170, ob171, ob172, ob173, ob174, ob175, ob176, ob177, ob178, ob179, ob180, ob181, ob182, ob183, ob184, ob185, ob186, ob187, ob188, ob189, ob190, ob191, ob192, ob193, ob194, ob195, ob196 P, ob197, ob198, ob199, ob200, ob201]⟩, {}⟩
noncomputable def hp4 (P : Params) : Heap := ⟨⟨[boot_o_0 P, boot_o_1 P, boot_o_2 P, ob3' P, boot_o_4 P, boot_o_5 P, boot_o_6 P, boot_o_7 P, boot_o_8 P, boot_o_9 P, boot_o_10 P, ob11, ob12'', ob13, ob14, ob15, ob16, ob17, ob18, ob19, ob20, ob21, ob22, ob23, ob24 P, ob25, ob26, ob27, ob28, ob29, ob30 P, ob31, ob32, ob33, ob34, ob35, ob36, ob37 P, ob38, ob39, ob40, ob41, ob42, ob43 P, ob44, ob45, ob46, ob47, ob48, ob49 P, ob50, ob51, ob52, ob53, ob54, ob55 P, ob56, ob57, ob58, ob59, ob60, ob61, ob62, ob63, ob64, ob65, ob66, ob67, ob68, ob69, ob70, ob71, ob72, ob73, ob74, ob75, ob76, ob77, ob78, ob79, ob80, ob81, ob82, ob83, ob84, ob85, ob86, ob87, ob88, ob89, ob90, ob91, ob92, ob93, ob94, ob95, ob96, ob97, ob98, ob99, ob100, ob101, ob102, ob103, ob104, ob105, ob106, ob107, ob108, ob109, ob110, ob111, ob112, ob113, ob114, ob115, ob116, ob117, ob118, ob119, ob120, ob121, ob122, ob123, ob124, ob125, ob126, ob127, ob128, ob129, ob130, ob131, ob132, ob133, ob134, ob135, ob136, ob137, ob138, ob139, ob140, ob141, ob142, ob143, ob144, ob145, ob146, ob147, ob148, ob149, ob150, ob151, ob152, ob153, ob154, ob155 P, ob156, ob157, ob158, ob159, ob160, ob161, ob162, ob163, ob164, ob165, ob166, ob167, ob168, ob169, ob170, ob171, ob172, ob173, ob174, ob175, ob176, ob177, ob178, ob179, ob180, ob181, ob182, ob183, ob184, ob185, ob186, ob187, ob188, ob189, ob190, ob191, ob192, ob193, ob194, ob195, ob196 P, ob197', ob198, ob199, ob200, ob201, ob202, ob203, ob204 P, ob205, ob206, ob207, ob208, ob209, ob210, ob211, ob212, ob213, ob214, ob215, ob216, ob217, ob218, ob219, ob220, ob221, ob222, ob223, ob224, ob225, ob226, ob227, ob228, ob229, ob230, ob231, ob232, ob233, ob234, ob235, ob236, ob237, ob238, ob239, ob240, ob241, ob242, ob243, ob244, ob245, ob246, ob247, ob248, ob249, ob250, ob251, ob252, ob253, ob254, ob255 P, ob256, ob257, ob258, ob259, ob260, ob261 P, ob262, ob263, ob264, ob265, ob266, ob267, ob268, ob269, ob270, ob271, ob272, ob273, ob274, ob275, ob276, ob277, ob278, ob279, ob280, ob281, ob282, ob283, ob284, ob285, ob286, ob287, ob288 P, ob289, ob290, ob291, ob292, ob293, ob294 P, ob295, ob296, ob297, ob298, ob299, ob300, ob301, ob302, ob303, ob304, ob305, ob306, ob307, ob308, ob309, ob310, ob311, ob312, ob313, ob314, ob315, ob316, ob317, ob318, ob319, ob320, ob321, ob322, ob323, ob324, ob325, ob326, ob327, ob328, ob329, ob330, ob331, ob332, ob333, ob334, ob335 P, ob336, ob337, ob338, ob339, ob340, ob341 P, ob342, ob343, ob344, ob345, ob346, ob347, ob348, ob349, ob350, ob351, ob352, ob353, ob354, ob355, ob356, ob357, ob358, ob359, ob360, ob361, ob362, ob363, ob364, ob365, ob366, ob367, ob368, ob369, ob370, ob371, ob372, ob373, ob374, ob375 P, ob376, ob377, ob378]⟩, {}⟩
noncomputable def hp5 (P : Params) : Heap := ⟨⟨[boot_o_0 P, boot_o_1 P, boot_o_2 P, ob3'' P, boot_o_4 P, boot_o_5 P, boot_o_6 P, boot_o_7 P, boot_o_8 P, boot_o_9 P, boot_o_10 P, ob11, ob12''', ob13, ob14, ob15, ob16, ob17, ob18, ob19, ob20, ob21, ob22, ob23, ob24 P, ob25, ob26, ob27, ob28, ob29, ob30 P, ob31, ob32, ob33, ob34, ob35, ob36, ob37 P, ob38, ob39, ob40, ob41, ob42, ob43 P, ob44, ob45, ob46, ob47, ob48, ob49 P, ob50, ob51, ob52, ob53, ob54, ob55 P, ob56, ob57, ob58, ob59, ob60, ob61, ob62, ob63, ob64, ob65, ob66, ob67, ob68, ob69, ob70, ob71, ob72, ob73, ob74, ob75, ob76, ob77, ob78, ob79, ob80, ob81, ob82, ob83, ob84, ob85, ob86, ob87, ob88, ob89, ob90, ob91, ob92, ob93, ob94, ob95, ob96, ob97, ob98, ob99, ob100, ob101, ob102, ob103, ob104, ob105, ob106, ob107, ob108, ob109, ob110, ob111, ob112, ob113, ob114, ob115, ob116, ob117, ob118, ob119, ob120, ob121, ob122, ob123, ob124, ob125, ob126, ob127, ob128, ob129, ob130, ob131, ob132, ob133, ob134, ob135, ob136, ob137, ob138, ob139, ob140, ob141, ob142, ob143, ob144, ob145, ob146, ob147, ob148, ob149, ob150, ob151, ob152, ob153, ob154, ob155 P, ob156, ob157, ob158, ob159, ob160, ob161, ob162, ob163, ob164, ob165, ob166, ob167, ob168, ob169, ob170, ob171, ob172, ob173, ob174, ob175, ob176, ob177, ob178, ob179, ob180, ob181, ob182, ob183, ob184, ob185, ob186, ob187, ob188, ob189, ob190, ob191, ob192, ob193, ob194, ob195, ob196 P, ob197', ob198, ob199, ob200, ob201, ob202, ob203, ob204 P, ob205, ob206, ob207, ob208, ob209, ob210, ob211, ob212, ob213, ob214, ob215, ob216, ob217, ob218, ob219, ob220, ob221, ob222, ob223, ob224, ob225, ob226, ob227, ob228, ob229, ob230, ob231, ob232, ob233, ob234, ob235, ob236, ob237, ob238, ob239, ob240, ob241, ob242, ob243, ob244, ob245, ob246, ob247, ob248, ob249, ob250, ob251, ob252, ob253, ob254, ob255 P, ob256, ob257, ob258, ob259, ob260, ob261 P, ob262, ob263, ob264, ob265, ob266, ob267, ob268, ob269, ob270, ob271, ob272, ob273, ob274, ob275, ob276, ob277, ob278, ob279, ob280, ob281, ob282, ob283, ob284, ob285, ob286, ob287, ob288 P, ob289, ob290, ob291, ob292, ob293, ob294 P, ob295, ob296, ob297, ob298, ob299, ob300, ob301, ob302, ob303, ob304, ob305, ob306, ob307, ob308, ob309, ob310, ob311, ob312, ob313, ob314, ob315, ob316, ob317, ob318, ob319, ob320, ob321, ob322, ob323, ob324, ob325, ob326, ob327, ob328, ob329, ob330, ob331, ob332, ob333, ob334, ob335 P, ob336, ob337, ob338, ob339, ob340, ob341 P, ob342, ob343, ob344, ob345, ob346, ob347, ob348, ob349, ob350, ob351, ob352, ob353, ob354, ob355, ob356, ob357, ob358, ob359, ob360, ob361, ob362, ob363, ob364, ob365, ob366, ob367, ob368, ob369, ob370, ob371, ob372, ob373, ob374, ob375 P, ob376, ob377, ob378, ob379, ob380, ob381, ob382, ob383, ob384, ob385, ob386, ob387, ob388, ob389, ob390, ob391, ob392, ob393, ob394, ob395, ob396, ob397, ob398, ob399, ob400, ob401, ob402, ob403, ob404, ob405, ob406, ob407, ob408, ob409, ob410, ob411, ob412, ob413, ob414, ob415, ob416, ob417 P, ob418, ob419, ob420, ob421, ob422, ob423, ob424, ob425, ob426, ob427, ob428, ob429, ob430, ob431, ob432, ob433, ob434, ob435, ob436, ob437, ob438, ob439, ob440, ob441, ob442, ob443, ob444, ob445, ob446, ob447, ob448, ob449, ob450 P, ob451, ob452, ob453, ob454, ob455, ob456, ob457, ob458, ob459, ob460, ob461, ob462, ob463, ob464, ob465, ob466, ob467, ob468, ob469, ob470, ob471, ob472, ob473, ob474, ob475, ob476, ob477, ob478, ob479, ob480, ob481, ob482, ob483, ob484, ob485, ob486, ob487, ob488, ob489, ob490, ob491, ob492, ob493, ob494, ob495, ob496, ob497, ob498, ob499, ob500, ob501, ob502, ob503, ob504, ob505, ob506, ob507, ob508, ob509, ob510, ob511, ob512, ob513, ob514, ob515, ob516, ob517, ob518, ob519, ob520, ob521, ob522, ob523, ob524, ob525, ob526, ob527, ob528, ob529, ob530, ob531, ob532, ob533, ob534, ob535, ob536, ob537, ob538, ob539, ob540, ob541, ob542]⟩, {}⟩
set_option maxHeartbeats 0 in
theorem pc_pre (w : World) (os : OsState) : topGo treeTable PySem.Challenge.pw_sumcraft_k55_whole_frames_hold w 11 (some (.ref 6)) 12 (⟨boot_heap w.params, Array.mk [], boot_drawn, boot_toks, os⟩ : Shared) (topStub PySem.Challenge.pw_sumcraft_k55_whole_frames_hold) = some ((⟨hp1 w.params, #[], {}, 187, os⟩ : Shared), ⟨denote treeTable cd0, cd0, { line := 0, col := 0, endLine := 0, endCol := 0 }, fr0⟩) := by kernel_rfl
set_option maxHeartbeats 0 in
theorem pc_blk (w : World) (os : OsState) : segRun treeTable PySem.Challenge.pw_sumcraft_k55_whole_frames_hold w 11 (some (.ref 6)) 1 1 (⟨hp1 w.params, #[], {}, 187, os⟩ : Shared) (blockOf (behindTheImports PySem.Challenge.pw_sumcraft_k55_whole_frames_hold) env0 cd0 { line := 0, col := 0, endLine := 0, endCol := 0 } fr0) = some (.next, (⟨hp1 w.params, #[], {}, 187, os⟩ : Shared), cd0, { line := 0, col := 0, endLine := 0, endCol := 0 }) := by kernel_rfl
def gl3 : List Stmt := [top 0, top 1, top 2, top 3, top 4, top 5, top 6, top 7, top 8, top 9, top 10, top 11, top 12, top 13, top 14, top 15, top 16, top 17, top 18, top 19, top 20, top 21, top 22, top 23, top 24, top 25]
set_option maxHeartbeats 0 in
theorem pc3 (w : World) (os : OsState) : segRun treeTable PySem.Challenge.pw_sumcraft_k55_whole_frames_hold w 11 (some (.ref 6)) 1 1497 (⟨hp1 w.params, #[], {}, 187, os⟩ : Shared) (piecesOf gl3 env0 cd0 { line := 0, col := 0, endLine := 0, endCol := 0 } fr0) = some (.next, (⟨hp3 w.params, #[], {}, 457, os⟩ : Shared), cd0, { line := 92, col := 0, endLine := 107, endCol := 21 }) := by kernel_rfl
def gl4 : List Stmt := [top 26, top 27, top 28, top 29]
set_option maxHeartbeats 0 in
theorem pc4 (w : World) (os : OsState) : segRun treeTable PySem.Challenge.pw_sumcraft_k55_whole_frames_hold w 11 (some (.ref 6)) 1 1472 (⟨hp3 w.params, #[], {}, 457, os⟩ : Shared) (piecesOf gl4 env0 cd0 { line := 92, col := 0, endLine := 107, endCol := 21 } fr0) = some (.next, (⟨hp4 w.params, #[], {}, 692, os⟩ : Shared), cd0, { line := 170, col := 0, endLine := 182, endCol := 83 }) := by kernel_rfl
def gl5 : List Stmt := [top 30, top 31, top 32, top 33, top 34, top 35, top 36, top 37, top 38, top 39, top 40, top 41, top 42, top 43, top 44, top 45, top 46, top 47, top 48, top 49, top 50, top 51, top 52, top 53, top 54]
set_option maxHeartbeats 0 in
theorem pc5 (w : World) (os : OsState) : segRun treeTable PySem.Challenge.pw_sumcraft_k55_whole_frames_hold w 11 (some (.ref 6)) 1 979 (⟨hp4 w.params, #[], {}, 692, os⟩ : Shared) (piecesOf gl5 env0 cd0 { line := 170, col := 0, endLine := 182, endCol := 83 } fr0) = some (.next, (⟨hp5 w.params, #[], {}, 939, os⟩ : Shared), cd0, { line := 339, col := 0, endLine := 354, endCol := 15 }) := by kernel_rfl
set_option maxHeartbeats 0 in
theorem pc_fin (w : World) (os : OsState) : topRun treeTable PySem.Challenge.pw_sumcraft_k55_whole_frames_hold w 11 (some (.ref 6)) 2 (⟨hp5 w.params, #[], {}, 939, os⟩ : Shared) ⟨doneF .next, cd0, { line := 339, col := 0, endLine := 354, endCol := 15 }, fr0⟩ = some (⟨hp5 w.params, #[], {}, 939, os⟩ : Shared) := by kernel_rfl
theorem body_is : behindTheImports PySem.Challenge.pw_sumcraft_k55_whole_frames_hold = gl3 ++ (gl4 ++ (gl5 ++ [])) := by kernel_rfl
theorem run0 (w : World) (os : OsState) : topRun treeTable PySem.Challenge.pw_sumcraft_k55_whole_frames_hold w 11 (some (.ref 6)) (12 + (1 + (1497 + (1472 + (979 + 2))))) (⟨boot_heap w.params, Array.mk [], boot_drawn, boot_toks, os⟩ : Shared) (topStub PySem.Challenge.pw_sumcraft_k55_whole_frames_hold) = some (⟨hp5 w.params, #[], {}, 939, os⟩ : Shared) :=
 go_top (pc_pre w os) (piece_block (pc_blk w os) (by
  rw [body_is]
  exact piece_app (pc3 w os) (piece_app (pc4 w os) (piece_app (pc5 w os) (piece_nil (pc_fin w os))))))
def KK (P : Params) : Frag := [(3, ob3'' P), (24, ob24 P), (30, ob30 P), (31, ob31), (37, ob37 P), (43, ob43 P), (44, ob44), (49, ob49 P), (55, ob55 P), (56, ob56), (62, ob62), (63, ob63), (69, ob69), (70, ob70), (76, ob76), (77, ob77), (83, ob83), (84, ob84), (97, ob97), (98, ob98), (104, ob104), (105, ob105), (111, ob111), (112, ob112), (118, ob118), (119, ob119), (123, ob123), (124, ob124), (130, ob130), (131, ob131), (137, ob137), (138, ob138), (144, ob144), (145, ob145), (151, ob151), (152, ob152), (155, ob155 P), (172, ob172), (173, ob173), (179, ob179), (180, ob180), (186, ob186), (187, ob187), (193, ob193), (194, ob194), (196, ob196 P), (197, ob197'), (204, ob204 P), (214, ob214), (215, ob215), (219, ob219), (220, ob220), (226, ob226), (227, ob227), (233, ob233), (234, ob234), (240, ob240), (241, ob241), (247, ob247), (248, ob248), (252, ob252), (253, ob253), (255, ob255 P), (256, ob256), (261, ob261 P), (271, ob271), (272, ob272), (278, ob278), (279, ob279), (285, ob285), (286, ob286), (288, ob288 P), (289, ob289), (294, ob294 P), (304, ob304), (305, ob305), (311, ob311), (312, ob312), (318, ob318), (319, ob319), (325, ob325), (326, ob326), (332, ob332), (333, ob333), (335, ob335 P), (336, ob336), (341, ob341 P), (351, ob351), (352, ob352), (358, ob358), (359, ob359), (365, ob365), (366, ob366), (372, ob372), (373, ob373), (375, ob375 P), (376, ob376), (379, ob379), (380, ob380), (381, ob381), (385, ob385), (386, ob386), (392, ob392), (393, ob393), (399, ob399), (400, ob400), (406, ob406), (407, ob407), (413, ob413), (414, ob414), (417, ob417 P), (425, ob425), (426, ob426), (437, ob437), (438, ob438), (442, ob442), (443, ob443), (447, ob447), (448, ob448), (450, ob450 P), (451, ob451), (461, ob461), (462, ob462), (468, ob468), (469, ob469), (475, ob475), (476, ob476), (482, ob482), (483, ob483), (489, ob489), (490, ob490), (496, ob496), (497, ob497), (503, ob503), (504, ob504), (508, ob508), (509, ob509), (513, ob513), (514, ob514), (520, ob520), (521, ob521), (527, ob527), (528, ob528), (534, ob534), (535, ob535), (541, ob541), (542, ob542)]
def KA : List Addr := [3, 24, 30, 31, 37, 43, 44, 49, 55, 56, 62, 63, 69, 70, 76, 77, 83, 84, 97, 98, 104, 105, 111, 112, 118, 119, 123, 124, 130, 131, 137, 138, 144, 145, 151, 152, 155, 172, 173, 179, 180, 186, 187, 193, 194, 196, 197, 204, 214, 215, 219, 220, 226, 227, 233, 234, 240, 241, 247, 248, 252, 253, 255, 256, 261, 271, 272, 278, 279, 285, 286, 288, 289, 294, 304, 305, 311, 312, 318, 319, 325, 326, 332, 333, 335, 336, 341, 351, 352, 358, 359, 365, 366, 372, 373, 375, 376, 379, 380, 381, 385, 386, 392, 393, 399, 400, 406, 407, 413, 414, 417, 425, 426, 437, 438, 442, 443, 447, 448, 450, 451, 461, 462, 468, 469, 475, 476, 482, 483, 489, 490, 496, 497, 503, 504, 508, 509, 513, 514, 520, 521, 527, 528, 534, 535, 541, 542]
def qv : Program := view PySem.Challenge.pw_sumcraft_k55_whole_frames_hold [0, 2, 3, 4, 6, 7, 8, 9, 11, 12, 13, 14, 15, 17, 18, 19, 20, 21, 22, 23, 24, 25, 26, 27, 28, 29, 31, 32, 33, 34, 35, 36, 37, 38, 39, 40, 42, 43, 44, 45, 46, 47, 48, 49, 50, 51, 52, 53, 54]
def xt (s : Shared) : Bool := xlAt qv [] s && recOk (PySem.Challenge.rw_sumcraft_k55_whole_frames_hold.row.toRowW).records s
def hk : Hook := kHook KK KA fun _ => rfl
set_option maxHeartbeats 0 in
theorem left : LeftO PySem.Challenge.pw_sumcraft_k55_whole_frames_hold qv [] xt hk.obs hk.val 8016 :=
 LeftO.of_pieces (H₀ := boot_heap) (H₁ := hp5) (gs₁ := #[]) (d₁ := {}) (k₁ := 939)
  (boot_open (by kernel_rfl) rfl fun s => by kernel_rfl)
  (fun w => by kernel_rfl) run0 (by kernel_rfl)
  fun w => by kernel_rfl
set_option maxHeartbeats 0 in
theorem h_well : PySem.Challenge.rw_sumcraft_k55_whole_frames_hold.wellSaid = true := by kernel_rfl
set_option maxHeartbeats 0 in
theorem h_bare : PySem.Challenge.rw_sumcraft_k55_whole_frames_hold.row.prog.bare := ⟨rfl, rfl, rfl, rfl, rfl, by decide +kernel⟩
end My
namespace L2
open PySem PySem.Spec PyProof.Rows
abbrev Key := Sum Int Str
def keyIs : Key -> Value -> Bool
 | .inl k, v => Value.isInt k v
 | .inr x, v => Value.isStrOf x v
def keyH (w : World) : Key -> Int
 | .inl k => hashInt k
 | .inr x => hashStr w x
theorem keyIs_shape : ∀ {k : Key} {v : Value}, keyIs k v = true -> (∃ i t, k = Sum.inl i ∧ v = Value.int i t) ∨ (∃ x t, k = Sum.inr x ∧ v = Value.str x t)
 | .inl i, v, h => by
  obtain ⟨t, e⟩ := Value.isInt_shape (k := i) (v := v) h
  exact .inl ⟨i, t, rfl, e⟩
 | .inr x, v, h => by
  obtain ⟨t, e⟩ := Value.isStrOf_shape (x := x) (v := v) h
  exact .inr ⟨x, t, rfl, e⟩
theorem keyIs_int (i : Int) (t : Tok) : keyIs (.inl i) (.int i t) = true := by simp [keyIs, Value.isInt]
theorem keyIs_str (x : Str) (t : Tok) : keyIs (.inr x) (.str x t) = true := by simp [keyIs, Value.isStrOf]
theorem key_ll (a b : Int) : decide ((Sum.inl a : Key) = Sum.inl b) = (a == b) := by
 by_cases e : a = b
 ·subst e; simp
 ·have h : ¬ (Sum.inl a : Key) = Sum.inl b := fun q => e (Sum.inl.inj q)
  rw [decide_eq_false h]
  exact (beq_eq_false_iff_ne.mpr e).symm
theorem key_rr (a b : Str) : decide ((Sum.inr a : Key) = Sum.inr b) = decide (a = b) := by
 by_cases e : a = b
 ·subst e; simp
 ·have h : ¬ (Sum.inr a : Key) = Sum.inr b := fun q => e (Sum.inr.inj q)
  rw [decide_eq_false h, decide_eq_false e]
theorem key_lr (a : Int) (b : Str) : decide ((Sum.inl a : Key) = Sum.inr b) = false := decide_eq_false (fun q => nomatch q)
theorem key_rl (a : Str) (b : Int) : decide ((Sum.inr a : Key) = Sum.inl b) = false := decide_eq_false (fun q => nomatch q)
def mixKind (prog : Program) (w : World) : PySem.KeyKind prog w Key where
 is := keyIs
 hash := keyH w
 inj := fun v a b ha hb => by
  rcases keyIs_shape ha with ⟨i, t, rfl, rfl⟩ | ⟨x, t, rfl, rfl⟩
  ·rcases keyIs_shape hb with ⟨j, u, rfl, e⟩ | ⟨y, u, rfl, e⟩
   ·injection e with e1 _; rw [e1]
   ·exact nomatch e
  ·rcases keyIs_shape hb with ⟨j, u, rfl, e⟩ | ⟨y, u, rfl, e⟩
   ·exact nomatch e
   ·injection e with e1 _; rw [e1]
 byValue := fun k v h => by
  rcases keyIs_shape h with ⟨i, t, rfl, rfl⟩ | ⟨x, t, rfl, rfl⟩ <;> rfl
 pyHash := fun hv h => by
  rcases keyIs_shape hv with ⟨i, t, rfl, rfl⟩ | ⟨x, t, rfl, rfl⟩
  ·exact wpAny_pyHash_int h
  ·exact wpAny_pyHash_str h
 eqBool := fun hu hv h => by
  rcases keyIs_shape hu with ⟨i, t, rfl, rfl⟩ | ⟨x, t, rfl, rfl⟩
  ·rcases keyIs_shape hv with ⟨j, u, rfl, rfl⟩ | ⟨y, u, rfl, rfl⟩
   ·rw [key_ll] at h; exact wpAny_eqBool_int h
   ·rw [key_lr] at h; exact SeqAt.EqAt.int_str i t y u _ _ _ _ h
  ·rcases keyIs_shape hv with ⟨j, u, rfl, rfl⟩ | ⟨y, u, rfl, rfl⟩
   ·rw [key_rl] at h; exact SeqAt.EqAt.str_int x t j u _ _ _ _ h
   ·rw [key_rr] at h; exact wpAny_eqBool_str h
 «strs» := fun k x t v h => by
  rcases keyIs_shape h with ⟨i, u, rfl, e⟩ | ⟨y, u, rfl, e⟩
  ·exact nomatch e
  ·injection e with e1 _
   subst e1
   cases v <;> rfl
theorem mixKind_int (prog : Program) (w : World) (i : Int) (t : Tok) : (mixKind prog w).is (.inl i) (.int i t) = true := keyIs_int i t
theorem mixKind_str (prog : Program) (w : World) (x : Str) (t : Tok) : (mixKind prog w).is (.inr x) (.str x t) = true := keyIs_str x t
end L2
namespace L2
open PySem PySem.Spec PyProof.Rows
inductive V where
 | non | bl (b : Bool) | int (i : Int) | str (x : Str) | byt (b : Array UInt8) | flt (b : UInt64) | ref (a : Addr) | ty (n : String)
 deriving DecidableEq
def RelV : V -> Value -> Prop
 | .non, u => u = Value.none
 | .bl b, u => u = Value.bool b
 | .int i, u => ∃ t, u = Value.int i t
 | .str x, u => ∃ t, u = Value.str x t
 | .byt b, u => ∃ t, u = Value.bytes b t
 | .flt b, u => ∃ t, u = Value.float b t
 | .ref a, u => u = Value.ref a
 | .ty n, u => u = Value.type n
abbrev Vals : List V -> List Value -> Prop := Paired RelV
theorem Vals.length {xs : List V} {us : List Value} (r : Vals xs us) : xs.length = us.length := Paired.length r
theorem Vals.get : ∀ {xs : List V} {us : List Value} {i : Nat} {x : V}, Vals xs us -> xs[i]? = some x -> ∃ u, us[i]? = some u ∧ RelV x u
 | _, _, _, _, .nil, e => by simp at e
 | _, _, 0, _, .cons r _, e => by simp at e; subst e; exact ⟨_, rfl, r⟩
 | _, _, i + 1, x, .cons _ t, e => by
  obtain ⟨u, h1, h2⟩ := Vals.get (i := i) (x := x) t (by simpa using e)
  exact ⟨u, by simpa using h1, h2⟩
theorem Vals.append : ∀ {xs ys : List V} {us ws : List Value}, Vals xs us -> Vals ys ws -> Vals (xs ++ ys) (us ++ ws)
 | _, _, _, _, .nil, s => s
 | _, _, _, _, .cons r t, s => .cons r (Vals.append t s)
theorem Vals.take : ∀ {xs : List V} {us : List Value} (n : Nat), Vals xs us -> Vals (xs.take n) (us.take n)
 | _, _, 0, _ => .nil
 | _, _, _ + 1, .nil => .nil
 | _, _, n + 1, .cons r t => .cons r (Vals.take n t)
theorem Vals.drop : ∀ {xs : List V} {us : List Value} (n : Nat), Vals xs us -> Vals (xs.drop n) (us.drop n)
 | _, _, 0, r => r
 | _, _, _ + 1, .nil => .nil
 | _, _, n + 1, .cons _ t => Vals.drop n t
def RelO : Option V -> Option Value -> Prop
 | some v, some u => RelV v u
 | none, none => True
 | _, _ => False
def KV {κ : Type} : List (κ × V) -> List (κ × Value) -> Prop := Paired fun (p : κ × V) (q : κ × Value) => p.1 = q.1 ∧ RelV p.2 q.2
def kV : Key -> V
 | .inl i => .int i
 | .inr x => .str x
inductive HO where
  | lst (xs : List V)
  | tup (xs : List V)
  | dK (kvs : List (Key × V)) | dT (kvs : List (List Key × V))
  | set (S : Int -> Bool) (n : Nat)
  | ins (C dx : Addr) (fs : List (Str × V))
  | own (x : Addr)
  | xd (fs : List (Str × V))
  | met (f x : Addr)
  | rng (lo hi : Int)
  | frz (o : Obj) (u : HO)
  | tbl (ps : Array Value)
  | ext (φ : Heap -> Prop)
abbrev Hp := Addr -> Option HO
def upd (H : Hp) (a : Addr) (o : HO) : Hp := fun b => if b = a then some o else H b
theorem upd_same {H : Hp} {a : Addr} {o : HO} : upd H a o a = some o := by unfold upd; rw [if_pos rfl]
theorem upd_ne {H : Hp} {a b : Addr} {o : HO} (h : b ≠ a) : upd H a o b = H b := by unfold upd; rw [if_neg h]
theorem upd_upd {H : Hp} {a : Addr} {o u : HO} : upd (upd H a o) a u = upd H a u := by
 funext b; unfold upd; split <;> rfl
theorem ne_of {H : Hp} {a b : Addr} {o u : HO} (h : H a = some o) (h' : H b = some u) (d : o ≠ u) : a ≠ b := by
 intro e; subst e; rw [h] at h'; exact d (Option.some.inj h')
theorem ne_of_none {H : Hp} {a b : Addr} {o : HO} (h : H a = some o) (h' : H b = none) : a ≠ b := by
 intro e; subst e; rw [h] at h'; cases h'
section
variable (P : Program) (w : World)
def ObjOk (H : Hp) (h : Heap) (a : Addr) : HO -> Prop
 | .lst xs => xs.length <= sizeLine ∧ ∃ (its : List Value) (n : Nat), Vals xs its ∧ h.get? a = some { cls := .type "list", data := .seq its.toArray n }
 | .tup xs => xs.length <= sizeLine ∧ ∃ its : List Value, Vals xs its ∧ IsTup h a its.toArray
 | .dK kvs => kvs.length <= sizeLine ∧ (a == sysModules) = false ∧ ∃ vs, KV kvs vs ∧ h.DictOf (mixKind P w) a vs
 | .dT kvs => kvs.length <= sizeLine ∧ (a == sysModules) = false ∧ ∃ xs : List (List Key × Addr × Value),
   Paired (fun (p : List Key × V) (q : List Key × Addr × Value) => p.1 = q.1 ∧ H q.2.1 = some (.tup (p.1.map kV)) ∧ RelV p.2 q.2.2) kvs xs ∧
   ∃ o es ep, h.get? a = some o ∧ o.ExactDict ∧ o.data = .dict es ep ∧ es.toList = xs.map (entryOfKey (tupleKind (mixKind P w))) ∧ (xs.map (·.1)).Nodup
 | .set S n => h.SetOf (intKind P w) a S n
 | .ins C dx fs => H dx = some (.own a) ∧ fs.length <= 1000 ∧ dx ≠ a ∧ h.get? a = some (PySem.W.instObj C dx) ∧
   ∃ mA, h.Ns1 dx mA ∧ (∀ f, RelO (fs.lookup f) (mA f)) ∧ PySem.Within mA (fs.map (·.1))
 | .own _ => ∃ o, h.get? a = some o
 | .xd fs => ∃ mA, h.Ns1 a mA ∧ ∀ f, RelO (fs.lookup f) (mA f)
 | .rng lo hi => ∃ t u v, h.get? a = some { cls := .type "range", data := .fields #[.int lo t, .int hi u, .int 1 v] }
 | .frz o u => h.get? a = some o ∧ ObjOk H h a u
 | .tbl ps => h.get? a = some { cls := .none, data := .fields ps }
 | .met f x => h.get? a = some (PySem.W.methodObj (.ref f) (.ref x))
 | .ext φ => φ h ∧ (∃ o, h.get? a = some o) ∧ ∀ h1 h2 : Heap, φ h1 -> (∀ o, h1.get? a = some o -> h2.get? a = some o) -> φ h2
def HOk (H : Hp) (h : Heap) : Prop := ∀ a o, H a = some o -> ObjOk P w H h a o
end
section
variable {P : Program} {w : World} {H H' : Hp} {h h' : Heap} {a : Addr} {o : HO}
theorem ObjOk.lt (x : ObjOk P w H h a o) : a < h.objs.size := by
 cases o with
 | lst xs => obtain ⟨_, _, _, _, e⟩ := x; exact Heap.lt_size e
 | tup xs => obtain ⟨_, _, _, p⟩ := x; exact p.lt
 | dK kvs => obtain ⟨_, _, _, _, o, _, _, e, _⟩ := x; exact Heap.lt_size e
 | dT kvs => obtain ⟨_, _, _, _, o, _, _, e, _⟩ := x; exact Heap.lt_size e
 | set S n => obtain ⟨o, _, _, _, e, _⟩ := x; exact Heap.lt_size e
 | ins C dx fs => obtain ⟨_, _, _, e, _⟩ := x; exact Heap.lt_size e
 | own y => obtain ⟨_, e⟩ := x; exact Heap.lt_size e
 | xd fs => obtain ⟨_, ⟨_, _, _, e, _⟩, _⟩ := x; exact Heap.lt_size e
 | rng lo hi => obtain ⟨_, _, _, e⟩ := x; exact Heap.lt_size e
 | frz ob u => obtain ⟨e, _⟩ := x; exact Heap.lt_size e
 | tbl ps => exact Heap.lt_size (show h.get? a = some _ from x)
 | met f y => exact Heap.lt_size (show h.get? a = some _ from x)
 | ext φ => obtain ⟨_, ⟨_, e⟩, _⟩ := x; exact Heap.lt_size e
theorem Paired.mapP {α β : Type} {F G : α -> β -> Prop} : ∀ {l₁ : List α} {l₂ : List β}, Paired F l₁ l₂ -> (∀ a b, F a b -> G a b) -> Paired G l₁ l₂
 | _, _, .nil, _ => .nil
 | _, _, .cons r t, f => .cons (f _ _ r) (Paired.mapP t f)
theorem ObjOk.stay (x : ObjOk P w H h a o) (k : ∀ b u, (b = a ∨ H b = some (.own a)) -> h.get? b = some u -> h'.get? b = some u)
  (ho : ∀ b, H b = some (.own a) -> H' b = some (.own a)) (ht : ∀ b xs, H b = some (.tup xs) -> H' b = some (.tup xs)) : ObjOk P w H' h' a o := by
 induction o with
 | lst xs => obtain ⟨z, its, n, r, e⟩ := x; exact ⟨z, its, n, r, k _ _ (.inl rfl) e⟩
 | tup xs => obtain ⟨z, its, r, ob, e, c⟩ := x; exact ⟨z, its, r, ob, k _ _ (.inl rfl) e, c⟩
 | dK kvs => obtain ⟨z, y, vs, r, ob, es, ep, e, c⟩ := x; exact ⟨z, y, vs, r, ob, es, ep, k _ _ (.inl rfl) e, c⟩
 | dT kvs =>
  obtain ⟨z, y, xs, r, ob, es, ep, e, c⟩ := x
  exact ⟨z, y, xs, Paired.mapP r fun p q z => ⟨z.1, ht _ _ z.2.1, z.2.2⟩, ob, es, ep, k _ _ (.inl rfl) e, c⟩
 | set S n => obtain ⟨ob, es, ep, t, e, c⟩ := x; exact ⟨ob, es, ep, t, k _ _ (.inl rfl) e, c⟩
 | ins C dx fs =>
  obtain ⟨d, z, ne, e, mA, ⟨od, es, ep, e2, c⟩, r⟩ := x
  exact ⟨ho _ d, z, ne, k _ _ (.inl rfl) e, mA, ⟨od, es, ep, k _ _ (.inr d) e2, c⟩, r⟩
 | own y => obtain ⟨ob, e⟩ := x; exact ⟨ob, k _ _ (.inl rfl) e⟩
 | xd fs => obtain ⟨mA, ⟨od, es, ep, e, c⟩, r⟩ := x; exact ⟨mA, ⟨od, es, ep, k _ _ (.inl rfl) e, c⟩, r⟩
 | rng lo hi => obtain ⟨t, u, v, e⟩ := x; exact ⟨t, u, v, k _ _ (.inl rfl) e⟩
 | frz ob u ih => obtain ⟨e, q⟩ := x; exact ⟨k _ _ (.inl rfl) e, ih q⟩
 | tbl ps =>
  have e : h.get? a = some { cls := .none, data := .fields ps } := x
  show h'.get? a = some { cls := .none, data := .fields ps }
  exact k a _ (.inl rfl) e
 | met f y =>
  have e : h.get? a = some (PySem.W.methodObj (.ref f) (.ref y)) := x
  show h'.get? a = some (PySem.W.methodObj (.ref f) (.ref y))
  exact k a _ (.inl rfl) e
 | ext φ => obtain ⟨p, ⟨o, e⟩, st⟩ := x; exact ⟨st _ _ p fun o q => k _ _ (.inl rfl) q, ⟨o, k _ _ (.inl rfl) e⟩, st⟩
theorem HOk.lt (x : HOk P w H h) (e : H a = some o) : a < h.objs.size := (x a o e).lt
theorem HOk.fresh (x : HOk P w H h) (e : h.objs.size <= a) : H a = none := by
 cases q : H a with
 | none => rfl
 | some u => exact absurd (Nat.lt_of_lt_of_le (x.lt q) e) (Nat.lt_irrefl _)
theorem HOk.kept (x : HOk P w H h) (k : ∀ b u, h.get? b = some u -> h'.get? b = some u) : HOk P w H h' := fun a o e =>
 (x a o e).stay (fun b u _ q => k b u q) (fun _ q => q) fun _ _ q => q
theorem HOk.laid (x : HOk P w H h) (k : ∀ b u, h.get? b = some u -> h'.get? b = some u) (hp : h.objs.size <= a) (new : ObjOk P w (upd H a o) h' a o) : HOk P w (upd H a o) h' := fun b u e => by
 have hn := x.fresh hp
 by_cases hb : b = a
 ·subst hb; rw [upd_same] at e; cases e; exact new
 ·rw [upd_ne hb] at e
  exact (x b u e).stay (fun c v _ q => k c v q) (fun c q => by rw [upd_ne (ne_of_none q hn)]; exact q) fun c xs q => by rw [upd_ne (ne_of_none q hn)]; exact q
end
def Rd (H : Hp) (a : Addr) (u : HO) : Prop := H a = some u ∨ ∃ o, H a = some (.frz o u)
theorem Rd.ok {P : Program} {w : World} {H : Hp} {h : Heap} {a : Addr} {u : HO} (r : Rd H a u) (x : HOk P w H h) : ObjOk P w H h a u := by
 rcases r with r | ⟨o, r⟩
 ·exact x a u r
 ·obtain ⟨_, q⟩ := x a _ r
  exact q
def Mut : Option HO -> Prop
 | some (.lst _) => True
 | some (.dK _) => True
 | some (.dT _) => True
 | some (.set _ _) => True
 | some (.ins _ _ _) => True
 | some (.ext _) => True
 | _ => False
section
variable {P : Program} {w : World} {H : Hp} {h h' : Heap} {x e : Addr} {o' : HO}
theorem HOk.write (ok : HOk P w H h) (mu : Mut (H x)) (he : e = x ∨ H e = some (.own x)) (k : ∀ b u, b ≠ e -> h.get? b = some u -> h'.get? b = some u) (heo : ∃ u, h'.get? e = some u)
  (new : ObjOk P w (upd H x o') h' x o') : HOk P w (upd H x o') h' := fun b u q => by
 have nown : ∀ c y, H c = some (.own y) -> c ≠ x := fun c y r z => by subst z; rw [r] at mu; exact mu
 have ntup : ∀ c xs, H c = some (.tup xs) -> c ≠ x := fun c xs r z => by subst z; rw [r] at mu; exact mu
 by_cases hb : b = x
 ·subst hb; rw [upd_same] at q; cases q; exact new
 ·rw [upd_ne hb] at q
  by_cases hbe : b = e
  ·have q' : H b = some (.own x) := by
    rcases he with z | z
    ·exact absurd (hbe.trans z) hb
    ·rw [hbe]; exact z
   rw [q] at q'; cases q'
   obtain ⟨v, hv⟩ := heo
   exact ⟨v, by rw [hbe]; exact hv⟩
  ·refine (ok b u q).stay (fun c v hc r => k c v ?_ r) (fun c r => by rw [upd_ne (nown c b r)]; exact r) fun c xs r => by rw [upd_ne (ntup c xs r)]; exact r
   rcases hc with rfl | hc
   ·exact hbe
   ·rintro rfl
    rcases he with z | z
    ·exact nown c b hc z
    ·rw [hc] at z; cases z; exact hb rfl
end
structure Un (fs ex : List Addr) (H H' : Hp) (h h' : Heap) : Prop where
 keep : ∀ b o, h.get? b = some o -> H b = none -> b ∉ fs -> b ∉ ex -> h'.get? b = some o
 slot : ∀ b o, h.get? b = some o -> H b = none -> b ∈ fs -> b ∉ ex -> ∃ sl, h'.get? b = some { o with slots := sl }
 free : ∀ b o, h.get? b = some o -> H b = none -> b ∉ ex -> H' b = none
 there : ∀ b o, h.get? b = some o -> b ∉ ex -> ∃ o', h'.get? b = some o'
 tups : ∀ b xs, H b = some (.tup xs) -> H' b = some (.tup xs)
 frzs : ∀ b o u, H b = some (.frz o u) -> H' b = some (.frz o u)
 tbls : ∀ b ps, H b = some (.tbl ps) -> ∃ more, H' b = some (.tbl (ps ++ more))
section
variable {fs fs' ex ex' : List Addr} {H H1 H2 : Hp} {h h1 h2 h' : Heap} {a x e : Addr} {o : HO}
theorem Un.any (u : Un fs ex H H1 h h1) {b : Addr} {ob : Obj} (q : h.get? b = some ob) (n : H b = none) (hx : b ∉ ex) : ∃ sl, h1.get? b = some { ob with slots := sl } := by
 by_cases hb : b ∈ fs
 ·exact u.slot b ob q n hb hx
 ·exact ⟨ob.slots, u.keep b ob q n hb hx⟩
theorem Un.trans (a : Un fs ex H H1 h h1) (b : Un fs ex H1 H2 h1 h2) : Un fs ex H H2 h h2 where
 keep := fun c ob q n hc hx => b.keep c ob (a.keep c ob q n hc hx) (a.free c ob q n hx) hc hx
 slot := fun c ob q n hc hx => by
  obtain ⟨sl, e1⟩ := a.slot c ob q n hc hx
  obtain ⟨sl', e2⟩ := b.slot c _ e1 (a.free c ob q n hx) hc hx
  exact ⟨sl', e2⟩
 free := fun c ob q n hx => by
  obtain ⟨o', e1⟩ := a.there c ob q hx
  exact b.free c o' e1 (a.free c ob q n hx) hx
 there := fun c ob q hx => by
  obtain ⟨o', e1⟩ := a.there c ob q hx
  exact b.there c o' e1 hx
 tups := fun c xs q => b.tups c xs (a.tups c xs q)
 frzs := fun c ob xs q => b.frzs c ob xs (a.frzs c ob xs q)
 tbls := fun c ps q => by
  obtain ⟨m1, e1⟩ := a.tbls c ps q
  obtain ⟨m2, e2⟩ := b.tbls c _ e1
  exact ⟨m1 ++ m2, by rw [e2, Array.append_assoc]⟩
theorem Un.kept (k : ∀ b u, h.get? b = some u -> h'.get? b = some u) : Un fs ex H H h h' :=
 ⟨fun b ob q _ _ _ => k b ob q, fun b ob q _ _ _ => ⟨ob.slots, k b ob q⟩, fun _ _ _ n _ => n, fun b ob q _ => ⟨ob, k b ob q⟩, fun _ _ q => q, fun _ _ _ q => q, fun _ ps q => ⟨#[], by rw [q]; simp⟩⟩
theorem Un.refl : Un fs ex H H h h := Un.kept fun _ _ q => q
theorem Un.laid (k : ∀ b u, h.get? b = some u -> h'.get? b = some u) (hp : h.objs.size <= a) (hn : H a = none) : Un fs ex H (upd H a o) h h' where
 keep := fun b u q _ _ _ => k b u q
 slot := fun b u q _ _ _ => ⟨u.slots, k b u q⟩
 free := fun b u q n _ => by rw [upd_ne (Nat.ne_of_lt (Nat.lt_of_lt_of_le (Heap.lt_size q) hp))]; exact n
 there := fun b u q _ => ⟨u, k b u q⟩
 tups := fun b xs q => by rw [upd_ne (ne_of_none q hn)]; exact q
 frzs := fun b u xs q => by rw [upd_ne (ne_of_none q hn)]; exact q
 tbls := fun b ps q => ⟨#[], by rw [upd_ne (ne_of_none q hn), q]; simp⟩
theorem Un.write (mu : Mut (H x)) (he : e = x ∨ H e = some (.own x)) (k : ∀ b u, b ≠ e -> h.get? b = some u -> h'.get? b = some u) (heo : ∃ u, h'.get? e = some u) : Un fs ex H (upd H x o) h h' := by
 have hx : ∀ b, H b = none -> b ≠ x := fun b n z => by subst z; rw [n] at mu; exact mu
 have hb : ∀ b, H b = none -> b ≠ e := fun b n z => by
  subst z
  rcases he with r | r
  ·exact hx b n r
  ·rw [n] at r; cases r
 have hm : ∀ b u, H b = some u -> ¬ Mut (some u) -> b ≠ x := fun b u q nm z => by subst z; rw [q] at mu; exact nm mu
 refine ⟨fun b u q n _ _ => k b u (hb b n) q, fun b u q n _ _ => ⟨u.slots, k b u (hb b n) q⟩, fun b u q n _ => by rw [upd_ne (hx b n)]; exact n, fun b u q _ => ?_,
  fun b xs q => by rw [upd_ne (hm b _ q fun z => z)]; exact q, fun b u xs q => by rw [upd_ne (hm b _ q fun z => z)]; exact q, fun b ps q => ⟨#[], by rw [upd_ne (hm b _ q fun z => z), q]; simp⟩⟩
 by_cases hbe : b = e
 ·subst hbe; exact heo
 ·exact ⟨u, k b u hbe q⟩
end
def trk (h : Heap) (H : Hp) : List Addr := (List.range h.objs.size).filter fun a => (H a).isSome
def hidT (h : Heap) (H : Hp) : Heap := PySem.W.hideAll h (trk h H)
theorem hidT_size (h : Heap) (H : Hp) : (hidT h H).objs.size = h.objs.size := PySem.W.hideAll_size _ _
theorem hidT_get {h : Heap} {H : Hp} {b : Addr} {o : Obj} (e : h.get? b = some o) (n : H b = none) : (hidT h H).get? b = some o :=
 PySem.W.hideAll_get _ e fun hm => by
  have q : (H b).isSome = true := (List.mem_filter.mp hm).2
  rw [n] at q; simp at q
theorem of_hidT {h : Heap} {H : Hp} {b : Addr} {o : Obj} (e : (hidT h H).get? b = some o) : h.get? b = some o ∧ H b = none := by
 have e' : h.get? b = some o := PySem.W.of_hideAll (trk h H) e
 refine ⟨e', ?_⟩
 cases q : H b with
 | none => rfl
 | some x =>
  have hm : b ∈ trk h H := List.mem_filter.mpr ⟨List.mem_range.mpr (Heap.lt_size e'), by simp [q]⟩
  have z : (hidT h H).get? b = none := PySem.W.hideAll_none (trk h H) hm
  rw [z] at e; cases e
def allNews (g h : Heap) (L : Addr) : List (Addr × Obj) := (List.range h.objs.size).filterMap fun a => if a = L ∨ (g.get? a).isSome = true then none else (h.get? a).map fun o => (a, o)
def rest (g h : Heap) (L d : Addr) : List (Addr × Obj) := (allNews g h L).filter fun p => decide (p.1 ≠ d)
end L2
namespace L2
open PySem PySem.Spec PyProof.Rows
structure Mod (K : PySem.W.Frag) (mg : Str -> Option Value) (base : Heap) : Prop where
 kin : K.In base
 glob : base.Ns mainGlobals mg
 blt : ∃ mb, base.Ns builtinsNs mb ∧ ∀ x : Str, x ≠ "__name__" -> mb x = bootBuiltins x
 nolimit : base.NoLimit
structure Cx where
 prog : Program
 w : World
 K : PySem.W.Frag
 mg : Str -> Option Value
 base : Heap
 A : Around
 N : List Str
 s₀ : Shared
 H₀ : Hp
 env : Env
 outer : List Env
 stack : List Env
 ex : List Addr
 fn : Str -> Bool
 calm : Bool
 pn : List (Addr × Obj)
 xe : Value -> Shared -> Prop
def frs (l : List Env) : List Addr := l.filterMap (·.frame)
abbrev Cx.fs (X : Cx) : List Addr := frs X.outer
def Vis (sc : Scope) (x : Str) : Prop := sc.names.lookup x = some .local ∨ sc.names.lookup x = some .cell ∨ sc.names.lookup x = some .free
def Loc (sc : Scope) (x : Str) : Prop := sc.names.lookup x = some .local ∨ sc.names.lookup x = some .cell
def Look (env : Env) (h : Heap) (m : Str -> Option Value) (x : Str) (u : Value) : Prop :=
 (env.kindOf x = some .local ∧ m x = some u) ∨ ((env.kindOf x = some .cell ∨ env.kindOf x = some .free) ∧ ∃ c, env.cells.lookup x = some c ∧ h.IsCell c (some u))
structure Cx.Ok (X : Cx) : Prop where
 mod : Mod X.K X.mg X.base
 kind : X.env.scope.kind = .function
 glob : X.env.globals = mainGlobals
 blt : X.env.builtins = builtinsNs
 above : X.s₀.heap.objs.size <= X.env.locals
 inj : ∀ x y c, X.env.cells.lookup x = some c -> X.env.cells.lookup y = some c -> x = y
 has : ∀ x, (X.env.kindOf x = some .cell ∨ X.env.kindOf x = some .free) -> ∃ c, X.env.cells.lookup x = some c
 cab : ∀ x c, X.fn x = true -> X.env.cells.lookup x = some c -> X.s₀.heap.objs.size <= c
 hd : X.calm = true -> X.A.handled = none
 frames : X.A.frames = some X.stack
 stk : X.stack = X.outer ∨ (X.stack = X.env :: X.outer ∧ X.env.frame = some X.env.locals)
 exf : ∀ b ∈ X.ex, b ≠ X.env.locals ∧ ∀ x c, X.env.cells.lookup x = some c -> c ≠ b
 bs : ∀ b o, X.base.get? b = some o -> X.s₀.heap.get? b = some o ∧ X.H₀ b = none
 bsz : X.base.objs.size <= X.s₀.heap.objs.size
 noex : ∀ b o, X.base.get? b = some o -> b ∉ X.ex
 exfs : ∀ b ∈ X.ex, b ∉ X.fs
 funs : X.s₀.heap.FunFrames X.base X.outer
 frf : ∀ b ∈ X.fs, X.H₀ b = none
structure Inv (X : Cx) (pins : List (Addr × Obj)) (σ : List (Option V)) (H : Hp) (s : Shared) : Prop where
 ok : X.Ok
 os : s.os = X.s₀.os
 bare : AllBare s.gens
 base : Un X.fs X.ex X.H₀ H X.s₀.heap s.heap
 loc : ∃ m, s.heap.Ns X.env.locals m ∧ ∀ (i : Nat) (x : Str) (v : V), X.N[i]? = some x -> σ[i]? = some (some v) -> Vis X.env.scope x -> ∃ u, RelV v u ∧ Look X.env s.heap m x u
 cell : ∀ x c, X.env.cells.lookup x = some c -> ∃ v, s.heap.IsCell c v
 free : H X.env.locals = none
 freeC : ∀ x c, X.env.cells.lookup x = some c -> H c = none
 pin : ∀ p ∈ X.pn ++ pins, s.heap.get? p.1 = some p.2 ∧ H p.1 = none ∧ p.1 ≠ X.env.locals ∧ p.1 ∉ X.fs ∧ ∀ v, p.2.data ≠ .cell v
 hok : HOk X.prog X.w H s.heap
 len : σ.length = X.N.length
section
variable {X : Cx} {pins : List (Addr × Obj)} {σ : List (Option V)} {H H' : Hp} {s : Shared} {h' : Heap}
theorem Cx.Ok.nofr (ok : X.Ok) {b : Addr} {o : Obj} (e : X.base.get? b = some o) : b ∉ X.fs := fun hb => by
 have := (ok.funs.mem hb).1
 rw [e] at this; cases this
theorem Inv.bs (I : Inv X pins σ H s) : ∀ b o, X.base.get? b = some o -> s.heap.get? b = some o ∧ H b = none := fun b o e =>
 ⟨I.base.keep b o (I.ok.bs b o e).1 (I.ok.bs b o e).2 (I.ok.nofr e) (I.ok.noex b o e), I.base.free b o (I.ok.bs b o e).1 (I.ok.bs b o e).2 (I.ok.noex b o e)⟩
theorem Inv.bk (I : Inv X pins σ H s) : ∀ b o, X.base.get? b = some o -> s.heap.get? b = some o := fun b o e => (I.bs b o e).1
theorem Inv.mod (I : Inv X pins σ H s) : Mod X.K X.mg X.base := I.ok.mod
theorem Inv.kIn (I : Inv X pins σ H s) : X.K.In s.heap := I.ok.mod.kin.keeps I.bk
theorem Inv.lt (I : Inv X pins σ H s) : X.env.locals < s.heap.objs.size := let ⟨_, hn, _⟩ := I.loc; hn.lt
theorem Inv.sz (I : Inv X pins σ H s) : X.s₀.heap.objs.size <= s.heap.objs.size := Nat.le_trans I.ok.above (Nat.le_of_lt I.lt)
theorem Inv.nofs (I : Inv X pins σ H s) {a : Addr} (h : s.heap.objs.size <= a) : a ∉ X.fs := fun hb => by
 obtain ⟨_, o, ho, _⟩ := I.ok.funs.mem hb
 exact absurd (Nat.lt_of_lt_of_le (Heap.lt_size ho) (Nat.le_trans I.sz h)) (Nat.lt_irrefl _)
theorem Inv.cne (I : Inv X pins σ H s) : ∀ x c, X.env.cells.lookup x = some c -> c ≠ X.env.locals := fun x c e z => by
 obtain ⟨v, o, ho, hd⟩ := I.cell x c e
 obtain ⟨m, ⟨o', es, ep, ho', hd', _⟩, _⟩ := I.loc
 rw [z, ho'] at ho; cases ho; rw [hd'] at hd; cases hd
theorem Inv.funs (I : Inv X pins σ H s) : s.heap.FunFrames X.base X.outer := by
 have all : ∀ (l : List Env), (∀ b ∈ frs l, b ∈ X.fs) -> X.s₀.heap.FunFrames X.base l -> s.heap.FunFrames X.base l := by
  intro l
  induction l with
  | nil => intro _ _; trivial
  | cons env r ih =>
   intro hs hl
   obtain ⟨hk, ⟨L, o, hf, hn, ho, hd⟩, hr⟩ := hl
   have hL : L ∈ X.fs := hs L (by unfold frs; rw [List.filterMap_cons, hf]; exact List.mem_cons_self)
   obtain ⟨sl, e⟩ := I.base.slot L o ho (I.ok.frf L hL) hL fun z => I.ok.exfs L z hL
   exact ⟨hk, ⟨L, _, hf, hn, e, hd⟩, ih (fun b hb => hs b (by unfold frs; rw [List.filterMap_cons, hf]; exact List.mem_cons_of_mem _ hb)) hr⟩
 exact all X.outer (fun _ hb => hb) I.ok.funs
theorem Inv.stack (I : Inv X pins σ H s) : s.heap.FunFrames X.base X.stack := by
 rcases I.ok.stk with e | ⟨e, hf⟩
 ·rw [e]; exact I.funs
 ·rw [e]
  obtain ⟨m, hn, _⟩ := I.loc
  refine .cons (by rw [I.ok.kind]; decide) hf hn ?_ I.funs
  exact Heap.get?_none_of_le (Nat.le_trans I.ok.bsz I.ok.above)
theorem Inv.stkSub (I : Inv X pins σ H s) : ∀ b ∈ frs X.stack, b ∈ X.env.locals :: X.fs := fun b hb => by
 rcases I.ok.stk with e | ⟨e, hf⟩
 ·rw [e] at hb; exact List.mem_cons_of_mem _ hb
 ·rw [e] at hb
  unfold frs at hb
  rw [List.filterMap_cons, hf] at hb
  exact hb
theorem Inv.stkFree (I : Inv X pins σ H s) : ∀ b ∈ frs X.stack, H b = none := fun b hb => by
 rcases List.mem_cons.mp (I.stkSub b hb) with e | hb
 ·rw [e]; exact I.free
 ·obtain ⟨_, o, ho, _⟩ := I.ok.funs.mem hb
  exact I.base.free b o ho (I.ok.frf b hb) fun z => I.ok.exfs b z hb
theorem Inv.step {g' : Array GenState} {t' : Nat} {d' : Drawn} {ch : List Addr} (I : Inv X pins σ H s)
  (hch : ∀ b ∈ ch, (b ∈ X.ex ∨ X.s₀.heap.objs.size <= b) ∧ b ≠ X.env.locals ∧ (∀ x c, X.env.cells.lookup x = some c -> c ≠ b) ∧ ∀ p ∈ X.pn ++ pins, p.1 ≠ b)
  (keep : ∀ b o, b ≠ X.env.locals -> b ∉ X.fs -> b ∉ ch -> s.heap.get? b = some o -> H b = none -> h'.get? b = some o)
  (slot : ∀ b o, b ≠ X.env.locals -> b ∈ X.fs -> b ∉ ch -> s.heap.get? b = some o -> H b = none -> ∃ sl, h'.get? b = some { o with slots := sl }) (free : ∀ b o, b ∉ ch -> s.heap.get? b = some o -> H b = none -> H' b = none)
  (there : ∀ b o, b ∉ ch -> s.heap.get? b = some o -> ∃ o', h'.get? b = some o')
  (tups : ∀ b xs, H b = some (.tup xs) -> H' b = some (.tup xs)) (frzs : ∀ b o u, H b = some (.frz o u) -> H' b = some (.frz o u)) (tbls : ∀ b ps, H b = some (.tbl ps) -> ∃ more, H' b = some (.tbl (ps ++ more)))
  (ns : ∀ m, s.heap.Ns X.env.locals m -> h'.Ns X.env.locals m) (hok : HOk X.prog X.w H' h') (hg : AllBare g') :
  Inv X pins σ H' { s with heap := h', gens := g', drawn := d', toks := t' } := by
 have neL : ∀ b o, X.s₀.heap.get? b = some o -> b ≠ X.env.locals := fun b o e => Nat.ne_of_lt (Nat.lt_of_lt_of_le (Heap.lt_size e) I.ok.above)
 have neC : ∀ b o, X.s₀.heap.get? b = some o -> b ∉ X.ex -> b ∉ ch := fun b o e hx hb => by
  rcases (hch b hb).1 with z | z
  ·exact hx z
  ·exact absurd (Nat.lt_of_lt_of_le (Heap.lt_size e) z) (Nat.lt_irrefl _)
 have cellK : ∀ x c, X.env.cells.lookup x = some c -> ∀ v, s.heap.IsCell c v -> h'.IsCell c v := fun x c e v ⟨o, ho, hd⟩ => by
  have nch : c ∉ ch := fun z => (hch c z).2.2.1 x c e rfl
  by_cases hc : c ∈ X.fs
  ·obtain ⟨sl, q⟩ := slot c o (I.cne x c e) hc nch ho (I.freeC x c e)
   exact ⟨_, q, hd⟩
  ·exact ⟨o, keep c o (I.cne x c e) hc nch ho (I.freeC x c e), hd⟩
 refine ⟨I.ok, I.os, hg, ⟨fun b o e n hb hx => ?_, fun b o e n hb hx => ?_, fun b o e n hx => ?_, fun b o e hx => ?_, fun b xs e => tups b xs (I.base.tups b xs e), fun b o xs e => frzs b o xs (I.base.frzs b o xs e), fun b ps e => ?_⟩, ?_, fun x c e => ?_, ?_, fun x c e => ?_, fun p hp => ?_, hok, I.len⟩
 ·exact keep b o (neL b o e) hb (neC b o e hx) (I.base.keep b o e n hb hx) (I.base.free b o e n hx)
 ·obtain ⟨sl, e1⟩ := I.base.slot b o e n hb hx
  obtain ⟨sl', e2⟩ := slot b _ (neL b o e) hb (neC b o e hx) e1 (I.base.free b o e n hx)
  exact ⟨sl', e2⟩
 ·obtain ⟨o', e1⟩ := I.base.there b o e hx
  exact free b o' (neC b o e hx) e1 (I.base.free b o e n hx)
 ·obtain ⟨o', e1⟩ := I.base.there b o e hx
  exact there b o' (neC b o e hx) e1
 ·obtain ⟨m1, e1⟩ := I.base.tbls b ps e
  obtain ⟨m2, e2⟩ := tbls b _ e1
  exact ⟨m1 ++ m2, by rw [e2, Array.append_assoc]⟩
 ·obtain ⟨m, hn, hl⟩ := I.loc
  refine ⟨m, ns m hn, fun i x v e1 e2 e3 => ?_⟩
  obtain ⟨u, r, l⟩ := hl i x v e1 e2 e3
  refine ⟨u, r, ?_⟩
  rcases l with l | ⟨k, c, e, z⟩
  ·exact .inl l
  ·exact .inr ⟨k, c, e, cellK x c e _ z⟩
 ·obtain ⟨v, z⟩ := I.cell x c e
  exact ⟨v, cellK x c e v z⟩
 ·obtain ⟨m, ⟨o, _, _, ho, _⟩, _⟩ := I.loc
  exact free _ o (fun z => (hch _ z).2.1 rfl) ho I.free
 ·obtain ⟨v, o, ho, hd⟩ := I.cell x c e
  exact free c o (fun z => (hch c z).2.2.1 x c e rfl) ho (I.freeC x c e)
 ·obtain ⟨e, n, ne, nf, d⟩ := I.pin p hp
  have nch : p.1 ∉ ch := fun z => (hch p.1 z).2.2.2 p hp rfl
  exact ⟨keep p.1 p.2 ne nf nch e n, free p.1 p.2 nch e n, ne, nf, d⟩
theorem Inv.un {t' : Nat} (I : Inv X pins σ H s) (u : Un X.fs [] H H' s.heap h') (hok : HOk X.prog X.w H' h') : Inv X pins σ H' { s with heap := h', toks := t' } := by
 obtain ⟨m, ⟨o, es, ep, ho, r⟩, _⟩ := id I.loc
 obtain ⟨sl, hL⟩ := u.any ho I.free (by simp)
 exact I.step (g' := s.gens) (d' := s.drawn) (ch := []) (fun _ z => nomatch z) (fun b o _ hb _ e n => u.keep b o e n hb (by simp)) (fun b o _ hb _ e n => u.slot b o e n hb (by simp)) (fun b o _ e n => u.free b o e n (by simp)) (fun b o _ e => u.there b o e (by simp)) u.tups u.frzs u.tbls (fun m' hm => by
  obtain ⟨o', es', ep', ho', r'⟩ := hm
  rw [ho] at ho'; cases ho'
  exact ⟨_, es', ep', hL, r'⟩) hok I.bare
theorem Inv.call {g' : Array GenState} {t' : Nat} {d' : Drawn} {ch : List Addr} (I : Inv X pins σ H s) (u : Un (frs X.stack) ch H H' s.heap h') (hok : HOk X.prog X.w H' h') (hg : AllBare g')
  (hch : ∀ b ∈ ch, (b ∈ X.ex ∨ X.s₀.heap.objs.size <= b) ∧ b ≠ X.env.locals ∧ (∀ x c, X.env.cells.lookup x = some c -> c ≠ b) ∧ ∀ p ∈ X.pn ++ pins, p.1 ≠ b) :
  Inv X pins σ H' { s with heap := h', gens := g', drawn := d', toks := t' } := by
 obtain ⟨m, ⟨o, es, ep, ho, r⟩, _⟩ := id I.loc
 obtain ⟨sl, hL⟩ := u.any ho I.free fun z => (hch _ z).2.1 rfl
 exact I.step (ch := ch) hch (fun b o hL hb hc e n => u.keep b o e n (fun z => (List.mem_cons.mp (I.stkSub b z)).elim hL hb) hc) (fun b o _ _ hc e n => u.any e n hc) (fun b o hc e n => u.free b o e n hc) (fun b o hc e => u.there b o e hc) u.tups u.frzs u.tbls (fun m' hm => by
  obtain ⟨o', es', ep', ho', r'⟩ := hm
  rw [ho] at ho'; cases ho'
  exact ⟨_, es', ep', hL, r'⟩) hok hg
theorem Inv.turned {t' : Nat} {it : Addr} (I : Inv X pins σ H s) (k : ∀ b o, b ≠ it -> s.heap.get? b = some o -> h'.get? b = some o) (hn : H it = none) (hL : it ≠ X.env.locals)
  (h1 : it ∈ X.ex ∨ X.s₀.heap.objs.size <= it) (h2 : ∀ x c, X.env.cells.lookup x = some c -> c ≠ it) (h3 : ∀ p ∈ X.pn ++ pins, p.1 ≠ it) : Inv X pins σ H { s with heap := h', toks := t' } := by
 have nit : ∀ b u, H b = some u -> b ≠ it := fun b u e z => by rw [z, hn] at e; cases e
 refine I.step (g' := s.gens) (d' := s.drawn) (ch := [it]) (fun b hb => ?_) (fun b o _ _ hc e _ => k b o (fun z => hc (by simp [z])) e) (fun b o _ _ hc e _ => ⟨o.slots, k b o (fun z => hc (by simp [z])) e⟩) (fun _ _ _ _ n => n)
  (fun b o hc e => ⟨o, k b o (fun z => hc (by simp [z])) e⟩) (fun _ _ e => e) (fun _ _ _ e => e) (fun b ps e => ⟨#[], by rw [e]; simp⟩) (fun m hm => ?_) (fun b u e => ?_) I.bare
 ·have e : b = it := by simpa using hb
  subst e
  exact ⟨h1, hL, h2, h3⟩
 ·obtain ⟨o, es, ep, ho, r⟩ := hm
  exact ⟨o, es, ep, k _ o (Ne.symm hL) ho, r⟩
 ·refine (I.hok b u e).stay (fun c v hc q => k c v ?_ q) (fun _ q => q) fun _ _ q => q
  rcases hc with z | z
  ·rw [z]; exact nit b u e
  ·exact nit c _ z
theorem Inv.tok (I : Inv X pins σ H s) (t : Nat) : Inv X pins σ H { s with toks := t } := I.un (h' := s.heap) (t' := t) Un.refl I.hok
theorem Inv.kept {t' : Nat} (I : Inv X pins σ H s) (k : ∀ b u, s.heap.get? b = some u -> h'.get? b = some u) : Inv X pins σ H { s with heap := h', toks := t' } := I.un (Un.kept k) (I.hok.kept k)
theorem Inv.laid {a : Addr} {o : HO} {t' : Nat} (I : Inv X pins σ H s) (k : ∀ b u, s.heap.get? b = some u -> h'.get? b = some u) (hp : s.heap.objs.size <= a) (new : ObjOk X.prog X.w (upd H a o) h' a o) :
  Inv X pins σ (upd H a o) { s with heap := h', toks := t' } := I.un (Un.laid k hp (I.hok.fresh hp)) (I.hok.laid k hp new)
theorem Inv.write {x e : Addr} {o : HO} {t' : Nat} (I : Inv X pins σ H s) (mu : Mut (H x)) (he : e = x ∨ H e = some (.own x)) (k : ∀ b u, b ≠ e -> s.heap.get? b = some u -> h'.get? b = some u) (heo : ∃ u, h'.get? e = some u)
  (new : ObjOk X.prog X.w (upd H x o) h' x o) : Inv X pins σ (upd H x o) { s with heap := h', toks := t' } := I.un (Un.write mu he k heo) (I.hok.write mu he k heo new)
theorem Inv.pins_of {pins' : List (Addr × Obj)} (I : Inv X pins σ H s) (h : ∀ p ∈ pins', s.heap.get? p.1 = some p.2 ∧ H p.1 = none ∧ p.1 ≠ X.env.locals ∧ p.1 ∉ X.fs ∧ ∀ v, p.2.data ≠ .cell v) : Inv X pins' σ H s :=
 ⟨I.ok, I.os, I.bare, I.base, I.loc, I.cell, I.free, I.freeC, fun p hp => (List.mem_append.mp hp).elim (fun z => I.pin p (List.mem_append_left _ z)) (h p), I.hok, I.len⟩
theorem nodup_ix {N : List Str} (hN : N.Nodup) {i j : Nat} {x : Str} (a : N[i]? = some x) (b : N[j]? = some x) : i = j := by
 obtain ⟨h1, e1⟩ := List.getElem?_eq_some_iff.mp a
 obtain ⟨h2, e2⟩ := List.getElem?_eq_some_iff.mp b
 exact (List.getElem_inj hN).mp (e1.trans e2.symm)
theorem store_ok2 {M : Model} {A : Around} {E : Value -> Shared -> Prop} {i : Nat} {x : Str} {v : V} {u : Value} {Q : Unit -> Shared -> Prop} (I : Inv X pins σ H s) (hN : X.N.Nodup) (hi : X.N[i]? = some x) (hx : Loc X.env.scope x) (r : RelV v u)
  (h : ∀ s', Inv X pins (σ.set i (some v)) H s' -> (∃ a, Heap.SameBut a s.heap s'.heap ∧ (a = X.env.locals ∨ X.env.cells.lookup x = some a)) -> Q () s') (hf : X.fn x = true ∨ X.env.scope.names.lookup x = some .local := by first | exact .inl rfl | exact .inr rfl | assumption) : wpAny M A (storeName X.env x u) Q E s := by
 obtain ⟨m, hn, hl⟩ := id I.loc
 have hcls : (X.env.scope.kind == .class || (X.env.scope.kind == .module && X.env.locals != X.env.globals)) = false := by rw [I.ok.kind]; rfl
 have hiσ : i < σ.length := by rw [I.len]; exact (List.getElem?_eq_some_iff.mp hi).1
 have cne := I.cne
 have tracked : ∀ {a : Addr} {h' : Heap}, (∃ o, s.heap.get? a = some o ∧ H a = none) -> Heap.SameBut a s.heap h' -> HOk X.prog X.w H h' := fun {a h'} ha hs b ob e => by
  obtain ⟨_, _, hfree⟩ := ha
  refine (I.hok b ob e).stay (fun c w' hc q => (hs.2 c ?_).trans q) (fun _ q => q) fun _ _ q => q
  rintro rfl
  rcases hc with rfl | hc
  ·rw [hfree] at e; cases e
  ·rw [hfree] at hc; cases hc
 rcases hx with hk | hk
 ·refine wpAny_storeName_local hk hn (fun h' hn' hs => ?_) hcls
  obtain ⟨oL, _, _, hoL, _⟩ := id hn
  refine h _ ⟨I.ok, I.os, I.bare, ⟨fun b o e n hb hx => ?_, fun b o e n hb hx => ?_, I.base.free, fun b o e hx => ?_, I.base.tups, I.base.frzs, I.base.tbls⟩, ⟨_, hn', fun j y v' e1 e2 e3 => ?_⟩, fun y c e => ?_, I.free, I.freeC, fun p hp => ?_, tracked ⟨oL, hoL, I.free⟩ hs, by simpa using I.len⟩ ⟨_, hs, .inl rfl⟩
  ·exact (hs.2 b (Nat.ne_of_lt (Nat.lt_of_lt_of_le (Heap.lt_size e) I.ok.above))).trans (I.base.keep b o e n hb hx)
  ·obtain ⟨sl, e1⟩ := I.base.slot b o e n hb hx
   exact ⟨sl, (hs.2 b (Nat.ne_of_lt (Nat.lt_of_lt_of_le (Heap.lt_size e) I.ok.above))).trans e1⟩
  ·obtain ⟨o', e1⟩ := I.base.there b o e hx
   exact ⟨o', (hs.2 b (Nat.ne_of_lt (Nat.lt_of_lt_of_le (Heap.lt_size e) I.ok.above))).trans e1⟩
  ·by_cases hj : j = i
   ·subst hj
    rw [hi] at e1; cases e1
    rw [List.getElem?_set_self hiσ] at e2
    cases e2
    exact ⟨u, r, .inl ⟨hk, by simp⟩⟩
   ·rw [List.getElem?_set_ne (Ne.symm hj)] at e2
    obtain ⟨u', r', q⟩ := hl j y v' e1 e2 e3
    refine ⟨u', r', ?_⟩
    rcases q with ⟨k, e⟩ | ⟨k, c, e, z⟩
    ·refine .inl ⟨k, ?_⟩
     have : y ≠ x := fun e => hj (nodup_ix hN e1 (e ▸ hi))
     simp [this, e]
    ·exact .inr ⟨k, c, e, z.sameBut hs (cne y c e)⟩
  ·obtain ⟨w', z⟩ := I.cell y c e
   exact ⟨w', z.sameBut hs (cne y c e)⟩
  ·obtain ⟨e, n, ne, nf, d⟩ := I.pin p hp
   exact ⟨(hs.2 p.1 ne).trans e, n, ne, nf, d⟩
 ·have hfn : X.fn x = true := by
   rcases hf with z | z
   ·exact z
   ·rw [z] at hk; cases hk
  obtain ⟨c, hc⟩ := I.ok.has x (.inl hk)
  obtain ⟨w', z⟩ := I.cell x c hc
  refine wpAny_storeName_cell I.ok.kind hk hc z (fun h' hc' hs => ?_)
  obtain ⟨oc, hoc, hocd⟩ := id z
  refine h { s with heap := h' } ⟨I.ok, I.os, I.bare, ⟨fun b o e n hb hx => ?_, fun b o e n hb hx => ?_, I.base.free, fun b o e hx => ?_, I.base.tups, I.base.frzs, I.base.tbls⟩, ⟨m, hn.sameBut hs (Ne.symm (cne x c hc)), fun j y v' e1 e2 e3 => ?_⟩, fun y c' e => ?_, I.free, I.freeC, fun p hp => ?_, tracked ⟨oc, hoc, I.freeC x c hc⟩ hs, by simpa using I.len⟩ ⟨c, hs, .inr hc⟩
  ·exact (hs.2 b (Nat.ne_of_lt (Nat.lt_of_lt_of_le (Heap.lt_size e) (I.ok.cab x c hfn hc)))).trans (I.base.keep b o e n hb hx)
  ·obtain ⟨sl, e1⟩ := I.base.slot b o e n hb hx
   exact ⟨sl, (hs.2 b (Nat.ne_of_lt (Nat.lt_of_lt_of_le (Heap.lt_size e) (I.ok.cab x c hfn hc)))).trans e1⟩
  ·obtain ⟨o', e1⟩ := I.base.there b o e hx
   exact ⟨o', (hs.2 b (Nat.ne_of_lt (Nat.lt_of_lt_of_le (Heap.lt_size e) (I.ok.cab x c hfn hc)))).trans e1⟩
  ·by_cases hj : j = i
   ·subst hj
    rw [hi] at e1; cases e1
    rw [List.getElem?_set_self hiσ] at e2
    cases e2
    exact ⟨u, r, .inr ⟨.inl hk, c, hc, hc'⟩⟩
   ·rw [List.getElem?_set_ne (Ne.symm hj)] at e2
    obtain ⟨u', r', q⟩ := hl j y v' e1 e2 e3
    refine ⟨u', r', ?_⟩
    rcases q with q | ⟨k, c', e, z'⟩
    ·exact .inl q
    ·refine .inr ⟨k, c', e, z'.sameBut hs ?_⟩
     rintro rfl
     exact hj (nodup_ix hN e1 (I.ok.inj _ _ _ e hc ▸ hi))
  ·by_cases hcc : c' = c
   ·subst hcc; exact ⟨_, hc'⟩
   ·obtain ⟨w2, z2⟩ := I.cell y c' e
    exact ⟨w2, z2.sameBut hs hcc⟩
  ·obtain ⟨e, n, ne, nf, d⟩ := I.pin p hp
   refine ⟨(hs.2 p.1 ?_).trans e, n, ne, nf, d⟩
   intro q
   rw [q, hoc] at e
   have q' : oc = p.2 := Option.some.inj e
   exact d w' (by rw [← q']; exact hocd)
theorem store_ok {M : Model} {A : Around} {E : Value -> Shared -> Prop} {i : Nat} {x : Str} {v : V} {u : Value} {Q : Unit -> Shared -> Prop} (I : Inv X pins σ H s) (hN : X.N.Nodup) (hi : X.N[i]? = some x) (hx : Loc X.env.scope x) (r : RelV v u)
  (h : ∀ s', Inv X pins (σ.set i (some v)) H s' -> Q () s') (hf : X.fn x = true ∨ X.env.scope.names.lookup x = some .local := by first | exact .inl rfl | exact .inr rfl | assumption) : wpAny M A (storeName X.env x u) Q E s :=
 store_ok2 I hN hi hx r (fun s' I' _ => h s' I') hf
theorem Inv.call' {s' : Shared} {ch : List Addr} (I : Inv X pins σ H s) (ho : s'.os = s.os) (u : Un (frs X.stack) ch H H' s.heap s'.heap) (hok : HOk X.prog X.w H' s'.heap) (hg : AllBare s'.gens)
  (hch : ∀ b ∈ ch, (b ∈ X.ex ∨ X.s₀.heap.objs.size <= b) ∧ b ≠ X.env.locals ∧ (∀ x c, X.env.cells.lookup x = some c -> c ≠ b) ∧ ∀ p ∈ X.pn ++ pins, p.1 ≠ b) : Inv X pins σ H' s' := by
 obtain ⟨h', g', d', t', o'⟩ := s'
 have e : o' = s.os := ho
 subst e
 exact I.call (g' := g') (t' := t') (d' := d') u hok hg hch
end
abbrev XK := Value -> Option Addr -> Hp -> Prop
abbrev St := List (Option V)
abbrev VK := V -> Hp -> Prop
abbrev TE := St -> Hp -> VK -> Prop
abbrev TT := St -> Hp -> (Bool -> Hp -> Prop) -> Prop
abbrev TA := St -> Hp -> (List V -> Hp -> Prop) -> Prop
structure Ends where
 nx : St -> Hp -> Prop
 rt : VK
 bk : St -> Hp -> Prop := fun _ _ => False
 ct : St -> Hp -> Prop := fun _ _ => False
abbrev TS := Ends -> St -> Hp -> Prop
def EP (X : Cx) (pins : List (Addr × Obj)) (σ : St) (Q : VK) (u : Value) (s' : Shared) : Prop := ∃ v H', Inv X pins σ H' s' ∧ RelV v u ∧ Q v H'
def TP (X : Cx) (pins : List (Addr × Obj)) (σ : St) (Q : Bool -> Hp -> Prop) (b : Bool) (s' : Shared) : Prop := ∃ H', Inv X pins σ H' s' ∧ Q b H'
def AP (X : Cx) (pins : List (Addr × Obj)) (σ : St) (Q : List V -> Hp -> Prop) (us : List Value) (s' : Shared) : Prop := ∃ vs H', Inv X pins σ H' s' ∧ Vals vs us ∧ Q vs H'
def SP (X : Cx) (pins : List (Addr × Obj)) (D : Ends) (f : Flow) (s' : Shared) : Prop :=
 match f with
 | .next => ∃ σ' H', Inv X pins σ' H' s' ∧ D.nx σ' H'
 | .brk => ∃ σ' H', Inv X pins σ' H' s' ∧ D.bk σ' H'
 | .cont => ∃ σ' H', Inv X pins σ' H' s' ∧ D.ct σ' H'
 | .ret u => ∃ v σ' H', Inv X pins σ' H' s' ∧ RelV v u ∧ D.rt v H'
def PE (X : Cx) (e : Expr) (t : TE) : Prop :=
 ∀ (pins : List (Addr × Obj)) (s : Shared) (σ : St) (H : Hp) (Q : VK), Inv X pins σ H s -> t σ H Q -> wpAny (model X.prog X.w) X.A (eval e X.env) (EP X pins σ Q) X.xe s
def PT (X : Cx) (e : Expr) (t : TT) : Prop :=
 ∀ (pins : List (Addr × Obj)) (s : Shared) (σ : St) (H : Hp) (Q : Bool -> Hp -> Prop), Inv X pins σ H s -> t σ H Q -> wpAny (model X.prog X.w) X.A (isTrue e X.env (eval e X.env)) (TP X pins σ Q) X.xe s
def PW (X : Cx) (e : Expr) (t : TT) : Prop :=
 ∀ (whole : Sem Value) (pins : List (Addr × Obj)) (s : Shared) (σ : St) (H : Hp) (Q : Bool -> Hp -> Prop), Inv X pins σ H s -> t σ H Q -> wpAny (model X.prog X.w) X.A (isTrue e X.env whole) (TP X pins σ Q) X.xe s
theorem PW.pt {X : Cx} {e : Expr} {t : TT} (h : PW X e t) : PT X e t := h _
def PA (X : Cx) (es : List Expr) (t : TA) : Prop :=
 ∀ (pos : Pos) (pins : List (Addr × Obj)) (s : Shared) (σ : St) (H : Hp) (Q : List V -> Hp -> Prop), Inv X pins σ H s -> t σ H Q -> wpAny (model X.prog X.w) X.A (spliced (backTo pos (starEach es X.env))) (AP X pins σ Q) X.xe s
def PS (X : Cx) (st : Stmt) (t : TS) : Prop :=
 ∀ (pins : List (Addr × Obj)) (s : Shared) (σ : St) (H : Hp) (D : Ends), Inv X pins σ H s -> t D σ H -> wpAny (model X.prog X.w) X.A (exec st X.env) (SP X pins D) X.xe s
def PSs (X : Cx) (st : List Stmt) (t : TS) : Prop :=
 ∀ (pins : List (Addr × Obj)) (s : Shared) (σ : St) (H : Hp) (D : Ends), Inv X pins σ H s -> t D σ H -> wpAny (model X.prog X.w) X.A (execs st X.env) (SP X pins D) X.xe s
theorem thn {α : Type} {t : Sem α} {Q Q' : α -> Shared -> Prop} {M : Model} {A : Around} {E : Value -> Shared -> Prop} {s : Shared} (h : wpAny M A t Q E s) (hQ : ∀ a s, Q a s -> Q' a s) : wpAny M A t Q' E s := wpAny_mono h hQ fun _ _ x => x
end L2
namespace L2
open PySem PySem.Spec PyProof.Rows
section
variable {X : Cx}
theorem bin {a b : Expr} {ta tb : TE} (ha : PE X a ta) (hb : PE X b tb) {pins : List (Addr × Obj)} {s : Shared} {σ : St} {H : Hp} {R : V -> V -> Hp -> Prop} (I : Inv X pins σ H s) (h : ta σ H fun x H1 => tb σ H1 fun y H2 => R x y H2)
  {α : Type} {Q : α -> Shared -> Prop} {f : Value -> Value -> Sem α}
  (hf : ∀ v u s2 x y H2, Inv X pins σ H2 s2 -> RelV x v -> RelV y u -> R x y H2 -> wpAny (model X.prog X.w) X.A (f v u) Q X.xe s2) :
  wpAny (model X.prog X.w) X.A (eval a X.env) (fun v s₁ => wpAny (model X.prog X.w) X.A (eval b X.env) (fun u s₂ => wpAny (model X.prog X.w) X.A (f v u) Q X.xe s₂) X.xe s₁) X.xe s := by
 refine thn (ha pins s σ H _ I h) fun v s1 ⟨x, H1, I1, r1, q1⟩ => ?_
 refine thn (hb pins s1 σ H1 _ I1 q1) fun u s2 ⟨y, H2, I2, r2, q2⟩ => ?_
 exact hf v u s2 x y H2 I2 r1 r2 q2
def tVar (i : Nat) : TE := fun σ H Q => ∃ v, σ[i]? = some (some v) ∧ Q v H
def tC (v : V) : TE := fun _ H Q => Q v H
theorem pe_var {i : Nat} {x : Str} {pos : Pos} (hN : X.N[i]? = some x) (hv : Vis X.env.scope x) (hd : (x == ("__debug__" : Str)) = false := by decide) (hcd : (x == ("__classdict__" : Str)) = false := by decide) : PE X (.Name x pos) (tVar i) := by
 intro pins s σ H Q I h
 obtain ⟨v, e, h⟩ := h
 obtain ⟨m, hn, hl⟩ := I.loc
 obtain ⟨u, r, l⟩ := hl i x v hN e hv
 have fin : EP X pins σ Q u s := ⟨v, H, I, r, h⟩
 rcases l with ⟨hk, hm⟩ | ⟨hk, c, hc, hcell⟩
 ·exact wpAny_Name (wpAny_loadName_local I.ok.kind hk hn hm fin) hd
 ·rcases hk with hk | hk
  ·exact wpAny_Name (wpAny_loadName_cell I.ok.kind hk hc hcell fin) hd
  ·exact wpAny_Name (wpAny_loadName_free I.ok.kind hk hc hcell fin hcd) hd
theorem pe_int {i j pos} : PE X (.Constant (.int i) j pos) (tC (.int i)) := fun _ _ _ H _ I h => wpAny_Constant_int ⟨.int i, H, I.tok _, ⟨_, rfl⟩, h⟩
theorem pe_bl {b j pos} : PE X (.Constant (.bool b) j pos) (tC (.bl b)) := fun _ _ _ H _ I h => Constant_bool ⟨.bl b, H, I, rfl, h⟩
theorem pe_str {x j pos} : PE X (.Constant (.str x) j pos) (tC (.str x)) := fun _ _ _ H _ I h => Calls.Constant_str ⟨.str x, H, I.tok _, ⟨_, rfl⟩, h⟩
def Gl (X : Cx) (x : Str) : Prop := X.env.kindOf x = some .globalImplicit
theorem ld_glob {E : Value -> Shared -> Prop} {pins : List (Addr × Obj)} {s : Shared} {σ : St} {H : Hp} {x : Str} {u : Value} {pos : Pos} {Q : Value -> Shared -> Prop} (I : Inv X pins σ H s) (hg : Gl X x) (hm : X.mg x = some u) (h : Q u s)
  (hd : (x == ("__debug__" : Str)) = false := by decide) : wpAny (model X.prog X.w) X.A (eval (.Name x pos) X.env) Q E s :=
 Calls.Name_function_global I.ok.kind hg (Calls.loadGlobal_global (by rw [I.ok.glob]; exact I.mod.glob.keeps I.bk) hm h) hd
theorem ld_blt {E : Value -> Shared -> Prop} {pins : List (Addr × Obj)} {s : Shared} {σ : St} {H : Hp} {x : Str} {u : Value} {pos : Pos} {Q : Value -> Shared -> Prop} (I : Inv X pins σ H s) (hg : Gl X x) (hm : X.mg x = none) (hv : bootBuiltins x = some u) (h : Q u s)
  (hn : x ≠ "__name__" := by decide) (hd : (x == ("__debug__" : Str)) = false := by decide) : wpAny (model X.prog X.w) X.A (eval (.Name x pos) X.env) Q E s := by
 obtain ⟨mb, h1, h2⟩ := I.mod.blt
 exact Calls.Name_function_global I.ok.kind hg (Calls.loadGlobal_builtin (by rw [I.ok.glob]; exact I.mod.glob.keeps I.bk) hm (by rw [I.ok.blt]; exact h1.keeps I.bk) ((h2 x hn).trans hv) h) hd
theorem pe_glob {x : Str} {v : V} {u : Value} {pos : Pos} (hg : Gl X x) (hm : X.mg x = some u) (r : RelV v u) (hd : (x == ("__debug__" : Str)) = false := by decide) : PE X (.Name x pos) (tC v) :=
 fun _ _ _ H _ I h => ld_glob I hg hm ⟨v, H, I, r, h⟩ hd
theorem pe_bltn {x : Str} {v : V} {u : Value} {pos : Pos} (hg : Gl X x) (hm : X.mg x = none) (hv : bootBuiltins x = some u) (r : RelV v u) (hn : x ≠ "__name__" := by decide) (hd : (x == ("__debug__" : Str)) = false := by decide) : PE X (.Name x pos) (tC v) :=
 fun _ _ _ H _ I h => ld_blt I hg hm hv ⟨v, H, I, r, h⟩ hn hd
variable {a b : Expr} {ta tb : TE} {pos : Pos}
def PC (X : Cx) (op : CmpOp) (a b : Expr) (t : TE) : Prop :=
 ∀ (pins : List (Addr × Obj)) (s : Shared) (σ : St) (H : Hp) (Q : VK), Inv X pins σ H s -> t σ H Q ->
  wpAny (model X.prog X.w) X.A (eval a X.env) (fun v s₁ => wpAny (model X.prog X.w) X.A (eval b X.env) (fun u s₂ => wpAny (model X.prog X.w) X.A (compareOp op v u) (EP X pins σ Q) X.xe s₂) X.xe s₁) X.xe s
theorem nobehind (b : Expr) {op : CmpOp} (h : op ≠ .In) (h2 : op ≠ .NotIn) : behindInMarks op b = false := by
 have e1 : (op == CmpOp.In) = false := by cases op <;> first | rfl | exact absurd rfl h
 have e2 : (op == CmpOp.NotIn) = false := by cases op <;> first | rfl | exact absurd rfl h2
 cases b <;> simp [behindInMarks, e1, e2]
def tB (t : TE) : TT := fun σ H Q => t σ H fun x H1 => ∃ c, x = .bl c ∧ Q c H1
theorem pt_cmp {op : CmpOp} {t : TE} (h : PC X op a b t) (h1 : behindInMarks op b = false := by first | exact nobehind _ (by decide) (by decide) | rfl) : PT X (.Compare a [op] [b] pos) (tB t) := by
 intro pins s σ H Q I hw
 refine wpAny_isTrue_Compare1 (thn (h pins s σ H _ I hw) fun v s1 h1 => thn h1 fun u s2 h2 => thn h2 fun c s3 ⟨x, H1, I1, r1, q1⟩ => ?_) h1
 obtain ⟨d, rfl, q⟩ := q1
 cases r1
 exact wpAny_truthy_bool ⟨H1, I1, q⟩
theorem pt_val {e : Expr} {t : TE} (h : PE X e t) (he : ∀ whole, isTrue e X.env whole = (do let v ← whole; standAt e.pos; holding [v] (truthy v)) := by intro _; rfl) : PT X e (tB t) := by
 intro pins s σ H Q I hw
 refine isTrue_plain (thn (h pins s σ H _ I hw) fun v s1 ⟨x, H1, I1, r1, q1⟩ => ?_) (he _)
 obtain ⟨d, rfl, q⟩ := q1
 cases r1
 exact wpAny_truthy_bool ⟨H1, I1, q⟩
variable {tA tB' : TT} {rest : List Expr}
def tAnd (t u : TT) : TT := fun σ H Q => t σ H fun c H1 => if c = true then u σ H1 Q else Q false H1
def tOr (t u : TT) : TT := fun σ H Q => t σ H fun c H1 => if c = true then Q true H1 else u σ H1 Q
def tNot (t : TT) : TT := fun σ H Q => t σ H fun c H1 => Q (!c) H1
theorem pw_and1 (ha : PT X a tA) : PW X (.BoolOp .And [a] pos) tA := by
 intro wh pins s σ H Q I h
 refine isTrue_and (thn (ha pins s σ H Q I h) fun c s1 e => ?_)
 cases c with
 | true => exact isTrue_and_nil e
 | false => exact e
theorem pw_or1 (ha : PT X a tA) : PW X (.BoolOp .Or [a] pos) tA := by
 intro wh pins s σ H Q I h
 refine isTrue_or (thn (ha pins s σ H Q I h) fun c s1 e => ?_)
 cases c with
 | false => exact isTrue_or_nil e
 | true => exact e
theorem pw_and (ha : PT X a tA) (hb : PW X (.BoolOp .And (b :: rest) pos) tB') : PW X (.BoolOp .And (a :: b :: rest) pos) (tAnd tA tB') := by
 intro wh pins s σ H Q I h
 refine isTrue_and (thn (ha pins s σ H _ I h) fun c s1 ⟨H1, I1, q1⟩ => ?_)
 cases c with
 | true => exact hb wh pins s1 σ H1 Q I1 q1
 | false => exact ⟨H1, I1, q1⟩
theorem pw_or (ha : PT X a tA) (hb : PW X (.BoolOp .Or (b :: rest) pos) tB') : PW X (.BoolOp .Or (a :: b :: rest) pos) (tOr tA tB') := by
 intro wh pins s σ H Q I h
 refine isTrue_or (thn (ha pins s σ H _ I h) fun c s1 ⟨H1, I1, q1⟩ => ?_)
 cases c with
 | true => exact ⟨H1, I1, q1⟩
 | false => exact hb wh pins s1 σ H1 Q I1 q1
theorem pt_not (ha : PT X a tA) : PT X (.UnaryOp .Not a pos) (tNot tA) := by
 intro pins s σ H Q I h
 exact isTrue_not (ha pins s σ H (fun c H1 => Q (!c) H1) I h)
def tAndV (ta tb : TE) : TE := fun σ H Q => ta σ H fun x H1 => ∃ c, x = .bl c ∧ if c = true then tb σ H1 Q else Q (.bl false) H1
def tOrV (ta tb : TE) : TE := fun σ H Q => ta σ H fun x H1 => ∃ c, x = .bl c ∧ if c = true then Q (.bl true) H1 else tb σ H1 Q
def tNotV (ta : TE) : TE := fun σ H Q => ta σ H fun x H1 => ∃ c, x = .bl c ∧ Q (.bl (!c)) H1
theorem pe_one {op} {t : TE} (h : PE X a t) : PE X (.BoolOp op [a] pos) t := fun pins s σ H Q I hw => BoolOp_one (h pins s σ H Q I hw)
theorem pe_and (ha : PE X a ta) (hb : PE X (.BoolOp .And (b :: rest) pos) tb) : PE X (.BoolOp .And (a :: b :: rest) pos) (tAndV ta tb) := by
 intro pins s σ H Q I h
 refine BoolOp_and (thn (ha pins s σ H _ I h) fun v s1 ⟨x, H1, I1, r1, q1⟩ => ?_)
 obtain ⟨c, rfl, q1⟩ := q1
 cases r1
 refine wpAny_truthy_bool ?_
 cases c with
 | true => exact hb pins s1 σ H1 Q I1 q1
 | false => exact ⟨.bl false, H1, I1, rfl, q1⟩
theorem pe_not (ha : PE X a ta) : PE X (.UnaryOp .Not a pos) (tNotV ta) := by
 intro pins s σ H Q I h
 refine UnaryOp_ (thn (ha pins s σ H _ I h) fun v s1 ⟨x, H1, I1, r1, q1⟩ => ?_)
 obtain ⟨c, rfl, q1⟩ := q1
 cases r1
 exact not_of (wpAny_truthy_bool ⟨.bl (!c), H1, I1, rfl, q1⟩)
def tIf (t : TT) (ta tb : TE) : TE := fun σ H Q => t σ H fun c H1 => if c = true then ta σ H1 Q else tb σ H1 Q
end
end L2
namespace L2
open PySem PySem.Spec PyProof.Rows
def SqL (K : PySem.W.Frag) (H : Hp) (a : Addr) (xs : List V) : Prop :=
 Rd H a (.lst xs) ∨
  ∃ (o : Obj) (its : Array Value) (n : Nat), K.lookup a = some o ∧ o.cls = .type "list" ∧ o.dict = none ∧ o.data = .seq its n ∧ its.size <= sizeLine ∧ Vals xs its.toList
def SqT (K : PySem.W.Frag) (H : Hp) (a : Addr) (xs : List V) : Prop :=
 Rd H a (.tup xs) ∨
  ∃ (o : Obj) (its : Array Value) (n : Nat), K.lookup a = some o ∧ o.cls = .type "tuple" ∧ o.data = .seq its n ∧ its.size <= sizeLine ∧ Vals xs its.toList
def absV : Value -> Option V
 | .none => some .non
 | .bool b => some (.bl b)
 | .int i _ => some (.int i)
 | .str x _ => some (.str x)
 | .bytes b _ => some (.byt b)
 | .float b _ => some (.flt b)
 | .ref a => some (.ref a)
 | .type n => some (.ty n)
 | _ => none
theorem RelV.abs {x : V} {u : Value} (r : RelV x u) : absV u = some x := by
 cases x with
 | non => cases r; rfl
 | bl _ => cases r; rfl
 | int _ => obtain ⟨t, rfl⟩ := r; rfl
 | str _ => obtain ⟨t, rfl⟩ := r; rfl
 | byt _ => obtain ⟨t, rfl⟩ := r; rfl
 | flt _ => obtain ⟨t, rfl⟩ := r; rfl
 | ref _ => cases r; rfl
 | ty _ => cases r; rfl
theorem RelV.inj {x y : V} {u : Value} (r : RelV x u) (q : RelV y u) : x = y := Option.some.inj (r.abs.symm.trans q.abs)
theorem Vals.inj : ∀ {xs ys : List V} {us : List Value}, Vals xs us -> Vals ys us -> xs = ys
 | _, _, _, .nil, .nil => rfl
 | _, _, _, .cons r t, .cons r' t' => by rw [r.inj r', Vals.inj t t']
section
variable {X : Cx} {pins : List (Addr × Obj)} {σ : St} {H : Hp} {s : Shared} {a : Addr} {xs ys : List V}
theorem SqL.of {K : PySem.W.Frag} (h : H a = some (.lst xs)) : SqL K H a xs := .inl (.inl h)
theorem SqT.of {K : PySem.W.Frag} (h : H a = some (.tup xs)) : SqT K H a xs := .inl (.inl h)
theorem Inv.list (I : Inv X pins σ H s) (h : SqL X.K H a xs) : ∃ its : List Value, Vals xs its ∧ PlainL s.heap a its.toArray ∧ xs.length <= sizeLine := by
 rcases h with h | ⟨o, its, n, hk, hc, hd, hs, hz, r⟩
 ·obtain ⟨z, its, n, r, e⟩ := h.ok I.hok
  exact ⟨its, r, ⟨_, n, e, rfl, rfl, rfl⟩, z⟩
 ·refine ⟨its.toList, r, ⟨o, n, I.kIn a o hk, hc, hd, by simpa using hs⟩, ?_⟩
  have e := r.length
  simp only [Array.length_toList] at e
  omega
theorem Inv.tuple (I : Inv X pins σ H s) (h : SqT X.K H a xs) : ∃ its : List Value, Vals xs its ∧ IsTup s.heap a its.toArray ∧ xs.length <= sizeLine := by
 rcases h with h | ⟨o, its, n, hk, hc, hs, hz, r⟩
 ·obtain ⟨z, its, r, p⟩ := h.ok I.hok
  exact ⟨its, r, p, z⟩
 ·refine ⟨its.toList, r, ⟨o, I.kIn a o hk, hc, n, by simpa using hs⟩, ?_⟩
  have e := r.length
  simp only [Array.length_toList] at e
  omega
theorem Inv.list_inj (I : Inv X pins σ H s) (h : SqL X.K H a xs) (h' : SqL X.K H a ys) : xs = ys := by
 obtain ⟨its, r, ⟨o, n, e, _, _, d⟩, _⟩ := I.list h
 obtain ⟨its', r', ⟨o', n', e', _, _, d'⟩, _⟩ := I.list h'
 rw [e] at e'; cases e'
 rw [d] at d'
 injection d' with d1 _
 have : its = its' := by simpa using congrArg Array.toList d1
 subst this
 exact r.inj r'
theorem Inv.tuple_inj (I : Inv X pins σ H s) (h : SqT X.K H a xs) (h' : SqT X.K H a ys) : xs = ys := by
 obtain ⟨its, r, ⟨o, e, _, n, d⟩, _⟩ := I.tuple h
 obtain ⟨its', r', ⟨o', e', _, n', d'⟩, _⟩ := I.tuple h'
 rw [e] at e'; cases e'
 rw [d] at d'
 injection d' with d1 _
 have : its = its' := by simpa using congrArg Array.toList d1
 subst this
 exact r.inj r'
end
abbrev Cx.wish (X : Cx) (E : Value -> Shared -> Prop) : Cx := { X with xe := E }
abbrev Cx.nox (X : Cx) : Cx := X.wish fun _ _ => False
theorem Cx.Ok.wish {X : Cx} (ok : X.Ok) (E : Value -> Shared -> Prop) : (X.wish E).Ok :=
 ⟨ok.mod, ok.kind, ok.glob, ok.blt, ok.above, ok.inj, ok.has, ok.cab, ok.hd, ok.frames, ok.stk, ok.exf, ok.bs, ok.bsz, ok.noex, ok.exfs, ok.funs, ok.frf⟩
theorem Cx.Ok.unwish {X : Cx} {E : Value -> Shared -> Prop} (ok : (X.wish E).Ok) : X.Ok :=
 ⟨ok.mod, ok.kind, ok.glob, ok.blt, ok.above, ok.inj, ok.has, ok.cab, ok.hd, ok.frames, ok.stk, ok.exf, ok.bs, ok.bsz, ok.noex, ok.exfs, ok.funs, ok.frf⟩
section
variable {X : Cx} {pins : List (Addr × Obj)} {σ : St} {H : Hp} {s : Shared} {E : Value -> Shared -> Prop}
theorem Inv.wish (I : Inv X pins σ H s) (E : Value -> Shared -> Prop) : Inv (X.wish E) pins σ H s := ⟨I.ok.wish E, I.os, I.bare, I.base, I.loc, I.cell, I.free, I.freeC, I.pin, I.hok, I.len⟩
theorem Inv.unwish (I : Inv (X.wish E) pins σ H s) : Inv X pins σ H s := ⟨I.ok.unwish, I.os, I.bare, I.base, I.loc, I.cell, I.free, I.freeC, I.pin, I.hok, I.len⟩
theorem SP.unwish {D : Ends} {f : Flow} {s' : Shared} (h : SP (X.wish E) pins D f s') : SP X pins D f s' := by
 cases f with
 | next => obtain ⟨σ', H', I, q⟩ := h; exact ⟨σ', H', I.unwish, q⟩
 | brk => obtain ⟨σ', H', I, q⟩ := h; exact ⟨σ', H', I.unwish, q⟩
 | cont => obtain ⟨σ', H', I, q⟩ := h; exact ⟨σ', H', I.unwish, q⟩
 | ret u => obtain ⟨v, σ', H', I, r, q⟩ := h; exact ⟨v, σ', H', I.unwish, r, q⟩
theorem PT.nox {e : Expr} {t : TT} (h : PT X.nox e t) : PT X e t := fun pins s σ H Q I hw =>
 wpAny_mono (h pins s σ H Q (I.wish _) hw) (fun _ _ ⟨H', I', q⟩ => ⟨H', I'.unwish, q⟩) fun _ _ z => False.elim z
theorem PSs.nox {st : List Stmt} {t : TS} (h : PSs X.nox st t) : PSs X st t := fun pins s σ H D I hw =>
 wpAny_mono (h pins s σ H D (I.wish _) hw) (fun _ _ q => q.unwish) fun _ _ z => False.elim z
end
section
variable {X : Cx} {st : Stmt} {rest : List Stmt} {t u : TS} {e : Expr} {te : TE} {pos : Pos}
def tNext : TS := fun D σ H => D.nx σ H
def tSeq (t u : TS) : TS := fun D σ H => t { D with nx := u D } σ H
theorem pss_nil : PSs X [] tNext := fun _ _ σ H _ I h => wpAny_execs_nil ⟨σ, H, I, h⟩
theorem pss_cons (h1 : PS X st t) (h2 : PSs X rest u) : PSs X (st :: rest) (tSeq t u) := by
 intro pins s σ H D I h
 refine wpAny_execs_cons (thn (h1 pins s σ H { D with nx := u D } I h) fun f s1 q => ?_)
 cases f with
 | next =>
  obtain ⟨σ', H', I', q⟩ := q
  exact h2 pins s1 σ' H' D I' q
 | ret v => exact q
 | brk => exact q
 | cont => exact q
theorem pss_one (h1 : PS X st t) : PSs X [st] t := by
 intro pins s σ H D I h
 refine wpAny_execs_cons (thn (h1 pins s σ H D I h) fun f s1 q => ?_)
 cases f with
 | next => exact wpAny_execs_nil q
 | ret v => exact q
 | brk => exact q
 | cont => exact q
def tBreak : TS := fun D σ H => D.bk σ H
def tCont : TS := fun D σ H => D.ct σ H
theorem Inv.quiet {pins : List (Addr × Obj)} {σ : St} {H : Hp} {s : Shared} (I : Inv X pins σ H s) : interactive X.env = false := by simp [interactive, I.ok.kind]
def tDrop (te : TE) : TS := fun D σ H => te σ H fun _ H1 => D.nx σ H1
theorem ps_expr (he : PE X e te) (hs : swapsWith e none pos.line X.env = pure false := by rfl) : PS X (.Expr e pos) (tDrop te) := by
 intro pins s σ H D I h
 exact wpAny_Expr_any (thn (he pins s σ H _ I h) fun v s1 ⟨x, H1, I1, r1, q1⟩ => ⟨σ, H1, I1, q1⟩) I.quiet hs
def tRet (te : TE) : TS := fun D σ H => te σ H D.rt
theorem ps_ret (he : PE X e te) : PS X (.Return (some e) pos) (tRet te) := by
 intro pins s σ H D I h
 exact wpAny_Return_some (thn (he pins s σ H _ I h) fun v s1 ⟨x, H1, I1, r1, q1⟩ => ⟨x, σ, H1, I1, r1, q1⟩)
def tRetN : TS := fun D _ H => D.rt .non H
def tIfS (c : TT) (t u : TS) : TS := fun D σ H => c σ H fun b H1 => if b = true then t D σ H1 else u D σ H1
theorem ps_if {c : Expr} {a b : List Stmt} {tc : TT} (hc : PT X c tc) (ha : PSs X a t) (hb : PSs X b u) : PS X (.If c a b pos) (tIfS tc t u) := by
 intro pins s σ H D I h
 refine wpAny_If (thn (hc pins s σ H _ I h) fun d s1 ⟨H1, I1, q1⟩ => ?_)
 cases d with
 | true => exact ha pins s1 σ H1 D I1 q1
 | false => exact hb pins s1 σ H1 D I1 q1
def tNever : TS := fun _ _ _ => False
theorem pss_never {sts : List Stmt} : PSs X sts tNever := fun _ _ _ _ _ _ h => h.elim
end
abbrev TG := V -> St -> Hp -> (St -> Hp -> Prop) -> Prop
abbrev TGs := List V -> St -> Hp -> (St -> Hp -> Prop) -> Prop
def PG (X : Cx) (target : Expr) (t : TG) : Prop :=
 ∀ (pins : List (Addr × Obj)) (s : Shared) (σ : St) (H : Hp) (v : V) (u : Value) (Q : St -> Hp -> Prop), Inv X pins σ H s -> RelV v u -> t v σ H Q ->
  wpAny (model X.prog X.w) X.A (assign target X.env u) (fun _ s' => ∃ σ' H', Inv X pins σ' H' s' ∧ Q σ' H') X.xe s
def PGs (X : Cx) (ts : List Expr) (t : TGs) : Prop :=
 ∀ (pins : List (Addr × Obj)) (s : Shared) (σ : St) (H : Hp) (vs : List V) (us : List Value) (Q : St -> Hp -> Prop), Inv X pins σ H s -> Vals vs us -> t vs σ H Q ->
  wpAny (model X.prog X.w) X.A (assignInOrder ((assignEach ts X.env).map (·.2)) us) (fun _ s' => ∃ σ' H', Inv X pins σ' H' s' ∧ Q σ' H') X.xe s
abbrev TSet := V -> V -> V -> Hp -> (Hp -> Prop) -> Prop
abbrev TIp := V -> V -> Hp -> VK -> Prop
def PIp (X : Cx) (op : Operator) (t : TIp) : Prop :=
 ∀ (pins : List (Addr × Obj)) (s : Shared) (σ : St) (H : Hp) (x y : V) (v u : Value) (Q : VK), Inv X pins σ H s -> RelV x v -> RelV y u -> t x y H Q ->
  wpAny (model X.prog X.w) X.A (inplaceOp op v u) (EP X pins σ Q) X.xe s
section
variable {X : Cx} {pos : Pos}
def gName (i : Nat) : TG := fun v σ H Q => Q (σ.set i (some v)) H
theorem pg_name {i : Nat} {x : Str} (hN : X.N.Nodup) (hi : X.N[i]? = some x) (hx : Loc X.env.scope x) (hf : X.fn x = true ∨ X.env.scope.names.lookup x = some .local := by first | exact .inl rfl | exact .inr rfl | assumption) : PG X (.Name x pos) (gName i) := by
 intro pins s σ H v u Q I r h
 exact wpAny_assign_Name (store_ok I hN hi hx r (fun s' I' => ⟨_, H, I', h⟩) hf)
def gNil : TGs := fun vs σ H Q => vs = [] ∧ Q σ H
def gCons (t : TG) (u : TGs) : TGs := fun vs σ H Q => ∃ v r, vs = v :: r ∧ t v σ H fun σ' H' => u r σ' H' Q
theorem pgs_nil : PGs X [] gNil := by
 intro pins s σ H vs us Q I r h
 obtain ⟨e, h⟩ := h
 subst e
 cases r
 exact assignInOrder_nil ⟨σ, H, I, h⟩
theorem pgs_cons {e : Expr} {es : List Expr} {t : TG} {u : TGs} (h1 : PG X e t) (h2 : PGs X es u)
  (hs : (assignEach (e :: es) X.env).map (·.2) = assign e X.env :: (assignEach es X.env).map (·.2) := by rfl) : PGs X (e :: es) (gCons t u) := by
 intro pins s σ H vs us Q I r h
 obtain ⟨v, vr, e1, h⟩ := h
 subst e1
 cases r with
 | cons r rr =>
  rw [hs]
  refine assignInOrder_cons (thn (h1 pins s σ H _ _ _ I r h) fun _ s1 ⟨σ1, H1, I1, q1⟩ => ?_)
  exact h2 pins s1 σ1 H1 _ _ Q I1 rr q1
def gTup (K : PySem.W.Frag) (n : Nat) (t : TGs) : TG := fun v σ H Q => ∃ a xs, v = .ref a ∧ SqT K H a xs ∧ xs.length = n ∧ t xs σ H Q
theorem pg_tup {es : List Expr} {k : Nat} {t : TGs} {n : Nat} (hc : X.calm = true) (h : PGs X es t)
  (hn : (assignEach es X.env).length = n := by rfl) (hst : (assignEach es X.env).findIdx? (·.1) = none := by rfl) : PG X (.Tuple es k pos) (gTup X.K n t) := by
 intro pins s σ H v u Q I r hw
 obtain ⟨a, xs, e1, hq, hl, hw⟩ := hw
 subst e1
 cases r
 obtain ⟨its, rv, ht, hz⟩ := I.tuple hq
 refine assign_Tuple_tuple (I.ok.hd hc) ht (by simp [hn, ← hl, rv.length]) hst fun h' hx => ?_
 have I1 : Inv X pins σ H { s with heap := h' } := I.kept (t' := s.toks) fun b o e => hx b o (Nat.ne_of_lt (Heap.lt_size e)) e
 exact h pins _ σ H xs _ Q I1 (by simpa using rv) hw
def gSub (to ti : TE) (t : TSet) : TG := fun v σ H Q => to σ H fun o H1 => ti σ H1 fun i H2 => t o i v H2 fun H3 => Q σ H3
def tAsg (te : TE) (g : TG) : TS := fun D σ H => te σ H fun x H1 => g x σ H1 D.nx
theorem ps_set {i : Nat} {x : Str} {e : Expr} {te : TE} {pos' : Pos} (hN : X.N.Nodup) (hi : X.N[i]? = some x) (hx : Loc X.env.scope x) (he : PE X e te) (hs : swapsWith e (some (.Name x pos')) pos.line X.env = pure false := by rfl) (hf : X.fn x = true ∨ X.env.scope.names.lookup x = some .local := by first | exact .inl rfl | exact .inr rfl | assumption) :
  PS X (.Assign [.Name x pos'] e pos) (tAsg te (gName i)) := by
 intro pins s σ H D I h
 refine wpAny_Assign_Name (thn (he pins s σ H _ I h) fun v s1 ⟨y, H1, I1, r1, q1⟩ => ?_) hs
 exact store_ok I1 hN hi hx r1 (fun s2 I2 => ⟨_, H1, I2, q1⟩) hf
def tAug (i : Nat) (te : TE) (ti : TIp) : TS := fun D σ H => ∃ x, σ[i]? = some (some x) ∧ te σ H fun y H1 => ti x y H1 fun z H2 => D.nx (σ.set i (some z)) H2
theorem ps_aug {i : Nat} {x : Str} {e : Expr} {te : TE} {op : Operator} {ti : TIp} {pos' : Pos} (hN : X.N.Nodup) (hi : X.N[i]? = some x) (hx : Loc X.env.scope x) (he : PE X e te) (ho : PIp X op ti) (hf : X.fn x = true ∨ X.env.scope.names.lookup x = some .local := by first | exact .inl rfl | exact .inr rfl | assumption) :
  PS X (.AugAssign (.Name x pos') op e pos) (tAug i te ti) := by
 intro pins s σ H D I h
 obtain ⟨v, e1, h⟩ := h
 obtain ⟨m, hn, hl⟩ := I.loc
 have vis : Vis X.env.scope x := by rcases hx with k | k; exact .inl k; exact .inr (.inl k)
 obtain ⟨u, r, l⟩ := hl i x v hi e1 vis
 refine wpAny_AugAssign_Name ?_
 have go : wpAny (model X.prog X.w) X.A (eval e X.env) (fun w s₂ => wpAny (model X.prog X.w) X.A (inplaceOp op u w) (fun r s₃ => wpAny (model X.prog X.w) X.A (storeName X.env x r) (fun _ => SP X pins D .next) X.xe s₃) X.xe s₂) X.xe s := by
  refine thn (he pins s σ H _ I h) fun w s1 ⟨y, H1, I1, r1, q1⟩ => ?_
  refine thn (ho pins s1 σ H1 v y u w _ I1 r r1 q1) fun z s2 ⟨zv, H2, I2, r2, q2⟩ => ?_
  exact store_ok I2 hN hi hx r2 (fun s3 I3 => ⟨_, H2, I3, q2⟩) hf
 rcases l with ⟨hk, hm⟩ | ⟨hk, c, hc, hcell⟩
 ·exact wpAny_loadName_local I.ok.kind hk hn hm go
 ·rcases hk with hk | hk
  ·exact wpAny_loadName_cell I.ok.kind hk hc hcell go
  ·rcases hx with k | k
   ·have : X.env.scope.names.lookup x = some .free := hk
    rw [k] at this; cases this
   ·have : X.env.scope.names.lookup x = some .free := hk
    rw [k] at this; cases this
def tAugS (to ti te : TE) (tget : V -> V -> Hp -> VK -> Prop) (tip : TIp) (tset : TSet) : TS := fun D σ H => to σ H fun o H1 => ti σ H1 fun i H2 => tget o i H2 fun x H3 => te σ H3 fun y H4 => tip x y H4 fun z H5 => tset o i z H5 fun H6 => D.nx σ H6
def ipI (f : Int -> Int -> Int) : TIp := fun x y H Q => ∃ i j, x = .int i ∧ y = .int j ∧ Q (.int (f i j)) H
end
section
variable {X : Cx} {pos : Pos}
def tWhile (c : TT) (tb : TS) : TS := fun D σ H => ∃ W : Nat -> St -> Hp -> Prop, (∃ m, W m σ H) ∧ ∀ m σ H, W m σ H ->
 c σ H fun b H1 => if b = true then ∃ N : St -> Hp -> Prop, (∀ σ' H', N σ' H' -> ∃ m', m' < m ∧ W m' σ' H') ∧ tb { D with nx := N, ct := N, bk := D.nx } σ H1 else D.nx σ H1
theorem ps_while {c : Expr} {body : List Stmt} {tc : TT} {tb : TS} (hp : PassesOwn (model X.prog X.w) X.A X.env X.xe) (hc : PT X c tc) (hb : PSs X body tb) : PS X (.While c body [] pos) (tWhile tc tb) := by
 intro pins s σ H D I h
 obtain ⟨W, ⟨m0, w0⟩, turn⟩ := h
 refine wpAny_While (codeAny_whileLoop (fun n s' => ∃ σ' H', Inv X pins σ' H' s' ∧ W n σ' H') ?_ m0 ⟨σ, H, I, w0⟩)
 rintro n s1 ⟨σ1, H1, I1, w1⟩
 refine wpAny_passesOwn hp (thn (hc pins s1 σ1 H1 _ I1 (turn n σ1 H1 w1)) fun b s2 ⟨H2, I2, q2⟩ => ?_)
 cases b with
 | true =>
  obtain ⟨N, hN, q2⟩ := q2
  rw [if_pos rfl]
  refine wpAny_passesOwn hp (thn (hb pins s2 σ1 H2 _ I2 q2) fun f s3 q3 => ?_)
  cases f with
  | next =>
   obtain ⟨σ3, H3, I3, n3⟩ := q3
   obtain ⟨m', hm, w3⟩ := hN σ3 H3 n3
   exact ⟨m', hm, σ3, H3, I3, w3⟩
  | cont =>
   obtain ⟨σ3, H3, I3, n3⟩ := q3
   obtain ⟨m', hm, w3⟩ := hN σ3 H3 n3
   exact ⟨m', hm, σ3, H3, I3, w3⟩
  | brk => exact q3
  | ret v => exact q3
 | false =>
  rw [if_neg Bool.false_ne_true]
  exact wpAny_execs_nil ⟨σ1, H2, I2, q2⟩
end
structure It where
 go : Nat -> Hp -> Prop
 yld : Nat -> Hp -> V -> Hp -> Prop
 stop : Nat -> Hp -> Prop
def FpOk (X : Cx) (pins : List (Addr × Obj)) (H : Hp) (b : Addr) : Prop :=
 H b = none ∧ b ≠ X.env.locals ∧ b ∉ X.fs ∧ (b ∈ X.ex ∨ X.s₀.heap.objs.size <= b) ∧ (∀ x c, X.env.cells.lookup x = some c -> c ≠ b) ∧ ∀ p ∈ X.pn ++ pins, p.1 ≠ b
theorem Inv.fpOk {X : Cx} {pins : List (Addr × Obj)} {σ : St} {H H' : Hp} {s : Shared} {b : Addr} (I : Inv X pins σ H s) (hb : s.heap.objs.size <= b) (hn : H' b = none) : FpOk X pins H' b := by
 refine ⟨hn, Nat.ne_of_gt (Nat.lt_of_lt_of_le I.lt hb), I.nofs hb, .inr (Nat.le_trans I.sz hb), fun x c e z => ?_, fun p hp z => ?_⟩
 ·obtain ⟨v, q⟩ := I.cell x c e
  exact absurd (Nat.lt_of_lt_of_le q.lt (by rw [z]; exact hb)) (Nat.lt_irrefl _)
 ·exact absurd (Nat.lt_of_lt_of_le (Heap.lt_size (I.pin p hp).1) (by rw [z]; exact hb)) (Nat.lt_irrefl _)
structure Turn (P : Program) (w : World) (K : PySem.W.Frag) (tg : Expr) (J : It) (fp : List Addr) (it : Addr) (tn : Nat -> Heap -> Prop) : Prop where
 mem : it ∈ fp
 obj : ∀ i h, tn i h -> ∀ b ∈ fp, ∃ o, h.get? b = some o ∧ ∀ v, o.data ≠ .cell v
 keep : ∀ i h h', tn i h -> (∀ b ∈ fp, ∀ o, h.get? b = some o -> h'.get? b = some o) -> tn i h'
 item : ∀ (X : Cx), X.prog = P -> X.w = w -> X.K = K -> X.calm = true -> ∀ (i : Nat) (pins : List (Addr × Obj)) (s : Shared) (σ : St) (H : Hp) (E : Value -> Shared -> Prop), Inv X pins σ H s -> (∀ b ∈ fp, FpOk X pins H b) -> tn i s.heap -> J.go i H ->
  wpAny (model P w) X.A (pyNext (.ref it)) (fun r s1 => ∃ u, r = some u ∧
   wpAny (model P w) X.A (letOwnedTupleGo tg (.ref it) u) (fun _ s2 => ∃ x H', Inv X pins σ H' s2 ∧ RelV x u ∧ J.yld i H x H' ∧ tn (i + 1) s2.heap ∧ ∀ b ∈ fp, H' b = none) E s1) E s
 done : ∀ (X : Cx), X.prog = P -> X.w = w -> X.K = K -> X.calm = true -> ∀ (i : Nat) (pins : List (Addr × Obj)) (s : Shared) (σ : St) (H : Hp) (E : Value -> Shared -> Prop), Inv X pins σ H s -> (∀ b ∈ fp, FpOk X pins H b) -> tn i s.heap -> J.stop i H ->
  wpAny (model P w) X.A (pyNext (.ref it)) (fun r s1 => r = none ∧ Inv X pins σ H s1) E s
 self : ∀ (A : Around) (i : Nat) (s : Shared) (Q : Value -> Shared -> Prop) (E : Value -> Shared -> Prop), tn i s.heap -> Q (.ref it) s -> wpAny (model P w) A (pyIter (.ref it)) Q E s
abbrev TI := St -> Hp -> (It -> Hp -> Prop) -> Prop
def PIE (X : Cx) (pins : List (Addr × Obj)) (σ : St) (tg : Expr) (R : It -> Hp -> Prop) (itv : Value) (s2 : Shared) : Prop :=
 ∃ (it : Addr) (fp : List Addr) (tn : Nat -> Heap -> Prop) (J : It) (H' : Hp), itv = .ref it ∧ Inv X pins σ H' s2 ∧ Turn X.prog X.w X.K tg J fp it tn ∧ tn 0 s2.heap ∧ (∀ b ∈ fp, FpOk X pins H' b) ∧ R J H'
def PI (X : Cx) (tg iter : Expr) (wi : TI) : Prop :=
 ∀ (pins : List (Addr × Obj)) (s : Shared) (σ : St) (H : Hp) (R : It -> Hp -> Prop), Inv X pins σ H s -> wi σ H R ->
  wpAny (model X.prog X.w) X.A (eval iter X.env) (fun v s1 => wpAny (model X.prog X.w) X.A (pyIter v) (PIE X pins σ tg R) X.xe s1) X.xe s
theorem go_of {M : Model} {A : Around} {E : Value -> Shared -> Prop} {s : Shared} {tg : Expr} {it : Addr} {u : Value} {o : Obj} {n : String} {vs : Array Value} {Q : Unit -> Shared -> Prop} (ho : s.heap.get? it = some o) (hc : o.cls = .type n) (hd : o.data = .fields vs)
  (hn : ["enumerate", "zip", "dict_itemiterator", "dict_reverseitemiterator", "odict_iterator", "itertools.zip_longest", "itertools.pairwise"].contains n = false) (hQ : Q () s) : wpAny M A (letOwnedTupleGo tg (.ref it) u) Q E s := by
 unfold letOwnedTupleGo
 cases tg <;> first
  | exact wpAny_pure hQ
  |(cases u <;> first
    | exact wpAny_pure hQ
    |(refine wpAny_bind (wpAny_load ho ?_)
      rw [hc, hd]
      show wpAny M A (if (["enumerate", "zip", "dict_itemiterator", "dict_reverseitemiterator", "odict_iterator", "itertools.zip_longest", "itertools.pairwise"].contains n && vs[0]? == some (rawInt _)) = true then _ else _) Q E s
      rw [if_neg (by intro h; rw [hn, Bool.false_and] at h; cases h)]
      exact wpAny_pure hQ))
def Itl (K : PySem.W.Frag) (a : Addr) : It :=
 ⟨fun i H => ∃ xs x, SqL K H a xs ∧ xs[i]? = some x, fun i H x H' => H' = H ∧ ∀ xs, SqL K H a xs -> xs[i]? = some x, fun i H => ∃ xs, SqL K H a xs ∧ xs.length <= i⟩
def Itt (K : PySem.W.Frag) (a : Addr) : It :=
 ⟨fun i H => ∃ xs x, SqT K H a xs ∧ xs[i]? = some x, fun i H x H' => H' = H ∧ ∀ xs, SqT K H a xs -> xs[i]? = some x, fun i H => ∃ xs, SqT K H a xs ∧ xs.length <= i⟩
def Itr (lo : Int) (n : Nat) : It := ⟨fun i _ => i < n, fun i H x H' => H' = H ∧ x = .int (lo + i), fun i _ => n <= i⟩
theorem turn_list {P : Program} {w : World} {K : PySem.W.Frag} {tg : Expr} (a it : Addr) : Turn P w K tg (Itl K a) [it] it (fun i h => h.IsListIter it a i) where
 mem := by simp
 obj := fun i h st b hb => by
  have e : b = it := by simpa using hb
  subst e
  obtain ⟨o, e, c, d⟩ := st
  exact ⟨o, e, fun v z => by rw [d] at z; cases z⟩
 keep := fun i h h' st k => st.at fun o e => k it (by simp) o e
 item := by
  intro X hP hw hK hc i pins s σ H E I hf st hg
  subst hP hw hK
  obtain ⟨xs, x, hq, hx⟩ := hg
  obtain ⟨its, rv, p, hz⟩ := I.list hq
  obtain ⟨u, hu, ru⟩ := rv.get hx
  obtain ⟨f0, f1, f2, f3, f4, f5⟩ := hf it (by simp)
  refine wpAny_pyNext_list_item st p.isList (x := u) (by simpa using hu) fun h' st' sb => ?_
  have I1 : Inv X pins σ H { s with heap := h' } := I.turned (t' := s.toks) (fun b o hb e => (sb.2 b hb).trans e) f0 f1 f3 f4 f5
  obtain ⟨o, e, c, d⟩ := id st'
  exact ⟨u, rfl, go_of (s := { s with heap := h' }) e c d (by decide) ⟨x, H, I1, ru, ⟨rfl, fun ys hy => by rw [I.list_inj hy hq]; exact hx⟩, st', fun b hb => (hf b hb).1⟩⟩
 done := by
  intro X hP hw hK hc i pins s σ H E I hf st hg
  subst hP hw hK
  obtain ⟨xs, hq, hx⟩ := hg
  obtain ⟨its, rv, p, hz⟩ := I.list hq
  obtain ⟨f0, f1, f2, f3, f4, f5⟩ := hf it (by simp)
  have hl := rv.length
  exact wpAny_pyNext_list_end (I.ok.hd hc) st p.isList (by simp; omega) fun h' eb => ⟨rfl, I.turned (t' := s.toks) (fun b o hb e => eb b o hb e) f0 f1 f3 f4 f5⟩
 self := fun _ _ _ _ _ st h => wpAny_pyIter_listiter st h
theorem turn_range {P : Program} {w : World} {K : PySem.W.Frag} {tg : Expr} (it : Addr) (lo : Int) (n : Nat) : Turn P w K tg (Itr lo n) [it] it (fun i h => IsRangeIter h it (lo + (i : Nat) * 1) ((n : Int) - (i : Nat)) 1) where
 mem := by simp
 obj := fun i h st b hb => by
  have e : b = it := by simpa using hb
  subst e
  exact ⟨_, st, fun v z => by
   have z' : Data.fields _ = Data.cell v := z
   cases z'⟩
 keep := fun i h h' st k => k it (by simp) _ st
 item := by
  intro X hP hw hK hc i pins s σ H E I hf st hg
  subst hP hw hK
  obtain ⟨f0, f1, f2, f3, f4, f5⟩ := hf it (by simp)
  have W := Walks.range (prog := X.prog) (w := X.w) (I.ok.hd hc) it lo 1 n
  refine W.item i s _ _ hg st fun v h' tk hv st' kk => ?_
  obtain ⟨t, rfl⟩ := hv
  have I1 : Inv X pins σ H { s with heap := h', toks := tk } := I.turned (fun b o hb e => kk b o (by simpa using hb) e) f0 f1 f3 f4 f5
  refine ⟨_, rfl, go_of (s := { s with heap := h', toks := tk }) (n := "range_iterator") st' rfl rfl (by decide) ⟨.int (lo + i), H, I1, ⟨t, ?_⟩, ⟨rfl, rfl⟩, st', fun b hb => (hf b hb).1⟩⟩
  rw [Int.mul_one]
 done := by
  intro X hP hw hK hc i pins s σ H E I hf st hg
  subst hP hw hK
  obtain ⟨f0, f1, f2, f3, f4, f5⟩ := hf it (by simp)
  exact wpAny_pyNext_range_end (I.ok.hd hc) st (by have : n <= i := hg; omega) fun h' eb => ⟨rfl, I.turned (t' := s.toks) (fun b o hb e => eb b o hb e) f0 f1 f3 f4 f5⟩
 self := fun _ _ _ _ _ st h => wpAny_pyIter_rangeiter st h
end L2
namespace L2
open PySem PySem.Spec PyProof.Rows
section
variable {X : Cx} {tg : Expr}
def iList (K : PySem.W.Frag) (tl : TE) : TI := fun σ H R => tl σ H fun x H1 => ∃ a, x = .ref a ∧ (∃ xs, SqL K H1 a xs) ∧ R (Itl K a) H1
def iTup (K : PySem.W.Frag) (tl : TE) : TI := fun σ H R => tl σ H fun x H1 => ∃ a, x = .ref a ∧ (∃ xs, SqT K H1 a xs) ∧ R (Itt K a) H1
theorem pi_list {l : Expr} {tl : TE} (hl : PE X l tl) : PI X tg l (iList X.K tl) := by
 intro pins s σ H R I h
 refine thn (hl pins s σ H _ I h) fun v s1 ⟨x, H1, I1, r1, q1⟩ => ?_
 obtain ⟨a, e, ⟨xs, hq⟩, q⟩ := q1
 subst e
 cases r1
 obtain ⟨its, rv, p, hz⟩ := I1.list hq
 refine wpAny_pyIter_list p.isList ?_
 refine ⟨s1.heap.objs.size, [s1.heap.objs.size], _, _, H1, rfl, I1.kept (t' := s1.toks) fun b o e => Heap.get?_push_of_some _ e, turn_list a _, ⟨_, Heap.get?_push_size _ rfl, rfl, rfl⟩, fun b hb => ?_, q⟩
 have e : b = s1.heap.objs.size := by simpa using hb
 subst e
 exact I1.fpOk (Nat.le_refl _) (I1.hok.fresh (Nat.le_refl _))
theorem range_it {pins : List (Addr × Obj)} {σ : St} {H : Hp} {s : Shared} {R : It -> Hp -> Prop} {E : Value -> Shared -> Prop} {lo hi : Int} {t u v : Tok} {tk : Nat} (I : Inv X pins σ H s) (h1 : -(2 ^ 62) <= lo) (h2 : lo < 2 ^ 62) (h3 : -(2 ^ 62) <= hi) (h4 : hi < 2 ^ 62)
  (q : R (Itr lo (hi - lo).toNat) H) : wpAny (model X.prog X.w) X.A (pyIter (.ref s.heap.objs.size)) (PIE X pins σ tg R) E { s with heap := s.heap.push { cls := .type "range", data := .fields #[.int lo t, .int hi u, .int 1 v] }, toks := tk } := by
 refine wpAny_pyIter_range (IsRange.new ..) (small_one h1 h2 h3 h4) ?_
 have I1 : Inv X pins σ H { s with heap := s.heap.push { cls := .type "range", data := .fields #[.int lo t, .int hi u, .int 1 v] }, toks := tk } := I.kept fun b o e => Heap.get?_push_of_some _ e
 refine ⟨(s.heap.push { cls := .type "range", data := .fields #[.int lo t, .int hi u, .int 1 v] }).objs.size, [(s.heap.push { cls := .type "range", data := .fields #[.int lo t, .int hi u, .int 1 v] }).objs.size], _, _, H, rfl,
  I1.kept (t' := tk) fun b o e => Heap.get?_push_of_some _ e, turn_range _ lo (hi - lo).toNat, ?_, fun b hb => ?_, q⟩
 ·have e1 : lo + ((0 : Nat) : Int) * 1 = lo := by simp
  have e2 : (((hi - lo).toNat : Nat) : Int) - ((0 : Nat) : Int) = Builtin.Range.rangeSize lo hi 1 := by rw [rangeSize_one]; split <;> omega
  show IsRangeIter _ _ (lo + ((0 : Nat) : Int) * 1) ((((hi - lo).toNat : Nat) : Int) - ((0 : Nat) : Int)) 1
  rw [e1, e2]
  exact Heap.get?_push_size _ rfl
 ·have e : b = (s.heap.push { cls := .type "range", data := .fields #[.int lo t, .int hi u, .int 1 v] }).objs.size := by simpa using hb
  subst e
  exact I1.fpOk (Nat.le_refl _) (I1.hok.fresh (Nat.le_refl _))
def iRng1 (ta : TA) : TI := fun σ H R => ta σ H fun vs H1 => ∃ j : Int, vs = [.int j] ∧ -(2 ^ 62) <= j ∧ j < 2 ^ 62 ∧ R (Itr 0 j.toNat) H1
def iRng2 (ta : TA) : TI := fun σ H R => ta σ H fun vs H1 => ∃ i j : Int, vs = [.int i, .int j] ∧ (-(2 ^ 62) <= i ∧ i < 2 ^ 62 ∧ -(2 ^ 62) <= j ∧ j < 2 ^ 62) ∧ R (Itr i (j - i).toNat) H1
theorem pi_range1 {a : Expr} {ta : TA} {p pos : Pos} (hg : Gl X "range") (hm : X.mg "range" = none) (ha : PA X [a] ta) (hs : starEach [a] X.env = [(false, eval a X.env)] := by rfl) : PI X tg (.Call (.Name "range" p) [a] [] pos) (iRng1 ta) := by
 intro pins s σ H R I h
 refine Call_ (ld_blt I hg hm boot_range (PyProof.Rows.callWith_type1 (thn (ha pos pins s σ H _ I h) fun us s1 ⟨vs, H1, I1, r1, q1⟩ => ?_) hs rfl))
 obtain ⟨j, e, q1, q2, q⟩ := q1
 subst e
 cases r1 with
 | cons r rr =>
  cases rr
  obtain ⟨t, rfl⟩ := r
  exact call_range_1 (range_it I1 (by omega) (by omega) q1 q2 (by simpa using q))
theorem pi_range2 {a b : Expr} {ta : TA} {p pos : Pos} (hg : Gl X "range") (hm : X.mg "range" = none) (ha : PA X [a, b] ta) (hs : starEach [a, b] X.env = [(false, eval a X.env), (false, eval b X.env)] := by rfl) (hs2 : starEach [b] X.env = [(false, eval b X.env)] := by rfl) :
  PI X tg (.Call (.Name "range" p) [a, b] [] pos) (iRng2 ta) := by
 intro pins s σ H R I h
 refine Call_ (ld_blt I hg hm boot_range (PyProof.Rows.callWith_type1 (thn (ha pos pins s σ H _ I h) fun us s1 ⟨vs, H1, I1, r1, q1⟩ => ?_) (by rw [hs, hs2]) (by rw [hs2]; rfl)))
 obtain ⟨i, j, e, ⟨q1, q2, q3, q4⟩, q⟩ := q1
 subst e
 cases r1 with
 | cons r rr =>
  cases rr with
  | cons r' rr =>
   cases rr
   obtain ⟨t, rfl⟩ := r
   obtain ⟨t', rfl⟩ := r'
   exact call_range_2 (range_it I1 q1 q2 q3 q4 q)
def tFor (wi : TI) (g : TG) (tb : TS) : TS := fun D σ H => wi σ H fun J H1 => ∃ W : Nat -> Nat -> St -> Hp -> Prop, (∃ m, W 0 m σ H1) ∧ ∀ i m σ H, W i m σ H ->
 (J.stop i H ∧ D.nx σ H) ∨ (J.go i H ∧ ∃ N : St -> Hp -> Prop, (∀ σ' H', N σ' H' -> ∃ m', m' < m ∧ W (i + 1) m' σ' H') ∧ ∀ x H', J.yld i H x H' -> g x σ H' fun σ2 H2 => tb { D with nx := N, ct := N, bk := D.nx } σ2 H2)
def pinsAt (fp : List Addr) (h : Heap) : List (Addr × Obj) := fp.filterMap fun b => (h.get? b).map fun o => (b, o)
theorem mem_pinsAt {fp : List Addr} {h : Heap} {b : Addr} {o : Obj} (hb : b ∈ fp) (e : h.get? b = some o) : (b, o) ∈ pinsAt fp h := List.mem_filterMap.mpr ⟨b, hb, by rw [e]; rfl⟩
theorem of_pinsAt {fp : List Addr} {h : Heap} {p : Addr × Obj} (hp : p ∈ pinsAt fp h) : p.1 ∈ fp ∧ h.get? p.1 = some p.2 := by
 obtain ⟨b, hb, e⟩ := List.mem_filterMap.mp hp
 cases q : h.get? b with
 | none => rw [q] at e; cases e
 | some o =>
  rw [q] at e
  have e' : (b, o) = p := Option.some.inj e
  subst e'
  exact ⟨hb, q⟩
theorem Inv.pinned {pins : List (Addr × Obj)} {σ : St} {H : Hp} {s : Shared} {fp : List Addr} (I : Inv X pins σ H s) (hf : ∀ b ∈ fp, FpOk X pins H b) (ho : ∀ b ∈ fp, ∃ o, s.heap.get? b = some o ∧ ∀ v, o.data ≠ .cell v) : Inv X (pins ++ pinsAt fp s.heap) σ H s :=
 I.pins_of fun p hp => (List.mem_append.mp hp).elim (fun z => I.pin p (List.mem_append_right _ z)) fun z => by
  obtain ⟨hb, e⟩ := of_pinsAt z
  obtain ⟨f0, f1, f2, _⟩ := hf p.1 hb
  obtain ⟨o, e', d⟩ := ho p.1 hb
  rw [e] at e'; cases e'
  exact ⟨e, f0, f1, f2, d⟩
theorem Inv.unpinned {pins pl : List (Addr × Obj)} {σ : St} {H : Hp} {s : Shared} (I : Inv X (pins ++ pl) σ H s) : Inv X pins σ H s := I.pins_of fun p hp => I.pin p (List.mem_append_right _ (List.mem_append_left _ hp))
theorem ps_for {iter : Expr} {body : List Stmt} {wi : TI} {g : TG} {tb : TS} {pos : Pos} (hp : PassesOwn (model X.prog X.w) X.A X.env X.xe) (hc : X.calm = true) (hi : PI X tg iter wi) (hg : PG X tg g) (hb : PSs X body tb)
  (hs : ∀ x, foldedSetIterable iter X.env x = pure x := by intro _; rfl) : PS X (.For tg iter body [] pos) (tFor wi g tb) := by
 intro pins s σ H D I h
 refine wpAny_For (thn (hi pins s σ H _ I h) fun v s1 h1 => thn h1 fun itv s2 h2 => ?_) hs
 obtain ⟨it, fp, tn, J, H2, e, I2, T, st2, f2, W, ⟨m0, w0⟩, turn⟩ := h2
 subst e
 have stat : ∀ {H' : Hp}, (∀ b ∈ fp, H' b = none) -> ∀ b ∈ fp, FpOk X pins H' b := fun hn b hb => ⟨hn b hb, (f2 b hb).2⟩
 refine codeAny_forLoop_any (fun n s' => ∃ i σ' H', Inv X pins σ' H' s' ∧ tn i s'.heap ∧ (∀ b ∈ fp, H' b = none) ∧ W i n σ' H') ?_ m0 ⟨0, σ, H2, I2, st2, fun b hb => (f2 b hb).1, w0⟩
 rintro n s3 ⟨i, σ3, H3, I3, st3, fr3, w3⟩
 rcases turn i n σ3 H3 w3 with ⟨stop, qn⟩ | ⟨go, N, hN, step⟩
 ·refine wpAny_passesOwn hp (thn (T.done X rfl rfl rfl hc i pins s3 σ3 H3 X.xe I3 (stat fr3) st3 stop) fun r s4 ⟨hr, I4⟩ => ?_)
  subst hr
  exact wpAny_execs_nil ⟨σ3, H3, I4, qn⟩
 ·refine wpAny_passesOwn hp (thn (T.item X rfl rfl rfl hc i pins s3 σ3 H3 X.xe I3 (stat fr3) st3 go) fun r s4 ⟨u, hr, h4⟩ => ?_)
  subst hr
  refine wpAny_passesOwn hp (thn h4 fun _ s5 ⟨x, H5, I5, r5, y5, st5, fr5⟩ => ?_)
  have I5' := I5.pinned (stat fr5) (T.obj _ _ st5)
  refine wpAny_passesOwn hp (thn (hg _ s5 σ3 H5 x u _ I5' r5 (step x H5 y5)) fun _ s6 ⟨σ6, H6, I6, q6⟩ => ?_)
  refine wpAny_passesOwn hp (thn (hb _ s6 σ6 H6 _ I6 q6) fun f s7 q7 => ?_)
  have again : ∀ {σ7 : St} {H7 : Hp}, Inv X (pins ++ pinsAt fp s5.heap) σ7 H7 s7 -> N σ7 H7 -> ∃ m, m < n ∧ ∃ i σ' H', Inv X pins σ' H' s7 ∧ tn i s7.heap ∧ (∀ b ∈ fp, H' b = none) ∧ W i m σ' H' := fun {σ7 H7} I7 n7 => by
   obtain ⟨m', hm, w7⟩ := hN σ7 H7 n7
   refine ⟨m', hm, i + 1, σ7, H7, I7.unpinned, T.keep _ _ _ st5 fun b hb o e => (I7.pin (b, o) (List.mem_append_right _ (List.mem_append_right _ (mem_pinsAt hb e)))).1, fun b hb => ?_, w7⟩
   obtain ⟨o, e, d⟩ := T.obj _ _ st5 b hb
   exact (I7.pin (b, o) (List.mem_append_right _ (List.mem_append_right _ (mem_pinsAt hb e)))).2.1
  cases f with
  | next => obtain ⟨σ7, H7, I7, n7⟩ := q7; exact again I7 n7
  | cont => obtain ⟨σ7, H7, I7, n7⟩ := q7; exact again I7 n7
  | brk => obtain ⟨σ7, H7, I7, q7⟩ := q7; exact ⟨σ7, H7, I7.unpinned, q7⟩
  | ret v => obtain ⟨x7, σ7, H7, I7, r7, q7⟩ := q7; exact ⟨x7, σ7, H7, I7.unpinned, r7, q7⟩
end
theorem for_list {K : PySem.W.Frag} {a : Addr} {xs : List V} {g : TG} {tb : TS} {D : Ends} {σ : St} {H : Hp} (Pv : Nat -> St -> Hp -> Prop) (h0 : Pv 0 σ H) (hl : ∀ i σ H, i <= xs.length -> Pv i σ H -> SqL K H a xs)
  (hs : ∀ i x σ H, xs[i]? = some x -> Pv i σ H -> g x σ H fun σ2 H2 => tb { D with nx := Pv (i + 1), ct := Pv (i + 1), bk := D.nx } σ2 H2) (hd : ∀ σ H, Pv xs.length σ H -> D.nx σ H) :
  ∃ W : Nat -> Nat -> St -> Hp -> Prop, (∃ m, W 0 m σ H) ∧ ∀ i m σ H, W i m σ H ->
   ((Itl K a).stop i H ∧ D.nx σ H) ∨ ((Itl K a).go i H ∧ ∃ N : St -> Hp -> Prop, (∀ σ' H', N σ' H' -> ∃ m', m' < m ∧ W (i + 1) m' σ' H') ∧ ∀ x H', (Itl K a).yld i H x H' -> g x σ H' fun σ2 H2 => tb { D with nx := N, ct := N, bk := D.nx } σ2 H2) := by
 refine ⟨fun i m σ H => m = xs.length - i ∧ i <= xs.length ∧ Pv i σ H, ⟨xs.length, by simp, Nat.zero_le _, h0⟩, ?_⟩
 rintro i m σ H ⟨rfl, hi, p⟩
 have q := hl i σ H hi p
 by_cases hlt : i < xs.length
 ·refine .inr ⟨⟨xs, xs[i], q, by simp [hlt]⟩, Pv (i + 1), fun σ' H' p' => ⟨xs.length - (i + 1), by omega, rfl, hlt, p'⟩, fun x H' y => ?_⟩
  obtain ⟨e, y⟩ := y
  subst e
  exact hs i x σ _ (y xs q) p
 ·have e : i = xs.length := by omega
  subst e
  exact .inl ⟨⟨xs, q, Nat.le_refl _⟩, hd σ H p⟩
theorem for_range {lo : Int} {n : Nat} {g : TG} {tb : TS} {D : Ends} {σ : St} {H : Hp} (Pv : Nat -> St -> Hp -> Prop) (h0 : Pv 0 σ H)
  (hs : ∀ i σ H, i < n -> Pv i σ H -> g (.int (lo + i)) σ H fun σ2 H2 => tb { D with nx := Pv (i + 1), ct := Pv (i + 1), bk := D.nx } σ2 H2) (hd : ∀ σ H, Pv n σ H -> D.nx σ H) :
  ∃ W : Nat -> Nat -> St -> Hp -> Prop, (∃ m, W 0 m σ H) ∧ ∀ i m σ H, W i m σ H ->
   ((Itr lo n).stop i H ∧ D.nx σ H) ∨ ((Itr lo n).go i H ∧ ∃ N : St -> Hp -> Prop, (∀ σ' H', N σ' H' -> ∃ m', m' < m ∧ W (i + 1) m' σ' H') ∧ ∀ x H', (Itr lo n).yld i H x H' -> g x σ H' fun σ2 H2 => tb { D with nx := N, ct := N, bk := D.nx } σ2 H2) := by
 refine ⟨fun i m σ H => m = n - i ∧ i <= n ∧ Pv i σ H, ⟨n, by simp, Nat.zero_le _, h0⟩, ?_⟩
 rintro i m σ H ⟨rfl, hi, p⟩
 by_cases hlt : i < n
 ·refine .inr ⟨hlt, Pv (i + 1), fun σ' H' p' => ⟨n - (i + 1), by omega, rfl, hlt, p'⟩, fun x H' y => ?_⟩
  obtain ⟨e, y⟩ := y
  subst e y
  exact hs i σ _ hlt p
 ·have e : i = n := by omega
  subst e
  exact .inl ⟨Nat.le_refl _, hd σ H p⟩
end L2
namespace L2
open PySem PySem.Spec PyProof.Rows
abbrev R2 := V -> V -> Hp -> VK -> Prop
def OpR (X : Cx) (f : Value -> Value -> Sem Value) (r : R2) : Prop :=
 ∀ (pins : List (Addr × Obj)) (s : Shared) (σ : St) (H : Hp) (x y : V) (v u : Value) (Q : VK), Inv X pins σ H s -> RelV x v -> RelV y u -> r x y H Q ->
  wpAny (model X.prog X.w) X.A (f v u) (EP X pins σ Q) X.xe s
def UnR (X : Cx) (f : Value -> Sem Value) (r : V -> Hp -> VK -> Prop) : Prop :=
 ∀ (pins : List (Addr × Obj)) (s : Shared) (σ : St) (H : Hp) (x : V) (v : Value) (Q : VK), Inv X pins σ H s -> RelV x v -> r x H Q ->
  wpAny (model X.prog X.w) X.A (f v) (EP X pins σ Q) X.xe s
def CallR (X : Cx) (f : Value) (r : List V -> Hp -> VK -> Prop) : Prop :=
 ∀ (pins : List (Addr × Obj)) (s : Shared) (σ : St) (H : Hp) (xs : List V) (us : List Value) (Q : VK), Inv X pins σ H s -> Vals xs us -> r xs H Q ->
  wpAny (model X.prog X.w) X.A (call f us) (EP X pins σ Q) X.xe s
def tOp (r : R2) (ta tb : TE) : TE := fun σ H Q => ta σ H fun x H1 => tb σ H1 fun y H2 => r x y H2 Q
def tUn (r : V -> Hp -> VK -> Prop) (ta : TE) : TE := fun σ H Q => ta σ H fun x H1 => r x H1 Q
def rI (C : Int -> Int -> Prop) (g : Int -> Int -> V) : R2 := fun x y H Q => ∃ i j, x = .int i ∧ y = .int j ∧ C i j ∧ Q (g i j) H
def rI0 (g : Int -> Int -> V) : R2 := fun x y H Q => ∃ i j, x = .int i ∧ y = .int j ∧ Q (g i j) H
def rU (g : Int -> V) : V -> Hp -> VK -> Prop := fun x H Q => ∃ i, x = .int i ∧ Q (g i) H
section
variable {X : Cx} {a b c : Expr} {ta tb tc : TE} {pos : Pos}
theorem binT (ha : PE X a ta) (hb : PE X b tb) {pins : List (Addr × Obj)} {s : Shared} {σ : St} {H : Hp} {R : V -> V -> Hp -> Prop} (I : Inv X pins σ H s)
  (h : ta σ H fun x H1 => tb σ H1 fun y H2 => R x y H2) {Q : Value -> Shared -> Prop} {f : Value -> Value -> Sem Value}
  (hf : ∀ v u s2 x y H2, Inv X pins σ H2 s2 -> RelV x v -> RelV y u -> R x y H2 -> wpAny (model X.prog X.w) X.A (f v u) Q X.xe s2) :
  wpAny (model X.prog X.w) X.A (eval a X.env) (fun v s₁ => wpAny (model X.prog X.w) X.A (eval b X.env) (fun u s₂ => wpAny (model X.prog X.w) X.A (f v u) Q X.xe s₂) X.xe s₁) X.xe s := by
 refine thn (ha pins s σ H _ I h) fun v s1 ⟨x, H1, I1, r1, q1⟩ => ?_
 refine thn (hb pins s1 σ H1 _ I1 q1) fun u s2 ⟨y, H2, I2, r2, q2⟩ => ?_
 exact hf v u s2 x y H2 I2 r1 r2 q2
theorem pe_op {op : Operator} {r : R2} (ho : OpR X (binaryOp op) r) (ha : PE X a ta) (hb : PE X b tb) : PE X (.BinOp a op b pos) (tOp r ta tb) := by
 intro pins s σ H Q I h
 exact wpAny_BinOp (binT ha hb I h fun v u s2 x y H2 I2 rx ry q => ho pins s2 σ H2 x y v u Q I2 rx ry q)
theorem pe_un {op : UnaryOp} {r : V -> Hp -> VK -> Prop} (ho : UnR X (unaryOp op) r) (ha : PE X a ta) : PE X (.UnaryOp op a pos) (tUn r ta) := by
 intro pins s σ H Q I h
 exact UnaryOp_ (thn (ha pins s σ H _ I h) fun v s1 ⟨x, H1, I1, r1, q1⟩ => ho pins s1 σ H1 x v Q I1 r1 q1)
theorem opI {f : Value -> Value -> Sem Value} {C : Int -> Int -> Prop} {g : Int -> Int -> Int}
  (rule : ∀ (i j : Int) (t u : Tok) (s : Shared) (Q : Value -> Shared -> Prop) (E : Value -> Shared -> Prop), C i j -> Q (.int (g i j) s.toks) { s with toks := s.toks + 1 } -> wpAny (model X.prog X.w) X.A (f (.int i t) (.int j u)) Q E s) :
  OpR X f (rI C fun i j => .int (g i j)) := by
 intro pins s σ H x y v u Q I rx ry h
 obtain ⟨i, j, rfl, rfl, hc, q⟩ := h
 obtain ⟨t, rfl⟩ := rx
 obtain ⟨t', rfl⟩ := ry
 exact rule i j t t' s _ _ hc ⟨.int (g i j), H, I.tok _, ⟨_, rfl⟩, q⟩
theorem opI0 {f : Value -> Value -> Sem Value} {g : Int -> Int -> Int}
  (rule : ∀ (i j : Int) (t u : Tok) (s : Shared) (Q : Value -> Shared -> Prop) (E : Value -> Shared -> Prop), Q (.int (g i j) s.toks) { s with toks := s.toks + 1 } -> wpAny (model X.prog X.w) X.A (f (.int i t) (.int j u)) Q E s) :
  OpR X f (rI0 fun i j => .int (g i j)) := by
 intro pins s σ H x y v u Q I rx ry h
 obtain ⟨i, j, rfl, rfl, q⟩ := h
 obtain ⟨t, rfl⟩ := rx
 obtain ⟨t', rfl⟩ := ry
 exact rule i j t t' s _ _ ⟨.int (g i j), H, I.tok _, ⟨_, rfl⟩, q⟩
theorem opB0 {f : Value -> Value -> Sem Value} {g : Int -> Int -> Bool}
  (rule : ∀ (i j : Int) (t u : Tok) (s : Shared) (Q : Value -> Shared -> Prop) (E : Value -> Shared -> Prop), Q (.bool (g i j)) s -> wpAny (model X.prog X.w) X.A (f (.int i t) (.int j u)) Q E s) :
  OpR X f (rI0 fun i j => .bl (g i j)) := by
 intro pins s σ H x y v u Q I rx ry h
 obtain ⟨i, j, rfl, rfl, q⟩ := h
 obtain ⟨t, rfl⟩ := rx
 obtain ⟨t', rfl⟩ := ry
 exact rule i j t t' s _ _ ⟨.bl (g i j), H, I, rfl, q⟩
def CDiv (i j : Int) : Prop := 0 < j ∧ j < 1073741824
def CPow (i j : Int) : Prop := 0 <= j ∧ j <= 1000000 ∧ i.natAbs < 2 ^ 64
def CMul (i j : Int) : Prop := (-(2 ^ 64) < i ∧ i < 2 ^ 64) ∨ (-(2 ^ 64) < j ∧ j < 2 ^ 64)
theorem CMul.ok {i j : Int} (h : CMul i j) : IntMulOk i j := by
 rcases h with ⟨h1, h2⟩ | ⟨h1, h2⟩
 ·exact .of_left (intBits_le_64 h1 h2)
 ·exact .of_right (intBits_le_64 h1 h2)
theorem op_add : OpR X (binaryOp .Add) (rI0 fun i j => .int (i + j)) := opI0 fun _ _ _ _ _ _ _ q => add_int q
theorem op_sub : OpR X (binaryOp .Sub) (rI0 fun i j => .int (i - j)) := opI0 fun _ _ _ _ _ _ _ q => sub_int q
theorem op_mul : OpR X (binaryOp .Mult) (rI CMul fun i j => .int (i * j)) := opI fun _ _ _ _ _ _ _ hc q => mul_int q hc.ok
theorem op_fdiv : OpR X (binaryOp .FloorDiv) (rI CDiv fun i j => .int (i / j)) := opI fun i j _ _ _ _ _ hc q => by
 have h1 : (0 : Int) < j := hc.1
 have h2 : j < 1073741824 := hc.2
 exact floordiv_int (by omega) (by rw [Int.fdiv_eq_ediv_of_nonneg i (by omega)]; exact q) (.inl (PyProof.noPylong_small (by omega)))
theorem op_mod : OpR X (binaryOp .Mod) (rI (fun _ j => 0 < j) fun i j => .int (i % j)) := opI fun i j _ _ _ _ _ hc q => by
 have h1 : (0 : Int) < j := hc
 exact mod_int' (by omega) (by rw [Int.fmod_eq_emod_of_nonneg i (by omega)]; exact q)
theorem op_pow : OpR X (binaryOp .Pow) (rI CPow fun i j => .int (i ^ j.toNat)) := opI fun _ _ _ _ _ _ _ hc q => pow_int_small hc.1 hc.2.1 hc.2.2 q
theorem unI {f : Value -> Sem Value} {g : Int -> Int}
  (rule : ∀ (i : Int) (t : Tok) (s : Shared) (Q : Value -> Shared -> Prop) (E : Value -> Shared -> Prop), Q (.int (g i) s.toks) { s with toks := s.toks + 1 } -> wpAny (model X.prog X.w) X.A (f (.int i t)) Q E s) :
  UnR X f (rU fun i => .int (g i)) := by
 intro pins s σ H x v Q I rx h
 obtain ⟨i, rfl, q⟩ := h
 obtain ⟨t, rfl⟩ := rx
 exact rule i t s _ _ ⟨.int (g i), H, I.tok _, ⟨_, rfl⟩, q⟩
theorem un_neg : UnR X (unaryOp .USub) (rU fun i => .int (-i)) := unI fun _ _ _ _ _ q => neg_int q
end
def scal : V -> V -> Bool
 | .non, .non => true | .non, .int _ => true | .int _, .non => true | .non, .bl _ => true | .bl _, .non => true | .non, .str _ => true | .str _, .non => true
 | .int _, .int _ => true | .bl _, .bl _ => true | .str _, .str _ => true | .byt _, .byt _ => true
 | .int _, .str _ => true | .str _, .int _ => true | .bl _, .str _ => true | .str _, .bl _ => true
 | _, _ => false
def rEq : R2 := fun x y H Q => scal x y = true ∧ Q (.bl (decide (x = y))) H
def rNe : R2 := fun x y H Q => scal x y = true ∧ Q (.bl (!decide (x = y))) H
theorem dec_int {i j : Int} : decide (V.int i = V.int j) = (i == j) := by
 rw [Bool.eq_iff_iff]
 simp
theorem dec_bl {i j : Bool} : decide (V.bl i = V.bl j) = (i == j) := by
 rw [Bool.eq_iff_iff]
 simp
theorem dec_str {i j : Str} : decide (V.str i = V.str j) = (i == j) := by
 rw [Bool.eq_iff_iff]
 simp
theorem dec_byt {i j : Array UInt8} : decide (V.byt i = V.byt j) = (i.toList == j.toList) := by
 rw [Bool.eq_iff_iff]
 cases i
 cases j
 simp
section
variable {X : Cx} {a b c : Expr} {ta tb tc : TE} {pos : Pos}
theorem fin_bl {pins : List (Addr × Obj)} {σ : St} {H : Hp} {s : Shared} {Q : VK} {k k' : Bool} (I : Inv X pins σ H s) (q : Q (.bl k) H) (e : k = k') : EP X pins σ Q (.bool k') s := by
 subst e
 exact ⟨.bl k, H, I, rfl, q⟩
theorem op_eq : OpR X (compareOp .Eq) rEq := by
 intro pins s σ H x y v u Q I rx ry h
 obtain ⟨hs, q⟩ := h
 cases x with
 | non =>
  cases rx
  cases y with
  | non => cases ry; exact PySem.EqNone.eq_none_none (fin_bl I q (by simp))
  | bl j => cases ry; exact PySem.EqNone.eq_none_bool (fin_bl I q (by simp))
  | int j => obtain ⟨t', rfl⟩ := ry; exact PySem.EqNone.eq_none_int (fin_bl I q (by simp))
  | str j => obtain ⟨t', rfl⟩ := ry; exact PySem.EqNone.eq_none_str (fin_bl I q (by simp))
  | _ => exact absurd (show false = true from hs) Bool.false_ne_true
 | bl i =>
  cases rx
  cases y with
  | non => cases ry; exact PySem.EqNone.eq_bool_none (fin_bl I q (by simp))
  | bl j => cases ry; exact eq_bool (fin_bl I q dec_bl)
  | str j => obtain ⟨t', rfl⟩ := ry; exact PySem.EqMixed.eq_bool_str (fin_bl I q (by simp))
  | _ => exact absurd (show false = true from hs) Bool.false_ne_true
 | int i =>
  obtain ⟨t, rfl⟩ := rx
  cases y with
  | non => cases ry; exact PySem.EqNone.eq_int_none (fin_bl I q (by simp))
  | int j => obtain ⟨t', rfl⟩ := ry; exact eq_int (fin_bl I q dec_int)
  | str j => obtain ⟨t', rfl⟩ := ry; exact PySem.EqMixed.eq_int_str (fin_bl I q (by simp))
  | _ => exact absurd (show false = true from hs) Bool.false_ne_true
 | str i =>
  obtain ⟨t, rfl⟩ := rx
  cases y with
  | non => cases ry; exact PySem.EqNone.eq_str_none (fin_bl I q (by simp))
  | bl j => cases ry; exact PySem.EqMixed.eq_str_bool (fin_bl I q (by simp))
  | int j => obtain ⟨t', rfl⟩ := ry; exact PySem.EqMixed.eq_str_int (fin_bl I q (by simp))
  | str j => obtain ⟨t', rfl⟩ := ry; exact eq_str (fin_bl I q dec_str)
  | _ => exact absurd (show false = true from hs) Bool.false_ne_true
 | byt i =>
  obtain ⟨t, rfl⟩ := rx
  cases y with
  | byt j => obtain ⟨t', rfl⟩ := ry; exact PySem.W.eq_bytes (fin_bl I q dec_byt)
  | _ => exact absurd (show false = true from hs) Bool.false_ne_true
 | _ => cases y <;> exact absurd (show false = true from hs) Bool.false_ne_true
theorem op_ne : OpR X (compareOp .NotEq) rNe := by
 intro pins s σ H x y v u Q I rx ry h
 obtain ⟨hs, q⟩ := h
 cases x with
 | non =>
  cases rx
  cases y with
  | non => cases ry; exact PySem.EqNone.ne_none_none (fin_bl I q (by simp))
  | bl j => cases ry; exact PySem.EqNone.ne_none_bool (fin_bl I q (by simp))
  | int j => obtain ⟨t', rfl⟩ := ry; exact PySem.EqNone.ne_none_int (fin_bl I q (by simp))
  | str j => obtain ⟨t', rfl⟩ := ry; exact PySem.EqNone.ne_none_str (fin_bl I q (by simp))
  | _ => exact absurd (show false = true from hs) Bool.false_ne_true
 | bl i =>
  cases rx
  cases y with
  | non => cases ry; exact PySem.EqNone.ne_bool_none (fin_bl I q (by simp))
  | bl j => cases ry; exact ne_bool (fin_bl I q (congrArg not dec_bl))
  | str j => obtain ⟨t', rfl⟩ := ry; exact PySem.EqMixed.ne_bool_str (fin_bl I q (by simp))
  | _ => exact absurd (show false = true from hs) Bool.false_ne_true
 | int i =>
  obtain ⟨t, rfl⟩ := rx
  cases y with
  | non => cases ry; exact PySem.EqNone.ne_int_none (fin_bl I q (by simp))
  | int j => obtain ⟨t', rfl⟩ := ry; exact ne_int (fin_bl I q (congrArg not dec_int))
  | str j => obtain ⟨t', rfl⟩ := ry; exact PySem.EqMixed.ne_int_str (fin_bl I q (by simp))
  | _ => exact absurd (show false = true from hs) Bool.false_ne_true
 | str i =>
  obtain ⟨t, rfl⟩ := rx
  cases y with
  | non => cases ry; exact PySem.EqNone.ne_str_none (fin_bl I q (by simp))
  | bl j => cases ry; exact PySem.EqMixed.ne_str_bool (fin_bl I q (by simp))
  | int j => obtain ⟨t', rfl⟩ := ry; exact PySem.EqMixed.ne_str_int (fin_bl I q (by simp))
  | str j => obtain ⟨t', rfl⟩ := ry; exact ne_str (fin_bl I q (congrArg not dec_str))
  | _ => exact absurd (show false = true from hs) Bool.false_ne_true
 | byt i =>
  obtain ⟨t, rfl⟩ := rx
  cases y with
  | byt j => obtain ⟨t', rfl⟩ := ry; exact PySem.W.ne_bytes (fin_bl I q (congrArg not dec_byt))
  | _ => exact absurd (show false = true from hs) Bool.false_ne_true
 | _ => cases y <;> exact absurd (show false = true from hs) Bool.false_ne_true
theorem op_lt : OpR X (compareOp .Lt) (rI0 fun i j => .bl (decide (i < j))) := opB0 fun _ _ _ _ _ _ _ q => lt_int q
theorem op_le : OpR X (compareOp .LtE) (rI0 fun i j => .bl (decide (i <= j))) := opB0 fun _ _ _ _ _ _ _ q => le_int q
theorem op_gt : OpR X (compareOp .Gt) (rI0 fun i j => .bl (decide (j < i))) := opB0 fun _ _ _ _ _ _ _ q => gt_int q
theorem nomark (b : Expr) {op : CmpOp} (h : op ≠ .In := by decide) (h2 : op ≠ .NotIn := by decide) : behindInMarks op b = false := by
 have e1 : (op == CmpOp.In) = false := by cases op <;> first | rfl | exact absurd rfl h
 have e2 : (op == CmpOp.NotIn) = false := by cases op <;> first | rfl | exact absurd rfl h2
 cases b <;> simp [behindInMarks, e1, e2]
theorem pe_cmpR {op : CmpOp} {r : R2} (ho : OpR X (compareOp op) r) (ha : PE X a ta) (hb : PE X b tb) (hm : behindInMarks op b = false) : PE X (.Compare a [op] [b] pos) (tOp r ta tb) := by
 intro pins s σ H Q I h
 exact wpAny_Compare1 (binT ha hb I h fun v u s2 x y H2 I2 rx ry q => ho pins s2 σ H2 x y v u Q I2 rx ry q) hm
def tTest (t : TE) : TT := fun σ H Q => t σ H fun x H' => ∃ k, x = .bl k ∧ Q k H'
theorem pt_cmpR {op : CmpOp} {r : R2} (ho : OpR X (compareOp op) r) (ha : PE X a ta) (hb : PE X b tb) (hm : behindInMarks op b = false) : PT X (.Compare a [op] [b] pos) (tTest (tOp r ta tb)) := by
 intro pins s σ H Q I h
 refine wpAny_isTrue_Compare1 (thn (ha pins s σ H _ I h) fun v s1 ⟨x, H1, I1, r1, q1⟩ => thn (hb pins s1 σ H1 _ I1 q1) fun u s2 ⟨y, H2, I2, r2, q2⟩ =>
  thn (ho pins s2 σ H2 x y v u _ I2 r1 r2 q2) fun c s3 ⟨z, H3, I3, r3, k, e, q3⟩ => ?_) hm
 subst e
 cases r3
 exact wpAny_truthy_bool ⟨H3, I3, q3⟩
def tChain (r r' : R2) (ta tb tc : TE) : TE := fun σ H Q => ta σ H fun x H1 => tb σ H1 fun y H2 => r x y H2 fun z H3 => ∃ k, z = .bl k ∧
 (if k = true then tc σ H3 fun w' H4 => r' y w' H4 Q else Q (.bl false) H3)
theorem pe_chain {op op' : CmpOp} {r r' : R2} (ho : OpR X (compareOp op) r) (ho' : OpR X (compareOp op') r') (ha : PE X a ta) (hb : PE X b tb) (hc : PE X c tc)
  (hm : lastMarks [op, op'] [b, c] = false := by with_unfolding_all rfl) : PE X (.Compare a [op, op'] [b, c] pos) (tChain r r' ta tb tc) := by
 intro pins s σ H Q I h
 refine Compare_chain (thn (ha pins s σ H _ I h) fun v s1 ⟨x, H1, I1, r1, q1⟩ => chain_link (thn (hb pins s1 σ H1 _ I1 q1) fun u s2 ⟨y, H2, I2, r2, q2⟩ =>
  thn (ho pins s2 σ H2 x y v u _ I2 r1 r2 q2) fun d s3 ⟨z, H3, I3, r3, k, e, q3⟩ => ?_)) hm
 subst e
 cases r3
 refine wpAny_truthy_bool ?_
 cases k with
 | false => exact ite_ff ⟨.bl false, H3, I3, rfl, q3⟩
 | true => exact ite_tt (chain_last (thn (hc pins s3 σ H3 _ I3 q3) fun w' s4 ⟨z', H4, I4, r4, q4⟩ => ho' pins s4 σ H4 y z' u w' Q I4 r2 r4 q4))
theorem line63 : (sizeLine : Nat) < 2 ^ 63 := by rw [sizeLine_eq]; decide
theorem vals1 {x : V} {us : List Value} (r : Vals [x] us) : ∃ u, us = [u] ∧ RelV x u := by
 cases r with
 | cons r1 r2 => cases r2; exact ⟨_, rfl, r1⟩
theorem vals2 {x y : V} {us : List Value} (r : Vals [x, y] us) : ∃ u w', us = [u, w'] ∧ RelV x u ∧ RelV y w' := by
 cases r with
 | cons r1 r2 =>
  cases r2 with
  | cons r3 r4 => cases r4; exact ⟨_, _, rfl, r1, r3⟩
theorem call_abs : CallR X (.builtin "abs") (fun xs H Q => ∃ i, xs = [.int i] ∧ Q (.int (if i < 0 then -i else i)) H) := by
 intro pins s σ H xs us Q I r h
 obtain ⟨i, rfl, q⟩ := h
 obtain ⟨u, rfl, t, rfl⟩ := vals1 r
 exact call_abs_int fun u tk => ⟨.int (if i < 0 then -i else i), H, I.tok _, ⟨_, rfl⟩, q⟩
theorem call_max2 (hc : X.calm = true) : CallR X (.builtin "max") (fun xs H Q => ∃ i j, xs = [.int i, .int j] ∧ Q (.int (if j > i then j else i)) H) := by
 intro pins s σ H xs us Q I r h
 obtain ⟨i, j, rfl, q⟩ := h
 obtain ⟨u, w', rfl, ⟨t, rfl⟩, ⟨t', rfl⟩⟩ := vals2 r
 refine max_two_ints (I.ok.hd hc) fun h' tk k => ⟨_, H, I.kept k, ?_, q⟩
 by_cases hj : j > i
 ·rw [if_pos hj, if_pos hj]; exact ⟨_, rfl⟩
 ·rw [if_neg hj, if_neg hj]; exact ⟨_, rfl⟩
theorem call_min2 (hc : X.calm = true) : CallR X (.builtin "min") (fun xs H Q => ∃ i j, xs = [.int i, .int j] ∧ Q (.int (if j < i then j else i)) H) := by
 intro pins s σ H xs us Q I r h
 obtain ⟨i, j, rfl, q⟩ := h
 obtain ⟨u, w', rfl, ⟨t, rfl⟩, ⟨t', rfl⟩⟩ := vals2 r
 refine min_two_ints (I.ok.hd hc) fun h' tk k => ⟨_, H, I.kept k, ?_, q⟩
 by_cases hj : j < i
 ·rw [if_pos hj, if_pos hj]; exact ⟨_, rfl⟩
 ·rw [if_neg hj, if_neg hj]; exact ⟨_, rfl⟩
end
end L2
namespace L2
open PySem PySem.Spec PyProof.Rows
structure ObjM (h : Heap) (x dx C : Addr) (mA : Str -> Option Value) : Prop where
 obj : h.get? x = some (PySem.W.instObj C dx)
 ns : h.Ns1 dx mA
 ne : dx ≠ x
theorem lookIn_ns {h : Heap} {dx : Addr} {mA : Str -> Option Value} (n : h.Ns1 dx mA) : ∃ od, h.get? dx = some od ∧ ∀ name, PySem.W.lookIn name od = some (mA name) := by
 obtain ⟨o, es, ep, ho, hd, hk, _, hm⟩ := n
 refine ⟨o, ho, fun name => ?_⟩
 have e := hm name
 unfold nsFind findBy at e
 rw [← Array.find?_toList] at e
 unfold PySem.W.lookIn
 rw [hd]
 dsimp only
 split
 ·rename_i y q
  rw [q] at e
  exact congrArg some e
 ·rename_i q
  rw [q] at e
  have a : es.toList.any (·.refKey) = false := by
   rw [List.any_eq_false]
   intro y hy
   obtain ⟨z, t, hkey⟩ := hk y (Array.mem_toList_iff.mp hy)
   simp [DictEntry.refKey, hkey]
  have a' : ¬ es.toList.any (·.refKey) = true := by rw [a]; exact Bool.false_ne_true
  rw [if_neg a']
  exact congrArg some e
theorem ObjM.look {h : Heap} {x dx C : Addr} {mA : Str -> Option Value} (I : ObjM h x dx C mA) : ∃ od, PySem.W.InstAt h x (PySem.W.instObj C dx) C (some od) ∧ ∀ name, PySem.W.lookIn name od = some (mA name) :=
 let ⟨od, ho, hl⟩ := lookIn_ns I.ns
 ⟨od, ⟨I.obj, rfl, rfl, ho⟩, hl⟩
section
variable {prog : Program} {w : World} {A : Around} {E : Value -> Shared -> Prop} {s : Shared} {K : PySem.W.Frag} {x dx C f : Addr} {mA : Str -> Option Value} {name : Str} {v : Value}
theorem get_map {expr : Bool} {Q : Value -> Shared -> Prop} (X : K.In s.heap) (I : ObjM s.heap x dx C mA) (hg : PySem.W.plainGet K C name = true) (hh : PySem.W.hasDictIn K C = true)
  (ha : PySem.W.findIn K (.ref C) name = some none) (hv : mA name = some v) (hv' : PySem.W.handedIn v = true) (h : Q v { s with toks := s.toks + 1 }) :
  wpAny (model prog w) A (getAttr (.ref x) name expr) Q E s := by
 obtain ⟨od, J, hl⟩ := I.look
 exact PySem.W.get_value X J (PySem.W.plainGet_of hg).1 (PySem.W.findObj_own hh ha rfl (by rw [hl, hv])) hv' h
theorem get_meth {pl : Sem Bool} {Q : Value × List Value -> Shared -> Prop} (X : K.In s.heap) (I : ObjM s.heap x dx C mA) (hg : PySem.W.plainGet K C name = true)
  (hf : PySem.W.findIn K (.ref C) name = some (some (.ref f))) (ht : PySem.W.isFn K (.ref f) = true) (hv : mA name = none) (h : Q (.ref f, [.ref x]) s) :
  wpAny (model prog w) A (getMethod (.ref x) name pl) Q E s := by
 obtain ⟨od, J, hl⟩ := I.look
 exact PySem.W.method_fn X J (PySem.W.plainGet_of hg).1 (PySem.W.plainGet_of hg).2 hf (beq_iff_eq.mp ht) (by show (PySem.W.lookIn name od).map (·.isSome) = some false; rw [hl, hv]; rfl) h
theorem set_map {ns : List Str} {Q : Unit -> Shared -> Prop} (X : K.In s.heap) (I : ObjM s.heap x dx C mA)
  (hs : PySem.W.findIn K (.ref C) "__setattr__" = some (some (.builtin "object.__setattr__"))) (hp : PySem.W.plainOver K C = true) (ht : PySem.W.takerIn K C name = some none) (hh : PySem.W.hasDictIn K C = true)
  (hw : PySem.Within mA ns) (hsz : ns.length <= sizeLine)
  (h : ∀ h', ObjM h' x dx C (fun y => if y = name then some v else mA y) -> Heap.SameBut dx s.heap h' -> Q () { s with heap := h', toks := s.toks + 2 }) :
  wpAny (model prog w) A (setAttr (.ref x) name v) Q E s := by
 obtain ⟨od, J, hl⟩ := I.look
 refine PySem.W.set_plain X J hs (PySem.W.osa_open (s := { s with toks := s.toks + 1 }) (r := none) X J hp ht fun b => ?_)
 obtain ⟨cd, hc, hd'⟩ := PySem.W.any_some hh
 have hx : s.heap.get? x = some ⟨.ref C, some dx, .plain, #[]⟩ := I.obj
 refine wpAny_bind (wpAny_pure (wpAny_bind (wpAny_bind (wpAny_loadPart hx (wpAny_bind (PySem.W.Looks.here (s := { s with toks := s.toks + 1 }) (PySem.W.looks_clsIn X hc) ?_))))))
 rw [hd']
 refine wpAny_pure (a := some dx) (wpAny_bind (wpAny_pure (wpAny_bind ?_)))
 refine wpAny_nsSet1 (s := { s with toks := s.toks + 1 }) I.ns fun h' hn2 hs2 => ?_
 obtain ⟨oD, esD, epD, hoD, hdD, hcD⟩ := hn2.count (PySem.Within.cons name v hw)
 refine wpAny_bind (wpAny_lookBehind hoD (by rw [hdD]; exact pastItsLine_dict (Nat.le_trans hcD (by rw [List.length_cons]; omega))) ?_)
 exact wpAny_pure (h _ ⟨(hs2.2 _ (Ne.symm I.ne)).trans I.obj, hn2, I.ne⟩ hs2)
theorem make_map {R : Result -> Shared -> Prop} {vs : List Value} {kw : List (Str × Value)} (X : K.In s.heap) (hm : PySem.W.makesIn K C = true)
  (hi : PySem.W.findIn K (.ref C) "__init__" = some (some (.ref f))) (hf : PySem.W.typeIn K (.ref f) = some (.type "function"))
  (h : codeAny (model prog w) (A.under (.builtin "type.__call__" ⟨.ref C :: vs, kw⟩)) (.call (.ref f) ⟨.ref (s.heap.objs.size + 1) :: vs, kw⟩) (PySem.W.InitBack (s.heap.objs.size + 1) R)
   { s with heap := (s.heap.push PySem.W.emptyDict).push (PySem.W.instObj C s.heap.objs.size) }) :
  codeAny (model prog w) A (.call (.ref C) ⟨vs, kw⟩) R s := by
 obtain ⟨hh, g, d, t, os⟩ := s
 exact PySem.W.make_core (PySem.W.makes_of X hm) (PySem.W.looks_findIn X hi) (fun self => PySem.W.bind_fn X self hf) (.inl rfl) h
end
def putF (f : Str) (v : V) : List (Str × V) -> List (Str × V)
 | [] => [(f, v)]
 |(g, x) :: r => if g = f then (g, v) :: r else (g, x) :: putF f v r
theorem lookup_putF (f g : Str) (v : V) : ∀ fs : List (Str × V), (putF f v fs).lookup g = if g = f then some v else fs.lookup g
 | [] => by
  show List.lookup g [(f, v)] = _
  by_cases h : g = f
  ·have hb : (g == f) = true := beq_iff_eq.mpr h
   simp only [List.lookup, hb, if_pos h]
  ·have hb : (g == f) = false := beq_eq_false_iff_ne.mpr h
   simp only [List.lookup, hb, if_neg h]
 |(k, x) :: r => by
  have ih := lookup_putF f g v r
  rw [show putF f v ((k, x) :: r) = (if k = f then (k, v) :: r else (k, x) :: putF f v r) from rfl]
  by_cases hk : k = f
  ·rw [if_pos hk]
   by_cases h : g = k
   ·have hb : (g == k) = true := beq_iff_eq.mpr h
    simp only [List.lookup, hb, if_pos (h.trans hk)]
   ·have hb : (g == k) = false := beq_eq_false_iff_ne.mpr h
    simp only [List.lookup, hb, if_neg (fun e : g = f => h (e.trans hk.symm))]
  ·rw [if_neg hk]
   by_cases h : g = k
   ·have hb : (g == k) = true := beq_iff_eq.mpr h
    simp only [List.lookup, hb, if_neg (fun e : g = f => hk (h.symm.trans e))]
   ·have hb : (g == k) = false := beq_eq_false_iff_ne.mpr h
    simp only [List.lookup, hb]
    exact ih
theorem keys_putF (f : Str) (v : V) : ∀ fs : List (Str × V), f ∈ (putF f v fs).map (·.1) ∧ ∀ g, g ∈ fs.map (·.1) -> g ∈ (putF f v fs).map (·.1)
 | [] => ⟨by simp [putF], fun g h => by simp at h⟩
 |(k, x) :: r => by
  obtain ⟨i1, i2⟩ := keys_putF f v r
  rw [show putF f v ((k, x) :: r) = (if k = f then (k, v) :: r else (k, x) :: putF f v r) from rfl]
  by_cases hk : k = f
  ·rw [if_pos hk]
   subst hk
   exact ⟨by simp, fun g h => by simpa using h⟩
  ·rw [if_neg hk]
   refine ⟨?_, fun g h => ?_⟩
   ·rw [List.map_cons]
    exact List.mem_cons_of_mem _ i1
   ·rw [List.map_cons] at h ⊢
    rcases List.mem_cons.mp h with e | e
    ·exact List.mem_cons.mpr (.inl e)
    ·exact List.mem_cons_of_mem _ (i2 g e)
theorem length_putF (f : Str) (v : V) : ∀ fs : List (Str × V), (putF f v fs).length <= fs.length + 1
 | [] => by simp [putF]
 |(k, x) :: r => by
  have ih := length_putF f v r
  rw [show putF f v ((k, x) :: r) = (if k = f then (k, v) :: r else (k, x) :: putF f v r) from rfl]
  by_cases hk : k = f
  ·rw [if_pos hk, List.length_cons, List.length_cons]; omega
  ·rw [if_neg hk, List.length_cons, List.length_cons]; omega
theorem RelO.some_of {v : V} {o : Option Value} (r : RelO (some v) o) : ∃ u, o = some u ∧ RelV v u := by
 cases o with
 | none => exact (show False from r).elim
 | some u => exact ⟨u, rfl, r⟩
theorem RelO.none_of {o : Option Value} (r : RelO none o) : o = none := by
 cases o with
 | none => rfl
 | some u => exact (show False from r).elim
theorem handed_of {v : V} {u : Value} (r : RelV v u) : PySem.W.handedIn u = true := by
 cases v with
 | non => cases (show u = Value.none from r); rfl
 | bl b => cases (show u = Value.bool b from r); rfl
 | int i => obtain ⟨t, e⟩ := (show ∃ t, u = Value.int i t from r); cases e; rfl
 | str x => obtain ⟨t, e⟩ := (show ∃ t, u = Value.str x t from r); cases e; rfl
 | byt b => obtain ⟨t, e⟩ := (show ∃ t, u = Value.bytes b t from r); cases e; rfl
 | flt b => obtain ⟨t, e⟩ := (show ∃ t, u = Value.float b t from r); cases e; rfl
 | ref a => cases (show u = Value.ref a from r); rfl
 | ty n => cases (show u = Value.type n from r); rfl
section
variable {P : Program} {w : World} {H H' : Hp} {h h' : Heap} {a C dx : Addr} {fs fs' : List (Str × V)}
theorem ins_get (hok : HOk P w H h) (e : H a = some (.ins C dx fs)) : ∃ mA, ObjM h a dx C mA ∧ (∀ f, RelO (fs.lookup f) (mA f)) ∧ PySem.Within mA (fs.map (·.1)) ∧ fs.length <= 1000 ∧ H dx = some (.own a) := by
 obtain ⟨d, z, ne, ob, mA, n, r, q⟩ := (show ObjOk P w H h a (.ins C dx fs) from hok a _ e)
 exact ⟨mA, ⟨ob, n, ne⟩, r, q, z, d⟩
end
structure Cls (K : PySem.W.Frag) (C : Addr) : Prop where
 pg : PySem.W.plainGet K C Str.empty = true
 hd : PySem.W.hasDictIn K C = true
 po : PySem.W.plainOver K C = true
 sa : PySem.W.findIn K (.ref C) "__setattr__" = some (some (.builtin "object.__setattr__"))
theorem Cls.get {K : PySem.W.Frag} {C : Addr} (c : Cls K C) (f : Str) : PySem.W.plainGet K C f = true := c.pg
def NoAttr (K : PySem.W.Frag) (C : Addr) (f : Str) : Prop := PySem.W.findIn K (.ref C) f = some none
theorem NoAttr.taker {K : PySem.W.Frag} {C : Addr} {f : Str} (n : NoAttr K C f) : PySem.W.takerIn K C f = some none := by
 unfold PySem.W.takerIn
 rw [show PySem.W.findIn K (.ref C) f = some none from n]
 rfl
structure Meth (K : PySem.W.Frag) (C : Addr) (m : Str) (f : Addr) : Prop where
 at_ : PySem.W.findIn K (.ref C) m = some (some (.ref f))
 fn : PySem.W.isFn K (.ref f) = true
 kp : PySem.W.keepIn K (.ref f) = true
section
variable {X : Cx} {pins : List (Addr × Obj)} {σ : St} {H : Hp} {s : Shared} {a C dx : Addr} {fs : List (Str × V)} {f : Str} {v : V} {A : Around} {E : Value -> Shared -> Prop}
theorem getattr_ok {b : Bool} {Q : Value -> Shared -> Prop} (I : Inv X pins σ H s) (e : H a = some (.ins C dx fs)) (c : Cls X.K C) (n : NoAttr X.K C f) (l : fs.lookup f = some v)
  (h : ∀ u s', Inv X pins σ H s' -> RelV v u -> Q u s') : wpAny (model X.prog X.w) A (getAttr (.ref a) f b) Q E s := by
 obtain ⟨mA, O, r, _, _, _⟩ := ins_get I.hok e
 obtain ⟨u, hu, ru⟩ := RelO.some_of (v := v) (o := mA f) (by rw [← l]; exact r f)
 exact get_map I.kIn O (c.get f) c.hd n hu (handed_of ru) (h u _ (I.tok _) ru)
theorem getmeth_ok {m : Str} {g : Addr} {pl : Sem Bool} {Q : Value × List Value -> Shared -> Prop} (I : Inv X pins σ H s) (e : H a = some (.ins C dx fs)) (c : Cls X.K C) (k : Meth X.K C m g) (l : fs.lookup m = none)
  (h : Q (.ref g, [.ref a]) s) : wpAny (model X.prog X.w) A (getMethod (.ref a) m pl) Q E s := by
 obtain ⟨mA, O, r, _, _, _⟩ := ins_get I.hok e
 have hn : mA m = none := RelO.none_of (by rw [← l]; exact r m)
 exact get_meth I.kIn O (c.get m) k.at_ k.fn hn h
theorem setattr_ok {y : V} {u : Value} {Q : Unit -> Shared -> Prop} (I : Inv X pins σ H s) (e : H a = some (.ins C dx fs)) (c : Cls X.K C) (n : NoAttr X.K C f) (hl : fs.length < 1000) (ry : RelV y u)
  (h : ∀ s', Inv X pins σ (upd H a (.ins C dx (putF f y fs))) s' -> Q () s') : wpAny (model X.prog X.w) A (setAttr (.ref a) f u) Q E s := by
 obtain ⟨mA, O, r, wi, _, ho⟩ := ins_get I.hok e
 have hz : (fs.map (·.1)).length <= sizeLine := by rw [List.length_map, sizeLine_eq]; omega
 refine set_map I.kIn O c.sa c.po n.taker c.hd wi hz fun h' O' sb => h _ ?_
 have hd : ∃ o, h'.get? dx = some o := let ⟨o, _, _, e', _⟩ := O'.ns; ⟨o, e'⟩
 refine I.write (x := a) (e := dx) (by rw [e]; exact True.intro) (.inr ho) (fun b q hb z => (sb.2 b hb).trans z) hd ?_
 refine ⟨by rw [upd_ne O.ne]; exact ho, ?_, O.ne, O'.obj, _, O'.ns, fun g => ?_, fun g hg => ?_⟩
 ·have := length_putF f y fs; omega
 ·show RelO ((putF f y fs).lookup g) (if g = f then some u else mA g)
  rw [lookup_putF]
  by_cases q : g = f
  ·rw [if_pos q, if_pos q]; exact ry
  ·rw [if_neg q, if_neg q]; exact r g
 ·by_cases q : g = f
  ·rw [q]; exact (keys_putF f y fs).1
  ·refine (keys_putF f y fs).2 g (wi g fun z => hg ?_)
   show (if g = f then some u else mA g) = none
   rw [if_neg q]; exact z
theorem Inv.made (I : Inv X pins σ H s) : Inv X pins σ (upd (upd H s.heap.objs.size (.own (s.heap.objs.size + 1))) (s.heap.objs.size + 1) (.ins C s.heap.objs.size []))
  { s with heap := (s.heap.push PySem.W.emptyDict).push (PySem.W.instObj C s.heap.objs.size) } := by
 have e1 : (s.heap.push PySem.W.emptyDict).get? s.heap.objs.size = some PySem.W.emptyDict := Heap.get?_push_size s.heap rfl
 have e2 : ((s.heap.push PySem.W.emptyDict).push (PySem.W.instObj C s.heap.objs.size)).get? (s.heap.objs.size + 1) = some (PySem.W.instObj C s.heap.objs.size) := by
  have := Heap.get?_push_size (s.heap.push PySem.W.emptyDict) (o := PySem.W.instObj C s.heap.objs.size) rfl
  rwa [Heap.size_push] at this
 have e3 : (s.heap.push PySem.W.emptyDict).Ns s.heap.objs.size (fun _ => none) := ⟨PySem.W.emptyDict, #[], _, e1, rfl, (fun e he => absurd he (by simp)), fun _ => rfl⟩
 have I1 := I.laid (a := s.heap.objs.size) (o := .own (s.heap.objs.size + 1)) (h' := s.heap.push PySem.W.emptyDict) (t' := s.toks) (fun b u q => Heap.get?_push_of_some _ q) (Nat.le_refl _) ⟨_, e1⟩
 refine I1.laid (a := s.heap.objs.size + 1) (o := .ins C s.heap.objs.size []) (t' := s.toks) (fun b u q => Heap.get?_push_of_some _ q) (Nat.le_of_eq (Heap.size_push _ _)) ?_
 have ne : s.heap.objs.size ≠ s.heap.objs.size + 1 := Nat.ne_of_lt (Nat.lt_succ_self _)
 refine ⟨by rw [upd_ne ne, upd_same], Nat.zero_le _, ne, e2, fun _ => none, (Heap.Ns1.of_empty e3).at fun o q => Heap.get?_push_of_some _ q, fun _ => True.intro, fun y hy => absurd rfl hy⟩
theorem attr_of {prog : Program} {w : World} {env : Env} {e : Expr} {f : Str} {pos : Pos} {s : Shared} {Q : Value -> Shared -> Prop} (hb : attributeBase e f env (eval e env) = eval e env)
  (h : wpAny (model prog w) A (eval e env) (fun o s₁ => wpAny (model prog w) A (getAttr o f true) Q E s₁) E s) : wpAny (model prog w) A (eval (.Attribute e f pos) env) Q E s :=
 Attribute_any_ h (by rw [arm_eval_Attribute, hb])
end
def tFld (K : PySem.W.Frag) (ta : TE) (f : Str) : TE := fun σ H Q => ta σ H fun x H1 => ∃ a C dx fs v, x = .ref a ∧ H1 a = some (.ins C dx fs) ∧ Cls K C ∧ NoAttr K C f ∧ fs.lookup f = some v ∧ Q v H1
def sFld (K : PySem.W.Frag) (ta tv : TE) (f : Str) : TS := fun D σ H => tv σ H fun y H1 => ta σ H1 fun x H2 => ∃ a C dx fs, x = .ref a ∧ H2 a = some (.ins C dx fs) ∧ Cls K C ∧ NoAttr K C f ∧ fs.length < 1000 ∧
 D.nx σ (upd H2 a (.ins C dx (putF f y fs)))
section
variable {X : Cx} {o e value : Expr} {f : Str} {pos pos' tpos : Pos} {ta tv : TE}
theorem pe_fld (he : PE X e ta) (hb : attributeBase e f X.env (eval e X.env) = eval e X.env) : PE X (.Attribute e f pos) (tFld X.K ta f) := by
 intro pins s σ H Q I h
 refine attr_of hb (thn (he pins s σ H _ I h) fun u s1 ⟨x, H1, I1, rx, a, C, dx, fs, v, ex, ea, c, n, l, q⟩ => ?_)
 subst ex
 obtain rfl : u = Value.ref a := rx
 exact getattr_ok I1 ea c n l fun u' s2 I2 ru => ⟨v, H1, I2, ru, q⟩
theorem ps_fld (ha : PE X o ta) (hv : PE X value tv) (hs : swapsWith value (some (.Attribute o f pos')) pos.line X.env = pure false) : PS X (.Assign [.Attribute o f pos'] value pos) (sFld X.K ta tv f) := by
 intro pins s σ H D I h
 refine plainObj_wpAny_Assign_Attribute (thn (hv pins s σ H _ I h) fun u s1 ⟨y, H1, I1, ry, q⟩ => thn (ha pins s1 σ H1 _ I1 q) fun ov s2 ⟨x, H2, I2, rx, a, C, dx, fs, ex, ea, c, n, l, q2⟩ => ?_) hs
 subst ex
 obtain rfl : ov = Value.ref a := rx
 exact setattr_ok I2 ea c n l ry fun s3 I3 => ⟨σ, _, I3, q2⟩
theorem methcall_of {pl : Sem Bool} {m : Str} {apos : Pos} {args : List Expr} {pins : List (Addr × Obj)} {s : Shared} {σ : St} {H : Hp} {Q : Value -> Shared -> Prop} {te : TE} (he : PE X e te) (I : Inv X pins σ H s)
  (h : te σ H fun x H1 => ∃ a C dx fs g, x = .ref a ∧ H1 a = some (.ins C dx fs) ∧ Cls X.K C ∧ Meth X.K C m g ∧ fs.lookup m = none ∧
   ∀ s1, Inv X pins σ H1 s1 -> wpAny (model X.prog X.w) X.A (callWith pos (.ref g) [.ref a] (backTo pos (starEach args X.env)) (backToKw pos (keywordEach [] X.env))) Q X.xe s1)
  (ht : eval (.Call (.Attribute e m apos) args [] pos) X.env = (do
   let ov ← eval e X.env
   standAt apos.atName
   let (f, first) ← holding [ov] (getMethod ov m pl)
   callWith pos f first (backTo pos (starEach args X.env)) (backToKw pos (keywordEach [] X.env)))) :
  wpAny (model X.prog X.w) X.A (eval (.Call (.Attribute e m apos) args [] pos) X.env) Q X.xe s := by
 refine PySem.W.methodCall_KW (pl := pl) (thn (he pins s σ H _ I h) fun u s1 ⟨x, H1, I1, rx, a, C, dx, fs, g, ex, ea, c, k, l, q⟩ => ?_) ht
 subst ex
 obtain rfl : u = Value.ref a := rx
 exact getmeth_ok I1 ea c k l (q s1 I1)
end
section
variable {X : Cx} {pins : List (Addr × Obj)} {σ : St} {H : Hp} {s : Shared} {A : Around} {E : Value -> Shared -> Prop} {Q : Value -> Shared -> Prop} {c : Value} {b : Bool}
inductive TyOf (K : PySem.W.Frag) (H : Hp) : V -> Value -> Prop where
 | non : TyOf K H .non (.type "NoneType")
 | bl (x : Bool) : TyOf K H (.bl x) (.type "bool")
 | int (i : Int) : TyOf K H (.int i) (.type "int")
 | str (x : Str) : TyOf K H (.str x) (.type "str")
 | flt (x : UInt64) : TyOf K H (.flt x) (.type "float")
 | lst {a : Addr} {xs : List V} (e : H a = some (.lst xs)) : TyOf K H (.ref a) (.type "list")
 | frz {a : Addr} {o : Obj} {xs : List V} (e : H a = some (.frz o (.lst xs))) : TyOf K H (.ref a) (.type "list")
 | tup {a : Addr} {xs : List V} (e : H a = some (.tup xs)) : TyOf K H (.ref a) (.type "tuple")
 | dK {a : Addr} {kvs : List (Key × V)} (e : H a = some (.dK kvs)) : TyOf K H (.ref a) (.type "dict")
 | dT {a : Addr} {kvs : List (List Key × V)} (e : H a = some (.dT kvs)) : TyOf K H (.ref a) (.type "dict")
 | ins {a C dx : Addr} {fs : List (Str × V)} (e : H a = some (.ins C dx fs)) (cl : Cls K C) (ha : PySem.W.findIn K (.ref C) "__class__" = some (some (.builtin "object.__class__")))
   (hn : PySem.W.specialIn K (.builtin "object.__class__") "__get__" = some (some (.builtin "getset_descriptor.__get__"))) (htk : PySem.W.takesIn K (.builtin "object.__class__") = some true)
   (hm : PySem.W.mroIn K C (.type "object") = some true) : TyOf K H (.ref a) (.ref C)
theorem isinst_ok {x : V} {u t : Value} (I : Inv X pins σ H s) (rx : RelV x u) (ty : TyOf X.K H x t) (e : PySem.W.kitOne X.K t c = some b) (h : ∀ tk, Q (.bool b) { s with toks := tk }) :
  wpAny (model X.prog X.w) A (call (.builtin "isinstance") [u, c]) Q E s := by
 cases ty with
 | non => cases (show u = Value.none from rx); exact PySem.W.kia_one PySem.W.kitx_none I.kIn True.intro e (fun z => nomatch z) h
 | bl y => cases (show u = Value.bool y from rx); exact PySem.W.kia_one PySem.W.kitx_bool I.kIn True.intro e (fun z => nomatch z) h
 | int i => obtain ⟨t, q⟩ := (show ∃ t, u = Value.int i t from rx); cases q; exact PySem.W.kia_one PySem.W.kitx_int I.kIn True.intro e (fun z => nomatch z) h
 | str y => obtain ⟨t, q⟩ := (show ∃ t, u = Value.str y t from rx); cases q; exact PySem.W.kia_one PySem.W.kitx_str I.kIn True.intro e (fun z => nomatch z) h
 | flt y => obtain ⟨t, q⟩ := (show ∃ t, u = Value.float y t from rx); cases q; exact PySem.W.kia_one PySem.W.kitx_float I.kIn True.intro e (fun z => nomatch z) h
 | @lst a xs ea =>
  cases (show u = Value.ref a from rx)
  obtain ⟨_, _, n, _, h1⟩ := (show ObjOk X.prog X.w H s.heap a (.lst xs) from I.hok a _ ea)
  exact PySem.W.kia_one PySem.W.kitx_list I.kIn ⟨_, h1, rfl⟩ e (fun z => nomatch z) h
 | @frz a ob xs ea =>
  cases (show u = Value.ref a from rx)
  obtain ⟨_, _, _, n, _, h1⟩ := (show ObjOk X.prog X.w H s.heap a (.frz ob (.lst xs)) from I.hok a _ ea)
  exact PySem.W.kia_one PySem.W.kitx_list I.kIn ⟨_, h1, rfl⟩ e (fun z => nomatch z) h
 | @tup a xs ea =>
  cases (show u = Value.ref a from rx)
  obtain ⟨_, _, _, p⟩ := (show ObjOk X.prog X.w H s.heap a (.tup xs) from I.hok a _ ea)
  obtain ⟨o, h1, h2, _⟩ := p
  exact PySem.W.kia_one PySem.W.kitx_tuple I.kIn ⟨o, h1, h2⟩ e (fun z => nomatch z) h
 | @dK a kvs ea =>
  cases (show u = Value.ref a from rx)
  obtain ⟨_, _, vs, _, p⟩ := (show ObjOk X.prog X.w H s.heap a (.dK kvs) from I.hok a _ ea)
  obtain ⟨o, es, ep, h1, h2, _⟩ := p
  exact PySem.W.kia_one PySem.W.kitx_dict I.kIn ⟨o, h1, h2.1⟩ e (fun z => nomatch z) h
 | @dT a kvs ea =>
  cases (show u = Value.ref a from rx)
  obtain ⟨_, _, xs, _, o, es, ep, h1, h2, _⟩ := (show ObjOk X.prog X.w H s.heap a (.dT kvs) from I.hok a _ ea)
  exact PySem.W.kia_one PySem.W.kitx_dict I.kIn ⟨o, h1, h2.1⟩ e (fun z => nomatch z) h
 | @ins a C dx fs ea cl ha hn htk hm =>
  cases (show u = Value.ref a from rx)
  obtain ⟨mA, O, _⟩ := ins_get I.hok ea
  obtain ⟨od, J, _⟩ := O.look
  exact PySem.W.kia_one (PySem.W.kitx_own (cl.get _) cl.hd ha hn htk hm) I.kIn J e (fun z => nomatch z) h
end
end L2
namespace L2
open PySem PySem.Spec PyProof.Rows
structure Room (k : Nat) (A : Around) : Prop where
 hd : A.handled = none
 dp : A.depth + 3 * k + 5 < recursionLimit
 un : A.units + 16 * k + 200 < cLine
theorem Room.mono {j k : Nat} {A : Around} (r : Room k A) (h : j <= k) : Room j A := ⟨r.hd, by have := r.dp; omega, by have := r.un; omega⟩
theorem Room.deeper {k : Nat} {A : Around} (r : Room (k + 1) A) (env : Env) : Room k (A.deeper env) :=
 ⟨r.hd, by have := r.dp; show A.depth + 1 + 3 * k + 5 < _; omega, by have := r.un; show A.units + 3 + 16 * k + 200 < _; omega⟩
theorem make_depth {A : Around} {C : Addr} {us : List Value} {kw : List (Str × Value)} : (A.under (.builtin "type.__call__" ⟨.ref C :: us, kw⟩)).depth = A.depth + 1 := by
 first | rfl | simp [Around.under, Code.weight, Code.isCreation, Code.isGuard, Code.isCaller, Code.frames, Code.isFrame, guardIds]
theorem make_units {A : Around} {C : Addr} {us : List Value} {kw : List (Str × Value)} : (A.under (.builtin "type.__call__" ⟨.ref C :: us, kw⟩)).units = A.units + 1 := by
 first | rfl | simp [Around.under, Code.cUnits, Code.frames, Code.isFrame]
theorem Room.make {k : Nat} {A : Around} (r : Room (k + 1) A) (C : Addr) (us : List Value) (kw : List (Str × Value)) : Room k (A.under (.builtin "type.__call__" ⟨.ref C :: us, kw⟩)) :=
 ⟨r.hd, by have := r.dp; rw [make_depth]; omega, by have := r.un; rw [make_units]; omega⟩
theorem Room.depth {k : Nat} {A : Around} (r : Room k A) : A.depth < recursionLimit := by have := r.dp; omega
theorem Room.units {k : Nat} {A : Around} (r : Room k A) : A.units + 64 < cLine := by have := r.un; omega
def tNil : TA := fun _ H Q => Q [] H
def tCons (ta : TE) (tr : TA) : TA := fun σ H Q => ta σ H fun x H1 => tr σ H1 fun xs H2 => Q (x :: xs) H2
section
variable {X : Cx} {e : Expr} {es : List Expr} {te : TE} {t : TA} {pos : Pos}
theorem pa_nil : PA X [] tNil := fun _ _ _ _ H Q I h => Calls.spliced_nil ⟨[], H, I, .nil, h⟩
theorem pa_cons (ha : PE X e te) (hr : PA X es t) (hs : starEach (e :: es) X.env = (false, eval e X.env) :: starEach es X.env := by rfl) : PA X (e :: es) (tCons te t) := by
 intro pos pins s σ H Q I h
 rw [hs]
 show wpAny _ _ (spliced ((false, eval e X.env) :: backTo pos (starEach es X.env))) _ _ s
 refine Calls.spliced_cons (thn (ha pins s σ H _ I h) fun u s1 ⟨x, H1, I1, r1, q1⟩ => ?_)
 exact thn (hr pos pins s1 σ H1 _ I1 q1) fun us s2 ⟨xs, H2, I2, r2, q2⟩ => ⟨x :: xs, H2, I2, .cons r1 r2, q2⟩
def tTup (t : TA) : TE := fun σ H Q => t σ H fun xs H1 => xs.length <= sizeLine ∧ ∀ p, H1 p = none -> Q (.ref p) (upd H1 p (.tup xs))
def tLst (t : TA) : TE := fun σ H Q => t σ H fun xs H1 => xs.length <= sizeLine ∧ ∀ p, H1 p = none -> Q (.ref p) (upd H1 p (.lst xs))
theorem pe_tup {x1} (h : PA X es t) : PE X (.Tuple es x1 pos) (tTup t) := by
 intro pins s σ H Q I hq
 refine wpAny_Tuple_spliced (thn (h pos pins s σ H _ I hq) fun us s1 ⟨xs, H1, I1, r, z, q⟩ => ⟨by rw [← r.length]; exact z, ?_⟩)
 have hf : H1 s1.heap.objs.size = none := I1.hok.fresh (Nat.le_refl _)
 refine ⟨.ref s1.heap.objs.size, upd H1 s1.heap.objs.size (.tup xs), I1.laid (t' := s1.toks) (fun b u e => Heap.get?_push_of_some _ e) (Nat.le_refl _) ?_, rfl, q _ hf⟩
 exact ⟨z, us, r, ⟨_, Heap.get?_push_size _ rfl, rfl, _, rfl⟩⟩
theorem pe_lst (h : PA X es t) : PE X (.List es pos) (tLst t) := by
 intro pins s σ H Q I hq
 refine wpAny_List_spliced (thn (h pos pins s σ H _ I hq) fun us s1 ⟨xs, H1, I1, r, z, q⟩ => ⟨by rw [← r.length]; exact z, ?_⟩)
 have hf : H1 s1.heap.objs.size = none := I1.hok.fresh (Nat.le_refl _)
 refine ⟨.ref s1.heap.objs.size, upd H1 s1.heap.objs.size (.lst xs), I1.laid (t' := s1.toks) (fun b u e => Heap.get?_push_of_some _ e) (Nat.le_refl _) ?_, rfl, q _ hf⟩
 exact ⟨z, us, 0, r, Heap.get?_push_size _ rfl⟩
end
abbrev Sp := List V -> Hp -> VK -> XK -> Prop
abbrev CXT := List Env -> Hp -> Shared -> XK -> Value -> Shared -> Prop
structure Env0 (P : Program) (w : World) (K : PySem.W.Frag) (mg : Str -> Option Value) (base : Heap) (A : Around) (outer : List Env) (s : Shared) (H : Hp) : Prop where
 frames : A.frames = some outer
 mod : Mod K mg base
 bs : ∀ b o, base.get? b = some o -> s.heap.get? b = some o ∧ H b = none
 bsz : base.objs.size <= s.heap.objs.size
 funs : s.heap.FunFrames base outer
 frf : ∀ b ∈ frs outer, H b = none
 hok : HOk P w H s.heap
 bare : AllBare s.gens
def CE (outer : List Env) (P : Program) (w : World) (H : Hp) (s : Shared) (Q : VK) (u : Value) (s' : Shared) : Prop :=
 ∃ v H', s'.os = s.os ∧ AllBare s'.gens ∧ Un (frs outer) [] H H' s.heap s'.heap ∧ HOk P w H' s'.heap ∧ RelV v u ∧ Q v H'
def CR (CX : CXT) (outer : List Env) (P : Program) (w : World) (H : Hp) (s : Shared) (Q : VK) (E : XK) (r : Result) (s' : Shared) : Prop :=
 match r with
 | .ok (.ret u) => CE outer P w H s Q u s'
 | .ok _ => False
 | .error e => CX outer H s E e s'
structure FnOk (P : Program) (w : World) (K : PySem.W.Frag) (mg : Str -> Option Value) (base : Heap) (CX : CXT) (k : Nat) (f : Addr) (fd : FuncData) (ps : List Str) (sp : Sp) : Prop where
 len : ∀ vs H Q E, sp vs H Q E -> vs.length = ps.length
 run : ∀ (A : Around) (outer : List Env) (s : Shared) (H : Hp) (args : Args) (us : List Value) (vs : List V) (Q : VK) (E : XK), Room k A -> Env0 P w K mg base A outer s H -> BindsTo s fd args (ps.zip us) -> Vals vs us -> sp vs H Q E ->
  codeAny (model P w) A (.call (.ref f) args) (CR CX outer P w H s Q E) s
theorem FnOk.mono {P : Program} {w : World} {K : PySem.W.Frag} {mg : Str -> Option Value} {base : Heap} {CX : CXT} {j k : Nat} {f : Addr} {fd : FuncData} {ps : List Str} {sp : Sp} (F : FnOk P w K mg base CX j f fd ps sp) (h : j <= k) :
  FnOk P w K mg base CX k f fd ps sp := ⟨F.len, fun A outer s H args us vs Q E hr => F.run A outer s H args us vs Q E (hr.mono h)⟩
theorem Env0.make {P : Program} {w : World} {K : PySem.W.Frag} {mg : Str -> Option Value} {base : Heap} {A : Around} {outer : List Env} {s : Shared} {H : Hp} (e : Env0 P w K mg base A outer s H) (C : Addr) (us : List Value) (kw : List (Str × Value)) :
  Env0 P w K mg base (A.under (.builtin "type.__call__" ⟨.ref C :: us, kw⟩)) outer s H := ⟨by first | exact e.frames | (simpa [Around.under, Code.envs, Code.isFrame, pushEnvs] using e.frames), e.mod, e.bs, e.bsz, e.funs, e.frf, e.hok, e.bare⟩
section
variable {X : Cx} {pins : List (Addr × Obj)} {σ : St} {H : Hp} {s s' : Shared}
theorem Inv.env0 (I : Inv X pins σ H s) : Env0 X.prog X.w X.K X.mg X.base X.A X.stack s H :=
 ⟨I.ok.frames, I.ok.mod, I.bs, Nat.le_trans I.ok.bsz I.sz, I.stack, I.stkFree, I.hok, I.bare⟩
theorem Inv.after {Q : VK} {u : Value} (I : Inv X pins σ H s) (h : CE X.stack X.prog X.w H s Q u s') : EP X pins σ Q u s' := by
 obtain ⟨v, H', os, bare, un, hok, r, q⟩ := h
 obtain ⟨hh, g, d, t, os'⟩ := s'
 obtain rfl : os' = s.os := os
 exact ⟨v, H', I.call (h' := hh) (g' := g) (d' := d) (t' := t) (ch := []) un hok bare (fun b z => absurd z (by simp)), r, q⟩
end
def tCall (sp : Sp) (dvs : List V) (E : XK) (t : TA) : TE := fun σ H Q => t σ H fun vs H1 => sp (vs ++ dvs) H1 Q E
def tMeth (C : Addr) (m : Str) (sp : Sp) (dvs : List V) (E : XK) (ta : TE) (t : TA) : TE := fun σ H Q => ta σ H fun x H1 => ∃ a dx fs, x = .ref a ∧ H1 a = some (.ins C dx fs) ∧ fs.lookup m = none ∧
 t σ H1 fun vs H2 => sp (x :: (vs ++ dvs)) H2 Q E
def tMake (C : Addr) (sp : Sp) (dvs : List V) (E : XK) (t : TA) : TE := fun σ H Q => t σ H fun vs H1 => ∀ x dx, H1 x = none -> H1 dx = none -> dx ≠ x ->
 sp (.ref x :: (vs ++ dvs)) (upd (upd H1 dx (.own x)) x (.ins C dx [])) (fun v H2 => v = .non ∧ Q (.ref x) H2) E
def Binds (K : PySem.W.Frag) (fd : FuncData) (ps : List Str) (ds : List Value) : Prop :=
 ∀ (s : Shared) (us : List Value), K.In s.heap -> (us ++ ds).length = ps.length -> BindsTo s fd ⟨us, []⟩ (ps.zip (us ++ ds))
theorem Binds.all {K : PySem.W.Frag} {fd : FuncData} {ps : List Str} (h : ∀ us : List Value, us.length = ps.length -> bindArgs fd ⟨us, []⟩ = pure (ps.zip us)) : Binds K fd ps [] := fun s us _ hl => by
 rw [List.append_nil] at hl ⊢
 exact .of_eq (h us hl)
def Passes (CX : CXT) (X : Cx) (E : XK) : Prop := ∀ (pins : List (Addr × Obj)) (σ : St) (H : Hp) (s : Shared) (e : Value) (s' : Shared), Inv X pins σ H s -> CX X.stack H s E e s' -> X.xe e s'
section
variable {X : Cx} {CX : CXT} {k : Nat} {f C : Addr} {fd : FuncData} {ps : List Str} {sp : Sp} {dvs : List V} {ds : List Value} {E : XK} {x m : Str} {p pos apos : Pos} {e o : Expr} {es : List Expr} {ta : TE} {t : TA}
theorem run_fn {pins : List (Addr × Obj)} {σ : St} {H : Hp} {s : Shared} {Q : VK} {us : List Value} {vs : List V} (F : FnOk X.prog X.w X.K X.mg X.base CX k f fd ps sp) (hr : Room k X.A) (hb : Binds X.K fd ps ds) (hd : Vals dvs ds) (hx : Passes CX X E)
  (I : Inv X pins σ H s) (r : Vals vs us) (h : sp (vs ++ dvs) H Q E) : wpAny (model X.prog X.w) X.A (call (.ref f) us) (EP X pins σ Q) X.xe s := by
 have r2 : Vals (vs ++ dvs) (us ++ ds) := r.append hd
 have hl : (us ++ ds).length = ps.length := by rw [← r2.length]; exact F.len _ _ _ _ h
 refine wpAny_call (codeAny_mono (F.run X.A X.stack s H ⟨us, []⟩ (us ++ ds) (vs ++ dvs) Q E hr I.env0 (hb s us I.kIn hl) r2 h) fun r s' hq => ?_)
 cases r with
 | error e => exact hx pins σ H s e s' I hq
 | ok fl =>
  cases fl with
  | ret u => exact I.after hq
  | next => exact False.elim hq
  | brk => exact False.elim hq
  | cont => exact False.elim hq
theorem pe_call (F : FnOk X.prog X.w X.K X.mg X.base CX k f fd ps sp) (hr : Room k X.A) (hg : Gl X x) (hm : X.mg x = some (.ref f)) (hk : PySem.W.keepIn X.K (.ref f) = true) (hb : Binds X.K fd ps ds) (hd : Vals dvs ds) (hx : Passes CX X E)
  (ha : PA X (e :: es) t) (hdb : (x == ("__debug__" : Str)) = false := by decide) (he : starEach (e :: es) X.env = (false, eval e X.env) :: starEach es X.env := by rfl) (hpl : (backTo pos (starEach es X.env)).any (·.1) = false := by rfl) :
  PE X (.Call (.Name x p) (e :: es) [] pos) (tCall sp dvs E t) := by
 intro pins s σ H Q I h
 refine wpAny_Call_Name_kw (ld_glob I hg hm ?_ hdb)
 refine PySem.W.callWith_K (h₀ := X.base) I.ok.mod.kin hk (thn (ha pos pins s σ H _ I h) fun us s1 ⟨vs, H1, I1, r, q⟩ => ⟨I1.kIn, ?_⟩) he hpl
 exact run_fn F hr hb hd hx I1 r q
theorem pe_meth {pl : Sem Bool} (he : PE X o ta) (c : Cls X.K C) (hm : Meth X.K C m f) (F : FnOk X.prog X.w X.K X.mg X.base CX k f fd ps sp) (hr : Room k X.A) (hb : Binds X.K fd ps ds) (hd : Vals dvs ds) (hx : Passes CX X E) (ha : PA X (e :: es) t)
  (hst : starEach (e :: es) X.env = (false, eval e X.env) :: starEach es X.env := by rfl) (hpl : (backTo pos (starEach es X.env)).any (·.1) = false := by rfl)
  (ht : eval (.Call (.Attribute o m apos) (e :: es) [] pos) X.env = (do
   let ov ← eval o X.env
   standAt apos.atName
   let (f, first) ← holding [ov] (getMethod ov m pl)
   callWith pos f first (backTo pos (starEach (e :: es) X.env)) (backToKw pos (keywordEach [] X.env))) := by rfl) :
  PE X (.Call (.Attribute o m apos) (e :: es) [] pos) (tMeth C m sp dvs E ta t) := by
 intro pins s σ H Q I h
 refine PySem.W.methodCall_KW (pl := pl) (thn (he pins s σ H _ I h) fun u s1 ⟨x, H1, I1, rx, a, dx, fs, ex, ea, l, q⟩ => ?_) ht
 subst ex
 obtain rfl : u = Value.ref a := rx
 refine getmeth_ok I1 ea c hm l ?_
 refine PySem.W.callWith_K (first := [.ref a]) (h₀ := X.base) I.ok.mod.kin hm.kp (thn (ha pos pins s1 σ H1 _ I1 q) fun us s2 ⟨vs, H2, I2, r, q2⟩ => ⟨I2.kIn, ?_⟩) hst hpl
 exact run_fn (us := .ref a :: us) (vs := .ref a :: vs) F hr hb hd hx I2 (.cons rfl r) q2
structure Mk (K : PySem.W.Frag) (C f : Addr) : Prop where
 makes : PySem.W.makesIn K C = true
 init : PySem.W.findIn K (.ref C) "__init__" = some (some (.ref f))
 fn : PySem.W.isFn K (.ref f) = true
 kp : PySem.W.keepIn K (.ref C) = true
theorem run_make {pins : List (Addr × Obj)} {σ : St} {H : Hp} {s : Shared} {Q : VK} {us : List Value} {vs : List V} (M : Mk X.K C f) (F : FnOk X.prog X.w X.K X.mg X.base CX k f fd ps sp) (hr : Room (k + 1) X.A) (hb : Binds X.K fd ps ds) (hd : Vals dvs ds)
  (hx : Passes CX X E) (I : Inv X pins σ H s) (r : Vals vs us)
  (h : ∀ x dx, H x = none -> H dx = none -> dx ≠ x -> sp (.ref x :: (vs ++ dvs)) (upd (upd H dx (.own x)) x (.ins C dx [])) (fun v H2 => v = .non ∧ Q (.ref x) H2) E) :
  wpAny (model X.prog X.w) X.A (call (.ref C) us) (EP X pins σ Q) X.xe s := by
 have hq := h (s.heap.objs.size + 1) s.heap.objs.size (I.hok.fresh (Nat.le_succ _)) (I.hok.fresh (Nat.le_refl _)) (Nat.ne_of_lt (Nat.lt_succ_self _))
 have I2 := Inv.made (C := C) I
 have r2 : Vals (V.ref (s.heap.objs.size + 1) :: (vs ++ dvs)) (Value.ref (s.heap.objs.size + 1) :: (us ++ ds)) := .cons rfl (r.append hd)
 have hl : (Value.ref (s.heap.objs.size + 1) :: us ++ ds).length = ps.length := by
  have e := r2.length
  rw [F.len _ _ _ _ hq] at e
  exact e.symm
 refine wpAny_call (make_map (f := f) I.kIn M.makes M.init (beq_iff_eq.mp M.fn) (codeAny_mono (F.run _ X.stack _ _ ⟨Value.ref (s.heap.objs.size + 1) :: us, []⟩ (Value.ref (s.heap.objs.size + 1) :: (us ++ ds)) _ _ E (hr.make C us [])
  (I2.env0.make C us []) (hb _ (Value.ref (s.heap.objs.size + 1) :: us) I2.kIn hl) r2 hq) fun r s' hq' => ?_))
 cases r with
 | error e => exact hx pins σ _ _ e s' I2 hq'
 | ok fl =>
  cases fl with
  | ret u =>
   obtain ⟨v, H', I3, rv, ev, q3⟩ := I2.after hq'
   subst ev
   exact ⟨rv, ⟨V.ref (s.heap.objs.size + 1), H', I3, rfl, q3⟩⟩
  | next => exact False.elim hq'
  | brk => exact False.elim hq'
  | cont => exact False.elim hq'
theorem pe_make (M : Mk X.K C f) (F : FnOk X.prog X.w X.K X.mg X.base CX k f fd ps sp) (hr : Room (k + 1) X.A) (hg : Gl X x) (hm : X.mg x = some (.ref C)) (hb : Binds X.K fd ps ds) (hd : Vals dvs ds) (hx : Passes CX X E)
  (ha : PA X (e :: es) t) (hdb : (x == ("__debug__" : Str)) = false := by decide) (he : starEach (e :: es) X.env = (false, eval e X.env) :: starEach es X.env := by rfl) (hpl : (backTo pos (starEach es X.env)).any (·.1) = false := by rfl) :
  PE X (.Call (.Name x p) (e :: es) [] pos) (tMake C sp dvs E t) := by
 intro pins s σ H Q I h
 refine wpAny_Call_Name_kw (ld_glob I hg hm ?_ hdb)
 refine PySem.W.callWith_K (h₀ := X.base) I.ok.mod.kin M.kp (thn (ha pos pins s σ H _ I h) fun us s1 ⟨vs, H1, I1, r, q⟩ => ⟨I1.kIn, ?_⟩) he hpl
 exact run_make M F hr hb hd hx I1 r q
end
section
variable {X : Cx} {CX : CXT} {k : Nat} {f C : Addr} {fd : FuncData} {ps ks : List Str} {sp : Sp} {E : XK} {x m : Str} {p pos apos kpos : Pos} {e o : Expr} {es : List Expr} {kws : List Keyword} {te ta : TE} {t tk : TA} {nm : Option Str}
variable {g : List Value -> List Value -> List Value} {gV : List V -> List V -> List V}
end
structure FnScope (N P : List Str) (sc : Scope) : Prop where
 kind : sc.kind = .function
 co : sc.isCoroutine = false
 gen : sc.isGenerator = false
 nd : N.Nodup
 pre : N.take P.length = P
 par : ∀ x ∈ P, sc.names.lookup x = some .local ∨ sc.names.lookup x = some .cell
 nofree : ∀ y ∈ sc.names, y.2 ≠ .free
theorem bindL_out {kindOf : Str -> Option NameKind} {x : Str} : ∀ {binds : List (Str × Value)} {m : Str -> Option Value}, (∀ v, (x, v) ∉ binds) -> bindL kindOf binds m x = m x
 | [], _, _ => rfl
 |(n, v) :: r, m, h => by
  unfold bindL
  rw [bindL_out fun w hw => h w (List.mem_cons_of_mem _ hw)]
  split
  ·have : x ≠ n := by rintro rfl; exact h v List.mem_cons_self
   simp [this]
  ·rfl
theorem bindC_out {kindOf : Str -> Option NameKind} {x : Str} : ∀ {binds : List (Str × Value)} {m : Str -> Option Value}, (∀ v, (x, v) ∉ binds) -> bindC kindOf binds m x = m x
 | [], _, _ => rfl
 |(n, v) :: r, m, h => by
  unfold bindC
  rw [bindC_out fun w hw => h w (List.mem_cons_of_mem _ hw)]
  split
  ·rfl
  ·have : x ≠ n := by rintro rfl; exact h v List.mem_cons_self
   simp [this]
theorem bindL_get {kindOf : Str -> Option NameKind} {x : Str} {v : Value} : ∀ {P : List Str} {vs : List Value} {i : Nat} {m : Str -> Option Value}, P.Nodup -> P[i]? = some x -> vs[i]? = some v -> kindOf x = some .local ->
  bindL kindOf (P.zip vs) m x = some v
 | [], _, _, _, _, h, _, _ => by simp at h
 | _ :: _, [], _, _, _, _, h, _ => by simp at h
 | p :: P, w :: vs, 0, m, nd, h1, h2, hk => by
  simp at h1 h2; subst h1; subst h2
  show bindL kindOf ((p, w) :: P.zip vs) m p = _
  unfold bindL
  rw [bindL_out fun v hv => (List.nodup_cons.mp nd).1 (List.of_mem_zip hv).1, if_pos hk]
  simp
 | p :: P, w :: vs, i + 1, m, nd, h1, h2, hk => by
  show bindL kindOf ((p, w) :: P.zip vs) m x = _
  unfold bindL
  exact bindL_get (i := i) (List.nodup_cons.mp nd).2 (by simpa using h1) (by simpa using h2) hk
theorem bindC_get {kindOf : Str -> Option NameKind} {x : Str} {v : Value} : ∀ {P : List Str} {vs : List Value} {i : Nat} {m : Str -> Option Value}, P.Nodup -> P[i]? = some x -> vs[i]? = some v -> kindOf x ≠ some .local ->
  bindC kindOf (P.zip vs) m x = some v
 | [], _, _, _, _, h, _, _ => by simp at h
 | _ :: _, [], _, _, _, _, h, _ => by simp at h
 | p :: P, w :: vs, 0, m, nd, h1, h2, hk => by
  simp at h1 h2; subst h1; subst h2
  show bindC kindOf ((p, w) :: P.zip vs) m p = _
  unfold bindC
  rw [bindC_out fun v hv => (List.nodup_cons.mp nd).1 (List.of_mem_zip hv).1, if_neg hk]
  simp
 | p :: P, w :: vs, i + 1, m, nd, h1, h2, hk => by
  show bindC kindOf ((p, w) :: P.zip vs) m x = _
  unfold bindC
  exact bindC_get (i := i) (List.nodup_cons.mp nd).2 (by simpa using h1) (by simpa using h2) hk
def start (N : List Str) (vs : List V) : St := vs.map some ++ List.replicate (N.length - vs.length) none
def cxOf (CX : CXT) (P : Program) (w : World) (K : PySem.W.Frag) (mg : Str -> Option Value) (base : Heap) (N : List Str) (qual : Str) (scope : Scope) (f : Addr) (cd : Value) (A : Around) (outer : List Env) (s : Shared) (H : Hp) (E : XK) : Cx where
 prog := P
 w := w
 K := K
 mg := mg
 base := base
 A := A.deeper (envOfC qual scope s.heap.objs.size f cd)
 N := N
 s₀ := s
 H₀ := H
 env := envOfC qual scope s.heap.objs.size f cd
 outer := outer
 stack := envOfC qual scope s.heap.objs.size f cd :: outer
 ex := []
 calm := true
 fn := fun _ => true
 pn := []
 xe := fun e s' => wpAny (model P w) (A.deeper (envOfC qual scope s.heap.objs.size f cd)) (leaving (envOfC qual scope s.heap.objs.size f cd) e) (fun _ s'' => CX outer H s E e s'') (fun e' s'' => CX outer H s E e' s'') s'
theorem cell_has {sc : Scope} {n : Nat} {x : Str} (h : sc.names.lookup x = some .cell) : ∃ c, (cellsFrom n sc.names []).lookup x = some c := by
 have q := PySem.W.cellsFrom_some sc.names n [] (.inl h)
 exact Option.isSome_iff_exists.mp q
theorem inv_start {CX : CXT} {P : Program} {w : World} {K : PySem.W.Frag} {mg : Str -> Option Value} {base : Heap} {N ps : List Str} {qual : Str} {scope : Scope} {f : Addr} {cd : Value} {A : Around} {outer : List Env} {s s1 : Shared} {H : Hp} {E : XK} {us : List Value} {vs : List V}
  (S : FnScope N ps scope) (hd : A.handled = none) (e0 : Env0 P w K mg base A outer s H) (hl : vs.length = ps.length) (r : Vals vs us)
  (x : InCallC s s.heap.objs.size (bindL (envOfC qual scope s.heap.objs.size f cd).kindOf (ps.zip us) fun _ => none) (cellsFrom (s.heap.objs.size + 1) scope.names []) (bindC (envOfC qual scope s.heap.objs.size f cd).kindOf (ps.zip us) fun _ => none) s1) :
  Inv (cxOf CX P w K mg base N qual scope f cd A outer s H E) [] (start N vs) H s1 := by
 have hpl : ps.length <= N.length := by have := congrArg List.length S.pre; rw [List.length_take] at this; omega
 obtain ⟨h1, tk, rfl, hk⟩ := x.done
 have noA : ∀ b : Addr, b ∉ (cxOf CX P w K mg base N qual scope f cd A outer s H E).ex := fun b z => absurd (show b ∈ ([] : List Addr) from z) (by simp)
 refine ⟨⟨e0.mod, S.kind, rfl, rfl, Nat.le_refl _, fun y z c h1 h2 => ?_, fun y hy => ?_, fun y c _ h => ?_, fun _ => hd, Around.frames_deeper e0.frames, .inr ⟨rfl, rfl⟩, fun b z => absurd z (noA b), e0.bs, e0.bsz, fun b _ _ => noA b, fun b z => absurd z (noA b), e0.funs, e0.frf⟩,
  rfl, e0.bare, Un.kept hk, ⟨_, x.toInCall.ns, fun i y v h1 h2 h3 => ?_⟩, fun y c h => ⟨_, x.cell y c h⟩, e0.hok.fresh (Nat.le_refl _), fun y c h => ?_, fun p hp => absurd (show p ∈ ([] : List (Addr × Obj)) from hp) (by simp), e0.hok.kept hk, ?_⟩
 ·exact name_of_addr x.apart (PySem.mem_of_lookup h1) (PySem.mem_of_lookup h2)
 ·have hy : scope.names.lookup y = some .cell ∨ scope.names.lookup y = some .free := hy
  rcases hy with hy | hy
  ·exact cell_has hy
  ·exact absurd rfl (S.nofree _ (PySem.mem_of_lookup hy))
 ·exact Nat.le_of_lt (x.above y c (PySem.mem_of_lookup h))
 ·have hi : i < vs.length := by
   unfold start at h2
   by_cases hi : i < vs.length
   ·exact hi
   ·rw [List.getElem?_append_right (by simpa using hi)] at h2
    rw [List.getElem?_replicate] at h2
    split at h2 <;> cases h2
  have ha : vs[i]? = some v := by
   unfold start at h2
   rw [List.getElem?_append_left (by simpa using hi), List.getElem?_map] at h2
   cases e : vs[i]? with
   | none => rw [e] at h2; cases h2
   | some a => rw [e] at h2; cases h2; rfl
  obtain ⟨u, hu, rv⟩ := r.get ha
  have hp : ps[i]? = some y := by
   rw [← S.pre, List.getElem?_take_of_lt (by omega)]; exact h1
  have ndP : ps.Nodup := by rw [← S.pre]; exact S.nd.sublist (List.take_sublist _ _)
  refine ⟨u, rv, ?_⟩
  rcases S.par y (List.mem_of_getElem? hp) with k | k
  ·exact .inl ⟨k, bindL_get ndP hp hu k⟩
  ·obtain ⟨c, e⟩ := cell_has (n := s.heap.objs.size + 1) k
   refine .inr ⟨.inl k, c, e, ?_⟩
   have q := x.cell y c e
   rw [bindC_get ndP hp hu (by show scope.names.lookup y ≠ _; rw [k]; decide)] at q
   exact q
 ·exact e0.hok.fresh (Nat.le_of_lt (x.above y c (PySem.mem_of_lookup h)))
 ·unfold start
  show _ = N.length
  rw [List.length_append, List.length_map, List.length_replicate]
  omega
theorem fn_of {CX : CXT} {P : Program} {w : World} {K : PySem.W.Frag} {mg : Str -> Option Value} {base : Heap} {k : Nat} {f : Addr} {name qual : Str} {params : Arguments} {body : List Stmt} {scope : Scope} {dV kV doc pm cdv ct oc : Value} {an od : Option Addr}
  {osl : Array (Option Value)} {N ps : List Str} {sp : Sp} (lk : K.lookup f = some ⟨oc, od, .func (PySem.W.fnOf name qual params body scope dV kV doc pm an cdv ct), osl⟩) (hcd : PySem.W.codeIn K cdv qual = true) (S : FnScope N ps scope)
  (len : ∀ vs H Q E, sp vs H Q E -> vs.length = ps.length)
  (hbody : ∀ (A : Around) (outer : List Env) (s : Shared) (H : Hp) (vs : List V) (Q : VK) (E : XK), Room k (A.deeper (envOfC qual scope s.heap.objs.size f cdv)) -> sp vs H Q E ->
   ∃ t, PSs (cxOf CX P w K mg base N qual scope f cdv A outer s H E) body t ∧ t { nx := fun _ H' => Q .non H', rt := Q } (start N vs) H) :
  FnOk P w K mg base CX (k + 1) f (PySem.W.fnOf name qual params body scope dV kV doc pm an cdv ct) ps sp := by
 refine ⟨len, fun A outer s H args us vs Q E hr e0 hb r hsp => ?_⟩
 have hl := len _ _ _ _ hsp
 have KX : K.In s.heap := e0.mod.kin.keeps fun b o e => (e0.bs b o e).1
 have lim : s.heap.NoLimit := e0.mod.nolimit.keeps fun b o e => (e0.bs b o e).1
 have hkind : ∀ y ∈ ps.zip us, scope.names.lookup y.1 = some .local ∨ (scope.names.lookup y.1 = some .cell ∧ ((cellsFrom (s.heap.objs.size + 1) scope.names []).lookup y.1).isSome = true) := fun ⟨n, v⟩ hy => by
  rcases S.par n (List.of_mem_zip hy).1 with q | q
  ·exact .inl q
  ·exact .inr ⟨q, PySem.W.cellsFrom_some _ _ _ (.inl q)⟩
 refine codeAny_call_function hr.depth (KX _ _ lk) rfl S.co S.gen rfl (PySem.W.codeRec_of KX hcd) (hb _ _ _ _ ?_)
 refine wpAny_newFunctionEnv_cells S.kind hkind fun env he s1 x => ?_
 subst he
 refine ⟨lim.keeps x.toInCall.keep, codeAny_func ?_⟩
 obtain ⟨t, ht, hq⟩ := hbody A outer s H vs Q E (hr.deeper _) hsp
 have I : Inv (cxOf CX P w K mg base N qual scope f cdv A outer s H E) [] (start N vs) H s1 := inv_start S hr.hd e0 hl r x
 refine wpAny_mono (ht [] s1 (start N vs) H _ I hq) (fun fl s' hs => ?_) fun e s' hs => hs
 have fin : ∀ {σ' : St} {H' : Hp} {v : V} {u : Value}, Inv (cxOf CX P w K mg base N qual scope f cdv A outer s H E) [] σ' H' s' -> RelV v u -> Q v H' -> CE outer P w H s Q u s' :=
  fun {σ' H' v u} J rv q => ⟨v, H', J.os, J.bare, J.base, J.hok, rv, q⟩
 cases fl with
 | ret u =>
  obtain ⟨v, σ', H', J, rv, q⟩ := hs
  exact fin J rv q
 | next =>
  obtain ⟨σ', H', J, q⟩ := hs
  exact fin (v := V.non) (u := Value.none) J rfl q
 | brk =>
  obtain ⟨_, _, _, q⟩ := hs
  exact False.elim q
 | cont =>
  obtain ⟨_, _, _, q⟩ := hs
  exact False.elim q
end L2
namespace L2
open PySem PySem.Spec PyProof.Rows
section
variable {X : Cx} {x : Str} {p pos : Pos} {e : Expr} {es : List Expr} {t : TA} {id T : String} {r : List V -> Hp -> VK -> Prop}
def tCB (r : List V -> Hp -> VK -> Prop) (t : TA) : TE := fun σ H Q => t σ H fun vs H1 => r vs H1 Q
theorem pe_callB (hc : CallR X (.builtin id) r) (hg : Gl X x) (hm : X.mg x = none) (hv : bootBuiltins x = some (.builtin id)) (ha : PA X (e :: es) t) (hn : x ≠ "__name__" := by decide) (hdb : (x == ("__debug__" : Str)) = false := by decide)
  (he : starEach (e :: es) X.env = (false, eval e X.env) :: starEach es X.env := by rfl) (hpl : (backTo pos (starEach es X.env)).any (·.1) = false := by rfl) : PE X (.Call (.Name x p) (e :: es) [] pos) (tCB r t) := by
 intro pins s σ H Q I h
 refine wpAny_Call_Name_kw (ld_blt I hg hm hv ?_ hn hdb)
 exact PyProof.Rows.callWith_builtin1 (thn (ha pos pins s σ H _ I h) fun us s1 ⟨vs, H1, I1, r1, q1⟩ => hc pins s1 σ H1 vs us Q I1 r1 q1) he hpl
theorem pe_callTy (hc : CallR X (.type T) r) (hg : Gl X x) (hm : X.mg x = none) (hv : bootBuiltins x = some (.type T)) (ha : PA X (e :: es) t) (hn : x ≠ "__name__" := by decide) (hdb : (x == ("__debug__" : Str)) = false := by decide)
  (he : starEach (e :: es) X.env = (false, eval e X.env) :: starEach es X.env := by rfl) (hpl : (backTo pos (starEach es X.env)).any (·.1) = false := by rfl) : PE X (.Call (.Name x p) (e :: es) [] pos) (tCB r t) := by
 intro pins s σ H Q I h
 refine wpAny_Call_Name_kw (ld_blt I hg hm hv ?_ hn hdb)
 exact PyProof.Rows.callWith_type1 (thn (ha pos pins s σ H _ I h) fun us s1 ⟨vs, H1, I1, r1, q1⟩ => hc pins s1 σ H1 vs us Q I1 r1 q1) he hpl
end
end L2
namespace HT
open PySem PyProof.Rows
section
open PySem.SeqAt
open PySem.AutoSeq1 (wpAny_loadPart')
open PySem.MeetsSeq PySem.MeetsSeq2 PySem.MeetsSeq3
end
section
variable {prog : Program} {w : World} {A : Around} {E : Value -> Shared -> Prop} {s : Shared}
def sIx (n d : Nat) : Option Int -> Nat
 | none => d
 | some v => if v < 0 then (v + (n : Int)).toNat else min v.toNat n
end
end HT
namespace L2
open PySem PySem.Spec PyProof.Rows
abbrev TO := St -> Hp -> (Option Int -> Hp -> Prop) -> Prop
def PO (X : Cx) (e : Option Expr) (t : TO) : Prop :=
 ∀ (pins : List (Addr × Obj)) (s : Shared) (σ : St) (H : Hp) (Q : Option Int -> Hp -> Prop), Inv X pins σ H s -> t σ H Q ->
  wpAny (model X.prog X.w) X.A (evalPart e X.env) (fun u s' => ∃ o H', Inv X pins σ H' s' ∧ IsPart u o ∧ Q o H') X.xe s
def tNoPart : TO := fun _ H Q => Q none H
def tPart (t : TE) : TO := fun σ H Q => t σ H fun x H1 => ∃ i, x = .int i ∧ Q (some i) H1
section
variable {X : Cx} {e : Expr} {te : TE} {lo hi : Option Expr} {tl th : TO} {pos p2 : Pos}
theorem po_none : PO X none tNoPart := by
 intro pins s σ H Q I h
 rw [evalPart_none]
 exact wpAny_pure ⟨none, H, I, .none, h⟩
theorem po_some (h : PE X e te) : PO X (some e) (tPart te) := by
 intro pins s σ H Q I hw
 rw [evalPart_some]
 refine thn (h pins s σ H _ I hw) fun u s1 ⟨x, H1, I1, r1, q1⟩ => ?_
 obtain ⟨i, rfl, q⟩ := q1
 obtain ⟨t, rfl⟩ := r1
 exact ⟨some i, H1, I1, .int i t, q⟩
def SlR (X : Cx) (r : V -> Option Int -> Option Int -> Hp -> VK -> Prop) : Prop :=
 ∀ (pins : List (Addr × Obj)) (s : Shared) (σ : St) (H : Hp) (x : V) (v vl vu : Value) (lo hi : Option Int) (sl : Addr) (Q : VK), Inv X pins σ H s -> RelV x v -> s.heap.IsSliceOf sl vl vu .none -> IsPart vl lo -> IsPart vu hi -> r x lo hi H Q ->
  ∃ T id, typeLookup (.type T) "__getitem__" = pure (some (.builtin id)) ∧ s.TypeIs v T ∧ wpAny (model X.prog X.w) X.A (getItem v (.ref sl)) (EP X pins σ Q) X.xe s
def tSl (r : V -> Option Int -> Option Int -> Hp -> VK -> Prop) (te : TE) (tl th : TO) : TE := fun σ H Q => te σ H fun x H1 => tl σ H1 fun l H2 => th σ H2 fun u H3 => r x l u H3 Q
theorem pe_slice {r : V -> Option Int -> Option Int -> Hp -> VK -> Prop} (hr : SlR X r) (he : PE X e te) (hl : PO X lo tl) (hu : PO X hi th) : PE X (.Subscript e (.Slice lo hi none p2) pos) (tSl r te tl th) := by
 intro pins s σ H Q I h
 refine Subscript_ (thn (he pins s σ H _ I h) fun v s1 ⟨x, H1, I1, r1, q1⟩ => ?_)
 refine wpAny_Slice (thn (hl pins s1 σ H1 _ I1 q1) fun vl s2 ⟨l, H2, I2, pl, q2⟩ => thn (hu pins s2 σ H2 _ I2 q2) fun vu s3 ⟨u, H3, I3, pu, q3⟩ => ?_)
 rw [evalPart_none]
 refine wpAny_pure ?_
 have I4 : Inv X pins σ H3 { s3 with heap := s3.heap.push { cls := .type "slice", data := .fields #[vl, vu, .none] } } := I3.kept (t' := s3.toks) fun b ob q => Heap.get?_push_of_some _ q
 obtain ⟨T, id, hT, ht, hg⟩ := hr pins { s3 with heap := s3.heap.push { cls := .type "slice", data := .fields #[vl, vu, .none] } } σ H3 x v vl vu l u s3.heap.objs.size Q I4 r1 (Heap.IsSliceOf.new ..) pl pu q3
 show wpAny (model X.prog X.w) X.A (subscriptTail e (.Slice lo hi none p2) v (.ref s3.heap.objs.size)) (EP X pins σ Q) X.xe { s3 with heap := s3.heap.push { cls := .type "slice", data := .fields #[vl, vu, .none] } }
 exact tail_any (ops := [.ref s3.heap.objs.size, v]) ht hT hg (by with_unfolding_all rfl)
def cutV (xs : List V) (lo hi : Option Int) : List V := (xs.drop (HT.sIx xs.length 0 lo)).take (HT.sIx xs.length xs.length hi - HT.sIx xs.length 0 lo)
theorem cutV_length (xs : List V) (lo hi : Option Int) : (cutV xs lo hi).length <= xs.length := by
 unfold cutV
 rw [List.length_take, List.length_drop]
 omega
end
end L2
namespace L2
open PySem PySem.Spec PyProof.Rows
def ixN (n : Nat) (i : Int) : Option Nat := if 0 <= i then (if i < n then some i.toNat else none) else if -(n : Int) <= i then some (i + n).toNat else none
def atI {α : Type} (xs : List α) (i : Int) : Option α := (ixN xs.length i).bind fun j => xs[j]?
theorem ixN_seq {n : Nat} {i : Int} {j : Nat} (h : ixN n i = some j) : seqIndex? i n = some j ∧ j < n ∧ -(n : Int) <= i ∧ i < n := by
 unfold ixN at h
 by_cases h0 : 0 <= i
 ·rw [if_pos h0] at h
  by_cases h1 : i < n
  ·rw [if_pos h1] at h
   have e : i.toNat = j := Option.some.inj h
   exact ⟨by rw [seqIndex_of h0 h1, e], by omega, by omega, h1⟩
  ·rw [if_neg h1] at h; cases h
 ·rw [if_neg h0] at h
  by_cases h1 : -(n : Int) <= i
  ·rw [if_pos h1] at h
   have e : (i + n).toNat = j := Option.some.inj h
   exact ⟨by rw [seqIndex_neg (by omega) h1, e], by omega, h1, by omega⟩
  ·rw [if_neg h1] at h; cases h
theorem atI_get {α : Type} {xs : List α} {i : Int} {v : α} (h : atI xs i = some v) : ∃ j, seqIndex? i xs.length = some j ∧ xs[j]? = some v ∧ j < xs.length ∧ -(xs.length : Int) <= i ∧ i < xs.length := by
 unfold atI at h
 cases e : ixN xs.length i with
 | none => rw [e] at h; cases h
 | some j =>
  rw [e] at h
  obtain ⟨h1, h2, h3, h4⟩ := ixN_seq e
  exact ⟨j, h1, h, h2, h3, h4⟩
theorem atI_nat {α : Type} {xs : List α} {j : Nat} {v : α} (h : xs[j]? = some v) : atI xs (j : Int) = some v := by
 have hj : j < xs.length := (List.getElem?_eq_some_iff.mp h).1
 have e : ixN xs.length (j : Int) = some j := by
  unfold ixN
  rw [if_pos (by omega), if_pos (by omega)]; simp
 unfold atI; rw [e]; exact h
theorem atI_last {α : Type} (xs : List α) (v : α) : atI (xs ++ [v]) (-1) = some v := by
 have hl : (xs ++ [v]).length = xs.length + 1 := by simp
 have e : ixN (xs ++ [v]).length (-1) = some xs.length := by
  unfold ixN
  rw [hl, if_neg (by decide), if_pos (by omega)]
  congr 1
  omega
 unfold atI
 rw [e]
 show (xs ++ [v])[xs.length]? = some v
 simp
def PlainIx (b : Expr) : Prop := ∀ o i, subscripted b false o i = operate [o, i] (getItem o i)
def IxR (X : Cx) (r : R2) : Prop :=
 ∀ (value slice : Expr) (pins : List (Addr × Obj)) (s : Shared) (σ : St) (H : Hp) (x y : V) (v u : Value) (Q : VK), Inv X pins σ H s -> RelV x v -> RelV y u -> r x y H Q ->
  subscripted slice false v u = operate [v, u] (getItem v u) -> wpAny (model X.prog X.w) X.A (subscriptTail value slice v u) (EP X pins σ Q) X.xe s
def MtR (X : Cx) (id : String) (r : V -> List V -> Hp -> VK -> Prop) : Prop :=
 ∀ (pins : List (Addr × Obj)) (s : Shared) (σ : St) (H : Hp) (x : V) (xs : List V) (v : Value) (us : List Value) (Q : VK), Inv X pins σ H s -> RelV x v -> Vals xs us -> r x xs H Q ->
  wpAny (model X.prog X.w) X.A (call (.builtin id) (v :: us)) (EP X pins σ Q) X.xe s
section
variable {X : Cx} {a b : Expr} {ta tb : TE} {pos : Pos}
theorem pe_ix {r : R2} (hr : IxR X r) (ha : PE X a ta) (hb : PE X b tb) (hs : PlainIx b) : PE X (.Subscript a b pos) (tOp r ta tb) := by
 intro pins s σ H Q I h
 exact Subscript_ (binT ha hb I h fun v u s2 x y H2 I2 rx ry q => hr a b pins s2 σ H2 x y v u Q I2 rx ry q (hs _ _))
def rIxL (K : PySem.W.Frag) : R2 := fun x y H Q => ∃ p xs i v, x = .ref p ∧ y = .int i ∧ SqL K H p xs ∧ atI xs i = some v ∧ Q v H
def rIxT (K : PySem.W.Frag) : R2 := fun x y H Q => ∃ p xs i v, x = .ref p ∧ y = .int i ∧ SqT K H p xs ∧ atI xs i = some v ∧ Q v H
theorem ix_list : IxR X (rIxL X.K) := by
 intro value slice pins s σ H x y v u Q I rx ry h hs
 obtain ⟨p, xs, i, z, rfl, rfl, hq, he, q⟩ := h
 cases rx
 obtain ⟨t, rfl⟩ := ry
 obtain ⟨its, r, pl, hz⟩ := I.list hq
 obtain ⟨j, h1, h2, h3, h4, h5⟩ := atI_get he
 obtain ⟨w, ew, rw'⟩ := r.get h2
 have hl := r.length
 have hn := line63
 have fin : EP X pins σ Q w s := ⟨z, H, I, rw', q⟩
 by_cases h0 : 0 <= i
 ·have hj : i.toNat = j := by
   rw [seqIndex_of h0 h5] at h1
   exact Option.some.inj h1
  exact item_listR pl.isList h0 (by omega) (by rw [hj]; simpa using ew) fin hs
 ·have hj : (i + (its.toArray.size : Int)).toNat = j := by
   rw [seqIndex_neg (by omega) h4] at h1
   rw [List.size_toArray, ← hl]
   exact Option.some.inj h1
  exact subscriptTail_builtinR (x := w) pl.isList.typeIs slot_list_getitem.lookup
   (wpAny_getItem_list_neg (Q := fun r s' => r = w ∧ EP X pins σ Q r s') pl.isList (by omega) (by rw [List.size_toArray] <;> omega) (by omega) (by rw [hj]; simpa using ew) ⟨rfl, fin⟩) hs
theorem ix_tup : IxR X (rIxT X.K) := by
 intro value slice pins s σ H x y v u Q I rx ry h hs
 obtain ⟨p, xs, i, z, rfl, rfl, hq, he, q⟩ := h
 cases rx
 obtain ⟨t, rfl⟩ := ry
 obtain ⟨its, r, pl, hz⟩ := I.tuple hq
 obtain ⟨j, h1, h2, h3, h4, h5⟩ := atI_get he
 obtain ⟨w, ew, rw'⟩ := r.get h2
 have hl := r.length
 have hn := line63
 have fin : EP X pins σ Q w s := ⟨z, H, I, rw', q⟩
 exact subscriptTail_builtinR (x := w) pl.typeIs slot_tuple_getitem.lookup
  (getItem_tuple (j := j) (Q := fun r s' => r = w ∧ EP X pins σ Q r s') pl (by omega) (by omega) (by rw [List.size_toArray, ← hl]; exact h1) (by simpa using ew) ⟨rfl, fin⟩) hs
def rSetL : V -> V -> V -> Hp -> (Hp -> Prop) -> Prop := fun o i v H Q => ∃ p xs k j, o = .ref p ∧ i = .int k ∧ H p = some (.lst xs) ∧ ixN xs.length k = some j ∧ Q (upd H p (.lst (xs.set j v)))
theorem slice_bounds (lo hi : Option Int) (n : Nat) : (sliceBounds lo hi none n).1 = ((HT.sIx n 0 lo : Nat) : Int) ∧ (sliceBounds lo hi none n).2.1 = ((HT.sIx n n hi : Nat) : Int) ∧ (sliceBounds lo hi none n).2.2 = 1 := by
 refine ⟨?_, ?_, rfl⟩
 ·cases lo with
  | none => simp [sliceBounds, HT.sIx]
  | some i =>
   simp only [sliceBounds, HT.sIx, Option.getD_none, show (1 : Int) > 0 by decide, if_true]
   by_cases h : i < 0
   ·simp only [h, if_true] <;> omega
   ·simp only [h, if_false] <;> omega
 ·cases hi with
  | none => simp [sliceBounds, HT.sIx]
  | some i =>
   simp only [sliceBounds, HT.sIx, Option.getD_none, show (1 : Int) > 0 by decide, if_true]
   by_cases h : i < 0
   ·simp only [h, if_true] <;> omega
   ·simp only [h, if_false] <;> omega
theorem slicePick_cut (its : List Value) (lo hi : Option Int) : slicePick its.toArray lo hi none = ((its.drop (HT.sIx its.length 0 lo)).take (HT.sIx its.length its.length hi - HT.sIx its.length 0 lo)).toArray := by
 obtain ⟨h1, h2, h3⟩ := slice_bounds lo hi its.toArray.size
 unfold slicePick
 rw [h1, h2, h3]
 simp only [sliceRange_one, pick_run, List.size_toArray] <;> rfl
def rSlL (K : PySem.W.Frag) : V -> Option Int -> Option Int -> Hp -> VK -> Prop := fun x lo hi H Q => ∃ a xs, x = .ref a ∧ SqL K H a xs ∧ ∀ p, H p = none -> Q (.ref p) (upd H p (.lst (cutV xs lo hi)))
theorem sl_list : SlR X (rSlL X.K) := by
 intro pins s σ H x v vl vu lo hi sl Q I rx hs pl pu h
 obtain ⟨a, xs, rfl, hx, q⟩ := h
 cases rx
 obtain ⟨its, r, ht, hz⟩ := I.list hx
 have hlen := r.length
 refine ⟨"list", _, slot_list_getitem.lookup, ht.isList.typeIs, ?_⟩
 refine wpAny_getItem_list_slice ht.isList hs pl pu .none (by simp) ?_ (by rw [List.size_toArray] <;> omega)
 rw [slicePick_cut, ← hlen]
 refine ⟨.ref s.heap.objs.size, _, I.laid (t' := s.toks) (o := .lst (cutV xs lo hi)) (fun b ob q => Heap.get?_push_of_some _ q) (Nat.le_refl _) ?_, rfl, q _ (I.hok.fresh (Nat.le_refl _))⟩
 exact ⟨Nat.le_trans (cutV_length xs lo hi) hz, _, 0, (r.drop (HT.sIx xs.length 0 lo)).take (HT.sIx xs.length xs.length hi - HT.sIx xs.length 0 lo), Heap.get?_push_size _ rfl⟩
def flatV : V -> Bool
 | .non => true
 | .bl _ => true
 | .int _ => true
 | .str _ => true
 | _ => false
def eqV : V -> V -> Bool
 | .non, .non => true
 | .bl a, .bl b => a == b
 | .bl a, .int b => (if a then 1 else 0) == b
 | .int a, .bl b => a == (if b then 1 else 0)
 | .int a, .int b => a == b
 | .str a, .str b => a == b
 | _, _ => false
def inV (x : V) (xs : List V) : Bool := xs.any fun y => eqV y x
def rIn (K : PySem.W.Frag) (neg : Bool) : R2 := fun x y H Q => ∃ p xs, y = .ref p ∧ (SqL K H p xs ∨ SqT K H p xs) ∧ flatV x = true ∧ xs.all flatV = true ∧ Q (.bl (if neg then !inV x xs else inV x xs)) H
theorem call_len_seq : CallR X (.builtin "len") (fun xs H Q => ∃ p ys, xs = [.ref p] ∧ (SqL X.K H p ys ∨ SqT X.K H p ys) ∧ Q (.int ys.length) H) := by
 intro pins s σ H xs us Q I r h
 obtain ⟨p, ys, rfl, hq, q⟩ := h
 obtain ⟨u, rfl, rx⟩ := vals1 r
 cases rx
 have hn := line63
 rcases hq with hq | hq
 ·obtain ⟨its, r', pl, hz⟩ := I.list hq
  have hlen := r'.length
  exact Calls.call_len_list pl.isList (by simp only [List.size_toArray] <;> omega) ⟨.int ys.length, H, I.tok _, ⟨s.toks + 1, by rw [List.size_toArray, hlen]⟩, q⟩
 ·obtain ⟨its, r', pl, hz⟩ := I.tuple hq
  have hlen := r'.length
  exact len_tuple pl (by simp only [List.size_toArray] <;> omega) ⟨.int ys.length, H, I.tok _, ⟨s.toks + 1, by rw [List.size_toArray, hlen]⟩, q⟩
theorem call_list_of : CallR X (.type "list") (fun xs H Q => ∃ p ys, xs = [.ref p] ∧ (SqL X.K H p ys ∨ SqT X.K H p ys) ∧ ∀ l, H l = none -> Q (.ref l) (upd H l (.lst ys))) := by
 intro pins s σ H xs us Q I r h
 obtain ⟨p, ys, rfl, hq, q⟩ := h
 obtain ⟨u, rfl, rx⟩ := vals1 r
 cases rx
 have fin : ∀ (its : List Value), Vals ys its -> ys.length <= sizeLine -> ∀ (h' : Heap) (c' : Nat), (∀ b o', s.heap.get? b = some o' -> h'.get? b = some o') ->
   h'.get? s.heap.objs.size = some { cls := .type "list", dict := none, data := .seq its.toArray c', slots := #[] } -> EP X pins σ Q (.ref s.heap.objs.size) { s with heap := h' } := fun its r' hz h' c' kp e =>
  ⟨.ref s.heap.objs.size, _, I.laid (t' := s.toks) kp (Nat.le_refl _) (show ObjOk X.prog X.w _ h' _ (.lst ys) from ⟨hz, its, c', r', e⟩), rfl, q _ (I.hok.fresh (Nat.le_refl _))⟩
 rcases hq with hq | hq
 ·obtain ⟨its, r', pl, hz⟩ := I.list hq
  have hlen := r'.length
  obtain ⟨o, ho, hc, n, hd⟩ := pl.isList
  exact call_list_seq p (.inl rfl) ho hc hd (fun h' c' kp e => fin its r' hz h' c' kp e) (by simp only [List.size_toArray] <;> omega)
 ·obtain ⟨its, r', pl, hz⟩ := I.tuple hq
  have hlen := r'.length
  obtain ⟨o, ho, hc, n, hd⟩ := pl
  exact call_list_seq p (.inr rfl) ho hc hd (fun h' c' kp e => fin its r' hz h' c' kp e) (by simp only [List.size_toArray] <;> omega)
theorem call_tuple_of : CallR X (.type "tuple") (fun xs H Q => ∃ p ys, xs = [.ref p] ∧ ((SqL X.K H p ys ∧ ∀ l, H l = none -> Q (.ref l) (upd H l (.tup ys))) ∨ (SqT X.K H p ys ∧ Q (.ref p) H))) := by
 intro pins s σ H xs us Q I r h
 obtain ⟨p, ys, rfl, h⟩ := h
 obtain ⟨u, rfl, rx⟩ := vals1 r
 cases rx
 rcases h with ⟨hq, q⟩ | ⟨hq, q⟩
 ·obtain ⟨its, r', pl, hz⟩ := I.list hq
  have hlen := r'.length
  refine call_tuple_list pl.isList (fun h' kp => ?_) (by simp only [List.size_toArray] <;> omega)
  have I1 : Inv X pins σ H { s with heap := h' } := I.kept (t' := s.toks) kp
  have I2 : Inv X pins σ (upd H h'.objs.size (.tup ys)) { s with heap := h'.push { cls := .type "tuple", data := .seq its.toArray } } :=
   I1.laid (t' := s.toks) (fun b o e => Heap.get?_push_of_some _ e) (Nat.le_refl _) (show ObjOk X.prog X.w _ _ _ (.tup ys) from ⟨hz, its, r', IsTup.new _ _⟩)
  exact ⟨.ref h'.objs.size, _, I2, rfl, q _ (I1.hok.fresh (Nat.le_refl _))⟩
 ·obtain ⟨its, r', pl, hz⟩ := I.tuple hq
  exact call_tuple_same pl ⟨.ref p, H, I, rfl, q⟩
def tyV (K : PySem.W.Frag) (T : String) (x : V) (H : Hp) : Prop := match x with
 | .str _ => T = "str"
 | .int _ => T = "int"
 | .ref p => (T = "list" ∧ ∃ xs, SqL K H p xs) ∨ (T = "tuple" ∧ ∃ o, K.lookup p = some o ∧ o.cls = .type "tuple" ∧ o.dict = none) ∨
   (T = "dict" ∧ ((∃ kvs, H p = some (.dK kvs)) ∨ ∃ kvs, H p = some (.dT kvs))) ∨ (T = "set" ∧ ∃ S n, H p = some (.set S n))
 | _ => False
theorem tyV_is {pins : List (Addr × Obj)} {σ : St} {H : Hp} {s : Shared} {T : String} {x : V} {v : Value} (I : Inv X pins σ H s) (r : RelV x v) (ty : tyV X.K T x H) :
  s.TypeIs v T ∧ ∀ a, v = .ref a -> ∃ ob, s.heap.get? a = some ob ∧ ob.dict = none := by
 cases x with
 | str z =>
  obtain ⟨t, rfl⟩ := r
  cases (show T = "str" from ty)
  exact ⟨typeIs_str s z t, fun _ e => nomatch e⟩
 | int i =>
  obtain ⟨t, rfl⟩ := r
  cases (show T = "int" from ty)
  exact ⟨typeIs_int s i t, fun _ e => nomatch e⟩
 | ref p =>
  cases r
  rcases ty with ⟨rfl, xs, hq⟩ | ⟨rfl, o, hk, hc, hd⟩ | ⟨rfl, hk⟩ | ⟨rfl, S, n, hk⟩
  ·obtain ⟨its, _, pl, _⟩ := I.list hq
   refine ⟨pl.isList.typeIs, fun a e => ?_⟩
   cases e
   obtain ⟨o, n, e, c, hd, _⟩ := pl
   exact ⟨o, e, hd⟩
  ·refine ⟨⟨o, I.kIn p o hk, hc⟩, fun a e => ?_⟩
   cases e
   exact ⟨o, I.kIn _ o hk, hd⟩
  ·have z : ∃ o, s.heap.get? p = some o ∧ o.ExactDict := by
    rcases hk with ⟨kvs, hk⟩ | ⟨kvs, hk⟩
    ·obtain ⟨_, _, _, _, o, _, _, e, ex, _⟩ := I.hok p _ hk
     exact ⟨o, e, ex⟩
    ·obtain ⟨_, _, _, _, o, _, _, e, ex, _⟩ := I.hok p _ hk
     exact ⟨o, e, ex⟩
   obtain ⟨o, e, ex⟩ := z
   refine ⟨⟨o, e, ex.1⟩, fun a e2 => ?_⟩
   cases e2
   exact ⟨o, e, ex.2.1⟩
  ·obtain ⟨o, _, _, _, e, ex, _⟩ := I.hok p _ hk
   refine ⟨⟨o, e, ex.1⟩, fun a e2 => ?_⟩
   cases e2
   exact ⟨o, e, ex.2.1⟩
 | _ => exact False.elim ty
def tBM0 (K : PySem.W.Frag) (T : String) (r : V -> List V -> Hp -> VK -> Prop) (to : TE) : TE := fun σ H Q => to σ H fun x H1 => tyV K T x H1 ∧ r x [] H1 Q
def tBM (K : PySem.W.Frag) (T : String) (r : V -> List V -> Hp -> VK -> Prop) (to : TE) (t : TA) : TE := fun σ H Q => to σ H fun x H1 => tyV K T x H1 ∧ t σ H1 fun xs H2 => r x xs H2 Q
variable {o e : Expr} {es : List Expr} {to : TE} {t : TA} {name : Str} {apos cpos : Pos} {T id : String} {r : V -> List V -> Hp -> VK -> Prop}
theorem pe_bm0 (pa : PlainAttrs T) (slot : Slot T name id) (hty : typeOf (.builtin id) = pure (.type "method_descriptor")) (hm : MtR X id r) (ho : PE X o to)
  (hbase : attributeBase o name X.env (eval o X.env) = eval o X.env := by rfl) (hline : (apos.endLine == cpos.line) = true := by rfl) : PE X (.Call (.Attribute o name apos) [] [] cpos) (tBM0 X.K T r to) := by
 intro pins s σ H Q I h
 refine wpAny_Call_method0_late hbase hline (thn (ho pins s σ H _ I h) fun v s1 ⟨x, H1, I1, r1, ty, q1⟩ => ?_)
 obtain ⟨h1, h2⟩ := tyV_is I1 r1 ty
 exact ⟨T, id, pa, slot, hty, h1, h2, Calls.callWith_builtin rfl (PySem.evalArgs_none (hm pins s1 σ H1 x [] v [] Q I1 r1 .nil q1))⟩
theorem pe_bm (pa : PlainAttrs T) (slot : Slot T name id) (hty : typeOf (.builtin id) = pure (.type "method_descriptor")) (hm : MtR X id r) (ho : PE X o to) (ha : PA X (e :: es) t)
  (hbase : attributeBase o name X.env (eval o X.env) = eval o X.env := by rfl)
  (hfew : ((backTo cpos (starEach (e :: es) X.env)).all (fun x => !x.1) && (backToKw cpos (keywordEach [] X.env)).all (fun x => x.1.isSome)
   && decide ((e :: es).length + ([] : List Keyword).length + (if ([] : List Keyword).isEmpty then 0 else 1) < 30)) = true := by rfl)
  (hline : (apos.endLine == cpos.line) = true := by rfl) (hs : starEach (e :: es) X.env = (false, eval e X.env) :: starEach es X.env := by rfl) (hplain : (backTo cpos (starEach es X.env)).any (·.1) = false := by rfl) :
  PE X (.Call (.Attribute o name apos) (e :: es) [] cpos) (tBM X.K T r to t) := by
 intro pins s σ H Q I h
 refine wpAny_Call_method_late hbase hfew hline rfl (thn (ho pins s σ H _ I h) fun v s1 ⟨x, H1, I1, r1, ty, q1⟩ => ?_)
 obtain ⟨h1, h2⟩ := tyV_is I1 r1 ty
 refine ⟨T, id, pa, slot, hty, h1, h2, ?_⟩
 have hA := ha cpos pins s1 σ H1 _ I1 q1
 rw [hs] at hA ⊢
 refine Calls.callWith_builtin (by show (false || (backTo cpos (starEach es X.env)).any (·.1)) = false; rw [hplain] <;> rfl) (Calls.evalArgs_plain ?_)
 exact thn hA fun us s2 ⟨vs, H2, I2, r2, q2⟩ => hm pins s2 σ H2 x vs v us Q I2 r1 r2 q2
/- xs.append(e), list.index on a module's tuple .. are MtR facts of 06m -/
end
end L2
namespace L2
open PySem PySem.Spec PyProof.Rows
def MtM (X : Cx) (id : String) (r : V -> List V -> Hp -> VK -> Prop) : Prop :=
 ∀ (pins : List (Addr × Obj)) (s : Shared) (σ : St) (H : Hp) (x : V) (xs : List V) (v : Value) (us : List Value) (Q : VK), Inv X pins σ H s -> RelV x v -> Vals xs us -> r x xs H Q ->
  wpAny (model X.prog X.w) X.A (call (.builtin id) (v :: us)) (EP X pins σ Q) X.xe s
theorem Vals.one : ∀ {x : V} {us : List Value}, Vals [x] us -> ∃ u, us = [u] ∧ RelV x u
 | _, _, .cons r .nil => ⟨_, rfl, r⟩
theorem Vals.dropLast {xs : List V} {us : List Value} (h : Vals xs us) : Vals xs.dropLast us.dropLast := by
 induction h with
 | nil => exact .nil
 | cons r t ih =>
  cases t with
  | nil => exact .nil
  | cons q t' => exact .cons r ih
section
variable {X : Cx} {pins : List (Addr × Obj)} {σ : St} {H : Hp} {s : Shared} {l b : Addr} {xs ys zs : List V}
theorem Inv.lset {its its' : List Value} {n : Nat} {f : Array Value -> Array Value} {t' : Nat} (I : Inv X pins σ H s) (hH : H l = some (.lst xs))
  (e : s.heap.get? l = some { cls := .type "list", data := .seq its.toArray n }) (hf : f its.toArray = its'.toArray) (hv : Vals ys its') (hz : ys.length <= sizeLine) :
  Inv X pins σ (upd H l (.lst ys)) { s with heap := s.heap.update l (Obj.mapSeq f), toks := t' } := by
 have q := PySem.IsL.update e f
 rw [hf] at q
 refine I.write (x := l) (e := l) (by rw [hH]; exact trivial) (.inl rfl) (fun b' u hb hu => (Heap.get?_update_other s.heap (Obj.mapSeq f) (Ne.symm hb)).trans hu) ⟨_, q⟩ ?_
 exact ⟨hz, its', _, hv, q⟩
theorem Inv.lnew {its : List Value} {t' : Nat} (I : Inv X pins σ H s) (hv : Vals ys its) (hz : ys.length <= sizeLine) :
  Inv X pins σ (upd H s.heap.objs.size (.lst ys)) { s with heap := s.heap.push { cls := .type "list", data := .seq its.toArray }, toks := t' } :=
 I.laid (fun _ _ q => Heap.get?_push_of_some _ q) (Nat.le_refl _) ⟨hz, its, 0, hv, Heap.get?_push_size _ rfl⟩
theorem Inv.fresh (I : Inv X pins σ H s) : H s.heap.objs.size = none := I.hok.fresh (Nat.le_refl _)
theorem Inv.lstM (I : Inv X pins σ H s) (hH : H l = some (.lst xs)) : xs.length <= sizeLine ∧ ∃ (its : List Value) (n : Nat), Vals xs its ∧ xs.length = its.length ∧ s.heap.get? l = some { cls := .type "list", data := .seq its.toArray n } := by
 obtain ⟨z, its, n, r, e⟩ := I.hok l _ hH
 exact ⟨z, its, n, r, r.length, e⟩
theorem notLongL {n : Nat} (h : n <= sizeLine) : Builtin.List.listTooLong n = false := by
 unfold Builtin.List.listTooLong
 exact decide_eq_false (by omega)
end
section
variable {X : Cx}
def rAppend : V -> List V -> Hp -> VK -> Prop := fun x vs H Q => ∃ l xs y, x = .ref l ∧ vs = [y] ∧ H l = some (.lst xs) ∧ xs.length < sizeLine ∧ Q .non (upd H l (.lst (xs ++ [y])))
theorem mt_append : MtM X "list.append" rAppend := by
 intro pins s σ H x vs v us Q I rx rv h
 obtain ⟨l, xs, y, rfl, rfl, hH, hz, q⟩ := h
 cases rx
 obtain ⟨u, rfl, ru⟩ := rv.one
 obtain ⟨z, its, n, r, hl, e⟩ := I.lstM hH
 refine call_meets F.slot_list_append ⟨_, e, rfl⟩ F.entry_list_append (F.args_list_append_2 _ _) (PySem.list_append l its.toArray n u (by rw [List.size_toArray]; omega)) ⟨e, ?_⟩
 refine ⟨.non, _, I.lset (its' := its ++ [u]) hH e (by simp) (r.append (.cons ru .nil)) ?_, rfl, q⟩
 rw [List.length_append, List.length_singleton]
 omega
def rExtend : V -> List V -> Hp -> VK -> Prop := fun x vs H Q => ∃ l b xs zs, x = .ref l ∧ vs = [.ref b] ∧ H l = some (.lst xs) ∧ H b = some (.lst zs) ∧ xs.length + zs.length <= sizeLine ∧ Q .non (upd H l (.lst (xs ++ zs)))
theorem mt_extend : MtM X "list.extend" rExtend := by
 intro pins s σ H x vs v us Q I rx rv h
 obtain ⟨l, b, xs, zs, rfl, rfl, hH, hB, hz, q⟩ := h
 cases rx
 obtain ⟨u, rfl, ru⟩ := rv.one
 cases ru
 obtain ⟨z, its, n, r, hl, e⟩ := I.lstM hH
 obtain ⟨z2, its2, n2, r2, hl2, e2⟩ := I.lstM hB
 have hsz : its.toArray.size + its2.toArray.size <= sizeLine := by rw [List.size_toArray, List.size_toArray]; omega
 have hlong : ¬ (!its.toArray.isEmpty && Builtin.List.listTooLong (its.toArray.size + its2.toArray.size)) = true := by
  rw [notLongL hsz, Bool.and_false]
  exact Bool.false_ne_true
 refine call_meets F.slot_list_extend ⟨_, e, rfl⟩ F.entry_list_extend (F.args_list_extend_2 _ _)
  (AutoSeq1.list_extend_list_list_0 l its.toArray n b its2.toArray n2 hlong (by rw [List.size_toArray]; omega) (by omega)) ⟨e, e2, ?_⟩
 refine ⟨.non, _, I.lset (its' := its ++ its2) hH e (by simp) (r.append r2) ?_, rfl, q⟩
 rw [List.length_append]
 omega
def rPop : V -> List V -> Hp -> VK -> Prop := fun x vs H Q => ∃ l xs y, x = .ref l ∧ vs = [] ∧ H l = some (.lst xs) ∧ xs[xs.length - 1]? = some y ∧ Q y (upd H l (.lst xs.dropLast))
def rClear : V -> List V -> Hp -> VK -> Prop := fun x vs H Q => ∃ l xs, x = .ref l ∧ vs = [] ∧ H l = some (.lst xs) ∧ Q .non (upd H l (.lst []))
def rCat : R2 := fun x y H Q => ∃ l b xs zs, x = .ref l ∧ y = .ref b ∧ H l = some (.lst xs) ∧ H b = some (.lst zs) ∧ xs.length + zs.length <= sizeLine ∧ ∀ p, H p = none -> Q (.ref p) (upd H p (.lst (xs ++ zs)))
theorem op_cat : OpR X (binaryOp .Add) rCat := by
 intro pins s σ H x y v u Q I rx ry h
 obtain ⟨l, b, xs, zs, rfl, rfl, hH, hB, hz, q⟩ := h
 cases rx
 cases ry
 obtain ⟨z, its, n, r, hl, e⟩ := I.lstM hH
 obtain ⟨z2, its2, n2, r2, hl2, e2⟩ := I.lstM hB
 refine PySem.P.add_list e e2 ?_ (by rw [List.size_toArray, List.size_toArray]; omega)
 have ea : its.toArray ++ its2.toArray = (its ++ its2).toArray := by simp
 rw [ea]
 exact ⟨.ref _, _, I.lnew (t' := s.toks) (r.append r2) (by rw [List.length_append]; omega), rfl, q _ I.fresh⟩
def rRep : R2 := fun x y H Q => ∃ l k xs, x = .ref l ∧ y = .int k ∧ H l = some (.lst xs) ∧ -(2 ^ 63) <= k ∧ k < 2 ^ 63 ∧ xs.length * k.toNat <= sizeLine ∧
 ∀ p, H p = none -> Q (.ref p) (upd H p (.lst (List.replicate k.toNat xs).flatten))
end
section
variable {prog : Program} {w : World} {A : Around} {E : Value -> Shared -> Prop} {s : Shared}
end
section
variable {X : Cx}
end
end L2
namespace Att
open PySem PySem.W PySem.Calls PyProof.Rows
theorem ints_of_wellAll {P : Params} {h : Heap} : ∀ (ns : List Int) (vs : List Value), WellAll P h vs (ns.map WData.int) -> IntsAre vs ns := by
 intro ns
 induction ns with
 | nil =>
  intro vs w
  rw [List.map_nil] at w
  cases w
  exact .nil
 | cons n ns ih =>
  intro vs w
  rw [List.map_cons] at w
  cases w with
  | cons a b =>
   cases a
   exact .cons _ _ (ih _ b)
theorem script_of {l : OpenLaw} {n : Nat} (hn : l.most = some n) {P : Params} {h : Heap} {args : List WData} {vals : List Value}
  (hpre : l.row.toRowW.claim.pre args = true) (hwl : WellAll P h vals args) :
  ∃ a vs ns, vals = [Value.ref a] ∧ args = [WData.list (ns.map WData.int)] ∧ h.get? a = some { cls := .type "list", data := .seq vs.toArray } ∧ IntsAre vs ns ∧ ns.length <= n := by
 have hsh : WShape.hasAll [] args [.list .int] = true := (pre_splitW hpre).1
 have hc : l.pre.holds [] { args := args } = true := (pre_splitW hpre).2
 obtain ⟨d, r, rfl, h1, h2⟩ := hasAllW_cons hsh
 obtain rfl := hasAllW_nil h2
 obtain ⟨xs, rfl, h3⟩ := hasW_list h1
 obtain ⟨ns, rfl⟩ := items_int h3
 have hlen : ns.length <= n := by
  unfold OpenLaw.pre at hc
  have h4 : (WTm.not (.lt (.lit (.int (n : Int))) (.len (.arg 0)))).holds [] { args := [.list (ns.map .int)] } = true := by
   have h4 := (holds_andW hc).1
   rw [hn] at h4
   exact h4
  have h5 := condW_of h4 (w_not (w_lt w_lit (w_len_list (w_arg rfl))))
  rw [List.length_map] at h5
  refine Nat.le_of_not_lt fun q => ?_
  have q' : (n : Int) < ((ns.length : Nat) : Int) := by omega
  first
   |(rw [decide_eq_true q'] at h5; exact absurd h5 (by decide))
   |(simp at h5; omega)
 cases hwl with
 | cons w1 w2 =>
  cases w2
  cases w1 with
  | list ho hall => exact ⟨_, _, ns, rfl, rfl, ho, ints_of_wellAll ns _ hall, hlen⟩
theorem post_true (l : OpenLaw) (args : List WData) : l.row.toRowW.claim.post args (.bool true) args = true :=
 postW_of (r := l.row.toRowW) (X := (true == true))
  (show WShape.has [] (.bool true) .bool = true by first | rfl | decide | simp [WShape.has, WShape.arms, WShape.armsAll])
  (show (WTm.eq .res (.lit (.bool true))).value [] { args := args, res := some (.bool true), after := args } = some (.bool (true == true)) from w_eq_bool (w_res rfl) w_lit) rfl
theorem attach_call {l : OpenLaw} {n : Nat} {q : Program} {loose : List Str} {XP : (Str -> Option Value) -> Heap -> Prop} {YP : World -> Heap -> Prop} {d : DefRec}
  (hn : l.most = some n) (hdf : d.params.defaults = [])
  (call : ∀ (w : World) (s₀ s₁ : Shared) (mg mb : Str -> Option Value) (fa : Addr) (o : Obj) (pm cd doc : Value) (a : Addr) (vs : List Value) (ns : List Int),
   Ground q loose [] XP w s₀ mg mb s₁.heap -> YP w s₁.heap ->
   s₁.heap.get? fa = some o -> o.data = .func (docDef d.name d.params d.body d.scope pm cd doc) -> s₁.heap.CodeRec cd d.name -> mg d.name = some (.ref fa) ->
   s₁.heap.get? a = some { cls := .type "list", data := .seq vs.toArray } -> IntsAre vs ns -> ns.length <= n -> s₁.gens = #[] ->
   codeAny (model l.prog w) callerA (.call (.ref fa) ⟨[.ref a], []⟩) (fun r s' => r = .ok (.ret (.bool true)) ∧ OldK s₁.heap s'.heap ∧ s'.os = s₁.os ∧ AllBare s'.gens) s₁) :
  WalkO q loose XP YP l.row.toRowW d [] (fun f vs => PySem.call f vs) := by
 intro w s₀ s₁ mg mb G Y fa o pm cd doc dV kV ho hd hcd hD hmg hg args vals as hpre hlay hrd hwl hlo
 obtain rfl : dV = .none := Dflts.none hD hdf
 obtain rfl : kV = .none := Dflts.noKw hD
 obtain ⟨a, vs, ns, rfl, rfl, hobj, hints, hlen⟩ := script_of hn hpre hwl
 refine enter_call (codeAny_mono (call w s₀ s₁ mg mb fa o pm cd doc a vs ns G Y ho (fd_plain hd) hcd hmg hobj hints hlen hg) fun r s' hq => ?_)
 obtain ⟨rfl, h2, h3, h4⟩ := hq
 exact ⟨.inl ⟨.bool true, .bool true, [], rfl, fun _ => rfl, .bool true, post_true l _, fun _ => ⟨List.Pairwise.nil, fun _ hm => (nomatch hm)⟩⟩, h2, h3, h4⟩
section
variable {prog : Program} {w : World} {A : Around} {E : Value -> Shared -> Prop} {s : Shared} {K : Frag}
def ledger (h : Heap) (L d : Addr) : List (Addr × Obj) := (List.range h.objs.size).filterMap fun a => if a = L ∨ a = d then none else (h.get? a).map fun o => (a, o)
end
end Att
namespace L2
open PySem PySem.Spec PyProof.Rows
theorem vals_ints : ∀ {vs : List Value} {ns : List Int}, IntsAre vs ns -> Vals (ns.map V.int) vs
 | _, _, .nil => .nil
 | _, _, .cons n t h => .cons ⟨t, rfl⟩ (vals_ints h)
def Only (H : Hp) : Prop := ∀ b, H b = none ∨ ∃ o xs, H b = some (.frz o (.lst xs))
theorem law_call {P : Program} {w : World} {K : PySem.W.Frag} {mg mb : Str -> Option Value} {CX : CXT} {k : Nat} {fa a : Addr} {fd : FuncData} {x : Str} {sp : Sp} {s₁ : Shared} {vs : List Value} {ns : List Int}
  (KX : K.In s₁.heap) (hns : s₁.heap.Ns mainGlobals mg) (hb : s₁.heap.Ns builtinsNs mb) (hbb : ∀ x : Str, x ≠ "__name__" -> mb x = bootBuiltins x) (hlim : s₁.heap.NoLimit) (hg : s₁.gens = #[])
  (ha : s₁.heap.get? a = some { cls := .type "list", data := .seq vs.toArray }) (hi : IntsAre vs ns) (hl : ns.length <= sizeLine) (hr : Room k callerA)
  (F : ∀ base : Heap, K.In base -> base.Ns mainGlobals mg -> FnOk P w K mg base CX k fa fd [x] sp) (hbind : ∀ (s : Shared) (u : Value), BindsTo s fd ⟨[u], []⟩ [(x, u)])
  (hsp : ∀ H : Hp, Only H -> SqL K H a (ns.map V.int) -> sp [.ref a] H (fun v _ => v = .bl true) fun _ _ _ => False)
  (hCX : ∀ H e s', CX [] H s₁ (fun _ _ _ => False) e s' -> False) :
  codeAny (model P w) callerA (.call (.ref fa) ⟨[.ref a], []⟩) (fun r s' => r = .ok (.ret (.bool true)) ∧ OldK s₁.heap s'.heap ∧ s'.os = s₁.os ∧ AllBare s'.gens) s₁ := by
 have rv := vals_ints hi
 have lenV := hi.length
 have core : ∀ H : Hp, Only H -> SqL K H a (ns.map V.int) -> HOk P w H s₁.heap -> (∀ b, H b ≠ none -> b = a) -> (H a ≠ none -> K.lookup a = none) ->
   codeAny (model P w) callerA (.call (.ref fa) ⟨[.ref a], []⟩) (fun r s' => r = .ok (.ret (.bool true)) ∧ OldK s₁.heap s'.heap ∧ s'.os = s₁.os ∧ AllBare s'.gens) s₁ := by
  intro H hO hS hok hA hK
  have base_of : ∀ {b : Addr} {o : Obj}, s₁.heap.get? b = some o -> H b = none -> (hidT s₁.heap H).get? b = some o := fun e n => hidT_get e n
  have noA : ∀ {b : Addr} {o : Obj} {es : Array DictEntry} {ep : Nat}, s₁.heap.get? b = some o -> o.data = .dict es ep -> H b = none := fun {b o es ep} e d => by
   cases q : H b with
   | none => rfl
   | some u =>
    have e' : b = a := hA b (by rw [q]; simp)
    subst e'
    rw [ha] at e; cases e
    have d' : Data.seq vs.toArray _ = Data.dict es ep := d
    cases d'
  have nsK : ∀ {b : Addr} {m : Str -> Option Value}, s₁.heap.Ns b m -> (hidT s₁.heap H).Ns b m := fun {b m} ⟨o, es, ep, e, d, r⟩ => ⟨o, es, ep, base_of e (noA e d), d, r⟩
  have hKb : K.In (hidT s₁.heap H) := fun b o e => base_of (KX b o e) (by
   cases q : H b with
   | none => rfl
   | some u =>
    have e' : b = a := hA b (by rw [q]; simp)
    subst e'
    rw [hK (by rw [q]; simp)] at e; cases e)
  have hM : Mod K mg (hidT s₁.heap H) := ⟨hKb, nsK hns, ⟨mb, nsK hb, hbb⟩, let ⟨mc, h1, h2⟩ := hlim; ⟨mc, nsK h1, h2⟩⟩
  have e0 : Env0 P w K mg (hidT s₁.heap H) callerA [] s₁ H := ⟨rfl, hM, fun b o e => of_hidT e, Nat.le_of_eq (hidT_size _ _), trivial, fun b hb => absurd (show b ∈ ([] : List Addr) from hb) (by simp), hok, .of_eq hg⟩
  refine codeAny_mono ((F _ hKb (nsK hns)).run callerA [] s₁ H ⟨[.ref a], []⟩ [.ref a] [.ref a] _ _ hr e0 (hbind s₁ (.ref a)) (.cons rfl .nil) (hsp H hO hS)) fun r s' h => ?_
  cases r with
  | error e => exact (hCX H e s' h).elim
  | ok fl =>
   cases fl with
   | next => exact False.elim h
   | brk => exact False.elim h
   | cont => exact False.elim h
   | ret u =>
    obtain ⟨v, H', os, bare, un, hok', r', q⟩ := h
    have q' : v = .bl true := q
    subst q'
    obtain rfl : u = Value.bool true := r'
    refine ⟨rfl, OldK.of_keep fun b o e => ?_, os, bare⟩
    cases q : H b with
    | none => exact un.keep b o e q (by intro z; exact absurd (show b ∈ ([] : List Addr) from z) (by simp)) (by simp)
    | some u =>
     rcases hO b with z | ⟨ob, xs, z⟩
     ·rw [q] at z; cases z
     ·have z2 := un.frzs b ob _ z
      obtain ⟨e1, _⟩ := hok b _ z
      obtain ⟨e2, _⟩ := hok' b _ z2
      rw [e] at e1; cases e1
      exact e2
 cases hk : K.lookup a with
 | some o =>
  have e := KX a o hk
  rw [ha] at e
  cases e
  refine core (fun _ => none) (fun _ => .inl rfl) (.inr ⟨_, vs.toArray, _, hk, rfl, rfl, rfl, by rw [List.size_toArray, lenV]; exact hl, by simpa using rv⟩) (fun b u z => by have z' : (none : Option HO) = some u := z; cases z') (fun b z => absurd rfl z) fun z => absurd rfl z
 | none =>
  refine core (fun b => if b = a then some (.frz { cls := .type "list", data := .seq vs.toArray } (.lst (ns.map V.int))) else none) (fun b => ?_) (.inl (.inr ⟨{ cls := .type "list", data := .seq vs.toArray }, if_pos rfl⟩)) (fun b u z => ?_) (fun b z => ?_) fun _ => hk
  ·by_cases hb : b = a
   ·exact .inr ⟨_, _, if_pos hb⟩
   ·exact .inl (if_neg hb)
  ·by_cases hb : b = a
   ·have z' := (if_pos hb).symm.trans z
    cases z'
    subst hb
    exact ⟨ha, by rw [List.length_map]; exact hl, vs, _, rv, ha⟩
   ·have z' := (if_neg hb).symm.trans z
    cases z'
  ·by_cases hb : b = a
   ·exact hb
   ·exact absurd (if_neg hb) z
end L2
namespace L2
open PySem PySem.Spec PyProof.Rows
theorem walk_of {l : PySem.W.OpenLaw} {n k : Nat} {q : Program} {loose : List Str} {XP : (Str -> Option Value) -> Heap -> Prop} {YP : World -> Heap -> Prop} {d : DefRec} {K : Params -> PySem.W.Frag} {CX : World -> CXT} {sp : World -> Sp} {x : Str}
  (hn : l.most = some n) (hn2 : n <= sizeLine) (hdf : d.params.defaults = []) (hr : Room k callerA)
  (hY : ∀ (w : World) (h : Heap), YP w h -> (K w.params).In h)
  (F : ∀ (w : World) (mg : Str -> Option Value) (fa : Addr) (h : Heap), (K w.params).In h -> h.Ns mainGlobals mg -> mg d.name = some (.ref fa) ->
   ∃ fd : FuncData, (∀ (s : Shared) (u : Value), BindsTo s fd ⟨[u], []⟩ [(x, u)]) ∧
    ∀ base : Heap, (K w.params).In base -> base.Ns mainGlobals mg -> FnOk l.prog w (K w.params) mg base (CX w) k fa fd [x] (sp w))
  (hsp : ∀ (w : World) (H : Hp) (a : Addr) (ns : List Int), ns.length <= n -> Only H -> SqL (K w.params) H a (ns.map V.int) -> sp w [.ref a] H (fun v _ => v = .bl true) fun _ _ _ => False)
  (hCX : ∀ (w : World) (H : Hp) (s : Shared) (e : Value) (s' : Shared), CX w [] H s (fun _ _ _ => False) e s' -> False) :
  PySem.W.WalkO q loose XP YP l.row.toRowW d [] (fun f vs => PySem.call f vs) := by
 refine Att.attach_call hn hdf fun w s₀ s₁ mg mb fa o pm cd doc a vs ns G Y ho hd hcd hmg hobj hints hlen hg => ?_
 have KX := hY w _ Y
 obtain ⟨fd, hb, hF⟩ := F w mg fa _ KX G.T.g hmg
 exact law_call KX G.T.g G.T.b G.T.builtins G.T.nolimit hg hobj hints (Nat.le_trans hlen hn2) hr hF hb (fun H hO hS => hsp w H a ns hlen hO hS) fun H e s' => hCX w H s₁ e s'
end L2
namespace L2
open PySem PySem.Spec PyProof.Rows
def defArgs (s : Stmt) : Arguments := match s with
 | .FunctionDef _ a _ _ _ _ _ _ _ _ => a
 | _ => { posonlyargs := [], args := [], vararg := none, kwonlyargs := [], kw_defaults := [], kwarg := none, defaults := [] }
def defBody (s : Stmt) : List Stmt := match s with
 | .FunctionDef _ _ b _ _ _ _ _ _ _ => b
 | _ => []
def defScope (s : Stmt) : Scope := match s with
 | .FunctionDef _ _ _ _ _ _ sc _ _ _ => sc
 | _ => { kind := .function, names := [], isGenerator := false, isCoroutine := false }
abbrev CX0 : CXT := fun _ _ _ _ _ _ => False
abbrev E0 : XK := fun _ _ _ => False
theorem pass0 {X : Cx} : Passes CX0 X E0 := fun _ _ _ _ _ _ _ h => h.elim
structure Fun (K : PySem.W.Frag) (x qual : Str) (st : Stmt) (f : Addr) (fd : FuncData) : Prop where
 ex : ∃ (oc : Value) (od : Option Addr) (kV doc pm : Value) (an : Option Addr) (cdv ct : Value) (osl : Array (Option Value)),
  fd = PySem.W.fnOf x qual (defArgs st) (defBody st) (defScope st) .none kV doc pm an cdv ct ∧ K.lookup f = some ⟨oc, od, .func fd, osl⟩ ∧ PySem.W.codeIn K cdv qual = true
 kp : PySem.W.keepIn K (.ref f) = true
section
variable {P : Program} {w : World} {K : PySem.W.Frag} {mg : Str -> Option Value} {base : Heap}
theorem Fun.ok {x qual : Str} {st : Stmt} {f : Addr} {fd : FuncData} {N ps : List Str} {k : Nat} {sp : Sp} (F : Fun K x qual st f fd) (S : FnScope N ps (defScope st)) (len : ∀ vs H Q E, sp vs H Q E -> vs.length = ps.length)
  (hbody : ∀ (cdv : Value) (A : Around) (outer : List Env) (s : Shared) (H : Hp) (vs : List V) (Q : VK) (E : XK), Room k (A.deeper (envOfC qual (defScope st) s.heap.objs.size f cdv)) -> sp vs H Q E ->
   ∃ t, PSs (cxOf CX0 P w K mg base N qual (defScope st) f cdv A outer s H E).nox (defBody st) t ∧ t { nx := fun _ H' => Q .non H', rt := Q } (start N vs) H) : FnOk P w K mg base CX0 (k + 1) f fd ps sp := by
 obtain ⟨oc, od, kV, doc, pm, an, cdv, ct, osl, rfl, lk, hcd⟩ := F.ex
 refine fn_of lk hcd S len fun A outer s H vs Q E hr hsp => ?_
 obtain ⟨t, h, q⟩ := hbody cdv A outer s H vs Q E hr hsp
 exact ⟨t, h.nox, q⟩
theorem Fun.binds {x qual : Str} {st : Stmt} {f : Addr} {fd : FuncData} {ps : List Str} (F : Fun K x qual st f fd)
  (h : ∀ (kV doc pm : Value) (an : Option Addr) (cdv ct : Value) (us : List Value), us.length = ps.length -> bindArgs (PySem.W.fnOf x qual (defArgs st) (defBody st) (defScope st) .none kV doc pm an cdv ct) ⟨us, []⟩ = pure (ps.zip us)) : Binds K fd ps [] := by
 obtain ⟨oc, od, kV, doc, pm, an, cdv, ct, osl, rfl, lk, hcd⟩ := F.ex
 exact .all (h kV doc pm an cdv ct)
theorem fun_mk {x qual : Str} {st : Stmt} {f : Addr} {oc : Value} {od an : Option Addr} {osl : Array (Option Value)} {kV doc pm cdv ct : Value} (l : K.lookup f = some ⟨oc, od, .func (PySem.W.fnOf x qual (defArgs st) (defBody st) (defScope st) .none kV doc pm an cdv ct), osl⟩)
  (c : PySem.W.codeIn K cdv qual = true) (k : PySem.W.keepIn K (.ref f) = true) : Fun K x qual st f (PySem.W.fnOf x qual (defArgs st) (defBody st) (defScope st) .none kV doc pm an cdv ct) := ⟨⟨oc, od, kV, doc, pm, an, cdv, ct, osl, rfl, l, c⟩, k⟩
end
theorem small1000 {n : Nat} (h : n <= 1000) : n < sizeLine := Nat.lt_of_le_of_lt h (by decide)
section
variable {X : Cx}
theorem pv (i : Nat) {x : Str} {pos : Pos} (hN : X.N[i]? = some x := by rfl) (hv : Vis X.env.scope x := by first | exact Or.inl rfl | exact Or.inr (Or.inl rfl) | exact Or.inr (Or.inr rfl)) (hd : (x == ("__debug__" : Str)) = false := by decide)
  (hcd : (x == ("__classdict__" : Str)) = false := by decide) : PE X (.Name x pos) (tVar i) := pe_var hN hv hd hcd
end
theorem ite2 {c A B : Prop} [Decidable c] (h1 : c -> A) (h2 : ¬ c -> B) : if c then A else B := by
 by_cases h : c
 ·rw [if_pos h]
  exact h1 h
 ·rw [if_neg h]
  exact h2 h
def Same (H H' : Hp) : Prop := ∀ b o, H b = some o -> H' b = some o
theorem Same.refl (H : Hp) : Same H H := fun _ _ h => h
theorem Same.trans {H H1 H2 : Hp} (a : Same H H1) (b : Same H1 H2) : Same H H2 := fun c o h => b c o (a c o h)
theorem Same.free {H H' : Hp} (e : Same H H') {l : Addr} (h : H' l = Option.none) : H l = Option.none := by
 cases q : H l with
 | none => rfl
 | some o =>
  rw [e l o q] at h
  cases h
theorem Same.seq {K : PySem.W.Frag} {H H' : Hp} {a : Addr} {xs : List V} (e : Same H H') (h : SqL K H a xs) : SqL K H' a xs := by
 rcases h with (h | ⟨o, h⟩) | h
 ·exact .inl (.inl (e _ _ h))
 ·exact .inl (.inr ⟨o, e _ _ h⟩)
 ·exact .inr h
end L2
namespace L2
open PySem PySem.Spec PyProof.Rows
@[reducible] def blk (X : Cx) (x : Str) (fv : List (Nat × Str)) (scope : Scope) (cl : List (Str × Addr)) (C : Addr) (s : Shared) (H : Hp) (fp : List Addr) : Cx where
 prog := X.prog
 w := X.w
 K := X.K
 mg := X.mg
 base := X.base
 A := X.A
 N := x :: fv.map (·.2)
 s₀ := s
 H₀ := H
 env := compEnvC scope cl C X.env
 outer := X.stack
 stack := X.stack
 ex := fp
 fn := fun _ => false
 calm := X.calm
 pn := []
 xe := fun _ _ => False
def bst (fv : List (Nat × Str)) (σ : St) (v : Option V) : St := v :: fv.map fun p => (σ[p.1]?).getD none
structure BlkOk (X : Cx) (x : Str) (fv : List (Nat × Str)) (scope : Scope) (cl : List (Str × Addr)) : Prop where
 clos : closureFor scope X.env = pure cl
 nocell : ∀ y ∈ scope.names, y.2 ≠ .cell
 kind : scope.kind = .function
 names : ∀ y ∈ scope.names, y.2 = .local -> scope.names.lookup y.1 = some .local
 here : scope.names.lookup x = some .local
 sub : ∀ y c, cl.lookup y = some c -> X.env.cells.lookup y = some c
 has : ∀ y, ((relabel scope X.env).names.lookup y = some .cell ∨ (relabel scope X.env).names.lookup y = some .free) -> ∃ c, cl.lookup y = some c
 fvs : ∀ p ∈ fv, p.2 ≠ x ∧ X.N[p.1]? = some p.2 ∧ (X.env.scope.names.lookup p.2 = some .cell ∨ X.env.scope.names.lookup p.2 = some .free) ∧
  ((relabel scope X.env).names.lookup p.2 = some .cell ∨ (relabel scope X.env).names.lookup p.2 = some .free) ∧ ∃ c, cl.lookup p.2 = some c
theorem compLoop_one {prog : Program} {w : World} {A : Around} {R : Result -> Shared -> Prop} {s : Shared} {elt target iter : Expr} {scope : Scope} {pos : Pos} {it acc : Value} {env : Env} (I : Nat -> Shared -> Prop)
  (turn : ∀ n s (E : Value -> Shared -> Prop), I n s -> wpAny (model prog w) A (pyNext it) (fun r s₁ => match r with
   | none => R (.ok .next) s₁
   | some v => wpAny (model prog w) A (letOwnedTupleGo target it v) (fun _ s₂ => wpAny (model prog w) A (assign target env v) (fun _ s₃ => wpAny (model prog w) A (eval elt env) (fun x s₄ =>
     wpAny (model prog w) A (call (.builtin "list.append") [acc, x]) (fun _ s₅ => ∃ m, m < n ∧ I m s₅) E s₄) E s₃) E s₂) E s₁) E s)
  (n : Nat) (h : I n s) :
  codeAny (model prog w) A (.compLoop (.ListComp elt [⟨target, iter, [], 0⟩] scope pos) 0 it acc env) R s := by
 refine codeAny_loop rfl I (fun n s hI => ?_) n h
 show wpAny _ _ ((compTurn (.ListComp elt [⟨target, iter, [], 0⟩] scope pos) 0 it acc env).onRaise (fun x => do noteFrame x env; theTreesLotGoes x)) _ _ s
 refine wpAny_noted ?_
 rw [PySem.compTurn_list1]
 refine wpAny_bind (wpAny_standAt (wpAny_bind (wpAny_mono (turn n s _ hI) (fun r s₁ h₁ => ?_) fun _ _ h' => h')))
 cases r with
 | none => exact wpAny_pure h₁
 | some v =>
  exact wpAny_bind (thn h₁ fun _ s₂ h₂ => wpAny_bind (thn h₂ fun _ s₃ h₃ => wpAny_bind (wpAny_bind (thn h₃ fun x s₄ h₄ => wpAny_bind (thn h₄ fun _ s₅ h₅ => wpAny_pure (wpAny_pure ⟨rfl, h₅⟩))))))
section
variable {X : Cx} {elt iter : Expr} {x : Str} {px : Pos} {fv : List (Nat × Str)} {scope : Scope} {cl : List (Str × Addr)} {pos : Pos} {te : TE} {wi : TI}
def tComp (fv : List (Nat × Str)) (wi : TI) (te : TE) : TE := fun σ H Q => wi σ H fun J H1 => ∀ D, H1 D = none -> ∃ W : Nat -> Nat -> Hp -> Prop, (∃ m, W 0 m (upd H1 D (.lst []))) ∧ ∀ i m H, W i m H ->
 (J.stop i H ∧ Q (.ref D) H) ∨ (J.go i H ∧ ∃ N : Hp -> Prop, (∀ H', N H' -> ∃ m', m' < m ∧ W (i + 1) m' H') ∧ ∀ v H', J.yld i H v H' -> te (bst fv σ (some v)) H' fun y H2 => ∃ ys, H2 D = some (.lst ys) ∧ ys.length < sizeLine ∧ N (upd H2 D (.lst (ys ++ [y]))))
theorem blk_ok {pins : List (Addr × Obj)} {σ : St} {H : Hp} {s : Shared} {fp : List Addr} {C : Addr} (B : BlkOk X x fv scope cl) (I : Inv X pins σ H s) (hf : ∀ b ∈ fp, FpOk X pins H b) (hC : s.heap.objs.size <= C) (hfC : ∀ b ∈ fp, b ≠ C) :
  (blk X x fv scope cl C s H fp).Ok where
 mod := I.ok.mod
 kind := B.kind
 glob := I.ok.glob
 blt := I.ok.blt
 above := hC
 inj := fun y z c h1 h2 => I.ok.inj y z c (B.sub y c h1) (B.sub z c h2)
 has := fun y hy => B.has y hy
 cab := fun y c h => nomatch h
 hd := I.ok.hd
 frames := I.ok.frames
 stk := .inl rfl
 exf := fun b hb => ⟨hfC b hb, fun y c e => (hf b hb).2.2.2.2.1 y c (B.sub y c e)⟩
 bs := I.bs
 bsz := Nat.le_trans I.ok.bsz I.sz
 noex := fun b o e hb => by
  obtain ⟨_, _, _, f3, _⟩ := hf b hb
  rcases f3 with z | z
  ·exact I.ok.noex b o e z
  ·exact absurd (Nat.lt_of_lt_of_le (Heap.lt_size e) (Nat.le_trans I.ok.bsz z)) (Nat.lt_irrefl _)
 exfs := fun b hb hs => by
  obtain ⟨_, f1, f2, _⟩ := hf b hb
  rcases List.mem_cons.mp (I.stkSub b hs) with z | z
  ·exact f1 z
  ·exact f2 z
 funs := I.stack
 frf := I.stkFree
theorem bst_get {fv : List (Nat × Str)} {σ : St} {o : Option V} {j : Nat} {y : Str} {v : V} (h1 : (x :: fv.map (·.2))[j + 1]? = some y) (h2 : (bst fv σ o)[j + 1]? = some (some v)) : ∃ p ∈ fv, p.2 = y ∧ σ[p.1]? = some (some v) := by
 have e1 : (fv.map (·.2))[j]? = some y := by simpa using h1
 have e2 : (fv.map fun p => (σ[p.1]?).getD none)[j]? = some (some v) := by simpa [bst] using h2
 rw [List.getElem?_map] at e1 e2
 cases q : fv[j]? with
 | none => rw [q] at e1; cases e1
 | some p =>
  rw [q] at e1 e2
  refine ⟨p, List.mem_of_getElem? q, Option.some.inj e1, ?_⟩
  have e3 : (σ[p.1]?).getD none = some v := Option.some.inj e2
  cases r : σ[p.1]? with
  | none => rw [r] at e3; cases e3
  | some w => rw [r] at e3; exact congrArg some e3
theorem blk_start {pins : List (Addr × Obj)} {σ : St} {H : Hp} {s s4 : Shared} {fp : List Addr} {C : Addr} {m : Str -> Option Value} (B : BlkOk X x fv scope cl) (I : Inv X pins σ H s) (hf : ∀ b ∈ fp, FpOk X pins H b) (hC : C = s.heap.objs.size)
  (hfC : ∀ b ∈ fp, b ≠ C) (os : s4.os = s.os) (gens : s4.gens = s.gens) (keep : ∀ b o, s.heap.get? b = some o -> s4.heap.get? b = some o) (ns : s4.heap.Ns C m) :
  Inv (blk X x fv scope cl C s H fp) [] (bst fv σ none) H s4 := by
 subst hC
 refine ⟨blk_ok B I hf (Nat.le_refl _) hfC, os, by rw [gens]; exact I.bare, Un.kept keep, ⟨m, ns, fun i y v h1 h2 h3 => ?_⟩, fun y c e => ?_, I.hok.fresh (Nat.le_refl _), fun y c e => I.freeC y c (B.sub y c e), fun p hp => absurd (show p ∈ ([] : List (Addr × Obj)) from hp) (by simp), I.hok.kept keep, by simp [bst]⟩
 ·cases i with
  | zero => simp [bst] at h2
  | succ j =>
   obtain ⟨p, hp, rfl, hv⟩ := bst_get h1 h2
   obtain ⟨_, hN, hk, hk2, c, hc⟩ := B.fvs p hp
   obtain ⟨m0, _, hl⟩ := I.loc
   have vis : Vis X.env.scope p.2 := hk.elim (fun z => .inr (.inl z)) fun z => .inr (.inr z)
   obtain ⟨u, r, l⟩ := hl p.1 p.2 v hN hv vis
   refine ⟨u, r, .inr ⟨hk2, c, hc, ?_⟩⟩
   rcases l with ⟨z, _⟩ | ⟨_, c', hc', o, ho, hd⟩
   ·have z' : X.env.scope.names.lookup p.2 = some .local := z
    rcases hk with k | k <;> (rw [k] at z'; cases z')
   ·have := B.sub p.2 c hc
    rw [hc'] at this; cases this
    exact ⟨o, keep _ o ho, hd⟩
 ·obtain ⟨v, o, ho, hd⟩ := I.cell y c (B.sub y c e)
  exact ⟨v, o, keep c o ho, hd⟩
theorem blk_store {pins' : List (Addr × Obj)} {σ : St} {H H0 : Hp} {s s5 : Shared} {fp : List Addr} {C : Addr} {o : Option V} {v : V} {u : Value} {E : Value -> Shared -> Prop} {Q : Unit -> Shared -> Prop} (B : BlkOk X x fv scope cl)
  (I : Inv (blk X x fv scope cl C s H0 fp) pins' (bst fv σ o) H s5) (r : RelV v u) (h : ∀ s6, Inv (blk X x fv scope cl C s H0 fp) pins' (bst fv σ (some v)) H s6 -> Q () s6) :
  wpAny (model X.prog X.w) X.A (assign (.Name x px) (compEnvC scope cl C X.env) u) Q E s5 := by
 obtain ⟨m, hn, hl⟩ := id I.loc
 have hk : (relabel scope X.env).names.lookup x = some .local := lookup_relabel_local B.here
 have hcls : ((compEnvC scope cl C X.env).scope.kind == .class || ((compEnvC scope cl C X.env).scope.kind == .module && (compEnvC scope cl C X.env).locals != (compEnvC scope cl C X.env).globals)) = false := by
  have : (compEnvC scope cl C X.env).scope.kind = .function := B.kind
  rw [this]; rfl
 refine wpAny_assign_Name (wpAny_storeName_local hk hn (fun h' hn' hs => ?_) hcls)
 have cne := I.cne
 obtain ⟨oL, _, _, hoL, _⟩ := id hn
 have tracked : HOk X.prog X.w H h' := fun b ob e => by
  refine (I.hok b ob e).stay (fun c w' hc q => (hs.2 c ?_).trans q) (fun _ q => q) fun _ _ q => q
  intro z
  have z' : c = C := z
  have fr : H C = none := I.free
  rcases hc with hc | hc
  ·rw [← hc, z', fr] at e; cases e
  ·rw [z', fr] at hc; cases hc
 refine h _ ⟨I.ok, I.os, I.bare, ⟨fun b o e n hb hx => ?_, fun b o e n hb hx => ?_, I.base.free, fun b o e hx => ?_, I.base.tups, I.base.frzs, I.base.tbls⟩, ⟨_, hn', fun j y v' e1 e2 e3 => ?_⟩, fun y c e => ?_, I.free, I.freeC, fun p hp => ?_, tracked, by simp [bst]⟩
 ·exact (hs.2 b (Nat.ne_of_lt (Nat.lt_of_lt_of_le (Heap.lt_size e) I.ok.above))).trans (I.base.keep b o e n hb hx)
 ·obtain ⟨sl, e1⟩ := I.base.slot b o e n hb hx
  exact ⟨sl, (hs.2 b (Nat.ne_of_lt (Nat.lt_of_lt_of_le (Heap.lt_size e) I.ok.above))).trans e1⟩
 ·obtain ⟨o', e1⟩ := I.base.there b o e hx
  exact ⟨o', (hs.2 b (Nat.ne_of_lt (Nat.lt_of_lt_of_le (Heap.lt_size e) I.ok.above))).trans e1⟩
 ·cases j with
  | zero =>
   have e1' : x = y := by simpa using e1
   subst e1'
   have e2' : v = v' := by simpa [bst] using e2
   subst e2'
   exact ⟨u, r, .inl ⟨hk, by simp⟩⟩
  | succ j =>
   have e2' : (bst fv σ o)[j + 1]? = some (some v') := by simpa [bst] using e2
   obtain ⟨u', r', q⟩ := hl (j + 1) y v' e1 e2' e3
   refine ⟨u', r', ?_⟩
   obtain ⟨p, hp, rfl, _⟩ := bst_get e1 e2
   rcases q with ⟨k, e⟩ | ⟨k, c, e, z⟩
   ·exact .inl ⟨k, by simp [(B.fvs p hp).1, e]⟩
   ·exact .inr ⟨k, c, e, z.sameBut hs (cne _ c e)⟩
 ·obtain ⟨w', z⟩ := I.cell y c e
  exact ⟨w', z.sameBut hs (cne y c e)⟩
 ·obtain ⟨e, n, ne, nf, d⟩ := I.pin p hp
  exact ⟨(hs.2 p.1 ne).trans e, n, ne, nf, d⟩
theorem blk_run {pins : List (Addr × Obj)} {σ : St} {H : Hp} {s2 : Shared} {it : Addr} {fp : List Addr} {tn : Nat -> Heap -> Prop} {J : It} {Q : VK} {E : Value -> Shared -> Prop} {RR : Value -> Addr -> Result -> Shared -> Prop}
  (hc : X.calm = true) (B : BlkOk X x fv scope cl) (he : ∀ C s H fp, PE (blk X x fv scope cl C s H fp) elt te) (I : Inv X pins σ H s2) (T : Turn X.prog X.w X.K (.Name x px) J fp it tn) (st : tn 0 s2.heap) (hf : ∀ b ∈ fp, FpOk X pins H b)
  (rd : ∀ D, H D = none -> ∃ W : Nat -> Nat -> Hp -> Prop, (∃ m, W 0 m (upd H D (.lst []))) ∧ ∀ i m H, W i m H ->
   (J.stop i H ∧ Q (.ref D) H) ∨ (J.go i H ∧ ∃ N : Hp -> Prop, (∀ H', N H' -> ∃ m', m' < m ∧ W (i + 1) m' H') ∧ ∀ v H', J.yld i H v H' -> te (bst fv σ (some v)) H' fun y H2 => ∃ ys, H2 D = some (.lst ys) ∧ ys.length < sizeLine ∧ N (upd H2 D (.lst (ys ++ [y])))))
  (hRR : ∀ D C s' H' m', Inv X pins σ H' s' -> FpOk X pins H' C -> s'.heap.Ns C m' -> Q (.ref D) H' -> RR (.ref D) C (.ok .next) s') :
  wpAny (model X.prog X.w) X.A (newList []) (fun acc s₃ => wpAny (model X.prog X.w) X.A (newFunctionEnv scope X.env.globals cl [] X.env.qual none .none (some X.env)) (fun cenv s₄ =>
   codeAny (model X.prog X.w) X.A (.compStart (.ListComp elt [⟨.Name x px, iter, [], 0⟩] scope pos) 0 (.ref it) acc { cenv with scope := relabel scope X.env }) (RR acc cenv.locals) s₄) E s₃) E s2 := by
 refine wpAny_newObj_type ?_ (by show 0 <= sizeLine; exact Nat.zero_le _)
 have hD : H s2.heap.objs.size = none := I.hok.fresh (Nat.le_refl _)
 have I3 := I.lnew (ys := []) (its := []) (t' := s2.toks) .nil (Nat.zero_le _)
 generalize hs3 : ({ s2 with heap := s2.heap.push { cls := .type "list", data := .seq ([] : List Value).toArray }, toks := s2.toks } : Shared) = s3 at I3
 have sz3 : s3.heap.objs.size = s2.heap.objs.size + 1 := by rw [← hs3]; exact Heap.size_push ..
 have up3 : ∀ b o, s2.heap.get? b = some o -> s3.heap.get? b = some o := fun b o e => by rw [← hs3]; exact Heap.get?_push_of_some _ e
 have hf3 : ∀ b ∈ fp, FpOk X pins (upd H s2.heap.objs.size (.lst [])) b := fun b hb => by
  obtain ⟨f0, r⟩ := hf b hb
  refine ⟨?_, r⟩
  obtain ⟨o, e, _⟩ := T.obj 0 _ st b hb
  rw [upd_ne (Nat.ne_of_lt (Heap.lt_size e))]; exact f0
 have ltf : ∀ b ∈ fp, b < s2.heap.objs.size := fun b hb => by
  obtain ⟨o, e, _⟩ := T.obj 0 _ st b hb
  exact Heap.lt_size e
 have st3 : tn 0 s3.heap := T.keep 0 _ _ st fun b _ o e => up3 b o e
 obtain ⟨W, ⟨m0, w0⟩, turn⟩ := rd _ hD
 refine wpAny_newFunctionEnv B.nocell (by intro y hy; simp at hy) (fun h₁ hns₁ hsb₁ => ?_) B.kind
 have hfC : ∀ b ∈ fp, b ≠ s3.heap.objs.size := fun b hb => Nat.ne_of_lt (by rw [sz3]; exact Nat.lt_succ_of_lt (ltf b hb))
 have up4 : ∀ b o, s3.heap.get? b = some o -> h₁.get? b = some o := fun b o e => hsb₁.extBut b o (Nat.ne_of_lt (Heap.lt_size e)) (Heap.get?_push_of_some _ e)
 generalize hs4 : ({ s3 with heap := h₁, toks := s3.toks + ([] : List (Str × Value)).length } : Shared) = s4
 have h4 : s4.heap = h₁ := by rw [← hs4]
 have I4 : Inv (blk X x fv scope cl s3.heap.objs.size s3 (upd H s2.heap.objs.size (.lst [])) fp) [] (bst fv σ none) (upd H s2.heap.objs.size (.lst [])) s4 :=
  blk_start B I3 hf3 rfl hfC (by rw [← hs4]) (by rw [← hs4]) (fun b o e => by rw [h4]; exact up4 b o e) (by rw [h4]; exact hns₁)
 have st4 : tn 0 s4.heap := by rw [h4]; exact T.keep 0 _ _ st3 fun b _ o e => up4 b o e
 have stat : ∀ {H' : Hp}, (∀ b ∈ fp, H' b = none) -> ∀ b ∈ fp, FpOk (blk X x fv scope cl s3.heap.objs.size s3 (upd H s2.heap.objs.size (.lst [])) fp) [] H' b := fun {H'} hn b hb => by
  obtain ⟨_, f1, f2, f3, f4, f5⟩ := hf b hb
  refine ⟨hn b hb, hfC b hb, fun z => ?_, .inl hb, fun y c e => f4 y c (B.sub y c e), fun p hp => absurd (show p ∈ ([] : List (Addr × Obj)) from hp) (by simp)⟩
  rcases List.mem_cons.mp (I.stkSub b z) with q | q
  ·exact f1 q
  ·exact f2 q
 have loop : codeAny (model X.prog X.w) X.A (.compLoop (.ListComp elt [⟨.Name x px, iter, [], 0⟩] scope pos) 0 (.ref it) (.ref s2.heap.objs.size) (compEnvC scope cl s3.heap.objs.size X.env)) (RR (.ref s2.heap.objs.size) s3.heap.objs.size) s4 := by
  refine compLoop_one (fun n s' => ∃ i H' o, Inv (blk X x fv scope cl s3.heap.objs.size s3 (upd H s2.heap.objs.size (.lst [])) fp) [] (bst fv σ o) H' s' ∧ tn i s'.heap ∧ (∀ b ∈ fp, H' b = none) ∧ W i n H') ?_ m0
   ⟨0, _, none, I4, st4, fun b hb => (hf3 b hb).1, w0⟩
  rintro n s5 E' ⟨i, H5, o5, I5, st5, fr5, w5⟩
  rcases turn i n H5 w5 with ⟨stop, q⟩ | ⟨go, N, hN, step⟩
  ·refine thn (T.done (blk X x fv scope cl s3.heap.objs.size s3 (upd H s2.heap.objs.size (.lst [])) fp) rfl rfl rfl hc i [] s5 _ H5 _ I5 (stat fr5) st5 stop) fun r s6 ⟨hr, I6⟩ => ?_
   subst hr
   obtain ⟨m6, hn6, _⟩ := I6.loc
   have un : Un (frs X.stack) fp H H5 s2.heap s6.heap := by
    have u1 : Un (frs X.stack) fp H (upd H s2.heap.objs.size (.lst [])) s2.heap s3.heap := Un.laid up3 (Nat.le_refl _) hD
    exact u1.trans I6.base
   have J6 : Inv X pins σ H5 s6 := by
    refine I.call' ?_ un I6.hok I6.bare fun b hb => ?_
    ·have := I6.os
     rw [show (blk X x fv scope cl s3.heap.objs.size s3 (upd H s2.heap.objs.size (.lst [])) fp).s₀.os = s2.os by rw [← hs3]] at this
     exact this
    ·obtain ⟨_, f1, f2, f3, f4, f5⟩ := hf b hb
     exact ⟨f3, f1, f4, f5⟩
   refine hRR _ _ s6 H5 m6 J6 ?_ hn6 q
   exact I3.fpOk (Nat.le_refl _) I6.free
  ·refine thn (T.item (blk X x fv scope cl s3.heap.objs.size s3 (upd H s2.heap.objs.size (.lst [])) fp) rfl rfl rfl hc i [] s5 _ H5 _ I5 (stat fr5) st5 go) fun r s6 ⟨u, hr, h6⟩ => ?_
   subst hr
   refine thn h6 fun _ s7 ⟨v, H7, I7, r7, y7, st7, fr7⟩ => ?_
   have I7' := I7.pinned (stat fr7) (T.obj _ _ st7)
   refine blk_store B I7' r7 fun s8 I8 => ?_
   have e8 := he _ _ _ _ _ s8 _ H7 _ I8 (step v H7 y7)
   refine wpAny_mono e8 (fun y s9 ⟨yv, H9, I9, r9, ys, hD9, hz, n9⟩ => ?_) fun _ _ z => False.elim z
   have a9 := mt_append (X := blk X x fv scope cl s3.heap.objs.size s3 (upd H s2.heap.objs.size (.lst [])) fp) _ s9 _ H9 (.ref s2.heap.objs.size) [yv] (.ref s2.heap.objs.size) [y] (fun _ H10 => H10 = upd H9 s2.heap.objs.size (.lst (ys ++ [yv]))) I9 rfl (.cons r9 .nil)
    ⟨_, ys, yv, rfl, rfl, hD9, hz, rfl⟩
   refine wpAny_mono a9 (fun _ s10 ⟨_, H10, I10, _, e10⟩ => ?_) fun _ _ z => False.elim z
   subst e10
   obtain ⟨m', hm, w9⟩ := hN _ n9
   refine ⟨m', hm, i + 1, _, some v, I10.unpinned, T.keep _ _ _ st7 fun b hb o e => (I10.pin (b, o) (List.mem_append_right _ (List.mem_append_right _ (mem_pinsAt hb e)))).1, fun b hb => ?_, w9⟩
   obtain ⟨o, e, _⟩ := T.obj _ _ st7 b hb
   exact (I10.pin (b, o) (List.mem_append_right _ (List.mem_append_right _ (mem_pinsAt hb e)))).2.1
 exact codeAny_compStart_list loop (T.self _ 0 _ _ _ st4 loop)
end
end L2
namespace L2
open PySem PySem.Spec PyProof.Rows
section
variable {X : Cx} {elt iter : Expr} {x : Str} {px : Pos} {fv : List (Nat × Str)} {scope : Scope} {cl : List (Str × Addr)} {pos : Pos} {te : TE} {wi : TI}
theorem pe_lcomp (hc : X.calm = true) (B : BlkOk X x fv scope cl) (hi : PI X (.Name x px) iter wi) (he : ∀ C s H fp, PE (blk X x fv scope cl C s H fp) elt te)
  (hs : ∀ v, foldedSetIterable iter X.env v = pure v := by intro _; rfl) : PE X (.ListComp elt [⟨.Name x px, iter, [], 0⟩] scope pos) (tComp fv wi te) := by
 intro pins s σ H Q I h
 rw [eval_ListComp]
 refine wpAny_comprehension_free (use := none) rfl hs B.clos B.kind B.names (thn (hi pins s σ H _ I h) fun v s1 h1 => thn h1 fun itv s2 h2 => ?_)
 obtain ⟨it, fp, tn, J, H2, e, I2, T, st2, f2, rd⟩ := h2
 subst e
 refine blk_run (RR := fun acc C => compPost (model X.prog X.w) X.A X.xe none (EP X pins σ Q) acc C) hc B he I2 T st2 f2 rd ?_
 intro D C s' H' m' I' fC hn q
 exact ⟨m', hn, fun h' sb => ⟨.ref D, H', I'.turned (t' := s'.toks) (fun b o hb e => (sb.2 b hb).trans e) fC.1 fC.2.1 fC.2.2.2.1 fC.2.2.2.2.1 fC.2.2.2.2.2, rfl, q⟩⟩
theorem ps_setC {i : Nat} {y : Str} {py spos : Pos} (hc : X.calm = true) (B : BlkOk X x fv scope cl) (hi : PI X (.Name x px) iter wi) (he : ∀ C s H fp, PE (blk X x fv scope cl C s H fp) elt te)
  (hN : X.N.Nodup) (hiy : X.N[i]? = some y) (hy : X.env.scope.names.lookup y = some .local)
  (hsw : swapsWith (.ListComp elt [⟨.Name x px, iter, [], 0⟩] scope pos) (some (.Name y py)) spos.line X.env = pure true := by rfl)
  (hs : ∀ v, foldedSetIterable iter X.env v = pure v := by intro _; rfl) :
  PS X (.Assign [.Name y py] (.ListComp elt [⟨.Name x px, iter, [], 0⟩] scope pos) spos) (tAsg (tComp fv wi te) (gName i)) := by
 intro pins s σ H D I h
 rw [exec_Assign_Name_used _ _ _ _ hsw]
 refine wpAny_bind (wpAny_standAt (wpAny_bind ?_))
 show wpAny _ X.A (do let _ ← comprehension (.ListComp elt [⟨.Name x px, iter, [], 0⟩] scope pos) scope X.env _ (newList []) false (eval iter X.env) (some (assign (.Name y py) X.env))) _ _ s
 refine wpAny_bind (wpAny_mono (wpAny_comprehension_free (use := some (assign (.Name y py) X.env)) (Q := fun _ s' => SP X pins D .next s') rfl hs B.clos B.kind B.names
  (thn (hi pins s σ H _ I h) fun v s1 h1 => thn h1 fun itv s2 h2 => ?_)) (fun _ s' hq => wpAny_pure (wpAny_pure hq)) fun _ _ e => e)
 obtain ⟨it, fp, tn, J, H2, e, I2, T, st2, f2, rd⟩ := h2
 subst e
 refine blk_run (Q := fun x H1 => gName i x σ H1 D.nx) (RR := fun acc C => compPost (model X.prog X.w) X.A X.xe (some (assign (.Name y py) X.env)) (fun _ s' => SP X pins D .next s') acc C) hc B he I2 T st2 f2 rd ?_
 intro Dl C s' H' m' I' fC hn q
 show wpAny _ X.A (assign (.Name y py) X.env (.ref Dl)) _ _ _
 refine wpAny_assign_Name (store_ok2 I' hN hiy (.inl hy) (v := .ref Dl) rfl (fun s'' I'' hab => ?_) (.inr hy))
 obtain ⟨a, sb, ha⟩ := hab
 have hCa : C ≠ a := by
  rcases ha with rfl | e
  ·exact fC.2.1
  ·exact Ne.symm (fC.2.2.2.2.1 _ _ e)
 exact ⟨m', hn.sameBut sb hCa, fun h' sb' => ⟨_, H', I''.turned (t' := s''.toks) (fun b o hb e => (sb'.2 b hb).trans e) fC.1 fC.2.1 fC.2.2.2.1 fC.2.2.2.2.1 fC.2.2.2.2.2, q⟩⟩
end
def Itrs (lo c : Int) (n : Nat) : It := ⟨fun i _ => i < n, fun i H x H' => H' = H ∧ x = .int (lo + i * c), fun i _ => n <= i⟩
section
variable {X : Cx} {tg : Expr}
def iRng3 (ta : TA) : TI := fun σ H R => ta σ H fun vs H1 => ∃ (i j k : Int) (n : Nat), vs = [.int i, .int j, .int k] ∧ k ≠ 0 ∧ k.natAbs < 1073741824 ∧ Builtin.Range.small i j k = true ∧ Builtin.Range.rangeSize i j k = n ∧ R (Itrs i k n) H1
end
theorem comp_list {K : PySem.W.Frag} {a : Addr} {xs : List V} {fv : List (Nat × Str)} {te : TE} {Q : VK} {σ : St} {H1 : Hp} {D : Addr} (Pv : Nat -> Hp -> Prop) (h0 : Pv 0 (upd H1 D (.lst []))) (hl : ∀ i H, i <= xs.length -> Pv i H -> SqL K H a xs)
  (hs : ∀ i v H, xs[i]? = some v -> Pv i H -> te (bst fv σ (some v)) H fun y H2 => ∃ ys, H2 D = some (.lst ys) ∧ ys.length < sizeLine ∧ Pv (i + 1) (upd H2 D (.lst (ys ++ [y])))) (hd : ∀ H, Pv xs.length H -> Q (.ref D) H) :
  ∃ W : Nat -> Nat -> Hp -> Prop, (∃ m, W 0 m (upd H1 D (.lst []))) ∧ ∀ i m H, W i m H ->
   ((Itl K a).stop i H ∧ Q (.ref D) H) ∨ ((Itl K a).go i H ∧ ∃ N : Hp -> Prop, (∀ H', N H' -> ∃ m', m' < m ∧ W (i + 1) m' H') ∧ ∀ v H', (Itl K a).yld i H v H' -> te (bst fv σ (some v)) H' fun y H2 => ∃ ys, H2 D = some (.lst ys) ∧ ys.length < sizeLine ∧ N (upd H2 D (.lst (ys ++ [y])))) := by
 refine ⟨fun i m H => m = xs.length - i ∧ i <= xs.length ∧ Pv i H, ⟨xs.length, by simp, Nat.zero_le _, h0⟩, ?_⟩
 rintro i m H ⟨rfl, hi, p⟩
 have q := hl i H hi p
 by_cases hlt : i < xs.length
 ·refine .inr ⟨⟨xs, xs[i], q, List.getElem?_eq_getElem hlt⟩, Pv (i + 1), fun H' p' => ⟨xs.length - (i + 1), by omega, rfl, hlt, p'⟩, fun v H' y => ?_⟩
  obtain ⟨e, y⟩ := y
  subst e
  exact hs i v _ (y xs q) p
 ·have e : i = xs.length := by omega
  subst e
  exact .inl ⟨⟨xs, q, Nat.le_refl _⟩, hd H p⟩
theorem comp_range {lo : Int} {n : Nat} {fv : List (Nat × Str)} {te : TE} {Q : VK} {σ : St} {H1 : Hp} {D : Addr} (Pv : Nat -> Hp -> Prop) (h0 : Pv 0 (upd H1 D (.lst [])))
  (hs : ∀ i H, i < n -> Pv i H -> te (bst fv σ (some (.int (lo + i)))) H fun y H2 => ∃ ys, H2 D = some (.lst ys) ∧ ys.length < sizeLine ∧ Pv (i + 1) (upd H2 D (.lst (ys ++ [y])))) (hd : ∀ H, Pv n H -> Q (.ref D) H) :
  ∃ W : Nat -> Nat -> Hp -> Prop, (∃ m, W 0 m (upd H1 D (.lst []))) ∧ ∀ i m H, W i m H ->
   ((Itr lo n).stop i H ∧ Q (.ref D) H) ∨ ((Itr lo n).go i H ∧ ∃ N : Hp -> Prop, (∀ H', N H' -> ∃ m', m' < m ∧ W (i + 1) m' H') ∧ ∀ v H', (Itr lo n).yld i H v H' -> te (bst fv σ (some v)) H' fun y H2 => ∃ ys, H2 D = some (.lst ys) ∧ ys.length < sizeLine ∧ N (upd H2 D (.lst (ys ++ [y])))) := by
 refine ⟨fun i m H => m = n - i ∧ i <= n ∧ Pv i H, ⟨n, by simp, Nat.zero_le _, h0⟩, ?_⟩
 rintro i m H ⟨rfl, hi, p⟩
 by_cases hlt : i < n
 ·refine .inr ⟨hlt, Pv (i + 1), fun H' p' => ⟨n - (i + 1), by omega, rfl, hlt, p'⟩, fun v H' y => ?_⟩
  obtain ⟨e, y⟩ := y
  subst e y
  exact hs i _ hlt p
 ·have e : i = n := by omega
  subst e
  exact .inl ⟨Nat.le_refl _, hd H p⟩
theorem sub_nil {cells : List (Str × Addr)} : ∀ y c, ([] : List (Str × Addr)).lookup y = some c -> cells.lookup y = some c := fun _ _ h => nomatch h
theorem sub_cons {n : Str} {c0 : Addr} {r cells : List (Str × Addr)} (h0 : cells.lookup n = some c0) (h : ∀ y c, r.lookup y = some c -> cells.lookup y = some c) : ∀ y c, ((n, c0) :: r).lookup y = some c -> cells.lookup y = some c := fun y c q => by
 rw [List.lookup_cons] at q
 cases e : y == n with
 | true =>
  rw [e] at q
  cases q
  rw [eq_of_beq e]; exact h0
 | false =>
  rw [e] at q
  exact h y c q
theorem has_of {l : List (Str × NameKind)} {cl : List (Str × Addr)} (h : (l.all fun p => (p.2 != .cell && p.2 != .free) || (cl.lookup p.1).isSome) = true) : ∀ y, (l.lookup y = some .cell ∨ l.lookup y = some .free) -> ∃ c, cl.lookup y = some c := fun y hy => by
 have key : ∀ k, l.lookup y = some k -> (k = .cell ∨ k = .free) -> ∃ c, cl.lookup y = some c := fun k e hk => by
  have q := List.all_eq_true.mp h (y, k) (PySem.mem_of_lookup e)
  have z : (k != .cell && k != .free) = false := by rcases hk with rfl | rfl <;> rfl
  rw [show ((y, k).2 != .cell && (y, k).2 != .free) = false from z, Bool.false_or] at q
  exact Option.isSome_iff_exists.mp q
 rcases hy with e | e
 ·exact key _ e (.inl rfl)
 ·exact key _ e (.inr rfl)
def FvOk (X : Cx) (x : Str) (scope : Scope) (cl : List (Str × Addr)) (fv : List (Nat × Str)) : Prop :=
 ∀ p ∈ fv, p.2 ≠ x ∧ X.N[p.1]? = some p.2 ∧ (X.env.scope.names.lookup p.2 = some .cell ∨ X.env.scope.names.lookup p.2 = some .free) ∧
  ((relabel scope X.env).names.lookup p.2 = some .cell ∨ (relabel scope X.env).names.lookup p.2 = some .free) ∧ ∃ c, cl.lookup p.2 = some c
theorem fv_nil {X : Cx} {x : Str} {scope : Scope} {cl : List (Str × Addr)} : FvOk X x scope cl [] := fun _ h => nomatch h
theorem fv_cons {X : Cx} {x : Str} {scope : Scope} {cl : List (Str × Addr)} {fv : List (Nat × Str)} (i : Nat) (y : Str) (h1 : y ≠ x) (h2 : X.N[i]? = some y) (h3 : X.env.scope.names.lookup y = some .cell ∨ X.env.scope.names.lookup y = some .free)
  (h4 : (relabel scope X.env).names.lookup y = some .cell ∨ (relabel scope X.env).names.lookup y = some .free) (h5 : ∃ c, cl.lookup y = some c) (r : FvOk X x scope cl fv) : FvOk X x scope cl ((i, y) :: fv) := fun p hp => by
 rcases List.mem_cons.mp hp with rfl | hp
 ·exact ⟨h1, h2, h3, h4, h5⟩
 ·exact r p hp
theorem blkok {X : Cx} {x : Str} {fv : List (Nat × Str)} {scope : Scope} {cl : List (Str × Addr)} (clos : closureFor scope X.env = pure cl) (sub : ∀ y c, cl.lookup y = some c -> X.env.cells.lookup y = some c) (fvs : FvOk X x scope cl fv)
  (kind : scope.kind = .function := by rfl) (here : scope.names.lookup x = some .local := by rfl) (nocell : ∀ y ∈ scope.names, y.2 ≠ .cell := by decide +kernel)
  (names : ∀ y ∈ scope.names, y.2 = .local -> scope.names.lookup y.1 = some .local := by decide +kernel)
  (has : ((relabel scope X.env).names.all fun p => (p.2 != .cell && p.2 != .free) || (cl.lookup p.1).isSome) = true := by rfl) : BlkOk X x fv scope cl :=
 ⟨clos, nocell, kind, names, here, sub, has_of has, fvs⟩
section
variable {X : Cx}
theorem call_isinst : CallR X (.builtin "isinstance") (fun xs H Q => ∃ x n t b, xs = [x, .ty n] ∧ TyOf X.K H x t ∧ PySem.W.kitOne X.K t (.type n) = some b ∧ Q (.bl b) H) := by
 intro pins s σ H xs us Q I rv h
 obtain ⟨x, n, t, b, rfl, ty, e, q⟩ := h
 cases rv with
 | cons r rr =>
  cases rr with
  | cons r' rr =>
   cases rr
   cases r'
   exact isinst_ok I r ty e fun tk => ⟨.bl b, H, I.tok _, rfl, q⟩
theorem mt_bitlen : MtR X "int.bit_length" (fun x xs H Q => ∃ i, x = .int i ∧ xs = [] ∧ Q (.int (Builtin.Int.intBits i : Nat)) H) := by
 intro pins s σ H x xs v us Q I rx rv h
 obtain ⟨i, rfl, rfl, q⟩ := h
 cases rv
 obtain ⟨t, rfl⟩ := rx
 exact call_gives F.slot_int_bit_length (typeIs_int s i t) F.entry_int_bit_length (F.args_int_bit_length_1 _) (PySem.AutoIntG2.int_bit_length_int_0 i t) ⟨.int _, H, I.tok _, ⟨_, rfl⟩, q⟩
end
theorem intBits_le_of {i : Int} {k : Nat} (h : i.natAbs < 2 ^ k) : Builtin.Int.intBits i <= k := by
 unfold Builtin.Int.intBits
 split
 ·exact Nat.zero_le _
 ·rename_i hz
  have hz' : i ≠ 0 := by simpa using hz
  have : i.natAbs.log2 < k := (Nat.log2_lt (by omega)).mpr h
  omega
theorem mulOk_of {i j : Int} {k l : Nat} (h1 : i.natAbs < 2 ^ k) (h2 : j.natAbs < 2 ^ l) (h : k + l <= 134217728) : IntMulOk i j := IntMulOk.of_le (intBits_le_of h1) (intBits_le_of h2) h
theorem op_fdivB {X : Cx} : OpR X (binaryOp .FloorDiv) (rI (fun _ j => j ≠ 0 ∧ j.natAbs < 2 ^ 9000) fun i j => .int (i.fdiv j)) :=
 opI fun _ j _ _ _ _ _ hc q => floordiv_int hc.1 q (.inl (PyProof.noPylong_of_log2 ((Nat.log2_lt (by have := hc.1; omega)).mpr hc.2)))
end L2
namespace L2
open PySem PySem.Spec PyProof.Rows
section
variable {σ : St} {H : Hp} {Q : VK} {D : Ends} {t u : TS} {te ta tb tc to ti : TE} {tt : TT} {tA : TA} {i : Nat} {x y v : V} {r r' : R2} {QT : Bool -> Hp -> Prop} {QA : List V -> Hp -> Prop}
theorem a_seq : tSeq t u D σ H = t { D with nx := u D } σ H := rfl
theorem a_next : tNext D σ H = D.nx σ H := rfl
theorem a_brk : tBreak D σ H = D.bk σ H := rfl
theorem a_cnt : tCont D σ H = D.ct σ H := rfl
theorem a_drop : tDrop te D σ H = te σ H fun _ H1 => D.nx σ H1 := rfl
theorem a_ret : tRet te D σ H = te σ H D.rt := rfl
theorem a_retN : tRetN D σ H = D.rt .non H := rfl
theorem a_if : tIfS tt t u D σ H = tt σ H fun b H1 => if b = true then t D σ H1 else u D σ H1 := rfl
theorem a_asg {g : TG} : tAsg te g D σ H = te σ H fun x H1 => g x σ H1 D.nx := rfl
theorem a_gname {Q : St -> Hp -> Prop} : gName i v σ H Q = Q (σ.set i (some v)) H := rfl
theorem a_gsub {ts : TSet} {Q : St -> Hp -> Prop} : gSub to ti ts v σ H Q = to σ H fun o H1 => ti σ H1 fun i H2 => ts o i v H2 fun H3 => Q σ H3 := rfl
theorem a_gtup {K : PySem.W.Frag} {n : Nat} {ts : TGs} {Q : St -> Hp -> Prop} : gTup K n ts v σ H Q = ∃ a xs, v = .ref a ∧ SqT K H a xs ∧ xs.length = n ∧ ts xs σ H Q := rfl
theorem a_gnil {vs : List V} {Q : St -> Hp -> Prop} : gNil vs σ H Q = (vs = [] ∧ Q σ H) := rfl
theorem a_gcons {g : TG} {gs : TGs} {vs : List V} {Q : St -> Hp -> Prop} : gCons g gs vs σ H Q = ∃ v r, vs = v :: r ∧ g v σ H fun σ' H' => gs r σ' H' Q := rfl
theorem a_aug {ip : TIp} : tAug i te ip D σ H = ∃ x, σ[i]? = some (some x) ∧ te σ H fun y H1 => ip x y H1 fun z H2 => D.nx (σ.set i (some z)) H2 := rfl
theorem a_augS {tget : V -> V -> Hp -> VK -> Prop} {tip : TIp} {tset : TSet} : tAugS to ti te tget tip tset D σ H = to σ H fun o H1 => ti σ H1 fun i H2 => tget o i H2 fun x H3 => te σ H3 fun y H4 => tip x y H4 fun z H5 => tset o i z H5 fun H6 => D.nx σ H6 := rfl
theorem a_ipI {f : Int -> Int -> Int} : ipI f x y H Q = ∃ i j, x = .int i ∧ y = .int j ∧ Q (.int (f i j)) H := rfl
theorem a_var : tVar i σ H Q = ∃ v, σ[i]? = some (some v) ∧ Q v H := rfl
theorem a_c : tC v σ H Q = Q v H := rfl
theorem a_op : tOp r ta tb σ H Q = ta σ H fun x H1 => tb σ H1 fun y H2 => r x y H2 Q := rfl
theorem a_un {r : V -> Hp -> VK -> Prop} : tUn r ta σ H Q = ta σ H fun x H1 => r x H1 Q := rfl
theorem a_rI {C : Int -> Int -> Prop} {g : Int -> Int -> V} : rI C g x y H Q = ∃ i j, x = .int i ∧ y = .int j ∧ C i j ∧ Q (g i j) H := rfl
theorem a_rI0 {g : Int -> Int -> V} : rI0 g x y H Q = ∃ i j, x = .int i ∧ y = .int j ∧ Q (g i j) H := rfl
theorem a_rU {g : Int -> V} : rU g x H Q = ∃ i, x = .int i ∧ Q (g i) H := rfl
theorem a_eqI {i j : Int} : rEq (.int i) (.int j) H Q = Q (.bl (decide (i = j))) H := by
 show (true = true ∧ Q (.bl (decide (V.int i = V.int j))) H) = _
 rw [show decide (V.int i = V.int j) = decide (i = j) by rw [dec_int]; exact Bool.beq_eq_decide_eq i j]
 simp
theorem a_neI {i j : Int} : rNe (.int i) (.int j) H Q = Q (.bl (!decide (i = j))) H := by
 show (true = true ∧ Q (.bl (!decide (V.int i = V.int j))) H) = _
 rw [show decide (V.int i = V.int j) = decide (i = j) by rw [dec_int]; exact Bool.beq_eq_decide_eq i j]
 simp
theorem a_eqB {i j : Bool} : rEq (.bl i) (.bl j) H Q = Q (.bl (decide (i = j))) H := by
 show (true = true ∧ Q (.bl (decide (V.bl i = V.bl j))) H) = _
 cases i <;> cases j <;> simp
theorem a_neB {i j : Bool} : rNe (.bl i) (.bl j) H Q = Q (.bl (!decide (i = j))) H := by
 show (true = true ∧ Q (.bl (!decide (V.bl i = V.bl j))) H) = _
 cases i <;> cases j <;> simp
theorem a_tB : tB te σ H QT = te σ H fun x H1 => ∃ c, x = .bl c ∧ QT c H1 := rfl
theorem a_test : tTest te σ H QT = te σ H fun x H' => ∃ k, x = .bl k ∧ QT k H' := rfl
theorem a_and {tt' : TT} : tAnd tt tt' σ H QT = tt σ H fun c H1 => if c = true then tt' σ H1 QT else QT false H1 := rfl
theorem a_or {tt' : TT} : tOr tt tt' σ H QT = tt σ H fun c H1 => if c = true then QT true H1 else tt' σ H1 QT := rfl
theorem a_not : tNot tt σ H QT = tt σ H fun c H1 => QT (!c) H1 := rfl
theorem a_andV : tAndV ta tb σ H Q = ta σ H fun x H1 => ∃ c, x = .bl c ∧ if c = true then tb σ H1 Q else Q (.bl false) H1 := rfl
theorem a_orV : tOrV ta tb σ H Q = ta σ H fun x H1 => ∃ c, x = .bl c ∧ if c = true then Q (.bl true) H1 else tb σ H1 Q := rfl
theorem a_notV : tNotV ta σ H Q = ta σ H fun x H1 => ∃ c, x = .bl c ∧ Q (.bl (!c)) H1 := rfl
theorem a_ifE : tIf tt ta tb σ H Q = tt σ H fun c H1 => if c = true then ta σ H1 Q else tb σ H1 Q := rfl
theorem a_chain : tChain r r' ta tb tc σ H Q = ta σ H fun x H1 => tb σ H1 fun y H2 => r x y H2 fun z H3 => ∃ k, z = .bl k ∧ (if k = true then tc σ H3 fun w' H4 => r' y w' H4 Q else Q (.bl false) H3) := rfl
theorem a_nil : tNil σ H QA = QA [] H := rfl
theorem a_cons : tCons ta tA σ H QA = ta σ H fun x H1 => tA σ H1 fun xs H2 => QA (x :: xs) H2 := rfl
theorem a_lst : tLst tA σ H Q = tA σ H fun xs H1 => xs.length <= sizeLine ∧ ∀ p, H1 p = none -> Q (.ref p) (upd H1 p (.lst xs)) := rfl
theorem a_tup : tTup tA σ H Q = tA σ H fun xs H1 => xs.length <= sizeLine ∧ ∀ p, H1 p = none -> Q (.ref p) (upd H1 p (.tup xs)) := rfl
theorem a_call {sp : Sp} {dvs : List V} {E : XK} : tCall sp dvs E tA σ H Q = tA σ H fun vs H1 => sp (vs ++ dvs) H1 Q E := rfl
theorem a_cb {r : List V -> Hp -> VK -> Prop} : tCB r tA σ H Q = tA σ H fun vs H1 => r vs H1 Q := rfl
theorem a_bm0 {K : PySem.W.Frag} {T : String} {r : V -> List V -> Hp -> VK -> Prop} : tBM0 K T r to σ H Q = to σ H fun x H1 => tyV K T x H1 ∧ r x [] H1 Q := rfl
theorem a_bm {K : PySem.W.Frag} {T : String} {r : V -> List V -> Hp -> VK -> Prop} : tBM K T r to tA σ H Q = to σ H fun x H1 => tyV K T x H1 ∧ tA σ H1 fun xs H2 => r x xs H2 Q := rfl
theorem a_sl {r : V -> Option Int -> Option Int -> Hp -> VK -> Prop} {tl th : TO} : tSl r te tl th σ H Q = te σ H fun x H1 => tl σ H1 fun l H2 => th σ H2 fun u H3 => r x l u H3 Q := rfl
theorem a_nopart {Q : Option Int -> Hp -> Prop} : tNoPart σ H Q = Q none H := rfl
theorem a_part {Q : Option Int -> Hp -> Prop} : tPart te σ H Q = te σ H fun x H1 => ∃ i, x = .int i ∧ Q (some i) H1 := rfl
theorem a_tyI {K : PySem.W.Frag} {T : String} {i : Int} : tyV K T (.int i) H = (T = "int") := rfl
theorem a_tyL {K : PySem.W.Frag} {p : Addr} {xs : List V} (h : SqL K H p xs) : tyV K "list" (.ref p) H := .inl ⟨rfl, xs, h⟩
end
def Loop (J : It) (g : TG) (tb : TS) (D : Ends) (σ : St) (H : Hp) : Prop := ∃ W : Nat -> Nat -> St -> Hp -> Prop, (∃ m, W 0 m σ H) ∧ ∀ i m σ H, W i m σ H ->
 (J.stop i H ∧ D.nx σ H) ∨ (J.go i H ∧ ∃ N : St -> Hp -> Prop, (∀ σ' H', N σ' H' -> ∃ m', m' < m ∧ W (i + 1) m' σ' H') ∧ ∀ x H', J.yld i H x H' -> g x σ H' fun σ2 H2 => tb { D with nx := N, ct := N, bk := D.nx } σ2 H2)
theorem a_for {wi : TI} {g : TG} {tb : TS} {D : Ends} {σ : St} {H : Hp} : tFor wi g tb D σ H = wi σ H fun J H1 => Loop J g tb D σ H1 := rfl
def CLoop (J : It) (fv : List (Nat × Str)) (te : TE) (Q : VK) (σ : St) (H1 : Hp) (D : Addr) : Prop := ∃ W : Nat -> Nat -> Hp -> Prop, (∃ m, W 0 m (upd H1 D (.lst []))) ∧ ∀ i m H, W i m H ->
 (J.stop i H ∧ Q (.ref D) H) ∨ (J.go i H ∧ ∃ N : Hp -> Prop, (∀ H', N H' -> ∃ m', m' < m ∧ W (i + 1) m' H') ∧ ∀ v H', J.yld i H v H' -> te (bst fv σ (some v)) H' fun y H2 => ∃ ys, H2 D = some (.lst ys) ∧ ys.length < sizeLine ∧ N (upd H2 D (.lst (ys ++ [y]))))
theorem a_comp {fv : List (Nat × Str)} {wi : TI} {te : TE} {σ : St} {H : Hp} {Q : VK} : tComp fv wi te σ H Q = wi σ H fun J H1 => ∀ D, H1 D = none -> CLoop J fv te Q σ H1 D := rfl
theorem a_ilist {K : PySem.W.Frag} {tl : TE} {σ : St} {H : Hp} {R : It -> Hp -> Prop} : iList K tl σ H R = tl σ H fun x H1 => ∃ a, x = .ref a ∧ (∃ xs, SqL K H1 a xs) ∧ R (Itl K a) H1 := rfl
theorem a_itup {K : PySem.W.Frag} {tl : TE} {σ : St} {H : Hp} {R : It -> Hp -> Prop} : iTup K tl σ H R = tl σ H fun x H1 => ∃ a, x = .ref a ∧ (∃ xs, SqT K H1 a xs) ∧ R (Itt K a) H1 := rfl
theorem a_irng1 {ta : TA} {σ : St} {H : Hp} {R : It -> Hp -> Prop} : iRng1 ta σ H R = ta σ H fun vs H1 => ∃ j : Int, vs = [.int j] ∧ -(2 ^ 62) <= j ∧ j < 2 ^ 62 ∧ R (Itr 0 j.toNat) H1 := rfl
theorem a_irng2 {ta : TA} {σ : St} {H : Hp} {R : It -> Hp -> Prop} : iRng2 ta σ H R = ta σ H fun vs H1 => ∃ i j : Int, vs = [.int i, .int j] ∧ (-(2 ^ 62) <= i ∧ i < 2 ^ 62 ∧ -(2 ^ 62) <= j ∧ j < 2 ^ 62) ∧ R (Itr i (j - i).toNat) H1 := rfl
theorem a_irng3 {ta : TA} {σ : St} {H : Hp} {R : It -> Hp -> Prop} : iRng3 ta σ H R = ta σ H fun vs H1 => ∃ (i j k : Int) (n : Nat), vs = [.int i, .int j, .int k] ∧ k ≠ 0 ∧ k.natAbs < 1073741824 ∧ Builtin.Range.small i j k = true ∧ Builtin.Range.rangeSize i j k = n ∧ R (Itrs i k n) H1 := rfl
theorem while_of {c : TT} {tb : TS} {D : Ends} {σ : St} {H : Hp} (Pv : Nat -> St -> Hp -> Prop) (m : Nat) (h0 : Pv m σ H)
  (hs : ∀ m σ H, Pv m σ H -> c σ H fun b H1 => if b = true then ∃ N : St -> Hp -> Prop, (∀ σ' H', N σ' H' -> ∃ m', m' < m ∧ Pv m' σ' H') ∧ tb { D with nx := N, ct := N, bk := D.nx } σ H1 else D.nx σ H1) : tWhile c tb D σ H := ⟨Pv, ⟨m, h0⟩, hs⟩
section
variable {σ : St} {H : Hp} {Q : VK} {x y v : V} {K : PySem.W.Frag}
theorem a_rslL {lo hi : Option Int} : rSlL K x lo hi H Q = ∃ a xs, x = .ref a ∧ SqL K H a xs ∧ ∀ p, H p = none -> Q (.ref p) (upd H p (.lst (cutV xs lo hi))) := rfl
theorem a_ixL : rIxL K x y H Q = ∃ p xs i v, x = .ref p ∧ y = .int i ∧ SqL K H p xs ∧ atI xs i = some v ∧ Q v H := rfl
theorem a_ixT : rIxT K x y H Q = ∃ p xs i v, x = .ref p ∧ y = .int i ∧ SqT K H p xs ∧ atI xs i = some v ∧ Q v H := rfl
theorem a_setL {Q : Hp -> Prop} : rSetL x y v H Q = ∃ p xs k j, x = .ref p ∧ y = .int k ∧ H p = some (.lst xs) ∧ ixN xs.length k = some j ∧ Q (upd H p (.lst (xs.set j v))) := rfl
theorem a_app {vs : List V} : rAppend x vs H Q = ∃ l xs y, x = .ref l ∧ vs = [y] ∧ H l = some (.lst xs) ∧ xs.length < sizeLine ∧ Q .non (upd H l (.lst (xs ++ [y]))) := rfl
theorem cutV_map (ns : List Int) (lo hi : Option Int) : cutV (ns.map V.int) lo hi = ((ns.drop (HT.sIx ns.length 0 lo)).take (HT.sIx ns.length ns.length hi - HT.sIx ns.length 0 lo)).map V.int := by
 unfold cutV
 rw [List.length_map, List.map_take, List.map_drop]
end
theorem bt_len : bootBuiltins "len" = some (.builtin "len") := by decide +kernel
theorem bt_abs : bootBuiltins "abs" = some (.builtin "abs") := by decide +kernel
theorem bt_isinstance : bootBuiltins "isinstance" = some (.builtin "isinstance") := by decide +kernel
theorem bt_min : bootBuiltins "min" = some (.builtin "min") := by decide +kernel
theorem bt_max : bootBuiltins "max" = some (.builtin "max") := by decide +kernel
theorem bt_int : bootBuiltins "int" = some (.type "int") := by decide +kernel
theorem bt_bool : bootBuiltins "bool" = some (.type "bool") := by decide +kernel
theorem bt_list : bootBuiltins "list" = some (.type "list") := by decide +kernel
theorem bt_tuple : bootBuiltins "tuple" = some (.type "tuple") := by decide +kernel
def tMid (t u : TS) : TS := fun D σ H => ∃ M : St -> Hp -> Prop, t { D with nx := M } σ H ∧ ∀ σ' H', M σ' H' -> u D σ' H'
theorem pss_mid {X : Cx} {st : Stmt} {rest : List Stmt} {t u : TS} (h1 : PS X st t) (h2 : PSs X rest u) : PSs X (st :: rest) (tMid t u) := by
 intro pins s σ H D I h
 obtain ⟨M, h, hM⟩ := h
 refine wpAny_execs_cons (thn (h1 pins s σ H { D with nx := M } I h) fun f s1 q => ?_)
 cases f with
 | next =>
  obtain ⟨σ', H', I', q⟩ := q
  exact h2 pins s1 σ' H' D I' (hM σ' H' q)
 | ret v => exact q
 | brk => exact q
 | cont => exact q
theorem mid_of {t u : TS} {D : Ends} {σ : St} {H : Hp} (M : St -> Hp -> Prop) (h1 : t { D with nx := M } σ H) (h2 : ∀ σ' H', M σ' H' -> u D σ' H') : tMid t u D σ H := ⟨M, h1, h2⟩
theorem a_cxK {CX : CXT} {P : Program} {w : World} {K : PySem.W.Frag} {mg : Str -> Option Value} {base : Heap} {N : List Str} {qual : Str} {scope : Scope} {f : Addr} {cd : Value} {A : Around} {outer : List Env} {s : Shared} {H : Hp} {E : XK} :
  (cxOf CX P w K mg base N qual scope f cd A outer s H E).K = K := rfl
section
variable {K : PySem.W.Frag} {a : Addr} {xs : List V} {g : TG} {tb : TS} {D : Ends} {σ : St} {H H1 : Hp} {fv : List (Nat × Str)} {te : TE} {Q : VK} {L : Addr} {lo c : Int} {n : Nat}
theorem cl_list (Pv : Nat -> Hp -> Prop) (h0 : Pv 0 (upd H1 L (.lst []))) (hl : ∀ i H, i <= xs.length -> Pv i H -> SqL K H a xs)
  (hs : ∀ i v H, xs[i]? = some v -> Pv i H -> te (bst fv σ (some v)) H fun y H2 => ∃ ys, H2 L = some (.lst ys) ∧ ys.length < sizeLine ∧ Pv (i + 1) (upd H2 L (.lst (ys ++ [y])))) (hd : ∀ H, Pv xs.length H -> Q (.ref L) H) :
  CLoop (Itl K a) fv te Q σ H1 L := comp_list Pv h0 hl hs hd
theorem cl_range (Pv : Nat -> Hp -> Prop) (h0 : Pv 0 (upd H1 L (.lst [])))
  (hs : ∀ i H, i < n -> Pv i H -> te (bst fv σ (some (.int (lo + i)))) H fun y H2 => ∃ ys, H2 L = some (.lst ys) ∧ ys.length < sizeLine ∧ Pv (i + 1) (upd H2 L (.lst (ys ++ [y])))) (hd : ∀ H, Pv n H -> Q (.ref L) H) :
  CLoop (Itr lo n) fv te Q σ H1 L := comp_range Pv h0 hs hd
theorem lp_list (Pv : Nat -> St -> Hp -> Prop) (h0 : Pv 0 σ H) (hl : ∀ i σ H, i <= xs.length -> Pv i σ H -> SqL K H a xs)
  (hs : ∀ i v σ H, xs[i]? = some v -> Pv i σ H -> g v σ H fun σ2 H2 => tb { D with nx := Pv (i + 1), ct := Pv (i + 1), bk := D.nx } σ2 H2) (hd : ∀ σ H, Pv xs.length σ H -> D.nx σ H) : Loop (Itl K a) g tb D σ H := for_list Pv h0 hl hs hd
theorem lp_range (Pv : Nat -> St -> Hp -> Prop) (h0 : Pv 0 σ H)
  (hs : ∀ i σ H, i < n -> Pv i σ H -> g (.int (lo + i)) σ H fun σ2 H2 => tb { D with nx := Pv (i + 1), ct := Pv (i + 1), bk := D.nx } σ2 H2) (hd : ∀ σ H, Pv n σ H -> D.nx σ H) : Loop (Itr lo n) g tb D σ H := for_range Pv h0 hs hd
theorem upd_none {p : Addr} {o : HO} (h : upd H p o L = none) : L ≠ p ∧ H L = none := by
 by_cases e : L = p
 ·subst e; rw [upd_same] at h; cases h
 ·rw [upd_ne e] at h; exact ⟨e, h⟩
end
end L2
namespace L2
open PySem PySem.Spec PyProof.Rows
section
variable {X : Cx}
end
def Ite (K : PySem.W.Frag) (a : Addr) : It :=
 ⟨fun i H => ∃ xs x, SqL K H a xs ∧ xs[i]? = some x, fun i H v H' => ∃ p x, H p = none ∧ v = .ref p ∧ H' = upd H p (.tup [.int i, x]) ∧ ∀ xs, SqL K H a xs -> xs[i]? = some x, fun i H => ∃ xs, SqL K H a xs ∧ xs.length <= i⟩
section
variable {X : Cx}
def iEnum (K : PySem.W.Frag) (ta : TA) : TI := fun σ H R => ta σ H fun vs H1 => ∃ a xs, vs = [.ref a] ∧ SqL K H1 a xs ∧ R (Ite K a) H1
end
theorem a_ienum {K : PySem.W.Frag} {ta : TA} {σ : St} {H : Hp} {R : It -> Hp -> Prop} : iEnum K ta σ H R = ta σ H fun vs H1 => ∃ a xs, vs = [.ref a] ∧ SqL K H1 a xs ∧ R (Ite K a) H1 := rfl
end L2
namespace L2
open PySem PySem.Spec PyProof.Rows
def Itv (K : PySem.W.Frag) (a : Addr) (n : Nat) : It :=
 ⟨fun i H => i < n ∧ ∃ xs, SqL K H a xs ∧ xs.length = n, fun i H x H' => H' = H ∧ ∀ xs, SqL K H a xs -> xs[n - 1 - i]? = some x, fun i _ => i = n⟩
section
variable {X : Cx} {tg : Expr}
def iRev (K : PySem.W.Frag) (ta : TA) : TI := fun σ H R => ta σ H fun vs H1 => ∃ a xs, vs = [.ref a] ∧ SqL K H1 a xs ∧ R (Itv K a xs.length) H1
end
theorem a_irev {K : PySem.W.Frag} {ta : TA} {σ : St} {H : Hp} {R : It -> Hp -> Prop} : iRev K ta σ H R = ta σ H fun vs H1 => ∃ a xs, vs = [.ref a] ∧ SqL K H1 a xs ∧ R (Itv K a xs.length) H1 := rfl
section
variable {σ : St} {H : Hp} {Q : VK} {x y v : V} {vs : List V}
theorem a_cat : rCat x y H Q = ∃ l b xs zs, x = .ref l ∧ y = .ref b ∧ H l = some (.lst xs) ∧ H b = some (.lst zs) ∧ xs.length + zs.length <= sizeLine ∧ ∀ p, H p = none -> Q (.ref p) (upd H p (.lst (xs ++ zs))) := rfl
theorem a_rep : rRep x y H Q = ∃ l k xs, x = .ref l ∧ y = .int k ∧ H l = some (.lst xs) ∧ -(2 ^ 63) <= k ∧ k < 2 ^ 63 ∧ xs.length * k.toNat <= sizeLine ∧ ∀ p, H p = none -> Q (.ref p) (upd H p (.lst (List.replicate k.toNat xs).flatten)) := rfl
theorem a_pop : rPop x vs H Q = ∃ l xs y, x = .ref l ∧ vs = [] ∧ H l = some (.lst xs) ∧ xs[xs.length - 1]? = some y ∧ Q y (upd H l (.lst xs.dropLast)) := rfl
theorem a_clear : rClear x vs H Q = ∃ l xs, x = .ref l ∧ vs = [] ∧ H l = some (.lst xs) ∧ Q .non (upd H l (.lst [])) := rfl
end
end L2
namespace L2
open PySem PySem.Spec PyProof.Rows
theorem op_mulZ {X : Cx} : OpR X (binaryOp .Mult) (rI IntMulOk fun i j => .int (i * j)) := opI fun _ _ _ _ _ _ _ hc q => mul_int q hc
def Bd (k : Nat) (x : Int) : Prop := x.natAbs < 2 ^ k
theorem Bd.mono {k l : Nat} {x : Int} (h : Bd k x) (hl : k <= l) : Bd l x := Nat.lt_of_lt_of_le h (Nat.pow_le_pow_right (by decide) hl)
theorem Bd.zero (k : Nat) : Bd k 0 := Nat.two_pow_pos k
theorem Bd.one {k : Nat} (h : 0 < k) : Bd k 1 := by
 have : Bd 1 1 := by show (1 : Nat) < 2 ^ 1; decide
 exact this.mono h
theorem Bd.mul {k l : Nat} {x y : Int} (h : Bd k x) (g : Bd l y) : Bd (k + l) (x * y) := by
 unfold Bd at *
 rw [Int.natAbs_mul, Nat.pow_add]
 exact Nat.mul_lt_mul_of_lt_of_lt h g
theorem Bd.add {k : Nat} {x y : Int} (h : Bd k x) (g : Bd k y) : Bd (k + 1) (x + y) := by
 unfold Bd at *
 rw [Nat.pow_succ]
 have := Int.natAbs_add_le x y
 omega
theorem Bd.fits {k l : Nat} {x y : Int} (h : Bd k x) (g : Bd l y) (hz : k + l <= 134217728) : IntMulOk x y := mulOk_of h g hz
theorem Bd.of_lt {k : Nat} {x : Int} {m : Nat} (h : x.natAbs < m) (hm : m <= 2 ^ k) : Bd k x := Nat.lt_of_lt_of_le h hm
theorem same_upd {H : Hp} {p : Addr} (h : H p = none) (o : HO) : Same H (upd H p o) := fun b u q => by rw [upd_ne (ne_of_none q h)]; exact q
theorem Same.seqT {K : PySem.W.Frag} {H H' : Hp} {a : Addr} {xs : List V} (e : Same H H') (h : SqT K H a xs) : SqT K H' a xs := by
 rcases h with (h | ⟨o, h⟩) | h
 ·exact .inl (.inl (e _ _ h))
 ·exact .inl (.inr ⟨o, e _ _ h⟩)
 ·exact .inr h
theorem at_int {xs : List Int} {i : Nat} (h : i < xs.length) : atI (xs.map V.int) (i : Int) = some (V.int xs[i]) := atI_nat (by rw [List.getElem?_map, List.getElem?_eq_getElem h]; rfl)
theorem Same.more {H H' : Hp} {p : Addr} {o : HO} (e : Same H H') (h : H p = none) : Same H (L2.upd H' p o) := fun b u q => by rw [upd_ne (ne_of_none q h)]; exact e b u q
end L2
namespace L2
open PySem PySem.Spec PyProof.Rows
section
variable {κ : Type} [DecidableEq κ]
def valV (kvs : List (κ × V)) (k : κ) : Option V := (kvs.find? fun kv => decide (kv.1 = k)).map (·.2)
def putK (kvs : List (κ × V)) (k : κ) (v : V) : List (κ × V) :=
 if (kvs.any fun kv => decide (kv.1 = k)) = true then kvs.map (fun kv => if kv.1 = k then (kv.1, v) else kv) else kvs ++ [(k, v)]
theorem valV_pos {p : κ × V} {r : List (κ × V)} {k : κ} (e : p.1 = k) : valV (p :: r) k = some p.2 := by simp [valV, List.find?_cons, e]
theorem valV_neg {p : κ × V} {r : List (κ × V)} {k : κ} (e : ¬ p.1 = k) : valV (p :: r) k = valV r k := by simp [valV, List.find?_cons, e]
theorem valV_any (k : κ) : ∀ kvs : List (κ × V), (kvs.any fun kv => decide (kv.1 = k)) = (valV kvs k).isSome
 | [] => rfl
 | p :: r => by
  rw [List.any_cons]
  by_cases e : p.1 = k
  ·simp only [valV_pos e, decide_eq_true e, Bool.true_or, Option.isSome_some]
  ·rw [valV_neg e, decide_eq_false e, Bool.false_or]; exact valV_any k r
theorem length_putK (kvs : List (κ × V)) (k : κ) (v : V) : (putK kvs k v).length <= kvs.length + 1 := by
 unfold putK
 split
 ·rw [List.length_map]; omega
 ·rw [List.length_append, List.length_cons, List.length_nil]; omega
theorem RelO.isSome_eq {o : Option V} {u : Option Value} (r : RelO o u) : o.isSome = u.isSome := by
 cases o with
 | none => cases u with
  | none => rfl
  | some _ => exact (show False from r).elim
 | some _ => cases u with
  | none => exact (show False from r).elim
  | some _ => rfl
theorem RelO.getD {o : Option V} {u : Option Value} {d : V} {d' : Value} (r : RelO o u) (rd : RelV d d') : RelV (o.getD d) (u.getD d') := by
 cases o with
 | none => cases u with
  | none => exact rd
  | some _ => exact (show False from r).elim
 | some _ => cases u with
  | none => exact (show False from r).elim
  | some _ => exact r
theorem KV.val {kvs : List (κ × V)} {vs : List (κ × Value)} (r : KV kvs vs) (k : κ) : RelO (valV kvs k) (valueAt vs k) := by
 unfold KV at r
 induction r with
 | nil => exact True.intro
 | @cons p q ps qs h t ih =>
  obtain ⟨h1, h2⟩ := h
  by_cases e : p.1 = k
  ·have e' : q.1 = k := h1.symm.trans e
   have b : valueAt (q :: qs) k = some q.2 := by simp [valueAt, List.find?_cons, e']
   rw [valV_pos e, b]; exact h2
  ·have e' : ¬ q.1 = k := fun z => e (h1.trans z)
   have b : valueAt (q :: qs) k = valueAt qs k := by simp [valueAt, List.find?_cons, e']
   rw [valV_neg e, b]; exact ih
theorem KV.any {kvs : List (κ × V)} {vs : List (κ × Value)} (r : KV kvs vs) (k : κ) : (kvs.any fun kv => decide (kv.1 = k)) = vs.any fun kv => decide (kv.1 = k) := by
 unfold KV at r
 induction r with
 | nil => rfl
 | cons h t ih => rw [List.any_cons, List.any_cons, ih, h.1]
theorem KV.repl {kvs : List (κ × V)} {vs : List (κ × Value)} (r : KV kvs vs) (k : κ) {y : V} {u : Value} (ry : RelV y u) :
  KV (kvs.map fun kv => if kv.1 = k then (kv.1, y) else kv) (vs.map fun kv => if kv.1 = k then (kv.1, u) else kv) := by
 unfold KV at r ⊢
 induction r with
 | nil => exact .nil
 | @cons p q ps qs h t ih =>
  rw [List.map_cons, List.map_cons]
  refine .cons ?_ ih
  obtain ⟨h1, h2⟩ := h
  by_cases e : p.1 = k
  ·rw [if_pos e, if_pos (h1.symm.trans e)]; exact ⟨h1, ry⟩
  ·rw [if_neg e, if_neg (fun z => e (h1.trans z))]; exact ⟨h1, h2⟩
theorem KV.put {kvs : List (κ × V)} {vs : List (κ × Value)} (r : KV kvs vs) (k : κ) {y : V} {u : Value} (ry : RelV y u) : KV (putK kvs k y) (stored vs k u) := by
 unfold putK stored
 rw [r.any k]
 by_cases e : (vs.any fun kv => decide (kv.1 = k)) = true
 ·rw [if_pos e, if_pos e]; exact r.repl k ry
 ·rw [if_neg e, if_neg e]; exact Paired.snoc r ⟨rfl, ry⟩
theorem KV.length {kvs : List (κ × V)} {vs : List (κ × Value)} (r : KV kvs vs) : kvs.length = vs.length := Paired.length r
end
theorem kV_is {P : Program} {w : World} {k : Key} {u : Value} (r : RelV (kV k) u) : (mixKind P w).is k u = true := by
 cases k with
 | inl i => obtain ⟨t, e⟩ := (show ∃ t, u = Value.int i t from r); subst e; exact mixKind_int P w i t
 | inr x => obtain ⟨t, e⟩ := (show ∃ t, u = Value.str x t from r); subst e; exact mixKind_str P w x t
theorem items_are {P : Program} {w : World} : ∀ {ks : List Key} {us : List Value}, Vals (ks.map kV) us -> ItemsAre (mixKind P w) ks us
 | [], _, r => by rw [List.map_nil] at r; cases r; exact .nil
 | k :: ks, _, r => by
  rw [List.map_cons] at r
  cases r with
  | cons h t => exact .cons (kV_is h) (items_are t)
abbrev KT (H : Hp) : List (List Key × V) -> List (List Key × Addr × Value) -> Prop := Paired fun p q => p.1 = q.1 ∧ H q.2.1 = some (.tup (p.1.map kV)) ∧ RelV p.2 q.2.2
theorem KT.val {H : Hp} {kvs : List (List Key × V)} {xs : List (List Key × Addr × Value)} (r : KT H kvs xs) (k : List Key) : RelO (valV kvs k) ((atKey xs k).map (·.2)) := by
 induction r with
 | nil => exact True.intro
 | @cons p q ps qs h t ih =>
  obtain ⟨h1, _, h2⟩ := h
  by_cases e : p.1 = k
  ·have e' : q.1 = k := h1.symm.trans e
   have b : atKey (q :: qs) k = some q.2 := by simp [atKey, List.find?_cons, e']
   rw [valV_pos e, b]; exact h2
  ·have e' : ¬ q.1 = k := fun z => e (h1.trans z)
   have b : atKey (q :: qs) k = atKey qs k := by simp [atKey, List.find?_cons, e']
   rw [valV_neg e, b]; exact ih
theorem KT.repl {H : Hp} {kvs : List (List Key × V)} {xs : List (List Key × Addr × Value)} (r : KT H kvs xs) (k : List Key) {y : V} {u : Value} (ry : RelV y u) :
  KT H (kvs.map fun kv => if kv.1 = k then (kv.1, y) else kv) (xs.map (putAt k u)) := by
 induction r with
 | nil => exact .nil
 | @cons p q ps qs h t ih =>
  rw [List.map_cons, List.map_cons]
  refine .cons ?_ ih
  obtain ⟨h1, h2, h3⟩ := h
  unfold putAt
  by_cases e : p.1 = k
  ·rw [if_pos e, if_pos (h1.symm.trans e)]; exact ⟨h1, h2, ry⟩
  ·rw [if_neg e, if_neg (fun z => e (h1.trans z))]; exact ⟨h1, h2, h3⟩
theorem KT.put {H : Hp} {kvs : List (List Key × V)} {xs : List (List Key × Addr × Value)} (r : KT H kvs xs) (k : List Key) {b : Addr} {y : V} {u : Value} (hb : H b = some (.tup (k.map kV))) (ry : RelV y u) :
  KT H (putK kvs k y) (storedH xs k b u) := by
 have e : (kvs.any fun kv => decide (kv.1 = k)) = (atKey xs k).isSome := by
  rw [valV_any, (r.val k).isSome_eq, Option.isSome_map]
 unfold putK storedH
 rw [e]
 by_cases q : (atKey xs k).isSome = true
 ·rw [if_pos q, if_pos q]; exact r.repl k ry
 ·rw [if_neg q, if_neg q]; exact Paired.snoc r ⟨rfl, hb, ry⟩
theorem KT.keeps {H H' : Hp} {kvs : List (List Key × V)} {xs : List (List Key × Addr × Value)} (r : KT H kvs xs) (ht : ∀ b ys, H b = some (.tup ys) -> H' b = some (.tup ys)) : KT H' kvs xs :=
 Paired.mapP r fun _ _ z => ⟨z.1, ht _ _ z.2.1, z.2.2⟩
section
variable {P : Program} {w : World} {H : Hp} {h : Heap} {a : Addr}
theorem rd_of {u : HO} (ok : HOk P w H h) (e : Rd H a u) : ObjOk P w H h a u := e.ok ok
theorem dk_rd {kvs : List (Key × V)} (ok : HOk P w H h) (e : Rd H a (.dK kvs)) : kvs.length <= sizeLine ∧ (a == sysModules) = false ∧ ∃ vs, KV kvs vs ∧ h.DictOf (mixKind P w) a vs :=
 show ObjOk P w H h a (.dK kvs) from rd_of ok e
theorem dk_of {kvs : List (Key × V)} (ok : HOk P w H h) (e : H a = some (.dK kvs)) : kvs.length <= sizeLine ∧ (a == sysModules) = false ∧ ∃ vs, KV kvs vs ∧ h.DictOf (mixKind P w) a vs := dk_rd ok (.inl e)
theorem key_of {ks : List Key} (ok : HOk P w H h) (e : H a = some (.tup (ks.map kV))) : (tupleKind (mixKind P w)).is h ks a := by
 obtain ⟨_, its, r, o, h1, h2, n, h3⟩ := (show ObjOk P w H h a (.tup (ks.map kV)) from ok a _ e)
 exact ⟨o, its.toArray, n, h1, h2, h3, by simpa using items_are r⟩
theorem dt_rd {kvs : List (List Key × V)} (ok : HOk P w H h) (e : Rd H a (.dT kvs)) : kvs.length <= sizeLine ∧ (a == sysModules) = false ∧
  ∃ xs, KT H kvs xs ∧ h.DictOfH (tupleKind (mixKind P w)) a xs := by
 obtain ⟨z, y, xs, r, o, es, ep, h1, h2, h3, h4, h5⟩ := (show ObjOk P w H h a (.dT kvs) from rd_of ok e)
 refine ⟨z, y, xs, r, o, es, ep, h1, h2, h3, h4, fun x hx => ?_, h5⟩
 have all : ∀ {l : List (List Key × V)} {m : List (List Key × Addr × Value)}, KT H l m -> ∀ x ∈ m, (tupleKind (mixKind P w)).is h x.1 x.2.1 := by
  intro l m q
  induction q with
  | nil => intro x hx; exact nomatch hx
  | @cons p q ps qs hq t ih =>
   intro x hx
   rcases List.mem_cons.mp hx with e | hx
   ·subst e
    exact key_of ok (by rw [← hq.1]; exact hq.2.1)
   ·exact ih x hx
 exact all r x hx
theorem dt_of {kvs : List (List Key × V)} (ok : HOk P w H h) (e : H a = some (.dT kvs)) : kvs.length <= sizeLine ∧ (a == sysModules) = false ∧
  ∃ xs, KT H kvs xs ∧ h.DictOfH (tupleKind (mixKind P w)) a xs := dt_rd ok (.inl e)
end
def DGet (H : Hp) (a : Addr) (y : V) (r : Option V) : Prop :=
 (∃ kvs k, Rd H a (.dK kvs) ∧ y = kV k ∧ r = valV kvs k) ∨ ∃ kvs k b, Rd H a (.dT kvs) ∧ y = .ref b ∧ H b = some (.tup (k.map kV)) ∧ r = valV kvs k
def DPut (H : Hp) (a : Addr) (y v : V) (H' : Hp) : Prop :=
 (∃ kvs k, H a = some (.dK kvs) ∧ y = kV k ∧ kvs.length < sizeLine ∧ H' = upd H a (.dK (putK kvs k v))) ∨
 ∃ kvs k b, H a = some (.dT kvs) ∧ y = .ref b ∧ H b = some (.tup (k.map kV)) ∧ kvs.length < sizeLine ∧ H' = upd H a (.dT (putK kvs k v))
theorem DGet.t {H : Hp} {a b : Addr} {kvs : List (List Key × V)} {k : List Key} (e : H a = some (.dT kvs)) (eb : H b = some (.tup (k.map kV))) : DGet H a (.ref b) (valV kvs k) := .inr ⟨kvs, k, b, .inl e, rfl, eb, rfl⟩
theorem DPut.t {H : Hp} {a b : Addr} {kvs : List (List Key × V)} {k : List Key} {v : V} (e : H a = some (.dT kvs)) (eb : H b = some (.tup (k.map kV))) (hl : kvs.length < sizeLine) :
  DPut H a (.ref b) v (upd H a (.dT (putK kvs k v))) := .inr ⟨kvs, k, b, e, rfl, eb, hl, rfl⟩
section
variable {X : Cx} {pins : List (Addr × Obj)} {σ : St} {H : Hp} {s : Shared} {a : Addr} {y v : V} {u r : Value} {o : Option V} {A : Around} {E : Value -> Shared -> Prop}
theorem Inv.big (I : Inv X pins σ H s) : sysModules < s.heap.objs.size := by
 have h : mainGlobals < s.heap.objs.size := (I.mod.glob.keeps I.bk).lt
 exact Nat.lt_trans (by decide) h
theorem d_write {h' : Heap} {t' : Nat} {ob : HO} (I : Inv X pins σ H s) (mu : Mut (H a)) (hs : Heap.SameBut a s.heap h') (he : ∃ q, h'.get? a = some q) (new : ObjOk X.prog X.w (upd H a ob) h' a ob) :
  Inv X pins σ (upd H a ob) { s with heap := h', toks := t' } :=
 I.write (x := a) (e := a) mu (.inl rfl) (fun b q hb z => (hs.2 b hb).trans z) he new
theorem dk_new {P : Program} {w : World} {H' : Hp} {h' : Heap} {kvs : List (Key × V)} {vs : List (Key × Value)} (z : kvs.length <= sizeLine) (hd : (a == sysModules) = false) (rel : KV kvs vs) (dd : h'.DictOf (mixKind P w) a vs) :
  ObjOk P w H' h' a (.dK kvs) := ⟨z, hd, vs, rel, dd⟩
theorem d_setItem {H' : Hp} {Q : Unit -> Shared -> Prop} (hu : A.units + 1 < cLine) (I : Inv X pins σ H s) (g : DPut H a y v H') (ry : RelV y u) (rv : RelV v r) (h : ∀ s', Inv X pins σ H' s' -> Q () s') :
  wpAny (model X.prog X.w) A (setItem (.ref a) u r) Q E s := by
 rcases g with ⟨kvs, k, e, ey, l, eH⟩ | ⟨kvs, k, b, e, ey, eb, l, eH⟩
 ·subst ey eH
  obtain ⟨z, hd, vs, rel, dd⟩ := dk_of I.hok e
  have hz : vs.length <= sizeLine := by rw [← rel.length]; exact z
  have hl : (putK kvs k v).length <= sizeLine := by have := length_putK kvs k v; omega
  refine wpAny_setItem_pairs (hsz := hz) (kV_is ry) dd fun h' dd' hs => h _ ?_
  have he : ∃ q, h'.get? a = some q := let ⟨q, _, _, hq, _⟩ := dd'; ⟨q, hq⟩
  exact d_write I (by rw [e]; exact True.intro) hs he (dk_new hl hd (rel.put k rv) dd')
 ·subst ey eH
  cases (show u = Value.ref b from ry)
  obtain ⟨z, hd, xs, rel, dd⟩ := dt_of I.hok e
  have hz : xs.length <= sizeLine := by rw [← Paired.length rel]; exact z
  have hl : (putK kvs k v).length <= sizeLine := by have := length_putK kvs k v; omega
  refine wpAny_setItem_heap (hsz := hz) (tupleKind_room_in1 hu) (key_of I.hok eb) dd fun h' dd' hs => h _ ?_
  obtain ⟨q, es, ep, hq, h2, h3, h4, _, h5⟩ := dd'
  refine d_write I (by rw [e]; exact True.intro) hs ⟨q, hq⟩ ⟨hl, hd, _, (rel.put k eb rv).keeps fun c ys ec => ?_, q, es, ep, hq, h2, h3, h4, h5⟩
  rw [upd_ne (ne_of ec e (fun z => nomatch z))]
  exact ec
end
section
variable {X : Cx} {pins : List (Addr × Obj)} {σ : St} {H : Hp} {s : Shared} {a : Addr} {kvs : List (Key × V)} {k : Key} {u : Value} {A : Around} {E : Value -> Shared -> Prop}
end
def tDGet (td ty : TE) : TE := fun σ H Q => td σ H fun x H1 => ty σ H1 fun y H2 => ∃ a v, x = .ref a ∧ DGet H2 a y (some v) ∧ Q v H2
def tDNotIn (ty td : TE) : TE := fun σ H Q => ty σ H fun y H1 => td σ H1 fun x H2 => ∃ a o, x = .ref a ∧ DGet H2 a y o ∧ Q (.bl (!o.isSome)) H2
def sDPut (td ty tv : TE) : TS := fun D σ H => tv σ H fun v H1 => td σ H1 fun x H2 => ty σ H2 fun y H3 => ∃ a H4, x = .ref a ∧ DPut H3 a y v H4 ∧ D.nx σ H4
section
variable {X : Cx} {o i e value : Expr} {pos pos' tpos : Pos} {td ty tv : TE}
theorem ps_dput (hu : X.A.units + 1 < cLine) (ho : PE X o td) (hi : PE X i ty) (hv : PE X value tv) (hs : swapsWith value (some (.Subscript o i pos')) pos.line X.env = pure false) :
  PS X (.Assign [.Subscript o i pos'] value pos) (sDPut td ty tv) := by
 intro pins s σ H D I h
 refine wpAny_Assign_Subscript (thn (hv pins s σ H _ I h) fun r s1 ⟨v, H1, I1, rv, q1⟩ => thn (ho pins s1 σ H1 _ I1 q1) fun u s2 ⟨x, H2, I2, rx, q2⟩ => thn (hi pins s2 σ H2 _ I2 q2) fun iv s3 ⟨y, H3, I3, ry, a, H4, ex, g, q3⟩ => ?_) hs
 subst ex
 obtain rfl : u = Value.ref a := rx
 exact d_setItem hu I3 g ry rv fun s4 I4 => ⟨σ, H4, I4, q3⟩
end
theorem dt_empty {P : Program} {w : World} {H : Hp} (h : Heap) (hb : sysModules < h.objs.size) : ObjOk P w H (h.push { cls := .type "dict", data := .dict #[] }) h.objs.size (.dT []) :=
 ⟨Nat.zero_le _, beq_eq_false_iff_ne.mpr (Ne.symm (Nat.ne_of_lt hb)), [], .nil, _, #[], 0, Heap.get?_push_size _ rfl, ⟨rfl, rfl, rfl⟩, rfl, rfl, List.nodup_nil⟩
def tDNewT : TE := fun _ H Q => ∀ p, H p = none -> Q (.ref p) (upd H p (.dT []))
section
variable {X : Cx} {pos : Pos}
theorem pe_dnewT : PE X (.Dict [] [] pos) tDNewT := fun pins s σ H Q I h =>
 wpAny_Dict_empty ⟨.ref s.heap.objs.size, _, I.laid (a := s.heap.objs.size) (o := .dT []) (t' := s.toks) (fun _ _ q => Heap.get?_push_of_some _ q) (Nat.le_refl _) (dt_empty s.heap I.big), rfl, h _ (I.hok.fresh (Nat.le_refl _))⟩
end
def tPairs : List (TE × TE) -> St -> Hp -> (List (V × V) -> Hp -> Prop) -> Prop
 | [], _, H, Q => Q [] H
 |(tk, tv) :: r, σ, H, Q => tk σ H fun x H1 => tv σ H1 fun y H2 => tPairs r σ H2 fun ps H3 => Q ((x, y) :: ps) H3
abbrev VV : List (V × V) -> List (Value × Value) -> Prop := Paired fun p q => RelV p.1 q.1 ∧ RelV p.2 q.2
def PPs (X : Cx) (pos : Pos) (keys : List (Option Expr)) (values : List Expr) (trs : List (TE × TE)) : Prop :=
 ∀ (pins : List (Addr × Obj)) (s : Shared) (σ : St) (H : Hp) (Q : List (V × V) -> Hp -> Prop), Inv X pins σ H s -> tPairs trs σ H Q ->
  wpAny (model X.prog X.w) X.A (evalPairs (pairTrees keys values X.env pos)) (fun vs s' => ∃ ps H', Inv X pins σ H' s' ∧ VV ps vs ∧ Q ps H') X.xe s
theorem pps_nil {X : Cx} {pos : Pos} : PPs X pos [] [] [] := fun pins s σ H Q I h => pairTrees_nil_walk ⟨[], H, I, .nil, h⟩
theorem pps_cons {X : Cx} {pos : Pos} {k v : Expr} {ks : List (Option Expr)} {vs : List Expr} {tk tv : TE} {trs : List (TE × TE)} (hk : PE X k tk) (hv : PE X v tv) (hr : PPs X pos ks vs trs) :
  PPs X pos (some k :: ks) (v :: vs) ((tk, tv) :: trs) := fun pins s σ H Q I h =>
 pairTrees_cons_walk (thn (hk pins s σ H _ I h) fun u s1 ⟨x, H1, I1, rx, q1⟩ => thn (hv pins s1 σ H1 _ I1 q1) fun w2 s2 ⟨y, H2, I2, ry, q2⟩ =>
  thn (hr pins s2 σ H2 _ I2 q2) fun ws s3 ⟨ps, H3, I3, rel, q3⟩ => ⟨(x, y) :: ps, H3, I3, .cons ⟨rx, ry⟩ rel, q3⟩)
structure M2 (X : Cx) (o : Expr) (m : Str) (apos : Pos) (e f : Expr) (cpos : Pos) : Prop where
 base : attributeBase o m X.env (eval o X.env) = eval o X.env
 few : ((backTo cpos (starEach [e, f] X.env)).all (fun x => !x.1) && (backToKw cpos (keywordEach [] X.env)).all (fun x => x.1.isSome)
  && decide (([e, f] : List Expr).length + ([] : List Keyword).length + (if ([] : List Keyword).isEmpty then 0 else 1) < 30)) = true
 line : (apos.endLine == cpos.line) = true
 trees : backTo cpos (starEach [e, f] X.env) = [(false, eval e X.env), (false, eval f X.env)]
def IsD (H : Hp) (a : Addr) : Prop := (∃ kvs, Rd H a (.dK kvs)) ∨ ∃ kvs, Rd H a (.dT kvs)
theorem isD_at {X : Cx} {pins : List (Addr × Obj)} {σ : St} {H : Hp} {s : Shared} {a : Addr} (I : Inv X pins σ H s) (d : IsD H a) :
  s.TypeIs (.ref a) "dict" ∧ (∀ b, Value.ref a = .ref b -> ∃ ob, s.heap.get? b = some ob ∧ ob.dict = none) ∧ (a == sysModules) = false := by
 rcases d with ⟨kvs, e⟩ | ⟨kvs, e⟩
 ·obtain ⟨_, hd, vs, _, dd⟩ := dk_rd I.hok e
  refine ⟨dd.typeIs, fun b q => ?_, hd⟩
  cases q
  obtain ⟨ob, _, _, h1, h2, _⟩ := dd
  exact ⟨ob, h1, h2.2.1⟩
 ·obtain ⟨_, hd, xs, _, dd⟩ := dt_rd I.hok e
  refine ⟨dd.typeIs, fun b q => ?_, hd⟩
  cases q
  obtain ⟨ob, _, _, h1, h2, _⟩ := dd
  exact ⟨ob, h1, h2.2.1⟩
section
variable {X : Cx} {pins : List (Addr × Obj)} {σ : St} {H : Hp} {s : Shared} {a : Addr} {y d : V} {u r : Value} {o : Option V} {A : Around} {E : Value -> Shared -> Prop}
theorem d_get2 {Q : Value -> Shared -> Prop} (hu : A.units + 1 < cLine) (I : Inv X pins σ H s) (g : DGet H a y o) (ry : RelV y u) (rd : RelV d r) (h : ∀ w' s', Inv X pins σ H s' -> RelV (o.getD d) w' -> Q w' s') :
  wpAny (model X.prog X.w) A (call (.builtin "dict.get") [.ref a, u, r]) Q E s := by
 rcases g with ⟨kvs, k, e, ey, l⟩ | ⟨kvs, k, b, e, ey, eb, l⟩
 ·subst ey
  obtain ⟨z, hd, vs, rel, dd⟩ := dk_rd I.hok e
  refine call_meetsIn PySem.F.slot_dict_get dd.typeIs PySem.F.entry_dict_get (PySem.F.args_dict_get_3 _ _ _) (meets_dict_get_default (mixKind X.prog X.w) a (kV_is ry) hd r) ⟨_, dd.mapOf, h _ _ (I.tok _) ?_⟩
  rw [l]
  exact (rel.val k).getD rd
 ·subst ey
  cases (show u = Value.ref b from ry)
  obtain ⟨z, hd, xs, rel, dd⟩ := dt_rd I.hok e
  refine call_meetsIn PySem.F.slot_dict_get dd.typeIs PySem.F.entry_dict_get (PySem.F.args_dict_get_3 _ _ _) (meetsH_dict_get_default (tupleKind (mixKind X.prog X.w)) a b hd r) ⟨tupleKind_room_in1 hu, k, xs, key_of I.hok eb, dd, h _ _ (I.tok _) ?_⟩
  rw [l]
  exact (rel.val k).getD rd
end
def tDGet2 (td ty tx : TE) : TE := fun σ H Q => td σ H fun x H1 => ∃ a, x = .ref a ∧ IsD H1 a ∧ ty σ H1 fun y H2 => tx σ H2 fun z H3 => ∃ o, DGet H3 a y o ∧ Q (o.getD z) H3
section
variable {X : Cx} {o e f : Expr} {apos cpos : Pos} {td ty tx : TE}
theorem pe_dget2 (hu : X.A.units + 1 < cLine) (ho : PE X o td) (he : PE X e ty) (hf : PE X f tx) (m : M2 X o "get" apos e f cpos) : PE X (.Call (.Attribute o "get" apos) [e, f] [] cpos) (tDGet2 td ty tx) := by
 intro pins s σ H Q I h
 refine wpAny_Call_method m.base m.few m.line PySem.F.plainAttrs_dict PySem.F.slot_dict_get PySem.F.type_dict_get (thn (ho pins s σ H _ I h) fun u s1 ⟨x, H1, I1, rx, a, ex, d, q1⟩ => ?_)
 subst ex
 obtain rfl : u = Value.ref a := rx
 obtain ⟨t1, t2, _⟩ := isD_at I1 d
 refine ⟨t1, t2, ?_⟩
 rw [m.trees]
 refine Calls.callWith_builtin rfl (Calls.evalArgs_plain (Calls.spliced_cons (thn (he pins s1 σ H1 _ I1 q1) fun iv s2 ⟨y, H2, I2, ry, q2⟩ =>
  Calls.spliced_cons (thn (hf pins s2 σ H2 _ I2 q2) fun fv s3 ⟨z, H3, I3, rz, ov, g, q3⟩ => Calls.spliced_nil ?_))))
 exact d_get2 hu I3 g ry rz fun w' s4 I4 rw' => ⟨_, H3, I4, rw', q3⟩
end
section
variable {X : Cx} {pins : List (Addr × Obj)} {σ : St} {H : Hp} {s : Shared} {a : Addr} {kvs : List (Key × V)} {A : Around} {E : Value -> Shared -> Prop}
end
section
variable {X : Cx} {pins : List (Addr × Obj)} {σ : St} {H : Hp} {s : Shared} {a : Addr} {y : V} {u : Value} {A : Around} {E : Value -> Shared -> Prop}
end
end L2
namespace L2
open PySem PySem.Spec PyProof.Rows
structure Grd (P : Program) (w : World) (fs : List Addr) (H H' : Hp) (h B : Heap) : Prop where
 keep : ∀ b o, h.get? b = some o -> H b = none -> b ∉ fs -> B.get? b = some o
 there : ∀ b o, h.get? b = some o -> b ∉ fs -> ∃ o', B.get? b = some o'
 free : ∀ b o, h.get? b = some o -> H b = none -> H' b = none
 tups : ∀ b xs, H b = some (.tup xs) -> H' b = some (.tup xs)
 frzs : ∀ b o u, H b = some (.frz o u) -> H' b = some (.frz o u)
 tbls : ∀ b ps, H b = some (.tbl ps) -> ∃ more, H' b = some (.tbl (ps ++ more))
 hok : HOk P w H' B
def Slt (fs : List Addr) (h h' : Heap) : Prop := ∀ b o, h.get? b = some o -> b ∈ fs -> ∃ sl, h'.get? b = some { o with slots := sl }
def CXE (P : Program) (w : World) : CXT := fun outer H s E e s' => ∃ (a t C : Addr) (H' : Hp) (B : Heap), e = .ref a ∧ s'.os = s.os ∧ AllBare s'.gens ∧ Heap.FlyingW B outer a (.ref C) (.ref t) s'.heap ∧
 Grd P w (frs outer) H H' s.heap B ∧ Slt (frs outer) s.heap s'.heap ∧ E (.ref C) none H'
theorem passF {P : Program} {w : World} {X : Cx} : Passes (CXE P w) X E0 := fun _ _ _ _ _ _ _ h => by
 obtain ⟨_, _, _, _, _, _, _, _, _, _, _, q⟩ := h
 exact q.elim
section
variable {X : Cx} {pins : List (Addr × Obj)} {σ : St} {H H' : Hp} {s : Shared}
theorem HOk.hide {P : Program} {w : World} {h : Heap} {fs : List Addr} (x : HOk P w H h) (hf : ∀ b ∈ fs, H b = none) : HOk P w H (PySem.W.hideAll h fs) := fun a o e =>
 (x a o e).stay (fun b u hb q => PySem.W.hideAll_get _ q fun z => by
  have n := hf b z
  rcases hb with hb | hb
  ·rw [hb, e] at n; cases n
  ·rw [hb] at n; cases n) (fun _ q => q) fun _ _ q => q
end
section
variable {P : Program} {w : World} {K : PySem.W.Frag} {mg : Str -> Option Value} {base : Heap} {N : List Str} {qual : Str} {scope : Scope} {f : Addr} {cd : Value} {A : Around} {outer : List Env} {s0 : Shared} {H0 : Hp} {E : XK}
theorem nofr0 {pins : List (Addr × Obj)} {σ : St} {H : Hp} {s : Shared} (I : Inv (cxOf (CXE P w) P w K mg base N qual scope f cd A outer s0 H0 E) pins σ H s) {b : Addr} {o : Obj} (q : s0.heap.get? b = some o) (hb : b ∉ frs outer) :
  b ∉ frs (envOfC qual scope s0.heap.objs.size f cd :: outer) := fun z => by
 rcases List.mem_cons.mp (I.stkSub b z) with e | e
 ·exact absurd (Heap.lt_size q) (by rw [e]; exact Nat.not_lt.mpr I.ok.above)
 ·exact hb e
theorem throw_here {pins : List (Addr × Obj)} {σ : St} {H : Hp} {s : Shared} {h' : Heap} {a C : Addr} {args : List Value} (I : Inv (cxOf (CXE P w) P w K mg base N qual scope f cd A outer s0 H0 E) pins σ H s)
  (hx : Heap.MadeExcOf s.heap h' a (.ref C) args) (q : E (.ref C) none H) : (cxOf (CXE P w) P w K mg base N qual scope f cd A outer s0 H0 E).xe (.ref a) { s with heap := h' } := by
 have hfs : ∀ b ∈ frs (envOfC qual scope s0.heap.objs.size f cd :: outer), H b = none := I.stkFree
 have hin : ∀ env ∈ (envOfC qual scope s0.heap.objs.size f cd :: outer), ∀ b, env.frame = some b -> b ∈ frs (envOfC qual scope s0.heap.objs.size f cd :: outer) := fun env he b hb => List.mem_filterMap.mpr ⟨env, he, hb⟩
 have hst : s.heap.FunFrames base (envOfC qual scope s0.heap.objs.size f cd :: outer) := I.stack
 have noE : ∀ b : Addr, b ∉ (cxOf (CXE P w) P w K mg base N qual scope f cd A outer s0 H0 E).ex := fun b z => absurd (show b ∈ ([] : List Addr) from z) (by simp)
 refine wpAny_leaves_madeW (base := PySem.W.hideAll s.heap (frs (envOfC qual scope s0.heap.objs.size f cd :: outer))) I.ok.frames rfl (fun b o z => PySem.W.of_hideAll _ z) (PySem.W.funFrames_hide hst hin) hx fun h2 t fl _ _ up => ?_
 refine ⟨a, t, C, H, _, rfl, I.os, I.bare, fl, ⟨fun b o e n hb => ?_, fun b o e hb => ?_, fun b o e n => I.base.free b o e n (noE b), I.base.tups, I.base.frzs, I.base.tbls, I.hok.hide hfs⟩, fun b o e hb => ?_, q⟩
 ·exact PySem.W.hideAll_get _ (I.base.keep b o e n hb (noE b)) (nofr0 I e hb)
 ·obtain ⟨o', e'⟩ := I.base.there b o e (noE b)
  exact ⟨o', PySem.W.hideAll_get _ e' (nofr0 I e hb)⟩
 ·obtain ⟨_, o', ho', hd⟩ := I.ok.funs.mem hb
  rw [show (cxOf (CXE P w) P w K mg base N qual scope f cd A outer s0 H0 E).s₀.heap.get? b = some o from e] at ho'; cases ho'
  obtain ⟨sl, e1⟩ := I.base.slot b o e (I.ok.frf b hb) hb (noE b)
  obtain ⟨sl', e2⟩ := up b _ (hx.keeps _ _ e1) hd
  exact ⟨sl', e2⟩
theorem passE : Passes (CXE P w) (cxOf (CXE P w) P w K mg base N qual scope f cd A outer s0 H0 E) E := fun pins σ H s e s' I c => by
 obtain ⟨a, t, C, H', B, rfl, os, bare, fl, G, sl, q⟩ := c
 have noE : ∀ b : Addr, b ∉ (cxOf (CXE P w) P w K mg base N qual scope f cd A outer s0 H0 E).ex := fun b z => absurd (show b ∈ ([] : List Addr) from z) (by simp)
 refine wpAny_leaves_onW I.ok.frames rfl fl fun h2 fl2 up => ?_
 refine ⟨a, t, C, H', B, rfl, os.trans I.os, bare, fl2, ⟨fun b o e n hb => ?_, fun b o e hb => ?_, fun b o e n => ?_, fun b xs z => G.tups b xs (I.base.tups b xs z), fun b o u z => G.frzs b o u (I.base.frzs b o u z), fun b ps z => ?_, G.hok⟩, fun b o e hb => ?_, q⟩
 ·exact G.keep b o (I.base.keep b o e n hb (noE b)) (I.base.free b o e n (noE b)) (nofr0 I e hb)
 ·obtain ⟨o', e'⟩ := I.base.there b o e (noE b)
  exact G.there b o' e' (nofr0 I e hb)
 ·obtain ⟨o', e'⟩ := I.base.there b o e (noE b)
  exact G.free b o' e' (I.base.free b o e n (noE b))
 ·obtain ⟨m1, e1⟩ := I.base.tbls b ps z
  obtain ⟨m2, e2⟩ := G.tbls b _ e1
  exact ⟨m1 ++ m2, by rw [e2, Array.append_assoc]⟩
 ·obtain ⟨_, o', ho', hd⟩ := I.ok.funs.mem hb
  rw [show (cxOf (CXE P w) P w K mg base N qual scope f cd A outer s0 H0 E).s₀.heap.get? b = some o from e] at ho'; cases ho'
  obtain ⟨_, e1⟩ := I.base.slot b o e (I.ok.frf b hb) hb (noE b)
  obtain ⟨_, e2⟩ := sl b _ e1 (by show b ∈ frs (envOfC qual scope s0.heap.objs.size f cd :: outer); exact List.mem_cons_of_mem _ hb)
  obtain ⟨sl', e3⟩ := up b _ e2 hd
  exact ⟨sl', e3⟩
theorem Fun.okE {x : Str} {st : Stmt} {fd : FuncData} {ps : List Str} {k : Nat} {sp : Sp} (F : Fun K x qual st f fd) (S : FnScope N ps (defScope st)) (len : ∀ vs H Q E, sp vs H Q E -> vs.length = ps.length)
  (hbody : ∀ (cdv : Value) (A : Around) (outer : List Env) (s : Shared) (H : Hp) (vs : List V) (Q : VK) (E : XK), Room k (A.deeper (envOfC qual (defScope st) s.heap.objs.size f cdv)) -> sp vs H Q E ->
   ∃ t, PSs (cxOf (CXE P w) P w K mg base N qual (defScope st) f cdv A outer s H E) (defBody st) t ∧ t { nx := fun _ H' => Q .non H', rt := Q } (start N vs) H) : FnOk P w K mg base (CXE P w) (k + 1) f fd ps sp := by
 obtain ⟨oc, od, kV, doc, pm, an, cdv, ct, osl, rfl, lk, hcd⟩ := F.ex
 exact fn_of lk hcd S len fun A outer s H vs Q E hr hsp => hbody cdv A outer s H vs Q E hr hsp
end
theorem PS.nox {X : Cx} {st : Stmt} {t : TS} (h : PS X.nox st t) : PS X st t := fun pins s σ H D I hw =>
 wpAny_mono (h pins s σ H D (I.wish _) hw) (fun _ _ q => q.unwish) fun _ _ z => False.elim z
abbrev bmV : List Value := [.type "ValueError", .type "Exception", .type "BaseException", .type "object"]
theorem exc_obj {K : PySem.W.Frag} {C : Addr} (q : PySem.W.excIn K C bmV "ValueError.__new__" = true) : ∃ bm N nm qn bs hd sn sub ab col dd k0 k1 k2 k3 k5,
  K.lookup C = some (excClassObj nm qn C N bs bm hd sn sub ab col dd k0 k1 k2 k3 k5 "ValueError.__new__") ∧ PySem.W.tailIn K bmV bm = true ∧ PySem.W.nsOkIn K N = true ∧ PySem.W.nsIn K N "__init__" = some none := by
 unfold PySem.W.excIn at q
 split at q
 ·rename_i dd cd sl ho
  split at q
  ·rename_i C1 bm k0 k1 k2 k3 n k5 hm hs
   rw [Bool.and_eq_true, Bool.and_eq_true, Bool.and_eq_true, Bool.and_eq_true, Bool.and_eq_true] at q
   obtain ⟨⟨⟨⟨⟨q1, q2⟩, q3⟩, q4⟩, q5⟩, q6⟩ := q
   have r1 := beq_iff_eq.mp q1
   have r2 := beq_iff_eq.mp q2
   have r6 := beq_iff_eq.mp q6
   subst r1 r2
   obtain ⟨nm, bs, mro, ns, qn, hd, sn, sub, ab, col, del⟩ := cd
   simp only at hm q3 q5 r6
   have q3' : del = false := by cases del <;> simp at q3 ⊢
   subst hm q3'
   obtain ⟨l⟩ := sl
   simp only at hs
   subst hs
   exact ⟨bm, ns, nm, qn, bs, hd, sn, sub, ab, col, dd, k0, k1, k2, k3, k5, ho, q4, q5, r6⟩
  ·cases q
 ·cases q
def Throws (X : Cx) (E : XK) : Prop := ∀ (pins : List (Addr × Obj)) (σ : St) (H : Hp) (s : Shared) (h' : Heap) (a C : Addr) (args : List Value), Inv X pins σ H s -> Heap.MadeExcOf s.heap h' a (.ref C) args -> E (.ref C) none H -> X.xe (.ref a) { s with heap := h' }
theorem throwE {P : Program} {w : World} {K : PySem.W.Frag} {mg : Str -> Option Value} {base : Heap} {N : List Str} {qual : Str} {scope : Scope} {f : Addr} {cd : Value} {A : Around} {outer : List Env} {s0 : Shared} {H0 : Hp} {E : XK} :
  Throws (cxOf (CXE P w) P w K mg base N qual scope f cd A outer s0 H0 E) E := fun _ _ _ _ _ _ _ _ I hx q => throw_here I hx q
def tRaise (C : Addr) (ta : TA) (E : XK) : TS := fun _ σ H => ta σ H fun vs H1 => vs.length <= sizeLine ∧ E (.ref C) none H1
theorem a_raise {C : Addr} {ta : TA} {E : XK} {D : Ends} {σ : St} {H : Hp} : tRaise C ta E D σ H = ta σ H fun vs H1 => vs.length <= sizeLine ∧ E (.ref C) none H1 := rfl
theorem ps_raise {X : Cx} {E : XK} {x : Str} {C : Addr} {e0 : Expr} {ta : TA} {np cpos pos : Pos} (hc : X.calm = true) (hr : Throws X E) (hg : Gl X x) (hm : X.mg x = some (.ref C)) (hx : PySem.W.excIn X.K C bmV "ValueError.__new__" = true) (ha : PA X [e0] ta)
  (he : starEach [e0] X.env = [(false, eval e0 X.env)] := by rfl) (hpl : (backTo cpos (starEach [e0] X.env)).any (·.1) = false := by rfl) (hd : (x == ("__debug__" : Str)) = false := by decide) :
  PS X (.Raise (some (.Call (.Name x np) [e0] [] cpos)) none pos) (tRaise C ta E) := by
 intro pins s σ H D I h
 obtain ⟨bm, N, nm, qn, bs, hdc, sn, sub, ab, col, dd, k0, k1, k2, k3, k5, lk, tl, ok, ni⟩ := exc_obj hx
 have T0 : OwnTail s.heap bmV bm := PySem.W.tail_of_in I.kIn tl
 refine wpAny_Raise_call_subT (C := C) (nm := nm) (q := qn) (N := N) (bs := bs) (bm := bm) (hdct := hdc) (sn := sn) (sub := sub) (ab := ab) (col := col) (dd := dd) (k0 := k0) (k1 := k1) (k2 := k2) (k3 := k3) (k5 := k5)
  PySem.F.excBase_ValueError (mN := s.heap.nsMap N) (T0.hasType PySem.F.excBase_ValueError.hasBase) (I.ok.hd hc) hpl (PySem.W.nsMap_none_of_in I.kIn ok ni) (ld_glob I hg hm ⟨rfl, ?_⟩ hd)
 have ns0 : s.heap.Ns N (s.heap.nsMap N) := .of_isNs (PySem.W.isNs_of_in I.kIn ok)
 have h2 := ha cpos pins s σ H _ I h
 rw [he] at h2 ⊢
 refine Calls.evalArgs_plain (wpAny_mono h2 (fun vs s2 z => ?_) fun _ _ y => y)
 obtain ⟨xs, H1, I1, r1, q1, q2⟩ := z
 have eN : s.heap.nsMap N = s2.heap.nsMap N := by
  obtain ⟨o, es, ep, ho, hdt, _⟩ := id ns0
  unfold PySem.W.nsOkIn at ok
  split at ok
  ·rename_i z
   unfold Heap.nsMap
   rw [I.kIn _ _ z, I1.kIn _ _ z]
  ·cases ok
 refine ⟨rfl, by rw [← r1.length]; exact q1, I1.kIn _ _ lk, ?_, PySem.W.tail_of_in I1.kIn tl, fun h' a hm' => hr pins σ H1 s2 h' a C vs I1 hm' q2⟩
 rw [eN]; exact .of_isNs (PySem.W.isNs_of_in I1.kIn ok)
end L2
namespace L2
open PySem PySem.Spec PyProof.Rows
def IsExc (a C : Addr) : HO := .ext fun h => ∃ oe vs, h.get? a = some oe ∧ oe.cls = .ref C ∧ oe.data = .fields vs
section
variable {X : Cx} {pins : List (Addr × Obj)} {σ : St} {H H' : Hp} {s : Shared} {a : Addr}
end
structure Catches (K : PySem.W.Frag) (C D : Addr) : Prop where
 c : PySem.W.excIn K C bmV "ValueError.__new__" = true
 d : PySem.W.excIn K D bmV "ValueError.__new__" = true
 base : PySem.W.mroIn K D (.type "BaseException") = some true
 sub : PySem.W.mroIn K C (.ref D) = some true
section
variable {X : Cx} {pins : List (Addr × Obj)} {σ : St} {H H' : Hp} {s s2 : Shared} {a t C : Addr} {B : Heap}
end
section
variable {X : Cx} {k : Nat} {f : Addr} {fd : FuncData} {ps : List Str} {sp : Sp} {x : Str} {p pos : Pos} {e : Expr} {es : List Expr} {t : TA}
end
def tTry (K : PySem.W.Frag) (Dc : Addr) (t : XK -> TS) (th : TS) : TS := fun D σ H => t (fun c _ H1 => ∃ C, c = .ref C ∧ Catches K C Dc ∧ ∀ a, H1 a = none -> th D σ (upd H1 a (IsExc a C))) D σ H
theorem a_try {K : PySem.W.Frag} {Dc : Addr} {t : XK -> TS} {th : TS} {D : Ends} {σ : St} {H : Hp} : tTry K Dc t th D σ H = t (fun c _ H1 => ∃ C, c = .ref C ∧ Catches K C Dc ∧ ∀ a, H1 a = none -> th D σ (upd H1 a (IsExc a C))) D σ H := rfl
section
variable {X : Cx} {st b0 : Stmt} {suite : List Stmt} {t : XK -> TS} {th : TS} {x n : Str} {Dc : Addr} {np hpos pos : Pos}
end
def Ends.drop (D : Ends) (i : Nat) : Ends := { nx := fun σ H => D.nx (σ.set i none) H, rt := D.rt, bk := fun σ H => D.bk (σ.set i none) H, ct := fun σ H => D.ct (σ.set i none) H }
def tTryAs (K : PySem.W.Frag) (Dc : Addr) (i : Nat) (t : XK -> TS) (th : TS) : TS := fun D σ H => t (fun c _ H1 => ∃ C, c = .ref C ∧ Catches K C Dc ∧ ∀ a, H1 a = none -> th (D.drop i) (σ.set i (some (.ref a))) (upd H1 a (IsExc a C))) D σ H
theorem a_tryAs {K : PySem.W.Frag} {Dc : Addr} {i : Nat} {t : XK -> TS} {th : TS} {D : Ends} {σ : St} {H : Hp} : tTryAs K Dc i t th D σ H = t (fun c _ H1 => ∃ C, c = .ref C ∧ Catches K C Dc ∧ ∀ a, H1 a = none -> th (D.drop i) (σ.set i (some (.ref a))) (upd H1 a (IsExc a C))) D σ H := rfl
theorem a_drop_nx {D : Ends} {i : Nat} {σ : St} {H : Hp} : (D.drop i).nx σ H = D.nx (σ.set i none) H := rfl
section
variable {X : Cx} {st b0 : Stmt} {suite : List Stmt} {t : XK -> TS} {th : TS} {x n : Str} {Dc : Addr} {np hpos pos : Pos} {i : Nat}
end
end L2
namespace L2
open PySem PySem.Spec PySem.W PyProof.Rows Builtin Builtin.ObjectAttr Builtin.Getset_descriptor
section
variable {prog : Program} {w : World} {A : Around} {E : Value -> Shared -> Prop} {s : Shared} {K : PySem.W.Frag} {x C : Addr}
end
end L2
namespace L2
open PySem PySem.Spec PyProof.Rows
section
variable {X : Cx} {e st : Expr} {te : TE} {lo hi : Option Expr} {tl th ts : TO} {pos p2 : Pos}
end
end L2
namespace L2
open PySem PySem.Spec PyProof.Rows
theorem compLoop_if {prog : Program} {w : World} {A : Around} {R : Result -> Shared -> Prop} {s : Shared} {elt target iter cnd : Expr} {scope : Scope} {pos : Pos} {it acc : Value} {env : Env} (I : Nat -> Shared -> Prop)
  (turn : ∀ n s (E : Value -> Shared -> Prop), I n s -> wpAny (model prog w) A (pyNext it) (fun r s₁ => match r with
   | none => R (.ok .next) s₁
   | some v => wpAny (model prog w) A (letOwnedTupleGo target it v) (fun _ s₂ => wpAny (model prog w) A (assign target env v) (fun _ s₃ => wpAny (model prog w) A (isTrue cnd env (eval cnd env)) (fun b s₄ => if b = true then wpAny (model prog w) A (eval elt env) (fun x s₅ =>
     wpAny (model prog w) A (call (.builtin "list.append") [acc, x]) (fun _ s₆ => ∃ m, m < n ∧ I m s₆) E s₅) E s₄ else ∃ m, m < n ∧ I m s₄) E s₃) E s₂) E s₁) E s)
  (n : Nat) (h : I n s) :
  codeAny (model prog w) A (.compLoop (.ListComp elt [⟨target, iter, [cnd], 0⟩] scope pos) 0 it acc env) R s := by
 refine codeAny_loop rfl I (fun n s hI => ?_) n h
 show wpAny _ _ ((compTurn (.ListComp elt [⟨target, iter, [cnd], 0⟩] scope pos) 0 it acc env).onRaise (fun x => do noteFrame x env; theTreesLotGoes x)) _ _ s
 refine wpAny_noted ?_
 unfold compTurn
 dsimp only [List.getElem?_cons_zero]
 refine wpAny_bind (wpAny_standAt (wpAny_bind (wpAny_mono (turn n s _ hI) (fun r s₁ h₁ => ?_) fun _ _ h' => h')))
 cases r with
 | none => exact wpAny_pure h₁
 | some v =>
  refine wpAny_bind (thn h₁ fun _ s₂ h₂ => wpAny_bind (thn h₂ fun _ s₃ h₃ => wpAny_bind ?_))
  rw [List.forIn_cons, if_pos rfl]
  refine wpAny_bind (wpAny_bind (thn h₃ fun b s₄ h₄ => wpAny_pure ?_))
  dsimp only
  rw [List.forIn_nil]
  refine wpAny_pure ?_
  cases b with
  | true =>
   rw [if_pos rfl] at h₄ ⊢
   exact wpAny_bind (wpAny_bind (thn h₄ fun x s₅ h₅ => wpAny_bind (thn h₅ fun _ s₆ h₆ => wpAny_pure (wpAny_pure ⟨rfl, h₆⟩))))
  | false =>
   rw [if_neg (by decide)] at h₄ ⊢
   exact wpAny_pure ⟨rfl, h₄⟩
section
variable {X : Cx} {elt iter cnd : Expr} {x : Str} {px : Pos} {fv : List (Nat × Str)} {scope : Scope} {cl : List (Str × Addr)} {pos : Pos} {te : TE} {tt : TT} {wi : TI}
def CLoopIf (J : It) (fv : List (Nat × Str)) (tt : TT) (te : TE) (Q : VK) (σ : St) (H1 : Hp) (D : Addr) : Prop := ∃ W : Nat -> Nat -> Hp -> Prop, (∃ m, W 0 m (upd H1 D (.lst []))) ∧ ∀ i m H, W i m H ->
 (J.stop i H ∧ Q (.ref D) H) ∨ (J.go i H ∧ ∃ N : Hp -> Prop, (∀ H', N H' -> ∃ m', m' < m ∧ W (i + 1) m' H') ∧ ∀ v H', J.yld i H v H' -> tt (bst fv σ (some v)) H' fun b Hb => if b = true then te (bst fv σ (some v)) Hb fun y H2 => ∃ ys, H2 D = some (.lst ys) ∧ ys.length < sizeLine ∧ N (upd H2 D (.lst (ys ++ [y]))) else N Hb)
def tCompIf (fv : List (Nat × Str)) (wi : TI) (tt : TT) (te : TE) : TE := fun σ H Q => wi σ H fun J H1 => ∀ D, H1 D = none -> CLoopIf J fv tt te Q σ H1 D
end
theorem a_compIf {fv : List (Nat × Str)} {wi : TI} {tt : TT} {te : TE} {σ : St} {H : Hp} {Q : VK} : tCompIf fv wi tt te σ H Q = wi σ H fun J H1 => ∀ D, H1 D = none -> CLoopIf J fv tt te Q σ H1 D := rfl
end L2
namespace L2
open PySem PySem.Spec PyProof.Rows
theorem ints_are : ∀ {ns : List Int} {us : List Value}, Vals (ns.map V.int) us -> IntsAre us ns
 | [], us, h => by
  cases h; exact .nil
 | n :: ns, us, h => by
  cases h with
  | cons r rr =>
   obtain ⟨t, rfl⟩ := r
   exact .cons n t (ints_are rr)
theorem at_best {zs : Array (Int × Tok)} {ns : List Int} (e : ns = zs.toList.map (·.1)) {j : Nat} (hj : j < zs.size) : numAt zs j ∈ ns := by
 rw [e, numAt_eq]
 exact PySem.getD_mem (by simpa using hj)
theorem of_best {zs : Array (Int × Tok)} {ns : List Int} (e : ns = zs.toList.map (·.1)) {x : Int} (hx : x ∈ ns) : ∃ j, j < zs.size ∧ numAt zs j = x := by
 rw [e] at hx
 obtain ⟨i, hi, h⟩ := mem_getD hx
 exact ⟨i, by simpa using hi, by rw [numAt_eq]; exact h⟩
theorem call_minL {X : Cx} (hc : X.calm = true) : CallR X (.builtin "min") (fun xs H Q => ∃ p ns, xs = [.ref p] ∧ SqL X.K H p (ns.map V.int) ∧ ns ≠ [] ∧ ∀ M, M ∈ ns -> (∀ a, a ∈ ns -> M <= a) -> Q (.int M) H) := by
 intro pins s σ H xs us Q I r h
 obtain ⟨p, ns, rfl, hq, hne, q⟩ := h
 obtain ⟨u, rfl, rx⟩ := vals1 r
 cases rx
 obtain ⟨its, r', pl, hz⟩ := I.list hq
 have hi := ints_are r'
 obtain ⟨zs, e⟩ := hi.allInts.items
 have hns : ns = zs.toList.map (·.1) := by rw [← hi.numsOf, ← nums_intItems, ← e]
 have hsz : 0 < zs.size := by
  have h3 := List.length_pos_iff.mpr hne
  rw [hns, List.length_map, Array.length_toList] at h3; exact h3
 have hl := pl.isList
 rw [e] at hl
 refine min_intList (I.ok.hd hc) hl hsz fun v h' tk hv hk => ?_
 obtain ⟨tv, rfl⟩ := intItems_at hv
 obtain ⟨g1, g2⟩ := argBest_lt (numAt zs) (zs.size - 1)
 refine ⟨.int _, H, I.kept hk, ⟨tv, rfl⟩, q _ (at_best hns (by omega)) fun x hx => ?_⟩
 obtain ⟨i, hi, rfl⟩ := of_best hns hx
 exact g2 i (by omega)
def tFst (x : Str) (te : TE) : TE := fun σ H Q => (Str.empty ++ x).length <= sizeLine ∧ te σ H fun v H1 => ∃ i, v = .int i ∧ i.natAbs.log2 < 1920 ∧ (Str.empty ++ x ++ Str.ofString (toString i)).length <= sizeLine ∧ Q (.str (Str.empty ++ x ++ Str.ofString (toString i))) H1
theorem a_fst {x : Str} {te : TE} {σ : St} {H : Hp} {Q : VK} : tFst x te σ H Q = ((Str.empty ++ x).length <= sizeLine ∧ te σ H fun v H1 => ∃ i, v = .int i ∧ i.natAbs.log2 < 1920 ∧ (Str.empty ++ x ++ Str.ofString (toString i)).length <= sizeLine ∧ Q (.str (Str.empty ++ x ++ Str.ofString (toString i))) H1) := rfl
end L2
namespace L2
open PySem PySem.Spec PyProof.Rows
@[reducible] def blk2 (X : Cx) (x z : Str) (fv : List (Nat × Str)) (scope : Scope) (cl : List (Str × Addr)) (C : Addr) (s : Shared) (H : Hp) (fp : List Addr) : Cx where
 prog := X.prog
 w := X.w
 K := X.K
 mg := X.mg
 base := X.base
 A := X.A
 N := x :: z :: fv.map (·.2)
 s₀ := s
 H₀ := H
 env := compEnvC scope cl C X.env
 outer := X.stack
 stack := X.stack
 ex := fp
 fn := fun _ => false
 calm := X.calm
 pn := []
 xe := fun _ _ => False
def bst2 (fv : List (Nat × Str)) (σ : St) (v v2 : Option V) : St := v :: v2 :: fv.map fun p => (σ[p.1]?).getD none
structure BlkOk2 (X : Cx) (x z : Str) (fv : List (Nat × Str)) (scope : Scope) (cl : List (Str × Addr)) : Prop where
 clos : closureFor scope X.env = pure cl
 nocell : ∀ y ∈ scope.names, y.2 ≠ .cell
 kind : scope.kind = .function
 names : ∀ y ∈ scope.names, y.2 = .local -> scope.names.lookup y.1 = some .local
 here : scope.names.lookup x = some .local
 here2 : scope.names.lookup z = some .local
 nd : (x :: z :: fv.map (·.2)).Nodup
 sub : ∀ y c, cl.lookup y = some c -> X.env.cells.lookup y = some c
 has : ∀ y, ((relabel scope X.env).names.lookup y = some .cell ∨ (relabel scope X.env).names.lookup y = some .free) -> ∃ c, cl.lookup y = some c
 fvs : ∀ p ∈ fv, X.N[p.1]? = some p.2 ∧ (X.env.scope.names.lookup p.2 = some .cell ∨ X.env.scope.names.lookup p.2 = some .free) ∧
  ((relabel scope X.env).names.lookup p.2 = some .cell ∨ (relabel scope X.env).names.lookup p.2 = some .free) ∧ ∃ c, cl.lookup p.2 = some c
section
variable {X : Cx} {elt iter : Expr} {x z : Str} {px pz : Pos} {tk : Nat} {tpos : Pos} {fv : List (Nat × Str)} {scope : Scope} {cl : List (Str × Addr)} {pos : Pos} {te : TE} {wi : TI}
theorem blk_ok2 {pins : List (Addr × Obj)} {σ : St} {H : Hp} {s : Shared} {fp : List Addr} {C : Addr} (B : BlkOk2 X x z fv scope cl) (I : Inv X pins σ H s) (hf : ∀ b ∈ fp, FpOk X pins H b) (hC : s.heap.objs.size <= C) (hfC : ∀ b ∈ fp, b ≠ C) :
  (blk2 X x z fv scope cl C s H fp).Ok where
 mod := I.ok.mod
 kind := B.kind
 glob := I.ok.glob
 blt := I.ok.blt
 above := hC
 inj := fun y y' c h1 h2 => I.ok.inj y y' c (B.sub y c h1) (B.sub y' c h2)
 has := fun y hy => B.has y hy
 cab := fun y c h => nomatch h
 hd := I.ok.hd
 frames := I.ok.frames
 stk := .inl rfl
 exf := fun b hb => ⟨hfC b hb, fun y c e => (hf b hb).2.2.2.2.1 y c (B.sub y c e)⟩
 bs := I.bs
 bsz := Nat.le_trans I.ok.bsz I.sz
 noex := fun b o e hb => by
  obtain ⟨_, _, _, f3, _⟩ := hf b hb
  rcases f3 with z' | z'
  ·exact I.ok.noex b o e z'
  ·exact absurd (Nat.lt_of_lt_of_le (Heap.lt_size e) (Nat.le_trans I.ok.bsz z')) (Nat.lt_irrefl _)
 exfs := fun b hb hs => by
  obtain ⟨_, f1, f2, _⟩ := hf b hb
  rcases List.mem_cons.mp (I.stkSub b hs) with z | z
  ·exact f1 z
  ·exact f2 z
 funs := I.stack
 frf := I.stkFree
theorem bst_get2 {fv : List (Nat × Str)} {σ : St} {o o2 : Option V} {j : Nat} {y : Str} {v : V} (h1 : (x :: z :: fv.map (·.2))[j + 2]? = some y) (h2 : (bst2 fv σ o o2)[j + 2]? = some (some v)) : ∃ p ∈ fv, p.2 = y ∧ σ[p.1]? = some (some v) := by
 have e1 : (fv.map (·.2))[j]? = some y := by simpa using h1
 have e2 : (fv.map fun p => (σ[p.1]?).getD none)[j]? = some (some v) := by simpa [bst2] using h2
 rw [List.getElem?_map] at e1 e2
 cases q : fv[j]? with
 | none => rw [q] at e1; cases e1
 | some p =>
  rw [q] at e1 e2
  refine ⟨p, List.mem_of_getElem? q, Option.some.inj e1, ?_⟩
  have e3 : (σ[p.1]?).getD none = some v := Option.some.inj e2
  cases r : σ[p.1]? with
  | none => rw [r] at e3; cases e3
  | some w => rw [r] at e3; exact congrArg some e3
theorem blk_start2 {pins : List (Addr × Obj)} {σ : St} {H : Hp} {s s4 : Shared} {fp : List Addr} {C : Addr} {m : Str -> Option Value} (B : BlkOk2 X x z fv scope cl) (I : Inv X pins σ H s) (hf : ∀ b ∈ fp, FpOk X pins H b) (hC : C = s.heap.objs.size)
  (hfC : ∀ b ∈ fp, b ≠ C) (os : s4.os = s.os) (gens : s4.gens = s.gens) (keep : ∀ b o, s.heap.get? b = some o -> s4.heap.get? b = some o) (ns : s4.heap.Ns C m) :
  Inv (blk2 X x z fv scope cl C s H fp) [] (bst2 fv σ none none) H s4 := by
 subst hC
 refine ⟨blk_ok2 B I hf (Nat.le_refl _) hfC, os, by rw [gens]; exact I.bare, Un.kept keep, ⟨m, ns, fun i y v h1 h2 h3 => ?_⟩, fun y c e => ?_, I.hok.fresh (Nat.le_refl _), fun y c e => I.freeC y c (B.sub y c e), fun p hp => absurd (show p ∈ ([] : List (Addr × Obj)) from hp) (by simp), I.hok.kept keep, by simp [bst2]⟩
 ·cases i with
  | zero => simp [bst2] at h2
  | succ j =>
   cases j with
   | zero => simp [bst2] at h2
   | succ j =>
   obtain ⟨p, hp, rfl, hv⟩ := bst_get2 h1 h2
   obtain ⟨hN, hk, hk2, c, hc⟩ := B.fvs p hp
   obtain ⟨m0, _, hl⟩ := I.loc
   have vis : Vis X.env.scope p.2 := hk.elim (fun z => .inr (.inl z)) fun z => .inr (.inr z)
   obtain ⟨u, r, l⟩ := hl p.1 p.2 v hN hv vis
   refine ⟨u, r, .inr ⟨hk2, c, hc, ?_⟩⟩
   rcases l with ⟨z, _⟩ | ⟨_, c', hc', o, ho, hd⟩
   ·have z' : X.env.scope.names.lookup p.2 = some .local := z
    rcases hk with k | k <;> (rw [k] at z'; cases z')
   ·have := B.sub p.2 c hc
    rw [hc'] at this; cases this
    exact ⟨o, keep _ o ho, hd⟩
 ·obtain ⟨v, o, ho, hd⟩ := I.cell y c (B.sub y c e)
  exact ⟨v, o, keep c o ho, hd⟩
theorem blk_store2 {s : Shared} {H0 : Hp} {fp : List Addr} {C : Addr} (hc : X.calm = true) (B : BlkOk2 X x z fv scope cl) :
  PG (blk2 X x z fv scope cl C s H0 fp) (.Tuple [.Name x px, .Name z pz] tk tpos) (gTup X.K 2 (gCons (gName 0) (gCons (gName 1) gNil))) := by
 have h1 : (relabel scope X.env).names.lookup x = some .local := lookup_relabel_local B.here
 have h2 : (relabel scope X.env).names.lookup z = some .local := lookup_relabel_local B.here2
 exact pg_tup (X := blk2 X x z fv scope cl C s H0 fp) hc (pgs_cons (pg_name (i := 0) B.nd rfl (.inl h1) (.inr h1)) (pgs_cons (pg_name (i := 1) B.nd rfl (.inl h2) (.inr h2)) pgs_nil))
def CLoop2 (K : PySem.W.Frag) (J : It) (fv : List (Nat × Str)) (te : TE) (Q : VK) (σ : St) (H1 : Hp) (D : Addr) : Prop := ∃ W : Nat -> Nat -> Hp -> Prop, (∃ m, W 0 m (upd H1 D (.lst []))) ∧ ∀ i m H, W i m H ->
 (J.stop i H ∧ Q (.ref D) H) ∨ (J.go i H ∧ ∃ N : Hp -> Prop, (∀ H', N H' -> ∃ m', m' < m ∧ W (i + 1) m' H') ∧ ∀ v H', J.yld i H v H' -> ∃ q x1 x2, v = .ref q ∧ SqT K H' q [x1, x2] ∧ te (bst2 fv σ (some x1) (some x2)) H' fun y H2 => ∃ ys, H2 D = some (.lst ys) ∧ ys.length < sizeLine ∧ N (upd H2 D (.lst (ys ++ [y]))))
def tComp2 (K : PySem.W.Frag) (fv : List (Nat × Str)) (wi : TI) (te : TE) : TE := fun σ H Q => wi σ H fun J H1 => ∀ D, H1 D = none -> CLoop2 K J fv te Q σ H1 D
theorem a_tComp2 {K : PySem.W.Frag} {σ : St} {H : Hp} {Q : VK} : tComp2 K fv wi te σ H Q = wi σ H fun J H1 => ∀ D, H1 D = none -> CLoop2 K J fv te Q σ H1 D := rfl
def FvOk2 (X : Cx) (scope : Scope) (cl : List (Str × Addr)) (fv : List (Nat × Str)) : Prop := ∀ p ∈ fv, X.N[p.1]? = some p.2 ∧ (X.env.scope.names.lookup p.2 = some .cell ∨ X.env.scope.names.lookup p.2 = some .free) ∧
  ((relabel scope X.env).names.lookup p.2 = some .cell ∨ (relabel scope X.env).names.lookup p.2 = some .free) ∧ ∃ c, cl.lookup p.2 = some c
theorem fv_nil2 {X : Cx} {scope : Scope} {cl : List (Str × Addr)} : FvOk2 X scope cl [] := fun _ h => nomatch h
theorem blkok2 {X : Cx} {x z : Str} {fv : List (Nat × Str)} {scope : Scope} {cl : List (Str × Addr)} (clos : closureFor scope X.env = pure cl) (sub : ∀ y c, cl.lookup y = some c -> X.env.cells.lookup y = some c) (fvs : FvOk2 X scope cl fv)
  (nd : (x :: z :: fv.map (·.2)).Nodup := by decide) (kind : scope.kind = .function := by rfl) (here : scope.names.lookup x = some .local := by rfl) (here2 : scope.names.lookup z = some .local := by rfl) (nocell : ∀ y ∈ scope.names, y.2 ≠ .cell := by decide +kernel)
  (names : ∀ y ∈ scope.names, y.2 = .local -> scope.names.lookup y.1 = some .local := by decide +kernel)
  (has : ((relabel scope X.env).names.all fun p => (p.2 != .cell && p.2 != .free) || (cl.lookup p.1).isSome) = true := by rfl) : BlkOk2 X x z fv scope cl :=
 ⟨clos, nocell, kind, names, here, here2, nd, sub, has_of has, fvs⟩
end
def Itz (K : PySem.W.Frag) (a b : Addr) : It :=
 ⟨fun i H => ∃ xs ys x y, SqL K H a xs ∧ SqL K H b ys ∧ xs[i]? = some x ∧ ys[i]? = some y, fun i H v H' => ∃ p x y, H p = none ∧ v = .ref p ∧ H' = upd H p (.tup [x, y]) ∧ (∀ xs, SqL K H a xs -> xs[i]? = some x) ∧ ∀ ys, SqL K H b ys -> ys[i]? = some y,
  fun i H => ∃ xs ys, SqL K H a xs ∧ SqL K H b ys ∧ (xs.length <= i ∨ ys.length <= i)⟩
section
variable {X : Cx}
def iZip (K : PySem.W.Frag) (ta : TA) : TI := fun σ H R => ta σ H fun vs H1 => ∃ a b xs ys, vs = [.ref a, .ref b] ∧ SqL K H1 a xs ∧ SqL K H1 b ys ∧ R (Itz K a b) H1
end
theorem a_izip {K : PySem.W.Frag} {ta : TA} {σ : St} {H : Hp} {R : It -> Hp -> Prop} : iZip K ta σ H R = ta σ H fun vs H1 => ∃ a b xs ys, vs = [.ref a, .ref b] ∧ SqL K H1 a xs ∧ SqL K H1 b ys ∧ R (Itz K a b) H1 := rfl
end L2
namespace L2
open PySem PySem.Spec PyProof.Rows
section
variable {X : Cx}
def ipC (C : Int -> Int -> Prop) (f : Int -> Int -> Int) : TIp := fun x y H Q => ∃ i j, x = .int i ∧ y = .int j ∧ C i j ∧ Q (.int (f i j)) H
theorem a_ipC {C : Int -> Int -> Prop} {f : Int -> Int -> Int} {x y : V} {H : Hp} {Q : VK} : ipC C f x y H Q = ∃ i j, x = .int i ∧ y = .int j ∧ C i j ∧ Q (.int (f i j)) H := rfl
theorem ip_mulZ : PIp X .Mult (ipC IntMulOk fun i j => i * j) := by
 intro pins s σ H x y v u Q I r1 r2 h
 obtain ⟨i, j, e1, e2, hm, q⟩ := h
 subst e1; subst e2
 obtain ⟨t, rfl⟩ := r1
 obtain ⟨t', rfl⟩ := r2
 exact imul_int ⟨.int _, H, I.tok _, ⟨_, rfl⟩, q⟩ hm
end
section
variable {X : Cx} {elt iter cnd : Expr} {x : Str} {px : Pos} {fv : List (Nat × Str)} {scope : Scope} {cl : List (Str × Addr)} {pos : Pos} {te : TE} {tt : TT} {wi : TI}
end
end L2
namespace L2
open PySem PySem.Spec PyProof.Rows
end L2
namespace L2
open PySem PySem.Spec PyProof.Rows
section
variable {prog : Program} {w : World} {A : Around} {R : Result -> Shared -> Prop} {I S : Addr} {fp wr : List Addr} {n : Nat} {P : Nat -> Value -> Prop} {St : Nat -> Heap -> Prop} {bt : Nat -> Nat -> Bool} {d : List (Str × Value)}
end
def tMaxD (K : PySem.W.Frag) (t tk : TA) : TE := fun σ H Q => t σ H fun vs H1 => tk σ H1 fun zs H2 => ∃ p ns d, vs = [.ref p] ∧ zs = [.int d] ∧ SqL K H2 p (ns.map V.int) ∧ ∀ M, (ns = [] ∧ M = d) ∨ (M ∈ ns ∧ ∀ a ∈ ns, a <= M) -> Q (.int M) H2
theorem a_maxD {K : PySem.W.Frag} {t tk : TA} {σ : St} {H : Hp} {Q : VK} : tMaxD K t tk σ H Q = t σ H fun vs H1 => tk σ H1 fun zs H2 => ∃ p ns d, vs = [.ref p] ∧ zs = [.int d] ∧ SqL K H2 p (ns.map V.int) ∧ ∀ M, (ns = [] ∧ M = d) ∨ (M ∈ ns ∧ ∀ a ∈ ns, a <= M) -> Q (.int M) H2 := rfl
theorem a_inS {K : PySem.W.Frag} {neg : Bool} {x y : V} {H : Hp} {Q : VK} : rIn K neg x y H Q = ∃ p xs, y = .ref p ∧ (SqL K H p xs ∨ SqT K H p xs) ∧ flatV x = true ∧ xs.all flatV = true ∧ Q (.bl (if neg then !inV x xs else inV x xs)) H := rfl
end L2
namespace L2
open PySem
def EnAt (h : Heap) (d : Addr) (es : Array DictEntry) (ep : Nat) : Prop := ∃ o, h.get? d = some o ∧ o.ExactDict ∧ o.data = .dict es ep
theorem EnAt.ty {s : Shared} {d : Addr} {es : Array DictEntry} {ep : Nat} (x : EnAt s.heap d es ep) : s.TypeIs (.ref d) "dict" := let ⟨o, ho, hc, _⟩ := x; ⟨o, ho, hc.1⟩
theorem EnAt.at {h h' : Heap} {d : Addr} {es : Array DictEntry} {ep : Nat} (x : EnAt h d es ep) (k : ∀ o, h.get? d = some o -> h'.get? d = some o) : EnAt h' d es ep := let ⟨o, ho, r⟩ := x; ⟨o, k o ho, r⟩
section
variable {prog : Program} {w : World} {A : Around} {E : Value -> Shared -> Prop} {s : Shared} {d : Addr} {es : Array DictEntry} {ep : Nat}
theorem en_noArgs {nm : String} {Q : Addr -> Shared -> Prop} (hm : EnAt s.heap d es ep) (q : Q d s) : wpAny (model prog w) A (Builtin.Dict.noArgs nm ⟨[.ref d], []⟩) Q E s := by
 unfold Builtin.Dict.noArgs
 refine wpAny_bind (wpAny_notOrdered_dict hm.ty ?_)
 exact wpAny_pure q
theorem en_shows {Q : Unit -> Shared -> Prop} (hd : (d == sysModules) = false) (q : Q () s) : wpAny (model prog w) A (Builtin.Dict.showsAll d) Q E s := by
 unfold Builtin.Dict.showsAll
 rw [if_neg (fun z => Bool.false_ne_true (hd.symm.trans z))]
 exact wpAny_pure q
theorem en_items {Q : Value -> Shared -> Prop} (hd : (d == sysModules) = false) (hm : EnAt s.heap d es ep)
  (q : Q (.ref s.heap.objs.size) { s with heap := s.heap.push { cls := .type "dict_items", data := .fields #[.ref d] } }) : wpAny (model prog w) A (call (.builtin "dict.items") [.ref d]) Q E s := by
 refine wpAny_call_entry F.slot_dict_items hm.ty F.entry_dict_items ?_ (F.args_dict_items_1 _)
 unfold Builtin.«dict.items»
 refine wpAny_bind (en_noArgs hm (wpAny_bind (en_shows hd ?_)))
 exact wpAny_bind (wpAny_newObj_type (wpAny_pure ⟨_, rfl, q⟩))
theorem en_keys {Q : Value -> Shared -> Prop} (hd : (d == sysModules) = false) (hm : EnAt s.heap d es ep)
  (q : Q (.ref s.heap.objs.size) { s with heap := s.heap.push { cls := .type "dict_keys", data := .fields #[.ref d] } }) : wpAny (model prog w) A (call (.builtin "dict.keys") [.ref d]) Q E s := by
 refine wpAny_call_entry F.slot_dict_keys hm.ty F.entry_dict_keys ?_ (F.args_dict_keys_1 _)
 show wpAny _ _ ((Builtin.Dict.noArgs _ _) >>= _) _ _ _
 refine wpAny_bind (en_noArgs hm (wpAny_bind (en_shows hd ?_)))
 exact wpAny_bind (wpAny_newObj_type (wpAny_pure ⟨_, rfl, q⟩))
theorem en_iter {v : Addr} {Q : Value -> Shared -> Prop} (hv : s.heap.IsItemsView v d) (hm : EnAt s.heap d es ep)
  (q : Q (.ref s.heap.objs.size) { s with heap := s.heap.push { cls := .type "dict_itemiterator", data := .fields #[.none, .bool false, .ref d, .int 0 0, .int es.size 0, .int ep 0, .none, .none] } }) :
  wpAny (model prog w) A (pyIter (.ref v)) Q E s := by
 obtain ⟨ov, a1, a2, a3⟩ := id hv
 obtain ⟨o, b1, b2, b3⟩ := id hm
 refine wpAny_pyIter_slot hv.typeIs F.slot_dict_items_iter (wpAny_call_entry F.slot_dict_items_iter hv.typeIs F.entry_dict_items_iter ?_ (F.args_dict_items_iter_1 _))
 unfold Builtin.«dict_items.__iter__» Builtin.Dict_items.dictOf Builtin.Dict_items.newIterator
 have own : Builtin.Dict_items.ownsTuple "dict_itemiterator" = true := by decide
 refine wpAny_bind (wpAny_pure (wpAny_bind (wpAny_bind (wpAny_field a1 a3 (x := .ref d) rfl (wpAny_pure (wpAny_bind (wpAny_bind (wpAny_dictEntries b1 b3 (wpAny_bind (wpAny_dictEpoch b1 b3 ?_))))))))))
 simp only [own, if_true]
 refine wpAny_newObj_type (wpAny_pure ⟨_, rfl, "dict_itemiterator", _, ⟨_, Heap.get?_push_size _ rfl, rfl⟩, F.slot_dict_itemiterator_next.lookup, ?_⟩) ?_
 ·simpa [rawInt, Builtin.Dict_items.ownedTupleFields] using q
 ·simp only [sizeOk, Builtin.Dict_items.ownedTupleFields, List.size_toArray, List.length_append, List.length_cons, List.length_nil, sizeLine_eq]; omega
end
end L2
namespace L2
open PySem
section
variable {prog : Program} {w : World} {A : Around} {E : Value -> Shared -> Prop} {s : Shared} {d it : Addr} {es : Array DictEntry} {ep i : Nat} {ok ov : Value}
theorem en_next {e : DictEntry} {Q : Option Value -> Shared -> Prop} (hi : IsItemIter s.heap it d i es.size ep ok ov) (hm : EnAt s.heap d es ep) (he : es[i]? = some e)
  (q : ∀ h', IsItemIterOut h' it d (i + 1) es.size ep e.key e.val s.heap.objs.size -> h'.get? s.heap.objs.size = some { cls := .type "tuple", data := .seq #[e.key, e.val] } -> h'.objs.size = s.heap.objs.size + 1 ->
   (∀ b o, b ≠ it -> s.heap.get? b = some o -> h'.get? b = some o) -> Q (some (.ref s.heap.objs.size)) { s with heap := h' }) : wpAny (model prog w) A (pyNext (.ref it)) Q E s := by
 obtain ⟨hp, g, dr, tk, os⟩ := s
 obtain ⟨od, o1, o2, o3⟩ := id hm
 have ty : ∀ h' : Heap, IsItemIter h' it d i es.size ep ok ov -> Shared.TypeIs ⟨h', g, dr, tk, os⟩ (.ref it) "dict_itemiterator" := fun h' z => ⟨_, z, rfl⟩
 obtain ⟨lt, ee⟩ := Array.getElem?_eq_some_iff.mp he
 have own : Builtin.Dict_items.ownsTuple "dict_itemiterator" = true := by decide
 unfold pyNext
 refine wpAny_bind (wpAny_attempt (wpAny_callSpecial?_slot (name := Str.ofString "__next__") (ty _ hi) F.slot_dict_itemiterator_next (wpAny_call_entry F.slot_dict_itemiterator_next (ty _ hi) F.entry_dict_itemiterator_next ?_ (F.args_dict_itemiterator_next_1 _))))
 refine wpAny_bind (wpAny_pure (wpAny_bind (wpAny_bind ?_)))
 first
  | refine wpAny_bind (wpAny_typeNameOfWhole_itemiter (ty _ hi) (wpAny_pure ?_))
  | refine wpAny_bind (wpAny_typeNameOf_itemiter (ty _ hi) (wpAny_pure ?_))
 refine wpAny_bind (wpAny_fieldsOf hi rfl ?_)
 simp only [own, if_true]
 show wpAny _ _ (ite ((Value.ref d == Value.none) = true) _ _) _ _ _
 rw [if_neg (show ¬ (Value.ref d == Value.none) = true from fun z => nomatch z)]
 refine wpAny_bind (wpAny_pure (wpAny_bind (wpAny_dictEntries o1 o3 ?_)))
 rw [if_neg (by simp)]
 refine wpAny_bind (wpAny_pure (wpAny_bind (wpAny_dictEpoch o1 o3 ?_)))
 rw [if_neg (by simp)]
 refine wpAny_pure ?_
 have nn : ¬ ((i : Int) < 0) := by omega
 simp only [nn, if_false, Int.toNat_natCast, he]
 refine wpAny_bind ?_
 first
  | refine wpAny_bind (wpAny_typeNameOfWhole_itemiter (ty _ hi) (wpAny_pure ?_))
  | refine wpAny_bind (wpAny_typeNameOf_itemiter (ty _ hi) (wpAny_pure ?_))
 refine wpAny_bind (wpAny_isOneOf_itemiter (ty _ hi) ?_)
 show wpAny _ _ (setField (.ref it) 3 (rawInt ((i : Int) + 1)) >>= _) _ _ (⟨hp, g, dr, tk, os⟩ : Shared)
 refine wpAny_bind (wpAny_setField_rec hi (by simp) fun h1 x1 s1 => ?_)
 have x1 : IsItemIter h1 it d (i + 1) es.size ep ok ov := by
  unfold IsItemIter
  rw [show ((i + 1 : Nat) : Int) = (i : Int) + 1 by omega]
  simpa [rawInt] using x1
 have s1 : Heap.SameBut it hp h1 := s1
 have t1 : Shared.TypeIs ⟨h1, g, dr, tk, os⟩ (.ref it) "dict_itemiterator" := ⟨_, x1, rfl⟩
 refine wpAny_bind (wpAny_holding (wpAny_bind (wpAny_isOneOf_itemiter t1 (wpAny_bind (wpAny_isOneOf_itemiter t1 ?_)))))
 show wpAny _ _ (Builtin.Dict_items.pairFromOwner (.ref it) 6 e.key e.val) _ _ (⟨h1, g, dr, tk, os⟩ : Shared)
 unfold Builtin.Dict_items.pairFromOwner
 refine wpAny_bind (wpAny_newTuple ?_)
 obtain ⟨h2, e2⟩ : ∃ h2, h2 = h1.push { cls := .type "tuple", data := .seq #[e.key, e.val] } := ⟨_, rfl⟩
 have x2 : IsItemIter h2 it d (i + 1) es.size ep ok ov := by rw [e2]; exact Heap.get?_push_of_some _ x1
 have z1 : h1.objs.size = hp.objs.size := s1.1
 have lt1 : it < hp.objs.size := Heap.lt_size hi
 have t2 : h2.get? hp.objs.size = some { cls := .type "tuple", data := .seq #[e.key, e.val] } := by rw [e2, ← z1]; exact Heap.get?_push_size _ rfl
 have z2 : h2.objs.size = hp.objs.size + 1 := by rw [e2, Heap.size_push, z1]
 have k2 : ∀ b o, b ≠ it -> hp.get? b = some o -> h2.get? b = some o := fun b o hb y => by rw [e2]; exact Heap.get?_push_of_some _ (s1.extBut b o hb y)
 rw [z1, show h1.push { cls := .type "tuple", data := .seq #[e.key, e.val] } = h2 from e2.symm]
 show wpAny _ _ (Builtin.Dict_items.ownedTupleIsFree (.ref it) >>= _) _ _ (⟨h2, g, dr, tk, os⟩ : Shared)
 unfold Builtin.Dict_items.ownedTupleIsFree
 refine wpAny_bind (wpAny_bind (wpAny_field x2 rfl (x := .none) rfl (wpAny_pure ?_)))
 simp only [if_true]
 refine wpAny_bind (wpAny_field x2 rfl (x := ok) rfl (wpAny_bind (wpAny_field x2 rfl (x := ov) rfl ?_)))
 refine wpAny_bind (wpAny_setField_rec x2 (by simp) fun h3 x3 s3 => ?_)
 have x3 : IsItemIter h3 it d (i + 1) es.size ep e.key ov := x3
 have s3 : Heap.SameBut it h2 h3 := s3
 refine wpAny_bind (wpAny_setField_rec x3 (by simp) fun h4 x4 s4 => ?_)
 have x4 : IsItemIter h4 it d (i + 1) es.size ep e.key e.val := x4
 have s4 : Heap.SameBut it h3 h4 := s4
 refine wpAny_bind (wpAny_setField_rec x4 (by simp) fun h5 x5 s5 => ?_)
 have x5 : IsItemIterOut h5 it d (i + 1) es.size ep e.key e.val hp.objs.size := x5
 have s5 : Heap.SameBut it h4 h5 := s5
 refine wpAny_bind (wpAny_setField_rec x5 (by simp) fun h6 x6 s6 => ?_)
 have x6 : IsItemIterOut h6 it d (i + 1) es.size ep e.key e.val hp.objs.size := x6
 have s6 : Heap.SameBut it h5 h6 := s6
 have up : ∀ b o, b ≠ it -> h2.get? b = some o -> h6.get? b = some o := fun b o hb y => s6.extBut b o hb (s5.extBut b o hb (s4.extBut b o hb (s3.extBut b o hb y)))
 refine wpAny_bind (wpAny_letGo (wpAny_pure (wpAny_pure ⟨_, rfl, wpAny_pure (q h6 x6 (up _ _ (Nat.ne_of_gt lt1) t2) ?_ fun b o hb y => up b o hb (k2 b o hb y))⟩)))
 show h6.objs.size = hp.objs.size + 1
 rw [s6.1, s5.1, s4.1, s3.1, z2]
theorem en_end {Q : Option Value -> Shared -> Prop} (hh : A.handled = none) (hi : IsItemIter s.heap it d i es.size ep ok ov) (hm : EnAt s.heap d es ep) (he : es.size <= i)
  (q : ∀ h', Heap.ExtBut it s.heap h' -> Q none { s with heap := h' }) : wpAny (model prog w) A (pyNext (.ref it)) Q E s := by
 obtain ⟨od, o1, o2, o3⟩ := id hm
 have ty : s.TypeIs (.ref it) "dict_itemiterator" := ⟨_, hi, rfl⟩
 have own : Builtin.Dict_items.ownsTuple "dict_itemiterator" = true := by decide
 unfold pyNext
 refine wpAny_bind (wpAny_attempt (wpAny_callSpecial?_slot (name := Str.ofString "__next__") ty F.slot_dict_itemiterator_next (wpAny_call_entry F.slot_dict_itemiterator_next ty F.entry_dict_itemiterator_next ?_ (F.args_dict_itemiterator_next_1 _))))
 refine wpAny_bind (wpAny_pure (wpAny_bind (wpAny_bind ?_)))
 first
  | refine wpAny_bind (wpAny_typeNameOfWhole_itemiter ty (wpAny_pure ?_))
  | refine wpAny_bind (wpAny_typeNameOf_itemiter ty (wpAny_pure ?_))
 refine wpAny_bind (wpAny_fieldsOf hi rfl ?_)
 simp only [own, if_true]
 show wpAny _ _ (ite ((Value.ref d == Value.none) = true) _ _) _ _ _
 rw [if_neg (show ¬ (Value.ref d == Value.none) = true from fun z => nomatch z)]
 refine wpAny_bind (wpAny_pure (wpAny_bind (wpAny_dictEntries o1 o3 ?_)))
 rw [if_neg (by simp)]
 refine wpAny_bind (wpAny_pure (wpAny_bind (wpAny_dictEpoch o1 o3 ?_)))
 rw [if_neg (by simp)]
 refine wpAny_pure ?_
 have nn : ¬ ((i : Int) < 0) := by omega
 simp only [nn, if_false, Int.toNat_natCast, Array.getElem?_eq_none he]
 refine wpAny_bind ?_
 first
  | refine wpAny_bind (wpAny_typeNameOfWhole_itemiter ty (wpAny_pure ?_))
  | refine wpAny_bind (wpAny_typeNameOf_itemiter ty (wpAny_pure ?_))
 show wpAny _ _ (setField (.ref it) 2 .none >>= _) _ _ s
 refine wpAny_bind (wpAny_setField hi rfl (by simp) ?_)
 show wpAny _ _ (newExc (.type "StopIteration") [] >>= _) _ _ _
 simp only [newExc, newTuple]
 refine wpAny_bind (wpAny_bind (wpAny_newObj_type ?_ (by size_fits)))
 refine wpAny_bind (m := firstArgMember _ _) (wpAny_of_eq (a := Value.none) (by first | rfl | (simp only [firstArgMember]; rfl)) (wpAny_newObj_type ?_ (by size_fits)))
 simp only [raiseNew]
 refine wpAny_bind (wpAny_handled ?_)
 rw [show A.in1.handled = none from hh]
 refine wpAny_bind (wpAny_pure (wpAny_throw (wpAny_bind ?_)))
 refine wpAny_isInstance (T := "StopIteration") (b := true) ⟨_, Heap.get?_push_size _ rfl, rfl⟩ isSubtype_stop ?_
 exact wpAny_pure (q _ (((Heap.SameBut.update ..).extBut.push _).push _))
end
end L2
namespace L2
open PySem
section
variable {prog : Program} {w : World} {A : Around} {E : Value -> Shared -> Prop} {s : Shared} {d o : Addr} {es : Array DictEntry} {ep epd : Nat}
end
end L2
namespace L2
open PySem
theorem cls_ne {h : Heap} {b c : Addr} {o p : Obj} {T U : String} (h1 : h.get? b = some o) (c1 : o.cls = .type T) (h2 : h.get? c = some p) (c2 : p.cls = .type U) (ne : T ≠ U) : b ≠ c := fun z => by
 subst z
 rw [h1] at h2
 have e : o = p := Option.some.inj h2
 rw [← e, c1] at c2
 exact ne (Value.type.inj c2)
theorem upd_entry : entryFor table "dict.update.loop" = some Builtin.«dict.update.loop» := entryFor_of_tree (by kernel_rfl)
theorem upd_plain : plainId "dict.update.loop" = true := by decide +kernel
section
variable {prog : Program} {w : World} {K : Type} [DecidableEq K] {kn : KeyKind prog w K} {A : Around} {E : Value -> Shared -> Prop}
abbrev Prs (K : Type) := List (Addr × List K × Addr × Value)
def accP (ps : Prs K) : List (List K × Addr × Value) := ps.foldl (fun a x => storedH a x.2.1 x.2.2.1 x.2.2.2) []
theorem accP_snoc (ps : Prs K) (x : Addr × List K × Addr × Value) : accP (ps ++ [x]) = storedH (accP ps) x.2.1 x.2.2.1 x.2.2.2 := by unfold accP; rw [List.foldl_append]; rfl
theorem accP_len (ps : Prs K) : (accP ps).length <= ps.length := by
 unfold accP
 have h : ∀ (l : Prs K) (a : List (List K × Addr × Value)), (l.foldl (fun a x => storedH a x.2.1 x.2.2.1 x.2.2.2) a).length <= a.length + l.length := by
  intro l
  induction l with
  | nil => intro a; exact Nat.le_refl _
  | cons x l ih =>
   intro a
   have h1 := ih (storedH a x.2.1 x.2.2.1 x.2.2.2)
   have h2 : (storedH a x.2.1 x.2.2.1 x.2.2.2).length <= a.length + 1 := by unfold storedH; split <;> simp
   rw [List.foldl_cons, List.length_cons]; omega
 have := h ps []
 rw [List.length_nil] at this; omega
def PairAt (kn : KeyKind prog w K) (h : Heap) (x : Addr × List K × Addr × Value) : Prop := h.IsTuple x.1 #[.ref x.2.2.1, x.2.2.2] ∧ IsTupleKey kn h x.2.1 x.2.2.1
theorem PairAt.keep {h h' : Heap} {x : Addr × List K × Addr × Value} {d it : Addr} {es : Array DictEntry} {ep : Nat} {l : Addr} {i : Nat} (p : PairAt kn h x) (hd : EnAt h d es ep) (hi : h.IsListIter it l i)
  (k : ∀ b o, b ≠ it -> b ≠ d -> h.get? b = some o -> h'.get? b = some o) : PairAt kn h' x := by
 obtain ⟨⟨o, h1, h2, h3⟩, o2, items, n, g1, g2, g3⟩ := p
 obtain ⟨od, d1, d2, _⟩ := hd
 obtain ⟨oi, i1, i2, _⟩ := hi
 have ne : ∀ b (ob : Obj), h.get? b = some ob -> ob.cls = .type "tuple" -> b ≠ it ∧ b ≠ d := fun b ob q c => ⟨cls_ne q c i1 i2 (by decide), cls_ne q c d1 d2.1 (by decide)⟩
 exact ⟨⟨o, k _ o (ne _ o h1 h2).1 (ne _ o h1 h2).2 h1, h2, h3⟩, o2, items, n, k _ o2 (ne _ o2 g1 g2).1 (ne _ o2 g1 g2).2 g1, g2, g3⟩
theorem dictH_en {h : Heap} {d : Addr} {xs : List (List K × Addr × Value)} (x : h.DictOfH (tupleKind kn) d xs) : ∃ es ep, EnAt h d es ep := let ⟨o, es, ep, h1, h2, h3, _⟩ := x; ⟨es, ep, o, h1, h2, h3⟩
theorem code_upd {R : Result -> Shared -> Prop} (hh : A.handled = none) (hu : A.in1.units < cLine) (d it L : Addr) (ps : Prs K) (hz : ps.length <= sizeLine) : ∀ (n i : Nat) (s : Shared), ps.length - i = n -> i <= ps.length -> s.heap.IsListIter it L i -> s.heap.IsList L (ps.map fun x => Value.ref x.1).toArray ->
  (∀ x ∈ ps, PairAt kn s.heap x) -> s.heap.DictOfH (tupleKind kn) d (accP (ps.take i)) ->
  (∀ h' tk, h'.DictOfH (tupleKind kn) d (accP ps) -> (∀ b o, b ≠ it -> b ≠ d -> s.heap.get? b = some o -> h'.get? b = some o) -> R (.ok (.ret .none)) { s with heap := h', toks := tk }) ->
  codeAny (model prog w) A (.builtin "dict.update.loop" ⟨[.ref d, .ref it, rawInt i, .none], []⟩) R s := by
 intro n
 induction n with
 | zero =>
  intro i s hn hi hit hl hp hd hR
  have e : i = ps.length := by omega
  subst e
  refine codeAny_builtin upd_entry ?_
  rw [Around.under_plainId upd_plain _]
  show wpAny _ A.in1 (pyNext (.ref it) >>= _) _ _ s
  refine wpAny_bind (wpAny_pyNext_list_end hh hit hl (by simp) fun h1 eb => ?_)
  rw [List.take_length] at hd
  obtain ⟨es, ep, en⟩ := dictH_en hd
  have nd : d ≠ it := by
   obtain ⟨oi, i1, i2, _⟩ := hit
   obtain ⟨od, d1, d2, _⟩ := en
   exact cls_ne d1 d2.1 i1 i2 (by decide)
  show wpAny _ A.in1 (Builtin.Dict.addKeywords d [] >>= _) _ _ _
  refine wpAny_bind (wpAny_pure (wpAny_pure (hR h1 s.toks ?_ fun b o hb _ q => eb b o hb q)))
  obtain ⟨o, es, ep, g1, g2, g3, g4, g5, g6⟩ := hd
  refine ⟨o, es, ep, eb d o nd g1, g2, g3, g4, fun x hx => ?_, g6⟩
  obtain ⟨ok, items, m, k1, k2, k3⟩ := (show IsTupleKey kn s.heap x.1 x.2.1 from g5 x hx)
  have : x.2.1 ≠ it := by
   obtain ⟨oi, i1, i2, _⟩ := hit
   exact cls_ne k1 k2 i1 i2 (by decide)
  exact ⟨ok, items, m, eb _ ok this k1, k2, k3⟩
 | succ n ih =>
  intro i s hn hi hit hl hp hd hR
  have lt : i < ps.length := by omega
  obtain ⟨x, hx⟩ : ∃ x, ps[i]? = some x := ⟨_, List.getElem?_eq_getElem lt⟩
  have hm := List.mem_of_getElem? hx
  obtain ⟨es, ep, en⟩ := dictH_en hd
  refine codeAny_builtin upd_entry ?_
  rw [Around.under_plainId upd_plain _]
  show wpAny _ A.in1 (pyNext (.ref it) >>= _) _ _ s
  refine wpAny_bind (wpAny_pyNext_list_item hit hl (x := .ref x.1) (by simp [hx]) fun h1 hit1 sb => ?_)
  have k1 : ∀ b o, b ≠ it -> b ≠ d -> s.heap.get? b = some o -> h1.get? b = some o := fun b o hb _ q => (sb.2 b hb).trans q
  have nd : d ≠ it := by
   obtain ⟨oi, i1, i2, _⟩ := hit
   obtain ⟨od, d1, d2, _⟩ := en
   exact cls_ne d1 d2.1 i1 i2 (by decide)
  have hp1 : ∀ x ∈ ps, PairAt kn h1 x := fun x hx => (hp x hx).keep en hit k1
  have hd1 : h1.DictOfH (tupleKind kn) d (accP (ps.take i)) := by
   obtain ⟨o, es, ep, g1, g2, g3, g4, g5, g6⟩ := hd
   refine ⟨o, es, ep, (sb.2 d nd).trans g1, g2, g3, g4, fun y hy => ?_, g6⟩
   obtain ⟨ok, items, m, q1, q2, q3⟩ := (show IsTupleKey kn s.heap y.1 y.2.1 from g5 y hy)
   have : y.2.1 ≠ it := by
    obtain ⟨oi, i1, i2, _⟩ := hit
    exact cls_ne q1 q2 i1 i2 (by decide)
   exact ⟨ok, items, m, (sb.2 _ this).trans q1, q2, q3⟩
  obtain ⟨⟨ot, t1, t2, m, t3⟩, hk⟩ := hp1 x hm
  refine wpAny_bind (wpAny_holding (wpAny_bind (wpAny_tryCatch ?_)))
  unfold Builtin.Dict.pairItems
  refine wpAny_bind (wpAny_typeOf (T := "tuple") ⟨ot, t1, t2⟩ ?_)
  rw [if_pos (by decide)]
  refine wpAny_bind (wpAny_seqItems t1 t3 (wpAny_pure ?_))
  show wpAny _ A.in1 (holding [Value.ref x.2.2.1, x.2.2.2] (dictSet d (.ref x.2.2.1) x.2.2.2)) _ _ _
  have hz2 : (accP (ps.take i)).length <= sizeLine := by
   have h1 := accP_len (ps.take i)
   rw [List.length_take] at h1; omega
  refine wpAny_holding (wpAny_dictSet_heap (hsz := hz2) hu hk hd1 fun h2 hd2 sb2 => ?_)
  obtain ⟨es1, ep1, en1⟩ := dictH_en hd1
  have k2 : ∀ b o, b ≠ it -> b ≠ d -> h1.get? b = some o -> h2.get? b = some o := fun b o _ hb q => (sb2.2 b hb).trans q
  have hit2 : h2.IsListIter it L (i + 1) := by
   obtain ⟨oi, q⟩ := hit1
   exact ⟨oi, (sb2.2 it (Ne.symm nd)).trans q.1, q.2⟩
  have hl2 : h2.IsList L (ps.map fun x => Value.ref x.1).toArray := by
   obtain ⟨ol, l1, l2, l3⟩ := hl
   obtain ⟨oi, i1, i2, _⟩ := hit
   obtain ⟨od, d1, d2, _⟩ := en
   have n1 : L ≠ it := cls_ne l1 l2 i1 i2 (by decide)
   have n2 : L ≠ d := cls_ne l1 l2 d1 d2.1 (by decide)
   exact ⟨ol, k2 _ _ n1 n2 (k1 _ _ n1 n2 l1), l2, l3⟩
  have et : ps.take (i + 1) = ps.take i ++ [x] := by rw [List.take_succ, hx]; rfl
  refine wpAny_pure ⟨plainId_quiet upd_plain _, ?_⟩
  have er : rawInt ((i : Int) + 1) = rawInt ((i + 1 : Nat) : Int) := by rw [Int.natCast_add]; rfl
  show codeAny _ A (.builtin "dict.update.loop" ⟨[.ref d, .ref it, rawInt ((i : Int) + 1), .none], []⟩) R _
  rw [er]
  refine ih (i + 1) _ (by omega) lt hit2 hl2 (fun y hy => (hp1 y hy).keep en1 hit1 k2) (by rw [et, accP_snoc]; exact hd2) fun h' tk hd' k3 => ?_
  exact hR h' tk hd' fun b o b1 b2 q => k3 b o b1 b2 (k2 b o b1 b2 (k1 b o b1 b2 q))
end
section
variable {prog : Program} {w : World} {A : Around} {E : Value -> Shared -> Prop} {s : Shared}
end
end L2
namespace L2
open PySem
theorem no_keys : typeLookup (.type "list") "keys" = pure none := by rw [typeLookup_type, builtinLookup_eq_fast]; kernel_rfl
theorem miss_keys {prog : Program} {w : World} {A : Around} {E : Value -> Shared -> Prop} {s : Shared} {a : Addr} {o : Obj} {xs : Array Value} {k : Nat} {Q : Option Value -> Shared -> Prop}
  (hx : s.heap.get? a = some o) (hc : o.cls = .type "list") (hdat : o.data = .seq xs k) (hd : o.dict = none) (hA : A.handled = none)
  (h : ∀ h' tk, (∀ b ob, s.heap.get? b = some ob -> h'.get? b = some ob) -> Q none { s with heap := h', toks := tk }) : wpAny (model prog w) A (getAttr? (.ref a) "keys") Q E s := by
 obtain ⟨c, dct, dat, sl⟩ := o
 simp only at hc hdat hd
 subst hc hdat hd
 obtain ⟨hp, g, d, tk, os⟩ := s
 have ty : ∀ tk', (⟨hp, g, d, tk', os⟩ : Shared).TypeIs (.ref a) "list" := fun _ => ⟨_, hx, rfl⟩
 have f1 := sub_AttributeError
 have f3 := F.slot_list_getattribute.lookup
 have f4 := F.slot_list_getattribute.bind (.ref a)
 have f5 := am_list_getattr_none
 unfold getAttr? getAttrBy? getAttrBy
 repeat (any_goals (first | assumption | exact ty _ | ((with_reducible show wpAny _ _ (call (Value.builtin "list.__getattribute__") _ _) _ _ _); refine call_meets F.slot_list_getattribute (ty _) am_entry_list_getattribute (F.args_list_getattribute_2 _ _) (meets_getattribute_miss_list a xs k sl "keys" _ no_keys (by decide +kernel)) ⟨hx, hA, fun h' tk' e hx' => ?_⟩) | wp_step))
 obtain ⟨t', u', he⟩ := hx'.there
 show wpAny _ _ (getattributeRaised _ _ _ _ _ _ _) _ _ _
 unfold getattributeRaised
 repeat (any_goals (first | assumption | wp_step))
 exact h h' tk' hx'.keeps
end L2
namespace L2
open PySem
section
variable {prog : Program} {w : World} {K : Type} [DecidableEq K] {kn : KeyKind prog w K} {A : Around} {E : Value -> Shared -> Prop} {s : Shared}
theorem PairAt.up {h h' : Heap} {x : Addr × List K × Addr × Value} (p : PairAt kn h x) (k : ∀ b o, h.get? b = some o -> h'.get? b = some o) : PairAt kn h' x := by
 obtain ⟨⟨o, h1, h2⟩, o2, items, n, g1, g2⟩ := p
 exact ⟨⟨o, k _ _ h1, h2⟩, o2, items, n, k _ _ g1, g2⟩
theorem en_pairs {L : Addr} {ps : Prs K} {ol : Obj} {c : Nat} {Q : Value -> Shared -> Prop} (hh : A.handled = none) (hu : A.units + 2 < cLine) (hz : ps.length <= sizeLine) (l1 : s.heap.get? L = some ol) (l2 : ol.cls = .type "list") (l3 : ol.dict = none)
  (l4 : ol.data = .seq (ps.map fun x => Value.ref x.1).toArray c) (hp : ∀ x ∈ ps, PairAt kn s.heap x)
  (q : ∀ h' tk, h'.DictOfH (tupleKind kn) s.heap.objs.size (accP ps) -> (∀ b o, s.heap.get? b = some o -> h'.get? b = some o) -> Q (.ref s.heap.objs.size) { s with heap := h', toks := tk }) : wpAny (model prog w) A (call (.type "dict") [.ref L]) Q E s := by
 refine callType_codes (Q₁ := fun v s1 => v = .ref s.heap.objs.size ∧ s1 = { s with heap := s.heap.push { cls := .type "dict", data := .dict #[] } }) F.kt_called_dict (F.kt_typeCall_dict_1 _) F.entry_dict_init (kt_code_dict_new _ ⟨rfl, rfl⟩) ?_
 rintro v s1 ⟨rfl, rfl⟩
 have new : EnAt (s.heap.push { cls := .type "dict", data := .dict #[] }) s.heap.objs.size #[] 0 := ⟨_, Heap.get?_push_size _ rfl, ⟨rfl, rfl, rfl⟩, rfl⟩
 have up1 : ∀ b o, s.heap.get? b = some o -> (s.heap.push { cls := .type "dict", data := .dict #[] }).get? b = some o := fun _ _ => Heap.get?_push_of_some _
 refine ⟨new.ty, F.args_dict_init_2 _ _, ?_⟩
 unfold Builtin.«dict.__init__» Builtin.Dict.selfAndRest
 refine wpAny_bind (wpAny_bind (wpAny_notOrdered_dict new.ty (wpAny_pure ?_)))
 show wpAny _ A.in1.in1 (Builtin.Dict.updateFrom "dict.__init__" s.heap.objs.size (.ref L) [] .none) _ _ _
 unfold Builtin.Dict.updateFrom
 refine wpAny_bind (wpAny_typeOf (T := "list") ⟨ol, up1 _ _ l1, l2⟩ ?_)
 rw [if_pos (by decide)]
 refine wpAny_bind (miss_keys (up1 _ _ l1) l2 l4 l3 hh fun h2 tk2 up2 => ?_)
 have up12 : ∀ b o, s.heap.get? b = some o -> h2.get? b = some o := fun b o e => up2 b o (up1 b o e)
 rw [if_pos (by rfl)]
 refine wpAny_bind (wpAny_rule (wpAny_bind (wpAny_pyIter_list (items := (ps.map fun x => Value.ref x.1).toArray) ⟨ol, up12 _ _ l1, l2, c, l4⟩ ?_)))
 refine wpAny_pure ⟨plainId_quiet upd_plain _, ?_⟩
 have up3 : ∀ b o, h2.get? b = some o -> (h2.push { cls := .type "list_iterator", data := .fields #[.ref L, .int 0 0] }).get? b = some o := fun _ _ => Heap.get?_push_of_some _
 have newd : (h2.push { cls := .type "list_iterator", data := .fields #[.ref L, .int 0 0] }).DictOfH (tupleKind kn) s.heap.objs.size (accP (ps.take 0)) := by
  obtain ⟨o, h1, h2, h3⟩ := new
  exact ⟨o, #[], 0, up3 _ _ (up2 _ _ h1), h2, h3, rfl, ⟨fun x hx => absurd (show x ∈ ([] : List (List K × Addr × Value)) from hx) List.not_mem_nil, List.nodup_nil⟩⟩
 refine code_upd (kn := kn) (A := A.in1) hh hu s.heap.objs.size _ L ps hz ps.length 0 _ (Nat.sub_zero _) (Nat.zero_le _) ⟨_, Heap.get?_push_size _ rfl, rfl, rfl⟩ ⟨ol, up3 _ _ (up12 _ _ l1), l2, c, l4⟩ (fun x hx => (hp x hx).up fun b o e => up3 b o (up12 b o e)) newd fun h' tk hd k => ?_
 refine ⟨rfl, q h' tk hd fun b o e => ?_⟩
 have lt := Heap.lt_size e
 have lt2 := Heap.lt_size (up12 b o e)
 exact k b o (Nat.ne_of_lt lt2) (Nat.ne_of_lt lt) (up3 b o (up12 b o e))
end
end L2
namespace L2
open PySem
section
variable {prog : Program} {w : World} {K : Type} [DecidableEq K] {knd : HeapKind prog w K} {A : Around} {E : Value -> Shared -> Prop} {s : Shared}
end
end L2
namespace L2
open PySem
section
variable {K : Type} [DecidableEq K]
end
end L2
namespace L2
open PySem
section
variable {prog : Program} {w : World} {A : Around} {E : Value -> Shared -> Prop} {s : Shared} {d it : Addr} {es : Array DictEntry} {ep i : Nat}
theorem en_kiter {v : Addr} {Q : Value -> Shared -> Prop} (hv : PySem.W.KdlKeysView s.heap v d) (hm : EnAt s.heap d es ep)
  (q : Q (.ref s.heap.objs.size) { s with heap := s.heap.push { cls := .type "dict_keyiterator", data := .fields #[.ref d, .int 0 0, .int es.size 0, .int ep 0] } }) : wpAny (model prog w) A (pyIter (.ref v)) Q E s := by
 obtain ⟨ov, a1, a2, a3⟩ := id hv
 obtain ⟨o, b1, b2, b3⟩ := id hm
 refine wpAny_pyIter_slot hv.typeIs PySem.W.kdl_slot_keys_iter (wpAny_call_entry PySem.W.kdl_slot_keys_iter hv.typeIs PySem.W.kdl_entry_keys_iter ?_ (PySem.W.kdl_args_keys_iter _))
 unfold Builtin.«dict_keys.__iter__» Builtin.Dict_items.dictOf Builtin.Dict_items.newIterator
 have own : Builtin.Dict_items.ownsTuple "dict_keyiterator" = false := by decide
 refine wpAny_bind (wpAny_pure (wpAny_bind (wpAny_bind (wpAny_field a1 a3 (x := .ref d) rfl (wpAny_pure (wpAny_bind (wpAny_bind (wpAny_dictEntries b1 b3 (wpAny_bind (wpAny_dictEpoch b1 b3 ?_))))))))))
 simp only [own, Bool.false_eq_true, if_false]
 refine wpAny_newObj_type (wpAny_pure ⟨_, rfl, "dict_keyiterator", _, ⟨_, Heap.get?_push_size _ rfl, rfl⟩, PySem.F.slot_dict_keyiterator_next.lookup, ?_⟩)
 simpa [rawInt] using q
theorem en_knext {e : DictEntry} {Q : Option Value -> Shared -> Prop} (hi : s.heap.IsKeyIter it d i es.size ep) (hm : EnAt s.heap d es ep) (he : es[i]? = some e)
  (q : ∀ h', h'.IsKeyIter it d (i + 1) es.size ep -> Heap.SameBut it s.heap h' -> Q (some e.key) { s with heap := h' }) : wpAny (model prog w) A (pyNext (.ref it)) Q E s := by
 obtain ⟨oi, i1, i2, i3⟩ := id hi
 obtain ⟨od, o1, o2, o3⟩ := id hm
 have own : Builtin.Dict_items.ownsTuple "dict_keyiterator" = false := by decide
 unfold pyNext
 refine wpAny_bind (wpAny_attempt (wpAny_callSpecial?_slot (name := Str.ofString "__next__") hi.typeIs F.slot_dict_keyiterator_next (wpAny_call_entry F.slot_dict_keyiterator_next hi.typeIs F.entry_dict_keyiterator_next ?_ (F.args_dict_keyiterator_next_1 _))))
 refine wpAny_bind (wpAny_pure (wpAny_bind (wpAny_bind ?_)))
 first
  | refine wpAny_bind (wpAny_typeNameOfWhole_keyiter hi.typeIs (wpAny_pure ?_))
  | refine wpAny_bind (wpAny_typeNameOf_keyiter hi.typeIs (wpAny_pure ?_))
 refine wpAny_bind (wpAny_fieldsOf i1 i3 ?_)
 simp only [own, Bool.false_eq_true, if_false]
 show wpAny _ _ (ite ((Value.ref d == Value.none) = true) _ _) _ _ _
 rw [if_neg (show ¬ (Value.ref d == Value.none) = true from fun z => nomatch z)]
 refine wpAny_bind (wpAny_pure (wpAny_bind (wpAny_dictEntries o1 o3 ?_)))
 rw [if_neg (by simp)]
 refine wpAny_bind (wpAny_pure (wpAny_bind (wpAny_dictEpoch o1 o3 ?_)))
 rw [if_neg (by simp)]
 refine wpAny_pure ?_
 have nn : ¬ ((i : Int) < 0) := by omega
 simp only [nn, if_false, Int.toNat_natCast, he]
 refine wpAny_bind ?_
 first
  | refine wpAny_bind (wpAny_typeNameOfWhole_keyiter hi.typeIs (wpAny_pure ?_))
  | refine wpAny_bind (wpAny_typeNameOf_keyiter hi.typeIs (wpAny_pure ?_))
 refine wpAny_bind (wpAny_isOneOf_keyiter hi.typeIs ?_)
 show wpAny _ _ (setField (.ref it) 1 (rawInt ((i : Int) + 1)) >>= _) _ _ (s : Shared)
 refine wpAny_bind (wpAny_setField i1 i3 (by simp) ?_)
 obtain ⟨h1, e1⟩ : ∃ h1, h1 = s.heap.update it (Obj.mapFields (·.setIfInBounds 1 (rawInt ((i : Int) + 1)))) := ⟨_, rfl⟩
 have x1 : h1.IsKeyIter it d (i + 1) es.size ep := by
  rw [e1]
  exact ⟨_, Heap.get?_update_self _ i1 (Obj.isFreed_of_fields (Obj.data_mapFields i3 _)), (Obj.cls_mapFields ..).trans i2, by rw [Obj.data_mapFields i3]; simp [rawInt]⟩
 have sb : Heap.SameBut it s.heap h1 := by rw [e1]; exact Heap.SameBut.update ..
 rw [← e1]
 have t1 : Shared.TypeIs { s with heap := h1 } (.ref it) "dict_keyiterator" := x1.typeIs (s := { s with heap := h1 })
 refine wpAny_bind (wpAny_holding (wpAny_bind (wpAny_isOneOf_keyiter t1 ?_)))
 show wpAny _ _ (pure e.key) _ _ _
 exact wpAny_pure (wpAny_pure ⟨_, rfl, wpAny_pure (q h1 x1 sb)⟩)
theorem en_kend {Q : Option Value -> Shared -> Prop} (hh : A.handled = none) (hi : s.heap.IsKeyIter it d i es.size ep) (hm : EnAt s.heap d es ep) (he : es.size <= i)
  (q : ∀ h', Heap.ExtBut it s.heap h' -> Q none { s with heap := h' }) : wpAny (model prog w) A (pyNext (.ref it)) Q E s := by
 obtain ⟨oi, i1, i2, i3⟩ := id hi
 obtain ⟨od, o1, o2, o3⟩ := id hm
 have own : Builtin.Dict_items.ownsTuple "dict_keyiterator" = false := by decide
 unfold pyNext
 refine wpAny_bind (wpAny_attempt (wpAny_callSpecial?_slot (name := Str.ofString "__next__") hi.typeIs F.slot_dict_keyiterator_next (wpAny_call_entry F.slot_dict_keyiterator_next hi.typeIs F.entry_dict_keyiterator_next ?_ (F.args_dict_keyiterator_next_1 _))))
 refine wpAny_bind (wpAny_pure (wpAny_bind (wpAny_bind ?_)))
 first
  | refine wpAny_bind (wpAny_typeNameOfWhole_keyiter hi.typeIs (wpAny_pure ?_))
  | refine wpAny_bind (wpAny_typeNameOf_keyiter hi.typeIs (wpAny_pure ?_))
 refine wpAny_bind (wpAny_fieldsOf i1 i3 ?_)
 simp only [own, Bool.false_eq_true, if_false]
 show wpAny _ _ (ite ((Value.ref d == Value.none) = true) _ _) _ _ _
 rw [if_neg (show ¬ (Value.ref d == Value.none) = true from fun z => nomatch z)]
 refine wpAny_bind (wpAny_pure (wpAny_bind (wpAny_dictEntries o1 o3 ?_)))
 rw [if_neg (by simp)]
 refine wpAny_bind (wpAny_pure (wpAny_bind (wpAny_dictEpoch o1 o3 ?_)))
 rw [if_neg (by simp)]
 refine wpAny_pure ?_
 have nn : ¬ ((i : Int) < 0) := by omega
 simp only [nn, if_false, Int.toNat_natCast, Array.getElem?_eq_none he]
 refine wpAny_bind ?_
 first
  | refine wpAny_bind (wpAny_typeNameOfWhole_keyiter hi.typeIs (wpAny_pure ?_))
  | refine wpAny_bind (wpAny_typeNameOf_keyiter hi.typeIs (wpAny_pure ?_))
 show wpAny _ _ (setField (.ref it) 0 .none >>= _) _ _ (s : Shared)
 refine wpAny_bind (wpAny_setField i1 i3 (by simp) ?_)
 show wpAny _ _ (newExc (.type "StopIteration") [] >>= _) _ _ _
 simp only [newExc, newTuple]
 refine wpAny_bind (wpAny_bind (wpAny_newObj_type ?_ (by size_fits)))
 refine wpAny_bind (m := firstArgMember _ _) (wpAny_of_eq (a := Value.none) (by first | rfl | (simp only [firstArgMember]; rfl)) (wpAny_newObj_type ?_ (by size_fits)))
 simp only [raiseNew]
 refine wpAny_bind (wpAny_handled ?_)
 rw [show A.in1.handled = none from hh]
 refine wpAny_bind (wpAny_pure (wpAny_throw (wpAny_bind ?_)))
 refine wpAny_isInstance (T := "StopIteration") (b := true) ⟨_, Heap.get?_push_size _ rfl, rfl⟩ isSubtype_stop ?_
 exact wpAny_pure (q _ (((Heap.SameBut.update ..).extBut.push _).push _))
end
end L2
namespace L2
open PySem
inductive Tr where | lf | nd (l : Tr) (k : Nat) (r : Tr)
def Tr.ins (k : Nat) : Tr -> Option Tr
 | .lf => some (.nd .lf k .lf)
 | .nd l m r => match Nat.blt k m with
  | true => match Tr.ins k l with | some l' => some (.nd l' m r) | none => none
  | false => match Nat.blt m k with
   | true => match Tr.ins k r with | some r' => some (.nd l m r') | none => none
   | false => none
def Tr.all : List Nat -> Tr -> Bool
 | [], _ => true
 | k :: ks, t => match t.ins k with | some t' => Tr.all ks t' | none => false
def Tr.mem (x : Nat) : Tr -> Prop
 | .lf => False
 | .nd l k r => x = k ∨ l.mem x ∨ r.mem x
end L2
namespace L2
abbrev P2 := Int × Int
abbrev PD := List (P2 × Int)
def gtD (f : PD) (k : P2) : Option Int := (f.find? fun x => decide (x.1 = k)).map (·.2)
def ptD (f : PD) (k : P2) (v : Int) : PD :=
 if (f.any fun x => decide (x.1 = k)) = true then f.map (fun x => if x.1 = k then (x.1, v) else x) else f ++ [(k, v)]
def cfD (f : PD) (k : P2) : Int := (gtD f k).getD 0
def ndD (f : PD) : Prop := (f.map (·.1)).Nodup
def nzD (f : PD) : PD := f.filter fun x => decide (x.2 ≠ 0)
def adD (f : PD) (k : P2) (v : Int) : PD := ptD f k (cfD f k + v)
def smD (l : PD) (k : P2) : Int := (l.map fun x => if x.1 = k then x.2 else 0).sum
theorem gtD_nil (k : P2) : gtD [] k = none := rfl
theorem gtD_cons (x : P2 × Int) (f : PD) (k : P2) : gtD (x :: f) k = if x.1 = k then some x.2 else gtD f k := by
 unfold gtD
 rw [List.find?_cons]
 by_cases h : x.1 = k
 ·rw [decide_eq_true h, if_pos h]; rfl
 ·rw [decide_eq_false h, if_neg h]
theorem gtD_none {f : PD} {k : P2} : gtD f k = none ↔ ∀ x ∈ f, x.1 ≠ k := by
 induction f with
 | nil => rw [gtD_nil]; simp
 | cons x f ih =>
  rw [gtD_cons]
  by_cases h : x.1 = k
  ·rw [if_pos h]
   constructor
   ·intro z; cases z
   ·intro z; exact absurd h (z x List.mem_cons_self)
  ·rw [if_neg h, ih]
   constructor
   ·intro z y hy
    rcases List.mem_cons.mp hy with e | hy
    ·subst e; exact h
    ·exact z y hy
   ·intro z y hy; exact z y (List.mem_cons_of_mem _ hy)
theorem gtD_any (f : PD) (k : P2) : (f.any fun x => decide (x.1 = k)) = (gtD f k).isSome := by
 induction f with
 | nil => rfl
 | cons x f ih =>
  rw [List.any_cons, gtD_cons, ih]
  by_cases h : x.1 = k
  ·rw [decide_eq_true h, if_pos h]; rfl
  ·rw [decide_eq_false h, if_neg h]; rfl
theorem gtD_append (f g : PD) (k : P2) : gtD (f ++ g) k = (gtD f k).or (gtD g k) := by
 induction f with
 | nil => rfl
 | cons x f ih =>
  rw [List.cons_append, gtD_cons, gtD_cons, ih]
  by_cases h : x.1 = k
  ·rw [if_pos h, if_pos h]; rfl
  ·rw [if_neg h, if_neg h]
theorem gtD_pt (f : PD) (k : P2) (v : Int) (j : P2) : gtD (ptD f k v) j = if j = k then some v else gtD f j := by
 unfold ptD
 rw [gtD_any]
 by_cases h : (gtD f k).isSome = true
 ·rw [if_pos h]
  have hm : ∀ g : PD, gtD (g.map fun x => if x.1 = k then (x.1, v) else x) j = if j = k then (gtD g j).map (fun _ => v) else gtD g j := by
   intro g
   induction g with
   | nil => split <;> rfl
   | cons x g ih =>
    rw [List.map_cons, gtD_cons, gtD_cons, ih]
    by_cases e : x.1 = k
    ·by_cases e2 : j = k
     ·rw [if_pos e, if_pos e2, if_pos e2]
      have e3 : x.1 = j := e.trans e2.symm
      simp [e3]
     ·rw [if_pos e, if_neg e2, if_neg e2]
      have e3 : ¬ x.1 = j := fun z => e2 (z.symm.trans e)
      rw [if_neg e3, if_neg e3]
    ·rw [if_neg e]
     by_cases e2 : j = k
     ·rw [if_pos e2, if_pos e2]
      have e3 : ¬ x.1 = j := fun z => e (z.trans e2)
      simp [e3]
     ·rw [if_neg e2, if_neg e2]
  rw [hm]
  by_cases e : j = k
  ·subst e
   rw [if_pos rfl, if_pos rfl]
   obtain ⟨y, hy⟩ := Option.isSome_iff_exists.mp h
   rw [hy]; rfl
  ·rw [if_neg e, if_neg e]
 ·rw [if_neg h, gtD_append, gtD_cons, gtD_nil]
  have hn : gtD f k = none := by
   cases q : gtD f k with
   | none => rfl
   | some y => rw [q] at h; exact absurd rfl h
  by_cases e : j = k
  ·subst e
   rw [if_pos rfl, hn, if_pos rfl]; rfl
  ·rw [if_neg e, if_neg (fun z => e z.symm)]
   cases gtD f j <;> rfl
theorem cfD_pt (f : PD) (k : P2) (v : Int) (j : P2) : cfD (ptD f k v) j = if j = k then v else cfD f j := by
 unfold cfD
 rw [gtD_pt]
 split <;> rfl
theorem cfD_ad (f : PD) (k : P2) (v : Int) (j : P2) : cfD (adD f k v) j = cfD f j + if k = j then v else 0 := by
 unfold adD
 rw [cfD_pt]
 by_cases e : j = k
 ·subst e; rw [if_pos rfl, if_pos rfl]
 ·rw [if_neg e, if_neg (fun z => e z.symm)]; omega
theorem keys_pt (f : PD) (k : P2) (v : Int) : (ptD f k v).map (·.1) = if (gtD f k).isSome = true then f.map (·.1) else f.map (·.1) ++ [k] := by
 unfold ptD
 rw [gtD_any]
 split
 ·rw [List.map_map]
  apply List.map_congr_left
  intro x _
  show (if x.1 = k then (x.1, v) else x).1 = x.1
  split <;> rfl
 ·rw [List.map_append]; rfl
theorem ndD_pt {f : PD} (h : ndD f) (k : P2) (v : Int) : ndD (ptD f k v) := by
 unfold ndD at *
 rw [keys_pt]
 split
 ·exact h
 ·rename_i hn
  have q : gtD f k = none := by
   cases q : gtD f k with
   | none => rfl
   | some y => rw [q] at hn; exact absurd rfl hn
  rw [List.nodup_append]
  refine ⟨h, List.nodup_cons.mpr ⟨List.not_mem_nil, List.nodup_nil⟩, ?_⟩
  intro a ha b hb
  rw [List.mem_singleton.mp hb]
  intro z
  obtain ⟨x, hx, e⟩ := List.mem_map.mp ha
  exact gtD_none.mp q x hx (e.trans z)
theorem ndD_ad {f : PD} (h : ndD f) (k : P2) (v : Int) : ndD (adD f k v) := ndD_pt h k _
theorem ndD_nil : ndD [] := List.nodup_nil
theorem len_pt (f : PD) (k : P2) (v : Int) : (ptD f k v).length <= f.length + 1 := by
 have h := congrArg List.length (keys_pt f k v)
 rw [List.length_map] at h
 rw [h]
 split
 ·rw [List.length_map]; omega
 ·rw [List.length_append, List.length_map]; exact Nat.le_refl _
theorem len_ad (f : PD) (k : P2) (v : Int) : (adD f k v).length <= f.length + 1 := len_pt f k _
theorem ndD_cons {x : P2 × Int} {f : PD} : ndD (x :: f) ↔ gtD f x.1 = none ∧ ndD f := by
 unfold ndD
 rw [List.map_cons, List.nodup_cons, gtD_none]
 constructor
 ·rintro ⟨h1, h2⟩
  exact ⟨fun y hy e => h1 (List.mem_map.mpr ⟨y, hy, e⟩), h2⟩
 ·rintro ⟨h1, h2⟩
  refine ⟨fun hm => ?_, h2⟩
  obtain ⟨y, hy, e⟩ := List.mem_map.mp hm
  exact h1 y hy e
theorem gtD_of_mem {f : PD} (h : ndD f) {x : P2 × Int} (hx : x ∈ f) : gtD f x.1 = some x.2 := by
 induction f with
 | nil => exact nomatch hx
 | cons y f ih =>
  obtain ⟨h1, h2⟩ := ndD_cons.mp h
  rw [gtD_cons]
  rcases List.mem_cons.mp hx with e | hx
  ·subst e; rw [if_pos rfl]
  ·rw [if_neg (fun e => gtD_none.mp h1 x hx e.symm)]
   exact ih h2 hx
theorem nzD_cons (x : P2 × Int) (f : PD) : nzD (x :: f) = if x.2 = 0 then nzD f else x :: nzD f := by
 unfold nzD
 rw [List.filter_cons]
 by_cases h : x.2 = 0
 ·rw [if_pos h, decide_eq_false (fun z => z h)]; rfl
 ·rw [if_neg h, decide_eq_true h]; rfl
theorem ndD_nz {f : PD} (h : ndD f) : ndD (nzD f) := by
 unfold ndD nzD at *
 exact List.Sublist.nodup (List.Sublist.map _ List.filter_sublist) h
theorem nzD_mem {f : PD} {x : P2 × Int} (h : x ∈ nzD f) : x ∈ f := (List.mem_filter.mp h).1
theorem nzD_len (f : PD) : (nzD f).length <= f.length := List.length_filter_le _ _
theorem put_all {f : PD} (h : ndD f) : ∀ a : PD, (∀ x ∈ f, gtD a x.1 = none) -> f.foldl (fun a x => ptD a x.1 x.2) a = a ++ f := by
 induction f with
 | nil => intro a _; rw [List.append_nil]; rfl
 | cons x f ih =>
  intro a ha
  obtain ⟨h1, h2⟩ := ndD_cons.mp h
  have e : ptD a x.1 x.2 = a ++ [x] := by
   unfold ptD
   rw [gtD_any, ha x List.mem_cons_self]
   rfl
  rw [List.foldl_cons, e, ih h2 (a ++ [x]) fun y hy => ?_]
  ·rw [List.append_assoc]; rfl
  ·rw [gtD_append, ha y (List.mem_cons_of_mem _ hy), gtD_cons, gtD_nil, if_neg (fun z => gtD_none.mp h1 y hy z.symm)]
   rfl
def foD (l : PD) (a : PD) : PD := l.foldl (fun a x => adD a x.1 x.2) a
theorem foD_nil (a : PD) : foD [] a = a := rfl
theorem foD_cons (x : P2 × Int) (l a : PD) : foD (x :: l) a = foD l (adD a x.1 x.2) := rfl
theorem foD_snoc (l : PD) (x : P2 × Int) (a : PD) : foD (l ++ [x]) a = adD (foD l a) x.1 x.2 := by
 unfold foD; rw [List.foldl_append]; rfl
theorem cf_fo : ∀ (l a : PD) (k : P2), cfD (foD l a) k = cfD a k + smD l k
 | [], a, k => by show cfD a k = cfD a k + 0; omega
 | x :: l, a, k => by
  rw [foD_cons, cf_fo l, cfD_ad]
  unfold smD
  rw [List.map_cons, List.sum_cons]
  omega
theorem nd_fo : ∀ (l : PD) {a : PD}, ndD a -> ndD (foD l a)
 | [], _, h => h
 | x :: l, _, h => by rw [foD_cons]; exact nd_fo l (ndD_ad h _ _)
theorem len_fo : ∀ (l a : PD), (foD l a).length <= a.length + l.length
 | [], a => Nat.le_refl _
 | x :: l, a => by
  rw [foD_cons, List.length_cons]
  have h1 := len_fo l (adD a x.1 x.2)
  have h2 := len_ad a x.1 x.2
  omega
def rowD (x : P2 × Int) (g : PD) : PD := g.map fun y => ((x.1.1 + y.1.1, x.1.2 + y.1.2), x.2 * y.2)
def prD (f g : PD) : PD := f.flatMap fun x => rowD x g
def timesD (f g : PD) : PD := nzD (foD (prD f g) [])
theorem foD_app (l m a : PD) : foD (l ++ m) a = foD m (foD l a) := by unfold foD; rw [List.foldl_append]
theorem prD_snoc (f : PD) (x : P2 × Int) (g : PD) : prD (f ++ [x]) g = prD f g ++ rowD x g := by
 unfold prD; rw [List.flatMap_append]; simp
theorem rowD_snoc (x : P2 × Int) (g : PD) (y : P2 × Int) : rowD x (g ++ [y]) = rowD x g ++ [((x.1.1 + y.1.1, x.1.2 + y.1.2), x.2 * y.2)] := by
 unfold rowD; rw [List.map_append]; rfl
theorem smD_cons (x : P2 × Int) (l : PD) (k : P2) : smD (x :: l) k = (if x.1 = k then x.2 else 0) + smD l k := by
 unfold smD; rw [List.map_cons, List.sum_cons]
theorem len_le_of_keys : ∀ {l m : List P2}, l.Nodup -> (∀ x ∈ l, x ∈ m) -> l.length <= m.length
 | [], m, _, _ => Nat.zero_le _
 | x :: l, m, h, hs => by
  obtain ⟨h1, h2⟩ := List.nodup_cons.mp h
  have hx := hs x List.mem_cons_self
  have e := List.length_erase_of_mem hx
  have r := len_le_of_keys (l := l) (m := m.erase x) h2 fun y hy => by
   refine (List.mem_erase_of_ne ?_).mpr (hs y (List.mem_cons_of_mem _ hy))
   intro z; subst z; exact h1 hy
  have : 0 < m.length := List.length_pos_of_mem hx
  rw [List.length_cons]; omega
end L2
namespace L2
open PySem PySem.Spec PyProof.Rows
def bkH (H : Hp) (a : Addr) (H' : Hp) : Hp := fun b => if b = a then H a else H' b
theorem bk_at {H H' : Hp} {a : Addr} : bkH H a H' a = H a := by unfold bkH; rw [if_pos rfl]
theorem bk_ne {H H' : Hp} {a b : Addr} (h : b ≠ a) : bkH H a H' b = H' b := by unfold bkH; rw [if_neg h]
def Thw (X : Cx) (H : Hp) (a : Addr) (o : Obj) (kvs : List (List Key × V)) : Prop := H a = some (.frz o (.dT kvs)) ∨ (H a = some (.dT kvs) ∧ ∀ o' u', X.H₀ a ≠ some (.frz o' u'))
theorem pget {α β : Type} {F : α -> β -> Prop} : ∀ {l : List α} {m : List β} {i : Nat} {p : α}, Paired F l m -> l[i]? = some p -> ∃ q, m[i]? = some q ∧ F p q
 | _, _, _, _, .nil, e => by simp at e
 | _, _, 0, _, .cons r _, e => by simp at e; subst e; exact ⟨_, rfl, r⟩
 | _, _, i + 1, p, .cons _ t, e => by
  obtain ⟨q, h1, h2⟩ := pget (i := i) (p := p) t (by simpa using e)
  exact ⟨q, by simpa using h1, h2⟩
section
variable {X : Cx} {pins : List (Addr × Obj)} {σ : St} {H H' : Hp} {s : Shared} {a : Addr} {o : Obj} {kvs : List (List Key × V)}
theorem frz_ok (ok : HOk X.prog X.w H s.heap) (e : H a = some (.frz o (.dT kvs))) : kvs.length <= sizeLine ∧ (a == sysModules) = false ∧ ∃ (xs : List (List Key × Addr × Value)) (es : Array DictEntry) (ep : Nat),
  Paired (fun (p : List Key × V) (q : List Key × Addr × Value) => p.1 = q.1 ∧ H q.2.1 = some (.tup (p.1.map kV)) ∧ RelV p.2 q.2.2) kvs xs ∧ s.heap.get? a = some o ∧ o.ExactDict ∧ o.data = .dict es ep ∧ es.toList = xs.map (entryOfKey (tupleKind (mixKind X.prog X.w))) ∧ (xs.map (·.1)).Nodup := by
 obtain ⟨g1, z, y, xs, rel, o', es, ep, h1, h2, h3, h4, h5⟩ := (show ObjOk X.prog X.w H s.heap a (.frz o (.dT kvs)) from ok a _ e)
 rw [g1] at h1
 cases h1
 exact ⟨z, y, xs, es, ep, rel, g1, h2, h3, h4, h5⟩
theorem Inv.freeze (I : Inv X pins σ H s) (r : Rd H a (.dT kvs)) : ∃ o es ep, s.heap.get? a = some o ∧ o.ExactDict ∧ o.data = .dict es ep ∧ (a == sysModules) = false ∧ Thw X H a o kvs ∧ Inv X pins σ (upd H a (.frz o (.dT kvs))) s := by
 rcases r with e | ⟨o, e⟩
 ·obtain ⟨z, y, xs, rel, o, es, ep, h1, h2, h3, h4, h5⟩ := (show ObjOk X.prog X.w H s.heap a (.dT kvs) from I.hok a _ e)
  have nt : ∀ b ys, H b = some (.tup ys) -> b ≠ a := fun b ys q => ne_of q e (fun z => nomatch z)
  have no : ∀ b y, H b = some (.own y) -> b ≠ a := fun b y q => ne_of q e (fun z => nomatch z)
  refine ⟨o, es, ep, h1, h2, h3, y, .inr ⟨e, fun o' u' q => ?_⟩, ?_⟩
  ·have := I.base.frzs a o' u' q
   rw [e] at this; cases this
  ·have hok : HOk X.prog X.w (upd H a (.frz o (.dT kvs))) s.heap := fun b u q => by
    by_cases hb : b = a
    ·subst hb
     rw [upd_same] at q; cases q
     exact ⟨h1, z, y, xs, Paired.mapP rel fun p q x => ⟨x.1, by rw [upd_ne (nt _ _ x.2.1)]; exact x.2.1, x.2.2⟩, o, es, ep, h1, h2, h3, h4, h5⟩
    ·rw [upd_ne hb] at q
     exact (I.hok b u q).stay (fun _ _ _ x => x) (fun c x => by rw [upd_ne (no _ _ x)]; exact x) fun c ys x => by rw [upd_ne (nt _ _ x)]; exact x
   have un : Un X.fs [] H (upd H a (.frz o (.dT kvs))) s.heap s.heap :=
    ⟨fun b ob q _ _ _ => q, fun b ob q _ _ _ => ⟨ob.slots, q⟩, fun b ob q n _ => by rw [upd_ne (Ne.symm (ne_of_none e n))]; exact n, fun b ob q _ => ⟨ob, q⟩,
     fun b xs q => by rw [upd_ne (nt _ _ q)]; exact q, fun b ob u q => by rw [upd_ne (ne_of q e (fun z => nomatch z))]; exact q, fun b ps q => ⟨#[], by rw [upd_ne (ne_of q e (fun z => nomatch z)), q]; simp⟩⟩
   exact I.un (h' := s.heap) (t' := s.toks) un hok
 ·obtain ⟨z, y, xs, es, ep, rel, h1, h2, h3, h4, h5⟩ := frz_ok I.hok e
  have eq : upd H a (.frz o (.dT kvs)) = H := by
   funext b
   by_cases hb : b = a
   ·subst hb; rw [upd_same, e]
   ·rw [upd_ne hb]
  exact ⟨o, es, ep, h1, h2, h3, y, .inl e, by rw [eq]; exact I⟩
theorem Inv.thaw (I : Inv X pins σ H' s) (h : H' a = some (.frz o (.dT kvs))) (t : Thw X H a o kvs) : Inv X pins σ (bkH H a H') s := by
 rcases t with e | ⟨e, n⟩
 ·have eq : bkH H a H' = H' := by
   funext b
   by_cases hb : b = a
   ·subst hb; rw [bk_at, e, h]
   ·rw [bk_ne hb]
  rw [eq]; exact I
 ·have ba : bkH H a H' a = some (.dT kvs) := by rw [bk_at, e]
  have nn : ∀ b, H' b = none -> b ≠ a := fun b q z => by subst z; rw [h] at q; cases q
  have nt : ∀ b ys, H' b = some (.tup ys) -> b ≠ a := fun b ys q => ne_of q h (fun z => nomatch z)
  have no : ∀ b y, H' b = some (.own y) -> b ≠ a := fun b y q => ne_of q h (fun z => nomatch z)
  obtain ⟨z, y, xs, es, ep, rel, h1, h2, h3, h4, h5⟩ := frz_ok I.hok h
  refine ⟨I.ok, I.os, I.bare, ⟨I.base.keep, I.base.slot, fun b ob q m x => ?_, I.base.there, fun b xs q => ?_, fun b ob u q => ?_, fun b ps q => ?_⟩, I.loc, I.cell, ?_, fun x c q => ?_, fun p hp => ?_, fun b u q => ?_, I.len⟩
  ·have w := I.base.free b ob q m x
   rw [bk_ne (nn b w)]; exact w
  ·have w := I.base.tups b xs q
   rw [bk_ne (nt b xs w)]; exact w
  ·have w := I.base.frzs b ob u q
   rw [bk_ne (fun z => n ob u (by rw [← z]; exact q))]; exact w
  ·obtain ⟨m, w⟩ := I.base.tbls b ps q
   exact ⟨m, by rw [bk_ne (ne_of w h (fun z => nomatch z))]; exact w⟩
  ·rw [bk_ne (nn _ I.free)]; exact I.free
  ·rw [bk_ne (nn _ (I.freeC x c q))]; exact I.freeC x c q
  ·obtain ⟨p1, p2, p3⟩ := I.pin p hp
   exact ⟨p1, by rw [bk_ne (nn _ p2)]; exact p2, p3⟩
  ·by_cases hb : b = a
   ·subst hb
    rw [ba] at q; cases q
    exact ⟨z, y, xs, Paired.mapP rel fun p q x => ⟨x.1, by rw [bk_ne (nt _ _ x.2.1)]; exact x.2.1, x.2.2⟩, o, es, ep, h1, h2, h3, h4, h5⟩
   ·rw [bk_ne hb] at q
    exact (I.hok b u q).stay (fun _ _ _ x => x) (fun c x => by rw [bk_ne (no _ _ x)]; exact x) fun c ys x => by rw [bk_ne (nt _ _ x)]; exact x
end
def Itd (a : Addr) (o : Obj) (kvs : List (List Key × V)) : It :=
 ⟨fun i H => H a = some (.frz o (.dT kvs)) ∧ i < kvs.length, fun i H v H' => ∃ p b k x, H p = none ∧ v = .ref p ∧ kvs[i]? = some (k, x) ∧ H b = some (.tup (k.map kV)) ∧ H' = upd H p (.tup [.ref b, x]),
  fun i H => H a = some (.frz o (.dT kvs)) ∧ kvs.length <= i⟩
theorem turn_items {P : Program} {w : World} {K : PySem.W.Frag} {elts : List Expr} {tk : Nat} {tpos : Pos} {o : Obj} {kvs : List (List Key × V)} {es : Array DictEntry} {ep : Nat} (a it : Addr) (hod : o.data = .dict es ep) :
  Turn P w K (.Tuple elts tk tpos) (Itd a o kvs) [it] it (fun i h => ∃ ok ov, IsItemIter h it a i es.size ep ok ov) where
 mem := by simp
 obj := fun i h st c hb => by
  obtain ⟨ok, ov, hi⟩ := st
  rw [List.mem_singleton.mp hb]
  exact ⟨_, hi, fun v z => by
   have z' : Data.fields _ = Data.cell v := z
   cases z'⟩
 keep := fun i h h' st k => by
  obtain ⟨ok, ov, hi⟩ := st
  exact ⟨ok, ov, k it (by simp) _ hi⟩
 item := by
  intro X hP hw hK hc i pins s σ H E I hf st hg
  subst hP hw hK
  obtain ⟨ok, ov, hi⟩ := st
  obtain ⟨hfz, hlt⟩ := hg
  obtain ⟨z, y, xs, es', ep', rel, h1, h2, h3, h4, h5⟩ := frz_ok I.hok hfz
  rw [hod] at h3
  cases h3
  obtain ⟨⟨k, x⟩, hk⟩ : ∃ p, kvs[i]? = some p := ⟨_, List.getElem?_eq_getElem hlt⟩
  obtain ⟨⟨k', b, u⟩, hq, e1, e2, e3⟩ := pget rel hk
  have he : es[i]? = some (entryOfKey (tupleKind (mixKind X.prog X.w)) (k', b, u)) := by rw [entry_at h4, hq]; rfl
  obtain ⟨f0, f1, f2, f3, f4, f5⟩ := hf it (by simp)
  refine en_next hi ⟨o, h1, h2, hod⟩ he fun g1 ho hT hsz hk1 => ⟨_, rfl, wpAny_letOwnedTupleGo_items ho fun g2 he2 hs2 => ?_⟩
  have hp : H s.heap.objs.size = none := I.hok.fresh (Nat.le_refl _)
  have hpi : s.heap.objs.size ≠ it := Nat.ne_of_gt (Heap.lt_size hi)
  have k2 : ∀ c ob, c ∉ [it] -> s.heap.get? c = some ob -> g2.get? c = some ob := fun c ob hb q => (hs2.2 c fun e => hb (by simp [e])).trans (hk1 c ob (fun e => hb (by simp [e])) q)
  have hT2 : g2.get? s.heap.objs.size = some { cls := .type "tuple", data := .seq #[.ref b, u] } := (hs2.2 _ hpi).trans hT
  have nch : ∀ c v, H c = some v -> c ∉ [it] := fun c v q hb => by rw [(hf c hb).1] at q; cases q
  have up : ∀ c, c < s.heap.objs.size -> c ≠ s.heap.objs.size := fun c hb => Nat.ne_of_lt hb
  have I2 : Inv X pins σ (upd H s.heap.objs.size (.tup [.ref b, x])) { s with heap := g2 } := by
   refine I.step (g' := s.gens) (d' := s.drawn) (t' := s.toks) (ch := [it]) (fun c hb => ?_) (fun c ob _ _ hc q _ => k2 c ob hc q) (fun c ob _ _ hc q _ => ⟨ob.slots, k2 c ob hc q⟩) (fun c ob _ q n => by rw [upd_ne (up c (Heap.lt_size q))]; exact n)
    (fun c ob hc q => ⟨ob, k2 c ob hc q⟩) (fun c ys q => by rw [upd_ne (ne_of_none q hp)]; exact q) (fun c ob v q => by rw [upd_ne (ne_of_none q hp)]; exact q) (fun c ps q => ⟨#[], by rw [upd_ne (ne_of_none q hp), q]; simp⟩) (fun m hm => ?_) (fun c v q => ?_) I.bare
   ·rw [List.mem_singleton.mp hb]; exact ⟨f3, f1, f4, f5⟩
   ·obtain ⟨ob, es, ep, q, r⟩ := hm
    exact ⟨ob, es, ep, k2 _ ob (fun e => (hf _ e).2.1 rfl) q, r⟩
   ·by_cases hb : c = s.heap.objs.size
    ·subst hb
     rw [upd_same] at q; cases q
     exact ⟨by show 2 <= sizeLine; decide, [.ref b, u], .cons rfl (.cons e3 .nil), ⟨_, hT2, rfl, _, rfl⟩⟩
    ·rw [upd_ne hb] at q
     refine (I.hok c v q).stay (fun c' ob hc r => k2 c' ob ?_ r) (fun c' r => by rw [upd_ne (ne_of_none r hp)]; exact r) fun c' ys r => by rw [upd_ne (ne_of_none r hp)]; exact r
     rcases hc with e | e
     ·rw [e]; exact nch c v q
     ·exact nch c' _ e
  refine ⟨.ref s.heap.objs.size, _, I2, rfl, ⟨_, b, k, x, hp, rfl, hk, e2, rfl⟩, ⟨_, _, he2⟩, fun c hb => ?_⟩
  rw [List.mem_singleton.mp hb, upd_ne (Ne.symm hpi)]
  exact f0
 done := by
  intro X hP hw hK hc i pins s σ H E I hf st hg
  subst hP hw hK
  obtain ⟨ok, ov, hi⟩ := st
  obtain ⟨hfz, hge⟩ := hg
  obtain ⟨z, y, xs, es', ep', rel, h1, h2, h3, h4, h5⟩ := frz_ok I.hok hfz
  rw [hod] at h3
  cases h3
  have hl := Paired.length rel
  have hsz := size_of_entries h4
  obtain ⟨f0, f1, f2, f3, f4, f5⟩ := hf it (by simp)
  exact en_end (I.ok.hd hc) hi ⟨o, h1, h2, hod⟩ (by omega) fun h' eb => ⟨rfl, I.turned (t' := s.toks) (fun b ob hb e => eb b ob hb e) f0 f1 f3 f4 f5⟩
 self := fun A i s Q E st h => by
  obtain ⟨ok, ov, hi⟩ := st
  exact PySem.W.kcp_self hi h
section
variable {X : Cx}
def iItems (X : Cx) (td : TE) : TI := fun σ H R => td σ H fun x H1 => ∃ a kvs, x = .ref a ∧ Rd H1 a (.dT kvs) ∧ ∀ o, Thw X H1 a o kvs -> R (Itd a o kvs) (upd H1 a (.frz o (.dT kvs)))
theorem pi_items {elts : List Expr} {tk : Nat} {tpos apos cpos : Pos} {e : Expr} {td : TE} (ho : PE X e td) (hbase : attributeBase e "items" X.env (eval e X.env) = eval e X.env := by rfl) (hline : (apos.endLine == cpos.line) = true := by rfl) :
  PI X (.Tuple elts tk tpos) (.Call (.Attribute e "items" apos) [] [] cpos) (iItems X td) := by
 intro pins s σ H R I h
 refine wpAny_Call_method0_late hbase hline (thn (ho pins s σ H _ I h) fun v s1 ⟨x, H1, I1, r1, a, kvs, ex, rd, q⟩ => ?_)
 subst ex
 cases r1
 obtain ⟨o, es, ep, h1, h2, h3, hd, tw, I2⟩ := I1.freeze rd
 have en : EnAt s1.heap a es ep := ⟨o, h1, h2, h3⟩
 refine ⟨"dict", "dict.items", PySem.F.plainAttrs_dict, PySem.F.slot_dict_items, PySem.F.type_dict_items, en.ty, fun b eb => ?_, Calls.callWith_builtin rfl (PySem.evalArgs_none (en_items hd en ?_))⟩
 ·cases eb; exact ⟨o, h1, h2.2.1⟩
 have I3 : Inv X pins σ (upd H1 a (.frz o (.dT kvs))) { s1 with heap := s1.heap.push { cls := .type "dict_items", data := .fields #[.ref a] } } := I2.kept (t' := s1.toks) fun b ob q => Heap.get?_push_of_some _ q
 refine en_iter (v := s1.heap.objs.size) ⟨_, Heap.get?_push_size _ rfl, rfl, rfl⟩ (en.at fun ob q => Heap.get?_push_of_some _ q) ?_
 refine ⟨_, [_], _, _, upd H1 a (.frz o (.dT kvs)), rfl, I3.kept (t' := s1.toks) fun b ob q => Heap.get?_push_of_some _ q, turn_items a _ h3, ⟨.none, .none, Heap.get?_push_size _ rfl⟩, fun b hb => ?_, q o tw⟩
 rw [List.mem_singleton.mp hb]
 exact I3.fpOk (Nat.le_refl _) (I3.hok.fresh (Nat.le_refl _))
def thD (X : Cx) (D : Ends) : Ends := { D with nx := fun σ' H' => ∃ H1 a o kvs, Thw X H1 a o kvs ∧ H' a = some (.frz o (.dT kvs)) ∧ D.nx σ' (bkH H1 a H') }
theorem ps_forD {iter : Expr} {tg : Expr} {body : List Stmt} {wi : TI} {g : TG} {tb : TS} {pos : Pos} (h : PS X (.For tg iter body [] pos) (tFor wi g tb)) : PS X (.For tg iter body [] pos) (fun D σ H => tFor wi g tb (thD X D) σ H) := by
 intro pins s σ H D I r
 refine thn (h pins s σ H (thD X D) I r) fun f s' q => ?_
 cases f with
 | next =>
  obtain ⟨σ', H', I', H1, a, o, kvs, tw, e, n⟩ := q
  exact ⟨σ', _, I'.thaw e tw, n⟩
 | brk => exact q
 | cont => exact q
 | ret u => exact q
def thQ (X : Cx) (Q : VK) : VK := fun v H' => ∃ H1 a o kvs, Thw X H1 a o kvs ∧ H' a = some (.frz o (.dT kvs)) ∧ Q v (bkH H1 a H')
theorem pe_thaw {e : Expr} {t : TE} (h : PE X e t) : PE X e (fun σ H Q => t σ H (thQ X Q)) := by
 intro pins s σ H Q I r
 refine thn (h pins s σ H (thQ X Q) I r) fun u s' ⟨v, H', I', rv, H1, a, o, kvs, tw, e, n⟩ => ⟨v, _, I'.thaw e tw, rv, n⟩
end
end L2
namespace L2
open PySem PySem.Spec PyProof.Rows
section
variable {X : Cx} {elt iter cnd : Expr} {x z : Str} {px pz : Pos} {tk : Nat} {tpos : Pos} {fv : List (Nat × Str)} {scope : Scope} {cl : List (Str × Addr)} {pos : Pos} {te : TE} {tt : TT} {wi : TI}
theorem blk_run2If {pins : List (Addr × Obj)} {σ : St} {H : Hp} {s2 : Shared} {it : Addr} {fp : List Addr} {tn : Nat -> Heap -> Prop} {J : It} {Q : VK} {E : Value -> Shared -> Prop} {RR : Value -> Addr -> Result -> Shared -> Prop}
  (hc : X.calm = true) (B : BlkOk2 X x z fv scope cl) (hcn : ∀ C s H fp, PT (blk2 X x z fv scope cl C s H fp) cnd tt) (he : ∀ C s H fp, PE (blk2 X x z fv scope cl C s H fp) elt te) (I : Inv X pins σ H s2) (T : Turn X.prog X.w X.K (.Tuple [.Name x px, .Name z pz] tk tpos) J fp it tn) (st : tn 0 s2.heap) (hf : ∀ b ∈ fp, FpOk X pins H b)
  (rd : ∀ D, H D = none -> ∃ W : Nat -> Nat -> Hp -> Prop, (∃ m, W 0 m (upd H D (.lst []))) ∧ ∀ i m H, W i m H ->
   (J.stop i H ∧ Q (.ref D) H) ∨ (J.go i H ∧ ∃ N : Hp -> Prop, (∀ H', N H' -> ∃ m', m' < m ∧ W (i + 1) m' H') ∧ ∀ v H', J.yld i H v H' -> ∃ q x1 x2, v = .ref q ∧ SqT X.K H' q [x1, x2] ∧ tt (bst2 fv σ (some x1) (some x2)) H' fun b Hb => if b = true then te (bst2 fv σ (some x1) (some x2)) Hb fun y H2 => ∃ ys, H2 D = some (.lst ys) ∧ ys.length < sizeLine ∧ N (upd H2 D (.lst (ys ++ [y]))) else N Hb))
  (hRR : ∀ D C s' H' m', Inv X pins σ H' s' -> FpOk X pins H' C -> s'.heap.Ns C m' -> Q (.ref D) H' -> RR (.ref D) C (.ok .next) s') :
  wpAny (model X.prog X.w) X.A (newList []) (fun acc s₃ => wpAny (model X.prog X.w) X.A (newFunctionEnv scope X.env.globals cl [] X.env.qual none .none (some X.env)) (fun cenv s₄ =>
   codeAny (model X.prog X.w) X.A (.compStart (.ListComp elt [⟨(.Tuple [.Name x px, .Name z pz] tk tpos), iter, [cnd], 0⟩] scope pos) 0 (.ref it) acc { cenv with scope := relabel scope X.env }) (RR acc cenv.locals) s₄) E s₃) E s2 := by
 refine wpAny_newObj_type ?_ (by show 0 <= sizeLine; exact Nat.zero_le _)
 have hD : H s2.heap.objs.size = none := I.hok.fresh (Nat.le_refl _)
 have I3 := I.lnew (ys := []) (its := []) (t' := s2.toks) .nil (Nat.zero_le _)
 generalize hs3 : ({ s2 with heap := s2.heap.push { cls := .type "list", data := .seq ([] : List Value).toArray }, toks := s2.toks } : Shared) = s3 at I3
 have sz3 : s3.heap.objs.size = s2.heap.objs.size + 1 := by rw [← hs3]; exact Heap.size_push ..
 have up3 : ∀ b o, s2.heap.get? b = some o -> s3.heap.get? b = some o := fun b o e => by rw [← hs3]; exact Heap.get?_push_of_some _ e
 have hf3 : ∀ b ∈ fp, FpOk X pins (upd H s2.heap.objs.size (.lst [])) b := fun b hb => by
  obtain ⟨f0, r⟩ := hf b hb
  refine ⟨?_, r⟩
  obtain ⟨o, e, _⟩ := T.obj 0 _ st b hb
  rw [upd_ne (Nat.ne_of_lt (Heap.lt_size e))]; exact f0
 have ltf : ∀ b ∈ fp, b < s2.heap.objs.size := fun b hb => by
  obtain ⟨o, e, _⟩ := T.obj 0 _ st b hb
  exact Heap.lt_size e
 have st3 : tn 0 s3.heap := T.keep 0 _ _ st fun b _ o e => up3 b o e
 obtain ⟨W, ⟨m0, w0⟩, turn⟩ := rd _ hD
 refine wpAny_newFunctionEnv B.nocell (by intro y hy; simp at hy) (fun h₁ hns₁ hsb₁ => ?_) B.kind
 have hfC : ∀ b ∈ fp, b ≠ s3.heap.objs.size := fun b hb => Nat.ne_of_lt (by rw [sz3]; exact Nat.lt_succ_of_lt (ltf b hb))
 have up4 : ∀ b o, s3.heap.get? b = some o -> h₁.get? b = some o := fun b o e => hsb₁.extBut b o (Nat.ne_of_lt (Heap.lt_size e)) (Heap.get?_push_of_some _ e)
 generalize hs4 : ({ s3 with heap := h₁, toks := s3.toks + ([] : List (Str × Value)).length } : Shared) = s4
 have h4 : s4.heap = h₁ := by rw [← hs4]
 have I4 : Inv (blk2 X x z fv scope cl s3.heap.objs.size s3 (upd H s2.heap.objs.size (.lst [])) fp) [] (bst2 fv σ none none) (upd H s2.heap.objs.size (.lst [])) s4 :=
  blk_start2 B I3 hf3 rfl hfC (by rw [← hs4]) (by rw [← hs4]) (fun b o e => by rw [h4]; exact up4 b o e) (by rw [h4]; exact hns₁)
 have st4 : tn 0 s4.heap := by rw [h4]; exact T.keep 0 _ _ st3 fun b _ o e => up4 b o e
 have stat : ∀ {H' : Hp}, (∀ b ∈ fp, H' b = none) -> ∀ b ∈ fp, FpOk (blk2 X x z fv scope cl s3.heap.objs.size s3 (upd H s2.heap.objs.size (.lst [])) fp) [] H' b := fun {H'} hn b hb => by
  obtain ⟨_, f1, f2, f3, f4, f5⟩ := hf b hb
  refine ⟨hn b hb, hfC b hb, fun z' => ?_, .inl hb, fun y c e => f4 y c (B.sub y c e), fun p hp => absurd (show p ∈ ([] : List (Addr × Obj)) from hp) (by simp)⟩
  rcases List.mem_cons.mp (I.stkSub b z') with q | q
  ·exact f1 q
  ·exact f2 q
 have loop : codeAny (model X.prog X.w) X.A (.compLoop (.ListComp elt [⟨(.Tuple [.Name x px, .Name z pz] tk tpos), iter, [cnd], 0⟩] scope pos) 0 (.ref it) (.ref s2.heap.objs.size) (compEnvC scope cl s3.heap.objs.size X.env)) (RR (.ref s2.heap.objs.size) s3.heap.objs.size) s4 := by
  refine compLoop_if (fun n s' => ∃ i H' o o2, Inv (blk2 X x z fv scope cl s3.heap.objs.size s3 (upd H s2.heap.objs.size (.lst [])) fp) [] (bst2 fv σ o o2) H' s' ∧ tn i s'.heap ∧ (∀ b ∈ fp, H' b = none) ∧ W i n H') ?_ m0
   ⟨0, _, none, none, I4, st4, fun b hb => (hf3 b hb).1, w0⟩
  rintro n s5 E' ⟨i, H5, o5, o6, I5, st5, fr5, w5⟩
  rcases turn i n H5 w5 with ⟨stop, q⟩ | ⟨go, N, hN, step⟩
  ·refine thn (T.done (blk2 X x z fv scope cl s3.heap.objs.size s3 (upd H s2.heap.objs.size (.lst [])) fp) rfl rfl rfl hc i [] s5 _ H5 _ I5 (stat fr5) st5 stop) fun r s6 ⟨hr, I6⟩ => ?_
   subst hr
   obtain ⟨m6, hn6, _⟩ := I6.loc
   have un : Un (frs X.stack) fp H H5 s2.heap s6.heap := by
    have u1 : Un (frs X.stack) fp H (upd H s2.heap.objs.size (.lst [])) s2.heap s3.heap := Un.laid up3 (Nat.le_refl _) hD
    exact u1.trans I6.base
   have J6 : Inv X pins σ H5 s6 := by
    refine I.call' ?_ un I6.hok I6.bare fun b hb => ?_
    ·have := I6.os
     rw [show (blk2 X x z fv scope cl s3.heap.objs.size s3 (upd H s2.heap.objs.size (.lst [])) fp).s₀.os = s2.os by rw [← hs3]] at this
     exact this
    ·obtain ⟨_, f1, f2, f3, f4, f5⟩ := hf b hb
     exact ⟨f3, f1, f4, f5⟩
   refine hRR _ _ s6 H5 m6 J6 ?_ hn6 q
   exact I3.fpOk (Nat.le_refl _) I6.free
  ·refine thn (T.item (blk2 X x z fv scope cl s3.heap.objs.size s3 (upd H s2.heap.objs.size (.lst [])) fp) rfl rfl rfl hc i [] s5 _ H5 _ I5 (stat fr5) st5 go) fun r s6 ⟨u, hr, h6⟩ => ?_
   subst hr
   refine thn h6 fun _ s7 ⟨v, H7, I7, r7, y7, st7, fr7⟩ => ?_
   have I7' := I7.pinned (stat fr7) (T.obj _ _ st7)
   obtain ⟨q7, x1, x2, ev, sq7, rd7⟩ := step v H7 y7
   refine wpAny_mono (blk_store2 (px := px) (pz := pz) (tk := tk) (tpos := tpos) hc B _ s7 _ H7 v u (fun σ' H' => σ' = bst2 fv σ (some x1) (some x2) ∧ H' = H7) I7' r7 ⟨q7, [x1, x2], ev, sq7, rfl, x1, [x2], rfl, x2, [], rfl, rfl, rfl, rfl⟩) (fun _ s8 ⟨σ8, H8, I8, e8a, e8b⟩ => ?_) fun _ _ z => False.elim z
   subst e8a e8b
   have c8 := hcn _ _ _ _ _ s8 _ _ _ I8 rd7
   refine wpAny_mono c8 (fun bb sb ⟨Hb, Ib, qb⟩ => ?_) fun _ _ z => False.elim z
   cases bb with
   | false =>
    rw [if_neg (by decide)] at qb
    show (if false = true then _ else _)
    rw [if_neg (by decide)]
    obtain ⟨m', hm, w9⟩ := hN _ qb
    refine ⟨m', hm, i + 1, _, some x1, some x2, Ib.unpinned, T.keep _ _ _ st7 fun b hb o e => (Ib.pin (b, o) (List.mem_append_right _ (List.mem_append_right _ (mem_pinsAt hb e)))).1, fun b hb => ?_, w9⟩
    obtain ⟨o, e, _⟩ := T.obj _ _ st7 b hb
    exact (Ib.pin (b, o) (List.mem_append_right _ (List.mem_append_right _ (mem_pinsAt hb e)))).2.1
   | true =>
    rw [if_pos rfl] at qb
    show (if true = true then _ else _)
    rw [if_pos rfl]
    have e8 := he _ _ _ _ _ sb _ Hb _ Ib qb
    refine wpAny_mono e8 (fun y s9 ⟨yv, H9, I9, r9, ys, hD9, hz, n9⟩ => ?_) fun _ _ z => False.elim z
    have a9 := mt_append (X := blk2 X x z fv scope cl s3.heap.objs.size s3 (upd H s2.heap.objs.size (.lst [])) fp) _ s9 _ H9 (.ref s2.heap.objs.size) [yv] (.ref s2.heap.objs.size) [y] (fun _ H10 => H10 = upd H9 s2.heap.objs.size (.lst (ys ++ [yv]))) I9 rfl (.cons r9 .nil)
     ⟨_, ys, yv, rfl, rfl, hD9, hz, rfl⟩
    refine wpAny_mono a9 (fun _ s10 ⟨_, H10, I10, _, e10⟩ => ?_) fun _ _ z => False.elim z
    subst e10
    obtain ⟨m', hm, w9⟩ := hN _ n9
    refine ⟨m', hm, i + 1, _, some x1, some x2, I10.unpinned, T.keep _ _ _ st7 fun b hb o e => (I10.pin (b, o) (List.mem_append_right _ (List.mem_append_right _ (mem_pinsAt hb e)))).1, fun b hb => ?_, w9⟩
    obtain ⟨o, e, _⟩ := T.obj _ _ st7 b hb
    exact (I10.pin (b, o) (List.mem_append_right _ (List.mem_append_right _ (mem_pinsAt hb e)))).2.1
 exact codeAny_compStart_list loop (T.self _ 0 _ _ _ st4 loop)
def CLoop2If (K : PySem.W.Frag) (J : It) (fv : List (Nat × Str)) (tt : TT) (te : TE) (Q : VK) (σ : St) (H1 : Hp) (D : Addr) : Prop := ∃ W : Nat -> Nat -> Hp -> Prop, (∃ m, W 0 m (upd H1 D (.lst []))) ∧ ∀ i m H, W i m H ->
 (J.stop i H ∧ Q (.ref D) H) ∨ (J.go i H ∧ ∃ N : Hp -> Prop, (∀ H', N H' -> ∃ m', m' < m ∧ W (i + 1) m' H') ∧ ∀ v H', J.yld i H v H' -> ∃ q x1 x2, v = .ref q ∧ SqT K H' q [x1, x2] ∧ tt (bst2 fv σ (some x1) (some x2)) H' fun b Hb => if b = true then te (bst2 fv σ (some x1) (some x2)) Hb fun y H2 => ∃ ys, H2 D = some (.lst ys) ∧ ys.length < sizeLine ∧ N (upd H2 D (.lst (ys ++ [y]))) else N Hb)
def tComp2If (K : PySem.W.Frag) (fv : List (Nat × Str)) (wi : TI) (tt : TT) (te : TE) : TE := fun σ H Q => wi σ H fun J H1 => ∀ D, H1 D = none -> CLoop2If K J fv tt te Q σ H1 D
theorem a_tComp2If {K : PySem.W.Frag} {σ : St} {H : Hp} {Q : VK} : tComp2If K fv wi tt te σ H Q = wi σ H fun J H1 => ∀ D, H1 D = none -> CLoop2If K J fv tt te Q σ H1 D := rfl
theorem pe_lcomp2If (hc : X.calm = true) (B : BlkOk2 X x z fv scope cl) (hi : PI X (.Tuple [.Name x px, .Name z pz] tk tpos) iter wi) (hcn : ∀ C s H fp, PT (blk2 X x z fv scope cl C s H fp) cnd tt) (he : ∀ C s H fp, PE (blk2 X x z fv scope cl C s H fp) elt te)
  (hs : ∀ v, foldedSetIterable iter X.env v = pure v := by intro _; rfl) : PE X (.ListComp elt [⟨.Tuple [.Name x px, .Name z pz] tk tpos, iter, [cnd], 0⟩] scope pos) (tComp2If X.K fv wi tt te) := by
 intro pins s σ H Q I h
 rw [eval_ListComp]
 refine wpAny_comprehension_free (use := none) rfl hs B.clos B.kind B.names (thn (hi pins s σ H _ I h) fun v s1 h1 => thn h1 fun itv s2 h2 => ?_)
 obtain ⟨it, fp, tn, J, H2, e, I2, T, st2, f2, rd⟩ := h2
 subst e
 refine blk_run2If (RR := fun acc C => compPost (model X.prog X.w) X.A X.xe none (EP X pins σ Q) acc C) hc B hcn he I2 T st2 f2 rd ?_
 intro D C s' H' m' I' fC hn q
 exact ⟨m', hn, fun h' sb => ⟨.ref D, H', I'.turned (t' := s'.toks) (fun b o hb e => (sb.2 b hb).trans e) fC.1 fC.2.1 fC.2.2.2.1 fC.2.2.2.2.1 fC.2.2.2.2.2, rfl, q⟩⟩
end
end L2
namespace L2
open PySem PySem.Spec PyProof.Rows
section
variable {X : Cx}
def putAll (ps : List (Addr × List Key × Addr × V)) : List (List Key × V) := ps.foldl (fun a x => putK a x.2.1 x.2.2.2) []
def PrsV (ps : List (Addr × List Key × Addr × V)) (qs : Prs Key) : Prop := Paired (fun (p : Addr × List Key × Addr × V) (q : Addr × List Key × Addr × Value) => p.1 = q.1 ∧ p.2.1 = q.2.1 ∧ p.2.2.1 = q.2.2.1 ∧ RelV p.2.2.2 q.2.2.2) ps qs
theorem put_kt {H : Hp} : ∀ {ps : List (Addr × List Key × Addr × V)} {qs : Prs Key} {a : List (List Key × V)} {b : List (List Key × Addr × Value)}, PrsV ps qs -> (∀ x ∈ ps, H x.2.2.1 = some (.tup (x.2.1.map kV))) -> KT H a b ->
  KT H (ps.foldl (fun a x => putK a x.2.1 x.2.2.2) a) (qs.foldl (fun a x => storedH a x.2.1 x.2.2.1 x.2.2.2) b) := by
 intro ps qs a b r
 unfold PrsV at r
 induction r generalizing a b with
 | nil => intro _ k; exact k
 | @cons p q ps qs h t ih =>
  intro hk k
  rw [List.foldl_cons, List.foldl_cons]
  refine ih (fun x hx => hk x (List.mem_cons_of_mem _ hx)) ?_
  rw [← h.2.1, ← h.2.2.1]
  exact k.put p.2.1 (hk p List.mem_cons_self) h.2.2.2
theorem putAll_len (ps : List (Addr × List Key × Addr × V)) : (putAll ps).length <= ps.length := by
 unfold putAll
 have h : ∀ (l : List (Addr × List Key × Addr × V)) (a : List (List Key × V)), (l.foldl (fun a x => putK a x.2.1 x.2.2.2) a).length <= a.length + l.length := by
  intro l
  induction l with
  | nil => intro a; exact Nat.le_refl _
  | cons x l ih =>
   intro a
   have h1 := ih (putK a x.2.1 x.2.2.2)
   have h2 := length_putK a x.2.1 x.2.2.2
   rw [List.foldl_cons, List.length_cons]; omega
 have := h ps []
 rw [List.length_nil] at this; omega
theorem call_dictP (hc : X.calm = true) (hu : X.A.units + 2 < cLine) : CallR X (.type "dict") (fun xs H Q => ∃ L ps, xs = [V.ref L] ∧ H L = some (.lst (ps.map fun x => V.ref x.1)) ∧ (∀ x ∈ ps, H x.1 = some (.tup [.ref x.2.2.1, x.2.2.2]) ∧ H x.2.2.1 = some (.tup (x.2.1.map kV))) ∧ ∀ p, H p = none -> Q (.ref p) (upd H p (.dT (putAll ps)))) := by
 intro pins s σ H xs us Q I r h
 obtain ⟨L, ps, rfl, hL, hp, q⟩ := h
 obtain ⟨u, rfl, ru⟩ := vals1 r
 cases ru
 obtain ⟨z, its, n, rv, h1⟩ := (show ObjOk X.prog X.w H s.heap L (.lst (ps.map fun x => V.ref x.1)) from I.hok L _ hL)
 rw [List.length_map] at z
 have mk : ∀ (l : List (Addr × List Key × Addr × V)), (∀ x ∈ l, H x.1 = some (.tup [.ref x.2.2.1, x.2.2.2]) ∧ H x.2.2.1 = some (.tup (x.2.1.map kV))) -> ∃ qs : Prs Key, PrsV l qs ∧ (qs.map fun x => Value.ref x.1) = l.map (fun x => Value.ref x.1) ∧ ∀ x ∈ qs, PairAt (mixKind X.prog X.w) s.heap x := by
  intro l
  induction l with
  | nil => intro _; exact ⟨[], .nil, rfl, fun _ h => nomatch h⟩
  | cons p l ih =>
   intro hp
   obtain ⟨qs, q1, q2, q3⟩ := ih fun x hx => hp x (List.mem_cons_of_mem _ hx)
   obtain ⟨t1, t2⟩ := hp p List.mem_cons_self
   obtain ⟨_, its, rv, ob, g1, g2, n, g3⟩ := (show ObjOk X.prog X.w H s.heap p.1 (.tup [.ref p.2.2.1, p.2.2.2]) from I.hok _ _ t1)
   cases rv with
   | @cons _ a _ _ r1 rv =>
    cases rv with
    | @cons _ b _ _ r2 rv =>
     cases rv
     cases r1
     refine ⟨(p.1, p.2.1, p.2.2.1, b) :: qs, .cons ⟨rfl, rfl, rfl, r2⟩ q1, by rw [List.map_cons, List.map_cons, q2], fun x hx => ?_⟩
     rcases List.mem_cons.mp hx with e | hx
     ·subst e; exact ⟨⟨ob, g1, g2, n, g3⟩, key_of I.hok t2⟩
     ·exact q3 x hx
 obtain ⟨qs, q1, q2, q3⟩ := mk ps hp
 have ei : its = ps.map fun x => Value.ref x.1 := by
  clear hL hp q z h1 mk q1 q2 q3
  have go : ∀ (l : List (Addr × List Key × Addr × V)) (us : List Value), Vals (l.map fun x => V.ref x.1) us -> us = l.map fun x => Value.ref x.1 := by
   intro l
   induction l with
   | nil => intro us r; cases r; rfl
   | cons p l ih =>
    intro us r
    rw [List.map_cons] at r
    cases r with
    | cons r t => rw [List.map_cons, ← ih _ t]; cases r; rfl
  exact go ps its rv
 have hl : qs.length = ps.length := (Paired.length q1).symm
 have hn := I.hok.fresh (Nat.le_refl s.heap.objs.size)
 refine en_pairs (kn := mixKind X.prog X.w) (ps := qs) (I.ok.hd hc) hu (by omega) h1 rfl rfl (by rw [q2, ← ei]) q3 fun h' tk dd up => ⟨.ref s.heap.objs.size, _, ?_, rfl, q _ hn⟩
 obtain ⟨o', es, ep, g1, g2, g3, g4, _, g5⟩ := dd
 have kt : KT H (putAll ps) (accP qs) := put_kt q1 (fun x hx => (hp x hx).2) .nil
 have hz : (putAll ps).length <= sizeLine := by have := putAll_len ps; omega
 exact I.laid (a := s.heap.objs.size) (o := .dT (putAll ps)) (t' := tk) up (Nat.le_refl _) ⟨hz, beq_eq_false_iff_ne.mpr (Ne.symm (Nat.ne_of_lt I.big)), accP qs, kt.keeps fun b ys e => by rw [upd_ne (ne_of_none e hn)]; exact e, o', es, ep, g1, g2, g3, g4, g5⟩
end
end L2
namespace L2
open PySem PySem.Spec PyProof.Rows
section
variable {X : Cx} {pins : List (Addr × Obj)} {σ : St} {H : Hp} {s : Shared} {A : Around} {E : Value -> Shared -> Prop}
theorem d_dictSet {a b : Addr} {kvs : List (List Key × V)} {k : List Key} {v : V} {r : Value} {Q : Unit -> Shared -> Prop} (hu : A.units < cLine) (I : Inv X pins σ H s) (e : H a = some (.dT kvs)) (eb : H b = some (.tup (k.map kV))) (l : kvs.length < sizeLine) (rv : RelV v r)
  (h : ∀ s', Inv X pins σ (upd H a (.dT (putK kvs k v))) s' -> Q () s') : wpAny (model X.prog X.w) A (dictSet a (.ref b) r) Q E s := by
 obtain ⟨z, hd, xs, rel, dd⟩ := dt_of I.hok e
 have hz : xs.length <= sizeLine := by rw [← Paired.length rel]; exact z
 have hl : (putK kvs k v).length <= sizeLine := by have := length_putK kvs k v; omega
 refine wpAny_dictSet_heap (hsz := hz) hu (key_of I.hok eb) dd fun h' dd' hs => h _ ?_
 obtain ⟨q, es, ep, hq, h2, h3, h4, _, h5⟩ := dd'
 refine d_write I (by rw [e]; exact True.intro) hs ⟨q, hq⟩ ⟨hl, hd, _, (rel.put k eb rv).keeps fun c ys ec => ?_, q, es, ep, hq, h2, h3, h4, h5⟩
 rw [upd_ne (ne_of ec e (fun z => nomatch z))]
 exact ec
def putAs (ks : List (List Key × Addr × V)) (kvs : List (List Key × V)) : List (List Key × V) := ks.foldl (fun a x => putK a x.1 x.2.2) kvs
theorem st_all {p : Addr} (hu : A.units < cLine) : ∀ {ks : List (List Key × Addr × V)} {vs : List (Value × Value)} {kvs : List (List Key × V)} {H : Hp} {s : Shared} {Q : PUnit -> Shared -> Prop}, Paired (fun (x : List Key × Addr × V) (v : Value × Value) => RelV (.ref x.2.1) v.1 ∧ RelV x.2.2 v.2) ks vs -> Inv X pins σ H s -> H p = some (.dT kvs) ->
  (∀ x ∈ ks, H x.2.1 = some (.tup (x.1.map kV))) -> kvs.length + ks.length <= sizeLine -> (∀ s', Inv X pins σ (upd H p (.dT (putAs ks kvs))) s' -> Q PUnit.unit s') -> wpAny (model X.prog X.w) A (storeAll p vs) Q E s := by
 intro ks vs kvs H s Q r
 induction r generalizing kvs H s with
 | nil =>
  intro I e _ _ q
  unfold storeAll
  rw [List.forIn_nil]
  refine wpAny_pure (q s ?_)
  have : upd H p (.dT (putAs [] kvs)) = H := by
   funext b
   by_cases hb : b = p
   ·subst hb; rw [upd_same, e]; rfl
   ·rw [upd_ne hb]
  rw [this]; exact I
 | @cons x v ks vs h t ih =>
  intro I e hk hl q
  rw [List.length_cons] at hl
  unfold storeAll
  rw [List.forIn_cons]
  obtain ⟨v1, v2⟩ := v
  cases (show v1 = Value.ref x.2.1 from h.1)
  refine wpAny_bind (wpAny_bind (d_dictSet hu I e (hk x List.mem_cons_self) (by omega) h.2 fun s1 I1 => wpAny_pure ?_))
  have ln := length_putK kvs x.1 x.2.2
  refine ih I1 upd_same (fun y hy => ?_) (by omega) fun s' I' => q s' ?_
  ·have hy' := hk y (List.mem_cons_of_mem _ hy)
   rw [upd_ne (ne_of hy' e (fun z => nomatch z))]; exact hy'
  ·rw [upd_upd] at I'; exact I'
def tDispT (trs : List (TE × TE)) : TE := fun σ H Q => ∀ p, H p = none -> tPairs trs σ (upd H p (.dT [])) fun ps H2 => H2 p = some (.dT []) ∧ ∃ ks : List (List Key × Addr × V), ps = ks.map (fun x => (V.ref x.2.1, x.2.2)) ∧ (∀ x ∈ ks, H2 x.2.1 = some (.tup (x.1.map kV))) ∧ ks.length <= 15 ∧ Q (.ref p) (upd H2 p (.dT (putAs ks [])))
theorem pe_dispT {pos : Pos} {keys : List (Option Expr)} {values : List Expr} {trs : List (TE × TE)} (hu : X.A.units < cLine) (h : PPs X pos keys values trs) (hall : keys.all (·.isSome) = true) (hl : keys.length = values.length) (h0 : keys ≠ [])
  (h15 : keys.length <= 15) : PE X (.Dict keys values pos) (tDispT trs) := by
 intro pins s σ H Q I q
 have hn := I.hok.fresh (Nat.le_refl s.heap.objs.size)
 have I1 := I.laid (a := s.heap.objs.size) (o := .dT []) (h' := s.heap.push { cls := .type "dict", data := .dict #[] }) (t' := s.toks) (fun _ _ q => Heap.get?_push_of_some _ q) (Nat.le_refl _) (dt_empty s.heap I.big)
 refine wpAny_Dict_any hall hl h0 h15 (thn (h pins _ σ _ _ I1 (q _ hn)) fun ws s2 ⟨ps, H2, I2, rel, e, ks, ep, ht, lk, q2⟩ => ?_)
 subst ep
 have go : ∀ (ks : List (List Key × Addr × V)) (ws : List (Value × Value)), VV (ks.map fun x => (V.ref x.2.1, x.2.2)) ws -> Paired (fun (x : List Key × Addr × V) (v : Value × Value) => RelV (.ref x.2.1) v.1 ∧ RelV x.2.2 v.2) ks ws := by
  intro ks
  induction ks with
  | nil => intro ws r; cases r; exact .nil
  | cons x ks ih =>
   intro ws r
   rw [List.map_cons] at r
   cases r with
   | cons r t => exact .cons r (ih _ t)
 have rel' := go ks ws rel
 exact st_all hu rel' I2 e ht (by rw [sizeLine_eq]; show 0 + ks.length <= _; omega) fun s3 I3 => ⟨.ref s.heap.objs.size, _, I3, rfl, q2⟩
end
def kz (k : P2) : List Key := [Sum.inl k.1, Sum.inl k.2]
def dz (f : PD) : List (List Key × V) := f.map fun x => (kz x.1, V.int x.2)
theorem kz_inj {a b : P2} : kz a = kz b ↔ a = b := by
 constructor
 ·intro h
  unfold kz at h
  injection h with h1 h2
  injection h2 with h2 _
  exact Prod.ext (Sum.inl.inj h1) (Sum.inl.inj h2)
 ·intro h; rw [h]
theorem valV_dz (f : PD) (k : P2) : valV (dz f) (kz k) = (gtD f k).map V.int := by
 induction f with
 | nil => rfl
 | cons x f ih =>
  rw [gtD_cons]
  show valV ((kz x.1, V.int x.2) :: dz f) (kz k) = _
  by_cases h : x.1 = k
  ·rw [if_pos h, valV_pos (by rw [h])]; rfl
  ·rw [if_neg h, valV_neg (fun z => h (kz_inj.mp z)), ih]
theorem any_dz (f : PD) (k : P2) : ((dz f).any fun kv => decide (kv.1 = kz k)) = (gtD f k).isSome := by
 rw [valV_any, valV_dz, Option.isSome_map]
theorem putK_dz (f : PD) (k : P2) (v : Int) : putK (dz f) (kz k) (V.int v) = dz (ptD f k v) := by
 unfold putK ptD
 rw [any_dz, gtD_any]
 split
 ·unfold dz
  rw [List.map_map, List.map_map]
  apply List.map_congr_left
  intro x _
  show (if kz x.1 = kz k then (kz x.1, V.int v) else (kz x.1, V.int x.2)) = _
  by_cases h : x.1 = k
  ·rw [if_pos (kz_inj.mpr h)]
   simp [h]
  ·rw [if_neg (fun z => h (kz_inj.mp z))]
   simp [h]
 ·unfold dz; rw [List.map_append]; rfl
theorem len_dz (f : PD) : (dz f).length = f.length := List.length_map _
section
variable {X : Cx}
end
end L2
namespace L2
open PySem PySem.Spec PyProof.Rows
section
variable {X : Cx} {td ty tv tx to : TE} {σ : St} {H : Hp} {Q : VK} {D : Ends}
theorem a_dget : tDGet td ty σ H Q = td σ H fun x H1 => ty σ H1 fun y H2 => ∃ a v, x = .ref a ∧ DGet H2 a y (some v) ∧ Q v H2 := rfl
theorem a_dnot : tDNotIn ty td σ H Q = ty σ H fun y H1 => td σ H1 fun x H2 => ∃ a o, x = .ref a ∧ DGet H2 a y o ∧ Q (.bl (!o.isSome)) H2 := rfl
theorem a_dput : sDPut td ty tv D σ H = tv σ H fun v H1 => td σ H1 fun x H2 => ty σ H2 fun y H3 => ∃ a H4, x = .ref a ∧ DPut H3 a y v H4 ∧ D.nx σ H4 := rfl
theorem a_dget2 : tDGet2 td ty tx σ H Q = td σ H fun x H1 => ∃ a, x = .ref a ∧ IsD H1 a ∧ ty σ H1 fun y H2 => tx σ H2 fun z H3 => ∃ o, DGet H3 a y o ∧ Q (o.getD z) H3 := rfl
theorem a_dnew : tDNewT σ H Q = ∀ p, H p = none -> Q (.ref p) (upd H p (.dT [])) := rfl
theorem a_disp {trs : List (TE × TE)} : tDispT trs σ H Q = ∀ p, H p = none -> tPairs trs σ (upd H p (.dT [])) fun ps H2 => H2 p = some (.dT []) ∧ ∃ ks : List (List Key × Addr × V), ps = ks.map (fun x => (V.ref x.2.1, x.2.2)) ∧ (∀ x ∈ ks, H2 x.2.1 = some (.tup (x.1.map kV))) ∧ ks.length <= 15 ∧ Q (.ref p) (upd H2 p (.dT (putAs ks []))) := rfl
theorem a_pnil {R : List (V × V) -> Hp -> Prop} : tPairs [] σ H R = R [] H := rfl
theorem a_pcons {r : List (TE × TE)} {R : List (V × V) -> Hp -> Prop} : tPairs ((td, tv) :: r) σ H R = td σ H fun x H1 => tv σ H1 fun y H2 => tPairs r σ H2 fun ps H3 => R ((x, y) :: ps) H3 := rfl
theorem a_items {R : It -> Hp -> Prop} : iItems X td σ H R = td σ H fun x H1 => ∃ a kvs, x = .ref a ∧ Rd H1 a (.dT kvs) ∧ ∀ o, Thw X H1 a o kvs -> R (Itd a o kvs) (upd H1 a (.frz o (.dT kvs))) := rfl
end
theorem u_le {n k : Nat} (h : n + 64 < cLine) (hk : k <= 64) : n + k < cLine := by omega
theorem u_le0 {n : Nat} (h : n + 64 < cLine) : n < cLine := by omega
theorem bt_dict : bootBuiltins "dict" = some (.type "dict") := by decide +kernel
theorem lp_items {a : Addr} {o : Obj} {kvs : List (List Key × V)} {g : TG} {tb : TS} {D : Ends} {σ : St} {H : Hp} (Pv : Nat -> St -> Hp -> Prop) (h0 : Pv 0 σ H) (hz : ∀ i σ H, i <= kvs.length -> Pv i σ H -> H a = some (.frz o (.dT kvs)))
  (hs : ∀ i k x p b σ H, kvs[i]? = some (k, x) -> Pv i σ H -> H p = none -> H b = some (.tup (k.map kV)) -> g (.ref p) σ (upd H p (.tup [.ref b, x])) fun σ2 H2 => tb { D with nx := Pv (i + 1), ct := Pv (i + 1), bk := D.nx } σ2 H2)
  (hd : ∀ σ H, Pv kvs.length σ H -> D.nx σ H) : Loop (Itd a o kvs) g tb D σ H := by
 refine ⟨fun i m σ H => m = kvs.length - i ∧ i <= kvs.length ∧ Pv i σ H, ⟨_, rfl, Nat.zero_le _, h0⟩, ?_⟩
 rintro i m σ H ⟨rfl, hi, p⟩
 have fz := hz i σ H hi p
 by_cases hlt : i < kvs.length
 ·refine .inr ⟨⟨fz, hlt⟩, Pv (i + 1), fun σ' H' p' => ⟨kvs.length - (i + 1), by omega, rfl, hlt, p'⟩, fun x H' y => ?_⟩
  obtain ⟨q, b, k, v, hn, e1, hk, hb, e2⟩ := y
  subst e1 e2
  exact hs i k v q b σ H hk p hn hb
 ·have e : i = kvs.length := by omega
  subst e
  exact .inl ⟨⟨fz, Nat.le_refl _⟩, hd σ H p⟩
theorem cl_items {K : PySem.W.Frag} {a : Addr} {o : Obj} {kvs : List (List Key × V)} {fv : List (Nat × Str)} {tt : TT} {te : TE} {Q : VK} {σ : St} {H1 : Hp} {D : Addr} (W : Nat -> Hp -> Prop) (h0 : W 0 (upd H1 D (.lst []))) (hz : ∀ i H, i <= kvs.length -> W i H -> H a = some (.frz o (.dT kvs)))
  (hs : ∀ i k x p b H, kvs[i]? = some (k, x) -> W i H -> H p = none -> H b = some (.tup (k.map kV)) -> tt (bst2 fv σ (some (.ref b)) (some x)) (upd H p (.tup [.ref b, x])) fun c Hb => if c = true then te (bst2 fv σ (some (.ref b)) (some x)) Hb fun y H2 => ∃ ys, H2 D = some (.lst ys) ∧ ys.length < sizeLine ∧ W (i + 1) (upd H2 D (.lst (ys ++ [y]))) else W (i + 1) Hb)
  (hd : ∀ H, W kvs.length H -> Q (.ref D) H) : CLoop2If K (Itd a o kvs) fv tt te Q σ H1 D := by
 refine ⟨fun i m H => m = kvs.length - i ∧ i <= kvs.length ∧ W i H, ⟨_, rfl, Nat.zero_le _, h0⟩, ?_⟩
 rintro i m H ⟨rfl, hi, p⟩
 have fz := hz i H hi p
 by_cases hlt : i < kvs.length
 ·refine .inr ⟨⟨fz, hlt⟩, W (i + 1), fun H' p' => ⟨kvs.length - (i + 1), by omega, rfl, hlt, p'⟩, fun v H' y => ?_⟩
  obtain ⟨q, b, k, x, hn, e1, hk, hb, e2⟩ := y
  subst e1 e2
  exact ⟨q, .ref b, x, rfl, .inl (.inl upd_same), hs i k x q b H hk p hn hb⟩
 ·have e : i = kvs.length := by omega
  subst e
  exact .inl ⟨⟨fz, Nat.le_refl _⟩, hd H p⟩
end L2
namespace L2
open PySem PySem.Spec PyProof.Rows
section
variable {prog : Program} {w : World} {A : Around} {E : Value -> Shared -> Prop} {s : Shared} {d : Addr} {es : Array DictEntry} {ep : Nat}
theorem en_diter {Q : Value -> Shared -> Prop} (hd : (d == sysModules) = false) (hm : EnAt s.heap d es ep)
  (q : Q (.ref s.heap.objs.size) { s with heap := s.heap.push { cls := .type "dict_keyiterator", data := .fields #[.ref d, .int 0 0, .int es.size 0, .int ep 0] } }) : wpAny (model prog w) A (pyIter (.ref d)) Q E s := by
 obtain ⟨o, b1, b2, b3⟩ := id hm
 refine wpAny_pyIter_slot hm.ty F.slot_dict_iter (wpAny_call_entry F.slot_dict_iter hm.ty F.entry_dict_iter ?_ (F.args_dict_iter_1 _))
 unfold Builtin.«dict.__iter__» Builtin.Dict.dictSlotNone
 refine wpAny_bind (wpAny_bind (wpAny_notOrdered_dict hm.ty (wpAny_pure (wpAny_bind (wpAny_pure (wpAny_bind (en_shows hd (wpAny_bind (wpAny_dictEntries b1 b3 (wpAny_bind (wpAny_dictEpoch b1 b3 ?_)))))))))))
 refine wpAny_bind (wpAny_newObj_type (wpAny_pure ⟨_, rfl, "dict_keyiterator", _, ⟨_, Heap.get?_push_size _ rfl, rfl⟩, F.slot_dict_keyiterator_next.lookup, ?_⟩))
 simpa [rawInt] using q
end
def Itk (a : Addr) (o : Obj) (kvs : List (List Key × V)) : It :=
 ⟨fun i H => H a = some (.frz o (.dT kvs)) ∧ i < kvs.length, fun i H v H' => ∃ b k x, H' = H ∧ v = .ref b ∧ kvs[i]? = some (k, x) ∧ H b = some (.tup (k.map kV)), fun i H => H a = some (.frz o (.dT kvs)) ∧ kvs.length <= i⟩
theorem turn_keys {P : Program} {w : World} {K : PySem.W.Frag} {tg : Expr} {o : Obj} {kvs : List (List Key × V)} {es : Array DictEntry} {ep : Nat} (a it : Addr) (hod : o.data = .dict es ep) :
  Turn P w K tg (Itk a o kvs) [it] it (fun i h => h.IsKeyIter it a i es.size ep) where
 mem := by simp
 obj := fun i h st c hb => by
  obtain ⟨oi, i1, i2, i3⟩ := st
  rw [List.mem_singleton.mp hb]
  exact ⟨oi, i1, fun v z => by rw [i3] at z; cases z⟩
 keep := fun i h h' st k => st.at fun o e => k it (by simp) o e
 item := by
  intro X hP hw hK hc i pins s σ H E I hf st hg
  subst hP hw hK
  obtain ⟨hfz, hlt⟩ := hg
  obtain ⟨z, y, xs, es', ep', rel, h1, h2, h3, h4, h5⟩ := frz_ok I.hok hfz
  rw [hod] at h3
  cases h3
  obtain ⟨⟨k, x⟩, hk⟩ : ∃ p, kvs[i]? = some p := ⟨_, List.getElem?_eq_getElem hlt⟩
  obtain ⟨⟨k', b, u⟩, hq, e1, e2, e3⟩ := pget rel hk
  have he : es[i]? = some (entryOfKey (tupleKind (mixKind X.prog X.w)) (k', b, u)) := by rw [entry_at h4, hq]; rfl
  obtain ⟨f0, f1, f2, f3, f4, f5⟩ := hf it (by simp)
  refine en_knext st ⟨o, h1, h2, hod⟩ he fun g1 st1 sb => ?_
  have I1 : Inv X pins σ H { s with heap := g1 } := I.turned (t' := s.toks) (fun c ob hb e => (sb.2 c hb).trans e) f0 f1 f3 f4 f5
  obtain ⟨oi, i1, i2, i3⟩ := id st1
  exact ⟨_, rfl, go_of (s := { s with heap := g1 }) i1 i2 i3 (by decide) ⟨.ref b, H, I1, rfl, ⟨b, k, x, rfl, rfl, hk, e2⟩, st1, fun c hb => (hf c hb).1⟩⟩
 done := by
  intro X hP hw hK hc i pins s σ H E I hf st hg
  subst hP hw hK
  obtain ⟨hfz, hge⟩ := hg
  obtain ⟨z, y, xs, es', ep', rel, h1, h2, h3, h4, h5⟩ := frz_ok I.hok hfz
  rw [hod] at h3
  cases h3
  have hl := Paired.length rel
  have hsz := size_of_entries h4
  obtain ⟨f0, f1, f2, f3, f4, f5⟩ := hf it (by simp)
  exact en_kend (I.ok.hd hc) st ⟨o, h1, h2, hod⟩ (by omega) fun h' eb => ⟨rfl, I.turned (t' := s.toks) (fun b ob hb e => eb b ob hb e) f0 f1 f3 f4 f5⟩
 self := fun _ _ _ _ _ st h => wpAny_pyIter_keyiter st h
section
variable {X : Cx}
def iKeys (X : Cx) (td : TE) : TI := fun σ H R => td σ H fun x H1 => ∃ a kvs, x = .ref a ∧ Rd H1 a (.dT kvs) ∧ ∀ o, Thw X H1 a o kvs -> R (Itk a o kvs) (upd H1 a (.frz o (.dT kvs)))
theorem pi_dict {tg e : Expr} {td : TE} (ho : PE X e td) : PI X tg e (iKeys X td) := by
 intro pins s σ H R I h
 refine thn (ho pins s σ H _ I h) fun v s1 ⟨x, H1, I1, r1, a, kvs, ex, rd, q⟩ => ?_
 subst ex
 cases r1
 obtain ⟨o, es, ep, h1, h2, h3, hd, tw, I2⟩ := I1.freeze rd
 have en : EnAt s1.heap a es ep := ⟨o, h1, h2, h3⟩
 refine en_diter hd en ?_
 refine ⟨_, [_], _, _, upd H1 a (.frz o (.dT kvs)), rfl, I2.kept (t' := s1.toks) fun b ob q => Heap.get?_push_of_some _ q, turn_keys a _ h3, ⟨_, Heap.get?_push_size _ rfl, rfl, rfl⟩, fun b hb => ?_, q o tw⟩
 rw [List.mem_singleton.mp hb]
 exact I2.fpOk (Nat.le_refl _) (I2.hok.fresh (Nat.le_refl _))
theorem pi_keys {tg e : Expr} {apos cpos : Pos} {td : TE} (ho : PE X e td) (hbase : attributeBase e "keys" X.env (eval e X.env) = eval e X.env := by rfl) (hline : (apos.endLine == cpos.line) = true := by rfl) :
  PI X tg (.Call (.Attribute e "keys" apos) [] [] cpos) (iKeys X td) := by
 intro pins s σ H R I h
 refine wpAny_Call_method0_late hbase hline (thn (ho pins s σ H _ I h) fun v s1 ⟨x, H1, I1, r1, a, kvs, ex, rd, q⟩ => ?_)
 subst ex
 cases r1
 obtain ⟨o, es, ep, h1, h2, h3, hd, tw, I2⟩ := I1.freeze rd
 have en : EnAt s1.heap a es ep := ⟨o, h1, h2, h3⟩
 refine ⟨"dict", "dict.keys", PySem.F.plainAttrs_dict, PySem.F.slot_dict_keys, PySem.F.type_dict_keys, en.ty, fun b eb => ?_, Calls.callWith_builtin rfl (PySem.evalArgs_none (en_keys hd en ?_))⟩
 ·cases eb; exact ⟨o, h1, h2.2.1⟩
 have I3 : Inv X pins σ (upd H1 a (.frz o (.dT kvs))) { s1 with heap := s1.heap.push { cls := .type "dict_keys", data := .fields #[.ref a] } } := I2.kept (t' := s1.toks) fun b ob q => Heap.get?_push_of_some _ q
 refine en_kiter (v := s1.heap.objs.size) ⟨_, Heap.get?_push_size _ rfl, rfl, rfl⟩ (en.at fun ob q => Heap.get?_push_of_some _ q) ?_
 refine ⟨_, [_], _, _, upd H1 a (.frz o (.dT kvs)), rfl, I3.kept (t' := s1.toks) fun b ob q => Heap.get?_push_of_some _ q, turn_keys a _ h3, ⟨_, Heap.get?_push_size _ rfl, rfl, rfl⟩, fun b hb => ?_, q o tw⟩
 rw [List.mem_singleton.mp hb]
 exact I3.fpOk (Nat.le_refl _) (I3.hok.fresh (Nat.le_refl _))
end
theorem a_keys {X : Cx} {td : TE} {σ : St} {H : Hp} {R : It -> Hp -> Prop} : iKeys X td σ H R = td σ H fun x H1 => ∃ a kvs, x = .ref a ∧ Rd H1 a (.dT kvs) ∧ ∀ o, Thw X H1 a o kvs -> R (Itk a o kvs) (upd H1 a (.frz o (.dT kvs))) := rfl
theorem lp_keys {a : Addr} {o : Obj} {kvs : List (List Key × V)} {g : TG} {tb : TS} {D : Ends} {σ : St} {H : Hp} (Pv : Nat -> St -> Hp -> Prop) (h0 : Pv 0 σ H) (hz : ∀ i σ H, i <= kvs.length -> Pv i σ H -> H a = some (.frz o (.dT kvs)))
  (hs : ∀ i k x b σ H, kvs[i]? = some (k, x) -> Pv i σ H -> H b = some (.tup (k.map kV)) -> g (.ref b) σ H fun σ2 H2 => tb { D with nx := Pv (i + 1), ct := Pv (i + 1), bk := D.nx } σ2 H2)
  (hd : ∀ σ H, Pv kvs.length σ H -> D.nx σ H) : Loop (Itk a o kvs) g tb D σ H := by
 refine ⟨fun i m σ H => m = kvs.length - i ∧ i <= kvs.length ∧ Pv i σ H, ⟨_, rfl, Nat.zero_le _, h0⟩, ?_⟩
 rintro i m σ H ⟨rfl, hi, p⟩
 have fz := hz i σ H hi p
 by_cases hlt : i < kvs.length
 ·refine .inr ⟨⟨fz, hlt⟩, Pv (i + 1), fun σ' H' p' => ⟨kvs.length - (i + 1), by omega, rfl, hlt, p'⟩, fun x H' y => ?_⟩
  obtain ⟨b, k, v, e1, e2, hk, hb⟩ := y
  subst e1 e2
  exact hs i k v b σ _ hk p hb
 ·have e : i = kvs.length := by omega
  subst e
  exact .inl ⟨⟨fz, Nat.le_refl _⟩, hd σ H p⟩
end L2
namespace L2
open PySem PySem.Spec PyProof.Rows
section
variable {X : Cx} {k : Nat} {f C : Addr} {fd : FuncData} {ps : List Str} {sp : Sp} {m : Str} {pos apos : Pos} {o e : Expr} {es : List Expr} {ta : TE} {t : TA}
end
section
variable {K : PySem.W.Frag} {C : Addr} {m f : Str} {sp : Sp} {dvs : List V} {E : XK} {ta tv : TE} {t : TA} {σ : St} {H : Hp} {Q : VK} {D : Ends}
theorem a_fld : tFld K ta f σ H Q = ta σ H fun x H1 => ∃ a C dx fs v, x = .ref a ∧ H1 a = some (.ins C dx fs) ∧ Cls K C ∧ NoAttr K C f ∧ fs.lookup f = some v ∧ Q v H1 := rfl
theorem a_sfld : sFld K ta tv f D σ H = tv σ H fun y H1 => ta σ H1 fun x H2 => ∃ a C dx fs, x = .ref a ∧ H2 a = some (.ins C dx fs) ∧ Cls K C ∧ NoAttr K C f ∧ fs.length < 1000 ∧ D.nx σ (upd H2 a (.ins C dx (putF f y fs))) := rfl
theorem a_meth : tMeth C m sp dvs E ta t σ H Q = ta σ H fun x H1 => ∃ a dx fs, x = .ref a ∧ H1 a = some (.ins C dx fs) ∧ fs.lookup m = none ∧ t σ H1 fun vs H2 => sp (x :: (vs ++ dvs)) H2 Q E := rfl
theorem a_make : tMake C sp dvs E t σ H Q = t σ H fun vs H1 => ∀ x dx, H1 x = none -> H1 dx = none -> dx ≠ x -> sp (.ref x :: (vs ++ dvs)) (upd (upd H1 dx (.own x)) x (.ins C dx [])) (fun v H2 => v = .non ∧ Q (.ref x) H2) E := rfl
end
end L2
namespace L2
open PySem PySem.Spec PyProof.Rows
section
variable {prog : Program} {w : World} {A : Around} {E : Value -> Shared -> Prop} {s : Shared}
theorem nxT_item {it t : Addr} {i : Nat} {items : Array Value} {x : Value} {Q : Value -> Shared -> Prop} (hit : s.heap.IsTupleIter it t i) (ht : s.heap.IsTuple t items) (hx : items[i]? = some x)
  (hQ : ∀ h', h'.IsTupleIter it t (i + 1) -> Heap.SameBut it s.heap h' -> Q x { s with heap := h' }) : wpAny (model prog w) A (Builtin.SmallTypes.nextOf (.ref it)) Q E s := by
 have ⟨o, ho, hc, hd⟩ := hit
 have ⟨ol, hol, _, nl, hdl⟩ := ht
 refine wpAny_bind (wpAny_callSpecial?_slot (name := Str.ofString "__next__") hit.typeIs F.slot_tuple_iterator_next (wpAny_call_entry F.slot_tuple_iterator_next hit.typeIs F.entry_tuple_iterator_next ?_ (F.args_tuple_iterator_next_1 _)))
 refine wpAny_bind (m := field (.ref it) 0) (wpAny_field ho hd (x := .ref t) rfl ?_)
 refine wpAny_bind (m := field (.ref it) 1) (wpAny_field ho hd (x := .int i 0) rfl ?_)
 refine wpAny_bind (m := seqItems? (.ref t)) (wpAny_seqItems hol hdl ?_)
 simp only [Int.toNat_natCast, hx]
 refine wpAny_bind (wpAny_setField ho hd (by simp) (wpAny_pure ⟨x, rfl, wpAny_pure (hQ _ ⟨_, Heap.get?_update_self _ ho (Obj.isFreed_of_fields (Obj.data_mapFields hd _)), (Obj.cls_mapFields ..).trans hc, ?_⟩ (Heap.SameBut.update ..))⟩))
 rw [Obj.data_mapFields hd]; simp [rawInt]
theorem nxT_end {it t : Addr} {i : Nat} {items : Array Value} {Q : Value -> Shared -> Prop} (hh : A.handled = none) (hit : s.heap.IsTupleIter it t i) (ht : s.heap.IsTuple t items) (hx : items[i]? = none)
  (hE : ∀ h' e, Heap.ExtBut it s.heap h' -> (∃ o, h'.get? e = some o ∧ o.cls = .type "StopIteration") -> E (.ref e) { s with heap := h' }) : wpAny (model prog w) A (Builtin.SmallTypes.nextOf (.ref it)) Q E s := by
 have ⟨o, ho, hc, hd⟩ := hit
 have ⟨ol, hol, _, nl, hdl⟩ := ht
 refine wpAny_bind (wpAny_callSpecial?_slot (name := Str.ofString "__next__") hit.typeIs F.slot_tuple_iterator_next (wpAny_call_entry F.slot_tuple_iterator_next hit.typeIs F.entry_tuple_iterator_next ?_ (F.args_tuple_iterator_next_1 _)))
 refine wpAny_bind (m := field (.ref it) 0) (wpAny_field ho hd (x := .ref t) rfl ?_)
 refine wpAny_bind (m := field (.ref it) 1) (wpAny_field ho hd (x := .int i 0) rfl ?_)
 refine wpAny_bind (m := seqItems? (.ref t)) (wpAny_seqItems hol hdl ?_)
 simp only [Int.toNat_natCast, hx]
 refine wpAny_bind (wpAny_rule (wpAny_bind (wpAny_setField ho hd (by simp) (wpAny_bind (m := newExc (.type "StopIteration") []) ?_))))
 simp only [newExc, newTuple]
 refine wpAny_bind (wpAny_newObj_type (wpAny_bind (m := firstArgMember _ _) (wpAny_of_eq (a := Value.none) (by first | rfl | (simp only [firstArgMember]; rfl)) (wpAny_newObj_type ?_ (by size_fits)))) (by size_fits))
 simp only [raiseNew]
 refine wpAny_bind (wpAny_handled ?_)
 first | rw [show A.in1.handled = none from hh] | rw [hh]
 exact wpAny_bind (wpAny_pure (wpAny_throw (hE _ _ (((Heap.SameBut.update ..).extBut.push _).push _) ⟨_, Heap.get?_push_size _ rfl, rfl⟩)))
end
section
variable {prog : Program} {w : World} {A : Around} {E : Value -> Shared -> Prop} {s : Shared}
end
section
variable {X : Cx}
end
end L2
namespace L2
open PySem PySem.Spec PyProof.Rows
def CDivC (i j : Int) : Prop := j ≠ 0 ∧ i.natAbs < 2 ^ 4000 * j.natAbs
theorem near_no {x y : Int} (hy : y ≠ 0) (h : x.natAbs < 2 ^ 4000 * y.natAbs) : Builtin.divisionGoesByPylong x y = false := by
 have key : ¬ ((if (x == 0) = true then 0 else x.natAbs.log2 / 30 + 1) > (if (y == 0) = true then 0 else y.natAbs.log2 / 30 + 1) + 150) := by
  rw [if_neg (show ¬ ((y == 0) = true) by simpa using hy)]
  by_cases hx : x = 0
  ·rw [if_pos (show (x == 0) = true by simpa using hx)]; omega
  ·rw [if_neg (show ¬ ((x == 0) = true) by simpa using hx)]
   have hx' : x.natAbs ≠ 0 := by omega
   have h1 : y.natAbs < 2 ^ (y.natAbs.log2 + 1) := Nat.lt_log2_self
   have h2 : x.natAbs < 2 ^ (4000 + (y.natAbs.log2 + 1)) := by
    rw [Nat.pow_add]
    exact Nat.lt_trans h (Nat.mul_lt_mul_of_pos_left h1 (Nat.pow_pos (by decide)))
   have h3 := (Nat.log2_lt hx').mpr h2
   omega
 exact Bool.and_eq_false_iff.mpr (.inr (decide_eq_false key))
theorem op_fdivC {X : Cx} : OpR X (binaryOp .FloorDiv) (rI CDivC fun i j => .int (i.fdiv j)) := opI fun _ _ _ _ _ _ _ hc q => floordiv_int hc.1 q (.inl (near_no hc.1 hc.2))
theorem pe_either {X : Cx} {e : Expr} {t u : TE} (h1 : PE X e t) (h2 : PE X e u) : PE X e (fun σ H Q => t σ H Q ∨ u σ H Q) := fun pins s σ H Q I h => h.elim (h1 pins s σ H Q I) (h2 pins s σ H Q I)
end L2
namespace L2
open PySem PySem.Spec PyProof.Rows
abbrev IsTrip (h : Heap) (T : Addr) (a b c : Value) : Prop := h.get? T = some { cls := .type "tuple", data := .seq #[a, b, c] }
structure Zip3 (z TI TO i1 i2 i3 l1 l2 l3 : Addr) : Prop where
 TIz : TI ≠ z
 TOz : TO ≠ z
 i1z : i1 ≠ z
 i2z : i2 ≠ z
 i3z : i3 ≠ z
 TITO : TI ≠ TO
 TIi1 : TI ≠ i1
 TIi2 : TI ≠ i2
 TIi3 : TI ≠ i3
 TOi1 : TO ≠ i1
 TOi2 : TO ≠ i2
 TOi3 : TO ≠ i3
 i12 : i1 ≠ i2
 i13 : i1 ≠ i3
 i23 : i2 ≠ i3
 l1z : l1 ≠ z
 l2z : l2 ≠ z
 l3z : l3 ≠ z
 l2TO : l2 ≠ TO
 l3TO : l3 ≠ TO
 l2i1 : l2 ≠ i1
 l3i1 : l3 ≠ i1
 l3i2 : l3 ≠ i2
theorem zip3_new {n l1 l2 l3 : Addr} (h1 : l1 < n) (h2 : l2 < n) (h3 : l3 < n) : Zip3 (n + 5) (n + 3) (n + 4) n (n + 1) (n + 2) l1 l2 l3 := by
 constructor <;> (intro h; have h' : (_ : Nat) = (_ : Nat) := h; simp only [Addr] at *; omega)
section
variable {prog : Program} {w : World} {A : Around} {E : Value -> Shared -> Prop} {s : Shared}
theorem updateSeq_trip {T : Addr} {a b c x : Value} {k : Nat} {Q : Unit -> Shared -> Prop} (hT : IsTrip s.heap T a b c)
  (h : ∀ h', h'.get? T = some { cls := .type "tuple", data := .seq ((#[a, b, c] : Array Value).setIfInBounds k x) } -> Heap.SameBut T s.heap h' -> Q () { s with heap := h' }) :
  wpAny (model prog w) A (updateSeq T (·.setIfInBounds k x)) Q E s := by
 refine wpAny_updateSeq hT rfl (h _ ?_ (Heap.SameBut.update ..))
 rw [Heap.get?_update_self _ hT rfl]
 simp [Obj.mapSeq]
theorem zip3_item {z TI TO i1 i2 i3 l1 l2 l3 : Addr} {k : Nat} {xs ys zs : Array Value} {x y v a b c : Value} {Q : Value -> Shared -> Prop} (D : Zip3 z TI TO i1 i2 i3 l1 l2 l3)
  (hz : IsZip s.heap z TI TO .none) (hTI : IsTrip s.heap TI (.ref i1) (.ref i2) (.ref i3)) (hTO : IsTrip s.heap TO a b c) (h1 : s.heap.IsTupleIter i1 l1 k) (h2 : s.heap.IsTupleIter i2 l2 k) (h3 : s.heap.IsTupleIter i3 l3 k)
  (t1 : s.heap.IsTuple l1 xs) (t2 : s.heap.IsTuple l2 ys) (t3 : s.heap.IsTuple l3 zs) (hx : xs[k]? = some x) (hy : ys[k]? = some y) (hv : zs[k]? = some v)
  (hQ : ∀ h', IsZip h' z TI TO (rawInt s.heap.objs.size) -> IsTrip h' TO x y v -> h'.IsTupleIter i1 l1 (k + 1) -> h'.IsTupleIter i2 l2 (k + 1) -> h'.IsTupleIter i3 l3 (k + 1) -> IsTrip h' s.heap.objs.size x y v ->
   (∀ c o, c ∉ [z, TO, i1, i2, i3] -> s.heap.get? c = some o -> h'.get? c = some o) -> Q (.ref s.heap.objs.size) { s with heap := h' }) :
  wpAny (model prog w) A (Builtin.«zip.__next__» ⟨[.ref z], []⟩) (fun fin s' => ∃ v, fin = .done (.ret v) ∧ Q v s') E s := by
 refine wpAny_bind (m := field (.ref z) 2) (wpAny_field hz rfl (x := .bool false) rfl ?_)
 refine wpAny_bind (m := field (.ref z) 3) (wpAny_field hz rfl (x := .ref TI) rfl (wpAny_bind (wpAny_seqItems hTI rfl ?_)))
 refine wpAny_bind (m := Builtin.SmallTypes.ownedTupleIsFree (.ref z)) (wpAny_bind (m := field (.ref z) 0) (wpAny_field hz rfl (x := .none) rfl (wpAny_pure ?_)))
 simp only [if_true]
 refine wpAny_bind (wpAny_rule (wpAny_bind (wpAny_field hz rfl (x := .ref TO) rfl (wpAny_bind (wpAny_setField_rec hz (by simp) fun g₁ z₁ c₁ => wpAny_bind ?_)))))
 replace z₁ : IsZip g₁ z TI TO .ellipsis := z₁
 simp only [List.zipIdx_cons, List.zipIdx_nil, List.forIn_cons, List.forIn_nil]
 have b₁ := c₁.extBut
 refine wpAny_bind (wpAny_bind (wpAny_onRaise (wpAny_bind (m := Builtin.SmallTypes.nextOf (.ref i1)) (nxT_item (h1.extBut b₁ D.i1z) (t1.extBut b₁ D.l1z) hx fun g₂ j₂ c₂ => wpAny_pure ?_))))
 have b₂ := c₂.extBut
 have o₂ : IsTrip g₂ TO a b c := b₂ _ _ D.TOi1 (b₁ _ _ D.TOz hTO)
 refine wpAny_bind (wpAny_seqItems o₂ rfl (wpAny_bind (updateSeq_trip o₂ fun g₃ o₃ c₃ => wpAny_bind (wpAny_letGo (wpAny_pure ?_)))))
 replace o₃ : IsTrip g₃ TO x b c := o₃
 have b₃ := c₃.extBut
 have e2 : ∀ c o, c ≠ z -> c ≠ i1 -> c ≠ TO -> s.heap.get? c = some o -> g₃.get? c = some o := fun c o n1 n2 n3 e => b₃ _ _ n3 (b₂ _ _ n2 (b₁ _ _ n1 e))
 refine wpAny_bind (wpAny_bind (wpAny_onRaise (wpAny_bind (m := Builtin.SmallTypes.nextOf (.ref i2)) (nxT_item (s := { s with heap := g₃ }) (h2.at fun o e => e2 _ o D.i2z D.i12.symm D.TOi2.symm e) (t2.at fun o e => e2 _ o D.l2z D.l2i1 D.l2TO e) hy fun g₄ j₄ c₄ => wpAny_pure ?_))))
 have b₄ := c₄.extBut
 have o₄ : IsTrip g₄ TO x b c := b₄ _ _ D.TOi2 o₃
 refine wpAny_bind (wpAny_seqItems o₄ rfl (wpAny_bind (updateSeq_trip o₄ fun g₅ o₅ c₅ => wpAny_bind (wpAny_letGo (wpAny_pure ?_)))))
 replace o₅ : IsTrip g₅ TO x y c := o₅
 have b₅ := c₅.extBut
 have e3 : ∀ c o, c ≠ z -> c ≠ i1 -> c ≠ TO -> c ≠ i2 -> s.heap.get? c = some o -> g₅.get? c = some o := fun c o n1 n2 n3 n4 e => b₅ _ _ n3 (b₄ _ _ n4 (e2 c o n1 n2 n3 e))
 refine wpAny_bind (wpAny_bind (wpAny_onRaise (wpAny_bind (m := Builtin.SmallTypes.nextOf (.ref i3)) (nxT_item (s := { s with heap := g₅ }) (h3.at fun o e => e3 _ o D.i3z D.i13.symm D.TOi3.symm D.i23.symm e) (t3.at fun o e => e3 _ o D.l3z D.l3i1 D.l3TO D.l3i2 e) hv fun g₆ j₆ c₆ => wpAny_pure ?_))))
 have b₆ := c₆.extBut
 have o₆ : IsTrip g₆ TO x y c := b₆ _ _ D.TOi3 o₅
 refine wpAny_bind (wpAny_seqItems o₆ rfl (wpAny_bind (updateSeq_trip o₆ fun g₇ o₇ c₇ => wpAny_bind (wpAny_letGo (wpAny_pure (wpAny_pure (wpAny_bind ?_)))))))
 replace o₇ : IsTrip g₇ TO x y v := o₇
 have b₇ := c₇.extBut
 refine wpAny_seqItems o₇ rfl (wpAny_bind (wpAny_newTuple ?_))
 have sz : g₇.objs.size = s.heap.objs.size := by rw [c₇.1, c₆.1, c₅.1, c₄.1, c₃.1, c₂.1, c₁.1]
 have z₇ : IsZip g₇ z TI TO .ellipsis := b₇ _ _ D.TOz.symm (b₆ _ _ D.i3z.symm (b₅ _ _ D.TOz.symm (b₄ _ _ D.i2z.symm (b₃ _ _ D.TOz.symm (b₂ _ _ D.i1z.symm z₁)))))
 have j₁ : g₇.IsTupleIter i1 l1 (k + 1) := j₂.at fun o e => b₇ _ _ D.TOi1.symm (b₆ _ _ D.i13 (b₅ _ _ D.TOi1.symm (b₄ _ _ D.i12 (b₃ _ _ D.TOi1.symm e))))
 have j₅ : g₇.IsTupleIter i2 l2 (k + 1) := j₄.at fun o e => b₇ _ _ D.TOi2.symm (b₆ _ _ D.i23 (b₅ _ _ D.TOi2.symm e))
 have j₇ : g₇.IsTupleIter i3 l3 (k + 1) := j₆.at fun o e => b₇ _ _ D.TOi3.symm e
 have lz : z < g₇.objs.size := Heap.lt_size z₇
 refine wpAny_bind (m := Builtin.SmallTypes.ownedTupleHandOut (.ref z) (.ref g₇.objs.size)) (wpAny_bind (wpAny_setField_rec (Heap.get?_push_of_some _ z₇) (by simp) fun g₈ z₈ c₈ => ?_))
 replace z₈ : IsZip g₈ z TI TO (rawInt g₇.objs.size) := z₈
 refine wpAny_setField_rec z₈ (by simp) fun g₉ z₉ c₉ => ?_
 replace z₉ : IsZip g₉ z TI TO (rawInt g₇.objs.size) := z₉
 have up : ∀ c o, c ≠ z -> (g₇.push { cls := .type "tuple", data := .seq #[x, y, v] }).get? c = some o -> g₉.get? c = some o := fun c o n e => c₉.extBut _ _ n (c₈.extBut _ _ n e)
 have T₉ : IsTrip g₉ g₇.objs.size x y v := up _ _ (Nat.ne_of_gt lz) (Heap.get?_push_size _ rfl)
 have up7 : ∀ c o, c ≠ z -> g₇.get? c = some o -> g₉.get? c = some o := fun c o n e => up c o n (Heap.get?_push_of_some _ e)
 refine wpAny_pure ⟨_, rfl, ?_⟩
 show Q (.ref g₇.objs.size) _
 rw [sz] at z₉ T₉ ⊢
 refine hQ g₉ z₉ (up7 _ _ D.TOz o₇) (j₁.at fun o e => up7 _ o D.i1z e) (j₅.at fun o e => up7 _ o D.i2z e) (j₇.at fun o e => up7 _ o D.i3z e) T₉ fun c o hc e => ?_
 have n1 : c ≠ z := fun h => hc (by simp [h])
 have n2 : c ≠ TO := fun h => hc (by simp [h])
 have n3 : c ≠ i1 := fun h => hc (by simp [h])
 have n4 : c ≠ i2 := fun h => hc (by simp [h])
 have n5 : c ≠ i3 := fun h => hc (by simp [h])
 exact up7 c o n1 (b₇ _ _ n2 (b₆ _ _ n5 (e3 c o n1 n3 n2 n4 e)))
theorem zip3_end {z TI TO i1 i2 i3 l1 l2 l3 : Addr} {k : Nat} {xs : Array Value} {a b c : Value} {Q : Fin -> Shared -> Prop} (hh : A.handled = none) (D : Zip3 z TI TO i1 i2 i3 l1 l2 l3)
  (hz : IsZip s.heap z TI TO .none) (hTI : IsTrip s.heap TI (.ref i1) (.ref i2) (.ref i3)) (h1 : s.heap.IsTupleIter i1 l1 k) (t1 : s.heap.IsTuple l1 xs) (hx : xs[k]? = none)
  (hE : ∀ h' e, (∀ c o, c ∉ [z, TO, i1, i2, i3] -> s.heap.get? c = some o -> h'.get? c = some o) -> (∃ o, h'.get? e = some o ∧ o.cls = .type "StopIteration") -> E (.ref e) { s with heap := h' }) :
  wpAny (model prog w) A (Builtin.«zip.__next__» ⟨[.ref z], []⟩) Q E s := by
 refine wpAny_bind (m := field (.ref z) 2) (wpAny_field hz rfl (x := .bool false) rfl ?_)
 refine wpAny_bind (m := field (.ref z) 3) (wpAny_field hz rfl (x := .ref TI) rfl (wpAny_bind (wpAny_seqItems hTI rfl ?_)))
 refine wpAny_bind (m := Builtin.SmallTypes.ownedTupleIsFree (.ref z)) (wpAny_bind (m := field (.ref z) 0) (wpAny_field hz rfl (x := .none) rfl (wpAny_pure ?_)))
 simp only [if_true]
 refine wpAny_bind (wpAny_rule (wpAny_bind (wpAny_field hz rfl (x := .ref TO) rfl (wpAny_bind (wpAny_setField_rec hz (by simp) fun g₁ z₁ c₁ => wpAny_bind ?_)))))
 replace z₁ : IsZip g₁ z TI TO .ellipsis := z₁
 simp only [List.zipIdx_cons, List.zipIdx_nil, List.forIn_cons, List.forIn_nil]
 have b₁ := c₁.extBut
 have nz : ∀ {g : Heap} {e : Addr} {o : Obj}, IsZip g z TI TO .ellipsis -> g.get? e = some o -> o.cls = .type "StopIteration" -> e ≠ z := fun {g e o} q r c h => by
  subst h
  rw [q] at r; cases r; simp at c
 refine wpAny_bind (wpAny_bind (wpAny_onRaise (wpAny_bind (m := Builtin.SmallTypes.nextOf (.ref i1)) (nxT_end hh (h1.extBut b₁ D.i1z) (t1.extBut b₁ D.l1z) hx fun g₂ e b₂ ⟨oe, he, ce⟩ => ?_))))
 have z₂ : IsZip g₂ z TI TO .ellipsis := b₂ _ _ D.i1z.symm z₁
 refine wpAny_setField_rec z₂ (by simp) fun g₃ _ c₃ => hE g₃ e (fun c o hc q => ?_) ⟨oe, c₃.extBut _ _ (nz z₂ he ce) he, ce⟩
 exact c₃.extBut _ _ (fun h => hc (by simp [h])) (b₂ _ _ (fun h => hc (by simp [h])) (b₁ _ _ (fun h => hc (by simp [h])) q))
theorem pyNext_zip3 {z TI TO i1 i2 i3 l1 l2 l3 : Addr} {k : Nat} {xs ys zs : Array Value} {x y v a b c : Value} {Q : Option Value -> Shared -> Prop} (D : Zip3 z TI TO i1 i2 i3 l1 l2 l3)
  (hz : IsZip s.heap z TI TO .none) (hTI : IsTrip s.heap TI (.ref i1) (.ref i2) (.ref i3)) (hTO : IsTrip s.heap TO a b c) (h1 : s.heap.IsTupleIter i1 l1 k) (h2 : s.heap.IsTupleIter i2 l2 k) (h3 : s.heap.IsTupleIter i3 l3 k)
  (t1 : s.heap.IsTuple l1 xs) (t2 : s.heap.IsTuple l2 ys) (t3 : s.heap.IsTuple l3 zs) (hx : xs[k]? = some x) (hy : ys[k]? = some y) (hv : zs[k]? = some v)
  (hQ : ∀ h', IsZip h' z TI TO (rawInt s.heap.objs.size) -> IsTrip h' TO x y v -> h'.IsTupleIter i1 l1 (k + 1) -> h'.IsTupleIter i2 l2 (k + 1) -> h'.IsTupleIter i3 l3 (k + 1) -> IsTrip h' s.heap.objs.size x y v ->
   (∀ c o, c ∉ [z, TO, i1, i2, i3] -> s.heap.get? c = some o -> h'.get? c = some o) -> Q (some (.ref s.heap.objs.size)) { s with heap := h' }) : wpAny (model prog w) A (pyNext (.ref z)) Q E s := by
 have hT : s.TypeIs (.ref z) "zip" := ⟨_, hz, rfl⟩
 exact wpAny_bind (wpAny_attempt (wpAny_callSpecial?_slot (name := Str.ofString "__next__") hT F.slot_zip_next (wpAny_call_entry F.slot_zip_next hT F.entry_zip_next
  (zip3_item D hz hTI hTO h1 h2 h3 t1 t2 t3 hx hy hv fun h' a1 a2 a3 a4 a5 a6 a7 => wpAny_pure (hQ h' a1 a2 a3 a4 a5 a6 a7)) (F.args_zip_next_1 _))))
theorem pyNext_zip3End {z TI TO i1 i2 i3 l1 l2 l3 : Addr} {k : Nat} {xs : Array Value} {Q : Option Value -> Shared -> Prop} (hh : A.handled = none) (D : Zip3 z TI TO i1 i2 i3 l1 l2 l3)
  (hz : IsZip s.heap z TI TO .none) (hTI : IsTrip s.heap TI (.ref i1) (.ref i2) (.ref i3)) (h1 : s.heap.IsTupleIter i1 l1 k) (t1 : s.heap.IsTuple l1 xs) (hx : xs[k]? = none)
  (hQ : ∀ h', (∀ c o, c ∉ [z, TO, i1, i2, i3] -> s.heap.get? c = some o -> h'.get? c = some o) -> Q none { s with heap := h' }) : wpAny (model prog w) A (pyNext (.ref z)) Q E s := by
 have hT : s.TypeIs (.ref z) "zip" := ⟨_, hz, rfl⟩
 refine wpAny_bind (wpAny_attempt (wpAny_callSpecial?_slot (name := Str.ofString "__next__") hT F.slot_zip_next (wpAny_call_entry F.slot_zip_next hT F.entry_zip_next (zip3_end (a := .none) (b := .none) (c := .none) hh D hz hTI h1 t1 hx fun h' e hk ⟨o, ho, hc⟩ => ?_) (F.args_zip_next_1 _))))
 exact wpAny_bind (wpAny_isInstance (T := "StopIteration") (b := true) ⟨o, ho, hc⟩ isSubtype_stop (wpAny_pure (hQ _ hk)))
end
def zp3 (h : Heap) (a b c : Addr) : Heap :=
 (((((h.push { cls := .type "tuple_iterator", data := .fields #[.ref a, .int 0 0] }).push { cls := .type "tuple_iterator", data := .fields #[.ref b, .int 0 0] }).push { cls := .type "tuple_iterator", data := .fields #[.ref c, .int 0 0] }).push
  { cls := .type "tuple", data := .seq #[.ref h.objs.size, .ref (h.push { cls := .type "tuple_iterator", data := .fields #[.ref a, .int 0 0] }).objs.size, .ref ((h.push { cls := .type "tuple_iterator", data := .fields #[.ref a, .int 0 0] }).push { cls := .type "tuple_iterator", data := .fields #[.ref b, .int 0 0] }).objs.size] }).push { cls := .type "tuple", data := .seq #[.none, .none, .none] }).push
  { cls := .type "zip", data := .fields #[.none, .bool false, .bool false, .ref (((h.push { cls := .type "tuple_iterator", data := .fields #[.ref a, .int 0 0] }).push { cls := .type "tuple_iterator", data := .fields #[.ref b, .int 0 0] }).push { cls := .type "tuple_iterator", data := .fields #[.ref c, .int 0 0] }).objs.size,
   .ref ((((h.push { cls := .type "tuple_iterator", data := .fields #[.ref a, .int 0 0] }).push { cls := .type "tuple_iterator", data := .fields #[.ref b, .int 0 0] }).push { cls := .type "tuple_iterator", data := .fields #[.ref c, .int 0 0] }).push { cls := .type "tuple", data := .seq #[.ref h.objs.size, .ref (h.push { cls := .type "tuple_iterator", data := .fields #[.ref a, .int 0 0] }).objs.size, .ref ((h.push { cls := .type "tuple_iterator", data := .fields #[.ref a, .int 0 0] }).push { cls := .type "tuple_iterator", data := .fields #[.ref b, .int 0 0] }).objs.size] }).objs.size] }
theorem zp3_size (h : Heap) (a b c : Addr) : (zp3 h a b c).objs.size = h.objs.size + 6 := by unfold zp3; rw [Heap.size_push, Heap.size_push, Heap.size_push, Heap.size_push, Heap.size_push, Heap.size_push]
theorem meets3 (l1 l2 l3 : Addr) (xs ys zs : Array Value) : Meets (Builtin.«zip.__new__» ⟨[.type "zip", .ref l1, .ref l2, .ref l3], []⟩) (fun _ R s => s.heap.IsTuple l1 xs ∧ s.heap.IsTuple l2 ys ∧ s.heap.IsTuple l3 zs ∧ R (.ok (.ret (.ref (s.heap.objs.size + 5)))) { s with heap := zp3 s.heap l1 l2 l3 }) :=
 .of_wp fun prog w A R s h => by
  obtain ⟨hp, g, d, tk, os⟩ := s
  obtain ⟨q1, q2, q3, h⟩ := h
  have hsub := sub_zip
  have k1 : Heap.IsTuple (Shared.heap ⟨hp, g, d, tk, os⟩) l1 xs := q1
  have k2 : Heap.IsTuple (Shared.heap ⟨hp.push { cls := .type "tuple_iterator", data := .fields #[.ref l1, .int 0 0] }, g, d, tk, os⟩) l2 ys := Heap.IsTuple.push q2 _
  have k3 : Heap.IsTuple (Shared.heap ⟨(hp.push { cls := .type "tuple_iterator", data := .fields #[.ref l1, .int 0 0] }).push { cls := .type "tuple_iterator", data := .fields #[.ref l2, .int 0 0] }, g, d, tk, os⟩) l3 zs := Heap.IsTuple.push (Heap.IsTuple.push q3 _) _
  wp_walk using wpAny_pyIter_tuple k1, wpAny_pyIter_tuple k2, wpAny_pyIter_tuple k3
  refine ⟨_, rfl, ?_⟩
  have e : (zp3 hp l1 l2 l3).objs.size = hp.objs.size + 6 := zp3_size hp l1 l2 l3
  unfold zp3 at e h
  rw [Heap.size_push] at e
  have e4 := Nat.succ.inj e
  rw [← e4] at h
  exact h
theorem tc_zip_3 (a b c : Value) : checkTypeCall "zip" ⟨[a, b, c], []⟩ = pure () := by kernel_rfl
theorem nc_zip_3 (a b c : Value) : checkBuiltinCall "zip.__new__" ⟨[.type "zip", a, b, c], []⟩ = pure () := by kernel_rfl
theorem ao_init_4 (a b c d : Value) : argsOk "object.__init__" ⟨[a, b, c, d], []⟩ := by
 unfold argsOk; rw [signature?_of (id := "object.__init__") (n := ['_', '_', 't', 'i', 'n', 'i', '_', '_']) (o := ['t', 'c', 'e', 'j', 'b', 'o']) (by kernel_rfl) F.owner_object]; kernel_rfl
section
variable {prog : Program} {w : World} {A : Around} {E : Value -> Shared -> Prop} {s : Shared}
theorem call_zip3 {l1 l2 l3 : Addr} {xs ys zs : Array Value} {Q : Value -> Shared -> Prop} (q1 : s.heap.IsTuple l1 xs) (q2 : s.heap.IsTuple l2 ys) (q3 : s.heap.IsTuple l3 zs)
  (h : ∀ h', IsZip h' (s.heap.objs.size + 5) (s.heap.objs.size + 3) (s.heap.objs.size + 4) .none -> IsTrip h' (s.heap.objs.size + 3) (.ref s.heap.objs.size) (.ref (s.heap.objs.size + 1)) (.ref (s.heap.objs.size + 2)) ->
   IsTrip h' (s.heap.objs.size + 4) .none .none .none -> h'.IsTupleIter s.heap.objs.size l1 0 -> h'.IsTupleIter (s.heap.objs.size + 1) l2 0 -> h'.IsTupleIter (s.heap.objs.size + 2) l3 0 -> (∀ c o, s.heap.get? c = some o -> h'.get? c = some o) -> Q (.ref (s.heap.objs.size + 5)) { s with heap := h' }) :
  wpAny (model prog w) A (call (.type "zip") [.ref l1, .ref l2, .ref l3]) Q E s := by
 refine callType_new F.called_zip (by decide) (tc_zip_3 _ _ _) (nc_zip_3 _ _ _) (fun obj => ao_init_4 obj _ _ _) F.entry_zip_new (meets3 l1 l2 l3 xs ys zs) ⟨q1, q2, q3, ?_⟩
 obtain ⟨H1, e1⟩ : ∃ H1, H1 = s.heap.push { cls := .type "tuple_iterator", data := .fields #[.ref l1, .int 0 0] } := ⟨_, rfl⟩
 obtain ⟨H2, e2⟩ : ∃ H2, H2 = H1.push { cls := .type "tuple_iterator", data := .fields #[.ref l2, .int 0 0] } := ⟨_, rfl⟩
 obtain ⟨H2', e2'⟩ : ∃ H2', H2' = H2.push { cls := .type "tuple_iterator", data := .fields #[.ref l3, .int 0 0] } := ⟨_, rfl⟩
 obtain ⟨H3, e3⟩ : ∃ H3, H3 = H2'.push { cls := .type "tuple", data := .seq #[.ref s.heap.objs.size, .ref H1.objs.size, .ref H2.objs.size] } := ⟨_, rfl⟩
 obtain ⟨H4, e4⟩ : ∃ H4, H4 = H3.push { cls := .type "tuple", data := .seq #[.none, .none, .none] } := ⟨_, rfl⟩
 have e5 : zp3 s.heap l1 l2 l3 = H4.push { cls := .type "zip", data := .fields #[.none, .bool false, .bool false, .ref H2'.objs.size, .ref H3.objs.size] } := by subst e4 e3 e2' e2 e1; rfl
 have z1 : H1.objs.size = s.heap.objs.size + 1 := by rw [e1, Heap.size_push]
 have z2 : H2.objs.size = s.heap.objs.size + 2 := by rw [e2, Heap.size_push, z1]
 have z2' : H2'.objs.size = s.heap.objs.size + 3 := by rw [e2', Heap.size_push, z2]
 have z3 : H3.objs.size = s.heap.objs.size + 4 := by rw [e3, Heap.size_push, z2']
 have z4 : H4.objs.size = s.heap.objs.size + 5 := by rw [e4, Heap.size_push, z3]
 have g1 : H1.get? s.heap.objs.size = some { cls := .type "tuple_iterator", data := .fields #[.ref l1, .int 0 0] } := by rw [e1]; exact Heap.get?_push_size _ rfl
 have g2 : H2.get? H1.objs.size = some { cls := .type "tuple_iterator", data := .fields #[.ref l2, .int 0 0] } := by rw [e2]; exact Heap.get?_push_size _ rfl
 have g2' : H2'.get? H2.objs.size = some { cls := .type "tuple_iterator", data := .fields #[.ref l3, .int 0 0] } := by rw [e2']; exact Heap.get?_push_size _ rfl
 have g3 : H3.get? H2'.objs.size = some { cls := .type "tuple", data := .seq #[.ref s.heap.objs.size, .ref H1.objs.size, .ref H2.objs.size] } := by rw [e3]; exact Heap.get?_push_size _ rfl
 have g4 : H4.get? H3.objs.size = some { cls := .type "tuple", data := .seq #[.none, .none, .none] } := by rw [e4]; exact Heap.get?_push_size _ rfl
 have u2 : ∀ c o, H1.get? c = some o -> H2.get? c = some o := fun c o e => by rw [e2]; exact Heap.get?_push_of_some _ e
 have u2' : ∀ c o, H2.get? c = some o -> H2'.get? c = some o := fun c o e => by rw [e2']; exact Heap.get?_push_of_some _ e
 have u3 : ∀ c o, H2'.get? c = some o -> H3.get? c = some o := fun c o e => by rw [e3]; exact Heap.get?_push_of_some _ e
 have u4 : ∀ c o, H3.get? c = some o -> H4.get? c = some o := fun c o e => by rw [e4]; exact Heap.get?_push_of_some _ e
 have u5 : ∀ c o, H4.get? c = some o -> (zp3 s.heap l1 l2 l3).get? c = some o := fun c o e => by rw [e5]; exact Heap.get?_push_of_some _ e
 have g5 : (zp3 s.heap l1 l2 l3).get? H4.objs.size = some { cls := .type "zip", data := .fields #[.none, .bool false, .bool false, .ref H2'.objs.size, .ref H3.objs.size] } := by rw [e5]; exact Heap.get?_push_size _ rfl
 have f1 := u5 _ _ (u4 _ _ (u3 _ _ (u2' _ _ (u2 _ _ g1))))
 have f2 := u5 _ _ (u4 _ _ (u3 _ _ (u2' _ _ g2)))
 have f2' := u5 _ _ (u4 _ _ (u3 _ _ g2'))
 have f3 := u5 _ _ (u4 _ _ g3)
 have f4 := u5 _ _ g4
 rw [z4, z2', z3] at g5
 rw [z1] at f2
 rw [z2] at f2'
 rw [z2', z1, z2] at f3
 rw [z3] at f4
 exact ⟨⟨_, g5, rfl⟩, h _ g5 f3 f4 ⟨_, f1, rfl, rfl⟩ ⟨_, f2, rfl, rfl⟩ ⟨_, f2', rfl, rfl⟩ fun c o x => u5 _ _ (u4 _ _ (u3 _ _ (u2' _ _ (u2 _ _ (by rw [e1]; exact Heap.get?_push_of_some _ x)))))⟩
end
@[reducible] def blk3 (X : Cx) (x z z3 : Str) (fv : List (Nat × Str)) (scope : Scope) (cl : List (Str × Addr)) (C : Addr) (s : Shared) (H : Hp) (fp : List Addr) : Cx where
 prog := X.prog
 w := X.w
 K := X.K
 mg := X.mg
 base := X.base
 A := X.A
 N := x :: z :: z3 :: fv.map (·.2)
 s₀ := s
 H₀ := H
 env := compEnvC scope cl C X.env
 outer := X.stack
 stack := X.stack
 ex := fp
 fn := fun _ => false
 calm := X.calm
 pn := []
 xe := fun _ _ => False
def bst3 (fv : List (Nat × Str)) (σ : St) (v v2 v3 : Option V) : St := v :: v2 :: v3 :: fv.map fun p => (σ[p.1]?).getD none
structure BlkOk3 (X : Cx) (x z z3 : Str) (fv : List (Nat × Str)) (scope : Scope) (cl : List (Str × Addr)) : Prop where
 clos : closureFor scope X.env = pure cl
 nocell : ∀ y ∈ scope.names, y.2 ≠ .cell
 kind : scope.kind = .function
 names : ∀ y ∈ scope.names, y.2 = .local -> scope.names.lookup y.1 = some .local
 here : scope.names.lookup x = some .local
 here2 : scope.names.lookup z = some .local
 here3 : scope.names.lookup z3 = some .local
 nd : (x :: z :: z3 :: fv.map (·.2)).Nodup
 sub : ∀ y c, cl.lookup y = some c -> X.env.cells.lookup y = some c
 has : ∀ y, ((relabel scope X.env).names.lookup y = some .cell ∨ (relabel scope X.env).names.lookup y = some .free) -> ∃ c, cl.lookup y = some c
 fvs : ∀ p ∈ fv, X.N[p.1]? = some p.2 ∧ (X.env.scope.names.lookup p.2 = some .cell ∨ X.env.scope.names.lookup p.2 = some .free) ∧
  ((relabel scope X.env).names.lookup p.2 = some .cell ∨ (relabel scope X.env).names.lookup p.2 = some .free) ∧ ∃ c, cl.lookup p.2 = some c
section
variable {X : Cx} {elt iter : Expr} {x z z3 : Str} {px pz p3 : Pos} {tk : Nat} {tpos : Pos} {fv : List (Nat × Str)} {scope : Scope} {cl : List (Str × Addr)} {pos : Pos} {te : TE} {wi : TI}
theorem blk_ok3 {pins : List (Addr × Obj)} {σ : St} {H : Hp} {s : Shared} {fp : List Addr} {C : Addr} (B : BlkOk3 X x z z3 fv scope cl) (I : Inv X pins σ H s) (hf : ∀ b ∈ fp, FpOk X pins H b) (hC : s.heap.objs.size <= C) (hfC : ∀ b ∈ fp, b ≠ C) :
  (blk3 X x z z3 fv scope cl C s H fp).Ok where
 mod := I.ok.mod
 kind := B.kind
 glob := I.ok.glob
 blt := I.ok.blt
 above := hC
 inj := fun y y' c h1 h2 => I.ok.inj y y' c (B.sub y c h1) (B.sub y' c h2)
 has := fun y hy => B.has y hy
 cab := fun y c h => nomatch h
 hd := I.ok.hd
 frames := I.ok.frames
 stk := .inl rfl
 exf := fun b hb => ⟨hfC b hb, fun y c e => (hf b hb).2.2.2.2.1 y c (B.sub y c e)⟩
 bs := I.bs
 bsz := Nat.le_trans I.ok.bsz I.sz
 noex := fun b o e hb => by
  obtain ⟨_, _, _, f3, _⟩ := hf b hb
  rcases f3 with z' | z'
  ·exact I.ok.noex b o e z'
  ·exact absurd (Nat.lt_of_lt_of_le (Heap.lt_size e) (Nat.le_trans I.ok.bsz z')) (Nat.lt_irrefl _)
 exfs := fun b hb hs => by
  obtain ⟨_, f1, f2, _⟩ := hf b hb
  rcases List.mem_cons.mp (I.stkSub b hs) with z | z
  ·exact f1 z
  ·exact f2 z
 funs := I.stack
 frf := I.stkFree
theorem bst_get3 {fv : List (Nat × Str)} {σ : St} {o o2 o3 : Option V} {j : Nat} {y : Str} {v : V} (h1 : (x :: z :: z3 :: fv.map (·.2))[j + 3]? = some y) (h2 : (bst3 fv σ o o2 o3)[j + 3]? = some (some v)) : ∃ p ∈ fv, p.2 = y ∧ σ[p.1]? = some (some v) := by
 have e1 : (fv.map (·.2))[j]? = some y := by simpa using h1
 have e2 : (fv.map fun p => (σ[p.1]?).getD none)[j]? = some (some v) := by simpa [bst3] using h2
 rw [List.getElem?_map] at e1 e2
 cases q : fv[j]? with
 | none => rw [q] at e1; cases e1
 | some p =>
  rw [q] at e1 e2
  refine ⟨p, List.mem_of_getElem? q, Option.some.inj e1, ?_⟩
  have e3 : (σ[p.1]?).getD none = some v := Option.some.inj e2
  cases r : σ[p.1]? with
  | none => rw [r] at e3; cases e3
  | some w => rw [r] at e3; exact congrArg some e3
theorem blk_start3 {pins : List (Addr × Obj)} {σ : St} {H : Hp} {s s4 : Shared} {fp : List Addr} {C : Addr} {m : Str -> Option Value} (B : BlkOk3 X x z z3 fv scope cl) (I : Inv X pins σ H s) (hf : ∀ b ∈ fp, FpOk X pins H b) (hC : C = s.heap.objs.size)
  (hfC : ∀ b ∈ fp, b ≠ C) (os : s4.os = s.os) (gens : s4.gens = s.gens) (keep : ∀ b o, s.heap.get? b = some o -> s4.heap.get? b = some o) (ns : s4.heap.Ns C m) :
  Inv (blk3 X x z z3 fv scope cl C s H fp) [] (bst3 fv σ none none none) H s4 := by
 subst hC
 refine ⟨blk_ok3 B I hf (Nat.le_refl _) hfC, os, by rw [gens]; exact I.bare, Un.kept keep, ⟨m, ns, fun i y v h1 h2 h3 => ?_⟩, fun y c e => ?_, I.hok.fresh (Nat.le_refl _), fun y c e => I.freeC y c (B.sub y c e), fun p hp => absurd (show p ∈ ([] : List (Addr × Obj)) from hp) (by simp), I.hok.kept keep, by simp [bst3]⟩
 ·cases i with
  | zero => simp [bst3] at h2
  | succ j =>
   cases j with
   | zero => simp [bst3] at h2
   | succ j =>
   cases j with
   | zero => simp [bst3] at h2
   | succ j =>
   obtain ⟨p, hp, rfl, hv⟩ := bst_get3 h1 h2
   obtain ⟨hN, hk, hk2, c, hc⟩ := B.fvs p hp
   obtain ⟨m0, _, hl⟩ := I.loc
   have vis : Vis X.env.scope p.2 := hk.elim (fun z => .inr (.inl z)) fun z => .inr (.inr z)
   obtain ⟨u, r, l⟩ := hl p.1 p.2 v hN hv vis
   refine ⟨u, r, .inr ⟨hk2, c, hc, ?_⟩⟩
   rcases l with ⟨z, _⟩ | ⟨_, c', hc', o, ho, hd⟩
   ·have z' : X.env.scope.names.lookup p.2 = some .local := z
    rcases hk with k | k <;> (rw [k] at z'; cases z')
   ·have := B.sub p.2 c hc
    rw [hc'] at this; cases this
    exact ⟨o, keep _ o ho, hd⟩
 ·obtain ⟨v, o, ho, hd⟩ := I.cell y c (B.sub y c e)
  exact ⟨v, o, keep c o ho, hd⟩
theorem blk_store3 {s : Shared} {H0 : Hp} {fp : List Addr} {C : Addr} (hc : X.calm = true) (B : BlkOk3 X x z z3 fv scope cl) :
  PG (blk3 X x z z3 fv scope cl C s H0 fp) (.Tuple [.Name x px, .Name z pz, .Name z3 p3] tk tpos) (gTup X.K 3 (gCons (gName 0) (gCons (gName 1) (gCons (gName 2) gNil)))) := by
 have h1 : (relabel scope X.env).names.lookup x = some .local := lookup_relabel_local B.here
 have h2 : (relabel scope X.env).names.lookup z = some .local := lookup_relabel_local B.here2
 have h3 : (relabel scope X.env).names.lookup z3 = some .local := lookup_relabel_local B.here3
 exact pg_tup (X := blk3 X x z z3 fv scope cl C s H0 fp) hc (pgs_cons (pg_name (i := 0) B.nd rfl (.inl h1) (.inr h1)) (pgs_cons (pg_name (i := 1) B.nd rfl (.inl h2) (.inr h2)) (pgs_cons (pg_name (i := 2) B.nd rfl (.inl h3) (.inr h3)) pgs_nil)))
theorem blk_run3 {pins : List (Addr × Obj)} {σ : St} {H : Hp} {s2 : Shared} {it : Addr} {fp : List Addr} {tn : Nat -> Heap -> Prop} {J : It} {Q : VK} {E : Value -> Shared -> Prop} {RR : Value -> Addr -> Result -> Shared -> Prop}
  (hc : X.calm = true) (B : BlkOk3 X x z z3 fv scope cl) (he : ∀ C s H fp, PE (blk3 X x z z3 fv scope cl C s H fp) elt te) (I : Inv X pins σ H s2) (T : Turn X.prog X.w X.K (.Tuple [.Name x px, .Name z pz, .Name z3 p3] tk tpos) J fp it tn) (st : tn 0 s2.heap) (hf : ∀ b ∈ fp, FpOk X pins H b)
  (rd : ∀ D, H D = none -> ∃ W : Nat -> Nat -> Hp -> Prop, (∃ m, W 0 m (upd H D (.lst []))) ∧ ∀ i m H, W i m H ->
   (J.stop i H ∧ Q (.ref D) H) ∨ (J.go i H ∧ ∃ N : Hp -> Prop, (∀ H', N H' -> ∃ m', m' < m ∧ W (i + 1) m' H') ∧ ∀ v H', J.yld i H v H' -> ∃ q x1 x2 x3, v = .ref q ∧ SqT X.K H' q [x1, x2, x3] ∧ te (bst3 fv σ (some x1) (some x2) (some x3)) H' fun y H2 => ∃ ys, H2 D = some (.lst ys) ∧ ys.length < sizeLine ∧ N (upd H2 D (.lst (ys ++ [y])))))
  (hRR : ∀ D C s' H' m', Inv X pins σ H' s' -> FpOk X pins H' C -> s'.heap.Ns C m' -> Q (.ref D) H' -> RR (.ref D) C (.ok .next) s') :
  wpAny (model X.prog X.w) X.A (newList []) (fun acc s₃ => wpAny (model X.prog X.w) X.A (newFunctionEnv scope X.env.globals cl [] X.env.qual none .none (some X.env)) (fun cenv s₄ =>
   codeAny (model X.prog X.w) X.A (.compStart (.ListComp elt [⟨(.Tuple [.Name x px, .Name z pz, .Name z3 p3] tk tpos), iter, [], 0⟩] scope pos) 0 (.ref it) acc { cenv with scope := relabel scope X.env }) (RR acc cenv.locals) s₄) E s₃) E s2 := by
 refine wpAny_newObj_type ?_ (by show 0 <= sizeLine; exact Nat.zero_le _)
 have hD : H s2.heap.objs.size = none := I.hok.fresh (Nat.le_refl _)
 have I3 := I.lnew (ys := []) (its := []) (t' := s2.toks) .nil (Nat.zero_le _)
 generalize hs3 : ({ s2 with heap := s2.heap.push { cls := .type "list", data := .seq ([] : List Value).toArray }, toks := s2.toks } : Shared) = s3 at I3
 have sz3 : s3.heap.objs.size = s2.heap.objs.size + 1 := by rw [← hs3]; exact Heap.size_push ..
 have up3 : ∀ b o, s2.heap.get? b = some o -> s3.heap.get? b = some o := fun b o e => by rw [← hs3]; exact Heap.get?_push_of_some _ e
 have hf3 : ∀ b ∈ fp, FpOk X pins (upd H s2.heap.objs.size (.lst [])) b := fun b hb => by
  obtain ⟨f0, r⟩ := hf b hb
  refine ⟨?_, r⟩
  obtain ⟨o, e, _⟩ := T.obj 0 _ st b hb
  rw [upd_ne (Nat.ne_of_lt (Heap.lt_size e))]; exact f0
 have ltf : ∀ b ∈ fp, b < s2.heap.objs.size := fun b hb => by
  obtain ⟨o, e, _⟩ := T.obj 0 _ st b hb
  exact Heap.lt_size e
 have st3 : tn 0 s3.heap := T.keep 0 _ _ st fun b _ o e => up3 b o e
 obtain ⟨W, ⟨m0, w0⟩, turn⟩ := rd _ hD
 refine wpAny_newFunctionEnv B.nocell (by intro y hy; simp at hy) (fun h₁ hns₁ hsb₁ => ?_) B.kind
 have hfC : ∀ b ∈ fp, b ≠ s3.heap.objs.size := fun b hb => Nat.ne_of_lt (by rw [sz3]; exact Nat.lt_succ_of_lt (ltf b hb))
 have up4 : ∀ b o, s3.heap.get? b = some o -> h₁.get? b = some o := fun b o e => hsb₁.extBut b o (Nat.ne_of_lt (Heap.lt_size e)) (Heap.get?_push_of_some _ e)
 generalize hs4 : ({ s3 with heap := h₁, toks := s3.toks + ([] : List (Str × Value)).length } : Shared) = s4
 have h4 : s4.heap = h₁ := by rw [← hs4]
 have I4 : Inv (blk3 X x z z3 fv scope cl s3.heap.objs.size s3 (upd H s2.heap.objs.size (.lst [])) fp) [] (bst3 fv σ none none none) (upd H s2.heap.objs.size (.lst [])) s4 :=
  blk_start3 B I3 hf3 rfl hfC (by rw [← hs4]) (by rw [← hs4]) (fun b o e => by rw [h4]; exact up4 b o e) (by rw [h4]; exact hns₁)
 have st4 : tn 0 s4.heap := by rw [h4]; exact T.keep 0 _ _ st3 fun b _ o e => up4 b o e
 have stat : ∀ {H' : Hp}, (∀ b ∈ fp, H' b = none) -> ∀ b ∈ fp, FpOk (blk3 X x z z3 fv scope cl s3.heap.objs.size s3 (upd H s2.heap.objs.size (.lst [])) fp) [] H' b := fun {H'} hn b hb => by
  obtain ⟨_, f1, f2, f3, f4, f5⟩ := hf b hb
  refine ⟨hn b hb, hfC b hb, fun z' => ?_, .inl hb, fun y c e => f4 y c (B.sub y c e), fun p hp => absurd (show p ∈ ([] : List (Addr × Obj)) from hp) (by simp)⟩
  rcases List.mem_cons.mp (I.stkSub b z') with q | q
  ·exact f1 q
  ·exact f2 q
 have loop : codeAny (model X.prog X.w) X.A (.compLoop (.ListComp elt [⟨(.Tuple [.Name x px, .Name z pz, .Name z3 p3] tk tpos), iter, [], 0⟩] scope pos) 0 (.ref it) (.ref s2.heap.objs.size) (compEnvC scope cl s3.heap.objs.size X.env)) (RR (.ref s2.heap.objs.size) s3.heap.objs.size) s4 := by
  refine compLoop_one (fun n s' => ∃ i H' o o2 o3, Inv (blk3 X x z z3 fv scope cl s3.heap.objs.size s3 (upd H s2.heap.objs.size (.lst [])) fp) [] (bst3 fv σ o o2 o3) H' s' ∧ tn i s'.heap ∧ (∀ b ∈ fp, H' b = none) ∧ W i n H') ?_ m0
   ⟨0, _, none, none, none, I4, st4, fun b hb => (hf3 b hb).1, w0⟩
  rintro n s5 E' ⟨i, H5, o5, o6, o7, I5, st5, fr5, w5⟩
  rcases turn i n H5 w5 with ⟨stop, q⟩ | ⟨go, N, hN, step⟩
  ·refine thn (T.done (blk3 X x z z3 fv scope cl s3.heap.objs.size s3 (upd H s2.heap.objs.size (.lst [])) fp) rfl rfl rfl hc i [] s5 _ H5 _ I5 (stat fr5) st5 stop) fun r s6 ⟨hr, I6⟩ => ?_
   subst hr
   obtain ⟨m6, hn6, _⟩ := I6.loc
   have un : Un (frs X.stack) fp H H5 s2.heap s6.heap := by
    have u1 : Un (frs X.stack) fp H (upd H s2.heap.objs.size (.lst [])) s2.heap s3.heap := Un.laid up3 (Nat.le_refl _) hD
    exact u1.trans I6.base
   have J6 : Inv X pins σ H5 s6 := by
    refine I.call' ?_ un I6.hok I6.bare fun b hb => ?_
    ·have := I6.os
     rw [show (blk3 X x z z3 fv scope cl s3.heap.objs.size s3 (upd H s2.heap.objs.size (.lst [])) fp).s₀.os = s2.os by rw [← hs3]] at this
     exact this
    ·obtain ⟨_, f1, f2, f3, f4, f5⟩ := hf b hb
     exact ⟨f3, f1, f4, f5⟩
   refine hRR _ _ s6 H5 m6 J6 ?_ hn6 q
   exact I3.fpOk (Nat.le_refl _) I6.free
  ·refine thn (T.item (blk3 X x z z3 fv scope cl s3.heap.objs.size s3 (upd H s2.heap.objs.size (.lst [])) fp) rfl rfl rfl hc i [] s5 _ H5 _ I5 (stat fr5) st5 go) fun r s6 ⟨u, hr, h6⟩ => ?_
   subst hr
   refine thn h6 fun _ s7 ⟨v, H7, I7, r7, y7, st7, fr7⟩ => ?_
   have I7' := I7.pinned (stat fr7) (T.obj _ _ st7)
   obtain ⟨q7, x1, x2, x3, ev, sq7, rd7⟩ := step v H7 y7
   refine wpAny_mono (blk_store3 (px := px) (pz := pz) (p3 := p3) (tk := tk) (tpos := tpos) hc B _ s7 _ H7 v u (fun σ' H' => σ' = bst3 fv σ (some x1) (some x2) (some x3) ∧ H' = H7) I7' r7 ⟨q7, [x1, x2, x3], ev, sq7, rfl, x1, [x2, x3], rfl, x2, [x3], rfl, x3, [], rfl, rfl, rfl, rfl⟩) (fun _ s8 ⟨σ8, H8, I8, e8a, e8b⟩ => ?_) fun _ _ z => False.elim z
   subst e8a e8b
   have e8 := he _ _ _ _ _ s8 _ _ _ I8 rd7
   refine wpAny_mono e8 (fun y s9 ⟨yv, H9, I9, r9, ys, hD9, hz, n9⟩ => ?_) fun _ _ z => False.elim z
   have a9 := mt_append (X := blk3 X x z z3 fv scope cl s3.heap.objs.size s3 (upd H s2.heap.objs.size (.lst [])) fp) _ s9 _ H9 (.ref s2.heap.objs.size) [yv] (.ref s2.heap.objs.size) [y] (fun _ H10 => H10 = upd H9 s2.heap.objs.size (.lst (ys ++ [yv]))) I9 rfl (.cons r9 .nil)
    ⟨_, ys, yv, rfl, rfl, hD9, hz, rfl⟩
   refine wpAny_mono a9 (fun _ s10 ⟨_, H10, I10, _, e10⟩ => ?_) fun _ _ z => False.elim z
   subst e10
   obtain ⟨m', hm, w9⟩ := hN _ n9
   refine ⟨m', hm, i + 1, _, some x1, some x2, some x3, I10.unpinned, T.keep _ _ _ st7 fun b hb o e => (I10.pin (b, o) (List.mem_append_right _ (List.mem_append_right _ (mem_pinsAt hb e)))).1, fun b hb => ?_, w9⟩
   obtain ⟨o, e, _⟩ := T.obj _ _ st7 b hb
   exact (I10.pin (b, o) (List.mem_append_right _ (List.mem_append_right _ (mem_pinsAt hb e)))).2.1
 exact codeAny_compStart_list loop (T.self _ 0 _ _ _ st4 loop)
def CLoop3 (K : PySem.W.Frag) (J : It) (fv : List (Nat × Str)) (te : TE) (Q : VK) (σ : St) (H1 : Hp) (D : Addr) : Prop := ∃ W : Nat -> Nat -> Hp -> Prop, (∃ m, W 0 m (upd H1 D (.lst []))) ∧ ∀ i m H, W i m H ->
 (J.stop i H ∧ Q (.ref D) H) ∨ (J.go i H ∧ ∃ N : Hp -> Prop, (∀ H', N H' -> ∃ m', m' < m ∧ W (i + 1) m' H') ∧ ∀ v H', J.yld i H v H' -> ∃ q x1 x2 x3, v = .ref q ∧ SqT K H' q [x1, x2, x3] ∧ te (bst3 fv σ (some x1) (some x2) (some x3)) H' fun y H2 => ∃ ys, H2 D = some (.lst ys) ∧ ys.length < sizeLine ∧ N (upd H2 D (.lst (ys ++ [y]))))
def tComp3 (K : PySem.W.Frag) (fv : List (Nat × Str)) (wi : TI) (te : TE) : TE := fun σ H Q => wi σ H fun J H1 => ∀ D, H1 D = none -> CLoop3 K J fv te Q σ H1 D
theorem a_tComp3 {K : PySem.W.Frag} {σ : St} {H : Hp} {Q : VK} : tComp3 K fv wi te σ H Q = wi σ H fun J H1 => ∀ D, H1 D = none -> CLoop3 K J fv te Q σ H1 D := rfl
theorem pe_lcomp3 (hc : X.calm = true) (B : BlkOk3 X x z z3 fv scope cl) (hi : PI X (.Tuple [.Name x px, .Name z pz, .Name z3 p3] tk tpos) iter wi) (he : ∀ C s H fp, PE (blk3 X x z z3 fv scope cl C s H fp) elt te)
  (hs : ∀ v, foldedSetIterable iter X.env v = pure v := by intro _; rfl) : PE X (.ListComp elt [⟨.Tuple [.Name x px, .Name z pz, .Name z3 p3] tk tpos, iter, [], 0⟩] scope pos) (tComp3 X.K fv wi te) := by
 intro pins s σ H Q I h
 rw [eval_ListComp]
 refine wpAny_comprehension_free (use := none) rfl hs B.clos B.kind B.names (thn (hi pins s σ H _ I h) fun v s1 h1 => thn h1 fun itv s2 h2 => ?_)
 obtain ⟨it, fp, tn, J, H2, e, I2, T, st2, f2, rd⟩ := h2
 subst e
 refine blk_run3 (RR := fun acc C => compPost (model X.prog X.w) X.A X.xe none (EP X pins σ Q) acc C) hc B he I2 T st2 f2 rd ?_
 intro D C s' H' m' I' fC hn q
 exact ⟨m', hn, fun h' sb => ⟨.ref D, H', I'.turned (t' := s'.toks) (fun b o hb e => (sb.2 b hb).trans e) fC.1 fC.2.1 fC.2.2.2.1 fC.2.2.2.2.1 fC.2.2.2.2.2, rfl, q⟩⟩
theorem blkok3 {X : Cx} {x z z3 : Str} {fv : List (Nat × Str)} {scope : Scope} {cl : List (Str × Addr)} (clos : closureFor scope X.env = pure cl) (sub : ∀ y c, cl.lookup y = some c -> X.env.cells.lookup y = some c) (fvs : FvOk2 X scope cl fv)
  (nd : (x :: z :: z3 :: fv.map (·.2)).Nodup := by decide) (kind : scope.kind = .function := by rfl) (here : scope.names.lookup x = some .local := by rfl) (here2 : scope.names.lookup z = some .local := by rfl) (here3 : scope.names.lookup z3 = some .local := by rfl) (nocell : ∀ y ∈ scope.names, y.2 ≠ .cell := by decide +kernel)
  (names : ∀ y ∈ scope.names, y.2 = .local -> scope.names.lookup y.1 = some .local := by decide +kernel)
  (has : ((relabel scope X.env).names.all fun p => (p.2 != .cell && p.2 != .free) || (cl.lookup p.1).isSome) = true := by rfl) : BlkOk3 X x z z3 fv scope cl :=
 ⟨clos, nocell, kind, names, here, here2, here3, nd, sub, has_of has, fvs⟩
end
def Itz3 (K : PySem.W.Frag) (a b c : Addr) : It :=
 ⟨fun i H => ∃ xs ys zs x y v, SqT K H a xs ∧ SqT K H b ys ∧ SqT K H c zs ∧ xs[i]? = some x ∧ ys[i]? = some y ∧ zs[i]? = some v,
  fun i H v H' => ∃ p x y u, H p = none ∧ v = .ref p ∧ H' = upd H p (.tup [x, y, u]) ∧ (∀ xs, SqT K H a xs -> xs[i]? = some x) ∧ (∀ ys, SqT K H b ys -> ys[i]? = some y) ∧ ∀ zs, SqT K H c zs -> zs[i]? = some u,
  fun i H => ∃ xs, SqT K H a xs ∧ xs.length <= i⟩
theorem turn_zip3 {P : Program} {w : World} {K : PySem.W.Frag} {elts : List Expr} {tk : Nat} {tpos : Pos} (a b c z TI TO i1 i2 i3 : Addr) (D : Zip3 z TI TO i1 i2 i3 a b c) :
  Turn P w K (.Tuple elts tk tpos) (Itz3 K a b c) [z, TI, TO, i1, i2, i3] z (fun i h => IsZip h z TI TO .none ∧ IsTrip h TI (.ref i1) (.ref i2) (.ref i3) ∧ (∃ u v q, IsTrip h TO u v q) ∧ h.IsTupleIter i1 a i ∧ h.IsTupleIter i2 b i ∧ h.IsTupleIter i3 c i) where
 mem := by simp
 obj := fun i h st c hb => by
  obtain ⟨hz, hTI, ⟨u, v, q, hTO⟩, ⟨o1, e1, c1, d1⟩, ⟨o2, e2, c2, d2⟩, ⟨o3, e3, c3, d3⟩⟩ := st
  simp only [List.mem_cons, List.not_mem_nil, or_false] at hb
  rcases hb with rfl | rfl | rfl | rfl | rfl | rfl
  ·exact ⟨_, hz, fun v z => by
    have z' : Data.fields _ = Data.cell v := z
    cases z'⟩
  ·exact ⟨_, hTI, fun v z => by
    have z' : Data.seq _ = Data.cell v := z
    cases z'⟩
  ·exact ⟨_, hTO, fun v z => by
    have z' : Data.seq _ = Data.cell v := z
    cases z'⟩
  ·exact ⟨o1, e1, fun v z => by rw [d1] at z; cases z⟩
  ·exact ⟨o2, e2, fun v z => by rw [d2] at z; cases z⟩
  ·exact ⟨o3, e3, fun v z => by rw [d3] at z; cases z⟩
 keep := fun i h h' st k => by
  obtain ⟨hz, hTI, ⟨u, v, q, hTO⟩, h1, h2, h3⟩ := st
  exact ⟨k z (by simp) _ hz, k TI (by simp) _ hTI, ⟨u, v, q, k TO (by simp) _ hTO⟩, h1.at fun o q => k i1 (by simp) o q, h2.at fun o q => k i2 (by simp) o q, h3.at fun o q => k i3 (by simp) o q⟩
 item := by
  intro X hP hw hK hc i pins s σ H E I hf st hg
  subst hP hw hK
  obtain ⟨xs, ys, zs, x, y, v, hq1, hq2, hq3, hx, hy, hv⟩ := hg
  obtain ⟨its1, rv1, pl1, hz1⟩ := I.tuple hq1
  obtain ⟨its2, rv2, pl2, hz2⟩ := I.tuple hq2
  obtain ⟨its3, rv3, pl3, hz3⟩ := I.tuple hq3
  obtain ⟨u1, hu1, ru1⟩ := rv1.get hx
  obtain ⟨u2, hu2, ru2⟩ := rv2.get hy
  obtain ⟨u3, hu3, ru3⟩ := rv3.get hv
  obtain ⟨hz, hTI, ⟨_, _, _, hTO⟩, hit1, hit2, hit3⟩ := st
  refine pyNext_zip3 D hz hTI hTO hit1 hit2 hit3 pl1 pl2 pl3 (x := u1) (y := u2) (v := u3) (by simpa using hu1) (by simpa using hu2) (by simpa using hu3) fun h1 ho hTO1 hi1 hi2 hi3 hT hk' => ?_
  have hk : ∀ c o, c ≠ z -> c ≠ TO -> c ≠ i1 -> c ≠ i2 -> c ≠ i3 -> s.heap.get? c = some o -> h1.get? c = some o := fun c o n1 n2 n3 n4 n5 e => hk' c o (by simp [n1, n2, n3, n4, n5]) e
  refine ⟨_, rfl, wpAny_letOwnedTupleGo_zip ho fun h2 he2 hs2 => ?_⟩
  have hp : H s.heap.objs.size = none := I.hok.fresh (Nat.le_refl _)
  have hpz : s.heap.objs.size ≠ z := Nat.ne_of_gt (Heap.lt_size hz)
  have k2 : ∀ c o, c ∉ [z, TI, TO, i1, i2, i3] -> s.heap.get? c = some o -> h2.get? c = some o := fun c o hb q =>
   (hs2.2 c fun e => hb (by simp [e])).trans (hk c o (fun e => hb (by simp [e])) (fun e => hb (by simp [e])) (fun e => hb (by simp [e])) (fun e => hb (by simp [e])) (fun e => hb (by simp [e])) q)
  have hT2 : h2.get? s.heap.objs.size = some { cls := .type "tuple", data := .seq #[u1, u2, u3] } := (hs2.2 _ hpz).trans hT
  have nch : ∀ c u, H c = some u -> c ∉ [z, TI, TO, i1, i2, i3] := fun c u q hb => by
   rw [(hf c hb).1] at q; cases q
  have up : ∀ c, c < s.heap.objs.size -> c ≠ s.heap.objs.size := fun c hb => Nat.ne_of_lt hb
  have I2 : Inv X pins σ (upd H s.heap.objs.size (.tup [x, y, v])) { s with heap := h2 } := by
   refine I.step (g' := s.gens) (d' := s.drawn) (t' := s.toks) (ch := [z, TI, TO, i1, i2, i3]) (fun c hb => ?_) (fun c o _ _ hc q _ => k2 c o hc q) (fun c o _ _ hc q _ => ⟨o.slots, k2 c o hc q⟩)
    (fun c o _ q n => by rw [upd_ne (up c (Heap.lt_size q))]; exact n) (fun c o hc q => ⟨o, k2 c o hc q⟩) (fun c ys q => by rw [upd_ne (ne_of_none q hp)]; exact q) (fun c o v q => by rw [upd_ne (ne_of_none q hp)]; exact q)
    (fun c ps q => ⟨#[], by rw [upd_ne (ne_of_none q hp), q]; simp⟩) (fun m hm => ?_) (fun c v q => ?_) I.bare
   ·obtain ⟨f0, f1, f2, f3, f4, f5⟩ := hf c hb
    exact ⟨f3, f1, f4, f5⟩
   ·obtain ⟨o, es, ep, q, r⟩ := hm
    refine ⟨o, es, ep, k2 _ o (fun e => ?_) q, r⟩
    exact (hf _ e).2.1 rfl
   ·by_cases hb : c = s.heap.objs.size
    ·subst hb
     rw [upd_same] at q; cases q
     exact ⟨by show 3 <= sizeLine; decide, [u1, u2, u3], .cons ru1 (.cons ru2 (.cons ru3 .nil)), ⟨_, hT2, rfl, _, rfl⟩⟩
    ·rw [upd_ne hb] at q
     refine (I.hok c v q).stay (fun c' o hc r => k2 c' o ?_ r) (fun c' r => by rw [upd_ne (ne_of_none r hp)]; exact r) fun c' ys r => by rw [upd_ne (ne_of_none r hp)]; exact r
     rcases hc with e | e
     ·rw [e]; exact nch c v q
     ·exact nch c' _ e
  refine ⟨.ref s.heap.objs.size, _, I2, rfl, ⟨_, x, y, v, hp, rfl, rfl, fun zs hz' => by rw [I.tuple_inj hz' hq1]; exact hx, fun zs hz' => by rw [I.tuple_inj hz' hq2]; exact hy, fun zs hz' => by rw [I.tuple_inj hz' hq3]; exact hv⟩,
   ⟨he2, (hs2.2 TI D.TIz).trans (hk TI _ D.TIz D.TITO D.TIi1 D.TIi2 D.TIi3 hTI), ⟨_, _, _, (hs2.2 TO D.TOz).trans hTO1⟩, hi1.at fun o q => (hs2.2 i1 D.i1z).trans q, hi2.at fun o q => (hs2.2 i2 D.i2z).trans q, hi3.at fun o q => (hs2.2 i3 D.i3z).trans q⟩, fun c hb => ?_⟩
  have lb : c < s.heap.objs.size := by
   simp only [List.mem_cons, List.not_mem_nil, or_false] at hb
   rcases hb with rfl | rfl | rfl | rfl | rfl | rfl
   ·exact Heap.lt_size hz
   ·exact Heap.lt_size hTI
   ·exact Heap.lt_size hTO
   ·obtain ⟨_, q, _⟩ := hit1; exact Heap.lt_size q
   ·obtain ⟨_, q, _⟩ := hit2; exact Heap.lt_size q
   ·obtain ⟨_, q, _⟩ := hit3; exact Heap.lt_size q
  rw [upd_ne (up c lb)]
  exact (hf c hb).1
 done := by
  intro X hP hw hK hc i pins s σ H E I hf st hg
  subst hP hw hK
  obtain ⟨xs, hq1, hx⟩ := hg
  obtain ⟨its1, rv1, pl1, hz1⟩ := I.tuple hq1
  obtain ⟨hz, hTI, ⟨_, _, _, hTO⟩, hit1, hit2, hit3⟩ := st
  have hl1 := rv1.length
  refine pyNext_zip3End (I.ok.hd hc) D hz hTI hit1 pl1 (by simp; omega) fun h' eb' => ⟨rfl, ?_⟩
  have k2 : ∀ c o, c ∉ [z, TI, TO, i1, i2, i3] -> s.heap.get? c = some o -> h'.get? c = some o := fun c o hb q => eb' c o (fun e => hb (by
   simp only [List.mem_cons, List.not_mem_nil, or_false] at e ⊢
   rcases e with e | e | e | e | e <;> simp [e])) q
  refine I.step (g' := s.gens) (d' := s.drawn) (t' := s.toks) (ch := [z, TI, TO, i1, i2, i3]) (fun c hb => ?_) (fun c o _ _ hc q _ => k2 c o hc q) (fun c o _ _ hc q _ => ⟨o.slots, k2 c o hc q⟩)
   (fun c o _ q n => n) (fun c o hc q => ⟨o, k2 c o hc q⟩) (fun c ys q => q) (fun c o v q => q) (fun c ps q => ⟨#[], by rw [q]; simp⟩) (fun m hm => ?_) (fun c v q => ?_) I.bare
  ·obtain ⟨f0, f1, f2, f3, f4, f5⟩ := hf c hb
   exact ⟨f3, f1, f4, f5⟩
  ·obtain ⟨o, es, ep, q, r⟩ := hm
   exact ⟨o, es, ep, k2 _ o (fun e => (hf _ e).2.1 rfl) q, r⟩
  ·refine (I.hok c v q).stay (fun c' o hc r => k2 c' o ?_ r) (fun c' r => r) fun c' ys r => r
   have nch : ∀ c u, H c = some u -> c ∉ [z, TI, TO, i1, i2, i3] := fun c u q hb => by
    rw [(hf c hb).1] at q; cases q
   rcases hc with e | e
   ·rw [e]; exact nch c v q
   ·exact nch c' _ e
 self := fun _ _ _ _ _ st h => wpAny_pyIter_zip st.1 h
section
variable {X : Cx}
def iZip3 (K : PySem.W.Frag) (ta : TA) : TI := fun σ H R => ta σ H fun vs H1 => ∃ a b c xs ys zs, vs = [.ref a, .ref b, .ref c] ∧ SqT K H1 a xs ∧ SqT K H1 b ys ∧ SqT K H1 c zs ∧ R (Itz3 K a b c) H1
theorem a_izip3 {K : PySem.W.Frag} {ta : TA} {σ : St} {H : Hp} {R : It -> Hp -> Prop} : iZip3 K ta σ H R = ta σ H fun vs H1 => ∃ a b c xs ys zs, vs = [.ref a, .ref b, .ref c] ∧ SqT K H1 a xs ∧ SqT K H1 b ys ∧ SqT K H1 c zs ∧ R (Itz3 K a b c) H1 := rfl
theorem pi_zip3 {elts : List Expr} {tk : Nat} {tpos : Pos} {a b c : Expr} {ta : TA} {p pos : Pos} (hg : Gl X "zip") (hm : X.mg "zip" = none) (ha : PA X [a, b, c] ta) (hs : starEach [a, b, c] X.env = (false, eval a X.env) :: starEach [b, c] X.env := by rfl)
  (hs2 : (backTo pos (starEach [b, c] X.env)).any (·.1) = false := by rfl) :
  PI X (.Tuple elts tk tpos) (.Call (.Name "zip" p) [a, b, c] [] pos) (iZip3 X.K ta) := by
 intro pins s σ H R I h
 refine Call_ (ld_blt I hg hm boot_zip (PyProof.Rows.callWith_type1 (thn (ha pos pins s σ H _ I h) fun us s1 ⟨vs, H1, I1, r1, q1⟩ => ?_) hs hs2))
 obtain ⟨a, b, c, xs, ys, zs, e, hq1, hq2, hq3, q⟩ := q1
 subst e
 cases r1 with
 | cons r rr =>
  cases rr with
  | cons r' rr =>
  cases rr with
  | cons r'' rr =>
  cases rr
  cases r
  cases r'
  cases r''
  have fr : ∀ c, c ∈ [s1.heap.objs.size + 5, s1.heap.objs.size + 3, s1.heap.objs.size + 4, s1.heap.objs.size, s1.heap.objs.size + 1, s1.heap.objs.size + 2] -> s1.heap.objs.size <= c := fun c hb => by
   simp only [List.mem_cons, List.not_mem_nil, or_false] at hb
   rcases hb with rfl | rfl | rfl | rfl | rfl | rfl <;> omega
  obtain ⟨its1, rv1, pl1, hz1⟩ := I1.tuple hq1
  obtain ⟨its2, rv2, pl2, hz2⟩ := I1.tuple hq2
  obtain ⟨its3, rv3, pl3, hz3⟩ := I1.tuple hq3
  have a1 : a < s1.heap.objs.size := by obtain ⟨_, e, _⟩ := pl1; exact Heap.lt_size e
  have a2 : b < s1.heap.objs.size := by obtain ⟨_, e, _⟩ := pl2; exact Heap.lt_size e
  have a3 : c < s1.heap.objs.size := by obtain ⟨_, e, _⟩ := pl3; exact Heap.lt_size e
  refine call_zip3 pl1 pl2 pl3 fun h1 hz hTI hTO hi1 hi2 hi3 hk => wpAny_pyIter_zip hz ?_
  exact ⟨_, _, _, _, H1, rfl, I1.kept (t' := s1.toks) hk, turn_zip3 a b c _ _ _ _ _ _ (zip3_new a1 a2 a3), ⟨hz, hTI, ⟨_, _, _, hTO⟩, hi1, hi2, hi3⟩, fun c hb => I1.fpOk (fr c hb) (I1.hok.fresh (fr c hb)), q⟩
end
theorem bools_are {bs : List Bool} {us : List Value} : Vals (bs.map V.bl) us -> PyProof.Rows.LSm.BoolsAre us bs := by
 induction bs generalizing us with
 | nil => intro h; cases h; exact .nil
 | cons b bs ih => intro h; cases h with | cons r rr => cases r; exact .cons b (ih rr)
section
variable {X : Cx}
theorem call_allL (hc : X.calm = true) : CallR X (.builtin "all") (fun xs H Q => ∃ (p : Addr) (bs : List Bool), xs = [.ref p] ∧ SqL X.K H p (bs.map V.bl) ∧ Q (.bl (bs.all id)) H) := by
 intro pins s σ H xs us Q I r h
 obtain ⟨p, bs, rfl, hq, q⟩ := h
 obtain ⟨u, rfl, rx⟩ := vals1 r
 cases rx
 obtain ⟨its, r', pl, hz⟩ := I.list hq
 have hb := bools_are r'
 have hl := pl.isList
 have hlt : p < s.heap.objs.size := by obtain ⟨_, e, _⟩ := hl; exact Heap.lt_size e
 refine call_all_walk (wpAny_pyIter_list hl ?_)
 refine ⟨s.heap.objs.size, [s.heap.objs.size, p], [s.heap.objs.size], its.toArray.size, _, _, fun i => (bs[i]?).getD true, rfl, Walks.list (A := X.A.in1) (I.ok.hd hc) _ p (Nat.ne_of_lt hlt) its.toArray,
  ⟨⟨_, Heap.get?_push_size _ rfl, rfl, rfl⟩, hl.push _⟩, fun i v s' Q' E' hP hQ => ?_, fun h' tk hk => ?_⟩
 ·obtain ⟨b, e, rfl⟩ := hb.get i v (by simpa using hP)
  simp only [e, Option.getD_some] at hQ
  exact wpAny_truthy_bool hQ
 ·have e : ((List.range its.toArray.size).all fun i => (bs[i]?).getD true) = bs.all id := by
   rw [List.size_toArray, hb.length]; exact PyProof.Rows.LSm.range_all bs
  rw [e]
  exact ⟨.bl _, H, I.kept (PyProof.Rows.LSm.kept_iter hk), rfl, q⟩
def tMake0 (C : Addr) : TE := fun _ H Q => ∀ x dx, H x = none -> H dx = none -> dx ≠ x -> Q (.ref x) (upd (upd H dx (.own x)) x (.ins C dx []))
theorem a_make0 {C : Addr} {σ : St} {H : Hp} {Q : VK} : tMake0 C σ H Q = ∀ x dx, H x = none -> H dx = none -> dx ≠ x -> Q (.ref x) (upd (upd H dx (.own x)) x (.ins C dx [])) := rfl
end
theorem a_eqS {x y : Str} {H : Hp} {Q : VK} : rEq (.str x) (.str y) H Q = Q (.bl (decide (x = y))) H := by
 unfold rEq
 simp [scal]
end L2
namespace L2
open PySem PySem.Spec PyProof.Rows
theorem a_ext {x : V} {vs : List V} {H : Hp} {Q : VK} : rExtend x vs H Q = ∃ l b xs zs, x = .ref l ∧ vs = [.ref b] ∧ H l = some (.lst xs) ∧ H b = some (.lst zs) ∧ xs.length + zs.length <= sizeLine ∧ Q .non (upd H l (.lst (xs ++ zs))) := rfl
end L2
namespace L2
open PySem PySem.Spec PyProof.Rows
@[reducible] def blkC (X : Cx) (x : Str) (fv : List (Nat × Str)) (scope : Scope) (cl : List (Str × Addr)) (C : Addr) (s : Shared) (H : Hp) (fp : List Addr) : Cx :=
 { blk X x fv scope cl C s H fp with env := { compEnvC scope cl C X.env with cells := (x, C + 1) :: cl }, fn := fun y => y == x }
structure BlkOkC (X : Cx) (x : Str) (fv : List (Nat × Str)) (scope : Scope) (cl : List (Str × Addr)) : Prop where
 clos : closureFor scope X.env = pure cl
 one : ∀ n, cellsFrom n scope.names cl = (x, n) :: cl
 push : ∀ h, pushCells h scope.names = h.push { cls := .type "cell", data := .cell none }
 kind : scope.kind = .function
 names : ∀ y ∈ scope.names, y.2 = .local -> scope.names.lookup y.1 = some .local
 here : (relabel scope X.env).names.lookup x = some .cell
 sub : ∀ y c, cl.lookup y = some c -> X.env.cells.lookup y = some c
 has : ∀ y, y ≠ x -> ((relabel scope X.env).names.lookup y = some .cell ∨ (relabel scope X.env).names.lookup y = some .free) -> ∃ c, cl.lookup y = some c
 nd : (x :: fv.map (·.2)).Nodup
 fvs : ∀ p ∈ fv, p.2 ≠ x ∧ X.N[p.1]? = some p.2 ∧ (X.env.scope.names.lookup p.2 = some .cell ∨ X.env.scope.names.lookup p.2 = some .free) ∧
  ((relabel scope X.env).names.lookup p.2 = some .cell ∨ (relabel scope X.env).names.lookup p.2 = some .free) ∧ ∃ c, cl.lookup p.2 = some c
theorem look1 {x y : Str} {n c : Addr} {cl : List (Str × Addr)} (h : ((x, n) :: cl).lookup y = some c) : (y = x ∧ c = n) ∨ (y ≠ x ∧ cl.lookup y = some c) := by
 rw [List.lookup_cons] at h
 cases e : y == x with
 | true => rw [e] at h; cases h; exact .inl ⟨eq_of_beq e, rfl⟩
 | false => rw [e] at h; exact .inr ⟨fun z => by rw [z] at e; simp at e, h⟩
theorem look1_ne {x y : Str} {n c : Addr} {cl : List (Str × Addr)} (ne : y ≠ x) (h : cl.lookup y = some c) : ((x, n) :: cl).lookup y = some c := by
 rw [List.lookup_cons, show (y == x) = false by simpa using ne]; exact h
theorem look1_self {x : Str} {n : Addr} {cl : List (Str × Addr)} : ((x, n) :: cl).lookup x = some n := by
 rw [List.lookup_cons, show (x == x) = true by simp]
section
variable {X : Cx} {elt iter : Expr} {x : Str} {px : Pos} {fv : List (Nat × Str)} {scope : Scope} {cl : List (Str × Addr)} {pos : Pos} {te : TE} {wi : TI}
theorem blkC_ok {pins : List (Addr × Obj)} {σ : St} {H : Hp} {s : Shared} {fp : List Addr} {C : Addr} (B : BlkOkC X x fv scope cl) (I : Inv X pins σ H s) (hf : ∀ b ∈ fp, FpOk X pins H b) (hC : s.heap.objs.size <= C) (hfC : ∀ b ∈ fp, b ≠ C) (hfD : ∀ b ∈ fp, b ≠ C + 1) :
  (blkC X x fv scope cl C s H fp).Ok where
 mod := I.ok.mod
 kind := B.kind
 glob := I.ok.glob
 blt := I.ok.blt
 above := hC
 inj := fun y z c h1 h2 => by
  have old : ∀ {y : Str}, cl.lookup y = some (C + 1) -> False := fun {y} h => by
   obtain ⟨v, o, ho, _⟩ := I.cell y _ (B.sub y _ h)
   exact absurd (Heap.lt_size ho) (Nat.not_lt.mpr (Nat.le_succ_of_le hC))
  rcases look1 h1 with ⟨rfl, rfl⟩ | ⟨n1, h1⟩
  ·rcases look1 h2 with ⟨rfl, _⟩ | ⟨n2, h2⟩
   ·rfl
   ·exact (old h2).elim
  ·rcases look1 h2 with ⟨_, e⟩ | ⟨n2, h2⟩
   ·rw [e] at h1; exact (old h1).elim
   ·exact I.ok.inj y z c (B.sub y c h1) (B.sub z c h2)
 has := fun y hy => by
  by_cases e : y = x
  ·exact ⟨C + 1, by rw [e]; exact look1_self⟩
  ·obtain ⟨c, hc⟩ := B.has y e hy
   exact ⟨c, look1_ne e hc⟩
 cab := fun y c hy h => by
  have e : y = x := eq_of_beq hy
  rcases look1 h with ⟨_, rfl⟩ | ⟨n, _⟩
  ·exact Nat.le_succ_of_le hC
  ·exact absurd e n
 hd := I.ok.hd
 frames := I.ok.frames
 stk := .inl rfl
 exf := fun b hb => ⟨hfC b hb, fun y c e => by
  rcases look1 e with ⟨_, rfl⟩ | ⟨_, e⟩
  ·exact Ne.symm (hfD b hb)
  ·exact (hf b hb).2.2.2.2.1 y c (B.sub y c e)⟩
 bs := I.bs
 bsz := Nat.le_trans I.ok.bsz I.sz
 noex := fun b o e hb => by
  obtain ⟨_, _, _, f3, _⟩ := hf b hb
  rcases f3 with z | z
  ·exact I.ok.noex b o e z
  ·exact absurd (Nat.lt_of_lt_of_le (Heap.lt_size e) (Nat.le_trans I.ok.bsz z)) (Nat.lt_irrefl _)
 exfs := fun b hb hs => by
  obtain ⟨_, f1, f2, _⟩ := hf b hb
  rcases List.mem_cons.mp (I.stkSub b hs) with z | z
  ·exact f1 z
  ·exact f2 z
 funs := I.stack
 frf := I.stkFree
theorem blkC_start {pins : List (Addr × Obj)} {σ : St} {H : Hp} {s s4 : Shared} {fp : List Addr} {C : Addr} {m : Str -> Option Value} (B : BlkOkC X x fv scope cl) (I : Inv X pins σ H s) (hf : ∀ b ∈ fp, FpOk X pins H b) (hC : C = s.heap.objs.size)
  (hfC : ∀ b ∈ fp, b ≠ C) (hfD : ∀ b ∈ fp, b ≠ C + 1) (os : s4.os = s.os) (gens : s4.gens = s.gens) (keep : ∀ b o, s.heap.get? b = some o -> s4.heap.get? b = some o) (ns : s4.heap.Ns C m) (ce : s4.heap.IsCell (C + 1) none) :
  Inv (blkC X x fv scope cl C s H fp) [] (bst fv σ none) H s4 := by
 subst hC
 refine ⟨blkC_ok B I hf (Nat.le_refl _) hfC hfD, os, by rw [gens]; exact I.bare, Un.kept keep, ⟨m, ns, fun i y v h1 h2 h3 => ?_⟩, fun y c e => ?_, I.hok.fresh (Nat.le_refl _), fun y c e => ?_, fun p hp => absurd (show p ∈ ([] : List (Addr × Obj)) from hp) (by simp), I.hok.kept keep, by simp [bst]⟩
 ·cases i with
  | zero => simp [bst] at h2
  | succ j =>
   obtain ⟨p, hp, rfl, hv⟩ := bst_get h1 h2
   obtain ⟨hne, hN, hk, hk2, c, hc⟩ := B.fvs p hp
   obtain ⟨m0, _, hl⟩ := I.loc
   have vis : Vis X.env.scope p.2 := hk.elim (fun z => .inr (.inl z)) fun z => .inr (.inr z)
   obtain ⟨u, r, l⟩ := hl p.1 p.2 v hN hv vis
   refine ⟨u, r, .inr ⟨hk2, c, look1_ne hne hc, ?_⟩⟩
   rcases l with ⟨z, _⟩ | ⟨_, c', hc', o, ho, hd⟩
   ·have z' : X.env.scope.names.lookup p.2 = some .local := z
    rcases hk with k | k <;> (rw [k] at z'; cases z')
   ·have := B.sub p.2 c hc
    rw [hc'] at this; cases this
    exact ⟨o, keep _ o ho, hd⟩
 ·rcases look1 e with ⟨_, rfl⟩ | ⟨_, e⟩
  ·exact ⟨none, ce⟩
  ·obtain ⟨v, o, ho, hd⟩ := I.cell y c (B.sub y c e)
   exact ⟨v, o, keep c o ho, hd⟩
 ·rcases look1 e with ⟨_, rfl⟩ | ⟨_, e⟩
  ·exact I.hok.fresh (Nat.le_succ _)
  ·exact I.freeC y c (B.sub y c e)
theorem newEnvC {s : Shared} {g : Addr} {q : Str} {env : Env} {M : Model} {A : Around} {E : Value -> Shared -> Prop} {Q : Env -> Shared -> Prop}
  (one : ∀ n, cellsFrom n scope.names cl = (x, n) :: cl) (push : ∀ h, pushCells h scope.names = h.push { cls := .type "cell", data := .cell none })
  (h : Q { scope := scope, locals := s.heap.objs.size, globals := g, cells := (x, s.heap.objs.size + 1) :: cl, qual := q, func := none, code := env.code, frame := env.frame, builtins := env.builtins }
   { s with heap := (s.heap.push { cls := .type "dict", data := .dict #[] }).push { cls := .type "cell", data := .cell none } }) :
  wpAny M A (newFunctionEnv scope g cl [] q none .none (some env)) Q E s := by
 simp only [newFunctionEnv, Option.isSome_some, if_true]
 refine wpAny_bind (wpAny_alloc ?_)
 refine wpAny_bind (wpAny_layCells _ (fun name kind cells => by cases hkc : kind == NameKind.cell <;> simp [hkc]) _ _ _ _ ?_)
 rw [show ({ s with heap := s.heap.push { cls := .type "dict", data := .dict #[] } } : Shared).heap.objs.size = s.heap.objs.size + 1 from Heap.size_push ..]
 dsimp only
 rw [one, push]
 rw [List.forIn_nil]
 exact wpAny_bind (wpAny_pure (wpAny_pure h))
theorem blkC_store {pins' : List (Addr × Obj)} {σ : St} {H H0 : Hp} {s s5 : Shared} {fp : List Addr} {C : Addr} {o : Option V} {v : V} {u : Value} {E : Value -> Shared -> Prop} {Q : Unit -> Shared -> Prop} (B : BlkOkC X x fv scope cl)
  (I : Inv (blkC X x fv scope cl C s H0 fp) pins' (bst fv σ o) H s5) (r : RelV v u) (h : ∀ s6, Inv (blkC X x fv scope cl C s H0 fp) pins' (bst fv σ (some v)) H s6 -> Q () s6) :
  wpAny (model X.prog X.w) X.A (assign (.Name x px) { compEnvC scope cl C X.env with cells := (x, C + 1) :: cl } u) Q E s5 :=
 wpAny_assign_Name (store_ok (X := blkC X x fv scope cl C s H0 fp) (i := 0) I B.nd rfl (.inr B.here) r h (.inl (by show (x == x) = true; simp)))
end
end L2
namespace L2
open PySem PySem.Spec PyProof.Rows
section
variable {X : Cx} {elt iter : Expr} {x : Str} {px : Pos} {fv : List (Nat × Str)} {scope : Scope} {cl : List (Str × Addr)} {pos : Pos} {te : TE} {wi : TI}
theorem blkC_run {pins : List (Addr × Obj)} {σ : St} {H : Hp} {s2 : Shared} {it : Addr} {fp : List Addr} {tn : Nat -> Heap -> Prop} {J : It} {Q : VK} {E : Value -> Shared -> Prop} {RR : Value -> Addr -> Result -> Shared -> Prop}
  (hc : X.calm = true) (B : BlkOkC X x fv scope cl) (he : ∀ C s H fp, PE (blkC X x fv scope cl C s H fp) elt te) (I : Inv X pins σ H s2) (T : Turn X.prog X.w X.K (.Name x px) J fp it tn) (st : tn 0 s2.heap) (hf : ∀ b ∈ fp, FpOk X pins H b)
  (rd : ∀ D, H D = none -> ∃ W : Nat -> Nat -> Hp -> Prop, (∃ m, W 0 m (upd H D (.lst []))) ∧ ∀ i m H, W i m H ->
   (J.stop i H ∧ Q (.ref D) H) ∨ (J.go i H ∧ ∃ N : Hp -> Prop, (∀ H', N H' -> ∃ m', m' < m ∧ W (i + 1) m' H') ∧ ∀ v H', J.yld i H v H' -> te (bst fv σ (some v)) H' fun y H2 => ∃ ys, H2 D = some (.lst ys) ∧ ys.length < sizeLine ∧ N (upd H2 D (.lst (ys ++ [y])))))
  (hRR : ∀ D C s' H' m', Inv X pins σ H' s' -> FpOk X pins H' C -> s'.heap.Ns C m' -> Q (.ref D) H' -> RR (.ref D) C (.ok .next) s') :
  wpAny (model X.prog X.w) X.A (newList []) (fun acc s₃ => wpAny (model X.prog X.w) X.A (newFunctionEnv scope X.env.globals cl [] X.env.qual none .none (some X.env)) (fun cenv s₄ =>
   codeAny (model X.prog X.w) X.A (.compStart (.ListComp elt [⟨.Name x px, iter, [], 0⟩] scope pos) 0 (.ref it) acc { cenv with scope := relabel scope X.env }) (RR acc cenv.locals) s₄) E s₃) E s2 := by
 refine wpAny_newObj_type ?_ (by show 0 <= sizeLine; exact Nat.zero_le _)
 have hD : H s2.heap.objs.size = none := I.hok.fresh (Nat.le_refl _)
 have I3 := I.lnew (ys := []) (its := []) (t' := s2.toks) .nil (Nat.zero_le _)
 generalize hs3 : ({ s2 with heap := s2.heap.push { cls := .type "list", data := .seq ([] : List Value).toArray }, toks := s2.toks } : Shared) = s3 at I3
 have sz3 : s3.heap.objs.size = s2.heap.objs.size + 1 := by rw [← hs3]; exact Heap.size_push ..
 have up3 : ∀ b o, s2.heap.get? b = some o -> s3.heap.get? b = some o := fun b o e => by rw [← hs3]; exact Heap.get?_push_of_some _ e
 have hf3 : ∀ b ∈ fp, FpOk X pins (upd H s2.heap.objs.size (.lst [])) b := fun b hb => by
  obtain ⟨f0, r⟩ := hf b hb
  refine ⟨?_, r⟩
  obtain ⟨o, e, _⟩ := T.obj 0 _ st b hb
  rw [upd_ne (Nat.ne_of_lt (Heap.lt_size e))]; exact f0
 have ltf : ∀ b ∈ fp, b < s2.heap.objs.size := fun b hb => by
  obtain ⟨o, e, _⟩ := T.obj 0 _ st b hb
  exact Heap.lt_size e
 have st3 : tn 0 s3.heap := T.keep 0 _ _ st fun b _ o e => up3 b o e
 obtain ⟨W, ⟨m0, w0⟩, turn⟩ := rd _ hD
 refine newEnvC B.one B.push ?_
 have hfC : ∀ b ∈ fp, b ≠ s3.heap.objs.size := fun b hb => Nat.ne_of_lt (by rw [sz3]; exact Nat.lt_succ_of_lt (ltf b hb))
 have hfD : ∀ b ∈ fp, b ≠ s3.heap.objs.size + 1 := fun b hb => Nat.ne_of_lt (by rw [sz3]; exact Nat.lt_succ_of_lt (Nat.lt_succ_of_lt (ltf b hb)))
 generalize hh1 : (s3.heap.push { cls := .type "dict", data := .dict #[] }).push { cls := .type "cell", data := .cell none } = h₁
 have up4 : ∀ b o, s3.heap.get? b = some o -> h₁.get? b = some o := fun b o e => by rw [← hh1]; exact Heap.get?_push_of_some _ (Heap.get?_push_of_some _ e)
 have ns4 : h₁.Ns s3.heap.objs.size (fun _ => none) := by
  rw [← hh1]
  exact (Heap.Ns.new s3.heap (.type "dict")).keeps fun b o e => Heap.get?_push_of_some _ e
 have ce4 : h₁.IsCell (s3.heap.objs.size + 1) none := by
  rw [← hh1, show s3.heap.objs.size + 1 = (s3.heap.push { cls := .type "dict", data := .dict #[] }).objs.size from (Heap.size_push ..).symm]
  exact ⟨{ cls := .type "cell", data := .cell none }, Heap.get?_push_size _ rfl, rfl⟩
 generalize hs4 : ({ s3 with heap := h₁ } : Shared) = s4
 have h4 : s4.heap = h₁ := by rw [← hs4]
 have I4 : Inv (blkC X x fv scope cl s3.heap.objs.size s3 (upd H s2.heap.objs.size (.lst [])) fp) [] (bst fv σ none) (upd H s2.heap.objs.size (.lst [])) s4 :=
  blkC_start B I3 hf3 rfl hfC hfD (by rw [← hs4]) (by rw [← hs4]) (fun b o e => by rw [h4]; exact up4 b o e) (by rw [h4]; exact ns4) (by rw [h4]; exact ce4)
 have st4 : tn 0 s4.heap := by rw [h4]; exact T.keep 0 _ _ st3 fun b _ o e => up4 b o e
 have stat : ∀ {H' : Hp}, (∀ b ∈ fp, H' b = none) -> ∀ b ∈ fp, FpOk (blkC X x fv scope cl s3.heap.objs.size s3 (upd H s2.heap.objs.size (.lst [])) fp) [] H' b := fun {H'} hn b hb => by
  obtain ⟨_, f1, f2, f3, f4, f5⟩ := hf b hb
  refine ⟨hn b hb, hfC b hb, fun z => ?_, .inl hb, fun y c e => ?_, fun p hp => absurd (show p ∈ ([] : List (Addr × Obj)) from hp) (by simp)⟩
  ·rcases List.mem_cons.mp (I.stkSub b z) with q | q
   ·exact f1 q
   ·exact f2 q
  ·rcases look1 e with ⟨_, rfl⟩ | ⟨_, e⟩
   ·exact Ne.symm (hfD b hb)
   ·exact f4 y c (B.sub y c e)
 have loop : codeAny (model X.prog X.w) X.A (.compLoop (.ListComp elt [⟨.Name x px, iter, [], 0⟩] scope pos) 0 (.ref it) (.ref s2.heap.objs.size) { compEnvC scope cl s3.heap.objs.size X.env with cells := (x, s3.heap.objs.size + 1) :: cl }) (RR (.ref s2.heap.objs.size) s3.heap.objs.size) s4 := by
  refine compLoop_one (fun n s' => ∃ i H' o, Inv (blkC X x fv scope cl s3.heap.objs.size s3 (upd H s2.heap.objs.size (.lst [])) fp) [] (bst fv σ o) H' s' ∧ tn i s'.heap ∧ (∀ b ∈ fp, H' b = none) ∧ W i n H') ?_ m0
   ⟨0, _, none, I4, st4, fun b hb => (hf3 b hb).1, w0⟩
  rintro n s5 E' ⟨i, H5, o5, I5, st5, fr5, w5⟩
  rcases turn i n H5 w5 with ⟨stop, q⟩ | ⟨go, N, hN, step⟩
  ·refine thn (T.done (blkC X x fv scope cl s3.heap.objs.size s3 (upd H s2.heap.objs.size (.lst [])) fp) rfl rfl rfl hc i [] s5 _ H5 _ I5 (stat fr5) st5 stop) fun r s6 ⟨hr, I6⟩ => ?_
   subst hr
   obtain ⟨m6, hn6, _⟩ := I6.loc
   have un : Un (frs X.stack) fp H H5 s2.heap s6.heap := by
    have u1 : Un (frs X.stack) fp H (upd H s2.heap.objs.size (.lst [])) s2.heap s3.heap := Un.laid up3 (Nat.le_refl _) hD
    exact u1.trans I6.base
   have J6 : Inv X pins σ H5 s6 := by
    refine I.call' ?_ un I6.hok I6.bare fun b hb => ?_
    ·have := I6.os
     rw [show (blkC X x fv scope cl s3.heap.objs.size s3 (upd H s2.heap.objs.size (.lst [])) fp).s₀.os = s2.os by rw [← hs3]] at this
     exact this
    ·obtain ⟨_, f1, f2, f3, f4, f5⟩ := hf b hb
     exact ⟨f3, f1, f4, f5⟩
   refine hRR _ _ s6 H5 m6 J6 ?_ hn6 q
   exact I3.fpOk (Nat.le_refl _) I6.free
  ·refine thn (T.item (blkC X x fv scope cl s3.heap.objs.size s3 (upd H s2.heap.objs.size (.lst [])) fp) rfl rfl rfl hc i [] s5 _ H5 _ I5 (stat fr5) st5 go) fun r s6 ⟨u, hr, h6⟩ => ?_
   subst hr
   refine thn h6 fun _ s7 ⟨v, H7, I7, r7, y7, st7, fr7⟩ => ?_
   have I7' := I7.pinned (stat fr7) (T.obj _ _ st7)
   refine blkC_store B I7' r7 fun s8 I8 => ?_
   have e8 := he _ _ _ _ _ s8 _ H7 _ I8 (step v H7 y7)
   refine wpAny_mono e8 (fun y s9 ⟨yv, H9, I9, r9, ys, hD9, hz, n9⟩ => ?_) fun _ _ z => False.elim z
   have a9 := mt_append (X := blkC X x fv scope cl s3.heap.objs.size s3 (upd H s2.heap.objs.size (.lst [])) fp) _ s9 _ H9 (.ref s2.heap.objs.size) [yv] (.ref s2.heap.objs.size) [y] (fun _ H10 => H10 = upd H9 s2.heap.objs.size (.lst (ys ++ [yv]))) I9 rfl (.cons r9 .nil)
    ⟨_, ys, yv, rfl, rfl, hD9, hz, rfl⟩
   refine wpAny_mono a9 (fun _ s10 ⟨_, H10, I10, _, e10⟩ => ?_) fun _ _ z => False.elim z
   subst e10
   obtain ⟨m', hm, w9⟩ := hN _ n9
   refine ⟨m', hm, i + 1, _, some v, I10.unpinned, T.keep _ _ _ st7 fun b hb o e => (I10.pin (b, o) (List.mem_append_right _ (List.mem_append_right _ (mem_pinsAt hb e)))).1, fun b hb => ?_, w9⟩
   obtain ⟨o, e, _⟩ := T.obj _ _ st7 b hb
   exact (I10.pin (b, o) (List.mem_append_right _ (List.mem_append_right _ (mem_pinsAt hb e)))).2.1
 exact codeAny_compStart_list loop (T.self _ 0 _ _ _ st4 loop)
theorem ps_setCC {i : Nat} {y : Str} {py spos : Pos} (hc : X.calm = true) (B : BlkOkC X x fv scope cl) (hi : PI X (.Name x px) iter wi) (he : ∀ C s H fp, PE (blkC X x fv scope cl C s H fp) elt te)
  (hN : X.N.Nodup) (hiy : X.N[i]? = some y) (hy : X.env.scope.names.lookup y = some .local)
  (hsw : swapsWith (.ListComp elt [⟨.Name x px, iter, [], 0⟩] scope pos) (some (.Name y py)) spos.line X.env = pure true := by rfl)
  (hs : ∀ v, foldedSetIterable iter X.env v = pure v := by intro _; rfl) :
  PS X (.Assign [.Name y py] (.ListComp elt [⟨.Name x px, iter, [], 0⟩] scope pos) spos) (tAsg (tComp fv wi te) (gName i)) := by
 intro pins s σ H D I h
 rw [exec_Assign_Name_used _ _ _ _ hsw]
 refine wpAny_bind (wpAny_standAt (wpAny_bind ?_))
 show wpAny _ X.A (do let _ ← comprehension (.ListComp elt [⟨.Name x px, iter, [], 0⟩] scope pos) scope X.env _ (newList []) false (eval iter X.env) (some (assign (.Name y py) X.env))) _ _ s
 refine wpAny_bind (wpAny_mono (wpAny_comprehension_free (use := some (assign (.Name y py) X.env)) (Q := fun _ s' => SP X pins D .next s') rfl hs B.clos B.kind B.names
  (thn (hi pins s σ H _ I h) fun v s1 h1 => thn h1 fun itv s2 h2 => ?_)) (fun _ s' hq => wpAny_pure (wpAny_pure hq)) fun _ _ e => e)
 obtain ⟨it, fp, tn, J, H2, e, I2, T, st2, f2, rd⟩ := h2
 subst e
 refine blkC_run (Q := fun x H1 => gName i x σ H1 D.nx) (RR := fun acc C => compPost (model X.prog X.w) X.A X.xe (some (assign (.Name y py) X.env)) (fun _ s' => SP X pins D .next s') acc C) hc B he I2 T st2 f2 rd ?_
 intro Dl C s' H' m' I' fC hn q
 show wpAny _ X.A (assign (.Name y py) X.env (.ref Dl)) _ _ _
 refine wpAny_assign_Name (store_ok2 I' hN hiy (.inl hy) (v := .ref Dl) rfl (fun s'' I'' hab => ?_) (.inr hy))
 obtain ⟨a, sb, ha⟩ := hab
 have hCa : C ≠ a := by
  rcases ha with rfl | e
  ·exact fC.2.1
  ·exact Ne.symm (fC.2.2.2.2.1 _ _ e)
 exact ⟨m', hn.sameBut sb hCa, fun h' sb' => ⟨_, H', I''.turned (t' := s''.toks) (fun b o hb e => (sb'.2 b hb).trans e) fC.1 fC.2.1 fC.2.2.2.1 fC.2.2.2.2.1 fC.2.2.2.2.2, q⟩⟩
theorem blkokC (clos : closureFor scope X.env = pure cl) (sub : ∀ y c, cl.lookup y = some c -> X.env.cells.lookup y = some c) (fvs : FvOk X x scope cl fv)
  (one : ∀ n, cellsFrom n scope.names cl = (x, n) :: cl := by intro _; rfl) (push : ∀ h, pushCells h scope.names = h.push { cls := .type "cell", data := .cell none } := by intro _; rfl)
  (kind : scope.kind = .function := by rfl) (here : (relabel scope X.env).names.lookup x = some .cell := by rfl) (nd : (x :: fv.map (·.2)).Nodup := by decide +kernel)
  (names : ∀ y ∈ scope.names, y.2 = .local -> scope.names.lookup y.1 = some .local := by decide +kernel)
  (has : ((relabel scope X.env).names.all fun p => (p.2 != .cell && p.2 != .free) || (((x, 0) :: cl).lookup p.1).isSome) = true := by rfl) : BlkOkC X x fv scope cl :=
 ⟨clos, one, push, kind, names, here, sub, fun y ne hy => by
  obtain ⟨c, h⟩ := has_of has y hy
  rcases look1 h with ⟨e, _⟩ | ⟨_, h⟩
  ·exact absurd e ne
  ·exact ⟨c, h⟩, nd, fvs⟩
end
end L2
namespace L2
open PySem PySem.Spec PyProof.Rows
theorem pe_fldK {X : Cx} {K : PySem.W.Frag} {e : Expr} {ta : TE} {f : Str} {pos : Pos} (hK : X.K = K) (he : PE X e ta) (hb : attributeBase e f X.env (eval e X.env) = eval e X.env) : PE X (.Attribute e f pos) (tFld K ta f) := by subst hK; exact pe_fld he hb
end L2
namespace My
def co (xs : List Int) (k : Nat) : Int := xs.getD k 0
end My
namespace My
def sumN : Nat -> (Nat -> Int) -> Int
 | 0, _ => 0
 | n + 1, f => sumN n f + f n
end My
namespace My
def val (n : Int) : List Int -> Int
 | [] => 0
 | c :: r => c + n * val n r
def hd (xs : List Int) : Int := xs.headD 0
end My
namespace My
end My
namespace My
end My
namespace My
theorem gcd_split {t b s : Int} (hb : b ≠ 0) (hs : s = if b < 0 then -((Nat.gcd t.natAbs b.natAbs : Nat) : Int) else ((Nat.gcd t.natAbs b.natAbs : Nat) : Int)) :
  s ≠ 0 ∧ s.natAbs = Nat.gcd t.natAbs b.natAbs ∧ t = s * t.fdiv s ∧ b = s * b.fdiv s ∧ 1 <= b.fdiv s ∧ Nat.gcd (t.fdiv s).natAbs (b.fdiv s).natAbs = 1 := by
 have gp : 0 < Nat.gcd t.natAbs b.natAbs := Nat.gcd_pos_of_pos_right _ (by omega)
 have sa : s.natAbs = Nat.gcd t.natAbs b.natAbs := by
  rw [hs]; split
  ·rw [Int.natAbs_neg, Int.natAbs_natCast]
  ·rw [Int.natAbs_natCast]
 have s0 : s ≠ 0 := by intro z; rw [z] at sa; simp at sa; omega
 have dt : s ∣ t := Int.natAbs_dvd_natAbs.mp (by rw [sa]; exact Nat.gcd_dvd_left _ _)
 have db : s ∣ b := Int.natAbs_dvd_natAbs.mp (by rw [sa]; exact Nat.gcd_dvd_right _ _)
 obtain ⟨c, hc⟩ := dt
 obtain ⟨d, hd⟩ := db
 have ec : t.fdiv s = c := by rw [hc]; exact Int.mul_fdiv_cancel_left c s0
 have ed : b.fdiv s = d := by rw [hd]; exact Int.mul_fdiv_cancel_left d s0
 rw [ec, ed]
 refine ⟨s0, sa, hc, hd, ?_, ?_⟩
 ·by_cases hn : b < 0
  ·rw [if_pos hn] at hs
   have : s < 0 := by omega
   rcases Int.lt_or_le 0 d with h | h
   ·omega
   ·have := Int.mul_nonneg_of_nonpos_of_nonpos (Int.le_of_lt this) h
    omega
  ·rw [if_neg hn] at hs
   have : 0 < s := by omega
   rcases Int.lt_or_le 0 d with h | h
   ·omega
   ·have := Int.mul_nonpos_of_nonneg_of_nonpos (Int.le_of_lt this) h
    omega
 ·have e1 : t.natAbs = s.natAbs * c.natAbs := by rw [← Int.natAbs_mul, ← hc]
  have e2 : b.natAbs = s.natAbs * d.natAbs := by rw [← Int.natAbs_mul, ← hd]
  have e3 := sa
  rw [e1, e2, Nat.gcd_mul_left] at e3
  have sp : 0 < s.natAbs := by omega
  exact Nat.eq_of_mul_eq_mul_left sp (by omega)
theorem fdiv_le {t s : Int} (s0 : s ≠ 0) (h : t = s * t.fdiv s) : (t.fdiv s).natAbs <= t.natAbs := by
 have e : t.natAbs = s.natAbs * (t.fdiv s).natAbs := by rw [← Int.natAbs_mul, ← h]
 rw [e]
 exact Nat.le_mul_of_pos_left _ (by omega)
end My
namespace My
def pm (f g : Nat -> Int) (k : Nat) : Int := sumN (k + 1) fun j => f j * g (k - j)
end My
namespace My
end My
namespace My
end My
namespace My
def sh (g : Nat -> Int) (j : Nat) : Int := if j = 0 then 0 else g (j - 1)
def ev (p : Int) (f : Nat -> Int) : Nat -> Nat -> Int
 | 0, _ => 0
 | n + 1, s => f s + p * ev p f n (s + 1)
theorem ev_lin (p a b : Int) (f g : Nat -> Int) : ∀ n s, ev p (fun j => a * f j - b * g j) n s = a * ev p f n s - b * ev p g n s
 | 0, _ => by simp [ev]
 | n + 1, s => by
  simp only [ev]
  rw [ev_lin p a b f g n (s + 1), Int.mul_sub, Int.mul_add, Int.mul_add, ← Int.mul_assoc p a, ← Int.mul_assoc p b, Int.mul_comm p a, Int.mul_comm p b, Int.mul_assoc, Int.mul_assoc]
  omega
theorem down (p : Int) {K Z : Nat -> Int} {e : Nat} (hK : ∀ j, e + 1 <= j -> K j = 0) (hZ : ∀ j, e <= j -> Z j = 0) :
  ∃ Z' : Nat -> Int, (∀ j, e <= j -> Z' j = 0) ∧ ∀ j, p * Z' j - sh Z' j = ev p K (e + 1) 0 * Z j - ev p Z (e + 1) 0 * K j := by
 let k0 := ev p K (e + 1) 0
 let z0 := ev p Z (e + 1) 0
 let F : Nat -> Int := fun j => k0 * Z j - z0 * K j
 let v : Nat -> Int := fun j => ev p F (e + 1 - j) j
 have hF : ∀ j, e + 1 <= j -> F j = 0 := fun j hj => by show k0 * Z j - z0 * K j = 0; rw [hZ j (by omega), hK j hj]; simp
 have hv : ∀ j, v j = F j + p * v (j + 1) := fun j => by
  show ev p F (e + 1 - j) j = F j + p * ev p F (e + 1 - (j + 1)) (j + 1)
  by_cases h : j <= e
  ·rw [show e + 1 - j = (e - j) + 1 by omega, show e + 1 - (j + 1) = e - j by omega]; rfl
  ·rw [show e + 1 - j = 0 by omega, show e + 1 - (j + 1) = 0 by omega, hF j (by omega)]; simp [ev]
 have h0 : v 0 = 0 := by
  show ev p (fun j => k0 * Z j - z0 * K j) (e + 1) 0 = 0
  rw [ev_lin]
  show k0 * z0 - z0 * k0 = 0
  rw [Int.mul_comm]; omega
 refine ⟨fun j => - v (j + 1), fun j hj => ?_, fun j => ?_⟩
 ·show - ev p F (e + 1 - (j + 1)) (j + 1) = 0
  rw [show e + 1 - (j + 1) = 0 by omega]; rfl
 ·show p * (- v (j + 1)) - sh (fun j => - v (j + 1)) j = F j
  have a := hv j
  unfold sh
  by_cases h : j = 0
  ·subst h
   rw [if_pos rfl]
   rw [h0] at a
   rw [Int.mul_neg]; omega
  ·rw [if_neg h]
   show p * (- v (j + 1)) - (- v (j - 1 + 1)) = F j
   rw [show j - 1 + 1 = j by omega, Int.mul_neg]; omega
section
variable {p : Int} {K L : Nat -> Int} {e t M : Nat} (he : 1 <= e) (hK : ∀ j, e + 1 <= j -> K j = 0) (kt : K e ≠ 0) (hL : ∀ j, t + 1 <= j -> L j = 0) (lt : L t ≠ 0) (hM : ∀ j, (pm L K j).natAbs <= M) (hp : (ev p K (e + 1) 0).natAbs + M + 1 < p.natAbs)
include he hK kt hL lt hM hp
end
end My
namespace My
end My
namespace My
end My
namespace My
end My
namespace My
def asc (a : Nat) : Nat -> Nat
 | 0 => 1
 | n + 1 => asc a n * (a + n + 1)
def fct : Nat -> Nat
 | 0 => 1
 | n + 1 => fct n * (n + 1)
def chs : Nat -> Nat -> Nat
 | _, 0 => 1
 | 0, _ + 1 => 0
 | n + 1, k + 1 => chs n k + chs n (k + 1)
theorem chs_zero (n : Nat) : chs n 0 = 1 := by cases n <;> rfl
theorem chs_succ (n k : Nat) : chs (n + 1) (k + 1) = chs n k + chs n (k + 1) := rfl
theorem chs_big : ∀ (n k : Nat), n < k -> chs n k = 0
 | 0, k + 1, _ => rfl
 | n + 1, k + 1, h => by rw [chs_succ, chs_big n k (by omega), chs_big n (k + 1) (by omega)]
theorem chs_self : ∀ n : Nat, chs n n = 1
 | 0 => rfl
 | n + 1 => by rw [chs_succ, chs_self n, chs_big n (n + 1) (by omega)]
theorem fct_pos : ∀ n : Nat, 0 < fct n
 | 0 => by decide
 | n + 1 => Nat.mul_pos (fct_pos n) (by omega)
theorem asc_zero : ∀ n : Nat, asc 0 n = fct n
 | 0 => rfl
 | n + 1 => by simp only [asc, fct]; rw [asc_zero n]; simp
theorem asc_front (a : Nat) : ∀ n : Nat, asc a (n + 1) = (a + 1) * asc (a + 1) n
 | 0 => by simp [asc]
 | n + 1 => by
  have ih := asc_front a n
  have e1 : asc a (n + 1 + 1) = asc a (n + 1) * (a + (n + 1) + 1) := rfl
  have e2 : asc (a + 1) (n + 1) = asc (a + 1) n * (a + 1 + n + 1) := rfl
  rw [e1, ih, e2, show a + (n + 1) + 1 = a + 1 + n + 1 by omega, Nat.mul_assoc]
theorem asc_app (a : Nat) (m : Nat) : ∀ n : Nat, asc a (m + n) = asc a m * asc (a + m) n
 | 0 => by simp [asc]
 | n + 1 => by
  have ih := asc_app a m n
  have e1 : asc a (m + (n + 1)) = asc a (m + n) * (a + (m + n) + 1) := rfl
  have e2 : asc (a + m) (n + 1) = asc (a + m) n * (a + m + n + 1) := rfl
  rw [e1, ih, e2, show a + (m + n) + 1 = a + m + n + 1 by omega, Nat.mul_assoc]
theorem asc_chs : ∀ (n a : Nat), asc a n = chs (a + n) n * fct n
 | 0, a => by simp [asc, chs_zero, fct]
 | n + 1, 0 => by rw [asc_zero, Nat.zero_add, chs_self, Nat.one_mul]
 | n + 1, a + 1 => by
  have h1 := asc_chs n (a + 1)
  have h2 := asc_chs (n + 1) a
  have e1 : asc (a + 1) (n + 1) = asc (a + 1) n * (a + 1 + n + 1) := rfl
  have e2 : chs (a + 1 + (n + 1)) (n + 1) = chs (a + 1 + n) n + chs (a + 1 + n) (n + 1) := rfl
  have e3 : fct (n + 1) = fct n * (n + 1) := rfl
  have f := asc_front a n
  rw [show a + (n + 1) = a + 1 + n by omega] at h2
  rw [e1, e2, Nat.add_mul, ← h2, f, h1, e3]
  generalize chs (a + 1 + n) n = c
  generalize fct n = t
  grind
theorem chs_div (n a : Nat) : asc a n / fct n = chs (a + n) n := by
 rw [asc_chs, Nat.mul_div_cancel _ (fct_pos n)]
theorem chs_sym (a b : Nat) : chs (a + b) a = chs (a + b) b := by
 have h1 := asc_chs b a
 have h2 := asc_chs a b
 have e1 := asc_app 0 a b
 have e2 := asc_app 0 b a
 rw [Nat.zero_add, asc_zero, asc_zero] at e1 e2
 rw [Nat.add_comm b a] at e2 h2
 rw [h1] at e1
 rw [h2] at e2
 rw [e1] at e2
 have e3 : (fct a * fct b) * chs (a + b) b = (fct a * fct b) * chs (a + b) a := by
  generalize fct a = x at e2 ⊢
  generalize fct b = y at e2 ⊢
  generalize chs (a + b) b = u at e2 ⊢
  generalize chs (a + b) a = v at e2 ⊢
  grind
 exact (Nat.eq_of_mul_eq_mul_left (Nat.mul_pos (fct_pos a) (fct_pos b)) e3).symm
theorem choices_is (a b : Nat) : asc (a + b - min a b) (min a b) / fct (min a b) = chs (a + b) b := by
 rw [chs_div, show a + b - min a b + min a b = a + b by omega]
 by_cases h : a <= b
 ·rw [Nat.min_eq_left h, chs_sym]
 ·rw [Nat.min_eq_right (by omega)]
theorem chs_lt : ∀ (n k : Nat), chs n k <= 2 ^ n
 | 0, 0 => by decide
 | 0, _ + 1 => by simp [chs]
 | n + 1, 0 => by rw [chs_zero]; exact Nat.pow_pos (by decide)
 | n + 1, k + 1 => by
  have h1 := chs_lt n k
  have h2 := chs_lt n (k + 1)
  rw [chs_succ, Nat.pow_succ]; omega
theorem cop_cross {a b c d l r : Nat} (hb : 0 < b) (hd : 0 < d) (h1 : Nat.gcd a b = 1) (h2 : Nat.gcd c d = 1) (hl : l = Nat.gcd a d) (hr : r = Nat.gcd c b) : Nat.gcd (a / l * (c / r)) (b / r * (d / l)) = 1 := by
 have lp : 0 < l := by rw [hl]; exact Nat.gcd_pos_of_pos_right _ hd
 have rp : 0 < r := by rw [hr]; exact Nat.gcd_pos_of_pos_right _ hb
 have la : l ∣ a := by rw [hl]; exact Nat.gcd_dvd_left _ _
 have ld : l ∣ d := by rw [hl]; exact Nat.gcd_dvd_right _ _
 have rc : r ∣ c := by rw [hr]; exact Nat.gcd_dvd_left _ _
 have rb : r ∣ b := by rw [hr]; exact Nat.gcd_dvd_right _ _
 have c1 : Nat.Coprime (a / l) (d / l) := by rw [hl]; exact Nat.coprime_div_gcd_div_gcd (by rw [← hl]; exact lp)
 have c2 : Nat.Coprime (c / r) (b / r) := by rw [hr]; exact Nat.coprime_div_gcd_div_gcd (by rw [← hr]; exact rp)
 have c3 : Nat.Coprime (a / l) (b / r) := Nat.Coprime.coprime_dvd_left (Nat.div_dvd_of_dvd la) (Nat.Coprime.coprime_dvd_right (Nat.div_dvd_of_dvd rb) h1)
 have c4 : Nat.Coprime (c / r) (d / l) := Nat.Coprime.coprime_dvd_left (Nat.div_dvd_of_dvd rc) (Nat.Coprime.coprime_dvd_right (Nat.div_dvd_of_dvd ld) h2)
 exact Nat.Coprime.mul_left (Nat.Coprime.mul_right c3 c1) (Nat.Coprime.mul_right c2 c4)
end My
namespace My
end My
namespace My
open L2
def wtD (f : PD) (h : P2 -> Int) : Int := (f.map fun x => x.2 * h x.1).sum
theorem wtD_nil (h : P2 -> Int) : wtD [] h = 0 := rfl
theorem wtD_cons (x : P2 × Int) (f : PD) (h : P2 -> Int) : wtD (x :: f) h = x.2 * h x.1 + wtD f h := by unfold wtD; rw [List.map_cons, List.sum_cons]
end My
namespace My
open L2
end My
namespace My
open L2
def mon (n k : Int) (p : P2) : Int := n ^ p.1.toNat * k ^ p.2.toNat
def evD (f : PD) (n k : Int) : Int := wtD f (mon n k)
def Deg (d : Nat) (f : PD) : Prop := ∀ x ∈ f, 0 <= x.1.1 ∧ x.1.1 <= d ∧ 0 <= x.1.2 ∧ x.1.2 <= d
theorem wtD_app (f g : PD) (h : P2 -> Int) : wtD (f ++ g) h = wtD f h + wtD g h := by
 unfold wtD; rw [List.map_append, List.sum_append]
theorem wtD_pt {f : PD} (nd : ndD f) (k : P2) (v : Int) (h : P2 -> Int) : wtD (ptD f k v) h = wtD f h - cfD f k * h k + v * h k := by
 induction f with
 | nil =>
  show wtD [(k, v)] h = wtD [] h - cfD [] k * h k + v * h k
  rw [wtD_cons, wtD_nil]
  show v * h k + 0 = 0 - 0 * h k + v * h k
  omega
 | cons x f ih =>
  obtain ⟨n1, n2⟩ := ndD_cons.mp nd
  by_cases hx : x.1 = k
  ·have e1 : ptD (x :: f) k v = (x.1, v) :: f := by
    unfold ptD
    rw [if_pos (by simp [hx])]
    rw [List.map_cons, if_pos (by simp [hx]), hx]
    congr 1
    conv => rhs; rw [← List.map_id f]
    refine List.map_congr_left fun y hy => ?_
    rw [if_neg]
    ·rfl
    ·intro z
     have := gtD_none.mp n1 y hy
     exact this ((by simpa using z : y.1 = k).trans hx.symm)
   have e2 : cfD (x :: f) k = x.2 := by unfold cfD; rw [gtD_cons, if_pos hx]; rfl
   rw [e1, e2, wtD_cons, wtD_cons, ← hx]
   show v * h x.1 + wtD f h = x.2 * h x.1 + wtD f h - x.2 * h x.1 + v * h x.1
   omega
  ·have e2 : cfD (x :: f) k = cfD f k := by unfold cfD; rw [gtD_cons, if_neg hx]
   have e1 : ptD (x :: f) k v = x :: ptD f k v := by
    unfold ptD
    by_cases ha : (f.any fun x => decide (x.1 = k)) = true
    ·rw [if_pos ha, if_pos (by rw [List.any_cons, ha, Bool.or_true]), List.map_cons, if_neg (by simpa using hx)]
    ·rw [if_neg ha, if_neg (by rw [List.any_cons]; simpa [hx] using ha)]; rfl
   rw [e1, e2, wtD_cons, wtD_cons, ih n2]; omega
theorem wtD_fo (h : P2 -> Int) : ∀ (l a : PD), ndD a -> wtD (foD l a) h = wtD a h + wtD l h
 | [], a, _ => by rw [foD_nil, wtD_nil]; omega
 | x :: l, a, nd => by
  rw [foD_cons, wtD_fo h l _ (ndD_ad nd _ _), wtD_cons]
  unfold adD
  rw [wtD_pt nd, Int.add_mul]; omega
theorem wtD_nz (h : P2 -> Int) : ∀ f : PD, wtD (nzD f) h = wtD f h
 | [] => rfl
 | x :: f => by
  rw [nzD_cons, wtD_cons]
  by_cases hx : x.2 = 0
  ·rw [if_pos hx, wtD_nz h f, hx, Int.zero_mul]; omega
  ·rw [if_neg hx, wtD_cons, wtD_nz h f]
theorem mon_add (n k : Int) {p q : P2} (hp : 0 <= p.1 ∧ 0 <= p.2) (hq : 0 <= q.1 ∧ 0 <= q.2) : mon n k (p.1 + q.1, p.2 + q.2) = mon n k p * mon n k q := by
 unfold mon
 rw [show (p.1 + q.1).toNat = p.1.toNat + q.1.toNat by omega, show (p.2 + q.2).toNat = p.2.toNat + q.2.toNat by omega, Int.pow_add, Int.pow_add]
 generalize n ^ p.1.toNat = a
 generalize n ^ q.1.toNat = b
 generalize k ^ p.2.toNat = c
 generalize k ^ q.2.toNat = d
 grind
theorem ev_row (n k : Int) {d : Nat} {x : P2 × Int} (hx : 0 <= x.1.1 ∧ 0 <= x.1.2) : ∀ {g : PD}, Deg d g -> wtD (rowD x g) (mon n k) = x.2 * mon n k x.1 * evD g n k
 | [], _ => by show wtD [] _ = _; unfold evD; rw [wtD_nil, Int.mul_zero]
 | y :: g, h => by
  have hy := h y (by simp)
  have ih := ev_row n k hx (g := g) (d := d) fun z hz => h z (List.mem_cons_of_mem _ hz)
  have e : rowD x (y :: g) = ((x.1.1 + y.1.1, x.1.2 + y.1.2), x.2 * y.2) :: rowD x g := rfl
  unfold evD at ih ⊢
  rw [e, wtD_cons, wtD_cons, ih, mon_add n k hx ⟨hy.1, hy.2.2.1⟩]
  generalize mon n k x.1 = a
  generalize mon n k y.1 = b
  generalize wtD g (mon n k) = c
  grind
theorem ev_pr (n k : Int) {d e : Nat} : ∀ {f g : PD}, Deg d f -> Deg e g -> wtD (prD f g) (mon n k) = evD f n k * evD g n k
 | [], g, _, _ => by show wtD [] _ = _; unfold evD; rw [wtD_nil, Int.zero_mul]
 | x :: f, g, h, hg => by
  have hx := h x (by simp)
  have ih := ev_pr n k (f := f) (g := g) (fun z hz => h z (List.mem_cons_of_mem _ hz)) hg
  have e : prD (x :: f) g = rowD x g ++ prD f g := rfl
  rw [e, wtD_app, ih, ev_row n k ⟨hx.1, hx.2.2.1⟩ hg]
  unfold evD
  rw [wtD_cons, Int.add_mul]
theorem ev_times (n k : Int) {d e : Nat} {f g : PD} (hf : Deg d f) (hg : Deg e g) : evD (timesD f g) n k = evD f n k * evD g n k := by
 unfold timesD
 unfold evD
 rw [wtD_nz, wtD_fo _ _ _ ndD_nil, ev_pr n k hf hg, wtD_nil]
 unfold evD; omega
theorem key_pt {f : PD} {k : P2} {v : Int} {x : P2 × Int} (h : x ∈ ptD f k v) : x.1 = k ∨ ∃ y ∈ f, y.1 = x.1 := by
 have : x.1 ∈ (ptD f k v).map (·.1) := List.mem_map.mpr ⟨x, h, rfl⟩
 rw [keys_pt] at this
 split at this
 ·obtain ⟨y, hy, e⟩ := List.mem_map.mp this; exact .inr ⟨y, hy, e⟩
 ·rcases List.mem_append.mp this with z | z
  ·obtain ⟨y, hy, e⟩ := List.mem_map.mp z; exact .inr ⟨y, hy, e⟩
  ·exact .inl (by simpa using z)
theorem key_fo : ∀ (l a : PD) {x : P2 × Int}, x ∈ foD l a -> (∃ y ∈ l, y.1 = x.1) ∨ ∃ y ∈ a, y.1 = x.1
 | [], a, x, h => .inr ⟨x, h, rfl⟩
 | z :: l, a, x, h => by
  rw [foD_cons] at h
  rcases key_fo l _ h with ⟨y, hy, e⟩ | ⟨y, hy, e⟩
  ·exact .inl ⟨y, List.mem_cons_of_mem _ hy, e⟩
  ·rcases key_pt hy with e2 | ⟨y2, hy2, e2⟩
   ·exact .inl ⟨z, by simp, by rw [← e2]; exact e⟩
   ·exact .inr ⟨y2, hy2, by rw [e2]; exact e⟩
theorem deg_times {d e : Nat} {f g : PD} (hf : Deg d f) (hg : Deg e g) : Deg (d + e) (timesD f g) := fun x hx => by
 unfold timesD at hx
 rcases key_fo _ _ (nzD_mem hx) with ⟨y, hy, e⟩ | ⟨y, hy, _⟩
 ·unfold prD at hy
  obtain ⟨u, hu, hy⟩ := List.mem_flatMap.mp hy
  obtain ⟨v, hv, rfl⟩ := List.mem_map.mp hy
  have h1 := hf u hu
  have h2 := hg v hv
  rw [← e]
  exact ⟨by show 0 <= u.1.1 + v.1.1; omega, by show u.1.1 + v.1.1 <= _; omega, by show 0 <= u.1.2 + v.1.2; omega, by show u.1.2 + v.1.2 <= _; omega⟩
 ·simp at hy
theorem deg_mono {d e : Nat} {f : PD} (h : Deg d f) (l : d <= e) : Deg e f := fun x hx => by have := h x hx; omega
theorem nd_times (f g : PD) : ndD (timesD f g) := ndD_nz (nd_fo _ ndD_nil)
theorem deg_fo_pr {d e : Nat} {f g : PD} (hf : Deg d f) (hg : Deg e g) : Deg (d + e) (foD (prD f g) []) := fun x hx => by
 rcases key_fo _ _ hx with ⟨y, hy, e⟩ | ⟨y, hy, _⟩
 ·unfold prD at hy
  obtain ⟨u, hu, hy⟩ := List.mem_flatMap.mp hy
  obtain ⟨v, hv, rfl⟩ := List.mem_map.mp hy
  have h1 := hf u hu
  have h2 := hg v hv
  rw [← e]
  exact ⟨by show 0 <= u.1.1 + v.1.1; omega, by show u.1.1 + v.1.1 <= _; omega, by show 0 <= u.1.2 + v.1.2; omega, by show u.1.2 + v.1.2 <= _; omega⟩
 ·simp at hy
def grid (d : Nat) : List P2 := (List.range (d + 1)).flatMap fun (i : Nat) => (List.range (d + 1)).map fun (j : Nat) => ((i : Int), (j : Int))
theorem sum_rep (m : Nat) : ∀ n : Nat, (List.replicate n m).sum = n * m
 | 0 => by simp
 | n + 1 => by rw [List.replicate_succ, List.sum_cons, sum_rep m n, Nat.add_mul]; omega
theorem grid_len (d : Nat) : (grid d).length = (d + 1) * (d + 1) := by
 unfold grid
 rw [List.length_flatMap]
 have : (List.range (d + 1)).map (fun (i : Nat) => ((List.range (d + 1)).map fun (j : Nat) => ((i : Int), (j : Int))).length) = List.replicate (d + 1) (d + 1) := by
  rw [List.eq_replicate_iff]
  refine ⟨by simp, fun b hb => ?_⟩
  obtain ⟨i, _, rfl⟩ := List.mem_map.mp hb
  simp
 rw [this, sum_rep]
theorem len_deg {d : Nat} {f : PD} (nd : ndD f) (h : Deg d f) : f.length <= (d + 1) * (d + 1) := by
 rw [← grid_len, ← List.length_map (·.1) (as := f)]
 refine len_le_of_keys nd fun p hp => ?_
 obtain ⟨x, hx, rfl⟩ := List.mem_map.mp hp
 have := h x hx
 unfold grid
 refine List.mem_flatMap.mpr ⟨x.1.1.toNat, List.mem_range.mpr (by omega), List.mem_map.mpr ⟨x.1.2.toNat, List.mem_range.mpr (by omega), ?_⟩⟩
 exact Prod.ext (by show ((x.1.1.toNat : Nat) : Int) = _; omega) (by show ((x.1.2.toNat : Nat) : Int) = _; omega)
def Szn (B : Nat) (f : PD) : Prop := ∀ x ∈ f, x.2.natAbs <= B
theorem sm_le {B : Nat} (k : P2) : ∀ {l : PD}, Szn B l -> (smD l k).natAbs <= l.length * B
 | [], _ => by simp [smD]
 | x :: l, h => by
  have ih := sm_le k (l := l) (B := B) fun z hz => h z (List.mem_cons_of_mem _ hz)
  have hx := h x (by simp)
  rw [smD_cons, List.length_cons, Nat.add_mul, Nat.one_mul]
  have : (if x.1 = k then x.2 else 0).natAbs <= B := by
   split
   ·exact hx
   ·exact Nat.zero_le _
  have := Int.natAbs_add_le (if x.1 = k then x.2 else 0) (smD l k)
  omega
theorem prD_len' (f g : PD) : (prD f g).length = f.length * g.length := by
 induction f with
 | nil => simp [prD]
 | cons x f ih =>
  show (rowD x g ++ prD f g).length = _
  rw [List.length_append, ih, List.length_cons, Nat.add_mul]
  show (g.map _).length + _ = _
  rw [List.length_map]; omega
theorem szn_pr {A B : Nat} {f g : PD} (hf : Szn A f) (hg : Szn B g) : Szn (A * B) (prD f g) := fun x hx => by
 unfold prD at hx
 obtain ⟨u, hu, hx⟩ := List.mem_flatMap.mp hx
 obtain ⟨v, hv, rfl⟩ := List.mem_map.mp hx
 show (u.2 * v.2).natAbs <= _
 rw [Int.natAbs_mul]; exact Nat.mul_le_mul (hf u hu) (hg v hv)
theorem szn_fo {B : Nat} {l : PD} (h : Szn B l) : Szn (l.length * B) (foD l []) := fun x hx => by
 have e := gtD_of_mem (nd_fo l ndD_nil) hx
 have e2 : cfD (foD l []) x.1 = x.2 := by unfold cfD; rw [e]; rfl
 have e3 := cf_fo l [] x.1
 rw [e2] at e3
 rw [e3, show cfD [] x.1 = 0 from rfl, Int.zero_add]
 exact sm_le x.1 h
theorem szn_times {A B : Nat} {f g : PD} (hf : Szn A f) (hg : Szn B g) : Szn (f.length * g.length * (A * B)) (timesD f g) := fun x hx => by
 have := szn_fo (szn_pr hf hg) x (nzD_mem hx)
 rw [prD_len'] at this; exact this
def fmD (a b c : Int) : PD := nzD [((1, 0), a), ((0, 1), b), ((0, 0), c)]
theorem ev_form (a b c n k : Int) : evD (fmD a b c) n k = a * n + b * k + c := by
 unfold fmD evD
 rw [wtD_nz, wtD_cons, wtD_cons, wtD_cons, wtD_nil]
 have p1 : ∀ x : Int, x ^ (1 : Nat) = x := fun x => by rw [Int.pow_succ, Int.pow_zero, Int.one_mul]
 have e1 : mon n k (1, 0) = n := by show n ^ 1 * k ^ 0 = n; rw [p1, Int.pow_zero, Int.mul_one]
 have e2 : mon n k (0, 1) = k := by show n ^ 0 * k ^ 1 = k; rw [p1, Int.pow_zero, Int.one_mul]
 have e3 : mon n k (0, 0) = 1 := by show n ^ 0 * k ^ 0 = 1; rw [Int.pow_zero, Int.pow_zero]; rfl
 rw [e1, e2, e3]
 show a * n + (b * k + (c * 1 + 0)) = _
 omega
theorem deg_form (a b c : Int) : Deg 1 (fmD a b c) := fun x hx => by
 have := nzD_mem hx
 simp only [List.mem_cons, List.not_mem_nil, or_false] at this
 rcases this with rfl | rfl | rfl <;> (dsimp only; omega)
theorem nd_form (a b c : Int) : ndD (fmD a b c) := ndD_nz (show [((1 : Int), (0 : Int)), (0, 1), (0, 0)].Nodup by decide)
theorem szn_form {B : Nat} {a b c : Int} (ha : a.natAbs <= B) (hb : b.natAbs <= B) (hc : c.natAbs <= B) : Szn B (fmD a b c) := fun x hx => by
 have := nzD_mem hx
 simp only [List.mem_cons, List.not_mem_nil, or_false] at this
 rcases this with rfl | rfl | rfl <;> assumption
def onD : PD := [((0, 0), 1)]
def pdD (fs : List PD) : PD := fs.foldl timesD onD
theorem pdD_snoc (fs : List PD) (f : PD) : pdD (fs ++ [f]) = timesD (pdD fs) f := by unfold pdD; rw [List.foldl_append]; rfl
theorem ev_one (n k : Int) : evD onD n k = 1 := by unfold evD onD; rw [wtD_cons, wtD_nil]; unfold mon; simp
theorem deg_one : Deg 0 onD := fun x hx => by simp [onD] at hx; subst hx; decide
def prI (xs : List Int) : Int := xs.foldl (· * ·) 1
theorem prI_snoc (xs : List Int) (x : Int) : prI (xs ++ [x]) = prI xs * x := by unfold prI; rw [List.foldl_append]; rfl
theorem prI_cons (x : Int) : ∀ xs : List Int, prI (x :: xs) = x * prI xs := fun xs => by
 have h : ∀ (xs : List Int) (a b : Int), xs.foldl (· * ·) (a * b) = a * xs.foldl (· * ·) b := fun xs => by
  induction xs with
  | nil => intro a b; rfl
  | cons y ys ih => intro a b; rw [List.foldl_cons, List.foldl_cons, Int.mul_assoc, ih]
 unfold prI
 rw [List.foldl_cons, Int.mul_comm, h]
theorem prI_app (xs ys : List Int) : prI (xs ++ ys) = prI xs * prI ys := by
 induction xs with
 | nil => simp [prI]
 | cons x xs ih => rw [List.cons_append, prI_cons, prI_cons, ih, Int.mul_assoc]
structure PdOk (d B : Nat) (f : PD) : Prop where
 dg : Deg d f
 nd : ndD f
 sz : Szn (2 ^ B) f
theorem pd_one : PdOk 0 0 onD := ⟨deg_one, by unfold ndD onD; decide, fun x hx => by simp [onD] at hx; subst hx; decide⟩
theorem pd_times {d e A B : Nat} {f g : PD} (hf : PdOk d A f) (hg : PdOk e B g) (hd : d + e <= 60) : PdOk (d + e) (A + B + 24) (timesD f g) := by
 refine ⟨deg_times hf.dg hg.dg, nd_times f g, fun x hx => ?_⟩
 have h1 := szn_times hf.sz hg.sz x hx
 have h2 := len_deg hf.nd hf.dg
 have h3 := len_deg hg.nd hg.dg
 have h4 : f.length * g.length <= 2 ^ 24 := by
  have a1 : f.length <= 2 ^ 12 := Nat.le_trans h2 (Nat.le_trans (Nat.mul_le_mul (show d + 1 <= 61 by omega) (show d + 1 <= 61 by omega)) (by decide))
  have a2 : g.length <= 2 ^ 12 := Nat.le_trans h3 (Nat.le_trans (Nat.mul_le_mul (show e + 1 <= 61 by omega) (show e + 1 <= 61 by omega)) (by decide))
  exact Nat.le_trans (Nat.mul_le_mul a1 a2) (by decide)
 refine Nat.le_trans h1 (Nat.le_trans (Nat.mul_le_mul_right _ h4) ?_)
 rw [← Nat.pow_add, ← Nat.pow_add]
 exact Nat.pow_le_pow_right (by decide) (by omega)
theorem ev_pd (n k : Int) : ∀ (m : Nat) (fs : List PD) (d : Nat), fs.length = m -> (∀ f ∈ fs, Deg d f) -> evD (pdD fs) n k = prI (fs.map fun f => evD f n k) ∧ Deg (d * fs.length) (pdD fs)
 | 0, fs, d, hm, _ => by
  obtain rfl := List.eq_nil_of_length_eq_zero hm
  exact ⟨ev_one n k, deg_one⟩
 | m + 1, fs, d, hm, h => by
  obtain ⟨gs, g, rfl⟩ : ∃ gs g, fs = gs ++ [g] := ⟨fs.dropLast, fs.getLast (fun z => by rw [z] at hm; simp at hm), (List.dropLast_concat_getLast _).symm⟩
  obtain ⟨i1, i2⟩ := ev_pd n k m gs d (by simp at hm; exact hm) fun f hf => h f (List.mem_append_left _ hf)
  have hg := h g (by simp)
  rw [pdD_snoc, List.map_append, List.map_cons, List.map_nil, prI_snoc, ev_times n k i2 hg, i1, List.length_append, List.length_singleton, Nat.mul_add, Nat.mul_one]
  exact ⟨rfl, deg_times i2 hg⟩
def rise (x : Int) : Nat -> Int
 | 0 => 1
 | m + 1 => rise x m * (x + m + 1)
theorem rise_asc (x : Nat) : ∀ m : Nat, rise (x : Int) m = ((asc x m : Nat) : Int)
 | 0 => rfl
 | m + 1 => by
  show rise (x : Int) m * ((x : Int) + m + 1) = ((asc x m * (x + m + 1) : Nat) : Int)
  rw [rise_asc x m, Int.natCast_mul]; rfl
theorem rise_zero {x : Int} (hx : x < 0) : ∀ m : Nat, 0 <= x + m -> rise x m = 0
 | 0, h => by omega
 | m + 1, h => by
  show rise x m * (x + m + 1) = 0
  by_cases z : x + m + 1 = 0
  ·rw [z, Int.mul_zero]
  ·rw [rise_zero hx m (by omega), Int.zero_mul]
theorem fct_asc (x m : Nat) : fct (x + m) = fct x * asc x m := by
 have := asc_app 0 x m
 rw [asc_zero, asc_zero, Nat.zero_add] at this
 exact this
theorem fct_pos' (n : Nat) : ((fct n : Nat) : Int) ≠ 0 := by have := fct_pos n; omega
def FlrOk (U : Nat) (L G : Int) (z : Int × Int) : Prop := ((L < 0 ∨ G < 0) ∧ z = (0, 1)) ∨ ∃ x y : Nat, L = (x : Int) ∧ G = (y : Int) ∧ z.1 * (((fct x : Nat) : Int) * ((fct y : Nat) : Int)) = ((fct U : Nat) : Int) * z.2
theorem flr_of {z : Int × Int} {b0 b1 m : Nat} (hm : m <= b0 + b1) (h : z.1 * ((asc m (b0 + b1 - m) : Nat) : Int) = ((chs (b0 + b1) b1 : Nat) : Int) * z.2) : z.1 * (((fct b0 : Nat) : Int) * ((fct b1 : Nat) : Int)) = ((fct m : Nat) : Int) * z.2 := by
 have e1 : fct (b0 + b1) = fct m * asc m (b0 + b1 - m) := by
  have := fct_asc m (b0 + b1 - m)
  rw [show m + (b0 + b1 - m) = b0 + b1 by omega] at this; exact this
 have e2 : fct (b0 + b1) = fct b0 * (chs (b0 + b1) b1 * fct b1) := by rw [fct_asc, asc_chs]
 have c1 : ((fct (b0 + b1) : Nat) : Int) = ((fct m : Nat) : Int) * ((asc m (b0 + b1 - m) : Nat) : Int) := by rw [e1, Int.natCast_mul]
 have c2 : ((fct (b0 + b1) : Nat) : Int) = ((fct b0 : Nat) : Int) * (((chs (b0 + b1) b1 : Nat) : Int) * ((fct b1 : Nat) : Int)) := by rw [e2, Int.natCast_mul, Int.natCast_mul]
 refine Int.eq_of_mul_eq_mul_right (fct_pos' (b0 + b1)) ?_
 conv => lhs; rw [c1]
 conv => rhs; rw [c2]
 generalize ((asc m (b0 + b1 - m) : Nat) : Int) = A at h
 generalize ((chs (b0 + b1) b1 : Nat) : Int) = C at h
 generalize ((fct b0 : Nat) : Int) = X
 generalize ((fct b1 : Nat) : Int) = Y
 generalize ((fct m : Nat) : Int) = M
 have : z.1 * (X * Y) * (M * A) = X * Y * M * (z.1 * A) := by grind
 rw [this, h]; grind
def wys (a b : Int) : Int := if a < 0 ∨ b < 0 then 0 else ((chs (a + b).toNat b.toNat : Nat) : Int)
theorem stp_cho {U s p q : Nat} {a b : Int} {z : Int × Int} (hab : (U : Int) + s = a + b) (h : FlrOk U (a + p) (b + q) z) : wys a b * z.2 = rise (U : Int) s * (rise a p * rise b q) * z.1 := by
 rcases h with ⟨hn, rfl⟩ | ⟨x, y, hx, hy, hz⟩
 ·have : wys a b = 0 := by unfold wys; rw [if_pos (by omega)]
  rw [this]; show (0 : Int) * 1 = _ * 0; omega
 ·by_cases ha : a < 0
  ·rw [rise_zero ha p (by omega), Int.zero_mul, Int.mul_zero, Int.zero_mul]
   unfold wys; rw [if_pos (.inl ha), Int.zero_mul]
  by_cases hb : b < 0
  ·rw [rise_zero hb q (by omega), Int.mul_zero, Int.mul_zero, Int.zero_mul]
   unfold wys; rw [if_pos (.inr hb), Int.zero_mul]
  obtain ⟨m, rfl⟩ : ∃ m : Nat, a = (m : Int) := ⟨a.toNat, by omega⟩
  obtain ⟨n, rfl⟩ : ∃ n : Nat, b = (n : Int) := ⟨b.toNat, by omega⟩
  obtain rfl : x = m + p := by omega
  obtain rfl : y = n + q := by omega
  have hU : U + s = m + n := by omega
  have ew : wys (m : Int) (n : Int) = ((chs (m + n) n : Nat) : Int) := by
   unfold wys
   rw [if_neg (by omega), show ((m : Int) + (n : Int)).toNat = m + n by omega, Int.toNat_natCast]
  have e1 : ((fct (m + p) : Nat) : Int) = ((fct m : Nat) : Int) * ((asc m p : Nat) : Int) := by rw [fct_asc, Int.natCast_mul]
  have e2 : ((fct (n + q) : Nat) : Int) = ((fct n : Nat) : Int) * ((asc n q : Nat) : Int) := by rw [fct_asc, Int.natCast_mul]
  have e3 : ((fct U : Nat) : Int) * ((asc U s : Nat) : Int) = ((fct m : Nat) : Int) * (((chs (m + n) n : Nat) : Int) * ((fct n : Nat) : Int)) := by
   rw [← Int.natCast_mul, ← fct_asc, hU, fct_asc, asc_chs, Int.natCast_mul, Int.natCast_mul]
  rw [ew, rise_asc, rise_asc, rise_asc]
  have k0 := fct_pos' m
  have k1 := fct_pos' n
  have k2 : ((asc m p : Nat) : Int) ≠ 0 := fun w => by rw [w, Int.mul_zero] at e1; exact fct_pos' _ e1
  have k3 : ((asc n q : Nat) : Int) ≠ 0 := fun w => by rw [w, Int.mul_zero] at e2; exact fct_pos' _ e2
  rw [e1, e2] at hz
  generalize ((fct m : Nat) : Int) = M at *
  generalize ((fct n : Nat) : Int) = N at *
  generalize ((asc m p : Nat) : Int) = P at *
  generalize ((asc n q : Nat) : Int) = Q at *
  generalize ((chs (m + n) n : Nat) : Int) = C at *
  generalize ((asc U s : Nat) : Int) = S at *
  generalize ((fct U : Nat) : Int) = F at *
  have nz : M * N * (P * Q) ≠ 0 := Int.mul_ne_zero (Int.mul_ne_zero k0 k1) (Int.mul_ne_zero k2 k3)
  refine Int.eq_of_mul_eq_mul_right (Int.mul_ne_zero k0 k1) ?_
  have l : C * z.2 * (M * N) = (F * S) * z.2 := by rw [e3]; grind
  have r : S * (P * Q) * z.1 * (M * N) = S * (z.1 * (M * P * (N * Q))) := by grind
  rw [l, r, hz]; grind
def upl (x s : Int) : Int := rise (x + s) (-s).toNat
def dnl (x s : Int) : Int := rise x s.toNat
theorem ud_low {x y : Nat} {s : Int} (h : (y : Int) = x + s) : ((fct y : Nat) : Int) * upl (x : Int) s = ((fct x : Nat) : Int) * dnl (x : Int) s := by
 unfold upl dnl
 rw [← h]
 by_cases hs : 0 <= s
 ·obtain ⟨t, rfl⟩ : ∃ t : Nat, s = (t : Int) := ⟨s.toNat, by omega⟩
  obtain rfl : y = x + t := by omega
  rw [show (-(t : Int)).toNat = 0 by omega, Int.toNat_natCast, rise_asc x t, fct_asc, Int.natCast_mul]
  show _ * _ * 1 = _; rw [Int.mul_one]
 ·obtain ⟨t, ht⟩ : ∃ t : Nat, s = -(t : Int) := ⟨(-s).toNat, by omega⟩
  obtain rfl : x = y + t := by omega
  rw [ht, show (-(t : Int)).toNat = 0 by omega, Int.neg_neg, Int.toNat_natCast, rise_asc y t, fct_asc, Int.natCast_mul]
  show _ = _ * _ * 1; rw [Int.mul_one]
theorem up_none {x s : Int} (hx : 0 <= x) (h : x + s < 0) : upl x s = 0 := rise_zero h _ (by omega)
theorem dn_none {x s : Int} (hx : x < 0) (h : 0 <= x + s) : dnl x s = 0 := rise_zero hx _ (by omega)
theorem ud_cho {U s : Nat} {L G l g : Int} {z z' : Int × Int} (h : FlrOk U L G z) (h' : FlrOk (U + s) (L + l) (G + g) z') : rise (U : Int) s * (upl L l * upl G g) * z.1 * z'.2 = dnl L l * dnl G g * z'.1 * z.2 := by
 rcases h with ⟨hn, rfl⟩ | ⟨x, y, rfl, rfl, hz⟩
 ·rcases h' with ⟨hn', rfl⟩ | ⟨x', y', hx', hy', hz'⟩
  ·simp
  ·have : dnl L l * dnl G g = 0 := by
    rcases hn with h | h
    ·rw [dn_none h (by omega), Int.zero_mul]
    ·rw [dn_none h (by omega), Int.mul_zero]
   rw [this]; simp
 ·rcases h' with ⟨hn', rfl⟩ | ⟨x', y', hx', hy', hz'⟩
  ·have : upl (x : Int) l * upl (y : Int) g = 0 := by
    rcases hn' with h | h
    ·rw [up_none (by omega) h, Int.zero_mul]
    ·rw [up_none (by omega) h, Int.mul_zero]
   rw [this]; simp
  ·have a1 := ud_low (x := x) (y := x') (s := l) (by omega)
   have a2 := ud_low (x := y) (y := y') (s := g) (by omega)
   have a3 : ((fct (U + s) : Nat) : Int) = ((fct U : Nat) : Int) * rise (U : Int) s := by rw [rise_asc, fct_asc, Int.natCast_mul]
   have k1 := fct_pos' x
   have k2 := fct_pos' y
   have k3 := fct_pos' x'
   have k4 := fct_pos' y'
   rw [a3] at hz'
   generalize ((fct x : Nat) : Int) = X at *
   generalize ((fct y : Nat) : Int) = Y at *
   generalize ((fct x' : Nat) : Int) = X' at *
   generalize ((fct y' : Nat) : Int) = Y' at *
   generalize ((fct U : Nat) : Int) = F at *
   generalize rise (U : Int) s = R at *
   generalize upl (x : Int) l = u1 at *
   generalize upl (y : Int) g = u2 at *
   generalize dnl (x : Int) l = d1 at *
   generalize dnl (y : Int) g = d2 at *
   refine Int.eq_of_mul_eq_mul_right (Int.mul_ne_zero (Int.mul_ne_zero k1 k2) (Int.mul_ne_zero k3 k4)) ?_
   have l1 : R * (u1 * u2) * z.1 * z'.2 * (X * Y * (X' * Y')) = (z.1 * (X * Y)) * (R * z'.2) * ((X' * u1) * (Y' * u2)) := by grind
   have r1 : d1 * d2 * z'.1 * z.2 * (X * Y * (X' * Y')) = (z'.1 * (X' * Y')) * z.2 * ((X * d1) * (Y * d2)) := by grind
   rw [l1, r1, hz, hz', a1, a2]; grind
end My
namespace My
open PySem PySem.Spec PyProof.Rows L2
seal L2.PE L2.PS L2.PSs L2.PA
local macro_rules | `(tactic| k_units) => `(tactic| ((try dsimp only [a_fld, a_sfld, a_meth, a_make, a_dget2, a_dget, a_dnot, a_dput, a_dnew, a_disp, a_pnil, a_pcons, a_items, a_keys, a_tComp2If, a_maxD, a_inS, a_ipC, a_izip, a_tComp2, a_izip3, a_tComp3, a_make0, a_eqS, a_ext, a_tryAs, a_drop_nx, a_raise, a_try, a_fst, a_compIf, a_seq, a_next, a_brk, a_cnt, a_drop, a_ret, a_retN, a_if, a_asg, a_gname, a_gsub, a_gtup, a_gnil, a_gcons, a_aug, a_augS, a_ipI, a_var, a_c, a_op, a_un, a_rI, a_rI0, a_rU, a_eqI, a_neI, a_eqB, a_neB, a_tB, a_test, a_and, a_or, a_not, a_andV, a_orV, a_notV, a_ifE, a_chain, a_nil, a_cons, a_lst, a_tup, a_call, a_cb, a_bm0, a_bm, a_sl, a_nopart, a_part, a_tyI, a_for, a_comp, a_ilist, a_itup, a_irng1, a_irng2, a_irng3, a_cxK, a_irev, a_ienum, a_cat, a_rep, a_pop, a_clear, a_rslL, a_ixL, a_ixT, a_setL, a_app]); (try simp only [a_fld, a_sfld, a_meth, a_make, a_dget2, a_dget, a_dnot, a_dput, a_dnew, a_disp, a_pnil, a_pcons, a_items, a_keys, a_tComp2If, a_maxD, a_inS, a_ipC, a_izip, a_tComp2, a_izip3, a_tComp3, a_make0, a_eqS, V.str.injEq, a_ext, a_tryAs, a_drop_nx, a_raise, a_try, a_fst, a_compIf, a_seq, a_next, a_brk, a_cnt, a_drop, a_ret, a_retN, a_if, a_asg, a_gname, a_gsub, a_gtup, a_gnil, a_gcons, a_aug, a_augS, a_ipI, a_var, a_c, a_op, a_un, a_rI, a_rI0, a_rU, a_eqI, a_neI, a_eqB, a_neB, a_tB, a_test, a_and, a_or, a_not, a_andV, a_orV, a_notV, a_ifE, a_chain, a_nil, a_cons, a_lst, a_tup, a_call, a_cb, a_bm0, a_bm, a_sl, a_nopart, a_part, a_tyI, a_for, a_comp, a_ilist, a_itup, a_irng1, a_irng2, a_irng3, a_cxK, and_assoc, a_irev, a_ienum, a_cat, a_rep, a_pop, a_clear, a_rslL, a_ixL, a_ixT, a_setL, a_app, List.getElem?_cons_zero, List.getElem?_cons_succ, List.set_cons_zero, List.set_cons_succ, Option.some.injEq, V.int.injEq, V.bl.injEq, V.ref.injEq, V.ty.injEq, exists_eq_left', exists_eq_left, exists_and_left, decide_eq_true_eq, List.cons_append, List.nil_append, List.append_nil, List.cons.injEq, and_true, true_and, Bool.not_eq_true', decide_eq_false_iff_not, ite_true, ite_false, Bool.false_eq_true, if_true, if_false, List.length_cons, List.length_nil, L2.start, List.map_cons, List.map_nil, List.replicate_succ, List.replicate_zero])))
local macro_rules | `(tactic| k_typeOf) => `(tactic| ((try dsimp only [a_fld, a_sfld, a_meth, a_make, a_dget2, a_dget, a_dnot, a_dput, a_dnew, a_disp, a_pnil, a_pcons, a_items, a_keys, a_tComp2If, a_maxD, a_inS, a_ipC, a_izip, a_tComp2, a_izip3, a_tComp3, a_make0, a_eqS, a_ext, a_tryAs, a_drop_nx, a_raise, a_try, a_fst, a_compIf, a_next, a_brk, a_cnt, a_drop, a_ret, a_retN, a_if, a_asg, a_gname, a_gsub, a_gtup, a_gnil, a_gcons, a_aug, a_augS, a_ipI, a_var, a_c, a_op, a_un, a_rI, a_rI0, a_rU, a_eqI, a_neI, a_eqB, a_neB, a_tB, a_test, a_and, a_or, a_not, a_andV, a_orV, a_notV, a_ifE, a_chain, a_nil, a_cons, a_lst, a_tup, a_call, a_cb, a_bm0, a_bm, a_sl, a_nopart, a_part, a_tyI, a_for, a_comp, a_ilist, a_itup, a_irng1, a_irng2, a_irng3, a_cxK, a_irev, a_ienum, a_cat, a_rep, a_pop, a_clear, a_rslL, a_ixL, a_ixT, a_setL, a_app]); (try simp only [a_fld, a_sfld, a_meth, a_make, a_dget2, a_dget, a_dnot, a_dput, a_dnew, a_disp, a_pnil, a_pcons, a_items, a_keys, a_tComp2If, a_maxD, a_inS, a_ipC, a_izip, a_tComp2, a_izip3, a_tComp3, a_make0, a_eqS, V.str.injEq, a_ext, a_tryAs, a_drop_nx, a_raise, a_try, a_fst, a_compIf, a_next, a_brk, a_cnt, a_drop, a_ret, a_retN, a_if, a_asg, a_gname, a_gsub, a_gtup, a_gnil, a_gcons, a_aug, a_augS, a_ipI, a_var, a_c, a_op, a_un, a_rI, a_rI0, a_rU, a_eqI, a_neI, a_eqB, a_neB, a_tB, a_test, a_and, a_or, a_not, a_andV, a_orV, a_notV, a_ifE, a_chain, a_nil, a_cons, a_lst, a_tup, a_call, a_cb, a_bm0, a_bm, a_sl, a_nopart, a_part, a_tyI, a_for, a_comp, a_ilist, a_itup, a_irng1, a_irng2, a_irng3, a_cxK, and_assoc, a_irev, a_ienum, a_cat, a_rep, a_pop, a_clear, a_rslL, a_ixL, a_ixT, a_setL, a_app, List.getElem?_cons_zero, List.getElem?_cons_succ, List.set_cons_zero, List.set_cons_succ, Option.some.injEq, V.int.injEq, V.bl.injEq, V.ref.injEq, V.ty.injEq, exists_eq_left', exists_eq_left, exists_and_left, decide_eq_true_eq, List.cons_append, List.nil_append, List.append_nil, List.cons.injEq, and_true, true_and, Bool.not_eq_true', decide_eq_false_iff_not, ite_true, ite_false, Bool.false_eq_true, if_true, if_false, List.length_cons, List.length_nil, L2.start, List.map_cons, List.map_nil, List.replicate_succ, List.replicate_zero])))
local macro_rules | `(tactic| w_on) => `(tactic| exact ⟨rfl, rfl, rfl, by decide +kernel, rfl, by decide +kernel, by decide +kernel⟩)
theorem sc_bare : FnScope ["pair"] ["pair"] (defScope s_bare) := by w_on
theorem sc_pair_times : FnScope ["one", "other", "answer", "low", "number", "high", "factor", "powers"] ["one", "other"] (defScope s_pair_times) := by w_on
theorem sc_pair_of_form : FnScope ["form"] ["form"] (defScope s_pair_of_form) := by w_on
theorem sc_pair_product : FnScope ["pairs", "answer", "pair"] ["pairs"] (defScope s_pair_product) := by w_on
theorem sc_divisor : FnScope ["one", "other", "big", "small", "pair", "rest"] ["one", "other"] (defScope s_divisor) := by w_on
theorem sc_ratio : FnScope ["top", "bottom", "shared"] ["top", "bottom"] (defScope s_ratio) := by w_on
theorem sc_form_value : FnScope ["form", "n", "k"] ["form", "n", "k"] (defScope s_form_value) := by w_on
theorem sc_raised : FnScope ["form", "by"] ["form", "by"] (defScope s_raised) := by w_on
theorem sc_raised_from : FnScope ["form", "low", "high"] ["form", "low", "high"] (defScope s_raised_from) := by w_on
theorem sc_low_forms : FnScope ["upper", "lower"] ["upper", "lower"] (defScope s_low_forms) := by w_on
theorem sc_power_of : FnScope ["number", "exponent", "answer", "step"] ["number", "exponent"] (defScope s_power_of) := by w_on
theorem sc_run_product : FnScope ["low", "high", "answer", "number", "middle"] ["low", "high"] (defScope s_run_product) := by w_on
theorem sc_choices : FnScope ["one", "other", "few"] ["one", "other"] (defScope s_choices) := by w_on
theorem sc_within : FnScope ["form", "least"] ["form", "least"] (defScope s_within) := by w_on
theorem sc_check_choose : FnScope ["upper", "lower", "low"] ["upper", "lower"] (defScope s_check_choose) := by w_on
theorem sc_check_base : FnScope ["fraction"] ["fraction"] (defScope s_check_base) := by w_on
theorem sc_piece_of : FnScope ["part"] ["part"] (defScope s_piece_of) := by w_on
theorem sc_product : FnScope ["fractions", "top", "bottom", "fraction", "left", "right"] ["fractions"] (defScope s_product) := by w_on
theorem sc__law_cell_at : FnScope ["_law_script", "_law_k"] ["_law_script", "_law_k"] (defScope s__law_cell_at) := by w_on
theorem sc__law_number : FnScope ["_law_cell", "_law_most"] ["_law_cell", "_law_most"] (defScope s__law_number) := by w_on
theorem sc__law_whole : FnScope ["_law_found"] ["_law_found"] (defScope s__law_whole) := by w_on
theorem sc__law_divisor : FnScope ["_law_one", "_law_other", "_law_rest"] ["_law_one", "_law_other"] (defScope s__law_divisor) := by w_on
theorem sc__law_mixed : FnScope ["_law_cell", "_law_k", "_law_number_here", "_law_time"] ["_law_cell", "_law_k"] (defScope s__law_mixed) := by w_on
theorem sc__law_forms : FnScope ["_law_one", "_law_other", "_law_most", "_law_high", "_law_low"] ["_law_one", "_law_other", "_law_most"] (defScope s__law_forms) := by w_on
theorem sc__law_ratio : FnScope ["_law_one", "_law_other", "_law_top", "_law_number_here", "_law_bottom", "_law_by"] ["_law_one", "_law_other"] (defScope s__law_ratio) := by w_on
theorem sc__law_part : FnScope ["_law_cells", "_law_most", "_law_way"] ["_law_cells", "_law_most"] (defScope s__law_part) := by w_on
theorem sc__law_parts : FnScope ["_law_script", "_law_mosts", "_law_found", "_law_k", "_law_part_here"] ["_law_script", "_law_mosts"] (defScope s__law_parts) := by w_on
theorem sc__law_pair_at : FnScope ["_law_some", "_law_n", "_law_k", "_law_most", "_law_powers", "_law_lists", "_law_time", "_law_found", "_law_number_here"] ["_law_some", "_law_n", "_law_k"] (defScope s__law_pair_at) := by w_on
theorem sc__law_is_fraction : FnScope ["_law_found"] ["_law_found"] (defScope s__law_is_fraction) := by w_on
theorem sc__law_holds : FnScope ["_law_term", "_law_frame", "_law_far", "_law_n", "_law_k", "_law_here", "_law_there", "_law_i", "_law_worth", "_law_up"] ["_law_term", "_law_frame", "_law_far", "_law_n", "_law_k"] (defScope s__law_holds) := by w_on
theorem sc_law : FnScope ["_law_script", "_law_parts_here", "_law_far", "_law_term", "_law_frame", "_law_points", "_law_cell", "_law_number_here", "_law_most", "_law_n", "_law_k"] ["_law_script"] (defScope s_law) := by w_on
theorem sc_Part_step : FnScope ["self", "i", "far"] ["self", "i", "far"] (defScope s_Part_step) := by w_on
theorem sc_Part_up : FnScope ["self", "far"] ["self", "far"] (defScope s_Part_up) := by w_on
theorem sc_Part_down : FnScope ["self", "far"] ["self", "far"] (defScope s_Part_down) := by w_on
theorem sc_Part_floor : FnScope ["self", "n", "k", "far"] ["self", "n", "k", "far"] (defScope s_Part_floor) := by w_on
theorem sc_Choose___init__ : FnScope ["self", "upper", "lower"] ["self", "upper", "lower"] (defScope s_Choose___init__) := by w_on
theorem sc_Choose_lifted : FnScope ["self", "far"] ["self", "far"] (defScope s_Choose_lifted) := by w_on
theorem sc_Choose_worth : FnScope ["self", "n", "k"] ["self", "n", "k"] (defScope s_Choose_worth) := by w_on
theorem sc_Choose_step : FnScope ["self", "i", "far", "factors", "low"] ["self", "i", "far"] (defScope s_Choose_step) := by w_on
theorem sc_Choose_up : FnScope ["self", "far", "factors", "low"] ["self", "far"] (defScope s_Choose_up) := by w_on
theorem sc_Choose_down : FnScope ["self", "far", "factors", "low"] ["self", "far"] (defScope s_Choose_down) := by w_on
theorem sc_Choose_floor : FnScope ["self", "n", "k", "far", "above", "below"] ["self", "n", "k", "far"] (defScope s_Choose_floor) := by w_on
theorem sc_Weight___init__ : FnScope ["self", "form"] ["self", "form"] (defScope s_Weight___init__) := by w_on
theorem sc_Weight_worth : FnScope ["self", "n", "k"] ["self", "n", "k"] (defScope s_Weight_worth) := by w_on
theorem sc_Weight_step : FnScope ["self", "i", "far"] ["self", "i", "far"] (defScope s_Weight_step) := by w_on
theorem sc_Power___init__ : FnScope ["self", "fraction"] ["self", "fraction"] (defScope s_Power___init__) := by w_on
theorem sc_Power_worth : FnScope ["self", "n", "k"] ["self", "n", "k"] (defScope s_Power_worth) := by w_on
theorem sc_Power_up : FnScope ["self", "far"] ["self", "far"] (defScope s_Power_up) := by w_on
theorem sc_Power_down : FnScope ["self", "far"] ["self", "far"] (defScope s_Power_down) := by w_on
theorem sc_Power_floor : FnScope ["self", "n", "k", "far"] ["self", "n", "k", "far"] (defScope s_Power_floor) := by w_on
theorem sc_Growth___init__ : FnScope ["self", "fraction"] ["self", "fraction"] (defScope s_Growth___init__) := by w_on
theorem sc_Growth_worth : FnScope ["self", "n", "k"] ["self", "n", "k"] (defScope s_Growth_worth) := by w_on
theorem sc_Growth_step : FnScope ["self", "i", "far"] ["self", "i", "far"] (defScope s_Growth_step) := by w_on
theorem sc_Growth_floor : FnScope ["self", "n", "k", "far"] ["self", "n", "k", "far"] (defScope s_Growth_floor) := by w_on
theorem sc_Term___init__ : FnScope ["self", "parts"] ["self", "parts"] (defScope s_Term___init__) := by w_on
theorem sc_Term_worth : FnScope ["self", "n", "k"] ["self", "n", "k"] (defScope s_Term_worth) := by w_on
theorem sc_Term_floor : FnScope ["self", "n", "k", "far"] ["self", "n", "k", "far"] (defScope s_Term_floor) := by w_on
theorem sc_Term_frame : FnScope ["self", "far", "steps", "up", "down"] ["self", "far"] (defScope s_Term_frame) := by w_on
set_option genInjectivity false in
set_option genSizeOf false in
structure Tx (K : PySem.W.Frag) (mg : Str -> Option Value) where
 a_bare : Addr
 fd_bare : FuncData
 F_bare : Fun K "bare" "bare" s_bare a_bare fd_bare
 m_bare : mg "bare" = some (.ref a_bare)
 b_bare : Binds K fd_bare ["pair"] []
 a_pair_times : Addr
 fd_pair_times : FuncData
 F_pair_times : Fun K "pair_times" "pair_times" s_pair_times a_pair_times fd_pair_times
 m_pair_times : mg "pair_times" = some (.ref a_pair_times)
 b_pair_times : Binds K fd_pair_times ["one", "other"] []
 a_pair_of_form : Addr
 fd_pair_of_form : FuncData
 F_pair_of_form : Fun K "pair_of_form" "pair_of_form" s_pair_of_form a_pair_of_form fd_pair_of_form
 m_pair_of_form : mg "pair_of_form" = some (.ref a_pair_of_form)
 b_pair_of_form : Binds K fd_pair_of_form ["form"] []
 a_pair_product : Addr
 fd_pair_product : FuncData
 F_pair_product : Fun K "pair_product" "pair_product" s_pair_product a_pair_product fd_pair_product
 m_pair_product : mg "pair_product" = some (.ref a_pair_product)
 b_pair_product : Binds K fd_pair_product ["pairs"] []
 a_divisor : Addr
 fd_divisor : FuncData
 F_divisor : Fun K "divisor" "divisor" s_divisor a_divisor fd_divisor
 m_divisor : mg "divisor" = some (.ref a_divisor)
 b_divisor : Binds K fd_divisor ["one", "other"] []
 a_ratio : Addr
 fd_ratio : FuncData
 F_ratio : Fun K "ratio" "ratio" s_ratio a_ratio fd_ratio
 m_ratio : mg "ratio" = some (.ref a_ratio)
 b_ratio : Binds K fd_ratio ["top", "bottom"] []
 a_form_value : Addr
 fd_form_value : FuncData
 F_form_value : Fun K "form_value" "form_value" s_form_value a_form_value fd_form_value
 m_form_value : mg "form_value" = some (.ref a_form_value)
 b_form_value : Binds K fd_form_value ["form", "n", "k"] []
 a_raised : Addr
 fd_raised : FuncData
 F_raised : Fun K "raised" "raised" s_raised a_raised fd_raised
 m_raised : mg "raised" = some (.ref a_raised)
 b_raised : Binds K fd_raised ["form", "by"] []
 a_raised_from : Addr
 fd_raised_from : FuncData
 F_raised_from : Fun K "raised_from" "raised_from" s_raised_from a_raised_from fd_raised_from
 m_raised_from : mg "raised_from" = some (.ref a_raised_from)
 b_raised_from : Binds K fd_raised_from ["form", "low", "high"] []
 a_low_forms : Addr
 fd_low_forms : FuncData
 F_low_forms : Fun K "low_forms" "low_forms" s_low_forms a_low_forms fd_low_forms
 m_low_forms : mg "low_forms" = some (.ref a_low_forms)
 b_low_forms : Binds K fd_low_forms ["upper", "lower"] []
 a_power_of : Addr
 fd_power_of : FuncData
 F_power_of : Fun K "power_of" "power_of" s_power_of a_power_of fd_power_of
 m_power_of : mg "power_of" = some (.ref a_power_of)
 b_power_of : Binds K fd_power_of ["number", "exponent"] []
 a_run_product : Addr
 fd_run_product : FuncData
 F_run_product : Fun K "run_product" "run_product" s_run_product a_run_product fd_run_product
 m_run_product : mg "run_product" = some (.ref a_run_product)
 b_run_product : Binds K fd_run_product ["low", "high"] []
 a_choices : Addr
 fd_choices : FuncData
 F_choices : Fun K "choices" "choices" s_choices a_choices fd_choices
 m_choices : mg "choices" = some (.ref a_choices)
 b_choices : Binds K fd_choices ["one", "other"] []
 a_within : Addr
 fd_within : FuncData
 F_within : Fun K "within" "within" s_within a_within fd_within
 m_within : mg "within" = some (.ref a_within)
 b_within : Binds K fd_within ["form", "least"] []
 a_check_choose : Addr
 fd_check_choose : FuncData
 F_check_choose : Fun K "check_choose" "check_choose" s_check_choose a_check_choose fd_check_choose
 m_check_choose : mg "check_choose" = some (.ref a_check_choose)
 b_check_choose : Binds K fd_check_choose ["upper", "lower"] []
 a_check_base : Addr
 fd_check_base : FuncData
 F_check_base : Fun K "check_base" "check_base" s_check_base a_check_base fd_check_base
 m_check_base : mg "check_base" = some (.ref a_check_base)
 b_check_base : Binds K fd_check_base ["fraction"] []
 a_piece_of : Addr
 fd_piece_of : FuncData
 F_piece_of : Fun K "piece_of" "piece_of" s_piece_of a_piece_of fd_piece_of
 m_piece_of : mg "piece_of" = some (.ref a_piece_of)
 b_piece_of : Binds K fd_piece_of ["part"] []
 a_product : Addr
 fd_product : FuncData
 F_product : Fun K "product" "product" s_product a_product fd_product
 m_product : mg "product" = some (.ref a_product)
 b_product : Binds K fd_product ["fractions"] []
 a__law_cell_at : Addr
 fd__law_cell_at : FuncData
 F__law_cell_at : Fun K "_law_cell_at" "_law_cell_at" s__law_cell_at a__law_cell_at fd__law_cell_at
 m__law_cell_at : mg "_law_cell_at" = some (.ref a__law_cell_at)
 b__law_cell_at : Binds K fd__law_cell_at ["_law_script", "_law_k"] []
 a__law_number : Addr
 fd__law_number : FuncData
 F__law_number : Fun K "_law_number" "_law_number" s__law_number a__law_number fd__law_number
 m__law_number : mg "_law_number" = some (.ref a__law_number)
 b__law_number : Binds K fd__law_number ["_law_cell", "_law_most"] []
 a__law_whole : Addr
 fd__law_whole : FuncData
 F__law_whole : Fun K "_law_whole" "_law_whole" s__law_whole a__law_whole fd__law_whole
 m__law_whole : mg "_law_whole" = some (.ref a__law_whole)
 b__law_whole : Binds K fd__law_whole ["_law_found"] []
 a__law_divisor : Addr
 fd__law_divisor : FuncData
 F__law_divisor : Fun K "_law_divisor" "_law_divisor" s__law_divisor a__law_divisor fd__law_divisor
 m__law_divisor : mg "_law_divisor" = some (.ref a__law_divisor)
 b__law_divisor : Binds K fd__law_divisor ["_law_one", "_law_other"] []
 a__law_mixed : Addr
 fd__law_mixed : FuncData
 F__law_mixed : Fun K "_law_mixed" "_law_mixed" s__law_mixed a__law_mixed fd__law_mixed
 m__law_mixed : mg "_law_mixed" = some (.ref a__law_mixed)
 b__law_mixed : Binds K fd__law_mixed ["_law_cell", "_law_k"] []
 a__law_forms : Addr
 fd__law_forms : FuncData
 F__law_forms : Fun K "_law_forms" "_law_forms" s__law_forms a__law_forms fd__law_forms
 m__law_forms : mg "_law_forms" = some (.ref a__law_forms)
 b__law_forms : Binds K fd__law_forms ["_law_one", "_law_other", "_law_most"] []
 a__law_ratio : Addr
 fd__law_ratio : FuncData
 F__law_ratio : Fun K "_law_ratio" "_law_ratio" s__law_ratio a__law_ratio fd__law_ratio
 m__law_ratio : mg "_law_ratio" = some (.ref a__law_ratio)
 b__law_ratio : Binds K fd__law_ratio ["_law_one", "_law_other"] []
 a__law_part : Addr
 fd__law_part : FuncData
 F__law_part : Fun K "_law_part" "_law_part" s__law_part a__law_part fd__law_part
 m__law_part : mg "_law_part" = some (.ref a__law_part)
 b__law_part : Binds K fd__law_part ["_law_cells", "_law_most"] []
 a__law_parts : Addr
 fd__law_parts : FuncData
 F__law_parts : Fun K "_law_parts" "_law_parts" s__law_parts a__law_parts fd__law_parts
 m__law_parts : mg "_law_parts" = some (.ref a__law_parts)
 b__law_parts : Binds K fd__law_parts ["_law_script", "_law_mosts"] []
 a__law_pair_at : Addr
 fd__law_pair_at : FuncData
 F__law_pair_at : Fun K "_law_pair_at" "_law_pair_at" s__law_pair_at a__law_pair_at fd__law_pair_at
 m__law_pair_at : mg "_law_pair_at" = some (.ref a__law_pair_at)
 b__law_pair_at : Binds K fd__law_pair_at ["_law_some", "_law_n", "_law_k"] []
 a__law_is_fraction : Addr
 fd__law_is_fraction : FuncData
 F__law_is_fraction : Fun K "_law_is_fraction" "_law_is_fraction" s__law_is_fraction a__law_is_fraction fd__law_is_fraction
 m__law_is_fraction : mg "_law_is_fraction" = some (.ref a__law_is_fraction)
 b__law_is_fraction : Binds K fd__law_is_fraction ["_law_found"] []
 a__law_holds : Addr
 fd__law_holds : FuncData
 F__law_holds : Fun K "_law_holds" "_law_holds" s__law_holds a__law_holds fd__law_holds
 m__law_holds : mg "_law_holds" = some (.ref a__law_holds)
 b__law_holds : Binds K fd__law_holds ["_law_term", "_law_frame", "_law_far", "_law_n", "_law_k"] []
 a_law : Addr
 fd_law : FuncData
 F_law : Fun K "law" "law" s_law a_law fd_law
 m_law : mg "law" = some (.ref a_law)
 b_law : Binds K fd_law ["_law_script"] []
 a_Part_step : Addr
 fd_Part_step : FuncData
 F_Part_step : Fun K "step" "Part.step" s_Part_step a_Part_step fd_Part_step
 b_Part_step : Binds K fd_Part_step ["self", "i", "far"] []
 a_Part_up : Addr
 fd_Part_up : FuncData
 F_Part_up : Fun K "up" "Part.up" s_Part_up a_Part_up fd_Part_up
 b_Part_up : Binds K fd_Part_up ["self", "far"] []
 a_Part_down : Addr
 fd_Part_down : FuncData
 F_Part_down : Fun K "down" "Part.down" s_Part_down a_Part_down fd_Part_down
 b_Part_down : Binds K fd_Part_down ["self", "far"] []
 a_Part_floor : Addr
 fd_Part_floor : FuncData
 F_Part_floor : Fun K "floor" "Part.floor" s_Part_floor a_Part_floor fd_Part_floor
 b_Part_floor : Binds K fd_Part_floor ["self", "n", "k", "far"] []
 a_Choose___init__ : Addr
 fd_Choose___init__ : FuncData
 F_Choose___init__ : Fun K "__init__" "Choose.__init__" s_Choose___init__ a_Choose___init__ fd_Choose___init__
 b_Choose___init__ : Binds K fd_Choose___init__ ["self", "upper", "lower"] []
 a_Choose_lifted : Addr
 fd_Choose_lifted : FuncData
 F_Choose_lifted : Fun K "lifted" "Choose.lifted" s_Choose_lifted a_Choose_lifted fd_Choose_lifted
 b_Choose_lifted : Binds K fd_Choose_lifted ["self", "far"] []
 a_Choose_worth : Addr
 fd_Choose_worth : FuncData
 F_Choose_worth : Fun K "worth" "Choose.worth" s_Choose_worth a_Choose_worth fd_Choose_worth
 b_Choose_worth : Binds K fd_Choose_worth ["self", "n", "k"] []
 a_Choose_step : Addr
 fd_Choose_step : FuncData
 F_Choose_step : Fun K "step" "Choose.step" s_Choose_step a_Choose_step fd_Choose_step
 b_Choose_step : Binds K fd_Choose_step ["self", "i", "far"] []
 a_Choose_up : Addr
 fd_Choose_up : FuncData
 F_Choose_up : Fun K "up" "Choose.up" s_Choose_up a_Choose_up fd_Choose_up
 b_Choose_up : Binds K fd_Choose_up ["self", "far"] []
 a_Choose_down : Addr
 fd_Choose_down : FuncData
 F_Choose_down : Fun K "down" "Choose.down" s_Choose_down a_Choose_down fd_Choose_down
 b_Choose_down : Binds K fd_Choose_down ["self", "far"] []
 a_Choose_floor : Addr
 fd_Choose_floor : FuncData
 F_Choose_floor : Fun K "floor" "Choose.floor" s_Choose_floor a_Choose_floor fd_Choose_floor
 b_Choose_floor : Binds K fd_Choose_floor ["self", "n", "k", "far"] []
 a_Weight___init__ : Addr
 fd_Weight___init__ : FuncData
 F_Weight___init__ : Fun K "__init__" "Weight.__init__" s_Weight___init__ a_Weight___init__ fd_Weight___init__
 b_Weight___init__ : Binds K fd_Weight___init__ ["self", "form"] []
 a_Weight_worth : Addr
 fd_Weight_worth : FuncData
 F_Weight_worth : Fun K "worth" "Weight.worth" s_Weight_worth a_Weight_worth fd_Weight_worth
 b_Weight_worth : Binds K fd_Weight_worth ["self", "n", "k"] []
 a_Weight_step : Addr
 fd_Weight_step : FuncData
 F_Weight_step : Fun K "step" "Weight.step" s_Weight_step a_Weight_step fd_Weight_step
 b_Weight_step : Binds K fd_Weight_step ["self", "i", "far"] []
 a_Power___init__ : Addr
 fd_Power___init__ : FuncData
 F_Power___init__ : Fun K "__init__" "Power.__init__" s_Power___init__ a_Power___init__ fd_Power___init__
 b_Power___init__ : Binds K fd_Power___init__ ["self", "fraction"] []
 a_Power_worth : Addr
 fd_Power_worth : FuncData
 F_Power_worth : Fun K "worth" "Power.worth" s_Power_worth a_Power_worth fd_Power_worth
 b_Power_worth : Binds K fd_Power_worth ["self", "n", "k"] []
 a_Power_up : Addr
 fd_Power_up : FuncData
 F_Power_up : Fun K "up" "Power.up" s_Power_up a_Power_up fd_Power_up
 b_Power_up : Binds K fd_Power_up ["self", "far"] []
 a_Power_down : Addr
 fd_Power_down : FuncData
 F_Power_down : Fun K "down" "Power.down" s_Power_down a_Power_down fd_Power_down
 b_Power_down : Binds K fd_Power_down ["self", "far"] []
 a_Power_floor : Addr
 fd_Power_floor : FuncData
 F_Power_floor : Fun K "floor" "Power.floor" s_Power_floor a_Power_floor fd_Power_floor
 b_Power_floor : Binds K fd_Power_floor ["self", "n", "k", "far"] []
 a_Growth___init__ : Addr
 fd_Growth___init__ : FuncData
 F_Growth___init__ : Fun K "__init__" "Growth.__init__" s_Growth___init__ a_Growth___init__ fd_Growth___init__
 b_Growth___init__ : Binds K fd_Growth___init__ ["self", "fraction"] []
 a_Growth_worth : Addr
 fd_Growth_worth : FuncData
 F_Growth_worth : Fun K "worth" "Growth.worth" s_Growth_worth a_Growth_worth fd_Growth_worth
 b_Growth_worth : Binds K fd_Growth_worth ["self", "n", "k"] []
 a_Growth_step : Addr
 fd_Growth_step : FuncData
 F_Growth_step : Fun K "step" "Growth.step" s_Growth_step a_Growth_step fd_Growth_step
 b_Growth_step : Binds K fd_Growth_step ["self", "i", "far"] []
 a_Growth_floor : Addr
 fd_Growth_floor : FuncData
 F_Growth_floor : Fun K "floor" "Growth.floor" s_Growth_floor a_Growth_floor fd_Growth_floor
 b_Growth_floor : Binds K fd_Growth_floor ["self", "n", "k", "far"] []
 a_Term___init__ : Addr
 fd_Term___init__ : FuncData
 F_Term___init__ : Fun K "__init__" "Term.__init__" s_Term___init__ a_Term___init__ fd_Term___init__
 b_Term___init__ : Binds K fd_Term___init__ ["self", "parts"] []
 a_Term_worth : Addr
 fd_Term_worth : FuncData
 F_Term_worth : Fun K "worth" "Term.worth" s_Term_worth a_Term_worth fd_Term_worth
 b_Term_worth : Binds K fd_Term_worth ["self", "n", "k"] []
 a_Term_floor : Addr
 fd_Term_floor : FuncData
 F_Term_floor : Fun K "floor" "Term.floor" s_Term_floor a_Term_floor fd_Term_floor
 b_Term_floor : Binds K fd_Term_floor ["self", "n", "k", "far"] []
 a_Term_frame : Addr
 fd_Term_frame : FuncData
 F_Term_frame : Fun K "frame" "Term.frame" s_Term_frame a_Term_frame fd_Term_frame
 b_Term_frame : Binds K fd_Term_frame ["self", "far"] []
 c_NoNumber : Addr
 mc_NoNumber : mg "NoNumber" = some (.ref c_NoNumber)
 xc_NoNumber : PySem.W.excIn K c_NoNumber bmV "ValueError.__new__" = true
 c_NoTerm : Addr
 mc_NoTerm : mg "NoTerm" = some (.ref c_NoTerm)
 xc_NoTerm : PySem.W.excIn K c_NoTerm bmV "ValueError.__new__" = true
 c_Choose : Addr
 mc_Choose : mg "Choose" = some (.ref c_Choose)
 cl_Choose : Cls K c_Choose
 mk_Choose : Mk K c_Choose a_Choose___init__
 me_Choose_lifted : Meth K c_Choose "lifted" a_Choose_lifted
 me_Choose_worth : Meth K c_Choose "worth" a_Choose_worth
 me_Choose_step : Meth K c_Choose "step" a_Choose_step
 me_Choose_up : Meth K c_Choose "up" a_Choose_up
 me_Choose_down : Meth K c_Choose "down" a_Choose_down
 me_Choose_floor : Meth K c_Choose "floor" a_Choose_floor
 na_Choose_above : NoAttr K c_Choose "above"
 na_Choose_lows : NoAttr K c_Choose "lows"
 c_Growth : Addr
 mc_Growth : mg "Growth" = some (.ref c_Growth)
 cl_Growth : Cls K c_Growth
 mk_Growth : Mk K c_Growth a_Growth___init__
 me_Growth_worth : Meth K c_Growth "worth" a_Growth_worth
 me_Growth_step : Meth K c_Growth "step" a_Growth_step
 me_Growth_floor : Meth K c_Growth "floor" a_Growth_floor
 me_Growth_down : Meth K c_Growth "down" a_Part_down
 me_Growth_up : Meth K c_Growth "up" a_Part_up
 na_Growth_fraction : NoAttr K c_Growth "fraction"
 c_Part : Addr
 mc_Part : mg "Part" = some (.ref c_Part)
 cl_Part : Cls K c_Part
 me_Part_step : Meth K c_Part "step" a_Part_step
 me_Part_up : Meth K c_Part "up" a_Part_up
 me_Part_down : Meth K c_Part "down" a_Part_down
 me_Part_floor : Meth K c_Part "floor" a_Part_floor
 c_Power : Addr
 mc_Power : mg "Power" = some (.ref c_Power)
 cl_Power : Cls K c_Power
 mk_Power : Mk K c_Power a_Power___init__
 me_Power_worth : Meth K c_Power "worth" a_Power_worth
 me_Power_up : Meth K c_Power "up" a_Power_up
 me_Power_down : Meth K c_Power "down" a_Power_down
 me_Power_floor : Meth K c_Power "floor" a_Power_floor
 me_Power_step : Meth K c_Power "step" a_Part_step
 na_Power_fraction : NoAttr K c_Power "fraction"
 c_Term : Addr
 mc_Term : mg "Term" = some (.ref c_Term)
 cl_Term : Cls K c_Term
 mk_Term : Mk K c_Term a_Term___init__
 me_Term_worth : Meth K c_Term "worth" a_Term_worth
 me_Term_floor : Meth K c_Term "floor" a_Term_floor
 me_Term_frame : Meth K c_Term "frame" a_Term_frame
 na_Term_parts : NoAttr K c_Term "parts"
 na_Term_pieces : NoAttr K c_Term "pieces"
 c_Weight : Addr
 mc_Weight : mg "Weight" = some (.ref c_Weight)
 cl_Weight : Cls K c_Weight
 mk_Weight : Mk K c_Weight a_Weight___init__
 me_Weight_worth : Meth K c_Weight "worth" a_Weight_worth
 me_Weight_step : Meth K c_Weight "step" a_Weight_step
 me_Weight_down : Meth K c_Weight "down" a_Part_down
 me_Weight_floor : Meth K c_Weight "floor" a_Part_floor
 me_Weight_up : Meth K c_Weight "up" a_Part_up
 na_Weight_form : NoAttr K c_Weight "form"
 z_dict : mg "dict" = none
 z_abs : mg "abs" = none
 z_range : mg "range" = none
 z_min : mg "min" = none
 z_all : mg "all" = none
 z_zip : mg "zip" = none
 z_len : mg "len" = none
 z_isinstance : mg "isinstance" = none
 z_int : mg "int" = none
 z_bool : mg "bool" = none
 z_tuple : mg "tuple" = none
 z_max : mg "max" = none
 z_list : mg "list" = none
 g_LONG : { t : Tok // mg "LONG" = some (.int 4000 t) }
 g_FEW : { t : Tok // mg "FEW" = some (.int 16 t) }
 g_MOST_PARTS : { t : Tok // mg "MOST_PARTS" = some (.int 6 t) }
 gt_GREATEST : { u : Addr // mg "GREATEST" = some (.ref u) ∧ ∀ H : Hp, SqT K H u [.int (3), .int (3), .int (9)] }
 gt_UPPER_LEAST : { u : Addr // mg "UPPER_LEAST" = some (.ref u) ∧ ∀ H : Hp, SqT K H u [.int (0), .int (0), .int (0)] }
 gt_LOWER_LEAST : { u : Addr // mg "LOWER_LEAST" = some (.ref u) ∧ ∀ H : Hp, SqT K H u [.int (-3), .int (-3), .int (-9)] }
theorem abs_nat (a : Int) : (if a < 0 then -a else a) = ((a.natAbs : Nat) : Int) := by split <;> omega
def spGcd : Sp := fun vs H Q _ => ∃ a b : Int, vs = [.int a, .int b] ∧ b.natAbs < 2 ^ 4000 ∧ Q (.int (Nat.gcd a.natAbs b.natAbs : Nat)) H
theorem bits_le {b : Int} (h : b.natAbs < 2 ^ 4000) : ¬ (4000 : Int) < ((Builtin.Int.intBits ((b.natAbs : Nat) : Int) : Nat) : Int) := by
 have := intBits_le_of (i := ((b.natAbs : Nat) : Int)) (k := 4000) (by rw [Int.natAbs_natCast]; exact h)
 omega
theorem ok_divisor {P : Program} {w : World} {K : PySem.W.Frag} {mg : Str -> Option Value} {base : Heap} (T : Tx K mg) : FnOk P w K mg base CX0 1 T.a_divisor T.fd_divisor ["one", "other"] spGcd := by
 refine T.F_divisor.ok sc_divisor (fun vs H Q E h => ?_) (fun cdv A outer s H vs Q E hr h => ?_)
 ·obtain ⟨a, b, rfl, _⟩ := h
  rfl
 obtain ⟨a, b, rfl, hb, q⟩ := h
 refine ⟨_, ((pss_cons (ps_set (i := 2) sc_divisor.nd rfl (Or.inl rfl) (pe_callB call_abs rfl T.z_abs bt_abs (pa_cons (pv 0) pa_nil)))
  (pss_cons (ps_set (i := 3) sc_divisor.nd rfl (Or.inl rfl) (pe_callB call_abs rfl T.z_abs bt_abs (pa_cons (pv 1) pa_nil)))
  (pss_cons (ps_while PassesOwn.never (pt_cmpR op_gt (pe_bm0 PySem.F.plainAttrs_int PySem.F.slot_int_bit_length PySem.F.type_int_bit_length mt_bitlen (pv 3)) (pe_glob (v := .int 4000) rfl T.g_LONG.2 ⟨_, rfl⟩) (nomark _)) pss_never)
  (pss_cons (ps_while PassesOwn.never (pt_cmpR op_ne (pv 3) pe_int (nomark _)) (pss_cons (ps_set (i := 5) sc_divisor.nd rfl (Or.inl rfl) (pe_op op_mod (pv 2) (pv 3)))
  (pss_cons (ps_set (i := 2) sc_divisor.nd rfl (Or.inl rfl) (pv 3))
  (pss_one (ps_set (i := 3) sc_divisor.nd rfl (Or.inl rfl) (pv 5))))))
  (pss_one (ps_ret (pv 2)))))))), ?_⟩
 (iterate 3 (k_units; (try simp only [abs_nat])); k_units)
 refine while_of (fun m σ H' => σ = [some (V.int a), some (V.int b), some (V.int a.natAbs), some (V.int b.natAbs), none, none] ∧ H' = H) 0 ⟨rfl, rfl⟩ ?_
 rintro m σ H' ⟨rfl, rfl⟩
 k_units
 rw [if_neg (bits_le hb)]
 refine while_of (fun m σ H1 => ∃ (x y : Nat) (r : Option V), σ = [some (V.int a), some (V.int b), some (.int x), some (.int y), none, r] ∧ H1 = H' ∧ m = y ∧ Nat.gcd x y = Nat.gcd a.natAbs b.natAbs) b.natAbs ⟨a.natAbs, b.natAbs, none, rfl, rfl, rfl, rfl⟩ ?_
 rintro m σ H1 ⟨x, y, r, rfl, rfl, rfl, hg⟩
 k_units
 refine ite2 (fun h => ?_) (fun h => ?_)
 ·refine ⟨fun σ' H2 => σ' = [some (V.int a), some (V.int b), some (V.int m), some (V.int ((x : Int) % (m : Int))), none, some (V.int ((x : Int) % (m : Int)))] ∧ H2 = H1, ?_, by omega, rfl, rfl⟩
  rintro σ' H2 ⟨rfl, rfl⟩
  refine ⟨x % m, Nat.mod_lt _ (by omega), m, x % m, _, by rw [← Int.natCast_emod], rfl, rfl, ?_⟩
  rw [Nat.gcd_comm m, ← Nat.gcd_rec, Nat.gcd_comm]; exact hg
 ·have h0 : m = 0 := by omega
  subst h0
  rw [Nat.gcd_zero_right] at hg
  rw [hg]; exact q
def spGcdL : Sp := fun vs H Q _ => ∃ a b : Int, vs = [.int a, .int b] ∧ Q (.int (Nat.gcd a.natAbs b.natAbs : Nat)) H
theorem ok__law_divisor {P : Program} {w : World} {K : PySem.W.Frag} {mg : Str -> Option Value} {base : Heap} (T : Tx K mg) : FnOk P w K mg base CX0 1 T.a__law_divisor T.fd__law_divisor ["_law_one", "_law_other"] spGcdL := by
 refine T.F__law_divisor.ok sc__law_divisor (fun vs H Q E h => ?_) (fun cdv A outer s H vs Q E hr h => ?_)
 ·obtain ⟨a, b, rfl, _⟩ := h
  rfl
 obtain ⟨a, b, rfl, q⟩ := h
 refine ⟨_, ((pss_cons (ps_set (i := 0) sc__law_divisor.nd rfl (Or.inl rfl) (pe_callB call_abs rfl T.z_abs bt_abs (pa_cons (pv 0) pa_nil)))
  (pss_cons (ps_set (i := 1) sc__law_divisor.nd rfl (Or.inl rfl) (pe_callB call_abs rfl T.z_abs bt_abs (pa_cons (pv 1) pa_nil)))
  (pss_cons (ps_while PassesOwn.never (pt_cmpR op_ne (pv 0) pe_int (nomark _)) (pss_cons (ps_set (i := 2) sc__law_divisor.nd rfl (Or.inl rfl) (pe_op op_mod (pv 1) (pv 0)))
  (pss_cons (ps_set (i := 1) sc__law_divisor.nd rfl (Or.inl rfl) (pv 0))
  (pss_one (ps_set (i := 0) sc__law_divisor.nd rfl (Or.inl rfl) (pv 2))))))
  (pss_one (ps_ret (pv 1))))))), ?_⟩
 (iterate 3 (k_units; (try simp only [abs_nat])); k_units)
 refine while_of (fun m σ H' => ∃ (x y : Nat) (r : Option V), σ = [some (.int x), some (.int y), r] ∧ H' = H ∧ m = x ∧ Nat.gcd x y = Nat.gcd a.natAbs b.natAbs) a.natAbs ⟨a.natAbs, b.natAbs, none, rfl, rfl, rfl, rfl⟩ ?_
 rintro m σ H' ⟨x, y, r, rfl, rfl, rfl, hg⟩
 k_units
 refine ite2 (fun h => ?_) (fun h => ?_)
 ·refine ⟨fun σ' H1 => σ' = [some (V.int ((y : Int) % (m : Int))), some (V.int m), some (V.int ((y : Int) % (m : Int)))] ∧ H1 = H', ?_, by omega, rfl, rfl⟩
  rintro σ' H1 ⟨rfl, rfl⟩
  refine ⟨y % m, Nat.mod_lt _ (by omega), y % m, m, _, by rw [← Int.natCast_emod], rfl, rfl, ?_⟩
  rw [← Nat.gcd_rec]; exact hg
 ·have h0 : m = 0 := by omega
  subst h0
  rw [Nat.gcd_zero_left] at hg
  rw [hg]; exact q
def mkT (H : Hp) (Q : VK) (x y : Int) : Prop := ∀ p, H p = none -> Q (.ref p) (upd H p (.tup [.int x, .int y]))
theorem bd_le {k : Nat} {x y : Int} (h : x.natAbs <= y.natAbs) (b : Bd k y) : Bd k x := Nat.lt_of_le_of_lt h b
def spRatio (c : Addr) : Sp := fun vs H Q E => ∃ t b : Int, vs = [.int t, .int b] ∧ Bd 3000 b ∧
 ((b ≠ 0 ∧ ∀ x y : Int, 1 <= y -> Nat.gcd x.natAbs y.natAbs = 1 -> x * b = t * y -> x.natAbs <= t.natAbs -> y.natAbs <= b.natAbs -> mkT H Q x y) ∨ (b = 0 ∧ E (.ref c) none H))
theorem ok_ratio {P : Program} {w : World} {K : PySem.W.Frag} {mg : Str -> Option Value} {base : Heap} (T : Tx K mg) : FnOk P w K mg base (CXE P w) 2 T.a_ratio T.fd_ratio ["top", "bottom"] (spRatio T.c_NoNumber) := by
 refine T.F_ratio.okE sc_ratio (fun vs H Q E h => ?_) (fun cdv A outer s H vs Q E hr h => ?_)
 ·obtain ⟨t, b, rfl, _⟩ := h
  rfl
 obtain ⟨t, b, rfl, hb, q⟩ := h
 refine ⟨_, ((pss_cons (ps_if (PT.nox (pt_cmpR op_eq (pv 1) pe_int (nomark _))) (pss_one (ps_raise rfl throwE rfl T.mc_NoNumber T.xc_NoNumber (pa_cons pe_str pa_nil))) pss_nil)
  (pss_cons (PS.nox (ps_set (i := 2) sc_ratio.nd rfl (Or.inl rfl) (pe_call (FnOk.mono (ok_divisor T) (by decide)) hr rfl T.m_divisor T.F_divisor.kp T.b_divisor .nil pass0 (pa_cons (pv 0) (pa_cons (pv 1) pa_nil)))))
  (pss_cons (PS.nox (ps_if (pt_cmpR op_lt (pv 1) pe_int (nomark _)) (pss_one (ps_set (i := 2) sc_ratio.nd rfl (Or.inl rfl) (pe_un un_neg (pv 2)))) pss_nil))
  (pss_one (PS.nox (ps_ret (pe_tup (pa_cons (pe_op op_fdivB (pv 0) (pv 2)) (pa_cons (pe_op op_fdivB (pv 1) (pv 2)) pa_nil)))))))))), ?_⟩
 k_units
 refine ite2 (fun h0 => ?_) (fun h0 => ?_)
 ·rcases q with ⟨hn, _⟩ | ⟨_, q⟩
  ·exact absurd h0 hn
  ·exact ⟨by decide, q⟩
 ·obtain ⟨hn, q⟩ := q.resolve_right fun z => h0 z.1
  refine ⟨t, b, rfl, Nat.lt_of_lt_of_le hb (Nat.pow_le_pow_right (by decide) (by decide)), ?_⟩
  have small : ∀ s : Int, s.natAbs = Nat.gcd t.natAbs b.natAbs -> s.natAbs < 2 ^ 9000 := fun s e => by
   rw [e]
   exact Nat.lt_of_le_of_lt (Nat.gcd_le_right _ (by omega)) (Nat.lt_of_lt_of_le hb (Nat.pow_le_pow_right (by decide) (by decide)))
  have fin : ∀ s : Int, (s = if b < 0 then -((Nat.gcd t.natAbs b.natAbs : Nat) : Int) else ((Nat.gcd t.natAbs b.natAbs : Nat) : Int)) -> (s ≠ 0 ∧ s.natAbs < 2 ^ 9000) ∧ (s ≠ 0 ∧ s.natAbs < 2 ^ 9000) ∧ mkT H Q (t.fdiv s) (b.fdiv s) := fun s e => by
   obtain ⟨g1, g2, g3, g4, g5, g6⟩ := gcd_split hn e
   refine ⟨⟨g1, small s g2⟩, ⟨g1, small s g2⟩, q _ _ g5 g6 ?_ (fdiv_le g1 g3) (fdiv_le g1 g4)⟩
   rw [Int.mul_comm, g4, Int.mul_assoc, ← g4]
   generalize b.fdiv s = y at *
   generalize t.fdiv s = x at *
   rw [g3, Int.mul_assoc, Int.mul_comm x y]
  refine ite2 (fun hneg => ?_) (fun hneg => ?_)
  ·obtain ⟨f1, f2, f3⟩ := fin _ (by rw [if_pos hneg])
   exact ⟨_, rfl, f1.1, f1.2, f2.1, f2.2, by decide, f3⟩
  ·obtain ⟨f1, f2, f3⟩ := fin _ (by rw [if_neg hneg])
   exact ⟨_, rfl, f1.1, f1.2, _, rfl, f2.1, f2.2, by decide, f3⟩
def spForm (K : PySem.W.Frag) : Sp := fun vs H Q _ => ∃ (p : Addr) (a b c n k : Int), vs = [.ref p, .int n, .int k] ∧ SqT K H p [.int a, .int b, .int c] ∧ Bd 400 a ∧ Bd 400 b ∧ Bd 20 n ∧ Bd 20 k ∧ Q (.int (a * n + b * k + c)) H
theorem ok_form_value {P : Program} {w : World} {K : PySem.W.Frag} {mg : Str -> Option Value} {base : Heap} (T : Tx K mg) : FnOk P w K mg base CX0 1 T.a_form_value T.fd_form_value ["form", "n", "k"] (spForm K) := by
 refine T.F_form_value.ok sc_form_value (fun vs H Q E h => ?_) (fun cdv A outer s H vs Q E hr h => ?_)
 ·obtain ⟨p, a, b, c, n, k, rfl, _⟩ := h
  rfl
 obtain ⟨p, a, b, c, n, k, rfl, hp, ba, bb, bn, bk, q⟩ := h
 refine ⟨_, ((pss_one (ps_ret (pe_op op_add (pe_op op_add (pe_op op_mulZ (pe_ix ix_tup (pv 0) pe_int (fun _ _ => rfl)) (pv 1)) (pe_op op_mulZ (pe_ix ix_tup (pv 0) pe_int (fun _ _ => rfl)) (pv 2))) (pe_ix ix_tup (pv 0) pe_int (fun _ _ => rfl)))))), ?_⟩
 k_units
 exact ⟨_, hp, _, rfl, _, rfl, ba.fits bn (by decide), _, hp, _, rfl, _, rfl, bb.fits bk (by decide), _, hp, _, rfl, _, rfl, q⟩
def spPowOf : Sp := fun vs H Q _ => ∃ (c : Int) (n : Nat), vs = [.int c, .int (n : Int)] ∧ Bd 100 c ∧ n <= 500 ∧ Q (.int (c ^ n)) H
theorem ok_power_of {P : Program} {w : World} {K : PySem.W.Frag} {mg : Str -> Option Value} {base : Heap} (T : Tx K mg) : FnOk P w K mg base CX0 1 T.a_power_of T.fd_power_of ["number", "exponent"] spPowOf := by
 refine T.F_power_of.ok sc_power_of (fun vs H Q E h => ?_) (fun cdv A outer s H vs Q E hr h => ?_)
 ·obtain ⟨c, n, rfl, _⟩ := h
  rfl
 obtain ⟨c, n, rfl, bc, n5, q⟩ := h
 refine ⟨_, ((pss_cons (ps_set (i := 2) sc_power_of.nd rfl (Or.inl rfl) pe_int)
  (pss_cons (ps_for PassesOwn.never rfl (pi_range1 rfl T.z_range (pa_cons (pv 1) pa_nil)) (pg_name (i := 3) sc_power_of.nd rfl (Or.inl rfl)) (pss_one (ps_aug (i := 2) sc_power_of.nd rfl (Or.inl rfl) (pv 0) ip_mulZ)))
  (pss_one (ps_ret (pv 2)))))), ?_⟩
 k_units
 refine ⟨by omega, by omega, ?_⟩
 rw [Int.toNat_natCast]
 have bp : ∀ n : Nat, Bd (100 * n + 1) (c ^ n) := fun n => by
  induction n with
  | zero => rw [Int.pow_zero]; exact Bd.one (by decide)
  | succ n ih => rw [Int.pow_succ]; exact (ih.mul bc).mono (by omega)
 refine lp_range (fun i σ H' => ∃ r : Option V, σ = [some (V.int c), some (V.int (n : Int)), some (V.int (c ^ i)), r] ∧ H' = H) ⟨none, by simp, rfl⟩ ?_ ?_
 ·rintro i σ H' hi ⟨r, rfl, rfl⟩
  k_units
  exact ⟨(bp i).fits bc (by omega), (Int.pow_succ c i).symm, _, rfl⟩
 ·rintro σ H' ⟨r, rfl, rfl⟩
  k_units
  exact q
theorem asc_bd {a : Nat} : ∀ n : Nat, a + n < 2 ^ 13 -> Bd (13 * n + 1) ((asc a n : Nat) : Int)
 | 0, _ => Bd.one (by decide)
 | n + 1, h => by
  have e : ((asc a (n + 1) : Nat) : Int) = ((asc a n : Nat) : Int) * ((a + n + 1 : Nat) : Int) := by
   show ((asc a n * (a + n + 1) : Nat) : Int) = _
   rw [Int.natCast_mul]
  rw [e]
  exact ((asc_bd n (by omega)).mul (Bd.of_lt (m := 2 ^ 13) (by omega) (Nat.le_refl _))).mono (by omega)
def spRun (d : Nat) : Sp := match d with
 | 0 => fun _ _ _ _ => False
 | d + 1 => fun vs H Q _ => ∃ a n : Nat, vs = [.int ((a + 1 : Nat) : Int), .int ((a + n : Nat) : Int)] ∧ n <= 16 * 2 ^ d ∧ a + n < 2 ^ 13 ∧ Q (.int ((asc a n : Nat) : Int)) H
theorem ok_run_product {P : Program} {w : World} {K : PySem.W.Frag} {mg : Str -> Option Value} {base : Heap} (T : Tx K mg) : ∀ d : Nat, FnOk P w K mg base CX0 (d + 1) T.a_run_product T.fd_run_product ["low", "high"] (spRun d)
 | 0 => T.F_run_product.ok sc_run_product (fun _ _ _ _ h => h.elim) (fun _ _ _ _ _ _ _ _ _ h => h.elim)
 | d + 1 => by
  have ih := ok_run_product (P := P) (w := w) (base := base) T d
  refine T.F_run_product.ok sc_run_product (fun vs H Q E h => ?_) (fun cdv A outer s H vs Q E hr h => ?_)
  ·obtain ⟨a, n, rfl, _⟩ := h
   rfl
  obtain ⟨a, n, rfl, hn, h13, q⟩ := h
  refine ⟨_, ((pss_cons (ps_if (pt_cmpR op_lt (pe_op op_sub (pv 1) (pv 0)) (pe_glob (v := .int 16) rfl T.g_FEW.2 ⟨_, rfl⟩) (nomark _)) (pss_cons (ps_set (i := 2) sc_run_product.nd rfl (Or.inl rfl) pe_int)
  (pss_cons (ps_for PassesOwn.never rfl (pi_range2 rfl T.z_range (pa_cons (pv 0) (pa_cons (pe_op op_add (pv 1) pe_int) pa_nil))) (pg_name (i := 3) sc_run_product.nd rfl (Or.inl rfl)) (pss_one (ps_aug (i := 2) sc_run_product.nd rfl (Or.inl rfl) (pv 3) ip_mulZ)))
  (pss_one (ps_ret (pv 2))))) pss_nil)
  (pss_cons (ps_set (i := 4) sc_run_product.nd rfl (Or.inl rfl) (pe_op op_fdiv (pe_op op_add (pv 0) (pv 1)) pe_int))
  (pss_one (ps_ret (pe_op op_mulZ (pe_call ih hr rfl T.m_run_product T.F_run_product.kp T.b_run_product .nil pass0 (pa_cons (pv 0) (pa_cons (pv 4) pa_nil))) (pe_call ih hr rfl T.m_run_product T.F_run_product.kp T.b_run_product .nil pass0 (pa_cons (pe_op op_add (pv 4) pe_int) (pa_cons (pv 1) pa_nil))))))))), ?_⟩
  k_units
  refine ite2 (fun h => ?_) (fun h => ?_)
  ·refine ⟨by omega, by omega, by omega, by omega, ?_⟩
   rw [show (((a + n : Nat) : Int) + 1 - ((a + 1 : Nat) : Int)).toNat = n by omega]
   refine lp_range (fun i σ H' => ∃ r : Option V, σ = [some (V.int ((a + 1 : Nat) : Int)), some (V.int ((a + n : Nat) : Int)), some (V.int ((asc a i : Nat) : Int)), r, none] ∧ H' = H) ⟨none, rfl, rfl⟩ ?_ ?_
   ·rintro i σ H' hi ⟨r, rfl, rfl⟩
    k_units
    have e : ((a + 1 : Nat) : Int) + (i : Int) = ((a + i + 1 : Nat) : Int) := by omega
    rw [e]
    refine ⟨(asc_bd i (by omega)).fits (Bd.of_lt (m := 2 ^ 13) (k := 13) (by omega) (Nat.le_refl _)) (by omega), ?_, _, rfl⟩
    show _ = ((asc a i * (a + i + 1) : Nat) : Int)
    rw [Int.natCast_mul]
   ·rintro σ H' ⟨r, rfl, rfl⟩
    k_units
    exact q
  ·have hn17 : 17 <= n := by omega
   cases d with
   | zero => simp at hn; omega
   | succ d' =>
    have p2 : 2 ^ (d' + 1) = 2 * 2 ^ d' := by rw [Nat.pow_succ, Nat.mul_comm]
    rw [p2] at hn
    obtain ⟨hf, hhf⟩ : ∃ hf : Nat, hf = (n + 1) / 2 := ⟨_, rfl⟩
    have em : (((a + 1 : Nat) : Int) + ((a + n : Nat) : Int)) / 2 = ((a + hf : Nat) : Int) := by omega
    rw [em]
    refine ⟨⟨by decide, by decide⟩, a, hf, rfl, by omega, by omega, a + hf, n - hf, ?_, by omega, by omega, _, rfl, _, rfl, ?_, ?_⟩
    ·rw [show a + hf + (n - hf) = a + n by omega]; rfl
    ·exact (asc_bd hf (by omega)).fits (asc_bd (n - hf) (by omega)) (by omega)
    ·have e := asc_app a hf (n - hf)
     rw [show hf + (n - hf) = n by omega] at e
     rw [← Int.natCast_mul, ← e]; exact q
def spChoices : Sp := fun vs H Q _ => ∃ a b : Nat, vs = [.int (a : Int), .int (b : Int)] ∧ a + b < 4000 ∧ Q (.int ((chs (a + b) b : Nat) : Int)) H
theorem ok_choices {P : Program} {w : World} {K : PySem.W.Frag} {mg : Str -> Option Value} {base : Heap} (T : Tx K mg) : FnOk P w K mg base CX0 12 T.a_choices T.fd_choices ["one", "other"] spChoices := by
 refine T.F_choices.ok sc_choices (fun vs H Q E h => ?_) (fun cdv A outer s H vs Q E hr h => ?_)
 ·obtain ⟨a, b, rfl, _⟩ := h
  rfl
 obtain ⟨a, b, rfl, h4, q⟩ := h
 refine ⟨_, ((pss_cons (ps_set (i := 2) sc_choices.nd rfl (Or.inl rfl) (pe_callB (call_min2 rfl) rfl T.z_min bt_min (pa_cons (pv 0) (pa_cons (pv 1) pa_nil))))
  (pss_one (ps_ret (pe_op op_fdivC (pe_call (FnOk.mono (ok_run_product T 9) (by decide)) hr rfl T.m_run_product T.F_run_product.kp T.b_run_product .nil pass0 (pa_cons (pe_op op_add (pe_op op_sub (pe_op op_add (pv 0) (pv 1)) (pv 2)) pe_int) (pa_cons (pe_op op_add (pv 0) (pv 1)) pa_nil))) (pe_call (FnOk.mono (ok_run_product T 9) (by decide)) hr rfl T.m_run_product T.F_run_product.kp T.b_run_product .nil pass0 (pa_cons pe_int (pa_cons (pv 2) pa_nil)))))))), ?_⟩
 k_units
 obtain ⟨f, hf⟩ : ∃ f, min a b = f := ⟨_, rfl⟩
 have ei : (if (b : Int) < (a : Int) then (b : Int) else (a : Int)) = (f : Int) := by rw [← hf]; split <;> omega
 have fle : f <= a + b := by omega
 rw [ei]
 refine ⟨a + b - f, f, by rw [show (a : Int) + (b : Int) - (f : Int) + 1 = ((a + b - f + 1 : Nat) : Int) by omega, show (a : Int) + (b : Int) = ((a + b - f + f : Nat) : Int) by omega], Nat.le_trans (show f <= 4096 by omega) (by decide), Nat.lt_of_lt_of_le (show a + b - f + f < 4096 by omega) (by decide), 0, f, by rw [Nat.zero_add, Nat.zero_add]; rfl, Nat.le_trans (show f <= 4096 by omega) (by decide), Nat.lt_of_lt_of_le (show 0 + f < 4096 by omega) (by decide), _, rfl, _, rfl, ?_, ?_⟩
 ·have h1 := asc_chs f (a + b - f)
  rw [show a + b - f + f = a + b by omega] at h1
  have h2 := chs_lt (a + b) f
  have h3 := fct_pos f
  rw [asc_zero]
  refine ⟨by omega, ?_⟩
  rw [Int.natAbs_natCast, Int.natAbs_natCast, h1]
  refine Nat.mul_lt_mul_of_pos_right (Nat.lt_of_le_of_lt h2 (Nat.pow_lt_pow_right (by decide) h4)) h3
 ·have e := choices_is a b
  rw [hf] at e
  rw [asc_zero, Int.fdiv_eq_ediv_of_nonneg _ (by omega), ← Int.natCast_ediv, e]
  exact q
def Frc (f : Int × Int) : Prop := 1 <= f.2 ∧ Nat.gcd f.1.natAbs f.2.natAbs = 1
def mulF (f g : Int × Int) : Int × Int := (f.1.fdiv ((Nat.gcd f.1.natAbs g.2.natAbs : Nat) : Int) * g.1.fdiv ((Nat.gcd g.1.natAbs f.2.natAbs : Nat) : Int), f.2.fdiv ((Nat.gcd g.1.natAbs f.2.natAbs : Nat) : Int) * g.2.fdiv ((Nat.gcd f.1.natAbs g.2.natAbs : Nat) : Int))
theorem fdiv_of {x : Int} {l : Nat} (hl : 0 < l) (h : l ∣ x.natAbs) : ∃ y : Int, x = (l : Int) * y ∧ x.fdiv (l : Int) = y ∧ y.natAbs = x.natAbs / l := by
 obtain ⟨y, hy⟩ : (l : Int) ∣ x := Int.dvd_natAbs.mp (Int.natCast_dvd_natCast.mpr h)
 refine ⟨y, hy, ?_, ?_⟩
 ·rw [hy]; exact Int.mul_fdiv_cancel_left y (by omega)
 ·rw [hy, Int.natAbs_mul, Int.natAbs_natCast, Nat.mul_div_cancel_left _ hl]
theorem mulF_is {f g : Int × Int} (hf : Frc f) (hg : Frc g) : Frc (mulF f g) ∧ (mulF f g).1 * (f.2 * g.2) = f.1 * g.1 * (mulF f g).2 ∧ (mulF f g).1.natAbs <= f.1.natAbs * g.1.natAbs ∧ (mulF f g).2.natAbs <= f.2.natAbs * g.2.natAbs := by
 obtain ⟨f1, f2⟩ := hf
 obtain ⟨g1, g2⟩ := hg
 obtain ⟨l, hl⟩ : ∃ l, Nat.gcd f.1.natAbs g.2.natAbs = l := ⟨_, rfl⟩
 obtain ⟨r, hr⟩ : ∃ r, Nat.gcd g.1.natAbs f.2.natAbs = r := ⟨_, rfl⟩
 have lp : 0 < l := by rw [← hl]; exact Nat.gcd_pos_of_pos_right _ (by omega)
 have rp : 0 < r := by rw [← hr]; exact Nat.gcd_pos_of_pos_right _ (by omega)
 obtain ⟨a, ea, fa, na⟩ := fdiv_of (x := f.1) lp (by rw [← hl]; exact Nat.gcd_dvd_left _ _)
 obtain ⟨d, ed, fd, nd⟩ := fdiv_of (x := g.2) lp (by rw [← hl]; exact Nat.gcd_dvd_right _ _)
 obtain ⟨c, ec, fc, nc⟩ := fdiv_of (x := g.1) rp (by rw [← hr]; exact Nat.gcd_dvd_left _ _)
 obtain ⟨b, eb, fb, nb⟩ := fdiv_of (x := f.2) rp (by rw [← hr]; exact Nat.gcd_dvd_right _ _)
 have e : mulF f g = (a * c, b * d) := by unfold mulF; rw [hl, hr, fa, fb, fc, fd]
 have bp : 1 <= b := by
  have h := f1; rw [eb] at h
  rcases Int.lt_or_le 0 b with z | z
  ·omega
  ·have := Int.mul_nonpos_of_nonneg_of_nonpos (show (0 : Int) <= (r : Int) by omega) z; omega
 have dp : 1 <= d := by
  have h := g1; rw [ed] at h
  rcases Int.lt_or_le 0 d with z | z
  ·omega
  ·have := Int.mul_nonpos_of_nonneg_of_nonpos (show (0 : Int) <= (l : Int) by omega) z; omega
 have cp := cop_cross (a := f.1.natAbs) (b := f.2.natAbs) (c := g.1.natAbs) (d := g.2.natAbs) (by omega) (by omega) f2 g2 hl.symm hr.symm
 rw [← na, ← nb, ← nc, ← nd] at cp
 rw [e]
 refine ⟨⟨?_, ?_⟩, ?_, ?_, ?_⟩
 ·have := Int.mul_le_mul bp dp (by omega) (by omega); show 1 <= b * d; omega
 ·show Nat.gcd (a * c).natAbs (b * d).natAbs = 1
  rw [Int.natAbs_mul, Int.natAbs_mul]; exact cp
 ·show a * c * (f.2 * g.2) = f.1 * g.1 * (b * d)
  rw [ea, eb, ec, ed]; grind
 ·show (a * c).natAbs <= _
  rw [Int.natAbs_mul, na, nc]; exact Nat.mul_le_mul (Nat.div_le_self _ _) (Nat.div_le_self _ _)
 ·show (b * d).natAbs <= _
  rw [Int.natAbs_mul, nb, nd]; exact Nat.mul_le_mul (Nat.div_le_self _ _) (Nat.div_le_self _ _)
def prodF (fs : List (Int × Int)) : Int × Int := fs.foldl mulF (1, 1)
theorem prodF_snoc (fs : List (Int × Int)) (f : Int × Int) : prodF (fs ++ [f]) = mulF (prodF fs) f := by unfold prodF; rw [List.foldl_append]; rfl
structure TL (K : PySem.W.Frag) (H : Hp) (as : List Addr) (fs : List (Int × Int)) : Prop where
 len : as.length = fs.length
 get : ∀ (i : Nat) (a : Addr) (f : Int × Int), as[i]? = some a -> fs[i]? = some f -> SqT K H a [.int f.1, .int f.2]
def spProd (K : PySem.W.Frag) : Sp := fun vs H Q _ => ∃ (A : Addr) (as : List Addr) (fs : List (Int × Int)), vs = [.ref A] ∧ SqL K H A (as.map V.ref) ∧ TL K H as fs ∧ fs.length <= 6 ∧ (∃ B, B * fs.length <= 3900 ∧ B <= 3900 ∧ ∀ f ∈ fs, Frc f ∧ Bd 20000 f.1 ∧ Bd B f.2) ∧ (Frc (prodF fs) -> mkT H Q (prodF fs).1 (prodF fs).2)
theorem ok_product {P : Program} {w : World} {K : PySem.W.Frag} {mg : Str -> Option Value} {base : Heap} (T : Tx K mg) : FnOk P w K mg base CX0 2 T.a_product T.fd_product ["fractions"] (spProd K) := by
 refine T.F_product.ok sc_product (fun vs H Q E h => ?_) (fun cdv A outer s H vs Q E hr h => ?_)
 ·obtain ⟨A, as, fs, rfl, _⟩ := h
  rfl
 obtain ⟨A, as, fs, rfl, hA, hT, l6, ⟨B, hB, hB1, hb⟩, q⟩ := h
 refine ⟨_, ((pss_cons (ps_set (i := 1) sc_product.nd rfl (Or.inl rfl) pe_int)
  (pss_cons (ps_set (i := 2) sc_product.nd rfl (Or.inl rfl) pe_int)
  (pss_cons (ps_for PassesOwn.never rfl (pi_list (pv 0)) (pg_name (i := 3) sc_product.nd rfl (Or.inl rfl)) (pss_cons (ps_set (i := 4) sc_product.nd rfl (Or.inl rfl) (pe_call (FnOk.mono (ok_divisor T) (by decide)) hr rfl T.m_divisor T.F_divisor.kp T.b_divisor .nil pass0 (pa_cons (pv 1) (pa_cons (pe_ix ix_tup (pv 3) pe_int (fun _ _ => rfl)) pa_nil))))
  (pss_cons (ps_set (i := 5) sc_product.nd rfl (Or.inl rfl) (pe_call (FnOk.mono (ok_divisor T) (by decide)) hr rfl T.m_divisor T.F_divisor.kp T.b_divisor .nil pass0 (pa_cons (pe_ix ix_tup (pv 3) pe_int (fun _ _ => rfl)) (pa_cons (pv 2) pa_nil))))
  (pss_cons (ps_set (i := 1) sc_product.nd rfl (Or.inl rfl) (pe_op op_mulZ (pe_op op_fdivB (pv 1) (pv 4)) (pe_op op_fdivB (pe_ix ix_tup (pv 3) pe_int (fun _ _ => rfl)) (pv 5))))
  (pss_one (ps_set (i := 2) sc_product.nd rfl (Or.inl rfl) (pe_op op_mulZ (pe_op op_fdivB (pv 2) (pv 5)) (pe_op op_fdivB (pe_ix ix_tup (pv 3) pe_int (fun _ _ => rfl)) (pv 4)))))))))
  (pss_one (ps_ret (pe_tup (pa_cons (pv 1) (pa_cons (pv 2) pa_nil))))))))), ?_⟩
 k_units
 obtain ⟨Pv, hPv⟩ : ∃ Pv : Nat -> L2.St -> Hp -> Prop, ∀ i σ H', Pv i σ H' ↔ ∃ r3 r4 r5 : Option V, σ = [some (V.ref A), some (V.int (prodF (fs.take i)).1), some (V.int (prodF (fs.take i)).2), r3, r4, r5] ∧ H' = H ∧ Frc (prodF (fs.take i)) ∧ Bd (20000 * i + 1) (prodF (fs.take i)).1 ∧ Bd (B * i + 1) (prodF (fs.take i)).2 := ⟨_, fun _ _ _ => Iff.rfl⟩
 have e0 : prodF (fs.take 0) = (1, 1) := by simp [prodF]
 refine ⟨⟨_, hA⟩, lp_list (xs := as.map V.ref) Pv ((hPv _ _ _).mpr ⟨none, none, none, by rw [e0], rfl, by rw [e0]; exact ⟨Int.le_refl 1, by decide⟩, by rw [e0]; exact Bd.one (by decide), by rw [e0]; exact Bd.one (Nat.succ_pos _)⟩) (fun i σ H' _ z => by obtain ⟨_, _, _, _, z, _⟩ := (hPv i σ H').mp z; rw [z]; exact hA) ?_ ?_⟩
 ·intro i v σ H' hv hp
  obtain ⟨r3, r4, r5, rfl, rfl, F, b1, b2⟩ := (hPv _ _ _).mp hp
  rw [List.getElem?_map] at hv
  obtain ⟨a, ha, rfl⟩ := Option.map_eq_some_iff.mp hv
  have hi := (List.getElem?_eq_some_iff.mp ha).1
  have hi2 : i < fs.length := by have := hT.len; omega
  have hBi : B * i + B <= 3900 := Nat.le_trans (by rw [← Nat.mul_succ]; exact Nat.mul_le_mul_left _ hi2) hB
  have ea := hT.get i a _ ha (List.getElem?_eq_getElem hi2)
  obtain ⟨Fi, c1, c2⟩ := hb _ (List.getElem_mem hi2)
  have et : prodF (fs.take (i + 1)) = mulF (prodF (fs.take i)) fs[i] := by rw [← List.take_append_getElem hi2, prodF_snoc]
  generalize prodF (fs.take i) = f at F b1 b2 et ⊢
  obtain ⟨m1, m2, m3, m4⟩ := mulF_is F Fi
  have lne : Nat.gcd f.1.natAbs fs[i].2.natAbs ≠ 0 := Nat.pos_iff_ne_zero.mp (Nat.gcd_pos_of_pos_right _ (by have := Fi.1; omega))
  have rne : Nat.gcd fs[i].1.natAbs f.2.natAbs ≠ 0 := Nat.pos_iff_ne_zero.mp (Nat.gcd_pos_of_pos_right _ (by have := F.1; omega))
  have up : ∀ {k m : Nat} {c : Int}, k <= m -> Bd k c -> c.natAbs < 2 ^ m := fun h1 h2 => h2.mono h1
  have ls : ((Nat.gcd f.1.natAbs fs[i].2.natAbs : Nat) : Int).natAbs < 2 ^ 9000 := by
   rw [Int.natAbs_natCast]
   exact Nat.lt_of_le_of_lt (Nat.gcd_le_right _ (by have := Fi.1; omega)) (up (by omega) c2)
  have rs : ((Nat.gcd fs[i].1.natAbs f.2.natAbs : Nat) : Int).natAbs < 2 ^ 9000 := by
   rw [Int.natAbs_natCast]
   exact Nat.lt_of_le_of_lt (Nat.gcd_le_right _ (by have := F.1; omega)) (up (by omega) b2)
  have dv : ∀ {k : Nat} {c : Int} {l : Nat}, l ≠ 0 -> l ∣ c.natAbs -> Bd k c -> Bd k (c.fdiv (l : Int)) := fun h1 h2 h3 => by
   obtain ⟨y, _, e2, e3⟩ := fdiv_of (Nat.pos_of_ne_zero h1) h2
   rw [e2]
   exact Nat.lt_of_le_of_lt (by rw [e3]; exact Nat.div_le_self _ _) h3
  have q1 := dv lne (Nat.gcd_dvd_left _ _) b1
  have q2 := dv rne (Nat.gcd_dvd_left _ _) c1
  have q3 := dv rne (Nat.gcd_dvd_right _ _) b2
  have q4 := dv lne (Nat.gcd_dvd_right _ _) c2
  k_units
  refine ⟨_, ea, _, rfl, f.1, fs[i].2, rfl, up (by omega) c2, _, ea, _, rfl, fs[i].1, f.2, rfl, up (by omega) b2, _, rfl, by omega, ls, _, ea, _, rfl, _, rfl, _, rfl, by omega, rs, q1.fits q2 (by omega), _, rfl, by omega, rs, _, ea, _, rfl, _, rfl, _, rfl, by omega, ls, q3.fits q4 (by omega), ?_⟩
  have z1 : Bd (20000 * (i + 1) + 1) (mulF f fs[i]).1 := by
   have h := (show (f.1 * fs[i].1).natAbs < _ from (b1.mul c1).mono (show 20000 * i + 1 + 20000 <= 20000 * (i + 1) + 1 by omega))
   rw [Int.natAbs_mul] at h
   exact Nat.lt_of_le_of_lt m3 h
  have z2 : Bd (B * (i + 1) + 1) (mulF f fs[i]).2 := by
   have h := (show (f.2 * fs[i].2).natAbs < _ from (b2.mul c2).mono (show B * i + 1 + B <= B * (i + 1) + 1 by rw [Nat.mul_succ]; omega))
   rw [Int.natAbs_mul] at h
   exact Nat.lt_of_le_of_lt m4 h
  exact (hPv _ _ _).mpr ⟨_, _, _, by rw [et]; rfl, rfl, by rw [et]; exact m1, by rw [et]; exact z1, by rw [et]; exact z2⟩
 intro σ H' hp
 obtain ⟨r3, r4, r5, rfl, rfl, F, b1, b2⟩ := (hPv _ _ _).mp hp
 k_units
 rw [List.length_map, hT.len, List.take_of_length_le (Nat.le_refl _)] at F
 rw [List.length_map, hT.len, List.take_of_length_le (Nat.le_refl _)]
 exact ⟨by decide, q F⟩
theorem ix_tupK {X : Cx} {K : PySem.W.Frag} (hK : X.K = K) : IxR X (rIxT K) := by subst hK; exact ix_tup
def spLowF (K : PySem.W.Frag) : Sp := fun vs H Q _ => ∃ (p q : Addr) (a b c d e f : Int), vs = [.ref p, .ref q] ∧ SqT K H p [.int a, .int b, .int c] ∧ SqT K H q [.int d, .int e, .int f] ∧
 ∀ (L t : Addr) (H' : Hp), Same H H' -> H L = none -> H t = none -> H' L = some (.lst [.ref q, .ref t]) -> H' t = some (.tup [.int (a - d), .int (b - e), .int (c - f)]) -> Q (.ref L) H'
theorem ok_low_forms {P : Program} {w : World} {K : PySem.W.Frag} {mg : Str -> Option Value} {base : Heap} (T : Tx K mg) : FnOk P w K mg base CX0 1 T.a_low_forms T.fd_low_forms ["upper", "lower"] (spLowF K) := by
 refine T.F_low_forms.ok sc_low_forms (fun vs H Q E h => ?_) (fun cdv A outer s H vs Q E hr h => ?_)
 ·obtain ⟨p, q, a, b, c, d, e, f, rfl, _⟩ := h
  rfl
 obtain ⟨p, q, a, b, c, d, e, f, rfl, hp, hq, z⟩ := h
 refine ⟨_, ((pss_one (ps_ret (pe_lst (pa_cons (pv 1) (pa_cons (pe_tup (pa_cons (pe_op op_sub (pe_ix ix_tup (pv 0) pe_int (fun _ _ => rfl)) (pe_ix ix_tup (pv 1) pe_int (fun _ _ => rfl))) (pa_cons (pe_op op_sub (pe_ix ix_tup (pv 0) pe_int (fun _ _ => rfl)) (pe_ix ix_tup (pv 1) pe_int (fun _ _ => rfl))) (pa_cons (pe_op op_sub (pe_ix ix_tup (pv 0) pe_int (fun _ _ => rfl)) (pe_ix ix_tup (pv 1) pe_int (fun _ _ => rfl))) pa_nil)))) pa_nil)))))), ?_⟩
 k_units
 refine ⟨_, hp, _, rfl, _, hq, _, rfl, _, rfl, _, rfl, _, hp, _, rfl, _, hq, _, rfl, _, rfl, _, rfl, _, hp, _, rfl, _, hq, _, rfl, _, rfl, _, rfl, by decide, fun t nt => ⟨by decide, fun L nL => ?_⟩⟩
 have u1 := same_upd nt (.tup [V.int (a - d), V.int (b - e), V.int (c - f)])
 have u2 := same_upd nL (.lst [V.ref q, V.ref t])
 exact z L t _ (u1.trans u2) (u1.free nL) nt upd_same (u2 _ _ upd_same)
def wgtF (p : Addr) : List (Str × V) := [(Str.ofString "form", .ref p)]
def spWInit (C : Addr) : Sp := fun vs H Q _ => ∃ x dx p : Addr, vs = [.ref x, .ref p] ∧ H x = some (.ins C dx []) ∧ Q .non (upd H x (.ins C dx (wgtF p)))
theorem ok_Weight___init__ {P : Program} {w : World} {K : PySem.W.Frag} {mg : Str -> Option Value} {base : Heap} (T : Tx K mg) : FnOk P w K mg base CX0 1 T.a_Weight___init__ T.fd_Weight___init__ ["self", "form"] (spWInit T.c_Weight) := by
 refine T.F_Weight___init__.ok sc_Weight___init__ (fun vs H Q E h => ?_) (fun cdv A outer s H vs Q E hr h => ?_)
 ·obtain ⟨x, dx, p, rfl, _⟩ := h
  rfl
 obtain ⟨x, dx, p, rfl, hx, q⟩ := h
 refine ⟨_, ((pss_one (ps_fld (pv 0) (pv 1) rfl))), ?_⟩
 k_units
 exact ⟨T.c_Weight, dx, [], hx, T.cl_Weight, T.na_Weight_form, by decide, q⟩
def spWWorth (K : PySem.W.Frag) (C : Addr) : Sp := fun vs H Q _ => ∃ (x dx p : Addr) (a b c n k : Int), vs = [.ref x, .int n, .int k] ∧ H x = some (.ins C dx (wgtF p)) ∧ SqT K H p [.int a, .int b, .int c] ∧ Bd 400 a ∧ Bd 400 b ∧ Bd 20 n ∧ Bd 20 k ∧ mkT H Q (a * n + b * k + c) 1
theorem ok_Weight_worth {P : Program} {w : World} {K : PySem.W.Frag} {mg : Str -> Option Value} {base : Heap} (T : Tx K mg) : FnOk P w K mg base CX0 2 T.a_Weight_worth T.fd_Weight_worth ["self", "n", "k"] (spWWorth K T.c_Weight) := by
 refine T.F_Weight_worth.ok sc_Weight_worth (fun vs H Q E h => ?_) (fun cdv A outer s H vs Q E hr h => ?_)
 ·obtain ⟨x, dx, p, a, b, c, n, k, rfl, _⟩ := h
  rfl
 obtain ⟨x, dx, p, a, b, c, n, k, rfl, hx, hp, ba, bb, bn, bk, q⟩ := h
 refine ⟨_, ((pss_one (ps_ret (pe_tup (pa_cons (pe_call (FnOk.mono (ok_form_value T) (by decide)) hr rfl T.m_form_value T.F_form_value.kp T.b_form_value .nil pass0 (pa_cons (pe_fld (pv 0) rfl) (pa_cons (pv 1) (pa_cons (pv 2) pa_nil)))) (pa_cons pe_int pa_nil)))))), ?_⟩
 k_units
 exact ⟨T.c_Weight, dx, _, hx, T.cl_Weight, T.na_Weight_form, _, rfl, p, a, b, c, n, k, rfl, hp, ba, bb, bn, bk, by decide, q⟩
def powF (p : Addr) : List (Str × V) := [(Str.ofString "fraction", .ref p)]
def spPInit (C : Addr) : Sp := fun vs H Q _ => ∃ x dx p : Addr, vs = [.ref x, .ref p] ∧ H x = some (.ins C dx []) ∧ Q .non (upd H x (.ins C dx (powF p)))
theorem ok_Power___init__ {P : Program} {w : World} {K : PySem.W.Frag} {mg : Str -> Option Value} {base : Heap} (T : Tx K mg) : FnOk P w K mg base CX0 1 T.a_Power___init__ T.fd_Power___init__ ["self", "fraction"] (spPInit T.c_Power) := by
 refine T.F_Power___init__.ok sc_Power___init__ (fun vs H Q E h => ?_) (fun cdv A outer s H vs Q E hr h => ?_)
 ·obtain ⟨x, dx, p, rfl, _⟩ := h
  rfl
 obtain ⟨x, dx, p, rfl, hx, q⟩ := h
 refine ⟨_, ((pss_one (ps_fld (pv 0) (pv 1) rfl))), ?_⟩
 k_units
 exact ⟨T.c_Power, dx, [], hx, T.cl_Power, T.na_Power_fraction, by decide, q⟩
theorem ok_Growth___init__ {P : Program} {w : World} {K : PySem.W.Frag} {mg : Str -> Option Value} {base : Heap} (T : Tx K mg) : FnOk P w K mg base CX0 1 T.a_Growth___init__ T.fd_Growth___init__ ["self", "fraction"] (spPInit T.c_Growth) := by
 refine T.F_Growth___init__.ok sc_Growth___init__ (fun vs H Q E h => ?_) (fun cdv A outer s H vs Q E hr h => ?_)
 ·obtain ⟨x, dx, p, rfl, _⟩ := h
  rfl
 obtain ⟨x, dx, p, rfl, hx, q⟩ := h
 refine ⟨_, ((pss_one (ps_fld (pv 0) (pv 1) rfl))), ?_⟩
 k_units
 exact ⟨T.c_Growth, dx, [], hx, T.cl_Growth, T.na_Growth_fraction, by decide, q⟩
def spPWorth (K : PySem.W.Frag) (C : Addr) (up : Bool) : Sp := fun vs H Q _ => ∃ (x dx p : Addr) (a b : Int) (n k : Nat), vs = [.ref x, .int (n : Int), .int (k : Int)] ∧ H x = some (.ins C dx (powF p)) ∧ SqT K H p [.int a, .int b] ∧ Bd 100 a ∧ Bd 100 b ∧ n <= 500 ∧ k <= 500 ∧ mkT H Q (a ^ (if up then k else n)) (b ^ (if up then k else n))
theorem ok_Power_worth {P : Program} {w : World} {K : PySem.W.Frag} {mg : Str -> Option Value} {base : Heap} (T : Tx K mg) : FnOk P w K mg base CX0 2 T.a_Power_worth T.fd_Power_worth ["self", "n", "k"] (spPWorth K T.c_Power true) := by
 refine T.F_Power_worth.ok sc_Power_worth (fun vs H Q E h => ?_) (fun cdv A outer s H vs Q E hr h => ?_)
 ·obtain ⟨x, dx, p, a, b, n, k, rfl, _⟩ := h
  rfl
 obtain ⟨x, dx, p, a, b, n, k, rfl, hx, hp, ba, bb, n5, k5, q⟩ := h
 refine ⟨_, ((pss_one (ps_ret (pe_tup (pa_cons (pe_call (FnOk.mono (ok_power_of T) (by decide)) hr rfl T.m_power_of T.F_power_of.kp T.b_power_of .nil pass0 (pa_cons (pe_ix ix_tup (pe_fld (pv 0) rfl) pe_int (fun _ _ => rfl)) (pa_cons (pv 2) pa_nil))) (pa_cons (pe_call (FnOk.mono (ok_power_of T) (by decide)) hr rfl T.m_power_of T.F_power_of.kp T.b_power_of .nil pass0 (pa_cons (pe_ix ix_tup (pe_fld (pv 0) rfl) pe_int (fun _ _ => rfl)) (pa_cons (pv 2) pa_nil))) pa_nil)))))), ?_⟩
 k_units
 exact ⟨T.c_Power, dx, _, hx, T.cl_Power, T.na_Power_fraction, _, rfl, p, rfl, _, hp, _, rfl, a, k, rfl, ba, k5, T.c_Power, dx, _, hx, T.cl_Power, T.na_Power_fraction, _, rfl, p, rfl, _, hp, _, rfl, b, k, rfl, bb, k5, by decide, q⟩
theorem ok_Growth_worth {P : Program} {w : World} {K : PySem.W.Frag} {mg : Str -> Option Value} {base : Heap} (T : Tx K mg) : FnOk P w K mg base CX0 2 T.a_Growth_worth T.fd_Growth_worth ["self", "n", "k"] (spPWorth K T.c_Growth false) := by
 refine T.F_Growth_worth.ok sc_Growth_worth (fun vs H Q E h => ?_) (fun cdv A outer s H vs Q E hr h => ?_)
 ·obtain ⟨x, dx, p, a, b, n, k, rfl, _⟩ := h
  rfl
 obtain ⟨x, dx, p, a, b, n, k, rfl, hx, hp, ba, bb, n5, k5, q⟩ := h
 refine ⟨_, ((pss_one (ps_ret (pe_tup (pa_cons (pe_call (FnOk.mono (ok_power_of T) (by decide)) hr rfl T.m_power_of T.F_power_of.kp T.b_power_of .nil pass0 (pa_cons (pe_ix ix_tup (pe_fld (pv 0) rfl) pe_int (fun _ _ => rfl)) (pa_cons (pv 1) pa_nil))) (pa_cons (pe_call (FnOk.mono (ok_power_of T) (by decide)) hr rfl T.m_power_of T.F_power_of.kp T.b_power_of .nil pass0 (pa_cons (pe_ix ix_tup (pe_fld (pv 0) rfl) pe_int (fun _ _ => rfl)) (pa_cons (pv 1) pa_nil))) pa_nil)))))), ?_⟩
 k_units
 exact ⟨T.c_Growth, dx, _, hx, T.cl_Growth, T.na_Growth_fraction, _, rfl, p, rfl, _, hp, _, rfl, a, n, rfl, ba, n5, T.c_Growth, dx, _, hx, T.cl_Growth, T.na_Growth_fraction, _, rfl, p, rfl, _, hp, _, rfl, b, n, rfl, bb, n5, by decide, q⟩
def chsF (p L : Addr) : List (Str × V) := [(Str.ofString "above", .ref p), (Str.ofString "lows", .ref L)]
def spCInit (K : PySem.W.Frag) (C : Addr) : Sp := fun vs H Q _ => ∃ (x dx p q : Addr) (a b c d e f : Int), vs = [.ref x, .ref p, .ref q] ∧ H x = some (.ins C dx []) ∧ SqT K H p [.int a, .int b, .int c] ∧ SqT K H q [.int d, .int e, .int f] ∧
 ∀ (L t : Addr) (H' : Hp), (∀ y o, y ≠ x -> H y = some o -> H' y = some o) -> H L = none -> H t = none -> H' x = some (.ins C dx (chsF p L)) -> H' L = some (.lst [.ref q, .ref t]) -> H' t = some (.tup [.int (a - d), .int (b - e), .int (c - f)]) -> Q .non H'
theorem SqT.updI {K : PySem.W.Frag} {H : Hp} {a x C dx : Addr} {xs : List V} {fs : List (Str × V)} {o : HO} (h : SqT K H a xs) (e : H x = some (.ins C dx fs)) : SqT K (L2.upd H x o) a xs := by
 rcases h with (h | ⟨u, h⟩) | h
 ·exact .inl (.inl (by rw [upd_ne (ne_of h e (fun z => nomatch z))]; exact h))
 ·exact .inl (.inr ⟨u, by rw [upd_ne (ne_of h e (fun z => nomatch z))]; exact h⟩)
 ·exact .inr h
theorem ok_Choose___init__ {P : Program} {w : World} {K : PySem.W.Frag} {mg : Str -> Option Value} {base : Heap} (T : Tx K mg) : FnOk P w K mg base CX0 2 T.a_Choose___init__ T.fd_Choose___init__ ["self", "upper", "lower"] (spCInit K T.c_Choose) := by
 refine T.F_Choose___init__.ok sc_Choose___init__ (fun vs H Q E h => ?_) (fun cdv A outer s H vs Q E hr h => ?_)
 ·obtain ⟨x, dx, p, q, a, b, c, d, e, f, rfl, _⟩ := h
  rfl
 obtain ⟨x, dx, p, q, a, b, c, d, e, f, rfl, hx, hp, hq, z⟩ := h
 refine ⟨_, ((pss_cons (ps_fld (pv 0) (pv 1) rfl)
  (pss_one (ps_fld (pv 0) (pe_call (FnOk.mono (ok_low_forms T) (by decide)) hr rfl T.m_low_forms T.F_low_forms.kp T.b_low_forms .nil pass0 (pa_cons (pv 1) (pa_cons (pv 2) pa_nil))) rfl)))), ?_⟩
 k_units
 refine ⟨T.c_Choose, dx, [], hx, T.cl_Choose, T.na_Choose_above, by decide, ?_⟩
 have ex1 : upd H x (.ins T.c_Choose dx (putF "above" (.ref p) [])) x = some (.ins T.c_Choose dx [("above", .ref p)]) := upd_same
 have hp1 := SqT.updI (o := .ins T.c_Choose dx (putF "above" (.ref p) [])) hp hx
 have hq1 := SqT.updI (o := .ins T.c_Choose dx (putF "above" (.ref p) [])) hq hx
 have k1 : ∀ y o, y ≠ x -> H y = some o -> upd H x (.ins T.c_Choose dx (putF "above" (.ref p) [])) y = some o := fun y o hy e => by rw [upd_ne hy]; exact e
 have n1 : ∀ y, upd H x (.ins T.c_Choose dx (putF "above" (.ref p) [])) y = none -> H y = none := fun y e => by
  by_cases hy : y = x
  ·rw [hy, upd_same] at e; cases e
  ·rw [upd_ne hy] at e; exact e
 generalize upd H x (.ins T.c_Choose dx (putF "above" (.ref p) [])) = G at ex1 hp1 hq1 k1 n1 ⊢
 refine ⟨p, q, a, b, c, d, e, f, rfl, hp1, hq1, fun L t H1 s1 nL nt eL et => ?_⟩
 refine ⟨T.c_Choose, dx, _, s1 _ _ ex1, T.cl_Choose, T.na_Choose_lows, by show 1 < 1000; decide, ?_⟩
 have pf : putF "lows" (.ref L) [("above", V.ref p)] = chsF p L := rfl
 rw [pf]
 have nLx : L ≠ x := fun hz => by rw [hz, ex1] at nL; cases nL
 have ntx : t ≠ x := fun hz => by rw [hz, ex1] at nt; cases nt
 exact z L t _ (fun y o hy e => by rw [upd_ne hy]; exact s1 _ _ (k1 y o hy e)) (n1 _ nL) (n1 _ nt) upd_same (by rw [upd_ne nLx]; exact eL) (by rw [upd_ne ntx]; exact et)
def spRaised (K : PySem.W.Frag) : Sp := fun vs H Q _ => ∃ (p : Addr) (a b c y : Int), vs = [.ref p, .int y] ∧ SqT K H p [.int a, .int b, .int c] ∧ ∀ r, H r = none -> Q (.ref r) (upd H r (.tup [.int a, .int b, .int (c + y)]))
theorem ok_raised {P : Program} {w : World} {K : PySem.W.Frag} {mg : Str -> Option Value} {base : Heap} (T : Tx K mg) : FnOk P w K mg base CX0 1 T.a_raised T.fd_raised ["form", "by"] (spRaised K) := by
 refine T.F_raised.ok sc_raised (fun vs H Q E h => ?_) (fun cdv A outer s H vs Q E hr h => ?_)
 ·obtain ⟨p, a, b, c, y, rfl, _⟩ := h
  rfl
 obtain ⟨p, a, b, c, y, rfl, hp, q⟩ := h
 refine ⟨_, ((pss_one (ps_ret (pe_tup (pa_cons (pe_ix ix_tup (pv 0) pe_int (fun _ _ => rfl)) (pa_cons (pe_ix ix_tup (pv 0) pe_int (fun _ _ => rfl)) (pa_cons (pe_op op_add (pe_ix ix_tup (pv 0) pe_int (fun _ _ => rfl)) (pv 1)) pa_nil))))))), ?_⟩
 k_units
 exact ⟨_, hp, _, rfl, _, hp, _, rfl, _, hp, _, rfl, _, rfl, by decide, q⟩
def liftF (far : Int) (f : Int × Int × Int) : Int × Int × Int := (f.1, f.2.1, f.2.2 + if 0 > far * f.1 then 0 else far * f.1)
def spLift (K : PySem.W.Frag) (C : Addr) : Sp := fun vs H Q _ => ∃ (x dx p L q t : Addr) (f g : Int × Int × Int) (far : Int), vs = [.ref x, .int far] ∧ H x = some (.ins C dx (chsF p L)) ∧ H L = some (.lst [.ref q, .ref t]) ∧ SqT K H q [.int f.1, .int f.2.1, .int f.2.2] ∧ SqT K H t [.int g.1, .int g.2.1, .int g.2.2] ∧ Bd 20 far ∧ Bd 20 f.1 ∧ Bd 20 g.1 ∧
 ∀ (D u v : Addr) (H' : Hp), Same H H' -> H D = none -> H' D = some (.lst [.ref u, .ref v]) -> H' u = some (.tup [.int (liftF far f).1, .int (liftF far f).2.1, .int (liftF far f).2.2]) -> H' v = some (.tup [.int (liftF far g).1, .int (liftF far g).2.1, .int (liftF far g).2.2]) -> Q (.ref D) H'
theorem ok_Choose_lifted {P : Program} {w : World} {K : PySem.W.Frag} {mg : Str -> Option Value} {base : Heap} (T : Tx K mg) : FnOk P w K mg base CX0 2 T.a_Choose_lifted T.fd_Choose_lifted ["self", "far"] (spLift K T.c_Choose) := by
 refine T.F_Choose_lifted.ok sc_Choose_lifted (fun vs H Q E h => ?_) (fun cdv A outer s H vs Q E hr h => ?_)
 ·obtain ⟨x, dx, p, L, q, t, f, g, far, rfl, _⟩ := h
  rfl
 obtain ⟨x, dx, p, L, q, t, f, g, far, rfl, hx, hL, hq, ht, bf, b1, b2, z⟩ := h
 refine ⟨_, ((pss_one (ps_ret (pe_lcomp rfl (blkok rfl (sub_cons rfl sub_nil) (fv_cons 1 "far" (by decide) rfl (Or.inl rfl) (Or.inl rfl) ⟨_, rfl⟩ fv_nil)) (pi_list (pe_fld (pv 0) rfl)) (fun _ _ _ _ => (pe_call (FnOk.mono (ok_raised T) (by decide)) hr rfl T.m_raised T.F_raised.kp T.b_raised .nil pass0 (pa_cons (pv 0) (pa_cons (pe_callB (call_max2 rfl) rfl T.z_max bt_max (pa_cons (pe_op op_mulZ (pv 1) (pe_ix (ix_tupK (K := K) rfl) (pv 0) pe_int (fun _ _ => rfl))) (pa_cons pe_int pa_nil))) pa_nil)))))))), ?_⟩
 k_units
 refine ⟨T.c_Choose, dx, _, hx, T.cl_Choose, T.na_Choose_lows, _, rfl, L, rfl, ⟨_, SqL.of hL⟩, fun D nD => ?_⟩
 obtain ⟨Pc, hPc⟩ : ∃ Pc : Nat -> Hp -> Prop, ∀ j Hx, Pc j Hx ↔ ∃ us : List Addr, Hx D = some (.lst (us.map V.ref)) ∧ us.length = j ∧ (∀ (i : Nat) (u : Addr) (h : Int × Int × Int), us[i]? = some u -> [f, g][i]? = some h -> Hx u = some (.tup [.int (liftF far h).1, .int (liftF far h).2.1, .int (liftF far h).2.2])) ∧ Same H Hx := ⟨_, fun _ _ => Iff.rfl⟩
 refine cl_list (xs := [V.ref q, V.ref t]) Pc ((hPc _ _).mpr ⟨[], upd_same, rfl, fun i u h h1 => by simp at h1, same_upd nD _⟩) (fun i Hx _ z => by obtain ⟨_, _, _, _, z⟩ := (hPc i Hx).mp z; exact z.seq (SqL.of hL)) ?_ ?_
 ·intro j v Hx hv hc
  obtain ⟨us, k1, k2, k3, k4⟩ := (hPc _ _).mp hc
  obtain ⟨r, h, rfl, hh, er, bh⟩ : ∃ (r : Addr) (h : Int × Int × Int), v = V.ref r ∧ [f, g][j]? = some h ∧ SqT K H r [.int h.1, .int h.2.1, .int h.2.2] ∧ Bd 20 h.1 := by
   match j, hv with
   | 0, hv => exact ⟨q, f, (Option.some.inj hv).symm, rfl, hq, b1⟩
   | 1, hv => exact ⟨t, g, (Option.some.inj hv).symm, rfl, ht, b2⟩
   | j + 2, hv => simp at hv
  (iterate 3 (k_units; (try simp only [bst, Option.getD_some])); k_units)
  have er' := k4.seqT er
  have hj2 : j < 2 := by have := (List.getElem?_eq_some_iff.mp hh).1; simpa using this
  refine ⟨_, er', _, rfl, _, rfl, bf.fits bh (by decide), r, h.1, h.2.1, h.2.2, _, rfl, er', fun u nu => ?_⟩
  have uu := same_upd nu (.tup [V.int h.1, V.int h.2.1, V.int (h.2.2 + if 0 > far * h.1 then 0 else far * h.1)])
  refine ⟨_, uu _ _ k1, by rw [List.length_map]; exact small1000 (by omega), (hPc _ _).mpr ⟨us ++ [u], by rw [upd_same]; simp, by simp [k2], fun i u' h' q1 q2 => ?_, (k4.trans uu).more nD⟩⟩
  have nuD : u ≠ D := fun hz => by rw [hz, k1] at nu; cases nu
  by_cases hi : i < us.length
  ·rw [List.getElem?_append_left hi] at q1
   have e := uu _ _ (k3 i u' h' q1 q2)
   rw [upd_ne (ne_of e (uu _ _ k1) (fun z => nomatch z))]; exact e
  ·rw [List.getElem?_append_right (by omega)] at q1
   have hi2 : i - us.length = 0 := by
    have := (List.getElem?_eq_some_iff.mp q1).1
    simp at this; omega
   rw [hi2] at q1
   obtain rfl := Option.some.inj q1
   have hij : i = j := by omega
   rw [hij, hh] at q2
   obtain rfl := Option.some.inj q2
   rw [upd_ne nuD, upd_same]; rfl
 intro H' hc
 obtain ⟨us, k1, k2, k3, k4⟩ := (hPc _ _).mp hc
 match us, k2 with
 | [u, v], _ => exact z D u v H' k4 nD k1 (k3 0 u f rfl rfl) (k3 1 v g rfl rfl)
theorem asc_pos (a : Nat) : ∀ n : Nat, 0 < asc a n
 | 0 => Nat.one_pos
 | n + 1 => Nat.mul_pos (asc_pos a n) (by omega)
def atF (f : Int × Int × Int) (n k : Int) : Int := f.1 * n + f.2.1 * k + f.2.2
def spFloor (K : PySem.W.Frag) (C : Addr) : Sp := fun vs H Q _ => ∃ (x dx p L q t : Addr) (f g h : Int × Int × Int) (far : Int) (n k : Nat), vs = [.ref x, .int (n : Int), .int (k : Int), .int far] ∧ H x = some (.ins C dx (chsF p L)) ∧ H L = some (.lst [.ref q, .ref t]) ∧ SqT K H p [.int h.1, .int h.2.1, .int h.2.2] ∧ SqT K H q [.int f.1, .int f.2.1, .int f.2.2] ∧ SqT K H t [.int g.1, .int g.2.1, .int g.2.2] ∧ h.1 = f.1 + g.1 ∧ h.2.1 = f.2.1 + g.2.1 ∧ h.2.2 = f.2.2 + g.2.2 ∧ Bd 10 far ∧ Bd 10 f.1 ∧ Bd 10 g.1 ∧ Bd 10 f.2.1 ∧ Bd 10 g.2.1 ∧ n <= 500 ∧ k <= 500 ∧ far * f.1 <= 50 ∧ far * g.1 <= 50 ∧ atF (liftF far f) n k + atF (liftF far g) n k < 4000 ∧
 ∀ (z : Int × Int), (((atF (liftF far f) n k < 0 ∨ atF (liftF far g) n k < 0) ∧ z = (0, 1)) ∨ ∃ b0 b1 m : Nat, atF (liftF far f) n k = (b0 : Int) ∧ atF (liftF far g) n k = (b1 : Int) ∧ (m : Int) = (if 0 > atF h n k then 0 else atF h n k) ∧ m <= b0 + b1 ∧ Frc z ∧ z.1 * ((asc m (b0 + b1 - m) : Nat) : Int) = ((chs (b0 + b1) b1 : Nat) : Int) * z.2) -> ∀ (r : Addr) (H' : Hp), Same H H' -> H' r = some (.tup [.int z.1, .int z.2]) -> Q (.ref r) H'
theorem ok_Choose_floor {P : Program} {w : World} {K : PySem.W.Frag} {mg : Str -> Option Value} {base : Heap} (T : Tx K mg) : FnOk P w K mg base CX0 14 T.a_Choose_floor T.fd_Choose_floor ["self", "n", "k", "far"] (spFloor K T.c_Choose) := by
 refine T.F_Choose_floor.ok sc_Choose_floor (fun vs H Q E h => ?_) (fun cdv A outer s H vs Q E hr h => ?_)
 ·obtain ⟨x, dx, p, L, q, t, f, g, h, far, n, k, rfl, _⟩ := h
  rfl
 obtain ⟨x, dx, p, L, q, t, f, g, h, far, n, k, rfl, hx, hL, hp, hq, ht, h1, h2, h3, bfar, bf, bg, bf2, bg2, n5, k5, ff, fg, lt4, z⟩ := h
 refine ⟨_, ((pss_cons (ps_set (i := 4) sc_Choose_floor.nd rfl (Or.inl rfl) (pe_call (FnOk.mono (ok_form_value T) (by decide)) hr rfl T.m_form_value T.F_form_value.kp T.b_form_value .nil pass0 (pa_cons (pe_fld (pv 0) rfl) (pa_cons (pv 1) (pa_cons (pv 2) pa_nil)))))
  (pss_cons (ps_setC (i := 5) rfl (blkok rfl (sub_cons rfl (sub_cons rfl sub_nil)) (fv_cons 1 "n" (by decide) rfl (Or.inl rfl) (Or.inl rfl) ⟨_, rfl⟩ (fv_cons 2 "k" (by decide) rfl (Or.inl rfl) (Or.inl rfl) ⟨_, rfl⟩ fv_nil))) (pi_list (pe_meth (pv 0) T.cl_Choose T.me_Choose_lifted (FnOk.mono (ok_Choose_lifted T) (by decide)) hr T.b_Choose_lifted .nil pass0 (pa_cons (pv 3) pa_nil))) (fun _ _ _ _ => (pe_call (FnOk.mono (ok_form_value T) (by decide)) hr rfl T.m_form_value T.F_form_value.kp T.b_form_value .nil pass0 (pa_cons (pv 0) (pa_cons (pv 1) (pa_cons (pv 2) pa_nil))))) sc_Choose_floor.nd rfl rfl)
  (pss_cons (ps_if (pt_cmpR op_lt (pe_callB (call_minL rfl) rfl T.z_min bt_min (pa_cons (pv 5) pa_nil)) pe_int (nomark _)) (pss_one (ps_ret (pe_tup (pa_cons pe_int (pa_cons pe_int pa_nil))))) pss_nil)
  (pss_one (ps_ret (pe_call (FnOk.mono (ok_ratio T) (by decide)) hr rfl T.m_ratio T.F_ratio.kp T.b_ratio .nil passF (pa_cons (pe_call (FnOk.mono (ok_choices T) (by decide)) hr rfl T.m_choices T.F_choices.kp T.b_choices .nil pass0 (pa_cons (pe_ix ix_list (pv 5) pe_int (fun _ _ => rfl)) (pa_cons (pe_ix ix_list (pv 5) pe_int (fun _ _ => rfl)) pa_nil))) (pa_cons (pe_call (FnOk.mono (ok_run_product T 9) (by decide)) hr rfl T.m_run_product T.F_run_product.kp T.b_run_product .nil pass0 (pa_cons (pe_op op_add (pe_callB (call_max2 rfl) rfl T.z_max bt_max (pa_cons (pv 4) (pa_cons pe_int pa_nil))) pe_int) (pa_cons (pe_op op_add (pe_ix ix_list (pv 5) pe_int (fun _ _ => rfl)) (pe_ix ix_list (pv 5) pe_int (fun _ _ => rfl))) pa_nil))) pa_nil))))))))), ?_⟩
 have bn : Bd 20 (n : Int) := Bd.of_lt (m := 501) (by omega) (by decide)
 have bk : Bd 20 (k : Int) := Bd.of_lt (m := 501) (by omega) (by decide)
 dsimp only [a_seq]
 k_typeOf
 refine ⟨T.c_Choose, dx, _, hx, T.cl_Choose, T.na_Choose_above, _, rfl, p, h.1, h.2.1, h.2.2, n, k, rfl, hp, by rw [h1]; exact (bf.add bg).mono (by decide), by rw [h2]; exact (bf2.add bg2).mono (by decide), bn, bk, ?_⟩
 dsimp only [a_seq]
 k_typeOf
 refine ⟨dx, _, hx, rfl, x, dx, p, L, q, t, f, g, far, rfl, hx, hL, hq, ht, bfar.mono (by decide), bf.mono (by decide), bg.mono (by decide), fun D u v H1 s1 _ eD eu ev => ⟨D, rfl, ⟨_, SqL.of eD⟩, fun D2 nD2 => ?_⟩⟩
 obtain ⟨B0, hB0⟩ : ∃ B0, atF (liftF far f) n k = B0 := ⟨_, rfl⟩
 obtain ⟨B1, hB1⟩ : ∃ B1, atF (liftF far g) n k = B1 := ⟨_, rfl⟩
 rw [hB0, hB1] at z lt4
 obtain ⟨Pc, hPc⟩ : ∃ Pc : Nat -> Hp -> Prop, ∀ j Hx, Pc j Hx ↔ Hx D2 = some (.lst (([B0, B1].take j).map V.int)) ∧ Same H1 Hx := ⟨_, fun _ _ => Iff.rfl⟩
 refine cl_list (xs := [V.ref u, V.ref v]) Pc ((hPc _ _).mpr ⟨upd_same, same_upd nD2 _⟩) (fun i Hx _ y => by obtain ⟨_, y⟩ := (hPc i Hx).mp y; exact y.seq (SqL.of eD)) ?_ ?_
 ·intro j w' Hx hv hc
  obtain ⟨k1, k2⟩ := (hPc _ _).mp hc
  obtain ⟨r, l, rfl, er, bl, bl2, hB⟩ : ∃ (r : Addr) (l : Int × Int × Int), w' = V.ref r ∧ H1 r = some (.tup [.int l.1, .int l.2.1, .int l.2.2]) ∧ Bd 10 l.1 ∧ Bd 10 l.2.1 ∧ [B0, B1].take (j + 1) = [B0, B1].take j ++ [atF l n k] := by
   match j, hv with
   | 0, hv => exact ⟨u, liftF far f, (Option.some.inj hv).symm, eu, bf, bf2, by rw [hB0]; rfl⟩
   | 1, hv => exact ⟨v, liftF far g, (Option.some.inj hv).symm, ev, bg, bg2, by rw [hB1]; rfl⟩
   | j + 2, hv => simp at hv
  (iterate 3 (k_units; (try simp only [bst, Option.getD_some])); k_units)
  refine ⟨r, l.1, l.2.1, l.2.2, n, k, rfl, SqT.of (k2 _ _ er), bl.mono (by decide), bl2.mono (by decide), bn, bk, _, k1, by rw [List.length_map, List.length_take]; exact small1000 (by simp; omega), (hPc _ _).mpr ⟨?_, k2.more nD2⟩⟩
  rw [upd_same, hB, List.map_append]; rfl
 intro H2 hc
 obtain ⟨e2, k2⟩ := (hPc _ _).mp hc
 have e2' : H2 D2 = some (.lst ([B0, B1].map V.int)) := e2
 have s2 := s1.trans k2
 clear hc hPc Pc e2
 dsimp only [a_seq]
 k_typeOf
 refine ⟨[B0, B1], SqL.of e2', by simp, fun M hM hM2 => ite2 (fun hneg => ⟨by decide, fun r nr => z (0, 1) (.inl ⟨?_, rfl⟩) r _ (s2.trans (same_upd nr _)) upd_same⟩) (fun hpos => ?_)⟩
 ·simp at hM
  rcases hM with rfl | rfl
  ·exact .inl hneg
  ·exact .inr hneg
 have p0 := hM2 B0 (by simp)
 have p1 := hM2 B1 (by simp)
 obtain ⟨b0, rfl⟩ : ∃ b0 : Nat, B0 = (b0 : Int) := ⟨B0.toNat, by omega⟩
 obtain ⟨b1, rfl⟩ : ∃ b1 : Nat, B1 = (b1 : Int) := ⟨B1.toNat, by omega⟩
 k_units
 have hA : h.1 * (n : Int) + h.2.1 * (k : Int) + h.2.2 = (f.1 * (n : Int) + f.2.1 * (k : Int) + f.2.2) + (g.1 * (n : Int) + g.2.1 * (k : Int) + g.2.2) := by rw [h1, h2, h3, Int.add_mul, Int.add_mul]; omega
 have q0 : f.1 * (n : Int) + f.2.1 * (k : Int) + (f.2.2 + if 0 > far * f.1 then 0 else far * f.1) = (b0 : Int) := hB0
 have q1 : g.1 * (n : Int) + g.2.1 * (k : Int) + (g.2.2 + if 0 > far * g.1 then 0 else far * g.1) = (b1 : Int) := hB1
 obtain ⟨m, hm⟩ : ∃ m : Nat, (m : Int) = (if 0 > h.1 * (n : Int) + h.2.1 * (k : Int) + h.2.2 then 0 else h.1 * (n : Int) + h.2.1 * (k : Int) + h.2.2) := ⟨(if 0 > h.1 * (n : Int) + h.2.1 * (k : Int) + h.2.2 then 0 else h.1 * (n : Int) + h.2.1 * (k : Int) + h.2.2).toNat, by split <;> omega⟩
 rw [hA] at hm
 have hle : m <= b0 + b1 ∧ b0 + b1 - m <= 100 := by
  generalize f.1 * (n : Int) + f.2.1 * (k : Int) = X at hm q0
  generalize g.1 * (n : Int) + g.2.1 * (k : Int) = Y at hm q1
  generalize far * f.1 = F0 at ff q0
  generalize far * g.1 = G0 at fg q1
  split at hm <;> split at q0 <;> split at q1 <;> omega
 rw [← hA] at hm
 rw [← hm]
 have l4 : b0 + b1 < 4000 := by omega
 refine ⟨_, SqL.of e2', _, rfl, _, SqL.of e2', _, rfl, b0, b1, rfl, l4, _, SqL.of e2', _, rfl, _, SqL.of e2', _, rfl, _, rfl, _, rfl, m, b0 + b1 - m, ?_, Nat.le_trans (show b0 + b1 - m <= 4096 by omega) (by decide), Nat.lt_of_lt_of_le (show m + (b0 + b1 - m) < 4096 by omega) (by decide), ?_⟩
 ·rw [show m + (b0 + b1 - m) = b0 + b1 by omega]; rfl
 have ap := asc_pos m (b0 + b1 - m)
 refine ⟨_, _, rfl, (asc_bd (b0 + b1 - m) (Nat.lt_of_lt_of_le (show m + (b0 + b1 - m) < 4096 by omega) (by decide))).mono (by omega), .inl ⟨by omega, fun x y y1 cg e _ _ r nr => ?_⟩⟩
 exact z (x, y) (.inr ⟨b0, b1, m, rfl, rfl, hm, hle.1, ⟨y1, cg⟩, e⟩) r _ (s2.trans (same_upd nr _)) upd_same
def spCWorth (K : PySem.W.Frag) (C : Addr) : Sp := fun vs H Q E => ∃ (x : Addr) (n k : Nat), vs = [.ref x, .int (n : Int), .int (k : Int)] ∧ spFloor K C [.ref x, .int (n : Int), .int (k : Int), .int 0] H Q E
theorem ok_Choose_worth {P : Program} {w : World} {K : PySem.W.Frag} {mg : Str -> Option Value} {base : Heap} (T : Tx K mg) : FnOk P w K mg base CX0 15 T.a_Choose_worth T.fd_Choose_worth ["self", "n", "k"] (spCWorth K T.c_Choose) := by
 refine T.F_Choose_worth.ok sc_Choose_worth (fun vs H Q E h => ?_) (fun cdv A outer s H vs Q E hr h => ?_)
 ·obtain ⟨x, n, k, rfl, _⟩ := h
  rfl
 obtain ⟨x, n, k, rfl, z⟩ := h
 refine ⟨_, ((pss_one (ps_ret (pe_meth (pv 0) T.cl_Choose T.me_Choose_floor (FnOk.mono (ok_Choose_floor T) (by decide)) hr T.b_Choose_floor .nil pass0 (pa_cons (pv 1) (pa_cons (pv 2) (pa_cons pe_int pa_nil))))))), ?_⟩
 k_units
 have hx : ∃ dx p L, H x = some (.ins T.c_Choose dx (chsF p L)) := by
  obtain ⟨x', dx, p, L, q, t, f, g, h, far, n', k', e, hx, _⟩ := z
  obtain ⟨rfl⟩ : x = x' := by simpa using congrArg List.head? e
  exact ⟨dx, p, L, hx⟩
 obtain ⟨dx, p, L, hx⟩ := hx
 exact ⟨dx, _, hx, rfl, z⟩
inductive Prt where
 | cho (h l : Int × Int × Int)
 | wei (f : Int × Int × Int)
 | pow (f : Int × Int)
 | gro (f : Int × Int)
def subF (h l : Int × Int × Int) : Int × Int × Int := (h.1 - l.1, h.2.1 - l.2.1, h.2.2 - l.2.2)
theorem lift0 (f : Int × Int × Int) : liftF 0 f = f := by simp [liftF]
theorem at_sub (h l : Int × Int × Int) (n k : Int) : atF (subF h l) n k = atF h n k - atF l n k := by
 show (h.1 - l.1) * n + (h.2.1 - l.2.1) * k + (h.2.2 - l.2.2) = h.1 * n + h.2.1 * k + h.2.2 - (l.1 * n + l.2.1 * k + l.2.2)
 grind
def waysF (a b : Int) : Int := if a < 0 ∨ b < 0 then 0 else ((chs (a + b).toNat b.toNat : Nat) : Int)
def worF (p : Prt) (n k : Nat) : Int × Int := match p with
 | .cho h l => (waysF (atF l n k) (atF (subF h l) n k), 1)
 | .wei f => (atF f n k, 1)
 | .pow f => (f.1 ^ k, f.2 ^ k)
 | .gro f => (f.1 ^ n, f.2 ^ n)
def ChoOk (h l : Int × Int × Int) : Prop := (0 <= h.1 ∧ h.1 <= 3 ∧ 0 <= h.2.1 ∧ h.2.1 <= 3 ∧ 0 <= h.2.2 ∧ h.2.2 <= 9) ∧ (-3 <= l.1 ∧ l.1 <= 3 ∧ -3 <= l.2.1 ∧ l.2.1 <= 3 ∧ -9 <= l.2.2 ∧ l.2.2 <= 9) ∧ ¬ (l.1 = 0 ∧ l.2.1 < 0) ∧ ¬ (h.1 - l.1 = 0 ∧ h.2.1 - l.2.1 < 0)
def PrtOk : Prt -> Prop
 | .cho h l => ChoOk h l
 | .wei f => Bd 300 f.1 ∧ Bd 300 f.2.1 ∧ Bd 300 f.2.2
 | .pow f => Frc f ∧ f.1 ≠ 0 ∧ Bd 70 f.1 ∧ Bd 20 f.2
 | .gro f => Frc f ∧ f.1 ≠ 0 ∧ Bd 70 f.1 ∧ Bd 20 f.2
theorem frc_one (x : Int) : Frc (x, 1) := ⟨Int.le_refl 1, by show Nat.gcd x.natAbs 1 = 1; exact Nat.gcd_one_right _⟩
theorem frc_pow {f : Int × Int} (h : Frc f) (k : Nat) : Frc (f.1 ^ k, f.2 ^ k) := by
 obtain ⟨h1, h2⟩ := h
 refine ⟨?_, ?_⟩
 ·show 1 <= f.2 ^ k
  have : 0 < f.2 ^ k := Int.pow_pos (show 0 < f.2 by omega)
  omega
 ·show Nat.gcd (f.1 ^ k).natAbs (f.2 ^ k).natAbs = 1
  rw [Int.natAbs_pow, Int.natAbs_pow]; exact Nat.Coprime.pow k k h2
theorem frc_int {z : Int × Int} {c : Int} (h : Frc z) (e : z.1 = c * z.2) : z = (c, 1) := by
 obtain ⟨h1, h2⟩ := h
 have d : z.2.natAbs ∣ z.1.natAbs := by rw [e, Int.natAbs_mul]; exact Nat.dvd_mul_left _ _
 rw [Nat.gcd_comm, Nat.gcd_eq_left d] at h2
 have e2 : z.2 = 1 := by omega
 rw [e2, Int.mul_one] at e
 exact Prod.ext e e2
theorem ways_of {h l : Int × Int × Int} {n k : Nat} {z : Int × Int} (hz : ((atF l n k < 0 ∨ atF (subF h l) n k < 0) ∧ z = (0, 1)) ∨ ∃ b0 b1 m : Nat, atF l n k = (b0 : Int) ∧ atF (subF h l) n k = (b1 : Int) ∧ (m : Int) = (if 0 > atF h n k then 0 else atF h n k) ∧ m <= b0 + b1 ∧ Frc z ∧ z.1 * ((asc m (b0 + b1 - m) : Nat) : Int) = ((chs (b0 + b1) b1 : Nat) : Int) * z.2) :
  z = (waysF (atF l n k) (atF (subF h l) n k), 1) := by
 rcases hz with ⟨h1, rfl⟩ | ⟨b0, b1, m, h1, h2, h3, h4, h5, h6⟩
 ·unfold waysF; rw [if_pos h1]
 ·have h7 := at_sub h l n k
  have hm : m = b0 + b1 := by split at h3 <;> omega
  rw [hm, Nat.sub_self, show asc (b0 + b1) 0 = 1 from rfl] at h6
  have e : waysF (atF l n k) (atF (subF h l) n k) = ((chs (b0 + b1) b1 : Nat) : Int) := by
   unfold waysF
   rw [h1, h2, if_neg (by omega), show ((b0 : Int) + (b1 : Int)).toNat = b0 + b1 by omega, Int.toNat_natCast]
  rw [e]
  exact frc_int h5 (by rw [← h6]; simp)
theorem at_bd {h : Int × Int × Int} {n k : Nat} (h1 : 0 <= h.1 ∧ h.1 <= 3) (h2 : 0 <= h.2.1 ∧ h.2.1 <= 3) (h3 : 0 <= h.2.2 ∧ h.2.2 <= 9) (hn : n <= 400) (hk : k <= 400) : atF h n k < 4000 := by
 have a1 : h.1 * (n : Int) <= 3 * (n : Int) := Int.mul_le_mul_of_nonneg_right h1.2 (by omega)
 have a2 : h.2.1 * (k : Int) <= 3 * (k : Int) := Int.mul_le_mul_of_nonneg_right h2.2 (by omega)
 show h.1 * (n : Int) + h.2.1 * (k : Int) + h.2.2 < 4000
 omega
theorem ways_bd {a b : Int} (h : a + b < 4000) : Bd 4000 (waysF a b) := by
 unfold waysF
 split
 ·exact Bd.zero _
 ·show (((chs (a + b).toNat b.toNat : Nat) : Int)).natAbs < 2 ^ 4000
  rw [Int.natAbs_natCast]
  exact Nat.lt_of_le_of_lt (chs_lt _ _) (Nat.pow_lt_pow_right (by decide) (by omega))
theorem bd_pw {l : Nat} {x : Int} (h : Bd l x) : ∀ n : Nat, Bd (l * n + 1) (x ^ n)
 | 0 => by rw [Int.pow_zero]; exact Bd.one (by omega)
 | n + 1 => by rw [Int.pow_succ]; exact ((bd_pw h n).mul h).mono (by rw [Nat.mul_succ]; omega)
def PtOk (B : Nat) (p : Prt) (n k : Nat) : Prop := PrtOk p ∧ n <= 400 ∧ k <= 400 ∧ Frc (worF p n k) ∧ Bd 20000 (worF p n k).1 ∧ Bd B (worF p n k).2
def dueF (fs : List (Int × Int)) : Int × Int := fs.foldl (fun d f => (d.1 * f.1, d.2 * f.2)) (1, 1)
theorem dueF_snoc (fs : List (Int × Int)) (f : Int × Int) : dueF (fs ++ [f]) = ((dueF fs).1 * f.1, (dueF fs).2 * f.2) := by unfold dueF; rw [List.foldl_append]; rfl
theorem due_prod (fs : List (Int × Int)) (h : ∀ f ∈ fs, Frc f) : Frc (prodF fs) ∧ (prodF fs).1 * (dueF fs).2 = (dueF fs).1 * (prodF fs).2 := by
 obtain ⟨m, hm⟩ : ∃ m, fs.length = m := ⟨_, rfl⟩
 induction m generalizing fs with
 | zero =>
  obtain rfl := List.eq_nil_of_length_eq_zero hm
  exact ⟨frc_one 1, rfl⟩
 | succ m ih =>
  obtain ⟨gs, g, rfl⟩ : ∃ gs g, fs = gs ++ [g] := ⟨fs.dropLast, fs.getLast (fun z => by rw [z] at hm; simp at hm), (List.dropLast_concat_getLast _).symm⟩
  obtain ⟨i1, i2⟩ := ih gs (fun f hf => h f (List.mem_append_left _ hf)) (by simp at hm; exact hm)
  rw [prodF_snoc, dueF_snoc]
  have hg := h g (by simp)
  obtain ⟨m1, m2, _⟩ := mulF_is i1 hg
  refine ⟨m1, ?_⟩
  generalize mulF (prodF gs) g = M at *
  generalize prodF gs = P at *
  generalize dueF gs = D at *
  have p0 : P.2 ≠ 0 := by have := i1.1; omega
  refine Int.eq_of_mul_eq_mul_right p0 ?_
  show M.1 * (D.2 * g.2) * P.2 = D.1 * g.1 * M.2 * P.2
  have e1 : M.1 * (D.2 * g.2) * P.2 = M.1 * (P.2 * g.2) * D.2 := by grind
  have e2 : D.1 * g.1 * M.2 * P.2 = (D.1 * P.2) * (g.1 * M.2) := by grind
  rw [e1, m2, e2, ← i2]; grind
theorem due_bd (fs : List (Int × Int)) {B : Nat} (h : ∀ f ∈ fs, Bd 20000 f.1 ∧ Bd B f.2) : Bd (20000 * fs.length + 1) (dueF fs).1 ∧ Bd (B * fs.length + 1) (dueF fs).2 := by
 obtain ⟨m, hm⟩ : ∃ m, fs.length = m := ⟨_, rfl⟩
 induction m generalizing fs with
 | zero =>
  obtain rfl := List.eq_nil_of_length_eq_zero hm
  exact ⟨Bd.one (by decide), Bd.one (by simp)⟩
 | succ m ih =>
  obtain ⟨gs, g, rfl⟩ : ∃ gs g, fs = gs ++ [g] := ⟨fs.dropLast, fs.getLast (fun z => by rw [z] at hm; simp at hm), (List.dropLast_concat_getLast _).symm⟩
  obtain ⟨i1, i2⟩ := ih gs (fun f hf => h f (List.mem_append_left _ hf)) (by simp at hm; exact hm)
  obtain ⟨b1, b2⟩ := h g (by simp)
  rw [dueF_snoc, List.length_append, List.length_singleton, Nat.mul_add, Nat.mul_add]
  exact ⟨(i1.mul b1).mono (by omega), (i2.mul b2).mono (by omega)⟩
theorem prod_bd (fs : List (Int × Int)) {B : Nat} (h : ∀ f ∈ fs, Frc f ∧ Bd 20000 f.1 ∧ Bd B f.2) : Bd (20000 * fs.length + 1) (prodF fs).1 ∧ Bd (B * fs.length + 1) (prodF fs).2 := by
 obtain ⟨m, hm⟩ : ∃ m, fs.length = m := ⟨_, rfl⟩
 induction m generalizing fs with
 | zero =>
  obtain rfl := List.eq_nil_of_length_eq_zero hm
  exact ⟨Bd.one (by decide), Bd.one (by simp)⟩
 | succ m ih =>
  obtain ⟨gs, g, rfl⟩ : ∃ gs g, fs = gs ++ [g] := ⟨fs.dropLast, fs.getLast (fun z => by rw [z] at hm; simp at hm), (List.dropLast_concat_getLast _).symm⟩
  obtain ⟨i1, i2⟩ := ih gs (fun f hf => h f (List.mem_append_left _ hf)) (by simp at hm; exact hm)
  obtain ⟨hg, b1, b2⟩ := h g (by simp)
  have hF := (due_prod gs fun f hf => (h f (List.mem_append_left _ hf)).1).1
  obtain ⟨_, _, m3, m4⟩ := mulF_is hF hg
  rw [prodF_snoc, List.length_append, List.length_singleton, Nat.mul_add, Nat.mul_add]
  have z1 := (i1.mul b1).mono (show 20000 * gs.length + 1 + 20000 <= 20000 * gs.length + 20000 * 1 + 1 by omega)
  have z2 := (i2.mul b2).mono (show B * gs.length + 1 + B <= B * gs.length + B * 1 + 1 by omega)
  unfold Bd at z1 z2
  rw [Int.natAbs_mul] at z1 z2
  exact ⟨Nat.lt_of_le_of_lt m3 z1, Nat.lt_of_le_of_lt m4 z2⟩
theorem cl_zip3 {K : PySem.W.Frag} {a b c : Addr} {xs ys zs : List V} {fv : List (Nat × Str)} {te : TE} {Q : VK} {σ : L2.St} {H1 : Hp} {D : Addr} (Pv : Nat -> Hp -> Prop) (ly : ys.length = xs.length) (lz : zs.length = xs.length) (h0 : Pv 0 (L2.upd H1 D (.lst []))) (hl : ∀ i H, Pv i H -> SqT K H a xs ∧ SqT K H b ys ∧ SqT K H c zs)
  (hs : ∀ i v1 v2 v3 p H, xs[i]? = some v1 -> ys[i]? = some v2 -> zs[i]? = some v3 -> Pv i H -> H p = none -> te (bst3 fv σ (some v1) (some v2) (some v3)) (L2.upd H p (.tup [v1, v2, v3])) fun y H2 => ∃ us, H2 D = some (.lst us) ∧ us.length < sizeLine ∧ Pv (i + 1) (L2.upd H2 D (.lst (us ++ [y]))))
  (hd : ∀ H, Pv xs.length H -> Q (.ref D) H) : CLoop3 K (Itz3 K a b c) fv te Q σ H1 D := by
 refine ⟨fun i m H => m = xs.length - i ∧ i <= xs.length ∧ Pv i H, ⟨_, rfl, Nat.zero_le _, h0⟩, ?_⟩
 rintro i m H ⟨rfl, hi, p⟩
 obtain ⟨q1, q2, q3⟩ := hl i H p
 by_cases hlt : i < xs.length
 ·refine .inr ⟨⟨xs, ys, zs, xs[i], ys[i], zs[i], q1, q2, q3, List.getElem?_eq_getElem hlt, List.getElem?_eq_getElem (by omega), List.getElem?_eq_getElem (by omega)⟩, Pv (i + 1), fun H' p' => ⟨xs.length - (i + 1), by omega, rfl, hlt, p'⟩, fun v H' y => ?_⟩
  obtain ⟨pa, x1, x2, x3, hn, e1, e2, y1, y2, y3⟩ := y
  subst e1 e2
  exact ⟨pa, x1, x2, x3, rfl, .inl (.inl upd_same), hs i x1 x2 x3 pa H (y1 xs q1) (y2 ys q2) (y3 zs q3) p hn⟩
 ·have e : i = xs.length := by omega
  refine .inl ⟨⟨xs, q1, by omega⟩, ?_⟩
  rw [e] at p
  exact hd H p
def spWithin (K : PySem.W.Frag) : Sp := fun vs H Q _ => ∃ (p q : Addr) (a b c x y z : Int), vs = [.ref p, .ref q] ∧ SqT K H p [.int a, .int b, .int c] ∧ SqT K H q [.int x, .int y, .int z] ∧ x <= a ∧ a <= 3 ∧ y <= b ∧ b <= 3 ∧ z <= c ∧ c <= 9 ∧ ∀ H', Same H H' -> Q (.bl true) H'
theorem ok_within {P : Program} {w : World} {K : PySem.W.Frag} {mg : Str -> Option Value} {base : Heap} (T : Tx K mg) : FnOk P w K mg base CX0 1 T.a_within T.fd_within ["form", "least"] (spWithin K) := by
 refine T.F_within.ok sc_within (fun vs H Q E h => ?_) (fun cdv A outer s H vs Q E hr h => ?_)
 ·obtain ⟨p, q, a, b, c, x, y, z, rfl, _⟩ := h
  rfl
 obtain ⟨p, q, a, b, c, x, y, z, rfl, hp, hq, h1, h2, h3, h4, h5, h6, k⟩ := h
 refine ⟨_, ((pss_one (ps_ret (pe_callB (call_allL rfl) rfl T.z_all boot_all (pa_cons (pe_lcomp3 rfl (blkok3 rfl sub_nil fv_nil2) (pi_zip3 rfl T.z_zip (pa_cons (pv 1) (pa_cons (pv 0) (pa_cons (pe_glob (v := .ref T.gt_GREATEST.1) rfl T.gt_GREATEST.2.1 rfl) pa_nil)))) (fun _ _ _ _ => (pe_chain op_le op_le (pv 0) (pv 1) (pv 2)))) pa_nil))))), ?_⟩
 k_units
 refine ⟨_, hq, _, hp, _, T.gt_GREATEST.2.2 H, fun D nD => ?_⟩
 obtain ⟨Pc, hPc⟩ : ∃ Pc : Nat -> Hp -> Prop, ∀ j Hx, Pc j Hx ↔ Hx D = some (.lst ((List.replicate j true).map V.bl)) ∧ Same H Hx := ⟨_, fun _ _ => Iff.rfl⟩
 refine cl_zip3 (xs := [V.int x, V.int y, V.int z]) (ys := [V.int a, V.int b, V.int c]) (zs := [V.int 3, V.int 3, V.int 9]) Pc rfl rfl ((hPc _ _).mpr ⟨upd_same, same_upd nD _⟩) (fun i Hx y => by obtain ⟨_, y⟩ := (hPc i Hx).mp y; exact ⟨y.seqT hq, y.seqT hp, T.gt_GREATEST.2.2 Hx⟩) ?_ ?_
 ·intro i v1 v2 v3 r Hx e1 e2 e3 hc nr
  obtain ⟨k1, k2⟩ := (hPc _ _).mp hc
  obtain ⟨x1, x2, x3, rfl, rfl, rfl, l1, l2, hi⟩ : ∃ x1 x2 x3 : Int, v1 = .int x1 ∧ v2 = .int x2 ∧ v3 = .int x3 ∧ x1 <= x2 ∧ x2 <= x3 ∧ i < 3 := by
   match i, e1, e2, e3 with
   | 0, e1, e2, e3 => exact ⟨_, _, _, (Option.some.inj e1).symm, (Option.some.inj e2).symm, (Option.some.inj e3).symm, h1, h2, by decide⟩
   | 1, e1, e2, e3 => exact ⟨_, _, _, (Option.some.inj e1).symm, (Option.some.inj e2).symm, (Option.some.inj e3).symm, h3, h4, by decide⟩
   | 2, e1, e2, e3 => exact ⟨_, _, _, (Option.some.inj e1).symm, (Option.some.inj e2).symm, (Option.some.inj e3).symm, h5, h6, by decide⟩
   | j + 3, e1, e2, e3 => simp at e1
  (iterate 3 (k_units; (try simp only [bst3])); k_units)
  rw [if_pos l1]
  have u := same_upd nr (.tup [V.int x1, V.int x2, V.int x3])
  refine ⟨_, u _ _ k1, by rw [List.length_map, List.length_replicate]; exact small1000 (by omega), (hPc _ _).mpr ⟨?_, (k2.trans u).more nD⟩⟩
  rw [upd_same, decide_eq_true l2, List.replicate_succ', List.map_append]; rfl
 intro Hx hc
 obtain ⟨k1, k2⟩ := (hPc _ _).mp hc
 refine ⟨D, rfl, _, SqL.of k1, ?_⟩
 exact k Hx k2
def spChk (K : PySem.W.Frag) : Sp := fun vs H Q _ => ∃ (p q : Addr) (h l : Int × Int × Int), vs = [.ref p, .ref q] ∧ SqT K H p [.int h.1, .int h.2.1, .int h.2.2] ∧ SqT K H q [.int l.1, .int l.2.1, .int l.2.2] ∧ ChoOk h l ∧ ∀ H', Same H H' -> Q .non H'
theorem ok_check_choose {P : Program} {w : World} {K : PySem.W.Frag} {mg : Str -> Option Value} {base : Heap} (T : Tx K mg) : FnOk P w K mg base (CXE P w) 2 T.a_check_choose T.fd_check_choose ["upper", "lower"] (spChk K) := by
 refine T.F_check_choose.okE sc_check_choose (fun vs H Q E h => ?_) (fun cdv A outer s H vs Q E hr h => ?_)
 ·obtain ⟨p, q, h, l, rfl, _⟩ := h
  rfl
 obtain ⟨p, q, h, l, rfl, hp, hq, ⟨⟨a1, a2, a3, a4, a5, a6⟩, ⟨b1, b2, b3, b4, b5, b6⟩, f1, f2⟩, k⟩ := h
 refine ⟨_, ((pss_cons (ps_if (PT.nox (PW.pt (pw_or (pt_not (pt_val (pe_call (FnOk.mono (ok_within T) (by decide)) hr rfl T.m_within T.F_within.kp T.b_within .nil pass0 (pa_cons (pv 0) (pa_cons (pe_glob (v := .ref T.gt_UPPER_LEAST.1) rfl T.gt_UPPER_LEAST.2.1 rfl) pa_nil))))) (pw_or1 (pt_not (pt_val (pe_call (FnOk.mono (ok_within T) (by decide)) hr rfl T.m_within T.F_within.kp T.b_within .nil pass0 (pa_cons (pv 1) (pa_cons (pe_glob (v := .ref T.gt_LOWER_LEAST.1) rfl T.gt_LOWER_LEAST.2.1 rfl) pa_nil))))))))) (pss_one (ps_raise rfl throwE rfl T.mc_NoTerm T.xc_NoTerm (pa_cons pe_str pa_nil))) pss_nil)
  (pss_one (ps_for PassesOwn.leaving rfl (pi_list (pe_call (FnOk.mono (ok_low_forms T) (by decide)) hr rfl T.m_low_forms T.F_low_forms.kp T.b_low_forms .nil pass0 (pa_cons (pv 0) (pa_cons (pv 1) pa_nil)))) (pg_name (i := 2) sc_check_choose.nd rfl (Or.inl rfl)) (pss_one (ps_if (PT.nox (PW.pt (pw_and (pt_cmpR op_eq (pe_ix ix_tup (pv 2) pe_int (fun _ _ => rfl)) pe_int (nomark _)) (pw_and1 (pt_cmpR op_lt (pe_ix ix_tup (pv 2) pe_int (fun _ _ => rfl)) pe_int (nomark _)))))) (pss_one (ps_raise rfl throwE rfl T.mc_NoTerm T.xc_NoTerm (pa_cons pe_str pa_nil))) pss_nil)))))), ?_⟩
 k_units
 refine ⟨p, T.gt_UPPER_LEAST.1, h.1, h.2.1, h.2.2, 0, 0, 0, rfl, hp, T.gt_UPPER_LEAST.2.2 H, a1, a2, a3, a4, a5, a6, fun H1 s1 => ⟨true, rfl, ?_⟩⟩
 rw [if_neg (by decide)]
 refine ⟨q, T.gt_LOWER_LEAST.1, l.1, l.2.1, l.2.2, -3, -3, -9, rfl, s1.seqT hq, T.gt_LOWER_LEAST.2.2 H1, b1, b2, b3, b4, b5, b6, fun H2 s2 => ⟨true, rfl, ?_⟩⟩
 rw [if_neg (by decide)]
 have s12 := s1.trans s2
 refine ⟨p, q, h.1, h.2.1, h.2.2, l.1, l.2.1, l.2.2, rfl, s12.seqT hp, s12.seqT hq, fun L t H3 s3 nL nt eL et => ⟨L, rfl, ⟨_, SqL.of eL⟩, ?_⟩⟩
 have s13 := s12.trans s3
 refine lp_list (xs := [V.ref q, V.ref t]) (fun i σ H' => ∃ r : Option V, σ = [some (V.ref p), some (V.ref q), r] ∧ H' = H3) ⟨none, rfl, rfl⟩ (fun i σ H' _ z => by obtain ⟨_, _, rfl⟩ := z; exact SqL.of eL) ?_ ?_
 ·rintro i v σ H' hv ⟨r, rfl, rfl⟩
  obtain ⟨u, f, rfl, eu, nf⟩ : ∃ (u : Addr) (f : Int × Int × Int), v = V.ref u ∧ SqT K H' u [.int f.1, .int f.2.1, .int f.2.2] ∧ ¬ (f.1 = 0 ∧ f.2.1 < 0) := by
   match i, hv with
   | 0, hv => exact ⟨q, l, (Option.some.inj hv).symm, s13.seqT hq, f1⟩
   | 1, hv => exact ⟨t, subF h l, (Option.some.inj hv).symm, SqT.of et, f2⟩
   | j + 2, hv => simp at hv
  k_units
  refine ⟨_, eu, _, rfl, ?_⟩
  k_units
  refine ite2 (fun z => ?_) (fun z => trivial)
  refine ⟨_, eu, _, rfl, ?_⟩
  k_units
  rw [if_neg (fun z2 => nf ⟨z, z2⟩)]
  trivial
 ·rintro σ H' ⟨r, rfl, rfl⟩
  exact k H' s13
def spChkB (K : PySem.W.Frag) : Sp := fun vs H Q _ => ∃ (p : Addr) (f : Int × Int), vs = [.ref p] ∧ SqT K H p [.int f.1, .int f.2] ∧ f.1 ≠ 0 ∧ Q .non H
theorem ok_check_base {P : Program} {w : World} {K : PySem.W.Frag} {mg : Str -> Option Value} {base : Heap} (T : Tx K mg) : FnOk P w K mg base (CXE P w) 1 T.a_check_base T.fd_check_base ["fraction"] (spChkB K) := by
 refine T.F_check_base.okE sc_check_base (fun vs H Q E h => ?_) (fun cdv A outer s H vs Q E hr h => ?_)
 ·obtain ⟨p, f, rfl, _⟩ := h
  rfl
 obtain ⟨p, f, rfl, hp, f0, k⟩ := h
 refine ⟨_, ((pss_one (ps_if (PT.nox (pt_cmpR op_eq (pe_ix ix_tup (pv 0) pe_int (fun _ _ => rfl)) pe_int (nomark _))) (pss_one (ps_raise rfl throwE rfl T.mc_NoTerm T.xc_NoTerm (pa_cons pe_str pa_nil))) pss_nil))), ?_⟩
 k_units
 refine ⟨_, hp, _, rfl, ?_⟩
 k_units
 rw [if_neg f0]
 exact k
abbrev T3 (f : Int × Int × Int) : HO := .tup [.int f.1, .int f.2.1, .int f.2.2]
abbrev T2 (f : Int × Int) : HO := .tup [.int f.1, .int f.2]
def PtAt (H : Hp) (r : Addr) : Prt -> Prop
 | .cho h l => ∃ a b, H r = some (.tup [.str (Str.ofString "choose"), .ref a, .ref b]) ∧ H a = some (T3 h) ∧ H b = some (T3 l)
 | .wei f => ∃ a, H r = some (.tup [.str (Str.ofString "weight"), .ref a]) ∧ H a = some (T3 f)
 | .pow f => ∃ a, H r = some (.tup [.str (Str.ofString "power"), .ref a]) ∧ H a = some (T2 f)
 | .gro f => ∃ a, H r = some (.tup [.str (Str.ofString "growth"), .ref a]) ∧ H a = some (T2 f)
def PcAt {K : PySem.W.Frag} {mg : Str -> Option Value} (T : Tx K mg) (H0 H : Hp) (r : Addr) : Prt -> Prop
 | .cho h l => ∃ dx a L b t, H r = some (.ins T.c_Choose dx (chsF a L)) ∧ H a = some (T3 h) ∧ H0 L = none ∧ H L = some (.lst [.ref b, .ref t]) ∧ H b = some (T3 l) ∧ H t = some (T3 (subF h l))
 | .wei f => ∃ dx a, H r = some (.ins T.c_Weight dx (wgtF a)) ∧ H a = some (T3 f)
 | .pow f => ∃ dx a, H r = some (.ins T.c_Power dx (powF a)) ∧ H a = some (T2 f)
 | .gro f => ∃ dx a, H r = some (.ins T.c_Growth dx (powF a)) ∧ H a = some (T2 f)
inductive Nice (H0 : Hp) (a : Addr) : HO -> Prop where
 | lst {xs : List V} (h : H0 a = none) : Nice H0 a (.lst xs)
 | tup {xs : List V} : Nice H0 a (.tup xs)
 | ins {C dx : Addr} {fs : List (Str × V)} (h : fs.lookup (Str.ofString "parts") = none) : Nice H0 a (.ins C dx fs)
def Kp (H0 H H' : Hp) : Prop := ∀ a o, H a = some o -> Nice H0 a o -> H' a = some o
theorem kpS {H0 H H' : Hp} (s : Same H H') : Kp H0 H H' := fun a o h _ => s a o h
theorem kpD {H0 H H1 : Hp} {D : Addr} {xs ys : List V} (s : Same H H1) (h0 : H0 D ≠ none) (h : H D = some (.lst xs)) : Kp H0 H (L2.upd H1 D (.lst ys)) := fun a o e n => by
 have : a ≠ D := fun z => by
  subst z
  rw [h] at e
  cases e
  cases n with
  | lst z => exact h0 z
 rw [upd_ne this]; exact s _ _ e
theorem PtAt.kt {H H' : Hp} {r : Addr} {p : Prt} (h : PtAt H r p) (k : ∀ a xs, H a = some (.tup xs) -> H' a = some (.tup xs)) : PtAt H' r p := by
 match p, h with
 | .cho f l, ⟨a, b, h1, h2, h3⟩ => exact ⟨a, b, k _ _ h1, k _ _ h2, k _ _ h3⟩
 | .wei f, ⟨a, h1, h2⟩ => exact ⟨a, k _ _ h1, k _ _ h2⟩
 | .pow f, ⟨a, h1, h2⟩ => exact ⟨a, k _ _ h1, k _ _ h2⟩
 | .gro f, ⟨a, h1, h2⟩ => exact ⟨a, k _ _ h1, k _ _ h2⟩
theorem PtAt.on {H H' : Hp} {r : Addr} {p : Prt} (h : PtAt H r p) (s : Same H H') : PtAt H' r p := h.kt fun a xs e => s a _ e
theorem PcAt.kp {K : PySem.W.Frag} {mg : Str -> Option Value} {T : Tx K mg} {H0 H H' : Hp} {r : Addr} {p : Prt} (h : PcAt T H0 H r p) (k : Kp H0 H H') : PcAt T H0 H' r p := by
 match p, h with
 | .cho f l, ⟨dx, a, L, b, t, h1, h2, h3, h4, h5, h6⟩ => exact ⟨dx, a, L, b, t, k _ _ h1 (.ins rfl), k _ _ h2 .tup, h3, k _ _ h4 (.lst h3), k _ _ h5 .tup, k _ _ h6 .tup⟩
 | .wei f, ⟨dx, a, h1, h2⟩ => exact ⟨dx, a, k _ _ h1 (.ins rfl), k _ _ h2 .tup⟩
 | .pow f, ⟨dx, a, h1, h2⟩ => exact ⟨dx, a, k _ _ h1 (.ins rfl), k _ _ h2 .tup⟩
 | .gro f, ⟨dx, a, h1, h2⟩ => exact ⟨dx, a, k _ _ h1 (.ins rfl), k _ _ h2 .tup⟩
theorem PcAt.fr {K : PySem.W.Frag} {mg : Str -> Option Value} {T : Tx K mg} {H00 H0 H : Hp} {r : Addr} {p : Prt} (h : PcAt T H0 H r p) (s : ∀ y, H0 y = none -> H00 y = none) : PcAt T H00 H r p := by
 match p, h with
 | .cho f l, ⟨dx, a, L, b, t, h1, h2, h3, h4⟩ => exact ⟨dx, a, L, b, t, h1, h2, s _ h3, h4⟩
 | .wei f, h => exact h
 | .pow f, h => exact h
 | .gro f, h => exact h
theorem PcAt.from {K : PySem.W.Frag} {mg : Str -> Option Value} {T : Tx K mg} {H00 H0 H : Hp} {r : Addr} {p : Prt} (h : PcAt T H0 H r p) (s : Same H00 H0) : PcAt T H00 H r p := h.fr fun y e => s.free e
def mkP {K : PySem.W.Frag} {mg : Str -> Option Value} (T : Tx K mg) (H : Hp) (Q : VK) (p : Prt) : Prop := ∀ (x : Addr) (H' : Hp), Same H H' -> PcAt T H H' x p -> Q (.ref x) H'
def spPiece {K : PySem.W.Frag} {mg : Str -> Option Value} (T : Tx K mg) : Sp := fun vs H Q _ => ∃ (r : Addr) (p : Prt), vs = [.ref r] ∧ PtAt H r p ∧ PrtOk p ∧ mkP T H Q p
theorem mkP.on {K : PySem.W.Frag} {mg : Str -> Option Value} {T : Tx K mg} {H H1 : Hp} {Q : VK} {p : Prt} (k : mkP T H Q p) (s : Same H H1) : mkP T H1 Q p := fun x H' s' h => k x H' (s.trans s') (h.from s)
theorem same_new {H : Hp} {x dx : Addr} {o u : HO} (hx : H x = none) (hd : H dx = none) : Same H (L2.upd (L2.upd H dx u) x o) := fun b v e => by rw [upd_ne (ne_of_none e hx), upd_ne (ne_of_none e hd)]; exact e
theorem mk_cho {K : PySem.W.Frag} {mg : Str -> Option Value} {T : Tx K mg} {H : Hp} {Q : VK} {E : XK} {a b : Addr} {h l : Int × Int × Int} (ha : H a = some (T3 h)) (hb : H b = some (T3 l)) (k : mkP T H Q (.cho h l)) (x dx : Addr) (hx : H x = none) (hd : H dx = none) (_ : dx ≠ x) :
  spCInit K T.c_Choose [.ref x, .ref a, .ref b] (L2.upd (L2.upd H dx (.own x)) x (.ins T.c_Choose dx [])) (fun v H2 => v = V.non ∧ Q (.ref x) H2) E := by
 have s1 : Same H (L2.upd (L2.upd H dx (.own x)) x (.ins T.c_Choose dx [])) := same_new hx hd
 refine ⟨x, dx, a, b, h.1, h.2.1, h.2.2, l.1, l.2.1, l.2.2, rfl, upd_same, SqT.of (s1 _ _ ha), SqT.of (s1 _ _ hb), fun L t H' s2 nL nt ex eL et => ⟨rfl, ?_⟩⟩
 have s3 : Same H H' := fun y o e => s2 y o (ne_of_none e hx) (s1 y o e)
 exact k x H' s3 ⟨dx, a, L, b, t, ex, s3 _ _ ha, s1.free nL, eL, s3 _ _ hb, et⟩
theorem mk_wei {K : PySem.W.Frag} {mg : Str -> Option Value} {T : Tx K mg} {H : Hp} {Q : VK} {E : XK} {a : Addr} {f : Int × Int × Int} (ha : H a = some (T3 f)) (k : mkP T H Q (.wei f)) (x dx : Addr) (hx : H x = none) (hd : H dx = none) (_ : dx ≠ x) :
  spWInit T.c_Weight [.ref x, .ref a] (L2.upd (L2.upd H dx (.own x)) x (.ins T.c_Weight dx [])) (fun v H2 => v = V.non ∧ Q (.ref x) H2) E := by
 have s1 : Same H (L2.upd (L2.upd H dx (.own x)) x (.ins T.c_Weight dx [])) := same_new hx hd
 have s3 : Same H (L2.upd (L2.upd (L2.upd H dx (.own x)) x (.ins T.c_Weight dx [])) x (.ins T.c_Weight dx (wgtF a))) := fun y o e => by rw [upd_ne (ne_of_none e hx)]; exact s1 y o e
 exact ⟨x, dx, a, rfl, upd_same, rfl, k x _ s3 ⟨dx, a, upd_same, s3 _ _ ha⟩⟩
theorem mk_pow {K : PySem.W.Frag} {mg : Str -> Option Value} {T : Tx K mg} {H : Hp} {Q : VK} {E : XK} {a : Addr} {f : Int × Int} (ha : H a = some (T2 f)) (k : mkP T H Q (.pow f)) (x dx : Addr) (hx : H x = none) (hd : H dx = none) (_ : dx ≠ x) :
  spPInit T.c_Power [.ref x, .ref a] (L2.upd (L2.upd H dx (.own x)) x (.ins T.c_Power dx [])) (fun v H2 => v = V.non ∧ Q (.ref x) H2) E := by
 have s1 : Same H (L2.upd (L2.upd H dx (.own x)) x (.ins T.c_Power dx [])) := same_new hx hd
 have s3 : Same H (L2.upd (L2.upd (L2.upd H dx (.own x)) x (.ins T.c_Power dx [])) x (.ins T.c_Power dx (powF a))) := fun y o e => by rw [upd_ne (ne_of_none e hx)]; exact s1 y o e
 exact ⟨x, dx, a, rfl, upd_same, rfl, k x _ s3 ⟨dx, a, upd_same, s3 _ _ ha⟩⟩
theorem mk_gro {K : PySem.W.Frag} {mg : Str -> Option Value} {T : Tx K mg} {H : Hp} {Q : VK} {E : XK} {a : Addr} {f : Int × Int} (ha : H a = some (T2 f)) (k : mkP T H Q (.gro f)) (x dx : Addr) (hx : H x = none) (hd : H dx = none) (_ : dx ≠ x) :
  spPInit T.c_Growth [.ref x, .ref a] (L2.upd (L2.upd H dx (.own x)) x (.ins T.c_Growth dx [])) (fun v H2 => v = V.non ∧ Q (.ref x) H2) E := by
 have s1 : Same H (L2.upd (L2.upd H dx (.own x)) x (.ins T.c_Growth dx [])) := same_new hx hd
 have s3 : Same H (L2.upd (L2.upd (L2.upd H dx (.own x)) x (.ins T.c_Growth dx [])) x (.ins T.c_Growth dx (powF a))) := fun y o e => by rw [upd_ne (ne_of_none e hx)]; exact s1 y o e
 exact ⟨x, dx, a, rfl, upd_same, rfl, k x _ s3 ⟨dx, a, upd_same, s3 _ _ ha⟩⟩
theorem ok_piece_of {P : Program} {w : World} {K : PySem.W.Frag} {mg : Str -> Option Value} {base : Heap} (T : Tx K mg) : FnOk P w K mg base (CXE P w) 4 T.a_piece_of T.fd_piece_of ["part"] (spPiece T) := by
 refine T.F_piece_of.okE sc_piece_of (fun vs H Q E h => ?_) (fun cdv A outer s H vs Q E hr h => ?_)
 ·obtain ⟨r, p, rfl, _⟩ := h
  rfl
 obtain ⟨r, p, rfl, hp, ho, k⟩ := h
 refine ⟨_, ((pss_cons (ps_if (PT.nox (pt_cmpR op_eq (pe_ix ix_tup (pv 0) pe_int (fun _ _ => rfl)) pe_str (nomark _))) (pss_cons (ps_expr (pe_call (FnOk.mono (ok_check_choose T) (by decide)) hr rfl T.m_check_choose T.F_check_choose.kp T.b_check_choose .nil passE (pa_cons (pe_ix ix_tup (pv 0) pe_int (fun _ _ => rfl)) (pa_cons (pe_ix ix_tup (pv 0) pe_int (fun _ _ => rfl)) pa_nil))))
  (pss_one (PS.nox (ps_ret (pe_make T.mk_Choose (FnOk.mono (ok_Choose___init__ T) (by decide)) hr rfl T.mc_Choose T.b_Choose___init__ .nil pass0 (pa_cons (pe_ix ix_tup (pv 0) pe_int (fun _ _ => rfl)) (pa_cons (pe_ix ix_tup (pv 0) pe_int (fun _ _ => rfl)) pa_nil))))))) pss_nil)
  (pss_cons (PS.nox (ps_if (pt_cmpR op_eq (pe_ix ix_tup (pv 0) pe_int (fun _ _ => rfl)) pe_str (nomark _)) (pss_one (ps_ret (pe_make T.mk_Weight (FnOk.mono (ok_Weight___init__ T) (by decide)) hr rfl T.mc_Weight T.b_Weight___init__ .nil pass0 (pa_cons (pe_ix ix_tup (pv 0) pe_int (fun _ _ => rfl)) pa_nil)))) pss_nil))
  (pss_cons (ps_if (PT.nox (pt_cmpR op_eq (pe_ix ix_tup (pv 0) pe_int (fun _ _ => rfl)) pe_str (nomark _))) (pss_cons (ps_expr (pe_call (FnOk.mono (ok_check_base T) (by decide)) hr rfl T.m_check_base T.F_check_base.kp T.b_check_base .nil passE (pa_cons (pe_ix ix_tup (pv 0) pe_int (fun _ _ => rfl)) pa_nil)))
  (pss_one (PS.nox (ps_ret (pe_make T.mk_Power (FnOk.mono (ok_Power___init__ T) (by decide)) hr rfl T.mc_Power T.b_Power___init__ .nil pass0 (pa_cons (pe_ix ix_tup (pv 0) pe_int (fun _ _ => rfl)) pa_nil)))))) pss_nil)
  (pss_cons (ps_if (PT.nox (pt_cmpR op_eq (pe_ix ix_tup (pv 0) pe_int (fun _ _ => rfl)) pe_str (nomark _))) (pss_cons (ps_expr (pe_call (FnOk.mono (ok_check_base T) (by decide)) hr rfl T.m_check_base T.F_check_base.kp T.b_check_base .nil passE (pa_cons (pe_ix ix_tup (pv 0) pe_int (fun _ _ => rfl)) pa_nil)))
  (pss_one (PS.nox (ps_ret (pe_make T.mk_Growth (FnOk.mono (ok_Growth___init__ T) (by decide)) hr rfl T.mc_Growth T.b_Growth___init__ .nil pass0 (pa_cons (pe_ix ix_tup (pv 0) pe_int (fun _ _ => rfl)) pa_nil)))))) pss_nil)
  (pss_one (ps_raise rfl throwE rfl T.mc_NoTerm T.xc_NoTerm (pa_cons pe_str pa_nil)))))))), ?_⟩
 match p, hp, ho, k with
 | .cho h l, ⟨a, b, hr', ha, hb⟩, ho, k =>
  dsimp only [a_seq]
  k_typeOf
  refine ⟨_, SqT.of hr', _, rfl, ?_⟩
  k_units
  exact ⟨_, SqT.of hr', _, rfl, _, SqT.of hr', _, rfl, a, b, h, l, rfl, SqT.of ha, SqT.of hb, ho, fun H1 s1 => ⟨_, SqT.of (s1 _ _ hr'), _, rfl, _, SqT.of (s1 _ _ hr'), _, rfl, mk_cho (s1 _ _ ha) (s1 _ _ hb) (k.on s1)⟩⟩
 | .wei f, ⟨a, hr', ha⟩, ho, k =>
  dsimp only [a_seq]
  k_typeOf
  refine ⟨_, SqT.of hr', _, rfl, ?_⟩
  k_units
  rw [if_neg (by decide)]
  refine ⟨_, SqT.of hr', _, rfl, ?_⟩
  k_units
  exact ⟨_, SqT.of hr', _, rfl, mk_wei ha k⟩
 | .pow f, ⟨a, hr', ha⟩, ho, k =>
  dsimp only [a_seq]
  k_typeOf
  refine ⟨_, SqT.of hr', _, rfl, ?_⟩
  k_units
  rw [if_neg (by decide)]
  refine ⟨_, SqT.of hr', _, rfl, ?_⟩
  k_units
  rw [if_neg (by decide)]
  refine ⟨_, SqT.of hr', _, rfl, ?_⟩
  k_units
  exact ⟨_, SqT.of hr', _, rfl, a, f, rfl, SqT.of ha, ho.2.1, _, SqT.of hr', _, rfl, mk_pow ha k⟩
 | .gro f, ⟨a, hr', ha⟩, ho, k =>
  dsimp only [a_seq]
  k_typeOf
  refine ⟨_, SqT.of hr', _, rfl, ?_⟩
  k_units
  rw [if_neg (by decide)]
  refine ⟨_, SqT.of hr', _, rfl, ?_⟩
  k_units
  rw [if_neg (by decide)]
  refine ⟨_, SqT.of hr', _, rfl, ?_⟩
  k_units
  rw [if_neg (by decide)]
  refine ⟨_, SqT.of hr', _, rfl, ?_⟩
  k_units
  exact ⟨_, SqT.of hr', _, rfl, a, f, rfl, SqT.of ha, ho.2.1, _, SqT.of hr', _, rfl, mk_gro ha k⟩
structure Pts (H : Hp) (rs : List Addr) (ps : List Prt) : Prop where
 len : rs.length = ps.length
 get : ∀ (i : Nat) (r : Addr) (p : Prt), rs[i]? = some r -> ps[i]? = some p -> PtAt H r p
structure Pcs {K : PySem.W.Frag} {mg : Str -> Option Value} (T : Tx K mg) (H0 H : Hp) (qs : List Addr) (ps : List Prt) : Prop where
 len : qs.length = ps.length
 get : ∀ (i : Nat) (q : Addr) (p : Prt), qs[i]? = some q -> ps[i]? = some p -> PcAt T H0 H q p
theorem Pts.kt {H H' : Hp} {rs : List Addr} {ps : List Prt} (h : Pts H rs ps) (k : ∀ a xs, H a = some (.tup xs) -> H' a = some (.tup xs)) : Pts H' rs ps := ⟨h.len, fun i r p e1 e2 => (h.get i r p e1 e2).kt k⟩
theorem Pts.on {H H' : Hp} {rs : List Addr} {ps : List Prt} (h : Pts H rs ps) (s : Same H H') : Pts H' rs ps := h.kt fun a xs e => s a _ e
theorem Pcs.kp {K : PySem.W.Frag} {mg : Str -> Option Value} {T : Tx K mg} {H0 H H' : Hp} {qs : List Addr} {ps : List Prt} (h : Pcs T H0 H qs ps) (k : Kp H0 H H') : Pcs T H0 H' qs ps := ⟨h.len, fun i r p e1 e2 => (h.get i r p e1 e2).kp k⟩
theorem Pcs.from {K : PySem.W.Frag} {mg : Str -> Option Value} {T : Tx K mg} {H00 H0 H : Hp} {qs : List Addr} {ps : List Prt} (h : Pcs T H0 H qs ps) (s : ∀ y, H0 y = none -> H00 y = none) : Pcs T H00 H qs ps := ⟨h.len, fun i r p e1 e2 => (h.get i r p e1 e2).fr s⟩
theorem Pcs.snoc {K : PySem.W.Frag} {mg : Str -> Option Value} {T : Tx K mg} {H0 H : Hp} {qs : List Addr} {ps : List Prt} {q : Addr} {p : Prt} (h : Pcs T H0 H qs ps) (a : PcAt T H0 H q p) : Pcs T H0 H (qs ++ [q]) (ps ++ [p]) := by
 refine ⟨by simp [h.len], fun i r p' e1 e2 => ?_⟩
 by_cases hi : i < qs.length
 ·rw [List.getElem?_append_left hi] at e1
  rw [List.getElem?_append_left (by rw [← h.len]; exact hi)] at e2
  exact h.get i r p' e1 e2
 ·rw [List.getElem?_append_right (by omega)] at e1
  rw [List.getElem?_append_right (by have := h.len; omega), ← h.len] at e2
  obtain ⟨j, hj⟩ : ∃ j, i - qs.length = j := ⟨_, rfl⟩
  rw [hj] at e1 e2
  cases j with
  | zero => cases Option.some.inj e1; cases Option.some.inj e2; exact a
  | succ j => simp at e1
theorem Pts.snoc {H : Hp} {rs : List Addr} {ps : List Prt} {r : Addr} {p : Prt} (h : Pts H rs ps) (a : PtAt H r p) : Pts H (rs ++ [r]) (ps ++ [p]) := by
 refine ⟨by simp [h.len], fun i r' p' e1 e2 => ?_⟩
 by_cases hi : i < rs.length
 ·rw [List.getElem?_append_left hi] at e1
  rw [List.getElem?_append_left (by rw [← h.len]; exact hi)] at e2
  exact h.get i r' p' e1 e2
 ·rw [List.getElem?_append_right (by omega)] at e1
  rw [List.getElem?_append_right (by have := h.len; omega), ← h.len] at e2
  obtain ⟨j, hj⟩ : ∃ j, i - rs.length = j := ⟨_, rfl⟩
  rw [hj] at e1 e2
  cases j with
  | zero => cases Option.some.inj e1; cases Option.some.inj e2; exact a
  | succ j => simp at e1
def trmF (P1 P2 : Addr) : List (Str × V) := [(Str.ofString "parts", .ref P1), (Str.ofString "pieces", .ref P2)]
def TermAt {K : PySem.W.Frag} {mg : Str -> Option Value} (T : Tx K mg) (H0 H : Hp) (x : Addr) (rs : List Addr) (ps : List Prt) : Prop := ∃ dx P1 P2 qs, H x = some (.ins T.c_Term dx (trmF P1 P2)) ∧ H0 P1 = none ∧ H P1 = some (.lst (rs.map V.ref)) ∧ H0 P2 = none ∧ H P2 = some (.lst (qs.map V.ref)) ∧ Pcs T H0 H qs ps
theorem TermAt.kp {K : PySem.W.Frag} {mg : Str -> Option Value} {T : Tx K mg} {H0 H H' : Hp} {x : Addr} {rs : List Addr} {ps : List Prt} (h : TermAt T H0 H x rs ps) (k : Kp H0 H H') (kx : ∀ C dx fs, H x = some (.ins C dx fs) -> H' x = some (.ins C dx fs)) : TermAt T H0 H' x rs ps := by
 obtain ⟨dx, P1, P2, qs, h1, h2, h3, h4, h5, h6⟩ := h
 exact ⟨dx, P1, P2, qs, kx _ _ _ h1, h2, k _ _ h3 (.lst h2), h4, k _ _ h5 (.lst h4), h6.kp k⟩
theorem TermAt.on {K : PySem.W.Frag} {mg : Str -> Option Value} {T : Tx K mg} {H0 H H' : Hp} {x : Addr} {rs : List Addr} {ps : List Prt} (h : TermAt T H0 H x rs ps) (s : Same H H') : TermAt T H0 H' x rs ps := h.kp (kpS s) fun C dx fs e => s _ _ e
def Dyn {K : PySem.W.Frag} {mg : Str -> Option Value} (T : Tx K mg) (H : Hp) (q : Addr) (n k : Nat) (Q : VK) (E : XK) : Prop :=
 (∃ x x_1, H q = some (HO.ins T.c_Choose x x_1) ∧ List.lookup (Str.ofString "worth") x_1 = none ∧ spCWorth K T.c_Choose [V.ref q, V.int (n : Int), V.int (k : Int)] H Q E) ∨
 (∃ x x_1, H q = some (HO.ins T.c_Weight x x_1) ∧ List.lookup (Str.ofString "worth") x_1 = none ∧ spWWorth K T.c_Weight [V.ref q, V.int (n : Int), V.int (k : Int)] H Q E) ∨
 (∃ x x_1, H q = some (HO.ins T.c_Power x x_1) ∧ List.lookup (Str.ofString "worth") x_1 = none ∧ spPWorth K T.c_Power true [V.ref q, V.int (n : Int), V.int (k : Int)] H Q E) ∨
 ∃ x x_1, H q = some (HO.ins T.c_Growth x x_1) ∧ List.lookup (Str.ofString "worth") x_1 = none ∧ spPWorth K T.c_Growth false [V.ref q, V.int (n : Int), V.int (k : Int)] H Q E
theorem dyn_worth {K : PySem.W.Frag} {mg : Str -> Option Value} {T : Tx K mg} {H0 H : Hp} {q : Addr} {p : Prt} {n k B : Nat} {Q : VK} {E : XK} (hc : PcAt T H0 H q p) (ho : PtOk B p n k) (fin : ∀ (r : Addr) (Hy : Hp), Same H Hy -> Hy r = some (T2 (worF p n k)) -> Q (.ref r) Hy) : Dyn T H q n k Q E := by
 obtain ⟨ho, n4, k4, _, _, _⟩ := ho
 have nt : ∀ x y : Int, x = (worF p n k).1 -> y = (worF p n k).2 -> mkT H Q x y := fun x y e1 e2 r nr => fin r _ (same_upd nr _) (by rw [upd_same, e1, e2])
 match p, hc, ho, fin, nt with
 | .cho h l, ⟨dx, a, L, b, t, h1, h2, h3, h4, h5, h6⟩, ho, fin, nt =>
  obtain ⟨⟨a1, a2, a3, a4, a5, a6⟩, ⟨b1, b2, b3, b4, b5, b6⟩, _⟩ := ho
  have sm : ∀ x : Int, -12 <= x -> x <= 12 -> Bd 10 x := fun x p1 p2 => Bd.of_lt (m := 13) (by omega) (by decide)
  have hb := at_bd (n := n) (k := k) ⟨a1, a2⟩ ⟨a3, a4⟩ ⟨a5, a6⟩ n4 k4
  have hs := at_sub h l n k
  refine .inl ⟨dx, _, h1, rfl, q, n, k, rfl, q, dx, a, L, b, t, l, subF h l, h, 0, n, k, rfl, h1, h4, SqT.of h2, SqT.of h5, SqT.of h6, ?_, ?_, ?_, sm 0 (by decide) (by decide), sm _ (by omega) (by omega), sm _ ?_ ?_, sm _ (by omega) (by omega), sm _ ?_ ?_, by omega, by omega, by rw [Int.zero_mul]; decide, by rw [Int.zero_mul]; decide, ?_, ?_⟩
  ·show h.1 = l.1 + (h.1 - l.1); omega
  ·show h.2.1 = l.2.1 + (h.2.1 - l.2.1); omega
  ·show h.2.2 = l.2.2 + (h.2.2 - l.2.2); omega
  ·show -12 <= h.1 - l.1; omega
  ·show h.1 - l.1 <= 12; omega
  ·show -12 <= h.2.1 - l.2.1; omega
  ·show h.2.1 - l.2.1 <= 12; omega
  ·rw [lift0, lift0]; omega
  ·rw [lift0, lift0]
   intro z hz r H' s1 e1
   exact fin r H' s1 (by rw [e1, ways_of hz]; rfl)
 | .wei f, ⟨dx, a, h1, h2⟩, ho, fin, nt =>
  obtain ⟨c1, c2, c3⟩ := ho
  exact .inr (.inl ⟨dx, _, h1, rfl, q, dx, a, f.1, f.2.1, f.2.2, n, k, rfl, h1, SqT.of h2, c1.mono (by decide), c2.mono (by decide), Bd.of_lt (m := 401) (by omega) (by decide), Bd.of_lt (m := 401) (by omega) (by decide), nt _ _ rfl rfl⟩)
 | .pow f, ⟨dx, a, h1, h2⟩, ho, fin, nt =>
  obtain ⟨_, _, c1, c2⟩ := ho
  exact .inr (.inr (.inl ⟨dx, _, h1, rfl, q, dx, a, f.1, f.2, n, k, rfl, h1, SqT.of h2, c1.mono (by decide), c2.mono (by decide), by omega, by omega, nt _ _ rfl rfl⟩))
 | .gro f, ⟨dx, a, h1, h2⟩, ho, fin, nt =>
  obtain ⟨_, _, c1, c2⟩ := ho
  exact .inr (.inr (.inr ⟨dx, _, h1, rfl, q, dx, a, f.1, f.2, n, k, rfl, h1, SqT.of h2, c1.mono (by decide), c2.mono (by decide), by omega, by omega, nt _ _ rfl rfl⟩))
def spTW {K : PySem.W.Frag} {mg : Str -> Option Value} (T : Tx K mg) : Sp := fun vs H Q _ => ∃ (x : Addr) (H0 : Hp) (rs : List Addr) (ps : List Prt) (n k : Nat), vs = [.ref x, .int (n : Int), .int (k : Int)] ∧ TermAt T H0 H x rs ps ∧ ps.length <= 6 ∧ (∃ B, B * ps.length <= 3900 ∧ B <= 3900 ∧ ∀ p ∈ ps, PtOk B p n k) ∧ ∀ r H', Same H H' -> H' r = some (T2 (prodF (ps.map fun p => worF p n k))) -> Q (.ref r) H'
theorem ok_Term_worth {P : Program} {w : World} {K : PySem.W.Frag} {mg : Str -> Option Value} {base : Heap} (T : Tx K mg) : FnOk P w K mg base CX0 17 T.a_Term_worth T.fd_Term_worth ["self", "n", "k"] (spTW T) := by
 refine T.F_Term_worth.ok sc_Term_worth (fun vs H Q E h => ?_) (fun cdv A outer s H vs Q E hr h => ?_)
 ·obtain ⟨x, H0, rs, ps, n, k, rfl, _⟩ := h
  rfl
 obtain ⟨x, H0, rs, ps, n, k, rfl, ⟨dx, P1, P2, qs, h1, h2, h3, h4, h5, h6⟩, l6, hB, z⟩ := h
 refine ⟨_, ((pss_one (ps_ret (pe_call (FnOk.mono (ok_product T) (by decide)) hr rfl T.m_product T.F_product.kp T.b_product .nil pass0 (pa_cons (pe_lcomp rfl (blkok rfl (sub_cons rfl (sub_cons rfl sub_nil)) (fv_cons 1 "n" (by decide) rfl (Or.inl rfl) (Or.inl rfl) ⟨_, rfl⟩ (fv_cons 2 "k" (by decide) rfl (Or.inl rfl) (Or.inl rfl) ⟨_, rfl⟩ fv_nil))) (pi_list (pe_fld (pv 0) rfl)) (fun _ _ _ _ => (pe_either (pe_meth (pv 0) T.cl_Choose T.me_Choose_worth (FnOk.mono (ok_Choose_worth T) (by decide)) hr T.b_Choose_worth .nil pass0 (pa_cons (pv 1) (pa_cons (pv 2) pa_nil))) (pe_either (pe_meth (pv 0) T.cl_Weight T.me_Weight_worth (FnOk.mono (ok_Weight_worth T) (by decide)) hr T.b_Weight_worth .nil pass0 (pa_cons (pv 1) (pa_cons (pv 2) pa_nil))) (pe_either (pe_meth (pv 0) T.cl_Power T.me_Power_worth (FnOk.mono (ok_Power_worth T) (by decide)) hr T.b_Power_worth .nil pass0 (pa_cons (pv 1) (pa_cons (pv 2) pa_nil))) (pe_meth (pv 0) T.cl_Growth T.me_Growth_worth (FnOk.mono (ok_Growth_worth T) (by decide)) hr T.b_Growth_worth .nil pass0 (pa_cons (pv 1) (pa_cons (pv 2) pa_nil)))))))) pa_nil))))), ?_⟩
 k_units
 refine ⟨_, _, _, h1, T.cl_Term, T.na_Term_pieces, _, rfl, P2, rfl, ⟨_, SqL.of h5⟩, fun D nD => ?_⟩
 obtain ⟨Pc, hPc⟩ : ∃ Pc : Nat -> Hp -> Prop, ∀ j Hx, Pc j Hx ↔ ∃ us : List Addr, Hx D = some (.lst (us.map V.ref)) ∧ us.length = j ∧ (∀ (i : Nat) (u : Addr) (p : Prt), us[i]? = some u -> ps[i]? = some p -> Hx u = some (T2 (worF p n k))) ∧ Same H Hx := ⟨_, fun _ _ => Iff.rfl⟩
 refine cl_list (xs := qs.map V.ref) Pc ((hPc _ _).mpr ⟨[], upd_same, rfl, fun i u h h1 => by simp at h1, same_upd nD _⟩) (fun i Hx _ z => by obtain ⟨_, _, _, _, z⟩ := (hPc i Hx).mp z; exact z.seq (SqL.of h5)) ?_ ?_
 ·intro j v Hx hv hc
  obtain ⟨us, k1, k2, k3, k4⟩ := (hPc _ _).mp hc
  rw [List.getElem?_map] at hv
  obtain ⟨q, hq, rfl⟩ := Option.map_eq_some_iff.mp hv
  have hj := (List.getElem?_eq_some_iff.mp hq).1
  have hj2 : j < ps.length := by have := h6.len; omega
  obtain ⟨B, _, _, hb⟩ := hB
  have hpo := hb _ (List.getElem_mem hj2)
  have hpc := (h6.get j q _ hq (List.getElem?_eq_getElem hj2)).kp (kpS (H0 := H0) k4)
  have fin : ∀ (r : Addr) (Hy : Hp), Same Hx Hy -> Hy r = some (T2 (worF ps[j] n k)) -> ∃ ys, Hy D = some (.lst ys) ∧ ys.length < sizeLine ∧ Pc (j + 1) (L2.upd Hy D (.lst (ys ++ [V.ref r]))) := fun r Hy s1 e1 => by
   refine ⟨_, s1 _ _ k1, by rw [List.length_map]; exact small1000 (by omega), (hPc _ _).mpr ⟨us ++ [r], by rw [upd_same]; simp, by simp [k2], fun i u' p' q1 q2 => ?_, (k4.trans s1).more nD⟩⟩
   by_cases hi : i < us.length
   ·rw [List.getElem?_append_left hi] at q1
    have e := s1 _ _ (k3 i u' p' q1 q2)
    rw [upd_ne (ne_of e (s1 _ _ k1) (fun z => nomatch z))]; exact e
   ·rw [List.getElem?_append_right (by omega)] at q1
    have hi2 : i - us.length = 0 := by
     have := (List.getElem?_eq_some_iff.mp q1).1
     simp at this; omega
    rw [hi2] at q1
    obtain rfl := Option.some.inj q1
    have hij : i = j := by omega
    subst hij
    rw [List.getElem?_eq_getElem hj2] at q2
    obtain rfl := Option.some.inj q2
    rw [upd_ne (ne_of e1 (s1 _ _ k1) (fun z => nomatch z))]; exact e1
  clear hc hPc
  generalize ps[j] = p at hpo hpc fin
  (iterate 3 (k_units; (try simp only [bst, Option.getD_some])); k_units)
  exact dyn_worth hpc hpo fin
 intro Hx hc
 obtain ⟨us, k1, k2, k3, k4⟩ := (hPc _ _).mp hc
 rw [List.length_map, h6.len] at k2
 obtain ⟨B, B1, B2, hb⟩ := hB
 refine ⟨D, us, ps.map fun p => worF p n k, rfl, SqL.of k1, ⟨by rw [List.length_map]; exact k2, fun i a f e1 e2 => ?_⟩, by rw [List.length_map]; exact l6, ⟨B, by rw [List.length_map]; exact B1, B2, fun f hf => ?_⟩, fun _ r nr => ?_⟩
 ·rw [List.getElem?_map] at e2
  obtain ⟨p, hp, rfl⟩ := Option.map_eq_some_iff.mp e2
  exact SqT.of (k3 i a p e1 hp)
 ·obtain ⟨p, hp, rfl⟩ := List.mem_map.mp hf
  obtain ⟨_, _, _, g1, g2, g3⟩ := hb p hp
  exact ⟨g1, g2, g3⟩
 ·exact z r _ (k4.trans (same_upd nr _)) upd_same
def spTInit {K : PySem.W.Frag} {mg : Str -> Option Value} (T : Tx K mg) : Sp := fun vs H Q _ => ∃ (x dx A : Addr) (rs : List Addr) (ps : List Prt), vs = [.ref x, .ref A] ∧ H x = some (.ins T.c_Term dx []) ∧ H A = some (.lst (rs.map V.ref)) ∧ Pts H rs ps ∧ (∀ p ∈ ps, PrtOk p) ∧ 1 <= ps.length ∧ ps.length <= 6 ∧
 ∀ (P1 P2 : Addr) (qs : List Addr) (H' : Hp), (∀ y o, y ≠ x -> H y = some o -> H' y = some o) -> H P1 = none -> H P2 = none -> H' x = some (.ins T.c_Term dx (trmF P1 P2)) -> H' P1 = some (.lst (rs.map V.ref)) -> H' P2 = some (.lst (qs.map V.ref)) -> Pcs T H H' qs ps -> Q .non H'
theorem ok_Term___init__ {P : Program} {w : World} {K : PySem.W.Frag} {mg : Str -> Option Value} {base : Heap} (T : Tx K mg) : FnOk P w K mg base (CXE P w) 5 T.a_Term___init__ T.fd_Term___init__ ["self", "parts"] (spTInit T) := by
 refine T.F_Term___init__.okE sc_Term___init__ (fun vs H Q E h => ?_) (fun cdv A outer s H vs Q E hr h => ?_)
 ·obtain ⟨x, dx, A, rs, ps, rfl, _⟩ := h
  rfl
 obtain ⟨x, dx, A, rs, ps, rfl, hx, hA, hP, hO, l1, l6, k⟩ := h
 refine ⟨_, ((pss_cons (ps_if (PT.nox (PW.pt (pw_or (pt_cmpR op_eq (pe_callB call_len_seq rfl T.z_len bt_len (pa_cons (pv 1) pa_nil)) pe_int (nomark _)) (pw_or1 (pt_cmpR op_gt (pe_callB call_len_seq rfl T.z_len bt_len (pa_cons (pv 1) pa_nil)) (pe_glob (v := .int 6) rfl T.g_MOST_PARTS.2 ⟨_, rfl⟩) (nomark _)))))) pss_never pss_nil)
  (pss_cons (PS.nox (ps_fld (pv 0) (pe_callTy call_list_of rfl T.z_list bt_list (pa_cons (pv 1) pa_nil)) rfl))
  (pss_one (ps_fld (pv 0) (pe_lcomp rfl (blkok rfl sub_nil fv_nil) (pi_list (pv 1)) (fun _ _ _ _ => (pe_call (FnOk.mono (ok_piece_of T) (by decide)) hr rfl T.m_piece_of T.F_piece_of.kp T.b_piece_of .nil passF (pa_cons (pv 0) pa_nil)))) rfl))))), ?_⟩
 k_units
 have lr : (rs.map V.ref).length = ps.length := by rw [List.length_map]; exact hP.len
 refine ⟨_, .inl (SqL.of hA), ?_⟩
 rw [if_neg (by rw [lr]; omega)]
 refine ⟨_, .inl (SqL.of hA), ?_⟩
 rw [if_neg (by rw [lr]; omega)]
 refine ⟨_, .inl (SqL.of hA), fun P1 nP1 => ?_⟩
 have u1 := same_upd nP1 (.lst (rs.map V.ref))
 refine ⟨T.c_Term, dx, [], u1 _ _ hx, T.cl_Term, T.na_Term_parts, by decide, ?_⟩
 have pf1 : putF (Str.ofString "parts") (V.ref P1) [] = [(Str.ofString "parts", V.ref P1)] := rfl
 rw [pf1]
 have xA : A ≠ x := ne_of hA hx (fun z => nomatch z)
 have xP : P1 ≠ x := fun z => by rw [z, hx] at nP1; cases nP1
 obtain ⟨G, hG⟩ : ∃ G, G = L2.upd (L2.upd H P1 (.lst (rs.map V.ref))) x (.ins T.c_Term dx [(Str.ofString "parts", V.ref P1)]) := ⟨_, rfl⟩
 rw [← hG]
 have gx : G x = some (.ins T.c_Term dx [(Str.ofString "parts", V.ref P1)]) := by rw [hG]; exact upd_same
 have gk : ∀ y o, y ≠ x -> H y = some o -> G y = some o := fun y o hy e => by rw [hG, upd_ne hy]; exact u1 _ _ e
 have gP : G P1 = some (.lst (rs.map V.ref)) := by rw [hG, upd_ne xP, upd_same]
 have gn : ∀ y, G y = none -> H y = none := fun y e => by
  by_cases hy : y = x
  ·rw [hy, gx] at e; cases e
  ·rw [hG, upd_ne hy] at e; exact u1.free e
 have gPt : Pts G rs ps := hP.kt fun a xs e => gk a _ (ne_of e hx (fun z => nomatch z)) e
 clear hG
 refine ⟨⟨_, SqL.of (gk _ _ xA hA)⟩, fun D nD => ?_⟩
 obtain ⟨G1, hG1⟩ : ∃ G1, G1 = L2.upd G D (.lst []) := ⟨_, rfl⟩
 have g1D : G1 D = some (.lst []) := by rw [hG1]; exact upd_same
 have g1n : ∀ y, G1 y = none -> G y = none := fun y e => by rw [hG1] at e; exact (upd_none e).2
 have xD : D ≠ x := fun z => by rw [z, gx] at nD; cases nD
 obtain ⟨Pc, hPc⟩ : ∃ Pc : Nat -> Hp -> Prop, ∀ j Hx, Pc j Hx ↔ ∃ qs : List Addr, Hx D = some (.lst (qs.map V.ref)) ∧ Pcs T G1 Hx qs (ps.take j) ∧ Same G Hx := ⟨_, fun _ _ => Iff.rfl⟩
 refine cl_list (xs := rs.map V.ref) Pc ((hPc _ _).mpr ⟨[], upd_same, ⟨by simp, fun i q p e => by simp at e⟩, same_upd nD _⟩) (fun i Hx _ z => by obtain ⟨_, _, _, z⟩ := (hPc i Hx).mp z; exact z.seq (SqL.of (gk _ _ xA hA))) ?_ ?_
 ·intro j v Hx hv hc
  obtain ⟨qs, k1, k2, k3⟩ := (hPc _ _).mp hc
  rw [List.getElem?_map] at hv
  obtain ⟨r, hr1, rfl⟩ := Option.map_eq_some_iff.mp hv
  have hj := (List.getElem?_eq_some_iff.mp hr1).1
  have hj2 : j < ps.length := by have := hP.len; omega
  (iterate 3 (k_units; (try simp only [bst, Option.getD_some])); k_units)
  refine ⟨r, ps[j], rfl, (gPt.get j r _ hr1 (List.getElem?_eq_getElem hj2)).on k3, hO _ (List.getElem_mem hj2), fun q H' s' hq => ?_⟩
  have lq := k2.len
  rw [List.length_take] at lq
  refine ⟨_, s' _ _ k1, by rw [List.length_map]; exact small1000 (by omega), (hPc _ _).mpr ⟨qs ++ [q], by rw [upd_same]; simp, ?_, (k3.trans s').more nD⟩⟩
  have kq : Kp G1 Hx (L2.upd H' D (.lst (qs.map V.ref ++ [V.ref q]))) := kpD s' (by rw [g1D]; simp) k1
  rw [← List.take_append_getElem hj2]
  refine (k2.kp kq).snoc ?_
  have hq1 : PcAt T Hx (L2.upd H' D (.lst (qs.map V.ref ++ [V.ref q]))) q ps[j] := hq.kp (kpD (Same.refl H') (by rw [k1]; simp) (s' _ _ k1))
  exact hq1.fr fun y e => by
   by_cases hy : y = D
   ·rw [hy, k1] at e; cases e
   ·rw [hG1, upd_ne hy]; exact k3.free e
 intro Hx hc
 obtain ⟨qs, k1, k2, k3⟩ := (hPc _ _).mp hc
 rw [List.length_map, hP.len, List.take_of_length_le (Nat.le_refl _)] at k2
 refine ⟨T.c_Term, dx, _, k3 _ _ gx, T.cl_Term, T.na_Term_pieces, by show 1 < 1000; decide, ?_⟩
 have pf2 : putF (Str.ofString "pieces") (V.ref D) [(Str.ofString "parts", V.ref P1)] = trmF P1 D := rfl
 rw [pf2]
 refine k P1 D qs _ (fun y o hy e => by rw [upd_ne hy]; exact k3 _ _ (gk y o hy e)) nP1 (gn _ nD) upd_same (by rw [upd_ne xP]; exact k3 _ _ gP) (by rw [upd_ne xD]; exact k1) ?_
 refine (k2.kp fun a o e n => ?_).from fun y e => gn _ (g1n _ e)
 have : a ≠ x := fun z => by
  subst z
  rw [k3 _ _ gx] at e
  cases e
  cases n with
  | ins z =>
   have z' : some (V.ref P1) = none := z
   cases z'
 rw [upd_ne this]; exact e
abbrev DD (H : Hp) (a : Addr) (f : PD) : Prop := Rd H a (.dT (dz f))
def newD (H : Hp) (Q : VK) (g : PD) : Prop := ∀ (p : Addr) (H' : Hp), Same H H' -> H p = none -> H' p = some (.dT (dz g)) -> Q (.ref p) H'
theorem DD.same {H H' : Hp} {a : Addr} {f : PD} (h : DD H a f) (s : Same H H') : DD H' a f := by
 rcases h with e | ⟨o, e⟩
 ·exact .inl (s _ _ e)
 ·exact .inr ⟨o, s _ _ e⟩
theorem same_bk {H H' : Hp} {a : Addr} {u : HO} (s : Same (upd H a u) H') : Same H (bkH H a H') := fun b o e => by
 by_cases h : b = a
 ·subst h; rw [bk_at]; exact e
 ·rw [bk_ne h]; exact s b o (by rw [upd_ne h]; exact e)
theorem same_upd2 {H H' : Hp} {a : Addr} {u : HO} (s : Same H H') : Same (upd H a u) (upd H' a u) := fun b o e => by
 by_cases h : b = a
 ·subst h; rw [upd_same] at e ⊢; exact e
 ·rw [upd_ne h] at e ⊢; exact s b o e
theorem rd_one {H : Hp} {a : Addr} {k l : List (List Key × V)} (h : Rd H a (.dT k)) (h' : Rd H a (.dT l)) : k = l := by
 rcases h with e | ⟨o, e⟩ <;> rcases h' with e' | ⟨o', e'⟩ <;> rw [e] at e' <;> cases e' <;> rfl
theorem DD.frz {H : Hp} {a b : Addr} {f g : PD} {o : Obj} (ha : DD H a f) (hb : DD H b g) : DD (upd H a (.frz o (.dT (dz f)))) b g := by
 by_cases h : b = a
 ·subst h
  refine .inr ⟨o, ?_⟩
  rw [upd_same, rd_one ha hb]
 ·rcases hb with e | ⟨o', e⟩
  ·exact .inl (by rw [upd_ne h]; exact e)
  ·exact .inr ⟨o', by rw [upd_ne h]; exact e⟩
theorem DD.some {H : Hp} {a : Addr} {f : PD} (h : DD H a f) : ∃ o, H a = some o := by
 rcases h with e | ⟨o, e⟩
 ·exact ⟨_, e⟩
 ·exact ⟨_, e⟩
theorem dz_get {f : PD} {i : Nat} {k : List Key} {x : V} (h : (dz f)[i]? = some (k, x)) : ∃ p : P2 × Int, f[i]? = some p ∧ k = kz p.1 ∧ x = V.int p.2 := by
 unfold dz at h
 rw [List.getElem?_map] at h
 obtain ⟨p, hp, e⟩ := Option.map_eq_some_iff.mp h
 injection e with e1 e2
 exact ⟨p, hp, e1.symm, e2.symm⟩
theorem getD_dz (f : PD) (k : P2) : (valV (dz f) (kz k)).getD (V.int 0) = V.int (cfD f k) := by
 rw [valV_dz]
 unfold cfD
 cases gtD f k <;> rfl
theorem nzD_snoc (f : PD) (x : P2 × Int) : nzD (f ++ [x]) = if x.2 = 0 then nzD f else nzD f ++ [x] := by
 unfold nzD
 rw [List.filter_append, List.filter_cons, List.filter_nil]
 by_cases h : x.2 = 0
 ·rw [if_pos h, if_neg (by simp [h]), List.append_nil]
 ·rw [if_neg h, if_pos (by simp [h])]
theorem take_snoc {f : PD} {i : Nat} {p : P2 × Int} (h : f[i]? = some p) : f.take (i + 1) = f.take i ++ [p] := by rw [List.take_succ, h]; rfl
theorem put_map (ps : List (Addr × List Key × Addr × V)) : ∀ a : List (List Key × V), (ps.map (fun x => (x.2.1, x.2.2.2))).foldl (fun a x => putK a x.1 x.2) a = ps.foldl (fun a x => putK a x.2.1 x.2.2.2) a := by
 induction ps with
 | nil => intro a; rfl
 | cons x ps ih => intro a; rw [List.map_cons, List.foldl_cons, List.foldl_cons, ih]
theorem put_dz (g : PD) : ∀ a : PD, (dz g).foldl (fun a x => putK a x.1 x.2) (dz a) = dz (g.foldl (fun a x => ptD a x.1 x.2) a) := by
 induction g with
 | nil => intro a; rfl
 | cons x g ih =>
  intro a
  show (dz g).foldl (fun a x => putK a x.1 x.2) (putK (dz a) (kz x.1) (V.int x.2)) = _
  rw [putK_dz, ih]; rfl
theorem same_bk2 {H G H' : Hp} {a : Addr} {u : HO} (s : Same (upd H a u) H') (g : Same H G) : Same H (bkH G a H') := fun b o e => by
 by_cases h : b = a
 ·subst h; rw [bk_at]; exact g b o e
 ·rw [bk_ne h]; exact s b o (by rw [upd_ne h]; exact e)
def spBare : Sp := fun vs H Q _ => ∃ (a : Addr) (f : PD), vs = [.ref a] ∧ DD H a f ∧ ndD f ∧ f.length <= 4000 ∧ newD H Q (nzD f)
theorem ok_bare {P : Program} {w : World} {K : PySem.W.Frag} {mg : Str -> Option Value} {base : Heap} (T : Tx K mg) : FnOk P w K mg base CX0 1 T.a_bare T.fd_bare ["pair"] spBare := by
 refine T.F_bare.ok sc_bare (fun vs H Q E h => ?_) (fun cdv A outer s H vs Q E hr h => ?_)
 ·obtain ⟨a, f, rfl, _⟩ := h
  rfl
 obtain ⟨a, f, rfl, ha, nd, lf, q⟩ := h
 refine ⟨_, ((pss_one (ps_ret (pe_callTy (call_dictP rfl (u_le (k := 2) hr.units (by decide))) rfl T.z_dict bt_dict (pa_cons (pe_thaw (pe_lcomp2If rfl (blkok2 rfl sub_nil fv_nil2) (pi_items (pv 0)) (fun _ _ _ _ => (pt_cmpR op_ne (pv 1) pe_int (nomark _))) (fun _ _ _ _ => (pe_tup (pa_cons (pv 0) (pa_cons (pv 1) pa_nil)))))) pa_nil))))), ?_⟩
 k_units
 refine ⟨dz f, ha, fun o tw D nD => ?_⟩
 obtain ⟨oa, ea⟩ := ha.some
 obtain ⟨W, hW⟩ : ∃ W : Nat -> Hp -> Prop, ∀ i H', W i H' ↔ ∃ ps : List (Addr × List Key × Addr × V), H' D = some (.lst (ps.map fun x => V.ref x.1)) ∧ (∀ x ∈ ps, H' x.1 = some (.tup [.ref x.2.2.1, x.2.2.2]) ∧ H' x.2.2.1 = some (.tup (x.2.1.map kV))) ∧ ps.map (fun x => (x.2.1, x.2.2.2)) = dz (nzD (f.take i)) ∧ Same (upd H a (.frz o (.dT (dz f)))) H' := ⟨_, fun _ _ => Iff.rfl⟩
 refine cl_items W ((hW _ _).mpr ⟨[], upd_same, fun _ h => absurd h List.not_mem_nil, rfl, same_upd nD _⟩) (fun i H' _ h => by obtain ⟨_, _, _, _, sS⟩ := (hW _ _).mp h; exact sS _ _ upd_same) (fun i k x p b H' hk hw np hb => ?_) (fun H' hw => ?_)
 ·obtain ⟨ps, eD, hp, em, sS⟩ := (hW _ _).mp hw
  obtain ⟨y, hy, rfl, rfl⟩ := dz_get hk
  have hi := (List.getElem?_eq_some_iff.mp hy).1
  have u1 := same_upd np (.tup [.ref b, V.int y.2])
  (iterate 3 (k_units; (try simp only [bst2])); k_units)
  refine ite2 (fun hne => ⟨by decide, fun t nt => ?_⟩) (fun hz => ?_)
  ·have u2 := same_upd nt (.tup [.ref b, V.int y.2])
   have u12 := u1.trans u2
   have l1 : ps.length <= i := by
    have e := congrArg List.length em
    rw [List.length_map, len_dz] at e
    have h2 := nzD_len (f.take i)
    rw [List.length_take] at h2; omega
   have eD2 := u12 _ _ eD
   refine ⟨_, eD2, by rw [List.length_map]; exact Nat.lt_of_le_of_lt (show _ <= 4000 by omega) (by decide), (hW _ _).mpr ⟨ps ++ [(t, kz y.1, b, V.int y.2)], by rw [upd_same]; simp, fun x hx => ?_, ?_, (sS.trans u12).more nD⟩⟩
   ·have keep : ∀ c xs, upd (upd H' p (.tup [.ref b, V.int y.2])) t (.tup [.ref b, V.int y.2]) c = some (.tup xs) -> upd (upd (upd H' p (.tup [.ref b, V.int y.2])) t (.tup [.ref b, V.int y.2])) D (.lst (ps.map (fun x => V.ref x.1) ++ [V.ref t])) c = some (.tup xs) := fun c xs h => by
     rw [upd_ne (ne_of h eD2 (fun z => nomatch z))]; exact h
    rcases List.mem_append.mp hx with h | h
    ·exact ⟨keep _ _ (u12 _ _ (hp x h).1), keep _ _ (u12 _ _ (hp x h).2)⟩
    ·rw [List.mem_singleton.mp h]
     exact ⟨keep _ _ upd_same, keep _ _ (u12 _ _ hb)⟩
   ·rw [List.map_append, em, take_snoc hy, nzD_snoc, if_neg (by simpa using hne)]
    unfold dz; rw [List.map_append]; rfl
  ·refine (hW _ _).mpr ⟨ps, u1 _ _ eD, fun x hx => ⟨u1 _ _ (hp x hx).1, u1 _ _ (hp x hx).2⟩, ?_, sS.trans u1⟩
   rw [em, take_snoc hy, nzD_snoc, if_pos (by simpa using hz)]
 ·obtain ⟨ps, eD, hp, em, sS⟩ := (hW _ _).mp hw
  rw [len_dz, List.take_length] at em
  have fz := sS _ _ (upd_same (H := H) (a := a) (o := .frz o (.dT (dz f))))
  have sB := same_bk sS
  have nDa : D ≠ a := ne_of eD fz (fun z => nomatch z)
  refine ⟨H, a, o, dz f, tw, fz, D, rfl, ps, by rw [bk_ne nDa]; exact eD, fun x hx => ⟨by rw [bk_ne (ne_of (hp x hx).1 fz (fun z => nomatch z))]; exact (hp x hx).1, by rw [bk_ne (ne_of (hp x hx).2 fz (fun z => nomatch z))]; exact (hp x hx).2⟩, fun p np => ?_⟩
  have e2 : L2.putAll ps = dz (nzD f) := by
   unfold L2.putAll
   rw [← put_map, em]
   have e3 := put_dz (nzD f) []
   rw [put_all (ndD_nz nd) [] fun x _ => gtD_nil _] at e3
   exact e3
  rw [e2]
  exact q p _ (sB.trans (same_upd np _)) (sB.free np) upd_same
theorem prD_len (f g : PD) : (prD f g).length = f.length * g.length := by
 induction f with
 | nil => simp [prD]
 | cons x f ih =>
  show (rowD x g ++ prD f g).length = _
  rw [List.length_append, ih, List.length_cons, Nat.add_mul]
  show (g.map _).length + _ = _
  rw [List.length_map]; omega
def spTimes : Sp := fun vs H Q _ => ∃ (a b : Addr) (f g : PD) (d e A B : Nat), vs = [.ref a, .ref b] ∧ DD H a f ∧ DD H b g ∧ PdOk d A f ∧ PdOk e B g ∧ d + e <= 60 ∧ A <= 1000000 ∧ B <= 1000000 ∧ newD H Q (timesD f g)
theorem ok_pair_times {P : Program} {w : World} {K : PySem.W.Frag} {mg : Str -> Option Value} {base : Heap} (T : Tx K mg) : FnOk P w K mg base CX0 2 T.a_pair_times T.fd_pair_times ["one", "other"] spTimes := by
 refine T.F_pair_times.ok sc_pair_times (fun vs H Q E h => ?_) (fun cdv A outer s H vs Q E hr h => ?_)
 ·obtain ⟨a, b, f, g, d, e, A, B, rfl, _⟩ := h
  rfl
 obtain ⟨a, b, f, g, d, e, mA, mB, rfl, ha, hb, pf, pg, hde, lA, lB, q⟩ := h
 have lf : f.length <= 4000 := Nat.le_trans (len_deg pf.nd pf.dg) (Nat.le_trans (Nat.mul_le_mul (show d + 1 <= 61 by omega) (show d + 1 <= 61 by omega)) (by decide))
 have lg : g.length <= 4000 := Nat.le_trans (len_deg pg.nd pg.dg) (Nat.le_trans (Nat.mul_le_mul (show e + 1 <= 61 by omega) (show e + 1 <= 61 by omega)) (by decide))
 have bf : ∀ x ∈ f, Bd (mA + 1) x.2 := fun x hx => Nat.lt_of_le_of_lt (pf.sz x hx) (Nat.pow_lt_pow_right (by decide) (Nat.lt_succ_self _))
 have bg : ∀ x ∈ g, Bd (mB + 1) x.2 := fun x hx => Nat.lt_of_le_of_lt (pg.sz x hx) (Nat.pow_lt_pow_right (by decide) (Nat.lt_succ_self _))
 refine ⟨_, ((pss_cons (ps_set (i := 2) sc_pair_times.nd rfl (Or.inl rfl) pe_dnewT)
  (pss_cons (ps_forD (ps_for PassesOwn.never rfl (pi_items (pv 0)) (pg_tup rfl (pgs_cons (pg_name (i := 3) sc_pair_times.nd rfl (Or.inl rfl)) (pgs_cons (pg_name (i := 4) sc_pair_times.nd rfl (Or.inl rfl)) pgs_nil))) (pss_one (ps_forD (ps_for PassesOwn.never rfl (pi_items (pv 1)) (pg_tup rfl (pgs_cons (pg_name (i := 5) sc_pair_times.nd rfl (Or.inl rfl)) (pgs_cons (pg_name (i := 6) sc_pair_times.nd rfl (Or.inl rfl)) pgs_nil))) (pss_cons (ps_set (i := 7) sc_pair_times.nd rfl (Or.inl rfl) (pe_tup (pa_cons (pe_op op_add (pe_ix ix_tup (pv 3) pe_int (fun _ _ => rfl)) (pe_ix ix_tup (pv 5) pe_int (fun _ _ => rfl))) (pa_cons (pe_op op_add (pe_ix ix_tup (pv 3) pe_int (fun _ _ => rfl)) (pe_ix ix_tup (pv 5) pe_int (fun _ _ => rfl))) pa_nil))))
  (pss_one (ps_dput (u_le (k := 1) hr.units (by decide)) (pv 2) (pv 7) (pe_op op_add (pe_dget2 (u_le (k := 1) hr.units (by decide)) (pv 2) (pv 7) pe_int ⟨rfl, rfl, rfl, rfl⟩) (pe_op op_mulZ (pv 4) (pv 6))) rfl))))))))
  (pss_one (ps_ret (pe_call (FnOk.mono (ok_bare T) (by decide)) hr rfl T.m_bare T.F_bare.kp T.b_bare .nil pass0 (pa_cons (pv 2) pa_nil))))))), ?_⟩
 k_units
 obtain ⟨oa, ea⟩ := ha.some
 obtain ⟨ob, eb⟩ := hb.some
 refine fun p np => ⟨dz f, ha.same (same_upd np _), fun o tw => ?_⟩
 have npa : p ≠ a := fun z => by rw [z, ea] at np; cases np
 have npb : p ≠ b := fun z => by rw [z, eb] at np; cases np
 have npA : upd H a (.frz o (.dT (dz f))) p = none := by rw [upd_ne npa]; exact np
 obtain ⟨Pv, hPv⟩ : ∃ Pv : Nat -> L2.St -> Hp -> Prop, ∀ i σ H', Pv i σ H' ↔ ∃ r3 r4 r5 r6 r7 : Option V, σ = [some (V.ref a), some (V.ref b), some (V.ref p), r3, r4, r5, r6, r7] ∧ H' p = some (.dT (dz (foD (prD (f.take i) g) []))) ∧ Same (upd H a (.frz o (.dT (dz f)))) H' := ⟨_, fun _ _ _ => Iff.rfl⟩
 refine lp_items Pv ((hPv _ _ _).mpr ⟨none, none, none, none, none, rfl, by rw [upd_ne npa]; exact upd_same, same_upd2 (same_upd np _)⟩) (fun i σ H' _ h => by obtain ⟨_, _, _, _, _, _, _, sS⟩ := (hPv _ _ _).mp h; exact sS _ _ upd_same) ?_ ?_
 ·intro i k x t c σ H' hk hp nt hc
  obtain ⟨r3, r4, r5, r6, r7, rfl, ep, sS⟩ := (hPv _ _ _).mp hp
  obtain ⟨y, hy, rfl, rfl⟩ := dz_get hk
  k_units
  have u1 := same_upd nt (.tup [V.ref c, V.int y.2])
  have s1 := sS.trans u1
  refine ⟨_, SqT.of upd_same, rfl, _, _, rfl, _, _, rfl, rfl, dz g, ?_, fun o2 tw2 => ?_⟩
  ·exact (DD.frz ha hb).same s1
  have ep1 := u1 _ _ ep
  have hc1 := u1 _ _ hc
  generalize upd H' t (.tup [V.ref c, V.int y.2]) = G1 at s1 ep1 hc1 tw2 ⊢
  obtain ⟨Pw, hPw⟩ : ∃ Pw : Nat -> L2.St -> Hp -> Prop, ∀ j σ H'', Pw j σ H'' ↔ ∃ r5 r6 r7 : Option V, σ = [some (V.ref a), some (V.ref b), some (V.ref p), some (V.ref c), some (V.int y.2), r5, r6, r7] ∧ H'' p = some (.dT (dz (foD (rowD y (g.take j)) (foD (prD (f.take i) g) [])))) ∧ H'' c = some (.tup ((kz y.1).map kV)) ∧ Same (upd (upd H a (.frz o (.dT (dz f)))) b (.frz o2 (.dT (dz g)))) H'' := ⟨_, fun _ _ _ => Iff.rfl⟩
  have nBc : ∀ (G : Hp) (v : HO), G b = some v -> (∀ xs, v ≠ .tup xs) -> G c = some (.tup ((kz y.1).map kV)) -> c ≠ b := fun G v e n h z => by rw [z, e] at h; exact n _ (Option.some.inj h)
  obtain ⟨vb, evb, nvb⟩ : ∃ v, G1 b = some v ∧ ∀ xs, v ≠ .tup xs := by
   rcases (DD.frz (o := o) ha hb).same s1 with e | ⟨o', e⟩
   ·exact ⟨_, e, fun xs z => nomatch z⟩
   ·exact ⟨_, e, fun xs z => nomatch z⟩
  have ncb := nBc G1 vb evb nvb hc1
  have npB : upd (upd H a (.frz o (.dT (dz f)))) b (.frz o2 (.dT (dz g))) p = none := by rw [upd_ne npb]; exact npA
  refine lp_items Pw ((hPw _ _ _).mpr ⟨r5, r6, r7, rfl, by rw [upd_ne npb]; exact ep1, by rw [upd_ne ncb]; exact hc1, same_upd2 s1⟩) (fun j σ H'' _ h => by obtain ⟨_, _, _, _, _, _, sS⟩ := (hPw _ _ _).mp h; exact sS _ _ upd_same) ?_ ?_
  ·intro j k2 x2 t2 c2 σ H'' hk2 hp2 nt2 hc2
   obtain ⟨r5, r6, r7, rfl, ep2, hcc, sS2⟩ := (hPw _ _ _).mp hp2
   obtain ⟨z, hz, rfl, rfl⟩ := dz_get hk2
   k_units
   have u2 := same_upd nt2 (.tup [V.ref c2, V.int z.2])
   have ep3 := u2 _ _ ep2
   have hcc3 := u2 _ _ hcc
   have hc23 := u2 _ _ hc2
   have s3 := sS2.trans u2
   refine ⟨_, SqT.of upd_same, rfl, _, _, rfl, _, _, rfl, rfl, ?_⟩
   generalize upd H'' t2 (.tup [V.ref c2, V.int z.2]) = G3 at ep3 hcc3 hc23 s3 ⊢
   refine ⟨_, SqT.of hcc3, _, rfl, _, rfl, _, SqT.of hc23, _, rfl, _, rfl, _, rfl, _, SqT.of hcc3, _, rfl, _, rfl, _, SqT.of hc23, _, rfl, _, rfl, _, rfl, by decide, fun p3 np3 => ?_⟩
   have u4 := same_upd np3 (.tup [V.int (y.1.1 + z.1.1), V.int (y.1.2 + z.1.2)])
   have ep4 := u4 _ _ ep3
   have e4 : upd G3 p3 (.tup [V.int (y.1.1 + z.1.1), V.int (y.1.2 + z.1.2)]) p3 = some (.tup ((kz (y.1.1 + z.1.1, y.1.2 + z.1.2)).map kV)) := upd_same
   have hl : (dz (foD (rowD y (g.take j)) (foD (prD (f.take i) g) []))).length < sizeLine := by
    have h1 := len_fo (rowD y (g.take j)) (foD (prD (f.take i) g) [])
    have h2 := len_fo (prD (f.take i) g) []
    have h3 := prD_len (f.take i) g
    have h4 : (rowD y (g.take j)).length <= 4000 := by unfold rowD; rw [List.length_map, List.length_take]; omega
    have h5 : (f.take i).length * g.length <= 4000 * 4000 := Nat.mul_le_mul (by rw [List.length_take]; omega) lg
    rw [List.length_nil] at h2
    rw [len_dz]; exact Nat.lt_of_le_of_lt (show _ <= 16010000 by omega) (by decide)
   have by' := bf y (List.mem_of_getElem? hy)
   have bz := bg z (List.mem_of_getElem? hz)
   refine ⟨.inr ⟨_, .inl ep4⟩, _, DGet.t ep4 e4, _, rfl, by'.fits bz (by omega), _, getD_dz _ _, _, DPut.t ep4 e4 hl, (hPw _ _ _).mpr ⟨_, _, _, rfl, ?_, ?_, (s3.trans u4).more npB⟩⟩
   ·rw [upd_same, putK_dz, take_snoc hz, rowD_snoc, foD_snoc]
    rfl
   ·rw [upd_ne (fun w => by rw [w, ep3] at hcc3; cases hcc3)]
    exact u4 _ _ hcc3
  ·intro σ H'' hp2
   rw [len_dz] at hp2
   obtain ⟨r5, r6, r7, rfl, ep2, hcc, sS2⟩ := (hPw _ _ _).mp hp2
   rw [List.take_length] at ep2
   refine ⟨G1, b, o2, dz g, tw2, sS2 _ _ upd_same, (hPv _ _ _).mpr ⟨_, _, _, _, _, rfl, ?_, same_bk2 sS2 s1⟩⟩
   rw [bk_ne npb, ep2, take_snoc hy, prD_snoc, foD_app]
 ·intro σ H' hp
  rw [len_dz] at hp
  obtain ⟨r3, r4, r5, r6, r7, rfl, ep, sS⟩ := (hPv _ _ _).mp hp
  rw [List.take_length] at ep
  refine ⟨upd H p (.dT []), a, o, dz f, tw, sS _ _ upd_same, ?_⟩
  have sB := same_bk2 sS (same_upd np (.dT []))
  k_units
  have l1 : (foD (prD f g) []).length <= 4000 := Nat.le_trans (len_deg (nd_fo _ ndD_nil) (deg_fo_pr pf.dg pg.dg)) (Nat.le_trans (Nat.mul_le_mul (show d + e + 1 <= 61 by omega) (show d + e + 1 <= 61 by omega)) (by decide))
  exact ⟨p, foD (prD f g) [], rfl, .inl (by rw [bk_ne npa]; exact ep), nd_fo _ ndD_nil, l1, fun p2 H2 s2 n2 e2 => q p2 H2 (sB.trans s2) (sB.free n2) e2⟩
def spFmD (K : PySem.W.Frag) : Sp := fun vs H Q _ => ∃ (a : Addr) (x y z : Int), vs = [.ref a] ∧ SqT K H a [.int x, .int y, .int z] ∧ newD H Q (nzD [((1, 0), x), ((0, 1), y), ((0, 0), z)])
theorem form_nd (x y z : Int) : ndD [((1, 0), x), ((0, 1), y), ((0, 0), z)] := by unfold ndD; simp
theorem ok_pair_of_form {P : Program} {w : World} {K : PySem.W.Frag} {mg : Str -> Option Value} {base : Heap} (T : Tx K mg) : FnOk P w K mg base CX0 2 T.a_pair_of_form T.fd_pair_of_form ["form"] (spFmD K) := by
 refine T.F_pair_of_form.ok sc_pair_of_form (fun vs H Q E h => ?_) (fun cdv A outer s H vs Q E hr h => ?_)
 ·obtain ⟨a, x, y, z, rfl, _⟩ := h
  rfl
 obtain ⟨a, x, y, z, rfl, ha, q⟩ := h
 refine ⟨_, ((pss_one (ps_ret (pe_call (FnOk.mono (ok_bare T) (by decide)) hr rfl T.m_bare T.F_bare.kp T.b_bare .nil pass0 (pa_cons (by exact pe_dispT (u_le0 hr.units) (pps_cons (pe_tup (pa_cons pe_int (pa_cons pe_int pa_nil))) (pe_ix ix_tup (pv 0) pe_int (fun _ _ => rfl)) (pps_cons (pe_tup (pa_cons pe_int (pa_cons pe_int pa_nil))) (pe_ix ix_tup (pv 0) pe_int (fun _ _ => rfl)) (pps_cons (pe_tup (pa_cons pe_int (pa_cons pe_int pa_nil))) (pe_ix ix_tup (pv 0) pe_int (fun _ _ => rfl)) pps_nil))) rfl rfl (fun z => nomatch z) (by decide)) pa_nil))))), ?_⟩
 k_units
 refine fun p np => ⟨by decide, fun p1 n1 => ?_⟩
 have u0 := same_upd np (.dT [])
 have u1 := same_upd n1 (.tup [V.int 1, V.int 0])
 have s1 := u0.trans u1
 refine ⟨_, s1.seqT ha, _, rfl, by decide, fun p2 n2 => ?_⟩
 have u2 := same_upd n2 (.tup [V.int 0, V.int 1])
 have s2 := s1.trans u2
 refine ⟨_, s2.seqT ha, _, rfl, by decide, fun p3 n3 => ?_⟩
 have u3 := same_upd n3 (.tup [V.int 0, V.int 0])
 have s3 := s2.trans u3
 have e0 := (u1.trans (u2.trans u3)) _ _ (upd_same (H := H) (a := p) (o := .dT []))
 have e1 := (u2.trans u3) _ _ (upd_same (H := upd H p (.dT [])) (a := p1) (o := .tup [V.int 1, V.int 0]))
 have e2 := u3 _ _ (upd_same (H := upd (upd H p (.dT [])) p1 (.tup [V.int 1, V.int 0])) (a := p2) (o := .tup [V.int 0, V.int 1]))
 have e3 := upd_same (H := upd (upd (upd H p (.dT [])) p1 (.tup [V.int 1, V.int 0])) p2 (.tup [V.int 0, V.int 1])) (a := p3) (o := .tup [V.int 0, V.int 0])
 refine ⟨_, s3.seqT ha, _, rfl, ?_⟩
 generalize upd (upd (upd (upd H p (.dT [])) p1 (.tup [V.int 1, V.int 0])) p2 (.tup [V.int 0, V.int 1])) p3 (.tup [V.int 0, V.int 0]) = G at s3 e0 e1 e2 e3 ⊢
 refine ⟨e0, [(kz (1, 0), p1, V.int x), (kz (0, 1), p2, V.int y), (kz (0, 0), p3, V.int z)], rfl, fun k hk => ?_, by simp, p, [((1, 0), x), ((0, 1), y), ((0, 0), z)], rfl, .inl ?_, form_nd x y z, by simp, fun p5 H5 s5 n5 e5 => ?_⟩
 ·simp only [List.mem_cons, List.not_mem_nil, or_false] at hk
  rcases hk with rfl | rfl | rfl
  ·exact e1
  ·exact e2
  ·exact e3
 ·rw [upd_same]
  have e := putK_dz [] (1, 0) x
  have e' := putK_dz (ptD [] (1, 0) x) (0, 1) y
  have e'' := putK_dz (ptD (ptD [] (1, 0) x) (0, 1) y) (0, 0) z
  show some (HO.dT (putK (putK (putK (dz []) (kz (1, 0)) (V.int x)) (kz (0, 1)) (V.int y)) (kz (0, 0)) (V.int z))) = _
  rw [e, e', e'']
  simp [ptD]
 ·have s4 : Same H (upd G p (.dT (putAs [(kz (1, 0), p1, V.int x), (kz (0, 1), p2, V.int y), (kz (0, 0), p3, V.int z)] []))) := s3.more np
  exact q p5 H5 (s4.trans s5) (s4.free n5) e5
def rfL (f : Int × Int × Int) (lo : Int) (m : Nat) : List PD := (List.range m).map fun (j : Nat) => fmD f.1 f.2.1 (f.2.2 + (lo + (j : Int)))
theorem rfL_succ (f : Int × Int × Int) (lo : Int) (m : Nat) : rfL f lo (m + 1) = rfL f lo m ++ [fmD f.1 f.2.1 (f.2.2 + (lo + (m : Int)))] := by
 unfold rfL; rw [List.range_succ, List.map_append]; rfl
theorem rfL_len (f : Int × Int × Int) (lo : Int) (m : Nat) : (rfL f lo m).length = m := by unfold rfL; rw [List.length_map, List.length_range]
theorem PdOk.mono {d e A B : Nat} {f : PD} (h : PdOk d A f) (h1 : d <= e) (h2 : A <= B) : PdOk e B f := ⟨deg_mono h.dg h1, h.nd, fun x hx => Nat.le_trans (h.sz x hx) (Nat.pow_le_pow_right (by decide) h2)⟩
structure DDs (H : Hp) (as : List Addr) (fs : List PD) : Prop where
 len : as.length = fs.length
 get : ∀ (i : Nat) (a : Addr) (f : PD), as[i]? = some a -> fs[i]? = some f -> DD H a f
theorem DDs.on {H H' : Hp} {as : List Addr} {fs : List PD} (h : DDs H as fs) (s : Same H H') : DDs H' as fs := ⟨h.len, fun i a f e1 e2 => (h.get i a f e1 e2).same s⟩
theorem DDs.app {H : Hp} {as bs : List Addr} {fs gs : List PD} (h : DDs H as fs) (k : DDs H bs gs) : DDs H (as ++ bs) (fs ++ gs) := by
 refine ⟨by simp [h.len, k.len], fun i a f e1 e2 => ?_⟩
 by_cases hi : i < as.length
 ·rw [List.getElem?_append_left hi] at e1
  rw [List.getElem?_append_left (by rw [← h.len]; exact hi)] at e2
  exact h.get i a f e1 e2
 ·rw [List.getElem?_append_right (by omega)] at e1
  rw [List.getElem?_append_right (by have := h.len; omega), ← h.len] at e2
  exact k.get _ a f e1 e2
structure PdsOk (B : Nat) (ds : List Nat) (fs : List PD) : Prop where
 len : ds.length = fs.length
 get : ∀ (i d : Nat) (f : PD), ds[i]? = some d -> fs[i]? = some f -> PdOk d B f
theorem dd_upL {H : Hp} {a D : Addr} {f : PD} {xs ys : List V} (h : DD H a f) (e : H D = some (.lst xs)) : DD (L2.upd H D (.lst ys)) a f := by
 rcases h with z | ⟨o, z⟩
 ·exact .inl (by rw [upd_ne (ne_of z e (fun w => nomatch w))]; exact z)
 ·exact .inr ⟨o, by rw [upd_ne (ne_of z e (fun w => nomatch w))]; exact z⟩
theorem DDs.upL {H : Hp} {D : Addr} {as : List Addr} {fs : List PD} {xs ys : List V} (h : DDs H as fs) (e : H D = some (.lst xs)) : DDs (L2.upd H D (.lst ys)) as fs := ⟨h.len, fun i a f e1 e2 => dd_upL (h.get i a f e1 e2) e⟩
theorem one_disp {H : Hp} {p p1 : Addr} {v : Int} (e0 : H p = some (.dT [])) : L2.upd H p (.dT (putAs [(kz (0, 0), p1, V.int v)] [])) p = some (.dT (dz [((0, 0), v)])) := by
 rw [upd_same]
 have e := putK_dz [] (0, 0) v
 show some (HO.dT (putK (dz []) (kz (0, 0)) (V.int v))) = _
 rw [e]; simp [ptD]
def spPdP (K : PySem.W.Frag) : Sp := fun vs H Q _ => ∃ (A : Addr) (as : List Addr) (fs : List PD) (ds : List Nat) (B : Nat), vs = [.ref A] ∧ SqL K H A (as.map V.ref) ∧ DDs H as fs ∧ PdsOk B ds fs ∧ ds.sum <= 60 ∧ fs.length <= 40 ∧ B <= 20000 ∧ newD H Q (pdD fs)
theorem ok_pair_product {P : Program} {w : World} {K : PySem.W.Frag} {mg : Str -> Option Value} {base : Heap} (T : Tx K mg) : FnOk P w K mg base CX0 3 T.a_pair_product T.fd_pair_product ["pairs"] (spPdP K) := by
 refine T.F_pair_product.ok sc_pair_product (fun vs H Q E h => ?_) (fun cdv A outer s H vs Q E hr h => ?_)
 ·obtain ⟨A, as, fs, ds, B, rfl, _⟩ := h
  rfl
 obtain ⟨A, as, fs, ds, B, rfl, hA, hD, hO, hs, l40, lB, q⟩ := h
 refine ⟨_, ((pss_cons (ps_set (i := 1) sc_pair_product.nd rfl (Or.inl rfl) (by exact pe_dispT (u_le0 hr.units) (pps_cons (pe_tup (pa_cons pe_int (pa_cons pe_int pa_nil))) pe_int pps_nil) rfl rfl (fun z => nomatch z) (by decide)))
  (pss_cons (ps_for PassesOwn.never rfl (pi_list (pv 0)) (pg_name (i := 2) sc_pair_product.nd rfl (Or.inl rfl)) (pss_one (ps_set (i := 1) sc_pair_product.nd rfl (Or.inl rfl) (pe_call (FnOk.mono (ok_pair_times T) (by decide)) hr rfl T.m_pair_times T.F_pair_times.kp T.b_pair_times .nil pass0 (pa_cons (pv 1) (pa_cons (pv 2) pa_nil))))))
  (pss_one (ps_ret (pv 1)))))), ?_⟩
 dsimp only [a_seq]
 k_typeOf
 refine fun p np => ⟨by decide, fun p1 n1 => ?_⟩
 have u0 := same_upd np (.dT [])
 have u1 := same_upd n1 (.tup [V.int 0, V.int 0])
 have e0 := u1 _ _ (upd_same (H := H) (a := p) (o := .dT []))
 have e1 := upd_same (H := L2.upd H p (.dT [])) (a := p1) (o := .tup [V.int 0, V.int 0])
 refine ⟨e0, [(kz (0, 0), p1, V.int 1)], rfl, fun k hk => by rw [List.mem_singleton.mp hk]; exact e1, by simp, ?_⟩
 have ed := one_disp (p1 := p1) (v := 1) e0
 have s1 : Same H (L2.upd (L2.upd (L2.upd H p (.dT [])) p1 (.tup [V.int 0, V.int 0])) p (.dT (putAs [(kz (0, 0), p1, V.int 1)] []))) := (u0.trans u1).more np
 generalize L2.upd (L2.upd (L2.upd H p (.dT [])) p1 (.tup [V.int 0, V.int 0])) p (.dT (putAs [(kz (0, 0), p1, V.int 1)] [])) = G at ed s1 ⊢
 dsimp only [a_seq]
 k_typeOf
 obtain ⟨Pv, hPv⟩ : ∃ Pv : Nat -> L2.St -> Hp -> Prop, ∀ i σ H', Pv i σ H' ↔ ∃ (a : Addr) (r : Option V), σ = [some (V.ref A), some (V.ref a), r] ∧ H' a = some (.dT (dz (pdD (fs.take i)))) ∧ H a = none ∧ PdOk (ds.take i).sum ((B + 24) * i) (pdD (fs.take i)) ∧ Same H H' := ⟨_, fun _ _ _ => Iff.rfl⟩
 refine ⟨⟨_, s1.seq hA⟩, lp_list (xs := as.map V.ref) Pv ((hPv _ _ _).mpr ⟨p, none, rfl, ed, np, by rw [List.take_zero, List.take_zero, Nat.mul_zero]; exact pd_one, s1⟩) (fun i σ H' _ z => by obtain ⟨_, _, _, _, _, _, z⟩ := (hPv i σ H').mp z; exact z.seq hA) ?_ ?_⟩
 ·intro i v σ H' hv hp
  obtain ⟨a, r, rfl, ea, na, ok, sx⟩ := (hPv _ _ _).mp hp
  rw [List.getElem?_map] at hv
  obtain ⟨b, hb, rfl⟩ := Option.map_eq_some_iff.mp hv
  have hi := (List.getElem?_eq_some_iff.mp hb).1
  have hi2 : i < fs.length := by have := hD.len; omega
  have hi3 : i < ds.length := by have := hO.len; omega
  have o2 := hO.get i _ _ (List.getElem?_eq_getElem hi3) (List.getElem?_eq_getElem hi2)
  have hb2 := (hD.get i b _ hb (List.getElem?_eq_getElem hi2)).same sx
  have es : (ds.take (i + 1)).sum = (ds.take i).sum + ds[i] := by rw [← List.take_append_getElem hi3, List.sum_append, List.sum_cons, List.sum_nil]; omega
  have le : (ds.take (i + 1)).sum <= ds.sum := by
   have := congrArg List.sum (List.take_append_drop (i + 1) ds)
   rw [List.sum_append] at this; omega
  have mB : (B + 24) * i <= 20024 * 40 := Nat.mul_le_mul (by omega) (by omega)
  k_units
  refine ⟨a, b, _, _, _, _, _, _, rfl, .inl ea, hb2, ok, o2, by omega, by omega, by omega, fun q' H2 s2 n2 e2 => (hPv _ _ _).mpr ⟨q', _, rfl, ?_, sx.free n2, ?_, sx.trans s2⟩⟩
  ·rw [e2, ← List.take_append_getElem hi2, pdD_snoc]
  ·rw [es, ← List.take_append_getElem hi2, pdD_snoc, Nat.mul_add, Nat.mul_one]
   exact (pd_times ok o2 (by omega)).mono (Nat.le_refl _) (by omega)
 intro σ H' hp
 obtain ⟨a, r, rfl, ea, na, ok, sx⟩ := (hPv _ _ _).mp hp
 rw [List.length_map, hD.len, List.take_of_length_le (Nat.le_refl _)] at ea
 k_units
 exact q a H' sx na ea
def newDs (H : Hp) (Q : VK) (fs : List PD) : Prop := ∀ (L : Addr) (as : List Addr) (H' : Hp), Same H H' -> H L = none -> H' L = some (.lst (as.map V.ref)) -> DDs H' as fs -> Q (.ref L) H'
def spRfr (K : PySem.W.Frag) : Sp := fun vs H Q _ => ∃ (p : Addr) (f : Int × Int × Int) (lo hi : Int), vs = [.ref p, .int lo, .int hi] ∧ SqT K H p [.int f.1, .int f.2.1, .int f.2.2] ∧ -100 <= lo ∧ lo <= 100 ∧ -100 <= hi ∧ hi <= 100 ∧ newDs H Q (rfL f lo (hi + 1 - lo).toNat)
theorem ok_raised_from {P : Program} {w : World} {K : PySem.W.Frag} {mg : Str -> Option Value} {base : Heap} (T : Tx K mg) : FnOk P w K mg base CX0 3 T.a_raised_from T.fd_raised_from ["form", "low", "high"] (spRfr K) := by
 refine T.F_raised_from.ok sc_raised_from (fun vs H Q E h => ?_) (fun cdv A outer s H vs Q E hr h => ?_)
 ·obtain ⟨p, f, lo, hi, rfl, _⟩ := h
  rfl
 obtain ⟨p, f, lo, hi, rfl, hp, l1, l2, h1, h2, q⟩ := h
 refine ⟨_, ((pss_one (ps_ret (pe_lcomp rfl (blkok rfl (sub_cons rfl sub_nil) (fv_cons 0 "form" (by decide) rfl (Or.inl rfl) (Or.inl rfl) ⟨_, rfl⟩ fv_nil)) (pi_range2 rfl T.z_range (pa_cons (pv 1) (pa_cons (pe_op op_add (pv 2) pe_int) pa_nil))) (fun _ _ _ _ => (pe_call (FnOk.mono (ok_pair_of_form T) (by decide)) hr rfl T.m_pair_of_form T.F_pair_of_form.kp T.b_pair_of_form .nil pass0 (pa_cons (pe_call (FnOk.mono (ok_raised T) (by decide)) hr rfl T.m_raised T.F_raised.kp T.b_raised .nil pass0 (pa_cons (pv 1) (pa_cons (pv 0) pa_nil))) pa_nil))))))), ?_⟩
 k_units
 refine ⟨by omega, by omega, by omega, by omega, fun D nD => ?_⟩
 have lm : (hi + 1 - lo).toNat <= 201 := by omega
 generalize (hi + 1 - lo).toNat = m at q lm
 obtain ⟨Pc, hPc⟩ : ∃ Pc : Nat -> Hp -> Prop, ∀ j Hx, Pc j Hx ↔ ∃ as : List Addr, Hx D = some (.lst (as.map V.ref)) ∧ DDs Hx as (rfL f lo j) ∧ Same H Hx := ⟨_, fun _ _ => Iff.rfl⟩
 refine cl_range Pc ((hPc _ _).mpr ⟨[], upd_same, ⟨rfl, fun i a f e => by simp at e⟩, same_upd nD _⟩) ?_ ?_
 ·intro j Hx hj hc
  obtain ⟨as, k1, k2, k3⟩ := (hPc _ _).mp hc
  (iterate 3 (k_units; (try simp only [bst, Option.getD_some])); k_units)
  refine ⟨p, f.1, f.2.1, f.2.2, _, rfl, k3.seqT hp, fun r nr => ⟨r, f.1, f.2.1, f.2.2 + (lo + (j : Int)), rfl, SqT.of upd_same, fun a H2 s2 n2 e2 => ?_⟩⟩
  have u1 := (same_upd nr (.tup [V.int f.1, V.int f.2.1, V.int (f.2.2 + (lo + (j : Int)))])).trans s2
  have kl := k2.len
  rw [rfL_len] at kl
  refine ⟨_, u1 _ _ k1, by rw [List.length_map]; exact small1000 (by omega), (hPc _ _).mpr ⟨as ++ [a], by rw [upd_same, List.map_append]; rfl, ?_, (k3.trans u1).more nD⟩⟩
  rw [rfL_succ]
  refine ((k2.on u1).app ⟨rfl, fun i b g e1 e3 => ?_⟩).upL (u1 _ _ k1)
  cases i with
  | zero => cases Option.some.inj e1; cases Option.some.inj e3; exact .inl e2
  | succ i => simp at e1
 intro Hx hc
 obtain ⟨as, k1, k2, k3⟩ := (hPc _ _).mp hc
 exact q D as Hx k3 nD k1 k2
def spD1 : Sp := fun vs H Q _ => ∃ x : Addr, (∃ i far : Int, vs = [.ref x, .int i, .int far]) ∧ newD H Q onD
theorem ok_Part_step {P : Program} {w : World} {K : PySem.W.Frag} {mg : Str -> Option Value} {base : Heap} (T : Tx K mg) : FnOk P w K mg base CX0 1 T.a_Part_step T.fd_Part_step ["self", "i", "far"] spD1 := by
 refine T.F_Part_step.ok sc_Part_step (fun vs H Q E h => ?_) (fun cdv A outer s H vs Q E hr h => ?_)
 ·obtain ⟨x, ⟨i, far, rfl⟩, _⟩ := h
  rfl
 obtain ⟨x, ⟨i, far, rfl⟩, q⟩ := h
 refine ⟨_, ((pss_one (ps_ret (by exact pe_dispT (u_le0 hr.units) (pps_cons (pe_tup (pa_cons pe_int (pa_cons pe_int pa_nil))) pe_int pps_nil) rfl rfl (fun z => nomatch z) (by decide))))), ?_⟩
 k_units
 refine fun p np => ⟨by decide, fun p1 n1 => ?_⟩
 have u0 := same_upd np (.dT [])
 have u1 := same_upd n1 (.tup [V.int 0, V.int 0])
 have e0 := u1 _ _ (upd_same (H := H) (a := p) (o := .dT []))
 have e1 := upd_same (H := L2.upd H p (.dT [])) (a := p1) (o := .tup [V.int 0, V.int 0])
 exact ⟨e0, [(kz (0, 0), p1, V.int 1)], rfl, fun k hk => by rw [List.mem_singleton.mp hk]; exact e1, by simp, q p _ ((u0.trans u1).more np) np (one_disp (p1 := p1) (v := 1) e0)⟩
theorem ev_rf (f : Int × Int × Int) (lo n k : Int) : ∀ m : Nat, prI ((rfL f lo m).map fun g => evD g n k) = rise (atF f n k + lo - 1) m
 | 0 => rfl
 | m + 1 => by
  rw [rfL_succ, List.map_append, List.map_cons, List.map_nil, prI_snoc, ev_rf f lo n k m, ev_form]
  show _ = rise _ m * (atF f n k + lo - 1 + (m : Int) + 1)
  congr 1
  unfold atF; omega
def mx (x : Int) : Int := if 0 > x then 0 else x
theorem lift_at (far : Int) (f : Int × Int × Int) (n k : Int) : atF (liftF far f) n k = atF f n k + mx (far * f.1) := by
 show f.1 * n + f.2.1 * k + (f.2.2 + mx (far * f.1)) = f.1 * n + f.2.1 * k + f.2.2 + mx (far * f.1)
 omega
def cnt (lo hi : Int) : Nat := (hi + 1 - lo).toNat
def stL (h l : Int × Int × Int) (i far : Int) : List PD := rfL h 1 (cnt 1 (i * h.1)) ++ rfL l (i * l.1 + 1) (cnt (i * l.1 + 1) (mx (far * l.1))) ++ rfL (subF h l) (i * (subF h l).1 + 1) (cnt (i * (subF h l).1 + 1) (mx (far * (subF h l).1)))
def upL (h l : Int × Int × Int) (far : Int) : List PD := rfL h 1 (cnt 1 h.2.1) ++ rfL (liftF far l) (l.2.1 + 1) (cnt (l.2.1 + 1) 0) ++ rfL (liftF far (subF h l)) ((subF h l).2.1 + 1) (cnt ((subF h l).2.1 + 1) 0)
def dnL (h l : Int × Int × Int) (far : Int) : List PD := rfL (liftF far l) 1 (cnt 1 l.2.1) ++ rfL (liftF far (subF h l)) 1 (cnt 1 (subF h l).2.1)
def kD (v : Int) : PD := [((0, 0), v)]
def stD (p : Prt) (i far : Nat) : PD := match p with
 | .cho h l => pdD (stL h l i far)
 | .wei f => fmD f.1 f.2.1 (f.2.2 + (i : Int) * f.1)
 | .pow _ => onD
 | .gro f => kD (f.1 ^ i * f.2 ^ (far - i))
def upD (p : Prt) (far : Nat) : PD := match p with
 | .cho h l => pdD (upL h l far)
 | .wei _ => onD
 | .pow f => kD f.1
 | .gro _ => onD
def dnD (p : Prt) (far : Nat) : PD := match p with
 | .cho h l => pdD (dnL h l far)
 | .wei _ => onD
 | .pow f => kD f.2
 | .gro _ => onD
def dgF : Prt -> Nat
 | .cho _ _ => 12
 | .wei _ => 1
 | _ => 0
theorem pd_form {B : Nat} {a b c : Int} (ha : Bd B a) (hb : Bd B b) (hc : Bd B c) : PdOk 1 B (fmD a b c) := ⟨deg_form a b c, nd_form a b c, szn_form (Nat.le_of_lt ha) (Nat.le_of_lt hb) (Nat.le_of_lt hc)⟩
theorem pd_kD {B : Nat} {v : Int} (h : Bd B v) : PdOk 0 B (kD v) := ⟨fun x hx => by simp [kD] at hx; subst hx; dsimp only; omega, by unfold ndD kD; simp, fun x hx => by simp [kD] at hx; subst hx; exact Nat.le_of_lt h⟩
theorem ev_kD (v n k : Int) : evD (kD v) n k = v := by unfold evD kD; rw [wtD_cons, wtD_nil]; unfold mon; simp
theorem pd_list {B : Nat} : ∀ (m : Nat) (fs : List PD) (ds : List Nat), fs.length = m -> PdsOk B ds fs -> ds.sum <= 60 -> PdOk ds.sum ((B + 24) * fs.length) (pdD fs)
 | 0, fs, ds, hm, h, _ => by
  obtain rfl := List.eq_nil_of_length_eq_zero hm
  obtain rfl := List.eq_nil_of_length_eq_zero h.len
  exact pd_one
 | m + 1, fs, ds, hm, h, hs => by
  obtain ⟨gs, g, rfl⟩ : ∃ gs g, fs = gs ++ [g] := ⟨fs.dropLast, fs.getLast (fun z => by rw [z] at hm; simp at hm), (List.dropLast_concat_getLast _).symm⟩
  have hl := h.len
  obtain ⟨es, e, rfl⟩ : ∃ es e, ds = es ++ [e] := ⟨ds.dropLast, ds.getLast (fun z => by rw [z] at hl; simp at hl), (List.dropLast_concat_getLast _).symm⟩
  simp only [List.length_append, List.length_singleton] at hl hm
  have hes : es.length = gs.length := by omega
  rw [List.sum_append, List.sum_cons, List.sum_nil] at hs ⊢
  have i1 := pd_list m gs es (by omega) ⟨hes, fun i d f e1 e2 => h.get i d f (by rw [List.getElem?_append_left (List.getElem?_eq_some_iff.mp e1).1]; exact e1) (by rw [List.getElem?_append_left (List.getElem?_eq_some_iff.mp e2).1]; exact e2)⟩ (by omega)
  have i2 : PdOk e B g := h.get gs.length e g (by rw [← hes, List.getElem?_append_right (Nat.le_refl _), Nat.sub_self]; rfl) (by rw [List.getElem?_append_right (Nat.le_refl _), Nat.sub_self]; rfl)
  rw [pdD_snoc, List.length_append, List.length_singleton, Nat.mul_add, Nat.mul_one, Nat.add_zero]
  exact (pd_times i1 i2 (by omega)).mono (Nat.le_refl _) (by omega)
theorem sum_ones : ∀ m : Nat, (List.replicate m 1).sum = m
 | 0 => rfl
 | m + 1 => by rw [List.replicate_succ, List.sum_cons, sum_ones m]; omega
theorem pd_forms {B : Nat} {fs : List PD} (h : ∀ f ∈ fs, PdOk 1 B f) (l : fs.length <= 60) : PdsOk B (List.replicate fs.length 1) fs ∧ PdOk fs.length ((B + 24) * fs.length) (pdD fs) := by
 have h1 : PdsOk B (List.replicate fs.length 1) fs := ⟨List.length_replicate, fun i d f e1 e2 => by
  have : d = 1 := List.eq_of_mem_replicate (List.mem_of_getElem? e1)
  subst this
  exact h f (List.mem_of_getElem? e2)⟩
 have h2 := pd_list _ fs _ rfl h1 (by rw [sum_ones]; exact l)
 rw [sum_ones] at h2
 exact ⟨h1, h2⟩
theorem rf_ok {f : Int × Int × Int} {lo : Int} {m : Nat} (h1 : Bd 8 f.1) (h2 : Bd 8 f.2.1) (h3 : Bd 8 f.2.2) (hl : -50 <= lo) (hm : lo + m <= 50) : ∀ g ∈ rfL f lo m, PdOk 1 10 g := fun g hg => by
 unfold rfL at hg
 obtain ⟨j, hj, rfl⟩ := List.mem_map.mp hg
 have := List.mem_range.mp hj
 refine pd_form (h1.mono (by decide)) (h2.mono (by decide)) ?_
 have b : Bd 8 (lo + (j : Int)) := Bd.of_lt (m := 51) (by omega) (by decide)
 exact (h3.add b).mono (by decide)
theorem mx_ge (x : Int) : 0 <= mx x ∧ x <= mx x := by unfold mx; split <;> omega
structure Sml (h l : Int × Int × Int) (i far : Nat) : Prop where
 c : ChoOk h l
 i1 : i <= far
 f2 : far <= 2
theorem sml_b {h l : Int × Int × Int} {i far : Nat} (s : Sml h l i far) : (0 <= (i : Int) * h.1 ∧ (i : Int) * h.1 <= 6) ∧ ((i : Int) * l.1 <= mx ((far : Int) * l.1) ∧ -6 <= (i : Int) * l.1 ∧ (i : Int) * l.1 <= 6 ∧ mx ((far : Int) * l.1) <= 6) ∧ ((i : Int) * (subF h l).1 <= mx ((far : Int) * (subF h l).1) ∧ -12 <= (i : Int) * (subF h l).1 ∧ (i : Int) * (subF h l).1 <= 12 ∧ mx ((far : Int) * (subF h l).1) <= 12) ∧
  (i : Int) * h.1 + (mx ((far : Int) * l.1) - (i : Int) * l.1) + (mx ((far : Int) * (subF h l).1) - (i : Int) * (subF h l).1) <= 12 := by
 obtain ⟨⟨⟨a1, a2, _⟩, ⟨b1, b2, _⟩, _⟩, i1, f2⟩ := s
 have e : (subF h l).1 = h.1 - l.1 := rfl
 rw [e]
 generalize h.1 = x at *
 generalize l.1 = y at *
 unfold mx
 have hi : i = 0 ∨ i = 1 ∨ i = 2 := by omega
 have hf : far = 0 ∨ far = 1 ∨ far = 2 := by omega
 rcases hf with rfl | rfl | rfl <;> rcases hi with rfl | rfl | rfl <;> (try omega) <;> (refine ⟨⟨?_, ?_⟩, ⟨?_, ?_, ?_, ?_⟩, ⟨?_, ?_, ?_, ?_⟩, ?_⟩ <;> (try split) <;> (try split) <;> omega)
theorem bd8 {x : Int} (h1 : -100 <= x) (h2 : x <= 100) : Bd 8 x := Bd.of_lt (m := 101) (by omega) (by decide)
theorem cho_b {h l : Int × Int × Int} (c : ChoOk h l) : (Bd 8 h.1 ∧ Bd 8 h.2.1 ∧ Bd 8 h.2.2) ∧ (Bd 8 l.1 ∧ Bd 8 l.2.1 ∧ Bd 8 l.2.2) ∧ (Bd 8 (subF h l).1 ∧ Bd 8 (subF h l).2.1 ∧ Bd 8 (subF h l).2.2) := by
 obtain ⟨⟨a1, a2, a3, a4, a5, a6⟩, ⟨b1, b2, b3, b4, b5, b6⟩, _⟩ := c
 refine ⟨⟨bd8 (by omega) (by omega), bd8 (by omega) (by omega), bd8 (by omega) (by omega)⟩, ⟨bd8 (by omega) (by omega), bd8 (by omega) (by omega), bd8 (by omega) (by omega)⟩, bd8 ?_ ?_, bd8 ?_ ?_, bd8 ?_ ?_⟩
 ·show -100 <= h.1 - l.1; omega
 ·show h.1 - l.1 <= 100; omega
 ·show -100 <= h.2.1 - l.2.1; omega
 ·show h.2.1 - l.2.1 <= 100; omega
 ·show -100 <= h.2.2 - l.2.2; omega
 ·show h.2.2 - l.2.2 <= 100; omega
theorem stL_ok {h l : Int × Int × Int} {i far : Nat} (s : Sml h l i far) : (stL h l i far).length <= 12 ∧ ∀ f ∈ stL h l i far, PdOk 1 10 f := by
 obtain ⟨⟨p1, p2⟩, ⟨q1, q2, q3, q4⟩, ⟨r1, r2, r3, r4⟩, t⟩ := sml_b s
 obtain ⟨⟨c1, c2, c3⟩, ⟨c4, c5, c6⟩, ⟨c7, c8, c9⟩⟩ := cho_b s.c
 have m1 := (mx_ge ((far : Int) * l.1)).1
 have m2 := (mx_ge ((far : Int) * (subF h l).1)).1
 refine ⟨?_, fun f hf => ?_⟩
 ·unfold stL
  rw [List.length_append, List.length_append, rfL_len, rfL_len, rfL_len]
  unfold cnt; omega
 ·unfold stL at hf
  rcases List.mem_append.mp hf with hf | hf
  ·rcases List.mem_append.mp hf with hf | hf
   ·exact rf_ok c1 c2 c3 (by decide) (by unfold cnt; omega) f hf
   ·exact rf_ok c4 c5 c6 (by omega) (by unfold cnt; omega) f hf
  ·exact rf_ok c7 c8 c9 (by omega) (by unfold cnt; omega) f hf
theorem stL_ev {h l : Int × Int × Int} {i far : Nat} (s : Sml h l i far) (n k : Int) : evD (pdD (stL h l i far)) n k = rise (atF h n k) ((i : Int) * h.1).toNat * (rise (atF l n k + (i : Int) * l.1) (cnt ((i : Int) * l.1 + 1) (mx ((far : Int) * l.1))) * rise (atF (subF h l) n k + (i : Int) * (subF h l).1) (cnt ((i : Int) * (subF h l).1 + 1) (mx ((far : Int) * (subF h l).1)))) := by
 obtain ⟨_, ok⟩ := stL_ok s
 rw [(ev_pd n k _ (stL h l i far) 1 rfl fun f hf => (ok f hf).dg).1]
 unfold stL
 rw [List.map_append, List.map_append, prI_app, prI_app, ev_rf, ev_rf, ev_rf, Int.mul_assoc]
 congr 1
 ·congr 1
  ·omega
  ·unfold cnt; omega
 ·congr 1
  ·congr 1; omega
  ·congr 1; omega
theorem sum_at (f : Int × Int × Int) (n k i : Int) : atF f (n + i) k = atF f n k + i * f.1 := by
 show f.1 * (n + i) + f.2.1 * k + f.2.2 = f.1 * n + f.2.1 * k + f.2.2 + i * f.1
 rw [Int.mul_add, Int.mul_comm f.1 i]; omega
theorem at_next (f : Int × Int × Int) (n k : Int) : atF f n (k + 1) = atF f n k + f.2.1 := by
 show f.1 * n + f.2.1 * (k + 1) + f.2.2 = f.1 * n + f.2.1 * k + f.2.2 + f.2.1
 rw [Int.mul_add, Int.mul_one]; omega
theorem at_pos {h l : Int × Int × Int} (c : ChoOk h l) (n k : Nat) : 0 <= atF h n k := by
 obtain ⟨⟨a1, _, a3, _, a5, _⟩, _⟩ := c
 have := Int.mul_nonneg a1 (Int.natCast_nonneg n)
 have := Int.mul_nonneg a3 (Int.natCast_nonneg k)
 show 0 <= h.1 * (n : Int) + h.2.1 * (k : Int) + h.2.2
 omega
def FloOk (p : Prt) (far n k : Nat) (z : Int × Int) : Prop := Frc z ∧ Bd 20000 z.1 ∧ Bd 650 z.2 ∧ match p with
 | .cho h l => FlrOk (atF h n k).toNat (atF l n k + mx ((far : Int) * l.1)) (atF (subF h l) n k + mx ((far : Int) * (subF h l).1)) z
 | .wei _ => z = (1, 1)
 | .pow f => z = (f.1 ^ k, f.2 ^ k)
 | .gro f => z = (f.1 ^ n, f.2 ^ (n + far))
theorem stp_ok {p : Prt} {i far n k : Nat} {z : Int × Int} (ho : PrtOk p) (hi : i <= far) (hf : far <= 2) (hz : FloOk p far n k z) : (worF p (n + i) k).1 * z.2 = evD (stD p i far) n k * z.1 * (worF p (n + i) k).2 := by
 obtain ⟨_, _, _, hz⟩ := hz
 match p, ho, hz with
 | .cho h l, ho, hz =>
  have s : Sml h l i far := ⟨ho, hi, hf⟩
  obtain ⟨⟨p1, p2⟩, ⟨q1, q2, q3, q4⟩, ⟨r1, r2, r3, r4⟩, t⟩ := sml_b s
  have hp := at_pos ho n k
  have hs := at_sub h l n k
  have e1 : (subF h l).1 = h.1 - l.1 := rfl
  have e2 : (i : Int) * (subF h l).1 = (i : Int) * h.1 - (i : Int) * l.1 := by rw [e1, Int.mul_sub]
  have key := stp_cho (U := (atF h n k).toNat) (s := ((i : Int) * h.1).toNat) (p := cnt ((i : Int) * l.1 + 1) (mx ((far : Int) * l.1))) (q := cnt ((i : Int) * (subF h l).1 + 1) (mx ((far : Int) * (subF h l).1))) (a := atF l n k + (i : Int) * l.1) (b := atF (subF h l) n k + (i : Int) * (subF h l).1) (z := z) (by omega) (by
   have g1 : atF l n k + (i : Int) * l.1 + (cnt ((i : Int) * l.1 + 1) (mx ((far : Int) * l.1)) : Nat) = atF l n k + mx ((far : Int) * l.1) := by unfold cnt; omega
   have g2 : atF (subF h l) n k + (i : Int) * (subF h l).1 + (cnt ((i : Int) * (subF h l).1 + 1) (mx ((far : Int) * (subF h l).1)) : Nat) = atF (subF h l) n k + mx ((far : Int) * (subF h l).1) := by unfold cnt; omega
   rw [g1, g2]; exact hz)
  show waysF (atF l ((n + i : Nat) : Int) k) (atF (subF h l) ((n + i : Nat) : Int) k) * z.2 = evD (pdD (stL h l i far)) n k * z.1 * 1
  rw [stL_ev s, Int.mul_one, Int.natCast_add, sum_at, sum_at]
  rw [show (((atF h n k).toNat : Nat) : Int) = atF h n k by omega] at key
  exact key
 | .wei f, ho, hz =>
  have hz' : z = (1, 1) := hz
  subst hz'
  show atF f ((n + i : Nat) : Int) k * 1 = evD (fmD f.1 f.2.1 (f.2.2 + (i : Int) * f.1)) n k * 1 * 1
  rw [ev_form, Int.natCast_add, sum_at]
  unfold atF; omega
 | .pow f, ho, hz =>
  have hz' : z = (f.1 ^ k, f.2 ^ k) := hz
  subst hz'
  show f.1 ^ k * f.2 ^ k = evD onD n k * f.1 ^ k * f.2 ^ k
  rw [ev_one, Int.one_mul]
 | .gro f, ho, hz =>
  have hz' : z = (f.1 ^ n, f.2 ^ (n + far)) := hz
  subst hz'
  show f.1 ^ (n + i) * f.2 ^ (n + far) = evD (kD (f.1 ^ i * f.2 ^ (far - i))) n k * f.1 ^ n * f.2 ^ (n + i)
  rw [ev_kD, show n + far = n + i + (far - i) by omega, Int.pow_add, Int.pow_add f.2 (n + i)]
  generalize f.2 ^ (n + i) = a
  generalize f.2 ^ (far - i) = b
  generalize f.1 ^ n = c
  generalize f.1 ^ i = d
  grind
theorem upL_ok {h l : Int × Int × Int} {far : Nat} (c : ChoOk h l) (f2 : far <= 2) : (upL h l far).length <= 12 ∧ (∀ f ∈ upL h l far, PdOk 1 10 f) ∧ (dnL h l far).length <= 12 ∧ ∀ f ∈ dnL h l far, PdOk 1 10 f := by
 obtain ⟨_, ⟨q1, q2, q3, q4⟩, ⟨r1, r2, r3, r4⟩, t⟩ := sml_b (i := 0) ⟨c, Nat.zero_le far, f2⟩
 obtain ⟨⟨a1, a2, a3, a4, a5, a6⟩, ⟨b1, b2, b3, b4, b5, b6⟩, _⟩ := id c
 obtain ⟨⟨c1, c2, c3⟩, ⟨c4, c5, c6⟩, ⟨c7, c8, c9⟩⟩ := cho_b c
 have m1 := (mx_ge ((far : Int) * l.1)).1
 have m2 := (mx_ge ((far : Int) * (subF h l).1)).1
 have e1 : (subF h l).2.1 = h.2.1 - l.2.1 := rfl
 have e2 : (subF h l).2.2 = h.2.2 - l.2.2 := rfl
 have k1 : Bd 8 (liftF far l).2.2 := bd8 (by show -100 <= l.2.2 + mx _; omega) (by show l.2.2 + mx _ <= 100; omega)
 have k2 : Bd 8 (liftF far (subF h l)).2.2 := bd8 (by show -100 <= (subF h l).2.2 + mx _; omega) (by show (subF h l).2.2 + mx _ <= 100; omega)
 refine ⟨?_, fun f hf => ?_, ?_, fun f hf => ?_⟩
 ·unfold upL
  rw [List.length_append, List.length_append, rfL_len, rfL_len, rfL_len]
  unfold cnt; omega
 ·unfold upL at hf
  rcases List.mem_append.mp hf with hf | hf
  ·rcases List.mem_append.mp hf with hf | hf
   ·exact rf_ok c1 c2 c3 (by decide) (by unfold cnt; omega) f hf
   ·exact rf_ok (f := liftF far l) c4 c5 k1 (by omega) (by unfold cnt; omega) f hf
  ·exact rf_ok (f := liftF far (subF h l)) c7 c8 k2 (by omega) (by unfold cnt; omega) f hf
 ·unfold dnL
  rw [List.length_append, rfL_len, rfL_len]
  unfold cnt; omega
 ·unfold dnL at hf
  rcases List.mem_append.mp hf with hf | hf
  ·exact rf_ok (f := liftF far l) c4 c5 k1 (by decide) (by unfold cnt; omega) f hf
  ·exact rf_ok (f := liftF far (subF h l)) c7 c8 k2 (by decide) (by unfold cnt; omega) f hf
theorem ud_ok {p : Prt} {far n k : Nat} {z z' : Int × Int} (ho : PrtOk p) (hf : far <= 2) (hz : FloOk p far n k z) (hz' : FloOk p far n (k + 1) z') : evD (upD p far) n k * z.1 * z'.2 = evD (dnD p far) n k * z'.1 * z.2 := by
 obtain ⟨_, _, _, hz⟩ := hz
 obtain ⟨_, _, _, hz'⟩ := hz'
 match p, ho, hz, hz' with
 | .cho h l, ho, hz, hz' =>
  obtain ⟨u1, u2, d1, d2⟩ := upL_ok (far := far) ho hf
  obtain ⟨⟨a1, a2, a3, a4, a5, a6⟩, _⟩ := id ho
  have hp := at_pos ho n k
  have e1 : evD (pdD (upL h l far)) n k = rise (atF h n k) h.2.1.toNat * (upl (atF l n k + mx ((far : Int) * l.1)) l.2.1 * upl (atF (subF h l) n k + mx ((far : Int) * (subF h l).1)) (subF h l).2.1) := by
   rw [(ev_pd n k _ (upL h l far) 1 rfl fun f hf => (u2 f hf).dg).1]
   unfold upL
   rw [List.map_append, List.map_append, prI_app, prI_app, ev_rf, ev_rf, ev_rf, Int.mul_assoc, lift_at, lift_at]
   unfold upl cnt
   congr 1
   ·congr 1 <;> omega
   ·congr 1 <;> congr 1 <;> omega
  have e2 : evD (pdD (dnL h l far)) n k = dnl (atF l n k + mx ((far : Int) * l.1)) l.2.1 * dnl (atF (subF h l) n k + mx ((far : Int) * (subF h l).1)) (subF h l).2.1 := by
   rw [(ev_pd n k _ (dnL h l far) 1 rfl fun f hf => (d2 f hf).dg).1]
   unfold dnL
   rw [List.map_append, prI_app, ev_rf, ev_rf, lift_at, lift_at]
   unfold dnl cnt
   congr 1 <;> congr 1 <;> omega
  show evD (pdD (upL h l far)) n k * z.1 * z'.2 = evD (pdD (dnL h l far)) n k * z'.1 * z.2
  rw [e1, e2]
  have key := ud_cho (U := (atF h n k).toNat) (s := h.2.1.toNat) (l := l.2.1) (g := (subF h l).2.1) (z' := z') hz (by
   have g0 : (atF h n (k + 1 : Nat)).toNat = (atF h n k).toNat + h.2.1.toNat := by rw [Int.natCast_add]; show (atF h n ((k : Int) + 1)).toNat = _; rw [at_next]; omega
   have hz2 : FlrOk (atF h n (k + 1 : Nat)).toNat (atF l n (k + 1 : Nat) + mx ((far : Int) * l.1)) (atF (subF h l) n (k + 1 : Nat) + mx ((far : Int) * (subF h l).1)) z' := hz'
   rw [g0, Int.natCast_add] at hz2
   have g1 := at_next l n k
   have g2 := at_next (subF h l) n k
   rw [show atF l n ((k : Int) + ((1 : Nat) : Int)) = atF l n k + l.2.1 from g1, show atF (subF h l) n ((k : Int) + ((1 : Nat) : Int)) = atF (subF h l) n k + (subF h l).2.1 from g2] at hz2
   rw [show atF l n k + mx ((far : Int) * l.1) + l.2.1 = atF l n k + l.2.1 + mx ((far : Int) * l.1) by omega, show atF (subF h l) n k + mx ((far : Int) * (subF h l).1) + (subF h l).2.1 = atF (subF h l) n k + (subF h l).2.1 + mx ((far : Int) * (subF h l).1) by omega]
   exact hz2)
  rw [show (((atF h n k).toNat : Nat) : Int) = atF h n k by omega] at key
  exact key
 | .wei f, ho, hz, hz' =>
  have h1 : z = (1, 1) := hz
  have h2 : z' = (1, 1) := hz'
  subst h1 h2; rfl
 | .pow f, ho, hz, hz' =>
  have h1 : z = (f.1 ^ k, f.2 ^ k) := hz
  have h2 : z' = (f.1 ^ (k + 1), f.2 ^ (k + 1)) := hz'
  subst h1 h2
  show evD (kD f.1) n k * f.1 ^ k * f.2 ^ (k + 1) = evD (kD f.2) n k * f.1 ^ (k + 1) * f.2 ^ k
  rw [ev_kD, ev_kD, Int.pow_succ, Int.pow_succ]
  generalize f.1 ^ k = a
  generalize f.2 ^ k = b
  grind
 | .gro f, ho, hz, hz' =>
  have h1 : z = (f.1 ^ n, f.2 ^ (n + far)) := hz
  have h2 : z' = (f.1 ^ n, f.2 ^ (n + far)) := hz'
  subst h1 h2; rfl
def spU1 : Sp := fun vs H Q _ => ∃ (x : Addr) (far : Int), vs = [.ref x, .int far] ∧ newD H Q onD
theorem mk_one {H : Hp} {Q : VK} {v : Int} (q : newD H Q (kD v)) (p : Addr) (np : H p = none) (p1 : Addr) (n1 : L2.upd H p (.dT []) p1 = none) :
  L2.upd (L2.upd H p (.dT [])) p1 (.tup [V.int 0, V.int 0]) p = some (.dT []) ∧ ∃ ks : List (List Key × Addr × V), [(V.ref p1, V.int v)] = ks.map (fun x => (V.ref x.2.1, x.2.2)) ∧ (∀ x ∈ ks, L2.upd (L2.upd H p (.dT [])) p1 (.tup [V.int 0, V.int 0]) x.2.1 = some (.tup (x.1.map kV))) ∧ ks.length <= 15 ∧
   Q (V.ref p) (L2.upd (L2.upd (L2.upd H p (.dT [])) p1 (.tup [V.int 0, V.int 0])) p (.dT (putAs ks []))) := by
 have u0 := same_upd np (.dT [])
 have u1 := same_upd n1 (.tup [V.int 0, V.int 0])
 have e0 := u1 _ _ (upd_same (H := H) (a := p) (o := .dT []))
 have e1 := upd_same (H := L2.upd H p (.dT [])) (a := p1) (o := .tup [V.int 0, V.int 0])
 exact ⟨e0, [(kz (0, 0), p1, V.int v)], rfl, fun k hk => by rw [List.mem_singleton.mp hk]; exact e1, by simp, q p _ ((u0.trans u1).more np) np (one_disp (p1 := p1) (v := v) e0)⟩
theorem ok_Part_up {P : Program} {w : World} {K : PySem.W.Frag} {mg : Str -> Option Value} {base : Heap} (T : Tx K mg) : FnOk P w K mg base CX0 1 T.a_Part_up T.fd_Part_up ["self", "far"] spU1 := by
 refine T.F_Part_up.ok sc_Part_up (fun vs H Q E h => ?_) (fun cdv A outer s H vs Q E hr h => ?_)
 ·obtain ⟨x, far, rfl, _⟩ := h
  rfl
 obtain ⟨x, far, rfl, q⟩ := h
 refine ⟨_, ((pss_one (ps_ret (by exact pe_dispT (u_le0 hr.units) (pps_cons (pe_tup (pa_cons pe_int (pa_cons pe_int pa_nil))) pe_int pps_nil) rfl rfl (fun z => nomatch z) (by decide))))), ?_⟩
 k_units
 exact fun p np => ⟨by decide, fun p1 n1 => mk_one (v := 1) q p np p1 n1⟩
theorem ok_Part_down {P : Program} {w : World} {K : PySem.W.Frag} {mg : Str -> Option Value} {base : Heap} (T : Tx K mg) : FnOk P w K mg base CX0 1 T.a_Part_down T.fd_Part_down ["self", "far"] spU1 := by
 refine T.F_Part_down.ok sc_Part_down (fun vs H Q E h => ?_) (fun cdv A outer s H vs Q E hr h => ?_)
 ·obtain ⟨x, far, rfl, _⟩ := h
  rfl
 obtain ⟨x, far, rfl, q⟩ := h
 refine ⟨_, ((pss_one (ps_ret (by exact pe_dispT (u_le0 hr.units) (pps_cons (pe_tup (pa_cons pe_int (pa_cons pe_int pa_nil))) pe_int pps_nil) rfl rfl (fun z => nomatch z) (by decide))))), ?_⟩
 k_units
 exact fun p np => ⟨by decide, fun p1 n1 => mk_one (v := 1) q p np p1 n1⟩
def spFl1 : Sp := fun vs H Q _ => ∃ (x : Addr) (n k far : Int), vs = [.ref x, .int n, .int k, .int far] ∧ mkT H Q 1 1
theorem ok_Part_floor {P : Program} {w : World} {K : PySem.W.Frag} {mg : Str -> Option Value} {base : Heap} (T : Tx K mg) : FnOk P w K mg base CX0 1 T.a_Part_floor T.fd_Part_floor ["self", "n", "k", "far"] spFl1 := by
 refine T.F_Part_floor.ok sc_Part_floor (fun vs H Q E h => ?_) (fun cdv A outer s H vs Q E hr h => ?_)
 ·obtain ⟨x, n, k, far, rfl, _⟩ := h
  rfl
 obtain ⟨x, n, k, far, rfl, q⟩ := h
 refine ⟨_, ((pss_one (ps_ret (pe_tup (pa_cons pe_int (pa_cons pe_int pa_nil)))))), ?_⟩
 k_units
 exact ⟨by decide, q⟩
def spWStep (K : PySem.W.Frag) (C : Addr) : Sp := fun vs H Q _ => ∃ (x dx p : Addr) (f : Int × Int × Int) (i : Nat) (far : Int), vs = [.ref x, .int (i : Int), .int far] ∧ H x = some (.ins C dx (wgtF p)) ∧ SqT K H p [.int f.1, .int f.2.1, .int f.2.2] ∧ Bd 400 f.1 ∧ i <= 2 ∧ newD H Q (fmD f.1 f.2.1 (f.2.2 + (i : Int) * f.1))
theorem ok_Weight_step {P : Program} {w : World} {K : PySem.W.Frag} {mg : Str -> Option Value} {base : Heap} (T : Tx K mg) : FnOk P w K mg base CX0 3 T.a_Weight_step T.fd_Weight_step ["self", "i", "far"] (spWStep K T.c_Weight) := by
 refine T.F_Weight_step.ok sc_Weight_step (fun vs H Q E h => ?_) (fun cdv A outer s H vs Q E hr h => ?_)
 ·obtain ⟨x, dx, p, f, i, far, rfl, _⟩ := h
  rfl
 obtain ⟨x, dx, p, f, i, far, rfl, hx, hp, bf, i2, q⟩ := h
 refine ⟨_, ((pss_one (ps_ret (pe_call (FnOk.mono (ok_pair_of_form T) (by decide)) hr rfl T.m_pair_of_form T.F_pair_of_form.kp T.b_pair_of_form .nil pass0 (pa_cons (pe_call (FnOk.mono (ok_raised T) (by decide)) hr rfl T.m_raised T.F_raised.kp T.b_raised .nil pass0 (pa_cons (pe_fld (pv 0) rfl) (pa_cons (pe_op op_mulZ (pv 1) (pe_ix ix_tup (pe_fld (pv 0) rfl) pe_int (fun _ _ => rfl))) pa_nil))) pa_nil))))), ?_⟩
 k_units
 exact ⟨T.c_Weight, dx, _, hx, T.cl_Weight, T.na_Weight_form, _, rfl, T.c_Weight, dx, _, hx, T.cl_Weight, T.na_Weight_form, _, rfl, p, rfl, _, hp, _, rfl, _, rfl, (Bd.of_lt (m := 3) (k := 2) (x := (i : Int)) (by omega) (by decide)).fits bf (by decide), p, f.1, f.2.1, f.2.2, _, rfl, hp, fun r nr => ⟨r, f.1, f.2.1, f.2.2 + (i : Int) * f.1, rfl, SqT.of upd_same, fun a H2 s2 n2 e2 => q a H2 ((same_upd nr _).trans s2) ((same_upd nr _).free n2) e2⟩⟩
def spPUp (K : PySem.W.Frag) (C : Addr) (up : Bool) : Sp := fun vs H Q _ => ∃ (x dx p : Addr) (f : Int × Int) (far : Int), vs = [.ref x, .int far] ∧ H x = some (.ins C dx (powF p)) ∧ SqT K H p [.int f.1, .int f.2] ∧ newD H Q (kD (if up then f.1 else f.2))
theorem ok_Power_up {P : Program} {w : World} {K : PySem.W.Frag} {mg : Str -> Option Value} {base : Heap} (T : Tx K mg) : FnOk P w K mg base CX0 1 T.a_Power_up T.fd_Power_up ["self", "far"] (spPUp K T.c_Power true) := by
 refine T.F_Power_up.ok sc_Power_up (fun vs H Q E h => ?_) (fun cdv A outer s H vs Q E hr h => ?_)
 ·obtain ⟨x, dx, p, f, far, rfl, _⟩ := h
  rfl
 obtain ⟨x, dx, p, f, far, rfl, hx, hp, q⟩ := h
 refine ⟨_, ((pss_one (ps_ret (by exact pe_dispT (u_le0 hr.units) (pps_cons (pe_tup (pa_cons pe_int (pa_cons pe_int pa_nil))) (pe_ix ix_tup (pe_fld (pv 0) rfl) pe_int (fun _ _ => rfl)) pps_nil) rfl rfl (fun z => nomatch z) (by decide))))), ?_⟩
 k_units
 refine fun p' np => ⟨by decide, fun p1 n1 => ?_⟩
 have u := (same_upd np (.dT [])).trans (same_upd n1 (.tup [V.int 0, V.int 0]))
 exact ⟨T.c_Power, dx, _, u _ _ hx, T.cl_Power, T.na_Power_fraction, _, rfl, p, rfl, _, u.seqT hp, _, rfl, mk_one q p' np p1 n1⟩
theorem ok_Power_down {P : Program} {w : World} {K : PySem.W.Frag} {mg : Str -> Option Value} {base : Heap} (T : Tx K mg) : FnOk P w K mg base CX0 1 T.a_Power_down T.fd_Power_down ["self", "far"] (spPUp K T.c_Power false) := by
 refine T.F_Power_down.ok sc_Power_down (fun vs H Q E h => ?_) (fun cdv A outer s H vs Q E hr h => ?_)
 ·obtain ⟨x, dx, p, f, far, rfl, _⟩ := h
  rfl
 obtain ⟨x, dx, p, f, far, rfl, hx, hp, q⟩ := h
 refine ⟨_, ((pss_one (ps_ret (by exact pe_dispT (u_le0 hr.units) (pps_cons (pe_tup (pa_cons pe_int (pa_cons pe_int pa_nil))) (pe_ix ix_tup (pe_fld (pv 0) rfl) pe_int (fun _ _ => rfl)) pps_nil) rfl rfl (fun z => nomatch z) (by decide))))), ?_⟩
 k_units
 refine fun p' np => ⟨by decide, fun p1 n1 => ?_⟩
 have u := (same_upd np (.dT [])).trans (same_upd n1 (.tup [V.int 0, V.int 0]))
 exact ⟨T.c_Power, dx, _, u _ _ hx, T.cl_Power, T.na_Power_fraction, _, rfl, p, rfl, _, u.seqT hp, _, rfl, mk_one q p' np p1 n1⟩
def spPFl (K : PySem.W.Frag) (C : Addr) : Sp := fun vs H Q E => ∃ (x dx p : Addr) (n k : Nat) (far : Int), vs = [.ref x, .int (n : Int), .int (k : Int), .int far] ∧ H x = some (.ins C dx (powF p)) ∧ spPWorth K C true [.ref x, .int (n : Int), .int (k : Int)] H Q E
theorem ok_Power_floor {P : Program} {w : World} {K : PySem.W.Frag} {mg : Str -> Option Value} {base : Heap} (T : Tx K mg) : FnOk P w K mg base CX0 3 T.a_Power_floor T.fd_Power_floor ["self", "n", "k", "far"] (spPFl K T.c_Power) := by
 refine T.F_Power_floor.ok sc_Power_floor (fun vs H Q E h => ?_) (fun cdv A outer s H vs Q E hr h => ?_)
 ·obtain ⟨x, dx, p, n, k, far, rfl, _⟩ := h
  rfl
 obtain ⟨x, dx, p, n, k, far, rfl, hx, z⟩ := h
 refine ⟨_, ((pss_one (ps_ret (pe_meth (pv 0) T.cl_Power T.me_Power_worth (FnOk.mono (ok_Power_worth T) (by decide)) hr T.b_Power_worth .nil pass0 (pa_cons (pv 1) (pa_cons (pv 2) pa_nil)))))), ?_⟩
 k_units
 exact ⟨dx, _, hx, rfl, z⟩
def spGStep (K : PySem.W.Frag) (C : Addr) : Sp := fun vs H Q _ => ∃ (x dx p : Addr) (f : Int × Int) (i far : Nat), vs = [.ref x, .int (i : Int), .int (far : Int)] ∧ H x = some (.ins C dx (powF p)) ∧ SqT K H p [.int f.1, .int f.2] ∧ Bd 100 f.1 ∧ Bd 100 f.2 ∧ i <= far ∧ far <= 2 ∧ newD H Q (kD (f.1 ^ i * f.2 ^ (far - i)))
theorem ok_Growth_step {P : Program} {w : World} {K : PySem.W.Frag} {mg : Str -> Option Value} {base : Heap} (T : Tx K mg) : FnOk P w K mg base CX0 2 T.a_Growth_step T.fd_Growth_step ["self", "i", "far"] (spGStep K T.c_Growth) := by
 refine T.F_Growth_step.ok sc_Growth_step (fun vs H Q E h => ?_) (fun cdv A outer s H vs Q E hr h => ?_)
 ·obtain ⟨x, dx, p, f, i, far, rfl, _⟩ := h
  rfl
 obtain ⟨x, dx, p, f, i, far, rfl, hx, hp, b1, b2, hi, hf, q⟩ := h
 refine ⟨_, ((pss_one (ps_ret (by exact pe_dispT (u_le0 hr.units) (pps_cons (pe_tup (pa_cons pe_int (pa_cons pe_int pa_nil))) (pe_op op_mulZ (pe_call (FnOk.mono (ok_power_of T) (by decide)) hr rfl T.m_power_of T.F_power_of.kp T.b_power_of .nil pass0 (pa_cons (pe_ix ix_tup (pe_fld (pv 0) rfl) pe_int (fun _ _ => rfl)) (pa_cons (pv 1) pa_nil))) (pe_call (FnOk.mono (ok_power_of T) (by decide)) hr rfl T.m_power_of T.F_power_of.kp T.b_power_of .nil pass0 (pa_cons (pe_ix ix_tup (pe_fld (pv 0) rfl) pe_int (fun _ _ => rfl)) (pa_cons (pe_op op_sub (pv 2) (pv 1)) pa_nil)))) pps_nil) rfl rfl (fun z => nomatch z) (by decide))))), ?_⟩
 k_units
 refine fun p' np => ⟨by decide, fun p1 n1 => ?_⟩
 have u := (same_upd np (.dT [])).trans (same_upd n1 (.tup [V.int 0, V.int 0]))
 exact ⟨T.c_Growth, dx, _, u _ _ hx, T.cl_Growth, T.na_Growth_fraction, _, rfl, p, rfl, _, u.seqT hp, _, rfl, f.1, i, rfl, b1, by omega, T.c_Growth, dx, _, u _ _ hx, T.cl_Growth, T.na_Growth_fraction, _, rfl, p, rfl, _, u.seqT hp, _, rfl, f.2, far - i, by rw [show (far : Int) - (i : Int) = ((far - i : Nat) : Int) by omega], b2, by omega, _, rfl, _, rfl, (bd_pw b1 i).fits (bd_pw b2 (far - i)) (by omega), mk_one q p' np p1 n1⟩
def spGFl (K : PySem.W.Frag) (C : Addr) : Sp := fun vs H Q _ => ∃ (x dx p : Addr) (f : Int × Int) (n far : Nat) (k : Int), vs = [.ref x, .int (n : Int), .int k, .int (far : Int)] ∧ H x = some (.ins C dx (powF p)) ∧ SqT K H p [.int f.1, .int f.2] ∧ Bd 100 f.1 ∧ Bd 100 f.2 ∧ n + far <= 500 ∧ mkT H Q (f.1 ^ n) (f.2 ^ (n + far))
theorem ok_Growth_floor {P : Program} {w : World} {K : PySem.W.Frag} {mg : Str -> Option Value} {base : Heap} (T : Tx K mg) : FnOk P w K mg base CX0 2 T.a_Growth_floor T.fd_Growth_floor ["self", "n", "k", "far"] (spGFl K T.c_Growth) := by
 refine T.F_Growth_floor.ok sc_Growth_floor (fun vs H Q E h => ?_) (fun cdv A outer s H vs Q E hr h => ?_)
 ·obtain ⟨x, dx, p, f, n, far, k, rfl, _⟩ := h
  rfl
 obtain ⟨x, dx, p, f, n, far, k, rfl, hx, hp, b1, b2, hn, q⟩ := h
 refine ⟨_, ((pss_one (ps_ret (pe_tup (pa_cons (pe_call (FnOk.mono (ok_power_of T) (by decide)) hr rfl T.m_power_of T.F_power_of.kp T.b_power_of .nil pass0 (pa_cons (pe_ix ix_tup (pe_fld (pv 0) rfl) pe_int (fun _ _ => rfl)) (pa_cons (pv 1) pa_nil))) (pa_cons (pe_call (FnOk.mono (ok_power_of T) (by decide)) hr rfl T.m_power_of T.F_power_of.kp T.b_power_of .nil pass0 (pa_cons (pe_ix ix_tup (pe_fld (pv 0) rfl) pe_int (fun _ _ => rfl)) (pa_cons (pe_op op_add (pv 1) (pv 3)) pa_nil))) pa_nil)))))), ?_⟩
 k_units
 exact ⟨T.c_Growth, dx, _, hx, T.cl_Growth, T.na_Growth_fraction, _, rfl, p, rfl, _, hp, _, rfl, f.1, n, rfl, b1, by omega, T.c_Growth, dx, _, hx, T.cl_Growth, T.na_Growth_fraction, _, rfl, p, rfl, _, hp, _, rfl, f.2, n + far, by rw [Int.natCast_add], b2, hn, by decide, q⟩
def facs (A B C : List PD) : Nat -> List PD
 | 0 => A
 | 1 => A ++ B
 | _ => A ++ B ++ C
theorem facs_len {A B C : List PD} (h1 : A.length <= 30) (h2 : B.length <= 30) (h3 : C.length <= 30) (j : Nat) : (facs A B C j).length <= 90 := by
 match j with
 | 0 => show A.length <= 90; omega
 | 1 => show (A ++ B).length <= 90; rw [List.length_append]; omega
 | j + 2 => show (A ++ B ++ C).length <= 90; rw [List.length_append, List.length_append]; omega
theorem fac_ext {H G H2 : Hp} {F N : Addr} {as bs : List Addr} {fs gs hs : List PD} {Pv : Hp -> Prop} (nF : H F = none) (s : Same H G) (eF : G F = some (.lst (as.map V.ref))) (d : DDs G as fs) (s2 : Same G H2) (e2 : H2 N = some (.lst (bs.map V.ref))) (d2 : DDs H2 bs gs) (lf : fs.length <= 90) (lg : gs.length <= 90) (eh : hs = fs ++ gs)
  (k : ∀ as', L2.upd H2 F (.lst (as.map V.ref ++ bs.map V.ref)) F = some (.lst (as'.map V.ref)) -> DDs (L2.upd H2 F (.lst (as.map V.ref ++ bs.map V.ref))) as' hs -> Same H (L2.upd H2 F (.lst (as.map V.ref ++ bs.map V.ref))) -> Pv (L2.upd H2 F (.lst (as.map V.ref ++ bs.map V.ref)))) :
  ∃ xs, H2 F = some (.lst xs) ∧ ∃ zs, H2 N = some (.lst zs) ∧ xs.length + zs.length <= sizeLine ∧ Pv (L2.upd H2 F (.lst (xs ++ zs))) := by
 refine ⟨_, s2 _ _ eF, _, e2, ?_, k (as ++ bs) (by rw [upd_same, List.map_append]) ?_ ((s.trans s2).more nF)⟩
 ·rw [List.length_map, List.length_map, d.len, d2.len]; exact Nat.le_trans (show fs.length + gs.length <= 180 by omega) (by decide)
 ·rw [eh]; exact ((d.on s2).app d2).upL (s2 _ _ eF)
def spCStep (K : PySem.W.Frag) (C : Addr) : Sp := fun vs H Q _ => ∃ (x dx p L q t : Addr) (h l : Int × Int × Int) (i far : Nat), vs = [.ref x, .int (i : Int), .int (far : Int)] ∧ H x = some (.ins C dx (chsF p L)) ∧ H L = some (.lst [.ref q, .ref t]) ∧ SqT K H p [.int h.1, .int h.2.1, .int h.2.2] ∧ SqT K H q [.int l.1, .int l.2.1, .int l.2.2] ∧ SqT K H t [.int (subF h l).1, .int (subF h l).2.1, .int (subF h l).2.2] ∧ Sml h l i far ∧ newD H Q (pdD (stL h l i far))
theorem ok_Choose_step {P : Program} {w : World} {K : PySem.W.Frag} {mg : Str -> Option Value} {base : Heap} (T : Tx K mg) : FnOk P w K mg base CX0 5 T.a_Choose_step T.fd_Choose_step ["self", "i", "far"] (spCStep K T.c_Choose) := by
 refine T.F_Choose_step.ok sc_Choose_step (fun vs H Q E h => ?_) (fun cdv A outer s H vs Q E hr h => ?_)
 ·obtain ⟨x, dx, p, L, q, t, h, l, i, far, rfl, _⟩ := h
  rfl
 obtain ⟨x, dx, p, L, q, t, h, l, i, far, rfl, hx, hL, hp, hq, ht, sm, z⟩ := h
 refine ⟨_, ((pss_cons (ps_set (i := 3) sc_Choose_step.nd rfl (Or.inl rfl) (pe_call (FnOk.mono (ok_raised_from T) (by decide)) hr rfl T.m_raised_from T.F_raised_from.kp T.b_raised_from .nil pass0 (pa_cons (pe_fld (pv 0) rfl) (pa_cons pe_int (pa_cons (pe_op op_mulZ (pv 1) (pe_ix ix_tup (pe_fld (pv 0) rfl) pe_int (fun _ _ => rfl))) pa_nil)))))
  (pss_cons (ps_for PassesOwn.never rfl (pi_list (pe_fld (pv 0) rfl)) (pg_name (i := 4) sc_Choose_step.nd rfl (Or.inl rfl)) (pss_one (ps_expr (pe_bm PySem.F.plainAttrs_list PySem.F.slot_list_extend PySem.F.type_list_extend mt_extend (pv 3) (pa_cons (pe_call (FnOk.mono (ok_raised_from T) (by decide)) hr rfl T.m_raised_from T.F_raised_from.kp T.b_raised_from .nil pass0 (pa_cons (pv 4) (pa_cons (pe_op op_add (pe_op op_mulZ (pv 1) (pe_ix ix_tup (pv 4) pe_int (fun _ _ => rfl))) pe_int) (pa_cons (pe_callB (call_max2 rfl) rfl T.z_max bt_max (pa_cons (pe_op op_mulZ (pv 2) (pe_ix ix_tup (pv 4) pe_int (fun _ _ => rfl))) (pa_cons pe_int pa_nil))) pa_nil)))) pa_nil)))))
  (pss_one (ps_ret (pe_call (FnOk.mono (ok_pair_product T) (by decide)) hr rfl T.m_pair_product T.F_pair_product.kp T.b_pair_product .nil pass0 (pa_cons (pv 3) pa_nil))))))), ?_⟩
 obtain ⟨⟨p1, p2⟩, ⟨q1, q2, q3, q4⟩, ⟨r1, r2, r3, r4⟩, _⟩ := sml_b sm
 obtain ⟨⟨c1, _, _⟩, ⟨c4, _, _⟩, ⟨c7, _, _⟩⟩ := cho_b sm.c
 have i2 := sm.i1
 have f2 := sm.f2
 have bi : Bd 8 (i : Int) := bd8 (by omega) (by omega)
 have bf : Bd 8 (far : Int) := bd8 (by omega) (by omega)
 dsimp only [a_seq]
 k_typeOf
 refine ⟨T.c_Choose, dx, _, hx, T.cl_Choose, T.na_Choose_above, _, rfl, T.c_Choose, dx, _, hx, T.cl_Choose, T.na_Choose_above, _, rfl, p, rfl, _, hp, _, rfl, _, rfl, bi.fits c1 (by decide), p, h, 1, _, rfl, hp, by decide, by decide, by omega, by omega, fun F as H1 s1 nF eF dF => ?_⟩
 dsimp only [a_seq]
 k_typeOf
 refine ⟨T.c_Choose, dx, _, s1 _ _ hx, T.cl_Choose, T.na_Choose_lows, _, rfl, L, rfl, ⟨_, SqL.of (s1 _ _ hL)⟩, ?_⟩
 obtain ⟨A0, hA0⟩ : ∃ A0, A0 = rfL h 1 (cnt 1 ((i : Int) * h.1)) := ⟨_, rfl⟩
 obtain ⟨B0, hB0⟩ : ∃ B0, B0 = rfL l ((i : Int) * l.1 + 1) (cnt ((i : Int) * l.1 + 1) (mx ((far : Int) * l.1))) := ⟨_, rfl⟩
 obtain ⟨C0, hC0⟩ : ∃ C0, C0 = rfL (subF h l) ((i : Int) * (subF h l).1 + 1) (cnt ((i : Int) * (subF h l).1 + 1) (mx ((far : Int) * (subF h l).1))) := ⟨_, rfl⟩
 have m1 := (mx_ge ((far : Int) * l.1)).1
 have m2 := (mx_ge ((far : Int) * (subF h l).1)).1
 have lA : A0.length <= 30 := by rw [hA0, rfL_len]; unfold cnt; omega
 have lB : B0.length <= 30 := by rw [hB0, rfL_len]; unfold cnt; omega
 have lC : C0.length <= 30 := by rw [hC0, rfL_len]; unfold cnt; omega
 obtain ⟨Pv, hPv⟩ : ∃ Pv : Nat -> L2.St -> Hp -> Prop, ∀ j σ H', Pv j σ H' ↔ ∃ (as : List Addr) (r : Option V), σ = [some (V.ref x), some (V.int (i : Int)), some (V.int (far : Int)), some (V.ref F), r] ∧ H' F = some (.lst (as.map V.ref)) ∧ DDs H' as (facs A0 B0 C0 j) ∧ Same H H' := ⟨_, fun _ _ _ => Iff.rfl⟩
 refine lp_list (xs := [V.ref q, V.ref t]) Pv ((hPv _ _ _).mpr ⟨as, none, rfl, eF, by rw [show facs A0 B0 C0 0 = A0 from rfl, hA0]; exact dF, s1⟩) (fun j σ H' _ y => by obtain ⟨_, _, _, _, _, y⟩ := (hPv j σ H').mp y; exact y.seq (SqL.of hL)) ?_ ?_
 ·intro j v σ G hv hp'
  obtain ⟨as, r, rfl, eG, dG, sG⟩ := (hPv _ _ _).mp hp'
  obtain ⟨u, f, rfl, eu, b1, lo, lo', hi, hi', gs, lgs, hgs, ehs⟩ : ∃ (u : Addr) (f : Int × Int × Int), v = V.ref u ∧ SqT K H u [.int f.1, .int f.2.1, .int f.2.2] ∧ Bd 8 f.1 ∧ -100 <= (i : Int) * f.1 + 1 ∧ (i : Int) * f.1 + 1 <= 100 ∧ -100 <= mx ((far : Int) * f.1) ∧ mx ((far : Int) * f.1) <= 100 ∧ ∃ gs, gs.length <= 30 ∧ gs = rfL f ((i : Int) * f.1 + 1) (cnt ((i : Int) * f.1 + 1) (mx ((far : Int) * f.1))) ∧ facs A0 B0 C0 (j + 1) = facs A0 B0 C0 j ++ gs := by
   match j, hv with
   | 0, hv => exact ⟨q, l, (Option.some.inj hv).symm, hq, c4, by omega, by omega, by omega, by omega, B0, lB, hB0, rfl⟩
   | 1, hv => exact ⟨t, subF h l, (Option.some.inj hv).symm, ht, c7, by omega, by omega, by omega, by omega, C0, lC, hC0, rfl⟩
   | j + 2, hv => simp at hv
  k_units
  refine ⟨a_tyL (SqL.of eG), _, sG.seqT eu, _, rfl, _, rfl, bi.fits b1 (by decide), _, sG.seqT eu, _, rfl, _, rfl, bf.fits b1 (by decide), u, f, _, _, rfl, sG.seqT eu, lo, lo', hi, hi', fun N bs H2 s2 n2 e2 d2 => ?_⟩
  exact ⟨N, rfl, fac_ext nF sG eG dG s2 e2 d2 (facs_len lA lB lC j) (by have w := lgs; rw [hgs] at w; exact Nat.le_trans w (by decide)) (by rw [ehs, hgs]; rfl) fun as' e3 d3 s3 => (hPv _ _ _).mpr ⟨as', _, rfl, e3, d3, s3⟩⟩
 intro σ G hp'
 obtain ⟨as2, r, rfl, eG, dG, sG⟩ := (hPv _ _ _).mp hp'
 have ef : facs A0 B0 C0 2 = stL h l i far := by rw [hA0, hB0, hC0]; rfl
 obtain ⟨sl, so⟩ := stL_ok sm
 k_units
 exact ⟨F, as2, stL h l i far, List.replicate (stL h l i far).length 1, 10, rfl, SqL.of eG, by rw [← ef]; exact dG, (pd_forms so (by omega)).1, by rw [sum_ones]; omega, by omega, by decide, fun a H3 s3 n3 e3 => z a H3 (sG.trans s3) (sG.free n3) e3⟩
def spCUp (K : PySem.W.Frag) (C : Addr) : Sp := fun vs H Q _ => ∃ (x dx p L q t : Addr) (h l : Int × Int × Int) (far : Nat), vs = [.ref x, .int (far : Int)] ∧ H x = some (.ins C dx (chsF p L)) ∧ H L = some (.lst [.ref q, .ref t]) ∧ SqT K H p [.int h.1, .int h.2.1, .int h.2.2] ∧ SqT K H q [.int l.1, .int l.2.1, .int l.2.2] ∧ SqT K H t [.int (subF h l).1, .int (subF h l).2.1, .int (subF h l).2.2] ∧ ChoOk h l ∧ far <= 2 ∧ newD H Q (pdD (upL h l far))
theorem ok_Choose_up {P : Program} {w : World} {K : PySem.W.Frag} {mg : Str -> Option Value} {base : Heap} (T : Tx K mg) : FnOk P w K mg base CX0 5 T.a_Choose_up T.fd_Choose_up ["self", "far"] (spCUp K T.c_Choose) := by
 refine T.F_Choose_up.ok sc_Choose_up (fun vs H Q E h => ?_) (fun cdv A outer s H vs Q E hr h => ?_)
 ·obtain ⟨x, dx, p, L, q, t, h, l, far, rfl, _⟩ := h
  rfl
 obtain ⟨x, dx, p, L, q, t, h, l, far, rfl, hx, hL, hp, hq, ht, c, f2, z⟩ := h
 refine ⟨_, ((pss_cons (ps_set (i := 2) sc_Choose_up.nd rfl (Or.inl rfl) (pe_call (FnOk.mono (ok_raised_from T) (by decide)) hr rfl T.m_raised_from T.F_raised_from.kp T.b_raised_from .nil pass0 (pa_cons (pe_fld (pv 0) rfl) (pa_cons pe_int (pa_cons (pe_ix ix_tup (pe_fld (pv 0) rfl) pe_int (fun _ _ => rfl)) pa_nil)))))
  (pss_cons (ps_for PassesOwn.never rfl (pi_list (pe_meth (pv 0) T.cl_Choose T.me_Choose_lifted (FnOk.mono (ok_Choose_lifted T) (by decide)) hr T.b_Choose_lifted .nil pass0 (pa_cons (pv 1) pa_nil))) (pg_name (i := 3) sc_Choose_up.nd rfl (Or.inl rfl)) (pss_one (ps_expr (pe_bm PySem.F.plainAttrs_list PySem.F.slot_list_extend PySem.F.type_list_extend mt_extend (pv 2) (pa_cons (pe_call (FnOk.mono (ok_raised_from T) (by decide)) hr rfl T.m_raised_from T.F_raised_from.kp T.b_raised_from .nil pass0 (pa_cons (pv 3) (pa_cons (pe_op op_add (pe_ix ix_tup (pv 3) pe_int (fun _ _ => rfl)) pe_int) (pa_cons pe_int pa_nil)))) pa_nil)))))
  (pss_one (ps_ret (pe_call (FnOk.mono (ok_pair_product T) (by decide)) hr rfl T.m_pair_product T.F_pair_product.kp T.b_pair_product .nil pass0 (pa_cons (pv 2) pa_nil))))))), ?_⟩
 obtain ⟨⟨a1, a2, a3, a4, a5, a6⟩, ⟨b1, b2, b3, b4, b5, b6⟩, _⟩ := id c
 obtain ⟨⟨c1, c2, _⟩, ⟨c4, c5, _⟩, ⟨c7, c8, _⟩⟩ := cho_b c
 have bf : Bd 8 (far : Int) := bd8 (by omega) (by omega)
 have e1 : (subF h l).2.1 = h.2.1 - l.2.1 := rfl
 dsimp only [a_seq]
 k_typeOf
 refine ⟨T.c_Choose, dx, _, hx, T.cl_Choose, T.na_Choose_above, _, rfl, T.c_Choose, dx, _, hx, T.cl_Choose, T.na_Choose_above, _, rfl, p, rfl, _, hp, _, rfl, p, h, 1, _, rfl, hp, by decide, by decide, by omega, by omega, fun F as H1 s1 nF eF dF => ?_⟩
 dsimp only [a_seq]
 k_typeOf
 refine ⟨dx, _, s1 _ _ hx, rfl, x, dx, p, L, q, t, l, subF h l, (far : Int), rfl, s1 _ _ hx, s1 _ _ hL, s1.seqT hq, s1.seqT ht, bf.mono (by decide), c4.mono (by decide), c7.mono (by decide), fun D u v H2 s2 nD eD eu ev => ⟨D, rfl, ⟨_, SqL.of eD⟩, ?_⟩⟩
 obtain ⟨A0, hA0⟩ : ∃ A0 : List PD, A0 = rfL h 1 (cnt 1 h.2.1) := ⟨_, rfl⟩
 obtain ⟨B0, hB0⟩ : ∃ B0, B0 = rfL (liftF far l) (l.2.1 + 1) (cnt (l.2.1 + 1) 0) := ⟨_, rfl⟩
 obtain ⟨C0, hC0⟩ : ∃ C0, C0 = rfL (liftF far (subF h l)) ((subF h l).2.1 + 1) (cnt ((subF h l).2.1 + 1) 0) := ⟨_, rfl⟩
 have lA : A0.length <= 30 := by rw [hA0]; first | (rw [rfL_len]; unfold cnt; omega) | simp
 have lB : B0.length <= 30 := by rw [hB0, rfL_len]; unfold cnt; omega
 have lC : C0.length <= 30 := by rw [hC0, rfL_len]; unfold cnt; omega
 have s12 := s1.trans s2
 have nDF : D ≠ F := fun w => by rw [w, eF] at nD; cases nD
 obtain ⟨Pv, hPv⟩ : ∃ Pv : Nat -> L2.St -> Hp -> Prop, ∀ j σ H', Pv j σ H' ↔ ∃ (as : List Addr) (r : Option V), σ = [some (V.ref x), some (V.int (far : Int)), some (V.ref F), r] ∧ H' F = some (.lst (as.map V.ref)) ∧ DDs H' as (facs A0 B0 C0 j) ∧ Same H H' ∧ H' D = some (.lst [.ref u, .ref v]) ∧ H' u = some (T3 (liftF far l)) ∧ H' v = some (T3 (liftF far (subF h l))) := ⟨_, fun _ _ _ => Iff.rfl⟩
 refine lp_list (xs := [V.ref u, V.ref v]) Pv ((hPv _ _ _).mpr ⟨as, none, rfl, s2 _ _ eF, by rw [show facs A0 B0 C0 0 = A0 from rfl, hA0]; exact dF.on s2, s12, eD, eu, ev⟩) (fun j σ H' _ y => by obtain ⟨_, _, _, _, _, _, y, _⟩ := (hPv j σ H').mp y; exact SqL.of y) ?_ ?_
 ·intro j v' σ G hv hp'
  obtain ⟨as, r, rfl, eG, dG, sG, gD, gu, gv⟩ := (hPv _ _ _).mp hp'
  obtain ⟨u', f, rfl, eu', d1, d2, gs, lgs, hgs, ehs⟩ : ∃ (u' : Addr) (f : Int × Int × Int), v' = V.ref u' ∧ G u' = some (T3 f) ∧ -50 <= f.2.1 ∧ f.2.1 <= 50 ∧ ∃ gs, gs.length <= 30 ∧ gs = rfL f (f.2.1 + 1) (cnt (f.2.1 + 1) (0)) ∧ facs A0 B0 C0 (j + 1) = facs A0 B0 C0 j ++ gs := by
   match j, hv with
   | 0, hv => exact ⟨u, liftF far l, (Option.some.inj hv).symm, gu, by show -50 <= l.2.1; omega, by show l.2.1 <= 50; omega, B0, lB, hB0, rfl⟩
   | 1, hv => exact ⟨v, liftF far (subF h l), (Option.some.inj hv).symm, gv, by show -50 <= (subF h l).2.1; omega, by show (subF h l).2.1 <= 50; omega, C0, lC, hC0, rfl⟩
   | j + 2, hv => simp at hv
  k_units
  refine ⟨a_tyL (SqL.of eG), _, SqT.of eu', _, rfl, _, rfl, u', f, _, _, rfl, SqT.of eu', by omega, by omega, by omega, by omega, fun N bs H3 s3 n3 e3 d3 => ?_⟩
  exact ⟨N, rfl, fac_ext nF sG eG dG s3 e3 d3 (facs_len lA lB lC j) (by have w := lgs; rw [hgs] at w; exact Nat.le_trans w (by decide)) (by rw [ehs, hgs]; rfl) fun as' e4 d4 s4 => (hPv _ _ _).mpr ⟨as', _, rfl, e4, d4, s4, by rw [upd_ne nDF]; exact s3 _ _ gD, by rw [upd_ne (ne_of gu eG (fun w => nomatch w))]; exact s3 _ _ gu, by rw [upd_ne (ne_of gv eG (fun w => nomatch w))]; exact s3 _ _ gv⟩⟩
 intro σ G hp'
 obtain ⟨as2, r, rfl, eG, dG, sG, _⟩ := (hPv _ _ _).mp hp'
 have ef : facs A0 B0 C0 2 = upL h l far := by rw [hA0, hB0, hC0]; rfl
 obtain ⟨o1, o2, o3, o4⟩ := upL_ok (far := far) c f2
 k_units
 exact ⟨F, as2, upL h l far, List.replicate (upL h l far).length 1, 10, rfl, SqL.of eG, by rw [← ef]; exact dG, (pd_forms o2 (by omega)).1, by rw [sum_ones]; omega, by omega, by decide, fun a H3 s3 n3 e3 => z a H3 (sG.trans s3) (sG.free n3) e3⟩
def spCDn (K : PySem.W.Frag) (C : Addr) : Sp := fun vs H Q _ => ∃ (x dx p L q t : Addr) (h l : Int × Int × Int) (far : Nat), vs = [.ref x, .int (far : Int)] ∧ H x = some (.ins C dx (chsF p L)) ∧ H L = some (.lst [.ref q, .ref t]) ∧ SqT K H p [.int h.1, .int h.2.1, .int h.2.2] ∧ SqT K H q [.int l.1, .int l.2.1, .int l.2.2] ∧ SqT K H t [.int (subF h l).1, .int (subF h l).2.1, .int (subF h l).2.2] ∧ ChoOk h l ∧ far <= 2 ∧ newD H Q (pdD (dnL h l far))
theorem ok_Choose_down {P : Program} {w : World} {K : PySem.W.Frag} {mg : Str -> Option Value} {base : Heap} (T : Tx K mg) : FnOk P w K mg base CX0 5 T.a_Choose_down T.fd_Choose_down ["self", "far"] (spCDn K T.c_Choose) := by
 refine T.F_Choose_down.ok sc_Choose_down (fun vs H Q E h => ?_) (fun cdv A outer s H vs Q E hr h => ?_)
 ·obtain ⟨x, dx, p, L, q, t, h, l, far, rfl, _⟩ := h
  rfl
 obtain ⟨x, dx, p, L, q, t, h, l, far, rfl, hx, hL, hp, hq, ht, c, f2, z⟩ := h
 refine ⟨_, ((pss_cons (ps_set (i := 2) sc_Choose_down.nd rfl (Or.inl rfl) (pe_lst pa_nil))
  (pss_cons (ps_for PassesOwn.never rfl (pi_list (pe_meth (pv 0) T.cl_Choose T.me_Choose_lifted (FnOk.mono (ok_Choose_lifted T) (by decide)) hr T.b_Choose_lifted .nil pass0 (pa_cons (pv 1) pa_nil))) (pg_name (i := 3) sc_Choose_down.nd rfl (Or.inl rfl)) (pss_one (ps_expr (pe_bm PySem.F.plainAttrs_list PySem.F.slot_list_extend PySem.F.type_list_extend mt_extend (pv 2) (pa_cons (pe_call (FnOk.mono (ok_raised_from T) (by decide)) hr rfl T.m_raised_from T.F_raised_from.kp T.b_raised_from .nil pass0 (pa_cons (pv 3) (pa_cons pe_int (pa_cons (pe_ix ix_tup (pv 3) pe_int (fun _ _ => rfl)) pa_nil)))) pa_nil)))))
  (pss_one (ps_ret (pe_call (FnOk.mono (ok_pair_product T) (by decide)) hr rfl T.m_pair_product T.F_pair_product.kp T.b_pair_product .nil pass0 (pa_cons (pv 2) pa_nil))))))), ?_⟩
 obtain ⟨⟨a1, a2, a3, a4, a5, a6⟩, ⟨b1, b2, b3, b4, b5, b6⟩, _⟩ := id c
 obtain ⟨⟨c1, c2, _⟩, ⟨c4, c5, _⟩, ⟨c7, c8, _⟩⟩ := cho_b c
 have bf : Bd 8 (far : Int) := bd8 (by omega) (by omega)
 have e1 : (subF h l).2.1 = h.2.1 - l.2.1 := rfl
 dsimp only [a_seq]
 k_typeOf
 refine ⟨by decide, fun F nF => ?_⟩
 have s1 := same_upd nF (.lst [])
 have eF : L2.upd H F (.lst []) F = some (.lst (([] : List Addr).map V.ref)) := upd_same
 obtain ⟨as, has⟩ : ∃ as : List Addr, as = [] := ⟨_, rfl⟩
 have dF : DDs (L2.upd H F (.lst [])) as [] := by rw [has]; exact ⟨rfl, fun i a f e => by simp at e⟩
 rw [← has] at eF
 generalize L2.upd H F (.lst []) = H1 at s1 eF dF ⊢
 dsimp only [a_seq]
 k_typeOf
 refine ⟨dx, _, s1 _ _ hx, rfl, x, dx, p, L, q, t, l, subF h l, (far : Int), rfl, s1 _ _ hx, s1 _ _ hL, s1.seqT hq, s1.seqT ht, bf.mono (by decide), c4.mono (by decide), c7.mono (by decide), fun D u v H2 s2 nD eD eu ev => ⟨D, rfl, ⟨_, SqL.of eD⟩, ?_⟩⟩
 obtain ⟨A0, hA0⟩ : ∃ A0 : List PD, A0 = [] := ⟨_, rfl⟩
 obtain ⟨B0, hB0⟩ : ∃ B0, B0 = rfL (liftF far l) 1 (cnt 1 l.2.1) := ⟨_, rfl⟩
 obtain ⟨C0, hC0⟩ : ∃ C0, C0 = rfL (liftF far (subF h l)) 1 (cnt 1 (subF h l).2.1) := ⟨_, rfl⟩
 have lA : A0.length <= 30 := by rw [hA0]; first | (rw [rfL_len]; unfold cnt; omega) | simp
 have lB : B0.length <= 30 := by rw [hB0, rfL_len]; unfold cnt; omega
 have lC : C0.length <= 30 := by rw [hC0, rfL_len]; unfold cnt; omega
 have s12 := s1.trans s2
 have nDF : D ≠ F := fun w => by rw [w, eF] at nD; cases nD
 obtain ⟨Pv, hPv⟩ : ∃ Pv : Nat -> L2.St -> Hp -> Prop, ∀ j σ H', Pv j σ H' ↔ ∃ (as : List Addr) (r : Option V), σ = [some (V.ref x), some (V.int (far : Int)), some (V.ref F), r] ∧ H' F = some (.lst (as.map V.ref)) ∧ DDs H' as (facs A0 B0 C0 j) ∧ Same H H' ∧ H' D = some (.lst [.ref u, .ref v]) ∧ H' u = some (T3 (liftF far l)) ∧ H' v = some (T3 (liftF far (subF h l))) := ⟨_, fun _ _ _ => Iff.rfl⟩
 refine lp_list (xs := [V.ref u, V.ref v]) Pv ((hPv _ _ _).mpr ⟨as, none, rfl, s2 _ _ eF, by rw [show facs A0 B0 C0 0 = A0 from rfl, hA0]; exact dF.on s2, s12, eD, eu, ev⟩) (fun j σ H' _ y => by obtain ⟨_, _, _, _, _, _, y, _⟩ := (hPv j σ H').mp y; exact SqL.of y) ?_ ?_
 ·intro j v' σ G hv hp'
  obtain ⟨as, r, rfl, eG, dG, sG, gD, gu, gv⟩ := (hPv _ _ _).mp hp'
  obtain ⟨u', f, rfl, eu', d1, d2, gs, lgs, hgs, ehs⟩ : ∃ (u' : Addr) (f : Int × Int × Int), v' = V.ref u' ∧ G u' = some (T3 f) ∧ -50 <= f.2.1 ∧ f.2.1 <= 50 ∧ ∃ gs, gs.length <= 30 ∧ gs = rfL f (1) (cnt (1) (f.2.1)) ∧ facs A0 B0 C0 (j + 1) = facs A0 B0 C0 j ++ gs := by
   match j, hv with
   | 0, hv => exact ⟨u, liftF far l, (Option.some.inj hv).symm, gu, by show -50 <= l.2.1; omega, by show l.2.1 <= 50; omega, B0, lB, hB0, rfl⟩
   | 1, hv => exact ⟨v, liftF far (subF h l), (Option.some.inj hv).symm, gv, by show -50 <= (subF h l).2.1; omega, by show (subF h l).2.1 <= 50; omega, C0, lC, hC0, rfl⟩
   | j + 2, hv => simp at hv
  k_units
  refine ⟨a_tyL (SqL.of eG), _, SqT.of eu', _, rfl, u', f, _, _, rfl, SqT.of eu', by omega, by omega, by omega, by omega, fun N bs H3 s3 n3 e3 d3 => ?_⟩
  exact ⟨N, rfl, fac_ext nF sG eG dG s3 e3 d3 (facs_len lA lB lC j) (by have w := lgs; rw [hgs] at w; exact Nat.le_trans w (by decide)) (by rw [ehs, hgs]; rfl) fun as' e4 d4 s4 => (hPv _ _ _).mpr ⟨as', _, rfl, e4, d4, s4, by rw [upd_ne nDF]; exact s3 _ _ gD, by rw [upd_ne (ne_of gu eG (fun w => nomatch w))]; exact s3 _ _ gu, by rw [upd_ne (ne_of gv eG (fun w => nomatch w))]; exact s3 _ _ gv⟩⟩
 intro σ G hp'
 obtain ⟨as2, r, rfl, eG, dG, sG, _⟩ := (hPv _ _ _).mp hp'
 have ef : facs A0 B0 C0 2 = dnL h l far := by rw [hA0, hB0, hC0]; rfl
 obtain ⟨o1, o2, o3, o4⟩ := upL_ok (far := far) c f2
 k_units
 exact ⟨F, as2, dnL h l far, List.replicate (dnL h l far).length 1, 10, rfl, SqL.of eG, by rw [← ef]; exact dG, (pd_forms o4 (by omega)).1, by rw [sum_ones]; omega, by omega, by decide, fun a H3 s3 n3 e3 => z a H3 (sG.trans s3) (sG.free n3) e3⟩
def DynS {K : PySem.W.Frag} {mg : Str -> Option Value} (T : Tx K mg) (H : Hp) (q : Addr) (i far : Nat) (Q : VK) (E : XK) : Prop :=
 (∃ x x_1, H q = some (HO.ins T.c_Choose x x_1) ∧ List.lookup (Str.ofString "step") x_1 = none ∧ spCStep K T.c_Choose [V.ref q, V.int (i : Int), V.int (far : Int)] H Q E) ∨
 (∃ x x_1, H q = some (HO.ins T.c_Weight x x_1) ∧ List.lookup (Str.ofString "step") x_1 = none ∧ spWStep K T.c_Weight [V.ref q, V.int (i : Int), V.int (far : Int)] H Q E) ∨
 (∃ x x_1, H q = some (HO.ins T.c_Power x x_1) ∧ List.lookup (Str.ofString "step") x_1 = none ∧ spD1 [V.ref q, V.int (i : Int), V.int (far : Int)] H Q E) ∨
 (∃ x x_1, H q = some (HO.ins T.c_Growth x x_1) ∧ List.lookup (Str.ofString "step") x_1 = none ∧ spGStep K T.c_Growth [V.ref q, V.int (i : Int), V.int (far : Int)] H Q E)
def DynU {K : PySem.W.Frag} {mg : Str -> Option Value} (T : Tx K mg) (H : Hp) (q : Addr) (far : Nat) (Q : VK) (E : XK) : Prop :=
 (∃ x x_1, H q = some (HO.ins T.c_Choose x x_1) ∧ List.lookup (Str.ofString "up") x_1 = none ∧ spCUp K T.c_Choose [V.ref q, V.int (far : Int)] H Q E) ∨
 (∃ x x_1, H q = some (HO.ins T.c_Weight x x_1) ∧ List.lookup (Str.ofString "up") x_1 = none ∧ spU1 [V.ref q, V.int (far : Int)] H Q E) ∨
 (∃ x x_1, H q = some (HO.ins T.c_Power x x_1) ∧ List.lookup (Str.ofString "up") x_1 = none ∧ spPUp K T.c_Power true [V.ref q, V.int (far : Int)] H Q E) ∨
 (∃ x x_1, H q = some (HO.ins T.c_Growth x x_1) ∧ List.lookup (Str.ofString "up") x_1 = none ∧ spU1 [V.ref q, V.int (far : Int)] H Q E)
def DynD {K : PySem.W.Frag} {mg : Str -> Option Value} (T : Tx K mg) (H : Hp) (q : Addr) (far : Nat) (Q : VK) (E : XK) : Prop :=
 (∃ x x_1, H q = some (HO.ins T.c_Choose x x_1) ∧ List.lookup (Str.ofString "down") x_1 = none ∧ spCDn K T.c_Choose [V.ref q, V.int (far : Int)] H Q E) ∨
 (∃ x x_1, H q = some (HO.ins T.c_Weight x x_1) ∧ List.lookup (Str.ofString "down") x_1 = none ∧ spU1 [V.ref q, V.int (far : Int)] H Q E) ∨
 (∃ x x_1, H q = some (HO.ins T.c_Power x x_1) ∧ List.lookup (Str.ofString "down") x_1 = none ∧ spPUp K T.c_Power false [V.ref q, V.int (far : Int)] H Q E) ∨
 (∃ x x_1, H q = some (HO.ins T.c_Growth x x_1) ∧ List.lookup (Str.ofString "down") x_1 = none ∧ spU1 [V.ref q, V.int (far : Int)] H Q E)
def DynF {K : PySem.W.Frag} {mg : Str -> Option Value} (T : Tx K mg) (H : Hp) (q : Addr) (n k far : Nat) (Q : VK) (E : XK) : Prop :=
 (∃ x x_1, H q = some (HO.ins T.c_Choose x x_1) ∧ List.lookup (Str.ofString "floor") x_1 = none ∧ spFloor K T.c_Choose [V.ref q, V.int (n : Int), V.int (k : Int), V.int (far : Int)] H Q E) ∨
 (∃ x x_1, H q = some (HO.ins T.c_Weight x x_1) ∧ List.lookup (Str.ofString "floor") x_1 = none ∧ spFl1 [V.ref q, V.int (n : Int), V.int (k : Int), V.int (far : Int)] H Q E) ∨
 (∃ x x_1, H q = some (HO.ins T.c_Power x x_1) ∧ List.lookup (Str.ofString "floor") x_1 = none ∧ spPFl K T.c_Power [V.ref q, V.int (n : Int), V.int (k : Int), V.int (far : Int)] H Q E) ∨
 (∃ x x_1, H q = some (HO.ins T.c_Growth x x_1) ∧ List.lookup (Str.ofString "floor") x_1 = none ∧ spGFl K T.c_Growth [V.ref q, V.int (n : Int), V.int (k : Int), V.int (far : Int)] H Q E)
theorem dyn_step {K : PySem.W.Frag} {mg : Str -> Option Value} {T : Tx K mg} {H0 H : Hp} {q : Addr} {p : Prt} {i far : Nat} {Q : VK} {E : XK} (hc : PcAt T H0 H q p) (ho : PrtOk p) (hi : i <= far) (hf : far <= 2) (z : newD H Q (stD p i far)) : DynS T H q i far Q E := by
 match p, hc, ho, z with
 | .cho h l, ⟨dx, a, L, b, t, h1, h2, h3, h4, h5, h6⟩, ho, z => exact .inl ⟨dx, _, h1, rfl, q, dx, a, L, b, t, h, l, i, far, rfl, h1, h4, SqT.of h2, SqT.of h5, SqT.of h6, ⟨ho, hi, hf⟩, z⟩
 | .wei f, ⟨dx, a, h1, h2⟩, ho, z => exact .inr (.inl ⟨dx, _, h1, rfl, q, dx, a, f, i, far, rfl, h1, SqT.of h2, ho.1.mono (by decide), by omega, z⟩)
 | .pow f, ⟨dx, a, h1, h2⟩, ho, z => exact .inr (.inr (.inl ⟨dx, _, h1, rfl, q, ⟨_, _, rfl⟩, z⟩))
 | .gro f, ⟨dx, a, h1, h2⟩, ho, z => exact .inr (.inr (.inr ⟨dx, _, h1, rfl, q, dx, a, f, i, far, rfl, h1, SqT.of h2, ho.2.2.1.mono (by decide), ho.2.2.2.mono (by decide), hi, hf, z⟩))
theorem dyn_up {K : PySem.W.Frag} {mg : Str -> Option Value} {T : Tx K mg} {H0 H : Hp} {q : Addr} {p : Prt} {far : Nat} {Q : VK} {E : XK} (hc : PcAt T H0 H q p) (ho : PrtOk p) (hf : far <= 2) (z : newD H Q (upD p far)) : DynU T H q far Q E := by
 match p, hc, ho, z with
 | .cho h l, ⟨dx, a, L, b, t, h1, h2, h3, h4, h5, h6⟩, ho, z => exact .inl ⟨dx, _, h1, rfl, q, dx, a, L, b, t, h, l, far, rfl, h1, h4, SqT.of h2, SqT.of h5, SqT.of h6, ho, hf, z⟩
 | .wei f, ⟨dx, a, h1, h2⟩, ho, z => exact .inr (.inl ⟨dx, _, h1, rfl, q, _, rfl, z⟩)
 | .pow f, ⟨dx, a, h1, h2⟩, ho, z => exact .inr (.inr (.inl ⟨dx, _, h1, rfl, q, dx, a, f, _, rfl, h1, SqT.of h2, z⟩))
 | .gro f, ⟨dx, a, h1, h2⟩, ho, z => exact .inr (.inr (.inr ⟨dx, _, h1, rfl, q, _, rfl, z⟩))
theorem dyn_down {K : PySem.W.Frag} {mg : Str -> Option Value} {T : Tx K mg} {H0 H : Hp} {q : Addr} {p : Prt} {far : Nat} {Q : VK} {E : XK} (hc : PcAt T H0 H q p) (ho : PrtOk p) (hf : far <= 2) (z : newD H Q (dnD p far)) : DynD T H q far Q E := by
 match p, hc, ho, z with
 | .cho h l, ⟨dx, a, L, b, t, h1, h2, h3, h4, h5, h6⟩, ho, z => exact .inl ⟨dx, _, h1, rfl, q, dx, a, L, b, t, h, l, far, rfl, h1, h4, SqT.of h2, SqT.of h5, SqT.of h6, ho, hf, z⟩
 | .wei f, ⟨dx, a, h1, h2⟩, ho, z => exact .inr (.inl ⟨dx, _, h1, rfl, q, _, rfl, z⟩)
 | .pow f, ⟨dx, a, h1, h2⟩, ho, z => exact .inr (.inr (.inl ⟨dx, _, h1, rfl, q, dx, a, f, _, rfl, h1, SqT.of h2, z⟩))
 | .gro f, ⟨dx, a, h1, h2⟩, ho, z => exact .inr (.inr (.inr ⟨dx, _, h1, rfl, q, _, rfl, z⟩))
theorem z_bd {z : Int × Int} {m d : Nat} {c : Nat} (hz : Frc z) (hd : m + d < 2 ^ 13) (h18 : d <= 24) (hc : c <= 2 ^ 4000) (h : z.1 * ((asc m d : Nat) : Int) = (c : Int) * z.2) : Bd 20000 z.1 ∧ Bd 650 z.2 := by
 obtain ⟨y1, y2⟩ := hz
 have ab := asc_bd d hd
 have ap := asc_pos m d
 have hn : z.1.natAbs * asc m d = c * z.2.natAbs := by
  have := congrArg Int.natAbs h
  rw [Int.natAbs_mul, Int.natAbs_mul, Int.natAbs_natCast, Int.natAbs_natCast] at this; exact this
 have dv : z.2.natAbs ∣ asc m d := by
  have : z.2.natAbs ∣ z.1.natAbs * asc m d := by rw [hn]; exact Nat.dvd_mul_left _ _
  exact Nat.Coprime.dvd_of_dvd_mul_left (by rw [Nat.Coprime, Nat.gcd_comm]; exact y2) this
 have le := Nat.le_of_dvd ap dv
 have ab' : asc m d < 2 ^ (13 * d + 1) := by have := ab; unfold Bd at this; rw [Int.natAbs_natCast] at this; exact this
 have b2 : z.2.natAbs < 2 ^ 313 := Nat.lt_of_lt_of_le (Nat.lt_of_le_of_lt le ab') (Nat.pow_le_pow_right (by decide) (by omega))
 refine ⟨?_, Nat.lt_of_lt_of_le b2 (Nat.pow_le_pow_right (by decide) (by decide))⟩
 have le1 : z.1.natAbs <= c * z.2.natAbs := by rw [← hn]; exact Nat.le_mul_of_pos_right _ ap
 show z.1.natAbs < 2 ^ 20000
 refine Nat.lt_of_le_of_lt (Nat.le_trans le1 (Nat.mul_le_mul hc (Nat.le_of_lt b2))) ?_
 rw [← Nat.pow_add]
 exact Nat.pow_lt_pow_right (by decide) (by decide)
theorem dyn_floor {K : PySem.W.Frag} {mg : Str -> Option Value} {T : Tx K mg} {H0 H : Hp} {q : Addr} {p : Prt} {n k far : Nat} {Q : VK} {E : XK} (hc : PcAt T H0 H q p) (ho : PrtOk p) (hf : far <= 2) (hn : n <= 30) (hk : k <= 31) (fin : ∀ z, FloOk p far n k z -> ∀ (r : Addr) (H' : Hp), Same H H' -> H' r = some (T2 z) -> Q (.ref r) H') : DynF T H q n k far Q E := by
 match p, hc, ho, fin with
 | .cho h l, ⟨dx, a, L, b, t, h1, h2, h3, h4, h5, h6⟩, ho, fin =>
  obtain ⟨_, ⟨q1, q2, q3, q4⟩, ⟨r1, r2, r3, r4⟩, tt⟩ := sml_b (i := 0) ⟨ho, Nat.zero_le far, hf⟩
  obtain ⟨⟨a1, a2, a3, a4, a5, a6⟩, ⟨b1, b2, b3, b4, b5, b6⟩, _⟩ := id ho
  have m1 := mx_ge ((far : Int) * l.1)
  have m2 := mx_ge ((far : Int) * (subF h l).1)
  have sm : ∀ x : Int, -12 <= x -> x <= 12 -> Bd 10 x := fun x p1 p2 => Bd.of_lt (m := 13) (by omega) (by decide)
  have hb := at_bd (n := n) (k := k) ⟨a1, a2⟩ ⟨a3, a4⟩ ⟨a5, a6⟩ (by omega) (by omega)
  have hb2 : atF h n k <= 300 := by
   have x1 : h.1 * (n : Int) <= 3 * (n : Int) := Int.mul_le_mul_of_nonneg_right a2 (by omega)
   have x2 : h.2.1 * (k : Int) <= 3 * (k : Int) := Int.mul_le_mul_of_nonneg_right a4 (by omega)
   show h.1 * (n : Int) + h.2.1 * (k : Int) + h.2.2 <= 300
   omega
  have hp := at_pos ho n k
  have hs := at_sub h l n k
  have e1 : (subF h l).1 = h.1 - l.1 := rfl
  have e2 : (subF h l).2.1 = h.2.1 - l.2.1 := rfl
  have e3 : (subF h l).2.2 = h.2.2 - l.2.2 := rfl
  refine .inl ⟨dx, _, h1, rfl, q, dx, a, L, b, t, l, subF h l, h, far, n, k, rfl, h1, h4, SqT.of h2, SqT.of h5, SqT.of h6, by omega, by omega, by omega, sm _ (by omega) (by omega), sm _ (by omega) (by omega), sm _ (by omega) (by omega), sm _ (by omega) (by omega), sm _ (by omega) (by omega), by omega, by omega, by omega, by omega, ?_, ?_⟩
  ·rw [lift_at, lift_at]; omega
  ·rw [lift_at, lift_at]
   intro z hz r H' s1 er
   refine fin z ?_ r H' s1 er
   rcases hz with ⟨g1, rfl⟩ | ⟨x0, x1, m, g1, g2, g3, g4, g5, g6⟩
   ·exact ⟨frc_one 0, Bd.zero _, Bd.one (by decide), .inl ⟨g1, rfl⟩⟩
   ·have hm : (m : Int) = atF h n k := by rw [g3, if_neg (by omega)]
    obtain ⟨z1, z2⟩ := z_bd (d := x0 + x1 - m) g5 (by omega) (by omega) (Nat.le_trans (chs_lt _ _) (Nat.pow_le_pow_right (by decide) (show x0 + x1 <= 4000 by omega))) g6
    exact ⟨g5, z1, z2, .inr ⟨x0, x1, g1, g2, by rw [show (atF h n k).toNat = m by omega]; exact flr_of g4 g6⟩⟩
 | .wei f, ⟨dx, a, h1, h2⟩, ho, fin => exact .inr (.inl ⟨dx, _, h1, rfl, q, _, _, _, rfl, fun r nr => fin (1, 1) ⟨frc_one 1, Bd.one (by decide), Bd.one (by decide), rfl⟩ r _ (same_upd nr _) upd_same⟩)
 | .pow f, ⟨dx, a, h1, h2⟩, ho, fin =>
  obtain ⟨o1, o2, o3, o4⟩ := ho
  exact .inr (.inr (.inl ⟨dx, _, h1, rfl, q, dx, a, n, k, far, rfl, h1, q, dx, a, f.1, f.2, n, k, rfl, h1, SqT.of h2, o3.mono (by decide), o4.mono (by decide), by omega, by omega, fun r nr => fin (f.1 ^ k, f.2 ^ k) ⟨frc_pow o1 k, (bd_pw o3 k).mono (by omega), (bd_pw o4 k).mono (by omega), rfl⟩ r _ (same_upd nr _) upd_same⟩))
 | .gro f, ⟨dx, a, h1, h2⟩, ho, fin =>
  obtain ⟨o1, o2, o3, o4⟩ := ho
  have g : Frc (f.1 ^ n, f.2 ^ (n + far)) := by
   refine ⟨?_, ?_⟩
   ·show 1 <= f.2 ^ (n + far)
    have : 0 < f.2 ^ (n + far) := Int.pow_pos (show 0 < f.2 by have := o1.1; omega)
    omega
   ·show Nat.gcd (f.1 ^ n).natAbs (f.2 ^ (n + far)).natAbs = 1
    rw [Int.natAbs_pow, Int.natAbs_pow]; exact Nat.Coprime.pow n (n + far) o1.2
  exact .inr (.inr (.inr ⟨dx, _, h1, rfl, q, dx, a, f, n, far, k, rfl, h1, SqT.of h2, o3.mono (by decide), o4.mono (by decide), by omega, fun r nr => fin (f.1 ^ n, f.2 ^ (n + far)) ⟨g, (bd_pw o3 n).mono (by omega), (bd_pw o4 (n + far)).mono (by omega), rfl⟩ r _ (same_upd nr _) upd_same⟩))
structure Flos (far n k : Nat) (ps : List Prt) (zs : List (Int × Int)) : Prop where
 len : zs.length = ps.length
 get : ∀ (i : Nat) (p : Prt) (z : Int × Int), ps[i]? = some p -> zs[i]? = some z -> FloOk p far n k z
def spTF {K : PySem.W.Frag} {mg : Str -> Option Value} (T : Tx K mg) : Sp := fun vs H Q _ => ∃ (x : Addr) (H0 : Hp) (rs : List Addr) (ps : List Prt) (n k far : Nat), vs = [.ref x, .int (n : Int), .int (k : Int), .int (far : Int)] ∧ TermAt T H0 H x rs ps ∧ ps.length <= 6 ∧ (∀ p ∈ ps, PrtOk p) ∧ far <= 2 ∧ n <= 30 ∧ k <= 31 ∧ ∀ zs, Flos far n k ps zs -> ∀ r H', Same H H' -> H' r = some (T2 (prodF zs)) -> Q (.ref r) H'
theorem ok_Term_floor {P : Program} {w : World} {K : PySem.W.Frag} {mg : Str -> Option Value} {base : Heap} (T : Tx K mg) : FnOk P w K mg base CX0 17 T.a_Term_floor T.fd_Term_floor ["self", "n", "k", "far"] (spTF T) := by
 refine T.F_Term_floor.ok sc_Term_floor (fun vs H Q E h => ?_) (fun cdv A outer s H vs Q E hr h => ?_)
 ·obtain ⟨x, H0, rs, ps, n, k, far, rfl, _⟩ := h
  rfl
 obtain ⟨x, H0, rs, ps, n, k, far, rfl, ⟨dx, P1, P2, qs, h1, h2, h3, h4, h5, h6⟩, l6, hO, hf, hn, hk, z⟩ := h
 refine ⟨_, ((pss_one (ps_ret (pe_call (FnOk.mono (ok_product T) (by decide)) hr rfl T.m_product T.F_product.kp T.b_product .nil pass0 (pa_cons (pe_lcomp rfl (blkok rfl (sub_cons rfl (sub_cons rfl (sub_cons rfl sub_nil))) (fv_cons 1 "n" (by decide) rfl (Or.inl rfl) (Or.inl rfl) ⟨_, rfl⟩ (fv_cons 2 "k" (by decide) rfl (Or.inl rfl) (Or.inl rfl) ⟨_, rfl⟩ (fv_cons 3 "far" (by decide) rfl (Or.inl rfl) (Or.inl rfl) ⟨_, rfl⟩ fv_nil)))) (pi_list (pe_fld (pv 0) rfl)) (fun _ _ _ _ => (pe_either (pe_meth (pv 0) T.cl_Choose T.me_Choose_floor (FnOk.mono (ok_Choose_floor T) (by decide)) hr T.b_Choose_floor .nil pass0 (pa_cons (pv 1) (pa_cons (pv 2) (pa_cons (pv 3) pa_nil)))) (pe_either (pe_meth (pv 0) T.cl_Weight T.me_Weight_floor (FnOk.mono (ok_Part_floor T) (by decide)) hr T.b_Part_floor .nil pass0 (pa_cons (pv 1) (pa_cons (pv 2) (pa_cons (pv 3) pa_nil)))) (pe_either (pe_meth (pv 0) T.cl_Power T.me_Power_floor (FnOk.mono (ok_Power_floor T) (by decide)) hr T.b_Power_floor .nil pass0 (pa_cons (pv 1) (pa_cons (pv 2) (pa_cons (pv 3) pa_nil)))) (pe_meth (pv 0) T.cl_Growth T.me_Growth_floor (FnOk.mono (ok_Growth_floor T) (by decide)) hr T.b_Growth_floor .nil pass0 (pa_cons (pv 1) (pa_cons (pv 2) (pa_cons (pv 3) pa_nil))))))))) pa_nil))))), ?_⟩
 k_units
 refine ⟨_, _, _, h1, T.cl_Term, T.na_Term_pieces, _, rfl, P2, rfl, ⟨_, SqL.of h5⟩, fun D nD => ?_⟩
 obtain ⟨Pc, hPc⟩ : ∃ Pc : Nat -> Hp -> Prop, ∀ j Hx, Pc j Hx ↔ ∃ (us : List Addr) (zs : List (Int × Int)), Hx D = some (.lst (us.map V.ref)) ∧ us.length = j ∧ zs.length = j ∧ (∀ (i : Nat) (u : Addr) (p : Prt) (y : Int × Int), us[i]? = some u -> ps[i]? = some p -> zs[i]? = some y -> Hx u = some (T2 y) ∧ FloOk p far n k y) ∧ Same H Hx := ⟨_, fun _ _ => Iff.rfl⟩
 refine cl_list (xs := qs.map V.ref) Pc ((hPc _ _).mpr ⟨[], [], upd_same, rfl, rfl, fun i u p y h1 => by simp at h1, same_upd nD _⟩) (fun i Hx _ z => by obtain ⟨_, _, _, _, _, _, z⟩ := (hPc i Hx).mp z; exact z.seq (SqL.of h5)) ?_ ?_
 ·intro j v Hx hv hc
  obtain ⟨us, zs, k1, k2, k2', k3, k4⟩ := (hPc _ _).mp hc
  rw [List.getElem?_map] at hv
  obtain ⟨q, hq, rfl⟩ := Option.map_eq_some_iff.mp hv
  have hj := (List.getElem?_eq_some_iff.mp hq).1
  have hj2 : j < ps.length := by have := h6.len; omega
  have hpo := hO _ (List.getElem_mem hj2)
  have hpc := (h6.get j q _ hq (List.getElem?_eq_getElem hj2)).kp (kpS (H0 := H0) k4)
  have fin : ∀ y, FloOk ps[j] far n k y -> ∀ (r : Addr) (Hy : Hp), Same Hx Hy -> Hy r = some (T2 y) -> ∃ ys, Hy D = some (.lst ys) ∧ ys.length < sizeLine ∧ Pc (j + 1) (L2.upd Hy D (.lst (ys ++ [V.ref r]))) := fun y hy r Hy s1 e1 => by
   refine ⟨_, s1 _ _ k1, by rw [List.length_map]; exact small1000 (by omega), (hPc _ _).mpr ⟨us ++ [r], zs ++ [y], by rw [upd_same]; simp, by simp [k2], by simp [k2'], fun i u' p' y' q1 q2 q3 => ?_, (k4.trans s1).more nD⟩⟩
   by_cases hi : i < us.length
   ·rw [List.getElem?_append_left hi] at q1
    rw [List.getElem?_append_left (by omega)] at q3
    obtain ⟨e, f⟩ := k3 i u' p' y' q1 q2 q3
    have e := s1 _ _ e
    exact ⟨by rw [upd_ne (ne_of e (s1 _ _ k1) (fun z => nomatch z))]; exact e, f⟩
   ·rw [List.getElem?_append_right (by omega)] at q1 q3
    have hi2 : i - us.length = 0 := by
     have := (List.getElem?_eq_some_iff.mp q1).1
     simp at this; omega
    rw [hi2] at q1
    rw [show i - zs.length = 0 by omega] at q3
    obtain rfl := Option.some.inj q1
    obtain rfl := Option.some.inj q3
    have hij : i = j := by omega
    subst hij
    rw [List.getElem?_eq_getElem hj2] at q2
    obtain rfl := Option.some.inj q2
    exact ⟨by rw [upd_ne (ne_of e1 (s1 _ _ k1) (fun z => nomatch z))]; exact e1, hy⟩
  clear hc hPc
  generalize ps[j] = p at hpo hpc fin
  (iterate 3 (k_units; (try simp only [bst, Option.getD_some])); k_units)
  exact dyn_floor hpc hpo hf hn hk fin
 intro Hx hc
 obtain ⟨us, zs, k1, k2, k2', k3, k4⟩ := (hPc _ _).mp hc
 rw [List.length_map, h6.len] at k2 k2'
 have fl : Flos far n k ps zs := ⟨k2', fun i p y e1 e2 => by
  have hi : i < us.length := by have := (List.getElem?_eq_some_iff.mp e1).1; omega
  exact (k3 i _ p y (List.getElem?_eq_getElem hi) e1 e2).2⟩
 refine ⟨D, us, zs, rfl, SqL.of k1, ⟨by omega, fun i a f e1 e2 => ?_⟩, by omega, ⟨650, by omega, by decide, fun f hf' => ?_⟩, fun _ r nr => ?_⟩
 ·have hi : i < ps.length := by have := (List.getElem?_eq_some_iff.mp e1).1; omega
  exact SqT.of (k3 i a _ f e1 (List.getElem?_eq_getElem hi) e2).1
 ·obtain ⟨i, hi, rfl⟩ := List.getElem_of_mem hf'
  obtain ⟨g1, g2, g3, _⟩ := fl.get i _ _ (List.getElem?_eq_getElem (by omega)) (List.getElem?_eq_getElem hi)
  exact ⟨g1, g2, g3⟩
 ·exact z zs fl r _ (k4.trans (same_upd nr _)) upd_same
def spTFr {K : PySem.W.Frag} {mg : Str -> Option Value} (T : Tx K mg) : Sp := fun vs H Q _ => ∃ (x : Addr) (H0 : Hp) (rs : List Addr) (ps : List Prt) (far : Nat), vs = [.ref x, .int (far : Int)] ∧ TermAt T H0 H x rs ps ∧ ps.length <= 6 ∧ (∀ p ∈ ps, PrtOk p) ∧ far <= 2 ∧ (ps.map dgF).sum <= 60 ∧
 ∀ (F L U W : Addr) (as : List Addr) (H' : Hp), Same H H' -> H' F = some (.tup [.ref L, .ref U, .ref W]) -> H' L = some (.lst (as.map V.ref)) -> DDs H' as ((List.range (far + 1)).map fun i => pdD (ps.map fun p => stD p i far)) -> DD H' U (pdD (ps.map fun p => upD p far)) -> DD H' W (pdD (ps.map fun p => dnD p far)) -> Q (.ref F) H'
theorem pi_listK {X : Cx} {K : PySem.W.Frag} {tg l : Expr} {tl : TE} (hK : X.K = K) (hl : PE X l tl) : PI X tg l (iList K tl) := by subst hK; exact pi_list hl
theorem cl_dicts {K : PySem.W.Frag} {a : Addr} {qs : List Addr} {fs : List PD} {fv : List (Nat × Str)} {te : TE} {Q : VK} {σ : L2.St} {H1 : Hp} {D : Addr} (nD : H1 D = none) (hA : SqL K H1 a (qs.map V.ref)) (hd : fs.length = qs.length) (hl : fs.length <= 900)
  (hs : ∀ (i : Nat) (q : Addr) (f : PD) (Hx : Hp) (R : VK), qs[i]? = some q -> fs[i]? = some f -> Same H1 Hx -> newD Hx R f -> te (bst fv σ (some (V.ref q))) Hx R) (he : newDs H1 Q fs) : CLoop (Itl K a) fv te Q σ H1 D := by
 obtain ⟨Pc, hPc⟩ : ∃ Pc : Nat -> Hp -> Prop, ∀ j Hx, Pc j Hx ↔ ∃ as : List Addr, Hx D = some (.lst (as.map V.ref)) ∧ DDs Hx as (fs.take j) ∧ Same H1 Hx := ⟨_, fun _ _ => Iff.rfl⟩
 refine cl_list (xs := qs.map V.ref) Pc ((hPc _ _).mpr ⟨[], upd_same, ⟨by simp, fun i a f e => by simp at e⟩, same_upd nD _⟩) (fun i Hx _ z => by obtain ⟨_, _, _, z⟩ := (hPc i Hx).mp z; exact z.seq hA) ?_ ?_
 ·intro j v Hx hv hc
  obtain ⟨as, k1, k2, k3⟩ := (hPc _ _).mp hc
  rw [List.getElem?_map] at hv
  obtain ⟨q, hq, rfl⟩ := Option.map_eq_some_iff.mp hv
  have hj : j < fs.length := by have := (List.getElem?_eq_some_iff.mp hq).1; omega
  refine hs j q _ Hx _ hq (List.getElem?_eq_getElem hj) k3 fun p H2 s2 np ep => ?_
  have lk := k2.len
  rw [List.length_take] at lk
  refine ⟨_, s2 _ _ k1, by rw [List.length_map]; exact small1000 (by omega), (hPc _ _).mpr ⟨as ++ [p], by rw [upd_same, List.map_append]; rfl, ?_, (k3.trans s2).more nD⟩⟩
  rw [← List.take_append_getElem hj]
  exact ((k2.on s2).app ⟨rfl, fun i a f e1 e2 => by
   match i, e1, e2 with
   | 0, e1, e2 => obtain rfl := Option.some.inj e1; obtain rfl := Option.some.inj e2; exact .inl ep
   | i + 1, e1, _ => simp at e1⟩).upL (s2 _ _ k1)
 intro Hx hc
 obtain ⟨as, k1, k2, k3⟩ := (hPc _ _).mp hc
 rw [List.length_map, ← hd, List.take_length] at k2
 exact he D as Hx k3 nD k1 k2
theorem cl_rngD {n : Nat} {fs : List PD} {fv : List (Nat × Str)} {te : TE} {Q : VK} {σ : L2.St} {H1 : Hp} {D : Addr} (nD : H1 D = none) (hd : fs.length = n) (hl : n <= 900)
  (hs : ∀ (i : Nat) (f : PD) (Hx : Hp) (R : VK), i < n -> fs[i]? = some f -> Same H1 Hx -> newD Hx R f -> te (bst fv σ (some (V.int (0 + (i : Int))))) Hx R) (he : newDs H1 Q fs) : CLoop (Itr 0 n) fv te Q σ H1 D := by
 obtain ⟨Pc, hPc⟩ : ∃ Pc : Nat -> Hp -> Prop, ∀ j Hx, Pc j Hx ↔ ∃ as : List Addr, Hx D = some (.lst (as.map V.ref)) ∧ DDs Hx as (fs.take j) ∧ Same H1 Hx := ⟨_, fun _ _ => Iff.rfl⟩
 refine cl_range Pc ((hPc _ _).mpr ⟨[], upd_same, ⟨by simp, fun i a f e => by simp at e⟩, same_upd nD _⟩) ?_ ?_
 ·intro j Hx hjn hc
  obtain ⟨as, k1, k2, k3⟩ := (hPc _ _).mp hc
  have hj : j < fs.length := by omega
  refine hs j _ Hx _ hjn (List.getElem?_eq_getElem hj) k3 fun p H2 s2 np ep => ?_
  have lk := k2.len
  rw [List.length_take] at lk
  refine ⟨_, s2 _ _ k1, by rw [List.length_map]; exact small1000 (by omega), (hPc _ _).mpr ⟨as ++ [p], by rw [upd_same, List.map_append]; rfl, ?_, (k3.trans s2).more nD⟩⟩
  rw [← List.take_append_getElem hj]
  exact ((k2.on s2).app ⟨rfl, fun i a f e1 e2 => by
   match i, e1, e2 with
   | 0, e1, e2 => obtain rfl := Option.some.inj e1; obtain rfl := Option.some.inj e2; exact .inl ep
   | i + 1, e1, _ => simp at e1⟩).upL (s2 _ _ k1)
 intro Hx hc
 obtain ⟨as, k1, k2, k3⟩ := (hPc _ _).mp hc
 rw [← hd, List.take_length] at k2
 exact he D as Hx k3 nD k1 k2
theorem bd_pwf {f : Int × Int} {i far : Nat} (h1 : Bd 70 f.1) (h2 : Bd 20 f.2) (hi : i <= far) (hf : far <= 2) : Bd 410 (f.1 ^ i * f.2 ^ (far - i)) :=
 ((bd_pw h1 i).mul (bd_pw h2 (far - i))).mono (by omega)
theorem std_pd {p : Prt} {i far : Nat} (ho : PrtOk p) (hi : i <= far) (hf : far <= 2) : PdOk (dgF p) 410 (stD p i far) := by
 match p, ho with
 | .cho h l, ho =>
  obtain ⟨l12, ok⟩ := stL_ok (h := h) (l := l) ⟨ho, hi, hf⟩
  exact ((pd_forms ok (by omega)).2).mono l12 (by omega)
 | .wei f, ⟨h1, h2, h3⟩ => exact pd_form (h1.mono (by decide)) (h2.mono (by decide)) (((h3.mono (show 300 <= 2 + 300 by decide)).add ((Bd.of_lt (m := 3) (k := 2) (show ((i : Int)).natAbs < 3 by omega) (by decide)).mul h1)).mono (by decide))
 | .pow f, _ => exact pd_one.mono (Nat.le_refl _) (by decide)
 | .gro f, ⟨_, _, h1, h2⟩ => exact pd_kD (bd_pwf h1 h2 hi hf)
theorem upd_pd {p : Prt} {far : Nat} (ho : PrtOk p) (hf : far <= 2) : PdOk (dgF p) 410 (upD p far) ∧ PdOk (dgF p) 410 (dnD p far) := by
 match p, ho with
 | .cho h l, ho =>
  obtain ⟨l12, ok, m12, ok2⟩ := upL_ok (far := far) ho hf
  exact ⟨((pd_forms ok (by omega)).2).mono l12 (by omega), ((pd_forms ok2 (by omega)).2).mono m12 (by omega)⟩
 | .wei f, _ => exact ⟨pd_one.mono (Nat.zero_le _) (by decide), pd_one.mono (Nat.zero_le _) (by decide)⟩
 | .pow f, ⟨_, _, h1, h2⟩ => exact ⟨pd_kD (h1.mono (by decide)), pd_kD (h2.mono (by decide))⟩
 | .gro f, _ => exact ⟨pd_one.mono (Nat.le_refl _) (by decide), pd_one.mono (Nat.le_refl _) (by decide)⟩
theorem pds_map {ps : List Prt} {g : Prt -> PD} (h : ∀ p ∈ ps, PdOk (dgF p) 410 (g p)) : PdsOk 410 (ps.map dgF) (ps.map g) := ⟨by simp, fun i d f e1 e2 => by
 rw [List.getElem?_map] at e1 e2
 obtain ⟨p, hp, rfl⟩ := Option.map_eq_some_iff.mp e1
 rw [hp] at e2
 obtain rfl := Option.some.inj e2
 exact h p (List.mem_of_getElem? hp)⟩
theorem map_get {α β : Type} {xs : List α} {g : α -> β} {i : Nat} {y : β} (h : (xs.map g)[i]? = some y) : ∃ x, xs[i]? = some x ∧ y = g x := by
 rw [List.getElem?_map] at h
 obtain ⟨x, hx, rfl⟩ := Option.map_eq_some_iff.mp h
 exact ⟨x, hx, rfl⟩
theorem ok_Term_frame {P : Program} {w : World} {K : PySem.W.Frag} {mg : Str -> Option Value} {base : Heap} (T : Tx K mg) : FnOk P w K mg base CX0 8 T.a_Term_frame T.fd_Term_frame ["self", "far"] (spTFr T) := by
 refine T.F_Term_frame.ok sc_Term_frame (fun vs H Q E h => ?_) (fun cdv A outer s H vs Q E hr h => ?_)
 ·obtain ⟨x, H0, rs, ps, far, rfl, _⟩ := h
  rfl
 obtain ⟨x, H0, rs, ps, far, rfl, hx, l6, hO, hf, hs, z⟩ := h
 refine ⟨_, ((pss_cons (ps_setCC (i := 2) rfl (blkokC rfl (sub_cons rfl (sub_cons rfl sub_nil)) (fv_cons 1 "far" (by decide) rfl (Or.inl rfl) (Or.inl rfl) ⟨_, rfl⟩ (fv_cons 0 "self" (by decide) rfl (Or.inl rfl) (Or.inl rfl) ⟨_, rfl⟩ fv_nil))) (pi_range1 rfl T.z_range (pa_cons (pe_op op_add (pv 1) pe_int) pa_nil)) (fun _ _ _ _ => (pe_call (FnOk.mono (ok_pair_product T) (by decide)) hr rfl T.m_pair_product T.F_pair_product.kp T.b_pair_product .nil pass0 (pa_cons (pe_lcomp rfl (blkok rfl (sub_cons rfl (sub_cons rfl sub_nil)) (fv_cons 0 "i" (by decide) rfl (Or.inl rfl) (Or.inl rfl) ⟨_, rfl⟩ (fv_cons 1 "far" (by decide) rfl (Or.inl rfl) (Or.inl rfl) ⟨_, rfl⟩ fv_nil))) (pi_listK (K := K) rfl (pe_fldK (K := K) rfl (pv 2) rfl)) (fun _ _ _ _ => (pe_either (pe_meth (pv 0) T.cl_Choose T.me_Choose_step (FnOk.mono (ok_Choose_step T) (by decide)) hr T.b_Choose_step .nil pass0 (pa_cons (pv 1) (pa_cons (pv 2) pa_nil))) (pe_either (pe_meth (pv 0) T.cl_Weight T.me_Weight_step (FnOk.mono (ok_Weight_step T) (by decide)) hr T.b_Weight_step .nil pass0 (pa_cons (pv 1) (pa_cons (pv 2) pa_nil))) (pe_either (pe_meth (pv 0) T.cl_Power T.me_Power_step (FnOk.mono (ok_Part_step T) (by decide)) hr T.b_Part_step .nil pass0 (pa_cons (pv 1) (pa_cons (pv 2) pa_nil))) (pe_meth (pv 0) T.cl_Growth T.me_Growth_step (FnOk.mono (ok_Growth_step T) (by decide)) hr T.b_Growth_step .nil pass0 (pa_cons (pv 1) (pa_cons (pv 2) pa_nil)))))))) pa_nil))) sc_Term_frame.nd rfl rfl)
  (pss_cons (ps_set (i := 3) sc_Term_frame.nd rfl (Or.inl rfl) (pe_call (FnOk.mono (ok_pair_product T) (by decide)) hr rfl T.m_pair_product T.F_pair_product.kp T.b_pair_product .nil pass0 (pa_cons (pe_lcomp rfl (blkok rfl (sub_cons rfl sub_nil) (fv_cons 1 "far" (by decide) rfl (Or.inl rfl) (Or.inl rfl) ⟨_, rfl⟩ fv_nil)) (pi_list (pe_fld (pv 0) rfl)) (fun _ _ _ _ => (pe_either (pe_meth (pv 0) T.cl_Choose T.me_Choose_up (FnOk.mono (ok_Choose_up T) (by decide)) hr T.b_Choose_up .nil pass0 (pa_cons (pv 1) pa_nil)) (pe_either (pe_meth (pv 0) T.cl_Weight T.me_Weight_up (FnOk.mono (ok_Part_up T) (by decide)) hr T.b_Part_up .nil pass0 (pa_cons (pv 1) pa_nil)) (pe_either (pe_meth (pv 0) T.cl_Power T.me_Power_up (FnOk.mono (ok_Power_up T) (by decide)) hr T.b_Power_up .nil pass0 (pa_cons (pv 1) pa_nil)) (pe_meth (pv 0) T.cl_Growth T.me_Growth_up (FnOk.mono (ok_Part_up T) (by decide)) hr T.b_Part_up .nil pass0 (pa_cons (pv 1) pa_nil))))))) pa_nil)))
  (pss_cons (ps_set (i := 4) sc_Term_frame.nd rfl (Or.inl rfl) (pe_call (FnOk.mono (ok_pair_product T) (by decide)) hr rfl T.m_pair_product T.F_pair_product.kp T.b_pair_product .nil pass0 (pa_cons (pe_lcomp rfl (blkok rfl (sub_cons rfl sub_nil) (fv_cons 1 "far" (by decide) rfl (Or.inl rfl) (Or.inl rfl) ⟨_, rfl⟩ fv_nil)) (pi_list (pe_fld (pv 0) rfl)) (fun _ _ _ _ => (pe_either (pe_meth (pv 0) T.cl_Choose T.me_Choose_down (FnOk.mono (ok_Choose_down T) (by decide)) hr T.b_Choose_down .nil pass0 (pa_cons (pv 1) pa_nil)) (pe_either (pe_meth (pv 0) T.cl_Weight T.me_Weight_down (FnOk.mono (ok_Part_down T) (by decide)) hr T.b_Part_down .nil pass0 (pa_cons (pv 1) pa_nil)) (pe_either (pe_meth (pv 0) T.cl_Power T.me_Power_down (FnOk.mono (ok_Power_down T) (by decide)) hr T.b_Power_down .nil pass0 (pa_cons (pv 1) pa_nil)) (pe_meth (pv 0) T.cl_Growth T.me_Growth_down (FnOk.mono (ok_Part_down T) (by decide)) hr T.b_Part_down .nil pass0 (pa_cons (pv 1) pa_nil))))))) pa_nil)))
  (pss_one (ps_ret (pe_tup (pa_cons (pv 2) (pa_cons (pv 3) (pa_cons (pv 4) pa_nil)))))))))), ?_⟩
 obtain ⟨dx, P1, P2, qs, h1, h2, h3, h4, h5, h6⟩ := id hx
 have lq : qs.length = ps.length := h6.len
 have pcs : ∀ {Hx : Hp} {j : Nat} {q : Addr} {p : Prt}, Same H Hx -> qs[j]? = some q -> ps[j]? = some p -> PcAt T H0 Hx q p ∧ PrtOk p := fun {Hx j q p} s e1 e2 => ⟨(h6.get j q p e1 e2).kp (kpS s), hO p (List.mem_of_getElem? e2)⟩
 dsimp only [a_seq]
 k_typeOf
 refine ⟨by omega, by omega, fun D nD => ?_⟩
 rw [show ((far : Int) + 1).toNat = far + 1 by omega]
 refine cl_rngD (fs := (List.range (far + 1)).map fun i => pdD (ps.map fun p => stD p i far)) nD (by simp) (by omega) (fun i f Hx R hi hfi sx z1 => ?_) (fun L as H1 s1 nL eL dL => ?_)
 ·rw [List.getElem?_map, List.getElem?_range hi] at hfi
  obtain rfl := Option.some.inj hfi
  (iterate 3 (k_units; (try simp only [bst, Option.getD_some, Int.zero_add])); k_units)
  refine ⟨_, _, _, sx _ _ h1, T.cl_Term, T.na_Term_pieces, _, rfl, P2, rfl, ⟨_, SqL.of (sx _ _ h5)⟩, fun D2 nD2 => ?_⟩
  refine cl_dicts (fs := ps.map fun p => stD p i far) nD2 (SqL.of (sx _ _ h5)) (by simp [lq]) (by simp; omega) (fun j q f Hy R2 hq hfj sy z2 => ?_) (fun L2 as2 H2 s2 nL2 eL2 dL2 => ?_)
  ·obtain ⟨p, hp, rfl⟩ := map_get hfj
   obtain ⟨c1, c2⟩ := pcs (sx.trans sy) hq hp
   (iterate 3 (k_units; (try simp only [bst, Option.getD_some, Int.zero_add])); k_units)
   exact dyn_step c1 c2 (by omega) hf z2
  ·exact ⟨L2, as2, _, ps.map dgF, 410, rfl, SqL.of eL2, dL2, pds_map (fun p hp => std_pd (hO p hp) (by omega) hf), hs, by simp; omega, by decide, fun p3 H3 s3 n3 e3 => z1 p3 H3 (s2.trans s3) (s2.free n3) e3⟩
 dsimp only [a_seq]
 k_typeOf
 refine ⟨_, _, _, s1 _ _ h1, T.cl_Term, T.na_Term_pieces, _, rfl, P2, rfl, ⟨_, SqL.of (s1 _ _ h5)⟩, fun D2 nD2 => ?_⟩
 refine cl_dicts (fs := ps.map fun p => upD p far) nD2 (SqL.of (s1 _ _ h5)) (by simp [lq]) (by simp; omega) (fun j q f Hy R2 hq hfj sy z2 => ?_) (fun L2 as2 H2 s2 nL2 eL2 dL2 => ?_)
 ·obtain ⟨p, hp, rfl⟩ := map_get hfj
  obtain ⟨c1, c2⟩ := pcs (s1.trans sy) hq hp
  (iterate 3 (k_units; (try simp only [bst, Option.getD_some, Int.zero_add])); k_units)
  exact dyn_up c1 c2 hf z2
 refine ⟨L2, as2, _, ps.map dgF, 410, rfl, SqL.of eL2, dL2, pds_map (fun p hp => (upd_pd (hO p hp) hf).1), hs, by simp; omega, by decide, fun U H3 s3 n3 e3 => ?_⟩
 have s13 := s1.trans (s2.trans s3)
 dsimp only [a_seq]
 k_typeOf
 refine ⟨_, _, _, s13 _ _ h1, T.cl_Term, T.na_Term_pieces, _, rfl, P2, rfl, ⟨_, SqL.of (s13 _ _ h5)⟩, fun D4 nD4 => ?_⟩
 refine cl_dicts (fs := ps.map fun p => dnD p far) nD4 (SqL.of (s13 _ _ h5)) (by simp [lq]) (by simp; omega) (fun j q f Hy R2 hq hfj sy z2 => ?_) (fun L4 as4 H4 s4 nL4 eL4 dL4 => ?_)
 ·obtain ⟨p, hp, rfl⟩ := map_get hfj
  obtain ⟨c1, c2⟩ := pcs (s13.trans sy) hq hp
  (iterate 3 (k_units; (try simp only [bst, Option.getD_some, Int.zero_add])); k_units)
  exact dyn_down c1 c2 hf z2
 refine ⟨L4, as4, _, ps.map dgF, 410, rfl, SqL.of eL4, dL4, pds_map (fun p hp => (upd_pd (hO p hp) hf).2), hs, by simp; omega, by decide, fun W H5 s5 n5 e5 => ?_⟩
 dsimp only [a_seq]
 k_typeOf
 refine ⟨by decide, fun F nF => ?_⟩
 have s35 := s4.trans (s5.trans (same_upd nF (.tup [V.ref L, V.ref U, V.ref W])))
 have s15 := (s2.trans s3).trans s35
 exact z F L U W as _ (s1.trans s15) upd_same (s15 _ _ eL) (dL.on s15) (.inl (s35 _ _ e3)) (.inl (same_upd nF _ _ _ e5))
def cell (ns : List Int) (k : Nat) : Int := ns.getD k 0
def spCellAt (K : PySem.W.Frag) : Sp := fun vs H Q _ => ∃ (a : Addr) (ns : List Int) (k : Nat), vs = [.ref a, .int (k : Int)] ∧ SqL K H a (ns.map V.int) ∧ Q (.int (cell ns k)) H
theorem ok__law_cell_at {P : Program} {w : World} {K : PySem.W.Frag} {mg : Str -> Option Value} {base : Heap} (T : Tx K mg) : FnOk P w K mg base CX0 1 T.a__law_cell_at T.fd__law_cell_at ["_law_script", "_law_k"] (spCellAt K) := by
 refine T.F__law_cell_at.ok sc__law_cell_at (fun vs H Q E h => ?_) (fun cdv A outer s H vs Q E hr h => ?_)
 ·obtain ⟨a, ns, k, rfl, _⟩ := h
  rfl
 obtain ⟨a, ns, k, rfl, hS, q⟩ := h
 refine ⟨_, ((pss_cons (ps_if (pt_cmpR op_lt (pv 1) (pe_callB call_len_seq rfl T.z_len bt_len (pa_cons (pv 0) pa_nil)) (nomark _)) (pss_one (ps_ret (pe_ix ix_list (pv 0) (pv 1) (fun _ _ => rfl)))) pss_nil)
  (pss_one (ps_ret pe_int)))), ?_⟩
 k_units
 refine ⟨_, .inl hS, ?_⟩
 rw [List.length_map]
 unfold cell at q
 refine ite2 (fun h => ?_) (fun h => ?_)
 ·have h' : k < ns.length := by omega
  rw [List.getD_eq_getElem?_getD, List.getElem?_eq_getElem h'] at q
  exact ⟨_, hS, _, at_int h', q⟩
 ·rw [List.getD_eq_getElem?_getD, List.getElem?_eq_none (by omega)] at q
  exact q
def spWhole : Sp := fun vs H Q _ => ∃ i : Int, vs = [.int i] ∧ Q (.bl true) H
theorem ok__law_whole {P : Program} {w : World} {K : PySem.W.Frag} {mg : Str -> Option Value} {base : Heap} (T : Tx K mg) : FnOk P w K mg base CX0 1 T.a__law_whole T.fd__law_whole ["_law_found"] spWhole := by
 refine T.F__law_whole.ok sc__law_whole (fun vs H Q E h => ?_) (fun cdv A outer s H vs Q E hr h => ?_)
 ·obtain ⟨i, rfl, _⟩ := h
  rfl
 obtain ⟨i, rfl, q⟩ := h
 refine ⟨_, ((pss_one (ps_ret (pe_and (pe_callB call_isinst rfl T.z_isinstance bt_isinstance (pa_cons (pv 0) (pa_cons (pe_bltn (v := .ty "int") rfl T.z_int bt_int rfl) pa_nil))) (pe_one (pe_not (pe_callB call_isinst rfl T.z_isinstance bt_isinstance (pa_cons (pv 0) (pa_cons (pe_bltn (v := .ty "bool") rfl T.z_bool bt_bool rfl) pa_nil))))))))), ?_⟩
 k_units
 refine ⟨_, .int _, true, rfl, ?_⟩
 rw [if_pos rfl]
 refine ⟨_, .int _, false, rfl, ?_⟩
 simpa using q
def spNum13 : Sp := fun vs H Q _ => ∃ (c m : Int), vs = [.int c, .int m] ∧ (m = 10 ^ 60 ∨ m = 10 ^ 20) ∧ ∀ n : Int, n.natAbs < m.natAbs -> Q (.int n) H
theorem ok__law_number {P : Program} {w : World} {K : PySem.W.Frag} {mg : Str -> Option Value} {base : Heap} (T : Tx K mg) : FnOk P w K mg base CX0 1 T.a__law_number T.fd__law_number ["_law_cell", "_law_most"] spNum13 := by
 refine T.F__law_number.ok sc__law_number (fun vs H Q E h => ?_) (fun cdv A outer s H vs Q E hr h => ?_)
 ·obtain ⟨c, m, rfl, _⟩ := h
  rfl
 obtain ⟨c, m, rfl, hm, q⟩ := h
 refine ⟨_, ((pss_cons (ps_if (pt_cmpR op_eq (pe_op op_mod (pv 0) pe_int) pe_int (nomark _)) (pss_one (ps_ret (pe_op op_add (pe_op op_sub (pe_op op_mod (pe_op op_fdiv (pv 0) pe_int) (pe_op op_sub (pe_op op_mul pe_int (pv 1)) pe_int)) (pv 1)) pe_int))) pss_nil)
  (pss_cons (ps_if (pt_cmpR op_eq (pe_op op_mod (pv 0) pe_int) pe_int (nomark _)) (pss_one (ps_ret (pe_op op_sub (pe_op op_mod (pe_op op_fdiv (pv 0) pe_int) pe_int) pe_int))) pss_nil)
  (pss_one (ps_ret (pe_op op_sub (pe_op op_mod (pe_op op_fdiv (pv 0) pe_int) pe_int) pe_int)))))), ?_⟩
 k_units
 have d : CDiv c 3 := ⟨by decide, by decide⟩
 have big : 10 ^ 18 <= m.natAbs ∧ (0 : Int) < m := by rcases hm with rfl | rfl <;> decide
 refine ⟨by decide, ite2 (fun h => ?_) (fun h => ⟨by decide, ite2 (fun h2 => ?_) (fun h2 => ?_)⟩)⟩
 ·have h1 := Int.emod_nonneg (c / 3) (show (2 * m - 1 : Int) ≠ 0 by omega)
  have h2 := Int.emod_lt_of_pos (c / 3) (show (0 : Int) < 2 * m - 1 by omega)
  exact ⟨d, .inl ⟨by decide, by decide⟩, by omega, q _ (by omega)⟩
 ·exact ⟨d, by decide, q _ (by omega)⟩
 ·exact ⟨d, by decide, q _ (by omega)⟩
def spMixed : Sp := fun vs H Q _ => ∃ (c : Int) (k : Nat), vs = [.int c, .int (k : Int)] ∧ k <= 10 ∧ ∀ n : Int, 0 <= n -> Q (.int n) H
theorem ok__law_mixed {P : Program} {w : World} {K : PySem.W.Frag} {mg : Str -> Option Value} {base : Heap} (T : Tx K mg) : FnOk P w K mg base CX0 1 T.a__law_mixed T.fd__law_mixed ["_law_cell", "_law_k"] spMixed := by
 refine T.F__law_mixed.ok sc__law_mixed (fun vs H Q E h => ?_) (fun cdv A outer s H vs Q E hr h => ?_)
 ·obtain ⟨c, k, rfl, _⟩ := h
  rfl
 obtain ⟨c, k, rfl, hk, q⟩ := h
 refine ⟨_, ((pss_cons (ps_if (pt_cmpR op_eq (pe_op op_mod (pv 0) pe_int) pe_int (nomark _)) (pss_cons (ps_set (i := 2) sc__law_mixed.nd rfl (Or.inl rfl) (pe_op op_fdiv (pe_callB call_abs rfl T.z_abs bt_abs (pa_cons (pv 0) pa_nil)) pe_int))
  (pss_cons (ps_for PassesOwn.never rfl (pi_range1 rfl T.z_range (pa_cons (pv 1) pa_nil)) (pg_name (i := 3) sc__law_mixed.nd rfl (Or.inl rfl)) (pss_one (ps_set (i := 2) sc__law_mixed.nd rfl (Or.inl rfl) (pe_op op_fdivB (pv 2) (pe_op op_pow pe_int pe_int)))))
  (pss_one (ps_ret (pv 2))))) pss_nil)
  (pss_cons (ps_set (i := 2) sc__law_mixed.nd rfl (Or.inl rfl) (pe_op op_mod (pe_op op_add (pv 0) (pe_op op_mul pe_int (pv 1))) pe_int))
  (pss_cons (ps_set (i := 2) sc__law_mixed.nd rfl (Or.inl rfl) (pe_op op_mod (pe_op op_add (pe_op op_add (pe_op op_mulZ (pv 2) (pv 2)) (pe_op op_mul pe_int (pv 2))) (pv 1)) pe_int))
  (pss_one (ps_ret (pe_op op_mod (pe_op op_mulZ (pv 2) (pv 2)) pe_int))))))), ?_⟩
 k_units
 have bd12 : ((10 : Int) ^ Int.toNat 12).natAbs < 2 ^ 9000 := Nat.lt_of_lt_of_le (show _ < 2 ^ 40 by decide) (Nat.pow_le_pow_right (by decide) (by decide))
 refine ⟨by decide, ite2 (fun h => ⟨⟨by decide, by decide⟩, by omega, by omega, ?_⟩) (fun h => ?_)⟩
 ·have h0 : 0 <= (if c < 0 then -c else c) / 2 := by split <;> omega
  generalize (if c < 0 then -c else c) / 2 = n0 at h0
  rw [Int.toNat_natCast]
  obtain ⟨Pv, hPv⟩ : ∃ Pv : Nat -> L2.St -> Hp -> Prop, ∀ i σ H', Pv i σ H' ↔ ∃ (n : Int) (r3 : Option V), σ = [some (V.int c), some (V.int (k : Int)), some (V.int n), r3] ∧ 0 <= n ∧ H' = H := ⟨_, fun _ _ _ => Iff.rfl⟩
  refine lp_range Pv ((hPv _ _ _).mpr ⟨n0, none, rfl, h0, rfl⟩) ?_ ?_
  ·intro i σ H' hi hp
   obtain ⟨n, r3, rfl, hn, rfl⟩ := (hPv _ _ _).mp hp
   k_units
   exact ⟨⟨by decide, by decide, by decide⟩, by decide, bd12, (hPv _ _ _).mpr ⟨n.fdiv ((10 : Int) ^ Int.toNat 12), _, rfl, Int.fdiv_nonneg hn (by decide), rfl⟩⟩
  ·intro σ H' hp
   obtain ⟨n, r3, rfl, hn, rfl⟩ := (hPv _ _ _).mp hp
   k_units
   exact q n hn
 ·obtain ⟨m, hm, m0, m1⟩ : ∃ m : Int, (c + 7919 * (k : Int)) % 2147483629 = m ∧ 0 <= m ∧ m < 2147483629 := ⟨_, rfl, by omega, by omega⟩
  rw [hm]
  obtain ⟨m', hm', m0', m1'⟩ : ∃ m' : Int, (m * m + 16807 * m + (k : Int)) % 2147483629 = m' ∧ 0 <= m' ∧ m' < 2147483629 := ⟨_, rfl, Int.emod_nonneg _ (by decide), Int.emod_lt_of_pos _ (by decide)⟩
  rw [hm']
  have bm : Bd 31 m := Bd.of_lt (m := 2147483629) (by omega) (by decide)
  have bm' : Bd 31 m' := Bd.of_lt (m := 2147483629) (by omega) (by decide)
  exact ⟨.inl ⟨by decide, by decide⟩, by decide, bm.fits bm (by decide), .inl ⟨by decide, by decide⟩, by decide, bm'.fits bm' (by decide), by decide, q _ (Int.emod_nonneg _ (by decide))⟩
def spIsFr (K : PySem.W.Frag) : Sp := fun vs H Q _ => ∃ (p : Addr) (x y : Int), vs = [.ref p] ∧ H p = some (.tup [.int x, .int y]) ∧ 1 <= y ∧ Q (.bl true) H
theorem ok__law_is_fraction {P : Program} {w : World} {K : PySem.W.Frag} {mg : Str -> Option Value} {base : Heap} (T : Tx K mg) : FnOk P w K mg base CX0 2 T.a__law_is_fraction T.fd__law_is_fraction ["_law_found"] (spIsFr K) := by
 refine T.F__law_is_fraction.ok sc__law_is_fraction (fun vs H Q E h => ?_) (fun cdv A outer s H vs Q E hr h => ?_)
 ·obtain ⟨p, x, y, rfl, _⟩ := h
  rfl
 obtain ⟨p, x, y, rfl, hp, y1, q⟩ := h
 refine ⟨_, ((pss_cons (ps_if (PW.pt (pw_or (pt_not (pt_val (pe_callB call_isinst rfl T.z_isinstance bt_isinstance (pa_cons (pv 0) (pa_cons (pe_bltn (v := .ty "tuple") rfl T.z_tuple bt_tuple rfl) pa_nil))))) (pw_or1 (pt_cmpR op_ne (pe_callB call_len_seq rfl T.z_len bt_len (pa_cons (pv 0) pa_nil)) pe_int (nomark _))))) (pss_one (ps_ret pe_bl)) pss_nil)
  (pss_one (ps_ret (pe_and (pe_call (FnOk.mono (ok__law_whole T) (by decide)) hr rfl T.m__law_whole T.F__law_whole.kp T.b__law_whole .nil pass0 (pa_cons (pe_ix ix_tup (pv 0) pe_int (fun _ _ => rfl)) pa_nil)) (pe_and (pe_call (FnOk.mono (ok__law_whole T) (by decide)) hr rfl T.m__law_whole T.F__law_whole.kp T.b__law_whole .nil pass0 (pa_cons (pe_ix ix_tup (pv 0) pe_int (fun _ _ => rfl)) pa_nil)) (pe_one (pe_cmpR op_gt (pe_ix ix_tup (pv 0) pe_int (fun _ _ => rfl)) pe_int (nomark _))))))))), ?_⟩
 k_units
 refine ⟨_, .tup hp, true, rfl, ?_⟩
 rw [if_neg (by decide)]
 refine ⟨_, .inr (SqT.of hp), ?_⟩
 rw [if_neg (by simp)]
 refine ⟨_, SqT.of hp, _, rfl, _, rfl, true, rfl, ?_⟩
 rw [if_pos rfl]
 refine ⟨_, SqT.of hp, _, rfl, _, rfl, true, rfl, ?_⟩
 rw [if_pos rfl]
 refine ⟨_, SqT.of hp, _, rfl, _, rfl, ?_⟩
 rw [decide_eq_true (show 0 < y by omega)]
 exact q
def pwL (x : Nat) (m : Nat) : List Int := (List.range m).map fun j => (x : Int) ^ j
theorem pwL_succ (x m : Nat) : pwL x (m + 1) = pwL x m ++ [(x : Int) ^ m] := by unfold pwL; rw [List.range_succ, List.map_append]; rfl
theorem pwL_len (x m : Nat) : (pwL x m).length = m := by unfold pwL; rw [List.length_map, List.length_range]
theorem pwL_at {x m j : Nat} (h : j < m) : (pwL x m)[j]? = some ((x : Int) ^ j) := by unfold pwL; rw [List.getElem?_map, List.getElem?_range h]; rfl
def spPat (K : PySem.W.Frag) : Sp := fun vs H Q _ => ∃ (a : Addr) (f : PD) (d B : Nat) (n k : Nat), vs = [.ref a, .int (n : Int), .int (k : Int)] ∧ DD H a f ∧ PdOk d B f ∧ d <= 60 ∧ B <= 1000000 ∧ n <= 31 ∧ k <= 31 ∧ ∀ H', Same H H' -> Q (.int (evD f n k)) H'
theorem ok__law_pair_at {P : Program} {w : World} {K : PySem.W.Frag} {mg : Str -> Option Value} {base : Heap} (T : Tx K mg) : FnOk P w K mg base CX0 2 T.a__law_pair_at T.fd__law_pair_at ["_law_some", "_law_n", "_law_k"] (spPat K) := by
 refine T.F__law_pair_at.ok sc__law_pair_at (fun vs H Q E h => ?_) (fun cdv A outer s H vs Q E hr h => ?_)
 ·obtain ⟨a, f, d, B, n, k, rfl, _⟩ := h
  rfl
 obtain ⟨a, f, d, B, n, k, rfl, ha, pf, d60, lB, hn, hk, q⟩ := h
 refine ⟨_, ((pss_cons (ps_set (i := 3) sc__law_pair_at.nd rfl (Or.inl rfl) (pe_lst (pa_cons pe_int (pa_cons pe_int pa_nil))))
  (pss_cons (ps_forD (ps_for PassesOwn.never rfl (pi_keys (pv 0)) (pg_name (i := 4) sc__law_pair_at.nd rfl (Or.inl rfl)) (pss_one (ps_set (i := 3) sc__law_pair_at.nd rfl (Or.inl rfl) (pe_lst (pa_cons (pe_callB (call_max2 rfl) rfl T.z_max bt_max (pa_cons (pe_ix ix_list (pv 3) pe_int (fun _ _ => rfl)) (pa_cons (pe_ix ix_tup (pv 4) pe_int (fun _ _ => rfl)) pa_nil))) (pa_cons (pe_callB (call_max2 rfl) rfl T.z_max bt_max (pa_cons (pe_ix ix_list (pv 3) pe_int (fun _ _ => rfl)) (pa_cons (pe_ix ix_tup (pv 4) pe_int (fun _ _ => rfl)) pa_nil))) pa_nil)))))))
  (pss_cons (ps_set (i := 5) sc__law_pair_at.nd rfl (Or.inl rfl) (pe_lst (pa_cons (pe_lst (pa_cons pe_int pa_nil)) (pa_cons (pe_lst (pa_cons pe_int pa_nil)) pa_nil))))
  (pss_cons (ps_for PassesOwn.never rfl (pi_range1 rfl T.z_range (pa_cons (pe_ix ix_list (pv 3) pe_int (fun _ _ => rfl)) pa_nil)) (pg_name (i := 6) sc__law_pair_at.nd rfl (Or.inl rfl)) (pss_one (ps_expr (pe_bm PySem.F.plainAttrs_list PySem.F.slot_list_append PySem.F.type_list_append mt_append (pe_ix ix_list (pv 5) pe_int (fun _ _ => rfl)) (pa_cons (pe_op op_mulZ (pe_ix ix_list (pe_ix ix_list (pv 5) pe_int (fun _ _ => rfl)) (pe_un un_neg pe_int) (fun _ _ => rfl)) (pv 1)) pa_nil)))))
  (pss_cons (ps_for PassesOwn.never rfl (pi_range1 rfl T.z_range (pa_cons (pe_ix ix_list (pv 3) pe_int (fun _ _ => rfl)) pa_nil)) (pg_name (i := 6) sc__law_pair_at.nd rfl (Or.inl rfl)) (pss_one (ps_expr (pe_bm PySem.F.plainAttrs_list PySem.F.slot_list_append PySem.F.type_list_append mt_append (pe_ix ix_list (pv 5) pe_int (fun _ _ => rfl)) (pa_cons (pe_op op_mulZ (pe_ix ix_list (pe_ix ix_list (pv 5) pe_int (fun _ _ => rfl)) (pe_un un_neg pe_int) (fun _ _ => rfl)) (pv 2)) pa_nil)))))
  (pss_cons (ps_set (i := 7) sc__law_pair_at.nd rfl (Or.inl rfl) pe_int)
  (pss_cons (ps_forD (ps_for PassesOwn.never rfl (pi_items (pv 0)) (pg_tup rfl (pgs_cons (pg_name (i := 4) sc__law_pair_at.nd rfl (Or.inl rfl)) (pgs_cons (pg_name (i := 8) sc__law_pair_at.nd rfl (Or.inl rfl)) pgs_nil))) (pss_one (ps_set (i := 7) sc__law_pair_at.nd rfl (Or.inl rfl) (pe_op op_add (pv 7) (pe_op op_mulZ (pe_op op_mulZ (pv 8) (pe_ix ix_list (pe_ix ix_list (pv 5) pe_int (fun _ _ => rfl)) (pe_ix ix_tup (pv 4) pe_int (fun _ _ => rfl)) (fun _ _ => rfl))) (pe_ix ix_list (pe_ix ix_list (pv 5) pe_int (fun _ _ => rfl)) (pe_ix ix_tup (pv 4) pe_int (fun _ _ => rfl)) (fun _ _ => rfl))))))))
  (pss_one (ps_ret (pv 7))))))))))), ?_⟩
 dsimp only [a_seq]
 k_typeOf
 refine ⟨by decide, fun M nM => ?_⟩
 dsimp only [a_seq]
 k_typeOf
 have u0 := same_upd nM (.lst [V.int 0, V.int 0])
 have ha0 := ha.same u0
 have eM0 := upd_same (H := H) (a := M) (o := .lst [V.int 0, V.int 0])
 have nMa : M ≠ a := fun w => by obtain ⟨oa, e⟩ := ha.some; rw [w, e] at nM; cases nM
 generalize L2.upd H M (.lst [V.int 0, V.int 0]) = G0 at u0 ha0 eM0 ⊢
 refine ⟨dz f, ha0, fun o tw => ?_⟩
 obtain ⟨Pv, hPv⟩ : ∃ Pv : Nat -> L2.St -> Hp -> Prop, ∀ i σ H', Pv i σ H' ↔ ∃ (m0 m1 : Nat) (Mr : Addr) (r4 : Option V), σ = [some (V.ref a), some (V.int (n : Int)), some (V.int (k : Int)), some (V.ref Mr), r4, none, none, none, none] ∧ H' Mr = some (.lst [V.int (m0 : Int), V.int (m1 : Int)]) ∧ m0 <= 60 ∧ m1 <= 60 ∧ (∀ x ∈ f.take i, x.1.1 <= m0 ∧ x.1.2 <= m1) ∧ Same (upd G0 a (.frz o (.dT (dz f)))) H' := ⟨_, fun _ _ _ => Iff.rfl⟩
 refine lp_keys Pv ((hPv _ _ _).mpr ⟨0, 0, M, none, rfl, by rw [upd_ne nMa]; exact eM0, by decide, by decide, fun x hx => by simp at hx, Same.refl _⟩) (fun i σ H' _ h => by obtain ⟨_, _, _, _, _, _, _, _, _, sS⟩ := (hPv _ _ _).mp h; exact sS _ _ upd_same) ?_ ?_
 ·intro i kk v c σ H' hk' hp hc
  obtain ⟨m0, m1, Mr, r4, rfl, eM, l0, l1, hx, sS⟩ := (hPv _ _ _).mp hp
  obtain ⟨y, hy, rfl, rfl⟩ := dz_get hk'
  have dy := pf.dg y (List.mem_of_getElem? hy)
  k_units
  refine ⟨_, SqL.of eM, _, rfl, _, SqT.of hc, _, rfl, _, rfl, _, rfl, _, SqL.of eM, _, rfl, _, SqT.of hc, _, rfl, _, rfl, _, rfl, by decide, fun N nN => (hPv _ _ _).mpr ⟨(if y.1.1 > (m0 : Int) then y.1.1 else (m0 : Int)).toNat, (if y.1.2 > (m1 : Int) then y.1.2 else (m1 : Int)).toNat, N, _, rfl, ?_, by split <;> omega, by split <;> omega, fun x hx' => ?_, sS.trans (same_upd nN _)⟩⟩
  ·rw [upd_same]
   have e1 : (((if y.1.1 > (m0 : Int) then y.1.1 else (m0 : Int)).toNat : Nat) : Int) = if y.1.1 > (m0 : Int) then y.1.1 else (m0 : Int) := by split <;> omega
   have e2 : (((if y.1.2 > (m1 : Int) then y.1.2 else (m1 : Int)).toNat : Nat) : Int) = if y.1.2 > (m1 : Int) then y.1.2 else (m1 : Int) := by split <;> omega
   rw [e1, e2]
  ·rw [take_snoc hy] at hx'
   rcases List.mem_append.mp hx' with h | h
   ·have := hx x h
    constructor
    ·split <;> omega
    ·split <;> omega
   ·rw [List.mem_singleton.mp h]
    constructor
    ·split <;> omega
    ·split <;> omega
 intro σ H' hp
 rw [len_dz] at hp
 obtain ⟨m0, m1, Mr, r4, rfl, eM, l0, l1, hx, sS⟩ := (hPv _ _ _).mp hp
 rw [List.take_length] at hx
 have nMr : Mr ≠ a := ne_of eM (sS _ _ upd_same) (fun w => nomatch w)
 refine ⟨G0, a, o, dz f, tw, sS _ _ upd_same, ?_⟩
 have s1 := u0.trans (same_bk sS)
 have eM1 : bkH G0 a H' Mr = some (.lst [V.int (m0 : Int), V.int (m1 : Int)]) := by rw [bk_ne nMr]; exact eM
 generalize bkH G0 a H' = G1 at s1 eM1 ⊢
 clear sS hp hPv Pv tw eM eM0 ha0 u0 nMa nMr
 dsimp only [a_seq]
 k_typeOf
 refine ⟨by decide, fun p1 n1 => ⟨by decide, fun p2 n2 => ⟨by decide, fun p3 n3 => ?_⟩⟩⟩
 have v1 := same_upd n1 (.lst [V.int 1])
 have v2 := same_upd n2 (.lst [V.int 1])
 have v3 := same_upd n3 (.lst [V.ref p1, V.ref p2])
 have e1 := (v2.trans v3) _ _ (upd_same (H := G1) (a := p1) (o := .lst [V.int 1]))
 have e2 := v3 _ _ (upd_same (H := L2.upd G1 p1 (.lst [V.int 1])) (a := p2) (o := .lst [V.int 1]))
 have e3 := upd_same (H := L2.upd (L2.upd G1 p1 (.lst [V.int 1])) p2 (.lst [V.int 1])) (a := p3) (o := .lst [V.ref p1, V.ref p2])
 have n12 : p2 ≠ p1 := fun w => by rw [w, upd_same] at n2; cases n2
 have n13 : p3 ≠ p1 := fun w => by rw [w, v2 _ _ upd_same] at n3; cases n3
 have n23 : p3 ≠ p2 := fun w => by rw [w, upd_same] at n3; cases n3
 have nM1 : Mr ≠ p1 := fun w => by rw [w, n1] at eM1; cases eM1
 have nM2 : Mr ≠ p2 := fun w => by rw [← w, v1 _ _ eM1] at n2; cases n2
 have f1 : H p1 = none := s1.free n1
 have f2 : H p2 = none := (s1.trans v1).free n2
 have s4 := ((s1.trans v1).trans v2).trans v3
 have eM4 := v3 _ _ (v2 _ _ (v1 _ _ eM1))
 generalize L2.upd (L2.upd (L2.upd G1 p1 (.lst [V.int 1])) p2 (.lst [V.int 1])) p3 (.lst [V.ref p1, V.ref p2]) = G4 at e1 e2 e3 s4 eM4 ⊢
 clear v1 v2 v3 n1 n2 n3 eM1 s1
 dsimp only [a_seq]
 k_typeOf
 refine ⟨_, SqL.of eM4, _, rfl, _, rfl, by omega, by omega, ?_⟩
 rw [Int.toNat_natCast]
 obtain ⟨Pw, hPw⟩ : ∃ Pw : Nat -> L2.St -> Hp -> Prop, ∀ i σ H', Pw i σ H' ↔ ∃ r6 : Option V, σ = [some (V.ref a), some (V.int (n : Int)), some (V.int (k : Int)), some (V.ref Mr), r4, some (V.ref p3), r6, none, none] ∧ H' p1 = some (.lst ((pwL n (i + 1)).map V.int)) ∧ H' p2 = some (.lst [V.int 1]) ∧ H' p3 = some (.lst [V.ref p1, V.ref p2]) ∧ H' Mr = some (.lst [V.int (m0 : Int), V.int (m1 : Int)]) ∧ Same H H' := ⟨_, fun _ _ _ => Iff.rfl⟩
 refine lp_range Pw ((hPw _ _ _).mpr ⟨none, rfl, e1, e2, e3, eM4, s4⟩) ?_ ?_
 ·intro i σ H' hi hp
  obtain ⟨r6, rfl, g1, g2, g3, gM, sS⟩ := (hPw _ _ _).mp hp
  k_units
  have bn : Bd 5 (n : Int) := Bd.of_lt (m := 32) (by omega) (by decide)
  have li : i < 60 := by omega
  refine ⟨_, SqL.of g3, _, rfl, a_tyL (SqL.of g1), _, SqL.of g3, _, rfl, _, rfl, _, SqL.of g1, V.int ((n : Int) ^ i), by rw [pwL_succ, List.map_append]; exact atI_last _ _, _, rfl, (bd_pw bn i).fits bn (by omega), _, rfl, _, g1, by rw [List.length_map, pwL_len]; exact small1000 (by omega), (hPw _ _ _).mpr ⟨_, rfl, ?_, by rw [upd_ne n12]; exact g2, by rw [upd_ne n13]; exact g3, by rw [upd_ne nM1]; exact gM, sS.more f1⟩⟩
  rw [upd_same, pwL_succ n (i + 1), List.map_append]; rfl
 intro σ H' hp
 obtain ⟨r6, rfl, g1, g2, g3, gM, sS⟩ := (hPw _ _ _).mp hp
 clear hp hPw Pw e1 e2 e3 eM4 s4
 dsimp only [a_seq]
 k_typeOf
 refine ⟨_, SqL.of gM, _, rfl, _, rfl, by omega, by omega, ?_⟩
 rw [Int.toNat_natCast]
 obtain ⟨Pw, hPw⟩ : ∃ Pw : Nat -> L2.St -> Hp -> Prop, ∀ i σ H', Pw i σ H' ↔ ∃ r6 : Option V, σ = [some (V.ref a), some (V.int (n : Int)), some (V.int (k : Int)), some (V.ref Mr), r4, some (V.ref p3), r6, none, none] ∧ H' p1 = some (.lst ((pwL n (m0 + 1)).map V.int)) ∧ H' p2 = some (.lst ((pwL k (i + 1)).map V.int)) ∧ H' p3 = some (.lst [V.ref p1, V.ref p2]) ∧ Same H H' := ⟨_, fun _ _ _ => Iff.rfl⟩
 refine lp_range Pw ((hPw _ _ _).mpr ⟨r6, rfl, g1, g2, g3, sS⟩) ?_ ?_
 ·intro i σ H' hi hp
  obtain ⟨r6, rfl, g1, g2, g3, sS⟩ := (hPw _ _ _).mp hp
  k_units
  have bn : Bd 5 (k : Int) := Bd.of_lt (m := 32) (by omega) (by decide)
  have li : i < 60 := by omega
  refine ⟨_, SqL.of g3, _, rfl, a_tyL (SqL.of g2), _, SqL.of g3, _, rfl, _, rfl, _, SqL.of g2, V.int ((k : Int) ^ i), by rw [pwL_succ, List.map_append]; exact atI_last _ _, _, rfl, (bd_pw bn i).fits bn (by omega), _, rfl, _, g2, by rw [List.length_map, pwL_len]; exact small1000 (by omega), (hPw _ _ _).mpr ⟨_, rfl, by rw [upd_ne (Ne.symm n12)]; exact g1, ?_, by rw [upd_ne n23]; exact g3, sS.more f2⟩⟩
  rw [upd_same, pwL_succ k (i + 1), List.map_append]; rfl
 clear g1 g2 g3 sS
 intro σ H' hp
 obtain ⟨r6', rfl, g1, g2, g3, sS⟩ := (hPw _ _ _).mp hp
 clear hp hPw Pw
 dsimp only [a_seq]
 k_typeOf
 dsimp only [a_seq]
 k_typeOf
 refine ⟨dz f, ha.same sS, fun o2 tw2 => ?_⟩
 obtain ⟨oa, ea⟩ := ha.some
 have na1 : p1 ≠ a := fun w => by rw [w, ea] at f1; cases f1
 have na2 : p2 ≠ a := fun w => by rw [w, ea] at f2; cases f2
 have na3 : p3 ≠ a := fun w => by
  rcases ha.same sS with e | ⟨o', e⟩ <;> (rw [w, e] at g3; cases g3)
 obtain ⟨Pz, hPz⟩ : ∃ Pz : Nat -> L2.St -> Hp -> Prop, ∀ i σ H'', Pz i σ H'' ↔ ∃ r4 r8 : Option V, σ = [some (V.ref a), some (V.int (n : Int)), some (V.int (k : Int)), some (V.ref Mr), r4, some (V.ref p3), r6', some (V.int (evD (f.take i) n k)), r8] ∧ H'' p1 = some (.lst ((pwL n (m0 + 1)).map V.int)) ∧ H'' p2 = some (.lst ((pwL k (m1 + 1)).map V.int)) ∧ H'' p3 = some (.lst [V.ref p1, V.ref p2]) ∧ Same (upd H' a (.frz o2 (.dT (dz f)))) H'' := ⟨_, fun _ _ _ => Iff.rfl⟩
 refine lp_items Pz ((hPz _ _ _).mpr ⟨r4, none, rfl, by rw [upd_ne na1]; exact g1, by rw [upd_ne na2]; exact g2, by rw [upd_ne na3]; exact g3, Same.refl _⟩) (fun i σ H'' _ h => by obtain ⟨_, _, _, _, _, _, sS⟩ := (hPz _ _ _).mp h; exact sS _ _ upd_same) ?_ ?_
 ·intro i kk x t c σ H'' hkk hp nt hc
  obtain ⟨q4, q8, rfl, j1, j2, j3, sS2⟩ := (hPz _ _ _).mp hp
  obtain ⟨y, hy, rfl, rfl⟩ := dz_get hkk
  have dy := pf.dg y (List.mem_of_getElem? hy)
  have my := hx y (List.mem_of_getElem? hy)
  have by' : Bd (B + 1) y.2 := Nat.lt_of_le_of_lt (pf.sz y (List.mem_of_getElem? hy)) (Nat.pow_lt_pow_right (by decide) (Nat.lt_succ_self _))
  have u1 := same_upd nt (.tup [V.ref c, V.int y.2])
  have bn : Bd 301 ((n : Int) ^ y.1.1.toNat) := (bd_pw (Bd.of_lt (m := 32) (k := 5) (by omega) (by decide)) _).mono (by omega)
  have bk : Bd 301 ((k : Int) ^ y.1.2.toNat) := (bd_pw (Bd.of_lt (m := 32) (k := 5) (by omega) (by decide)) _).mono (by omega)
  have a1 : atI ((pwL n (m0 + 1)).map V.int) y.1.1 = some (V.int ((n : Int) ^ y.1.1.toNat)) := by
   have := atI_nat (xs := (pwL n (m0 + 1)).map V.int) (j := y.1.1.toNat) (v := V.int ((n : Int) ^ y.1.1.toNat)) (by rw [List.getElem?_map, pwL_at (by omega)]; rfl)
   rw [Int.toNat_of_nonneg (by omega)] at this; exact this
  have a2 : atI ((pwL k (m1 + 1)).map V.int) y.1.2 = some (V.int ((k : Int) ^ y.1.2.toNat)) := by
   have := atI_nat (xs := (pwL k (m1 + 1)).map V.int) (j := y.1.2.toNat) (v := V.int ((k : Int) ^ y.1.2.toNat)) (by rw [List.getElem?_map, pwL_at (by omega)]; rfl)
   rw [Int.toNat_of_nonneg (by omega)] at this; exact this
  k_units
  refine ⟨_, SqT.of upd_same, rfl, _, _, rfl, _, _, rfl, rfl, ?_⟩
  have hc1 := u1 _ _ hc
  have i1 := u1 _ _ j1
  have i2 := u1 _ _ j2
  have i3 := u1 _ _ j3
  have sS3 := sS2.trans u1
  generalize upd H'' t (.tup [V.ref c, V.int y.2]) = G5 at hc1 i1 i2 i3 sS3 ⊢
  refine ⟨_, SqL.of i3, _, rfl, _, rfl, _, SqT.of hc1, _, rfl, _, rfl, _, _, rfl, SqL.of i1, _, a1, _, rfl, _, rfl, by'.fits bn (by omega), _, SqL.of i3, _, rfl, _, rfl, _, SqT.of hc1, _, rfl, _, rfl, _, _, rfl, SqL.of i2, _, a2, ?_⟩
  have ev : evD (f.take (i + 1)) n k = evD (f.take i) n k + y.2 * (n : Int) ^ y.1.1.toNat * (k : Int) ^ y.1.2.toNat := by
   rw [take_snoc hy]
   unfold evD
   rw [wtD_app, wtD_cons, wtD_nil]
   unfold mon
   rw [Int.add_zero, Int.mul_assoc]
  exact ⟨_, rfl, (by'.mul bn).fits bk (by omega), (hPz _ _ _).mpr ⟨some (V.ref c), some (V.int y.2), by rw [ev], i1, i2, i3, sS3⟩⟩
 intro σ H'' hp
 rw [len_dz] at hp
 obtain ⟨q4, q8, rfl, j1, j2, j3, sS2⟩ := (hPz _ _ _).mp hp
 rw [List.take_length]
 refine ⟨H', a, o2, dz f, tw2, sS2 _ _ upd_same, ?_⟩
 k_units
 exact q _ (sS.trans (same_bk sS2))
def mkPt (H : Hp) (Q : VK) (p : Prt) : Prop := ∀ (r : Addr) (H' : Hp), Same H H' -> PtAt H' r p -> Q (.ref r) H'
def spFms : Sp := fun vs H Q _ => ∃ a b m : Int, vs = [.int a, .int b, .int m] ∧ 1 <= m ∧ m <= 3 ∧ 0 <= a ∧ 0 <= b ∧ ∀ h l, ChoOk h l -> mkPt H Q (.cho h l)
theorem ok__law_forms {P : Program} {w : World} {K : PySem.W.Frag} {mg : Str -> Option Value} {base : Heap} (T : Tx K mg) : FnOk P w K mg base CX0 1 T.a__law_forms T.fd__law_forms ["_law_one", "_law_other", "_law_most"] spFms := by
 refine T.F__law_forms.ok sc__law_forms (fun vs H Q E h => ?_) (fun cdv A outer s H vs Q E hr h => ?_)
 ·obtain ⟨a, b, m, rfl, _⟩ := h
  rfl
 obtain ⟨a, b, m, rfl, m1, m3, ha, hb, k⟩ := h
 refine ⟨_, ((pss_cons (ps_set (i := 3) sc__law_forms.nd rfl (Or.inl rfl) (pe_tup (pa_cons (pe_op op_mod (pv 0) (pe_op op_add (pv 2) pe_int)) (pa_cons (pe_op op_mod (pe_op op_fdiv (pv 0) pe_int) (pe_op op_add (pv 2) pe_int)) (pa_cons (pe_op op_mod (pe_op op_fdiv (pv 0) pe_int) pe_int) pa_nil)))))
  (pss_mid (ps_if (pt_cmpR op_eq (pe_op op_mod (pe_op op_fdiv (pv 0) pe_int) pe_int) pe_int (nomark _)) (pss_one (ps_set (i := 4) sc__law_forms.nd rfl (Or.inl rfl) (pe_tup (pa_cons (pe_op op_mod (pv 1) (pe_op op_add (pe_ix ix_tup (pv 3) pe_int (fun _ _ => rfl)) pe_int)) (pa_cons (pe_op op_sub (pe_op op_mod (pe_op op_fdiv (pv 1) pe_int) pe_int) pe_int) (pa_cons (pe_op op_mod (pe_op op_fdiv (pv 1) pe_int) (pe_op op_add (pe_ix ix_tup (pv 3) pe_int (fun _ _ => rfl)) pe_int)) pa_nil)))))) (pss_one (ps_set (i := 4) sc__law_forms.nd rfl (Or.inl rfl) (pe_tup (pa_cons (pe_op op_sub (pe_op op_mod (pv 1) (pe_op op_add (pe_op op_mul pe_int (pv 2)) pe_int)) (pv 2)) (pa_cons (pe_op op_sub (pe_op op_mod (pe_op op_fdiv (pv 1) pe_int) (pe_op op_add (pe_op op_mul pe_int (pv 2)) pe_int)) (pv 2)) (pa_cons (pe_op op_sub (pe_op op_mod (pe_op op_fdiv (pv 1) pe_int) pe_int) pe_int) pa_nil)))))))
  (pss_mid (ps_if (PW.pt (pw_and (pt_cmpR op_eq (pe_ix ix_tup (pv 4) pe_int (fun _ _ => rfl)) pe_int (nomark _)) (pw_and1 (pt_cmpR op_lt (pe_ix ix_tup (pv 4) pe_int (fun _ _ => rfl)) pe_int (nomark _))))) (pss_one (ps_set (i := 4) sc__law_forms.nd rfl (Or.inl rfl) (pe_tup (pa_cons pe_int (pa_cons (pe_un un_neg (pe_ix ix_tup (pv 4) pe_int (fun _ _ => rfl))) (pa_cons (pe_ix ix_tup (pv 4) pe_int (fun _ _ => rfl)) pa_nil)))))) pss_nil)
  (pss_mid (ps_if (PW.pt (pw_and (pt_cmpR op_eq (pe_ix ix_tup (pv 4) pe_int (fun _ _ => rfl)) (pe_ix ix_tup (pv 3) pe_int (fun _ _ => rfl)) (nomark _)) (pw_and1 (pt_cmpR op_gt (pe_ix ix_tup (pv 4) pe_int (fun _ _ => rfl)) (pe_ix ix_tup (pv 3) pe_int (fun _ _ => rfl)) (nomark _))))) (pss_one (ps_set (i := 4) sc__law_forms.nd rfl (Or.inl rfl) (pe_tup (pa_cons (pe_ix ix_tup (pv 4) pe_int (fun _ _ => rfl)) (pa_cons (pe_ix ix_tup (pv 3) pe_int (fun _ _ => rfl)) (pa_cons (pe_ix ix_tup (pv 4) pe_int (fun _ _ => rfl)) pa_nil)))))) pss_nil)
  (pss_one (ps_ret (pe_tup (pa_cons pe_str (pa_cons (pv 3) (pa_cons (pv 4) pa_nil))))))))))), ?_⟩
 have d : ∀ c : Int, 0 < c -> c < 2 ^ 30 -> CDiv a c ∧ CDiv b c := fun c h1 h2 => ⟨⟨h1, h2⟩, ⟨h1, h2⟩⟩
 dsimp only [a_seq]
 k_typeOf
 refine ⟨by omega, (d _ (by decide) (by decide)).1, by omega, (d _ (by decide) (by decide)).1, by decide, by decide, fun p np => ?_⟩
 obtain ⟨h, hh⟩ : ∃ h : Int × Int × Int, h = (a % (m + 1), a / 4 % (m + 1), a / 16 % 10) := ⟨_, rfl⟩
 have hb' : 0 <= h.1 ∧ h.1 <= 3 ∧ 0 <= h.2.1 ∧ h.2.1 <= 3 ∧ 0 <= h.2.2 ∧ h.2.2 <= 9 := by
  have f1 := Int.emod_nonneg a (show m + 1 ≠ 0 by omega)
  have f2 := Int.emod_lt_of_pos a (show 0 < m + 1 by omega)
  have f3 := Int.emod_nonneg (a / 4) (show m + 1 ≠ 0 by omega)
  have f4 := Int.emod_lt_of_pos (a / 4) (show 0 < m + 1 by omega)
  rw [hh]; refine ⟨?_, ?_, ?_, ?_, ?_, ?_⟩ <;> (dsimp only; omega)
 obtain ⟨G, hG⟩ : ∃ G, G = L2.upd H p (.tup [V.int (a % (m + 1)), V.int (a / 4 % (m + 1)), V.int (a / 16 % 10)]) := ⟨_, rfl⟩
 have gp : G p = some (T3 h) := by rw [hG, hh]; exact upd_same
 have s0 : Same H G := by rw [hG]; exact same_upd np _
 rw [← hG]
 clear hG hh
 obtain ⟨M, hM⟩ : ∃ M : (Int × Int × Int -> Prop) -> L2.St -> Hp -> Prop, ∀ C σ H', M C σ H' ↔ ∃ (q : Addr) (l : Int × Int × Int), σ = [some (V.int a), some (V.int b), some (V.int m), some (V.ref p), some (V.ref q)] ∧ H' q = some (T3 l) ∧ (-3 <= l.1 ∧ l.1 <= 3 ∧ -3 <= l.2.1 ∧ l.2.1 <= 3 ∧ -9 <= l.2.2 ∧ l.2.2 <= 9) ∧ C l ∧ Same G H' := ⟨_, fun _ _ _ => Iff.rfl⟩
 refine mid_of (M fun _ => True) ?_ ?_
 ·k_units
  refine ⟨(d _ (by decide) (by decide)).1, by decide, ite2 (fun z => ?_) (fun z => ?_)⟩
  ·refine ⟨_, SqT.of gp, _, rfl, _, rfl, by omega, (d _ (by decide) (by decide)).2, by decide, (d _ (by decide) (by decide)).2, _, SqT.of gp, _, rfl, _, rfl, by omega, by decide, fun q nq => ?_⟩
   have e1 := Int.emod_nonneg b (show h.1 + 1 ≠ 0 by omega)
   have e2 := Int.emod_lt_of_pos b (show 0 < h.1 + 1 by omega)
   have e3 := Int.emod_nonneg (b / 12) (show h.2.2 + 1 ≠ 0 by omega)
   have e4 := Int.emod_lt_of_pos (b / 12) (show 0 < h.2.2 + 1 by omega)
   exact (hM _ _ _).mpr ⟨q, (b % (h.1 + 1), b / 4 % 3 - 1, b / 12 % (h.2.2 + 1)), rfl, upd_same, ⟨by dsimp only; omega, by dsimp only; omega, by dsimp only; omega, by dsimp only; omega, by dsimp only; omega, by dsimp only; omega⟩, trivial, same_upd nq _⟩
  ·refine ⟨.inl ⟨by decide, by decide⟩, by omega, (d _ (by decide) (by decide)).2, .inl ⟨by decide, by decide⟩, by omega, (d _ (by decide) (by decide)).2, by decide, by decide, fun q nq => ?_⟩
   have e1 := Int.emod_nonneg b (show 2 * m + 1 ≠ 0 by omega)
   have e2 := Int.emod_lt_of_pos b (show 0 < 2 * m + 1 by omega)
   have e3 := Int.emod_nonneg (b / 7) (show 2 * m + 1 ≠ 0 by omega)
   have e4 := Int.emod_lt_of_pos (b / 7) (show 0 < 2 * m + 1 by omega)
   exact (hM _ _ _).mpr ⟨q, (b % (2 * m + 1) - m, b / 7 % (2 * m + 1) - m, b / 49 % 19 - 9), rfl, upd_same, ⟨by dsimp only; omega, by dsimp only; omega, by dsimp only; omega, by dsimp only; omega, by dsimp only; omega, by dsimp only; omega⟩, trivial, same_upd nq _⟩
 intro σ H1 hm
 obtain ⟨q, l, rfl, eq, lb, _, s1⟩ := (hM _ _ _).mp hm
 refine mid_of (M fun l => ¬ (l.1 = 0 ∧ l.2.1 < 0)) ?_ ?_
 ·k_units
  refine ⟨_, SqT.of eq, _, rfl, ?_⟩
  k_units
  refine ite2 (fun z => ⟨_, SqT.of eq, _, rfl, ?_⟩) (fun z => (hM _ _ _).mpr ⟨q, l, rfl, eq, lb, fun y => z y.1, s1⟩)
  k_units
  refine ite2 (fun z2 => ?_) (fun z2 => (hM _ _ _).mpr ⟨q, l, rfl, eq, lb, fun y => z2 y.2, s1⟩)
  exact ⟨_, SqT.of eq, _, rfl, _, rfl, _, SqT.of eq, _, rfl, by decide, fun q2 nq2 => (hM _ _ _).mpr ⟨q2, (0, -l.2.1, l.2.2), rfl, upd_same, ⟨by dsimp only; omega, by dsimp only; omega, by dsimp only; omega, by dsimp only; omega, by dsimp only; omega, by dsimp only; omega⟩, by dsimp only; omega, s1.trans (same_upd nq2 _)⟩⟩
 clear hm lb eq s1
 intro σ H1 hm
 obtain ⟨q, l, rfl, eq, lb, c1, s1⟩ := (hM _ _ _).mp hm
 refine mid_of (M fun l => ¬ (l.1 = 0 ∧ l.2.1 < 0) ∧ ¬ (h.1 - l.1 = 0 ∧ h.2.1 - l.2.1 < 0)) ?_ ?_
 ·k_units
  refine ⟨_, SqT.of eq, _, rfl, _, SqT.of (s1 _ _ gp), _, rfl, ?_⟩
  k_units
  refine ite2 (fun z => ⟨_, SqT.of eq, _, rfl, _, SqT.of (s1 _ _ gp), _, rfl, _, rfl, _, rfl, ite2 (fun z2 => ?_) (fun z2 => (hM _ _ _).mpr ⟨q, l, rfl, eq, lb, ⟨c1, fun y => z2 (by omega)⟩, s1⟩)⟩) (fun z => (hM _ _ _).mpr ⟨q, l, rfl, eq, lb, ⟨c1, fun y => z (by omega)⟩, s1⟩)
  exact ⟨_, SqT.of eq, _, rfl, _, SqT.of (s1 _ _ gp), _, rfl, _, SqT.of eq, _, rfl, by decide, fun q2 nq2 => (hM _ _ _).mpr ⟨q2, (l.1, h.2.1, l.2.2), rfl, upd_same, ⟨by dsimp only; omega, by dsimp only; omega, by dsimp only; omega, by dsimp only; omega, by dsimp only; omega, by dsimp only; omega⟩, by dsimp only; omega, s1.trans (same_upd nq2 _)⟩⟩
 clear hm lb eq s1
 intro σ H1 hm
 obtain ⟨q, l, rfl, eq, lb, ⟨c1, c2⟩, s1⟩ := (hM _ _ _).mp hm
 k_units
 exact ⟨by decide, fun r nr => k h l ⟨hb', lb, c1, c2⟩ r _ ((s0.trans s1).trans (same_upd nr _)) ⟨p, q, upd_same, same_upd nr _ _ _ (s1 _ _ gp), same_upd nr _ _ _ eq⟩⟩
def spRat : Sp := fun vs H Q _ => ∃ a b : Int, vs = [.int a, .int b] ∧ ∀ f : Int × Int, Frc f -> f.1 ≠ 0 -> Bd 70 f.1 -> Bd 20 f.2 -> ∀ (r : Addr) (H' : Hp), Same H H' -> H' r = some (T2 f) -> Q (.ref r) H'
theorem ok__law_ratio {P : Program} {w : World} {K : PySem.W.Frag} {mg : Str -> Option Value} {base : Heap} (T : Tx K mg) : FnOk P w K mg base CX0 2 T.a__law_ratio T.fd__law_ratio ["_law_one", "_law_other"] spRat := by
 refine T.F__law_ratio.ok sc__law_ratio (fun vs H Q E h => ?_) (fun cdv A outer s H vs Q E hr h => ?_)
 ·obtain ⟨a, b, rfl, _⟩ := h
  rfl
 obtain ⟨a, b, rfl, k⟩ := h
 refine ⟨_, ((pss_cons (ps_set (i := 2) sc__law_ratio.nd rfl (Or.inl rfl) (pe_call (FnOk.mono (ok__law_number T) (by decide)) hr rfl T.m__law_number T.F__law_number.kp T.b__law_number .nil pass0 (pa_cons (pv 0) (pa_cons (pe_op op_pow pe_int pe_int) pa_nil))))
  (pss_mid (ps_if (pt_cmpR op_eq (pv 2) pe_int (nomark _)) (pss_one (ps_set (i := 2) sc__law_ratio.nd rfl (Or.inl rfl) pe_int)) pss_nil)
  (pss_cons (ps_set (i := 3) sc__law_ratio.nd rfl (Or.inl rfl) (pe_call (FnOk.mono (ok__law_mixed T) (by decide)) hr rfl T.m__law_mixed T.F__law_mixed.kp T.b__law_mixed .nil pass0 (pa_cons (pv 1) (pa_cons pe_int pa_nil))))
  (pss_cons (ps_set (i := 4) sc__law_ratio.nd rfl (Or.inl rfl) (pe_ix ix_list (pe_lst (pa_cons pe_int (pa_cons (pe_op op_add pe_int (pe_op op_mod (pe_op op_fdiv (pv 3) pe_int) pe_int)) (pa_cons (pe_op op_add pe_int (pe_op op_mod (pe_op op_fdiv (pv 3) pe_int) (pe_op op_pow pe_int pe_int))) pa_nil)))) (pe_op op_mod (pv 3) pe_int) (fun _ _ => rfl)))
  (pss_cons (ps_set (i := 5) sc__law_ratio.nd rfl (Or.inl rfl) (pe_call (FnOk.mono (ok__law_divisor T) (by decide)) hr rfl T.m__law_divisor T.F__law_divisor.kp T.b__law_divisor .nil pass0 (pa_cons (pv 2) (pa_cons (pv 4) pa_nil))))
  (pss_one (ps_ret (pe_tup (pa_cons (pe_op op_fdivB (pv 2) (pv 5)) (pa_cons (pe_op op_fdivB (pv 4) (pv 5)) pa_nil))))))))))), ?_⟩
 dsimp only [a_seq]
 k_typeOf
 refine ⟨⟨by decide, by decide, by decide⟩, a, _, rfl, .inr rfl, fun t ht => ?_⟩
 obtain ⟨M, hM⟩ : ∃ M : L2.St -> Hp -> Prop, ∀ σ H', M σ H' ↔ ∃ t : Int, σ = [some (V.int a), some (V.int b), some (V.int t), none, none, none] ∧ t ≠ 0 ∧ Bd 70 t ∧ H' = H := ⟨_, fun _ _ => Iff.rfl⟩
 have bt : Bd 70 t := Nat.lt_of_lt_of_le ht (by decide)
 refine mid_of M ?_ ?_
 ·k_units
  exact ite2 (fun z => (hM _ _).mpr ⟨1, rfl, by decide, Bd.one (by decide), rfl⟩) (fun z => (hM _ _).mpr ⟨t, rfl, z, bt, rfl⟩)
 clear bt ht
 intro σ H1 hm
 obtain ⟨t', rfl, t0, bt, rfl⟩ := (hM _ _).mp hm
 dsimp only [a_seq]
 k_typeOf
 refine ⟨b, 3, rfl, by decide, fun m hm0 => ?_⟩
 dsimp only [a_seq]
 k_typeOf
 refine ⟨⟨by decide, by decide⟩, by decide, ⟨by decide, by decide⟩, ⟨by decide, by decide, by decide⟩, by decide, by decide, fun p np => ⟨by decide, _, SqL.of upd_same, ?_⟩⟩
 have e6 : (10 : Int) ^ Int.toNat 6 = 1000000 := rfl
 obtain ⟨bo, hbo, b1, b2⟩ : ∃ bo : Int, atI [V.int 1, V.int (1 + m / 3 % 9), V.int (1 + m / 3 % (10 : Int) ^ Int.toNat 6)] (m % 3) = some (V.int bo) ∧ 1 <= bo ∧ bo <= 1000000 := by
  rw [e6]
  have : m % 3 = 0 ∨ m % 3 = 1 ∨ m % 3 = 2 := by omega
  rcases this with z | z | z <;> rw [z]
  ·exact ⟨_, rfl, by omega, by omega⟩
  ·exact ⟨_, rfl, by omega, by omega⟩
  ·exact ⟨_, rfl, by omega, by omega⟩
 refine ⟨_, hbo, ?_⟩
 clear hbo
 have u1 := same_upd np (.lst [V.int 1, V.int (1 + m / 3 % 9), V.int (1 + m / 3 % (10 : Int) ^ Int.toNat 6)])
 generalize L2.upd H1 p (.lst [V.int 1, V.int (1 + m / 3 % 9), V.int (1 + m / 3 % (10 : Int) ^ Int.toNat 6)]) = G at u1
 dsimp only [a_seq]
 k_typeOf
 refine ⟨t', bo, rfl, ?_⟩
 k_units
 obtain ⟨g1, g2, g3, g4, g5, g6⟩ := gcd_split (t := t') (b := bo) (s := ((Nat.gcd t'.natAbs bo.natAbs : Nat) : Int)) (by omega) (by rw [if_neg (by omega)])
 have small : (((Nat.gcd t'.natAbs bo.natAbs : Nat) : Int)).natAbs < 2 ^ 9000 := by
  rw [Int.natAbs_natCast]
  exact Nat.lt_of_le_of_lt (Nat.gcd_le_right _ (by omega)) (Nat.lt_of_le_of_lt (show bo.natAbs <= 1000000 by omega) (Nat.lt_of_lt_of_le (show 1000000 < 2 ^ 20 by decide) (Nat.pow_le_pow_right (by decide) (by decide))))
 have f0 : t'.fdiv ((Nat.gcd t'.natAbs bo.natAbs : Nat) : Int) ≠ 0 := fun z => by rw [z] at g3; omega
 refine ⟨g1, small, g1, small, by decide, fun r nr => k (_, _) ⟨g5, g6⟩ f0 (bd_le (fdiv_le g1 g3) bt) (bd_le (fdiv_le g1 g4) (Bd.of_lt (m := 1000001) (by omega) (by decide))) r _ (u1.trans (same_upd nr _)) upd_same⟩
theorem ite3 {a b X Y : Prop} [Decidable a] [Decidable b] (h1 : a -> b -> X) (h2 : Y) : if a then (if b then X else Y) else Y := by
 by_cases ha : a
 ·rw [if_pos ha]
  by_cases hb : b
  ·rw [if_pos hb]; exact h1 ha hb
  ·rw [if_neg hb]; exact h2
 ·rw [if_neg ha]; exact h2
def isCho : Prt -> Bool
 | .cho _ _ => true
 | _ => false
def spPrt (K : PySem.W.Frag) : Sp := fun vs H Q _ => ∃ (A : Addr) (x y z m : Int), vs = [.ref A, .int m] ∧ H A = some (.lst [.int x, .int y, .int z]) ∧ 0 <= m ∧ m <= 3 ∧ ∀ p, PrtOk p -> (isCho p = true -> m ≠ 0) -> mkPt H Q p
theorem ok__law_part {P : Program} {w : World} {K : PySem.W.Frag} {mg : Str -> Option Value} {base : Heap} (T : Tx K mg) : FnOk P w K mg base CX0 3 T.a__law_part T.fd__law_part ["_law_cells", "_law_most"] (spPrt K) := by
 refine T.F__law_part.ok sc__law_part (fun vs H Q E h => ?_) (fun cdv A outer s H vs Q E hr h => ?_)
 ·obtain ⟨A, x, y, z, m, rfl, _⟩ := h
  rfl
 obtain ⟨A, x, y, z, m, rfl, hA, hm0, hm3, k⟩ := h
 refine ⟨_, ((pss_cons (ps_set (i := 2) sc__law_part.nd rfl (Or.inl rfl) (pe_op op_mod (pe_call (FnOk.mono (ok__law_mixed T) (by decide)) hr rfl T.m__law_mixed T.F__law_mixed.kp T.b__law_mixed .nil pass0 (pa_cons (pe_ix ix_list (pv 0) pe_int (fun _ _ => rfl)) (pa_cons pe_int pa_nil))) pe_int))
  (pss_cons (ps_if (PW.pt (pw_and (pt_cmpR op_lt (pv 2) pe_int (nomark _)) (pw_and1 (pt_cmpR op_gt (pv 1) pe_int (nomark _))))) (pss_one (ps_ret (pe_call (FnOk.mono (ok__law_forms T) (by decide)) hr rfl T.m__law_forms T.F__law_forms.kp T.b__law_forms .nil pass0 (pa_cons (pe_call (FnOk.mono (ok__law_mixed T) (by decide)) hr rfl T.m__law_mixed T.F__law_mixed.kp T.b__law_mixed .nil pass0 (pa_cons (pe_ix ix_list (pv 0) pe_int (fun _ _ => rfl)) (pa_cons pe_int pa_nil))) (pa_cons (pe_call (FnOk.mono (ok__law_mixed T) (by decide)) hr rfl T.m__law_mixed T.F__law_mixed.kp T.b__law_mixed .nil pass0 (pa_cons (pe_ix ix_list (pv 0) pe_int (fun _ _ => rfl)) (pa_cons pe_int pa_nil))) (pa_cons (pv 1) pa_nil)))))) pss_nil)
  (pss_cons (ps_if (pt_cmpR op_eq (pv 2) pe_int (nomark _)) (pss_one (ps_ret (pe_tup (pa_cons pe_str (pa_cons (pe_call (FnOk.mono (ok__law_ratio T) (by decide)) hr rfl T.m__law_ratio T.F__law_ratio.kp T.b__law_ratio .nil pass0 (pa_cons (pe_ix ix_list (pv 0) pe_int (fun _ _ => rfl)) (pa_cons (pe_ix ix_list (pv 0) pe_int (fun _ _ => rfl)) pa_nil))) pa_nil))))) pss_nil)
  (pss_cons (ps_if (pt_cmpR op_eq (pv 2) pe_int (nomark _)) (pss_one (ps_ret (pe_tup (pa_cons pe_str (pa_cons (pe_call (FnOk.mono (ok__law_ratio T) (by decide)) hr rfl T.m__law_ratio T.F__law_ratio.kp T.b__law_ratio .nil pass0 (pa_cons (pe_ix ix_list (pv 0) pe_int (fun _ _ => rfl)) (pa_cons (pe_ix ix_list (pv 0) pe_int (fun _ _ => rfl)) pa_nil))) pa_nil))))) pss_nil)
  (pss_one (ps_ret (pe_tup (pa_cons pe_str (pa_cons (pe_callTy call_tuple_of rfl T.z_tuple bt_tuple (pa_cons (pe_lcomp rfl (blkok rfl sub_nil fv_nil) (pi_list (pv 0)) (fun _ _ _ _ => (pe_call (FnOk.mono (ok__law_number T) (by decide)) hr rfl T.m__law_number T.F__law_number.kp T.b__law_number .nil pass0 (pa_cons (pv 0) (pa_cons (pe_op op_pow pe_int pe_int) pa_nil))))) pa_nil)) pa_nil)))))))))), ?_⟩
 dsimp only [a_seq]
 k_typeOf
 refine ⟨_, SqL.of hA, _, rfl, x, 0, rfl, by decide, fun wy w0 => ⟨wy, rfl, by decide, ?_⟩⟩
 dsimp only [a_seq]
 k_typeOf
 refine ite3 (fun _ m0 => ⟨_, SqL.of hA, _, rfl, y, 1, rfl, by decide, fun n1 p1 => ⟨_, SqL.of hA, _, rfl, z, 2, rfl, by decide, fun n2 p2 => ⟨n1, n2, m, rfl, by omega, hm3, p1, p2, fun h l c => k (.cho h l) c fun _ => by omega⟩⟩⟩) ?_
 dsimp only [a_seq]
 k_typeOf
 refine ite2 (fun _ => ⟨_, SqL.of hA, _, rfl, _, SqL.of hA, _, rfl, y, z, rfl, fun f h1 h2 h3 h4 a H1 s1 ea => ⟨by decide, fun r nr => ?_⟩⟩) (fun _ => ?_)
 ·exact k (.pow f) ⟨h1, h2, h3, h4⟩ (fun z => nomatch z) r _ (s1.trans (same_upd nr _)) ⟨a, upd_same, same_upd nr _ _ _ ea⟩
 dsimp only [a_seq]
 k_typeOf
 refine ite2 (fun _ => ⟨_, SqL.of hA, _, rfl, _, SqL.of hA, _, rfl, y, z, rfl, fun f h1 h2 h3 h4 a H1 s1 ea => ⟨by decide, fun r nr => ?_⟩⟩) (fun _ => ?_)
 ·exact k (.gro f) ⟨h1, h2, h3, h4⟩ (fun z => nomatch z) r _ (s1.trans (same_upd nr _)) ⟨a, upd_same, same_upd nr _ _ _ ea⟩
 k_units
 refine ⟨⟨_, SqL.of hA⟩, fun D nD => ?_⟩
 obtain ⟨Pc, hPc⟩ : ∃ Pc : Nat -> Hp -> Prop, ∀ j Hx, Pc j Hx ↔ ∃ us : List Int, Hx D = some (.lst (us.map V.int)) ∧ us.length = j ∧ (∀ u ∈ us, Bd 300 u) ∧ Same H Hx := ⟨_, fun _ _ => Iff.rfl⟩
 refine cl_list (xs := [V.int x, V.int y, V.int z]) Pc ((hPc _ _).mpr ⟨[], upd_same, rfl, fun u hu => by simp at hu, same_upd nD _⟩) (fun i Hx _ y => by obtain ⟨_, _, _, _, y⟩ := (hPc i Hx).mp y; exact y.seq (SqL.of hA)) ?_ ?_
 ·intro j v Hx hv hc
  obtain ⟨us, k1, k2, k3, k4⟩ := (hPc _ _).mp hc
  obtain ⟨c, rfl, hj⟩ : ∃ c : Int, v = V.int c ∧ j < 3 := by
   match j, hv with
   | 0, hv => exact ⟨x, (Option.some.inj hv).symm, by decide⟩
   | 1, hv => exact ⟨y, (Option.some.inj hv).symm, by decide⟩
   | 2, hv => exact ⟨z, (Option.some.inj hv).symm, by decide⟩
   | j + 3, hv => simp at hv
  (iterate 3 (k_units; (try simp only [bst, Option.getD_some])); k_units)
  refine ⟨⟨by decide, by decide, by decide⟩, c, _, rfl, .inl rfl, fun u hu => ⟨_, k1, by rw [List.length_map]; exact small1000 (by omega), (hPc _ _).mpr ⟨us ++ [u], by rw [upd_same]; simp, by simp [k2], fun v hv => ?_, k4.more nD⟩⟩⟩
  rcases List.mem_append.mp hv with hv | hv
  ·exact k3 v hv
  ·rw [List.mem_singleton.mp hv]
   exact Nat.lt_of_lt_of_le hu (Nat.le_trans (show _ <= 2 ^ 200 by decide) (Nat.pow_le_pow_right (by decide) (by decide)))
 intro Hx hc
 obtain ⟨us, k1, k2, k3, k4⟩ := (hPc _ _).mp hc
 match us, k2 with
 | [a, b, c], _ =>
  refine ⟨D, rfl, _, .inl ⟨SqL.of k1, fun q nq => ⟨by decide, fun r nr => ?_⟩⟩⟩
  have u1 := same_upd nq (.tup ([a, b, c].map V.int))
  exact k (.wei (a, b, c)) ⟨k3 a (by simp), k3 b (by simp), k3 c (by simp)⟩ (fun z => nomatch z) r _ ((k4.trans u1).trans (same_upd nr _)) ⟨q, upd_same, same_upd nr _ _ _ upd_same⟩
def spPts2 (K : PySem.W.Frag) : Sp := fun vs H Q _ => ∃ (A M : Addr) (ns : List Int), vs = [.ref A, .ref M] ∧ SqL K H A (ns.map V.int) ∧ H M = some (.lst [.int 3, .int 1]) ∧
 ∀ (L : Addr) (rs : List Addr) (ps : List Prt) (H' : Hp), Same H H' -> H L = none -> H' L = some (.lst (rs.map V.ref)) -> Pts H' rs ps -> (∀ p ∈ ps, PrtOk p) -> 1 <= ps.length -> ps.length <= 6 -> (ps.map dgF).sum <= 60 -> Q (.ref L) H'
theorem dg_le (p : Prt) : dgF p <= 1 + 12 * (if isCho p = true then 1 else 0) := by cases p <;> simp [dgF, isCho]
theorem ok__law_parts {P : Program} {w : World} {K : PySem.W.Frag} {mg : Str -> Option Value} {base : Heap} (T : Tx K mg) : FnOk P w K mg base CX0 4 T.a__law_parts T.fd__law_parts ["_law_script", "_law_mosts"] (spPts2 K) := by
 refine T.F__law_parts.ok sc__law_parts (fun vs H Q E h => ?_) (fun cdv A outer s H vs Q E hr h => ?_)
 ·obtain ⟨A, M, ns, rfl, _⟩ := h
  rfl
 obtain ⟨A, M, ns, rfl, hA, hM, k⟩ := h
 refine ⟨_, ((pss_cons (ps_set (i := 2) sc__law_parts.nd rfl (Or.inl rfl) (pe_lst pa_nil))
  (pss_cons (ps_for PassesOwn.never rfl (pi_range1 rfl T.z_range (pa_cons (pe_op op_add pe_int (pe_op op_mod (pe_call (FnOk.mono (ok__law_cell_at T) (by decide)) hr rfl T.m__law_cell_at T.F__law_cell_at.kp T.b__law_cell_at .nil pass0 (pa_cons (pv 0) (pa_cons pe_int pa_nil))) pe_int)) pa_nil)) (pg_name (i := 3) sc__law_parts.nd rfl (Or.inr rfl)) (pss_cons (ps_set (i := 4) sc__law_parts.nd rfl (Or.inl rfl) (pe_call (FnOk.mono (ok__law_part T) (by decide)) hr rfl T.m__law_part T.F__law_part.kp T.b__law_part .nil pass0 (pa_cons (pe_lcomp rfl (blkok rfl (sub_cons rfl (sub_cons rfl sub_nil)) (fv_cons 0 "_law_script" (by decide) rfl (Or.inl rfl) (Or.inl rfl) ⟨_, rfl⟩ (fv_cons 3 "_law_k" (by decide) rfl (Or.inl rfl) (Or.inl rfl) ⟨_, rfl⟩ fv_nil))) (pi_range1 rfl T.z_range (pa_cons pe_int pa_nil)) (fun _ _ _ _ => (pe_call (FnOk.mono (ok__law_cell_at T) (by decide)) hr rfl T.m__law_cell_at T.F__law_cell_at.kp T.b__law_cell_at .nil pass0 (pa_cons (pv 1) (pa_cons (pe_op op_add (pe_op op_add pe_int (pe_op op_mul pe_int (pv 2))) (pv 0)) pa_nil))))) (pa_cons (pe_ix ix_list (pv 1) pe_int (fun _ _ => rfl)) pa_nil))))
  (pss_mid (ps_if (pt_cmpR op_eq (pe_ix ix_tup (pv 4) pe_int (fun _ _ => rfl)) pe_str (nomark _)) (pss_one (ps_set (i := 1) sc__law_parts.nd rfl (Or.inl rfl) (pe_op op_cat (pe_slice sl_list (pv 1) (po_some pe_int) po_none) (pe_lst (pa_cons pe_int pa_nil))))) pss_nil)
  (pss_one (ps_expr (pe_bm PySem.F.plainAttrs_list PySem.F.slot_list_append PySem.F.type_list_append mt_append (pv 2) (pa_cons (pv 4) pa_nil)))))))
  (pss_one (ps_ret (pv 2)))))), ?_⟩
 dsimp only [a_seq]
 k_typeOf
 refine ⟨by decide, fun L nL => ?_⟩
 k_units
 have u0 := same_upd nL (.lst [])
 refine ⟨A, ns, 0, rfl, u0.seq hA, _, rfl, by decide, by omega, by omega, ?_⟩
 have i0 := Int.emod_nonneg (cell ns 0) (show (6 : Int) ≠ 0 by decide)
 have i6 := Int.emod_lt_of_pos (cell ns 0) (show (0 : Int) < 6 by decide)
 obtain ⟨N, hN, N1, N6⟩ : ∃ N, (1 + cell ns 0 % 6).toNat = N ∧ 1 <= N ∧ N <= 6 := ⟨_, rfl, by omega, by omega⟩
 rw [hN]
 obtain ⟨Pv, hPv⟩ : ∃ Pv : Nat -> L2.St -> Hp -> Prop, ∀ i σ H', Pv i σ H' ↔ ∃ (rs : List Addr) (ps : List Prt) (M' : Addr) (m0 m1 : Int) (c : Nat) (r3 r4 : Option V), σ = [some (V.ref A), some (V.ref M'), some (V.ref L), r3, r4] ∧ H' L = some (.lst (rs.map V.ref)) ∧ Pts H' rs ps ∧ (∀ p ∈ ps, PrtOk p) ∧ ps.length = i ∧ H' M' = some (.lst [V.int m0, V.int m1]) ∧ ((m0 = 3 ∧ m1 = 1 ∧ c = 0) ∨ (m0 = 1 ∧ m1 = 0 ∧ c = 1) ∨ (m0 = 0 ∧ m1 = 0 ∧ c = 2)) ∧ (ps.map dgF).sum <= i + 12 * c ∧ Same H H' ∧ M' ≠ L := ⟨_, fun _ _ _ => Iff.rfl⟩
 have nML : M ≠ L := fun z => by rw [z, nL] at hM; cases hM
 refine lp_range Pv ((hPv _ _ _).mpr ⟨[], [], M, 3, 1, 0, none, none, rfl, upd_same, ⟨rfl, fun i r p e => by simp at e⟩, fun p hp => by simp at hp, rfl, u0 _ _ hM, .inl ⟨rfl, rfl, rfl⟩, by simp, u0, nML⟩) ?_ ?_
 ·intro i σ H1 hi hp
  obtain ⟨rs, ps, M', m0, m1, c, r3, r4, rfl, eL, hP, hO, lp, eM, h30, hdg, s1, nML'⟩ := (hPv _ _ _).mp hp
  dsimp only [a_seq]
  k_typeOf
  refine ⟨by decide, by decide, fun D nD => ?_⟩
  obtain ⟨Pc, hPc⟩ : ∃ Pc : Nat -> Hp -> Prop, ∀ j Hx, Pc j Hx ↔ Hx D = some (.lst (((List.range j).map fun j => cell ns (1 + 3 * i + j)).map V.int)) ∧ Same H1 Hx := ⟨_, fun _ _ => Iff.rfl⟩
  refine cl_range Pc ((hPc _ _).mpr ⟨upd_same, same_upd nD _⟩) ?_ ?_
  ·intro j Hx hj hc
   obtain ⟨k1, k2⟩ := (hPc _ _).mp hc
   (iterate 3 (k_units; (try simp only [bst, Option.getD_some])); k_units)
   have e : (1 : Int) + 3 * (0 + (i : Int)) + (0 + (j : Int)) = ((1 + 3 * i + j : Nat) : Int) := by omega
   have hj3 : j < 3 := hj
   refine ⟨.inl ⟨by decide, by decide⟩, A, ns, 1 + 3 * i + j, by rw [e], (s1.trans k2).seq hA, _, k1, by rw [List.length_map, List.length_map, List.length_range]; exact small1000 (by omega), (hPc _ _).mpr ⟨?_, k2.more nD⟩⟩
   rw [upd_same, List.range_succ, List.map_append, List.map_append]; rfl
  intro Hx hc
  obtain ⟨k1, k2⟩ := (hPc _ _).mp hc
  refine ⟨_, SqL.of (k2 _ _ eM), _, (show atI [V.int m0, V.int m1] ((0 : Nat) : Int) = some (V.int m0) from atI_nat rfl), D, _, _, _, m0, rfl, k1, by omega, by omega, fun p hp hpc r H2 s2 hr2 => ?_⟩
  have s12 := k2.trans s2
  obtain ⟨M2, hM2⟩ : ∃ M2 : L2.St -> Hp -> Prop, ∀ σ H', M2 σ H' ↔ ∃ (M'' : Addr) (m0 m1 : Int) (c : Nat), σ = [some (V.ref A), some (V.ref M''), some (V.ref L), some (V.int (0 + (i : Int))), some (V.ref r)] ∧ H' M'' = some (.lst [V.int m0, V.int m1]) ∧ ((m0 = 3 ∧ m1 = 1 ∧ c = 0) ∨ (m0 = 1 ∧ m1 = 0 ∧ c = 1) ∨ (m0 = 0 ∧ m1 = 0 ∧ c = 2)) ∧ (ps.map dgF).sum + dgF p <= i + 1 + 12 * c ∧ Same H2 H' ∧ M'' ≠ L := ⟨_, fun _ _ => Iff.rfl⟩
  have dp := dg_le p
  refine mid_of M2 ?_ ?_
  ·have hd : ∃ (sh : Str) (xs : List V), H2 r = some (.tup (.str sh :: xs)) ∧ (sh = Str.ofString "choose" ↔ isCho p = true) := by
    match p, hr2 with
    | .cho f l, ⟨a, b, h1, _⟩ => exact ⟨_, _, h1, by simp [isCho]⟩
    | .wei f, ⟨a, h1, _⟩ => exact ⟨_, _, h1, ⟨fun z => absurd z (by decide), fun z => nomatch z⟩⟩
    | .pow f, ⟨a, h1, _⟩ => exact ⟨_, _, h1, ⟨fun z => absurd z (by decide), fun z => nomatch z⟩⟩
    | .gro f, ⟨a, h1, _⟩ => exact ⟨_, _, h1, ⟨fun z => absurd z (by decide), fun z => nomatch z⟩⟩
   obtain ⟨sh, xs, er, hsh⟩ := hd
   k_units
   refine ⟨_, SqT.of er, _, (show atI (V.str sh :: xs) ((0 : Nat) : Int) = some (V.str sh) from atI_nat rfl), ?_⟩
   k_units
   refine ite2 (fun hy => ?_) (fun hy => (hM2 _ _).mpr ⟨M', m0, m1, c, rfl, s12 _ _ eM, h30, ?_, Same.refl _, nML'⟩)
   ·have hc := hsh.mp hy
    have hm := hpc hc
    rw [if_pos hc] at dp
    have ec : cutV [V.int m0, V.int m1] (some 1) none = [V.int m1] := rfl
    refine ⟨_, SqL.of (s12 _ _ eM), fun p1 n1 => ⟨by decide, fun p2 n2 => ?_⟩⟩
    rw [ec] at n2 ⊢
    have v1 := same_upd n1 (.lst [V.int m1])
    have v2 := same_upd n2 (.lst [V.int 0])
    refine ⟨_, v2 _ _ upd_same, _, upd_same, by show 1 + 1 <= sizeLine; decide, fun p3 n3 => ?_⟩
    have v3 := same_upd n3 (.lst ([V.int m1] ++ [V.int 0]))
    have eLx := (v1.trans v2) _ _ (s12 _ _ eL)
    exact (hM2 _ _).mpr ⟨p3, m1, 0, c + 1, rfl, upd_same, by omega, by omega, (v1.trans v2).trans v3, fun z => by rw [z, eLx] at n3; cases n3⟩
   ·have hc : ¬ isCho p = true := fun z => hy (hsh.mpr z)
    rw [if_neg hc] at dp
    omega
  intro σ H3 hm
  obtain ⟨M'', m0', m1', c', rfl, eM2, h302, hdg2, s3, nML2⟩ := (hM2 _ _).mp hm
  k_units
  have eL3 := s3 _ _ (s12 _ _ eL)
  have kt : ∀ a xs, H1 a = some (.tup xs) -> L2.upd H3 L (.lst (rs.map V.ref ++ [V.ref r])) a = some (.tup xs) := fun a xs e => by
   rw [upd_ne (ne_of e eL (fun z => nomatch z))]; exact s3 _ _ (s12 _ _ e)
  refine ⟨a_tyL (SqL.of eL3), _, eL3, by rw [List.length_map, hP.len]; exact small1000 (by omega), (hPv _ _ _).mpr ⟨rs ++ [r], ps ++ [p], M'', m0', m1', c', _, _, rfl, by rw [upd_same, List.map_append]; rfl, ?_, fun p' hp' => ?_, by simp [lp], by rw [upd_ne nML2]; exact eM2, h302, by rw [List.map_append, List.sum_append, List.map_cons, List.map_nil, List.sum_cons, List.sum_nil]; omega, ((s1.trans s12).trans s3).more nL, nML2⟩⟩
  ·refine (hP.kt kt).snoc (hr2.kt fun a xs e => ?_)
   rw [upd_ne (ne_of (s3 _ _ e) eL3 (fun z => nomatch z))]; exact s3 _ _ e
  ·rcases List.mem_append.mp hp' with z | z
   ·exact hO p' z
   ·rw [List.mem_singleton.mp z]; exact hp
 ·intro σ H1 hp
  obtain ⟨rs, ps, M', m0, m1, c, r3, r4, rfl, eL, hP, hO, lp, eM, h30, hdg, s1, nML'⟩ := (hPv _ _ _).mp hp
  k_units
  exact k L rs ps H1 s1 nL eL hP hO (by omega) (by omega) (by omega)
theorem mk_term {K : PySem.W.Frag} {mg : Str -> Option Value} {T : Tx K mg} {H : Hp} {Q : Addr -> Hp -> Prop} {E : XK} {A : Addr} {rs : List Addr} {ps : List Prt} (hA : H A = some (.lst (rs.map V.ref))) (hP : Pts H rs ps) (hO : ∀ p ∈ ps, PrtOk p) (l1 : 1 <= ps.length) (l6 : ps.length <= 6)
  (k : ∀ (x : Addr) (H' : Hp), Same H H' -> TermAt T H H' x rs ps -> Q x H') (x dx : Addr) (hx : H x = none) (hd : H dx = none) (_ : dx ≠ x) :
  spTInit T [.ref x, .ref A] (L2.upd (L2.upd H dx (.own x)) x (.ins T.c_Term dx [])) (fun v H2 => v = V.non ∧ Q x H2) E := by
 have s1 : Same H (L2.upd (L2.upd H dx (.own x)) x (.ins T.c_Term dx [])) := same_new hx hd
 refine ⟨x, dx, A, rs, ps, rfl, upd_same, s1 _ _ hA, hP.on s1, hO, l1, l6, fun P1 P2 qs H' s2 n1 n2 ex e1 e2 hq => ⟨rfl, ?_⟩⟩
 have s3 : Same H H' := fun y o e => s2 y o (ne_of_none e hx) (s1 y o e)
 exact k x H' s3 ⟨dx, P1, P2, qs, ex, s1.free n1, e1, s1.free n2, e2, hq.from fun y e => s1.free e⟩
theorem due_go : ∀ (xs : List (Int × Int)) (d : Int × Int), xs.foldl (fun d f => (d.1 * f.1, d.2 * f.2)) d = (d.1 * prI (xs.map (·.1)), d.2 * prI (xs.map (·.2)))
 | [], d => by show d = (d.1 * 1, d.2 * 1); rw [Int.mul_one, Int.mul_one]
 | x :: xs, d => by rw [List.foldl_cons, due_go xs, List.map_cons, List.map_cons, prI_cons, prI_cons, Int.mul_assoc, Int.mul_assoc]
theorem due_pr (xs : List (Int × Int)) : dueF xs = (prI (xs.map (·.1)), prI (xs.map (·.2))) := by unfold dueF; rw [due_go, Int.one_mul, Int.one_mul]
theorem prI_ne : ∀ {xs : List Int}, (∀ x ∈ xs, x ≠ 0) -> prI xs ≠ 0
 | [], _ => by decide
 | x :: xs, h => by
  rw [prI_cons]
  exact Int.mul_ne_zero (h x List.mem_cons_self) (prI_ne fun y hy => h y (List.mem_cons_of_mem _ hy))
theorem due_ne {xs : List (Int × Int)} (h : ∀ f ∈ xs, Frc f) : (dueF xs).2 ≠ 0 := by
 rw [due_pr]
 refine prI_ne fun x hx => ?_
 obtain ⟨f, hf, rfl⟩ := List.mem_map.mp hx
 have := (h f hf).1
 omega
theorem dues {e f : Prt -> Int} : ∀ {ps : List Prt} {xs ys : List (Int × Int)}, xs.length = ps.length -> ys.length = ps.length -> (∀ (i : Nat) (p : Prt) (x y : Int × Int), ps[i]? = some p -> xs[i]? = some x -> ys[i]? = some y -> e p * x.1 * y.2 = f p * y.1 * x.2) ->
  prI (ps.map e) * (dueF xs).1 * (dueF ys).2 = prI (ps.map f) * (dueF ys).1 * (dueF xs).2
 | [], [], [], _, _, _ => rfl
 | p :: ps, x :: xs, y :: ys, h1, h2, h => by
  have ih := dues (ps := ps) (xs := xs) (ys := ys) (by simpa using h1) (by simpa using h2) fun i p x y a b c => h (i + 1) p x y a b c
  have h0 := h 0 p x y rfl rfl rfl
  rw [due_pr, due_pr] at ih ⊢
  simp only [List.map_cons, prI_cons] at ih ⊢
  generalize prI (ps.map e) = a1 at *
  generalize prI (ps.map f) = a2 at *
  generalize prI (xs.map (·.1)) = a3 at *
  generalize prI (xs.map (·.2)) = a4 at *
  generalize prI (ys.map (·.1)) = a5 at *
  generalize prI (ys.map (·.2)) = a6 at *
  calc e p * a1 * (x.1 * a3) * (y.2 * a6) = e p * x.1 * y.2 * (a1 * a3 * a6) := by grind
   _ = f p * y.1 * x.2 * (a2 * a5 * a4) := by rw [h0, ih]
   _ = f p * a2 * (y.1 * a5) * (x.2 * a4) := by grind
 | [], _ :: _, _, h, _, _ => by simp at h
 | [], [], _ :: _, _, h, _ => by simp at h
 | _ :: _, [], _, h, _, _ => by simp at h
 | _ :: _, _ :: _, [], _, h, _ => by simp at h
theorem crs {E F x1 x2 y1 y2 X1 X2 Y1 Y2 : Int} (hX : X2 ≠ 0) (hY : Y2 ≠ 0) (hx : x1 * X2 = X1 * x2) (hy : y1 * Y2 = Y1 * y2) (h : E * X1 * Y2 = F * Y1 * X2) : E * x1 * y2 = F * y1 * x2 := by
 refine Int.eq_of_mul_eq_mul_right (Int.mul_ne_zero hX hY) ?_
 calc E * x1 * y2 * (X2 * Y2) = E * (x1 * X2) * y2 * Y2 := by grind
  _ = (E * X1 * Y2) * x2 * y2 := by rw [hx]; grind
  _ = F * (Y1 * y2) * X2 * x2 := by rw [h]; grind
  _ = F * y1 * x2 * (X2 * Y2) := by rw [← hy]; grind
theorem all_dues {e f : Prt -> Int} {ps : List Prt} {xs ys : List (Int × Int)} (hx : ∀ f ∈ xs, Frc f) (hy : ∀ f ∈ ys, Frc f) (l1 : xs.length = ps.length) (l2 : ys.length = ps.length)
  (h : ∀ (i : Nat) (p : Prt) (x y : Int × Int), ps[i]? = some p -> xs[i]? = some x -> ys[i]? = some y -> e p * x.1 * y.2 = f p * y.1 * x.2) :
  prI (ps.map e) * (prodF xs).1 * (prodF ys).2 = prI (ps.map f) * (prodF ys).1 * (prodF xs).2 :=
 crs (due_ne hx) (due_ne hy) (due_prod xs hx).2 (due_prod ys hy).2 (dues l1 l2 h)
theorem prI_ones {α : Type} : ∀ ps : List α, prI (ps.map fun _ => 1) = 1
 | [] => rfl
 | _ :: ps => by rw [List.map_cons, prI_cons, prI_ones ps]; rfl
theorem mid_ok {p : Prt} {n k : Nat} (h : PrtOk p) (hn : n <= 32) (hk : k <= 31) : PtOk 650 p n k := by
 refine ⟨h, by omega, by omega, ?_⟩
 match p, h with
 | .cho f l, h => exact ⟨frc_one _, (ways_bd (by
   have := at_sub f l n k
   obtain ⟨⟨q1, q2, q3, q4, q5, q6⟩, _⟩ := h
   have := at_bd (n := n) (k := k) ⟨q1, q2⟩ ⟨q3, q4⟩ ⟨q5, q6⟩ (by omega) (by omega)
   omega)).mono (by decide), Bd.one (by decide)⟩
 | .wei f, h =>
  obtain ⟨b1, b2, b3⟩ := h
  have bn : Bd 6 (n : Int) := Bd.of_lt (m := 33) (by omega) (by decide)
  have bk : Bd 6 (k : Int) := Bd.of_lt (m := 33) (by omega) (by decide)
  exact ⟨frc_one _, ((((b1.mul bn).add (b2.mul bk))).add (b3.mono (by decide : 300 <= 307))).mono (by decide), Bd.one (by decide)⟩
 | .pow f, h =>
  obtain ⟨h1, h2, b1, b2⟩ := h
  exact ⟨frc_pow h1 k, (bd_pw b1 k).mono (by omega), (bd_pw b2 k).mono (by omega)⟩
 | .gro f, h =>
  obtain ⟨h1, h2, b1, b2⟩ := h
  exact ⟨frc_pow h1 n, (bd_pw b1 n).mono (by omega), (bd_pw b2 n).mono (by omega)⟩
theorem wt_le {c : Nat} {h : P2 -> Int} : ∀ {l : PD}, (∀ x ∈ l, (x.2 * h x.1).natAbs <= 2 ^ c) -> (wtD l h).natAbs <= l.length * 2 ^ c
 | [], _ => by rw [wtD_nil]; simp
 | x :: l, k => by
  have ih := wt_le (l := l) fun y hy => k y (List.mem_cons_of_mem _ hy)
  have h0 := k x List.mem_cons_self
  rw [wtD_cons, List.length_cons, Nat.add_mul, Nat.one_mul]
  have := Int.natAbs_add_le (x.2 * h x.1) (wtD l h)
  omega
theorem ev_bd {d B n k : Nat} {f : PD} (pf : PdOk d B f) (d60 : d <= 60) (hn : n <= 31) (hk : k <= 31) : Bd (B + 620) (evD f n k) := by
 have lf : f.length <= 4000 := Nat.le_trans (len_deg pf.nd pf.dg) (Nat.le_trans (Nat.mul_le_mul (show d + 1 <= 61 by omega) (show d + 1 <= 61 by omega)) (by decide))
 have h1 := wt_le (c := B + 604) (h := mon n k) (l := f) fun x hx => by
  have dx := pf.dg x hx
  have b0 : Bd (B + 1) x.2 := Nat.lt_of_le_of_lt (pf.sz x hx) (Nat.pow_lt_pow_right (by decide) (Nat.lt_succ_self _))
  have b1 : Bd 301 ((n : Int) ^ x.1.1.toNat) := (bd_pw (Bd.of_lt (m := 32) (k := 5) (by omega) (by decide)) _).mono (by omega)
  have b2 : Bd 301 ((k : Int) ^ x.1.2.toNat) := (bd_pw (Bd.of_lt (m := 32) (k := 5) (by omega) (by decide)) _).mono (by omega)
  exact Nat.le_of_lt ((b0.mul (b1.mul b2)).mono (by omega))
 show (wtD f (mon n k)).natAbs < 2 ^ (B + 620)
 refine Nat.lt_of_le_of_lt h1 ?_
 have : f.length * 2 ^ (B + 604) <= 2 ^ 12 * 2 ^ (B + 604) := Nat.mul_le_mul_right _ (by omega)
 refine Nat.lt_of_le_of_lt this ?_
 rw [← Nat.pow_add]
 exact Nat.pow_lt_pow_right (by decide) (by omega)
theorem ev_all {ps : List Prt} {g : Prt -> PD} (n k : Int) (h : ∀ p ∈ ps, PdOk (dgF p) 410 (g p)) : evD (pdD (ps.map g)) n k = prI (ps.map fun p => evD (g p) n k) := by
 rw [(ev_pd n k _ (ps.map g) 12 rfl fun f hf => by
  obtain ⟨p, hp, rfl⟩ := List.mem_map.mp hf
  exact deg_mono (h p hp).dg (by cases p <;> simp [dgF])).1, List.map_map]
 rfl
theorem pd_all {ps : List Prt} {g : Prt -> PD} (l6 : ps.length <= 6) (hs : (ps.map dgF).sum <= 60) (h : ∀ p ∈ ps, PdOk (dgF p) 410 (g p)) : PdOk (ps.map dgF).sum 2604 (pdD (ps.map g)) :=
 (pd_list _ (ps.map g) _ rfl (pds_map h) hs).mono (Nat.le_refl _) (by rw [List.length_map]; omega)
theorem Flos.frc {far n k : Nat} {ps : List Prt} {zs : List (Int × Int)} (h : Flos far n k ps zs) : ∀ z ∈ zs, Frc z ∧ Bd 20000 z.1 ∧ Bd 650 z.2 := fun z hz => by
 obtain ⟨i, hi, rfl⟩ := List.getElem_of_mem hz
 obtain ⟨g1, g2, g3, _⟩ := h.get i _ _ (List.getElem?_eq_getElem (by have := h.len; omega)) (List.getElem?_eq_getElem hi)
 exact ⟨g1, g2, g3⟩
def spHolds {K : PySem.W.Frag} {mg : Str -> Option Value} (T : Tx K mg) : Sp := fun vs H Q _ => ∃ (x F L U W : Addr) (as : List Addr) (H0 : Hp) (rs : List Addr) (ps : List Prt) (far n k : Nat), vs = [.ref x, .ref F, .int (far : Int), .int (n : Int), .int (k : Int)] ∧ TermAt T H0 H x rs ps ∧ ps.length <= 6 ∧ (∀ p ∈ ps, PrtOk p) ∧ far <= 2 ∧ (ps.map dgF).sum <= 60 ∧ n <= 30 ∧ k <= 30 ∧
 H F = some (.tup [.ref L, .ref U, .ref W]) ∧ H L = some (.lst (as.map V.ref)) ∧ DDs H as ((List.range (far + 1)).map fun i => pdD (ps.map fun p => stD p i far)) ∧ DD H U (pdD (ps.map fun p => upD p far)) ∧ DD H W (pdD (ps.map fun p => dnD p far)) ∧ ∀ H', Same H H' -> Q (.bl true) H'
theorem ok__law_holds {P : Program} {w : World} {K : PySem.W.Frag} {mg : Str -> Option Value} {base : Heap} (T : Tx K mg) : FnOk P w K mg base CX0 18 T.a__law_holds T.fd__law_holds ["_law_term", "_law_frame", "_law_far", "_law_n", "_law_k"] (spHolds T) := by
 refine T.F__law_holds.ok sc__law_holds (fun vs H Q E h => ?_) (fun cdv A outer s H vs Q E hr h => ?_)
 ·obtain ⟨x, F, L, U, W, as, H0, rs, ps, far, n, k, rfl, _⟩ := h
  rfl
 obtain ⟨x, F, L, U, W, as, H0, rs, ps, far, n, k, rfl, hx, l6, hO, hf, hs, hn, hk, eF, eL, dL, dU, dW, fin⟩ := h
 refine ⟨_, ((pss_cons (ps_set (i := 5) sc__law_holds.nd rfl (Or.inl rfl) (pe_meth (pv 0) T.cl_Term T.me_Term_floor (FnOk.mono (ok_Term_floor T) (by decide)) hr T.b_Term_floor .nil pass0 (pa_cons (pv 3) (pa_cons (pv 4) (pa_cons (pv 2) pa_nil)))))
  (pss_cons (ps_set (i := 6) sc__law_holds.nd rfl (Or.inl rfl) (pe_meth (pv 0) T.cl_Term T.me_Term_floor (FnOk.mono (ok_Term_floor T) (by decide)) hr T.b_Term_floor .nil pass0 (pa_cons (pv 3) (pa_cons (pe_op op_add (pv 4) pe_int) (pa_cons (pv 2) pa_nil)))))
  (pss_cons (ps_if (PW.pt (pw_or (pt_not (pt_val (pe_call (FnOk.mono (ok__law_is_fraction T) (by decide)) hr rfl T.m__law_is_fraction T.F__law_is_fraction.kp T.b__law_is_fraction .nil pass0 (pa_cons (pv 5) pa_nil)))) (pw_or1 (pt_not (pt_val (pe_call (FnOk.mono (ok__law_is_fraction T) (by decide)) hr rfl T.m__law_is_fraction T.F__law_is_fraction.kp T.b__law_is_fraction .nil pass0 (pa_cons (pv 6) pa_nil))))))) (pss_one (ps_ret pe_bl)) pss_nil)
  (pss_cons (ps_for PassesOwn.never rfl (pi_range1 rfl T.z_range (pa_cons (pe_op op_add (pv 2) pe_int) pa_nil)) (pg_name (i := 7) sc__law_holds.nd rfl (Or.inl rfl)) (pss_cons (ps_set (i := 8) sc__law_holds.nd rfl (Or.inl rfl) (pe_meth (pv 0) T.cl_Term T.me_Term_worth (FnOk.mono (ok_Term_worth T) (by decide)) hr T.b_Term_worth .nil pass0 (pa_cons (pe_op op_add (pv 3) (pv 7)) (pa_cons (pv 4) pa_nil))))
  (pss_cons (ps_if (pt_not (pt_val (pe_call (FnOk.mono (ok__law_is_fraction T) (by decide)) hr rfl T.m__law_is_fraction T.F__law_is_fraction.kp T.b__law_is_fraction .nil pass0 (pa_cons (pv 8) pa_nil)))) (pss_one (ps_ret pe_bl)) pss_nil)
  (pss_one (ps_if (pt_cmpR op_ne (pe_op op_mulZ (pe_ix ix_tup (pv 8) pe_int (fun _ _ => rfl)) (pe_ix ix_tup (pv 5) pe_int (fun _ _ => rfl))) (pe_op op_mulZ (pe_op op_mulZ (pe_call (FnOk.mono (ok__law_pair_at T) (by decide)) hr rfl T.m__law_pair_at T.F__law_pair_at.kp T.b__law_pair_at .nil pass0 (pa_cons (pe_ix ix_list (pe_ix ix_tup (pv 1) pe_int (fun _ _ => rfl)) (pv 7) (fun _ _ => rfl)) (pa_cons (pv 3) (pa_cons (pv 4) pa_nil)))) (pe_ix ix_tup (pv 5) pe_int (fun _ _ => rfl))) (pe_ix ix_tup (pv 8) pe_int (fun _ _ => rfl))) (nomark _)) (pss_one (ps_ret pe_bl)) pss_nil)))))
  (pss_cons (ps_set (i := 9) sc__law_holds.nd rfl (Or.inl rfl) (pe_op op_mulZ (pe_op op_mulZ (pe_call (FnOk.mono (ok__law_pair_at T) (by decide)) hr rfl T.m__law_pair_at T.F__law_pair_at.kp T.b__law_pair_at .nil pass0 (pa_cons (pe_ix ix_tup (pv 1) pe_int (fun _ _ => rfl)) (pa_cons (pv 3) (pa_cons (pv 4) pa_nil)))) (pe_ix ix_tup (pv 5) pe_int (fun _ _ => rfl))) (pe_ix ix_tup (pv 6) pe_int (fun _ _ => rfl))))
  (pss_one (ps_ret (pe_cmpR op_eq (pv 9) (pe_op op_mulZ (pe_op op_mulZ (pe_call (FnOk.mono (ok__law_pair_at T) (by decide)) hr rfl T.m__law_pair_at T.F__law_pair_at.kp T.b__law_pair_at .nil pass0 (pa_cons (pe_ix ix_tup (pv 1) pe_int (fun _ _ => rfl)) (pa_cons (pv 3) (pa_cons (pv 4) pa_nil)))) (pe_ix ix_tup (pv 6) pe_int (fun _ _ => rfl))) (pe_ix ix_tup (pv 5) pe_int (fun _ _ => rfl))) (nomark _)))))))))), ?_⟩
 obtain ⟨dx, P1, P2, qs, h1, h2⟩ := id hx
 dsimp only [a_seq]
 k_typeOf
 refine ⟨dx, _, h1, rfl, x, H0, rs, ps, n, k, far, rfl, hx, l6, hO, hf, hn, by omega, fun zs fz a Ha sa ea => ?_⟩
 dsimp only [a_seq]
 k_typeOf
 refine ⟨dx, _, sa _ _ h1, rfl, x, H0, rs, ps, n, k + 1, far, rfl, hx.on sa, l6, hO, hf, hn, by omega, fun ys fy b Hb sb eb => ?_⟩
 have sab := sa.trans sb
 have ea2 := sb _ _ ea
 dsimp only [a_seq]
 k_typeOf
 obtain ⟨z0, _⟩ := due_prod zs fun f hf => (fz.frc f hf).1
 obtain ⟨y0, _⟩ := due_prod ys fun f hf => (fy.frc f hf).1
 obtain ⟨zb1, zb2⟩ := prod_bd zs fz.frc
 obtain ⟨yb1, yb2⟩ := prod_bd ys fy.frc
 rw [fz.len] at zb1 zb2
 rw [fy.len] at yb1 yb2
 have ud := all_dues (e := fun p => evD (upD p far) n k) (f := fun p => evD (dnD p far) n k) (ps := ps) (fun f hf => (fz.frc f hf).1) (fun f hf => (fy.frc f hf).1) fz.len fy.len fun i p x y e1 e2 e3 => ud_ok (hO p (List.mem_of_getElem? e1)) hf (fz.get i p x e1 e2) (fy.get i p y e1 e3)
 have st : ∀ i, i <= far -> (prodF (ps.map fun p => worF p (n + i) k)).1 * (prodF zs).2 = evD (pdD (ps.map fun p => stD p i far)) n k * (prodF zs).1 * (prodF (ps.map fun p => worF p (n + i) k)).2 := fun i hi => by
  have := all_dues (e := fun p => evD (stD p i far) n k) (f := fun _ => 1) (ps := ps) (xs := zs) (ys := ps.map fun p => worF p (n + i) k) (fun f hf => (fz.frc f hf).1) (fun f hf => by
   obtain ⟨p, hp, rfl⟩ := List.mem_map.mp hf
   exact (mid_ok (n := n + i) (k := k) (hO p hp) (by omega) (by omega)).2.2.2.1) fz.len (by simp) fun j p x y e1 e2 e3 => by
   obtain ⟨q, hq, rfl⟩ := map_get e3
   rw [e1] at hq
   obtain rfl := Option.some.inj hq
   have := stp_ok (hO p (List.mem_of_getElem? e1)) hi hf (fz.get j p x e1 e2)
   rw [Int.one_mul]; exact this.symm
  rw [prI_ones, Int.one_mul] at this
  rw [ev_all n k fun p hp => std_pd (hO p hp) hi hf]
  exact this.symm
 have wb : ∀ i, i <= far -> Frc (prodF (ps.map fun p => worF p (n + i) k)) ∧ Bd (20000 * ps.length + 1) (prodF (ps.map fun p => worF p (n + i) k)).1 ∧ Bd (650 * ps.length + 1) (prodF (ps.map fun p => worF p (n + i) k)).2 := fun i hi => by
  have h : ∀ f ∈ ps.map (fun p => worF p (n + i) k), Frc f ∧ Bd 20000 f.1 ∧ Bd 650 f.2 := fun f hf => by
   obtain ⟨p, hp, rfl⟩ := List.mem_map.mp hf
   exact (mid_ok (n := n + i) (k := k) (hO p hp) (by omega) (by omega)).2.2.2
  have := prod_bd _ h
  rw [List.length_map] at this
  exact ⟨(due_prod _ fun f hf => (h f hf).1).1, this⟩
 rw [← ev_all n k fun p hp => (upd_pd (hO p hp) hf).1, ← ev_all n k fun p hp => (upd_pd (hO p hp) hf).2] at ud
 have eb1 := ev_bd (n := n) (k := k) (pd_all l6 hs fun p hp => (upd_pd (far := far) (hO p hp) hf).1) hs (by omega) (by omega)
 have eb2 := ev_bd (n := n) (k := k) (pd_all l6 hs fun p hp => (upd_pd (far := far) (hO p hp) hf).2) hs (by omega) (by omega)
 generalize prodF zs = z at *
 generalize prodF ys = y at *
 refine ⟨a, _, _, rfl, ea2, z0.1, true, rfl, ?_⟩
 rw [if_neg (by decide)]
 refine ⟨b, _, _, rfl, eb, y0.1, true, rfl, ?_⟩
 rw [if_neg (by decide)]
 dsimp only [a_seq]
 k_typeOf
 refine ⟨by omega, by omega, ?_⟩
 rw [show ((far : Int) + 1).toNat = far + 1 by omega]
 obtain ⟨Pv, hPv⟩ : ∃ Pv : Nat -> L2.St -> Hp -> Prop, ∀ i σ H', Pv i σ H' ↔ ∃ r7 r8 : Option V, σ = [some (V.ref x), some (V.ref F), some (V.int (far : Int)), some (V.int (n : Int)), some (V.int (k : Int)), some (V.ref a), some (V.ref b), r7, r8, none] ∧ Same Hb H' := ⟨_, fun _ _ _ => Iff.rfl⟩
 refine lp_range Pv ((hPv _ _ _).mpr ⟨none, none, rfl, Same.refl _⟩) ?_ ?_
 ·intro i σ H1 hi hp
  obtain ⟨r7, r8, rfl, s1⟩ := (hPv _ _ _).mp hp
  have sx := sab.trans s1
  have hi' : i <= far := by omega
  have st := st i hi'
  obtain ⟨w0, wb1, wb2⟩ := wb i hi'
  have eb3 := ev_bd (n := n) (k := k) (pd_all l6 hs fun p hp => std_pd (i := i) (far := far) (hO p hp) hi' hf) hs (by omega) (by omega)
  have di : ((List.range (far + 1)).map fun i => pdD (ps.map fun p => stD p i far))[i]? = some (pdD (ps.map fun p => stD p i far)) := by rw [List.getElem?_map, List.getElem?_range hi]; rfl
  have ai : i < as.length := by rw [dL.len]; simp; omega
  have dd := dL.get i _ _ (List.getElem?_eq_getElem ai) di
  have at1 : atI (as.map V.ref) ((0 : Int) + (i : Int)) = some (V.ref as[i]) := by
   rw [Int.zero_add]; exact atI_nat (by rw [List.getElem?_map, List.getElem?_eq_getElem ai]; rfl)
  have pok := pd_all l6 hs fun p hp => std_pd (i := i) (far := far) (hO p hp) hi' hf
  dsimp only [a_seq]
  k_typeOf
  refine ⟨dx, _, sx _ _ h1, rfl, x, H0, rs, ps, n + i, k, by rw [Int.natCast_add, Int.zero_add], hx.on sx, l6, ⟨650, by omega, by decide, fun p hp => mid_ok (hO p hp) (by omega) (by omega)⟩, fun r H2 s2 er => ?_⟩
  generalize prodF (ps.map fun p => worF p (n + i) k) = g at *
  generalize pdD (ps.map fun p => stD p i far) = f at *
  dsimp only [a_seq]
  k_typeOf
  refine ⟨r, _, _, rfl, er, w0.1, true, rfl, ?_⟩
  rw [if_neg (by decide)]
  k_units
  have e_a := (s1.trans s2) _ _ ea2
  have sx2 := sx.trans s2
  refine ⟨_, SqT.of er, _, rfl, _, SqT.of e_a, _, rfl, _, rfl, _, rfl, wb1.fits zb2 (by omega), _, SqT.of (sx2 _ _ eF), _, rfl, _, rfl, _, SqL.of (sx2 _ _ eL), _, at1, as[i], f, _, _, n, k, rfl, dd.same sx2, pok, hs, by decide, by omega, by omega, fun H3 s3 => ⟨_, SqT.of (s3 _ _ e_a), _, rfl, _, rfl, _, rfl, eb3.fits zb1 (by omega), _, SqT.of (s3 _ _ er), _, rfl, _, rfl, (eb3.mul zb1).fits wb2 (by omega), ?_⟩⟩
  rw [if_neg (by rw [st]; simp)]
  exact (hPv _ _ _).mpr ⟨_, _, rfl, (s1.trans s2).trans s3⟩
 intro σ H1 hp
 obtain ⟨r7, r8, rfl, s1⟩ := (hPv _ _ _).mp hp
 have sx := sab.trans s1
 have okU := pd_all l6 hs fun p hp => (upd_pd (far := far) (hO p hp) hf).1
 have okW := pd_all l6 hs fun p hp => (upd_pd (far := far) (hO p hp) hf).2
 have e_a := s1 _ _ ea2
 have e_b := s1 _ _ eb
 have e_F := sx _ _ eF
 dsimp only [a_seq]
 k_typeOf
 refine ⟨_, SqT.of e_F, _, rfl, U, _, _, _, n, k, rfl, dU.same sx, okU, hs, by decide, by omega, by omega, fun H2 s2 => ⟨_, SqT.of (s2 _ _ e_a), _, rfl, _, rfl, _, rfl, eb1.fits zb1 (by omega), _, SqT.of (s2 _ _ e_b), _, rfl, _, rfl, (eb1.mul zb1).fits yb2 (by omega), ?_⟩⟩
 k_units
 refine ⟨_, SqT.of (s2 _ _ e_F), _, rfl, W, _, _, _, n, k, rfl, dW.same (sx.trans s2), okW, hs, by decide, by omega, by omega, fun H3 s3 => ⟨_, SqT.of (s3 _ _ (s2 _ _ e_b)), _, rfl, _, rfl, _, rfl, eb2.fits yb1 (by omega), _, SqT.of (s3 _ _ (s2 _ _ e_a)), _, rfl, _, rfl, (eb2.mul yb1).fits zb2 (by omega), ?_⟩⟩
 rw [decide_eq_true ud]
 exact fin _ ((sx.trans s2).trans s3)
def spLaw (K : PySem.W.Frag) : Sp := fun vs H Q _ => ∃ (a : Addr) (ns : List Int), vs = [.ref a] ∧ SqL K H a (ns.map V.int) ∧ ns.length <= 63 ∧ ∀ H', Q (.bl true) H'
theorem ok_law {P : Program} {w : World} {K : PySem.W.Frag} {mg : Str -> Option Value} {base : Heap} (T : Tx K mg) : FnOk P w K mg base CX0 20 T.a_law T.fd_law ["_law_script"] (spLaw K) := by
 refine T.F_law.ok sc_law (fun vs H Q E h => ?_) (fun cdv A outer s H vs Q E hr h => ?_)
 ·obtain ⟨A, ns, rfl, _⟩ := h
  rfl
 obtain ⟨A, ns, rfl, hA, l63, q⟩ := h
 refine ⟨_, ((pss_cons (ps_set (i := 1) sc_law.nd rfl (Or.inl rfl) (pe_call (FnOk.mono (ok__law_parts T) (by decide)) hr rfl T.m__law_parts T.F__law_parts.kp T.b__law_parts .nil pass0 (pa_cons (pv 0) (pa_cons (pe_lst (pa_cons pe_int (pa_cons pe_int pa_nil))) pa_nil))))
  (pss_cons (ps_set (i := 2) sc_law.nd rfl (Or.inl rfl) (pe_op op_mod (pe_call (FnOk.mono (ok__law_mixed T) (by decide)) hr rfl T.m__law_mixed T.F__law_mixed.kp T.b__law_mixed .nil pass0 (pa_cons (pe_call (FnOk.mono (ok__law_cell_at T) (by decide)) hr rfl T.m__law_cell_at T.F__law_cell_at.kp T.b__law_cell_at .nil pass0 (pa_cons (pv 0) (pa_cons pe_int pa_nil))) (pa_cons pe_int pa_nil))) pe_int))
  (pss_cons (ps_set (i := 3) sc_law.nd rfl (Or.inl rfl) (pe_make T.mk_Term (FnOk.mono (ok_Term___init__ T) (by decide)) hr rfl T.mc_Term T.b_Term___init__ .nil passF (pa_cons (pv 1) pa_nil)))
  (pss_cons (ps_set (i := 4) sc_law.nd rfl (Or.inl rfl) (pe_meth (pv 3) T.cl_Term T.me_Term_frame (FnOk.mono (ok_Term_frame T) (by decide)) hr T.b_Term_frame .nil pass0 (pa_cons (pv 2) pa_nil)))
  (pss_cons (ps_set (i := 5) sc_law.nd rfl (Or.inl rfl) (pe_lst (pa_cons (pe_tup (pa_cons pe_int (pa_cons pe_int pa_nil))) (pa_cons (pe_tup (pa_cons pe_int (pa_cons pe_int pa_nil))) (pa_cons (pe_tup (pa_cons pe_int (pa_cons pe_int pa_nil))) (pa_cons (pe_tup (pa_cons pe_int (pa_cons pe_int pa_nil))) pa_nil))))))
  (pss_cons (ps_for PassesOwn.never rfl (pi_list (pe_slice sl_list (pv 0) (po_some pe_int) (po_some pe_int))) (pg_name (i := 6) sc_law.nd rfl (Or.inl rfl)) (pss_cons (ps_set (i := 7) sc_law.nd rfl (Or.inl rfl) (pe_call (FnOk.mono (ok__law_mixed T) (by decide)) hr rfl T.m__law_mixed T.F__law_mixed.kp T.b__law_mixed .nil pass0 (pa_cons (pv 6) (pa_cons pe_int pa_nil))))
  (pss_cons (ps_set (i := 8) sc_law.nd rfl (Or.inl rfl) pe_int)
  (pss_mid (ps_if (pt_cmpR op_eq (pe_op op_mod (pv 7) pe_int) pe_int (nomark _)) (pss_one (ps_set (i := 8) sc_law.nd rfl (Or.inl rfl) pe_int)) pss_nil)
  (pss_one (ps_expr (pe_bm PySem.F.plainAttrs_list PySem.F.slot_list_append PySem.F.type_list_append mt_append (pv 5) (pa_cons (pe_tup (pa_cons (pe_op op_mod (pe_op op_fdiv (pv 7) pe_int) (pv 8)) (pa_cons (pe_op op_mod (pe_op op_fdivB (pe_op op_fdiv (pv 7) pe_int) (pv 8)) (pv 8)) pa_nil))) pa_nil))))))))
  (pss_cons (ps_for PassesOwn.never rfl (pi_list (pv 5)) (pg_tup rfl (pgs_cons (pg_name (i := 9) sc_law.nd rfl (Or.inl rfl)) (pgs_cons (pg_name (i := 10) sc_law.nd rfl (Or.inl rfl)) pgs_nil))) (pss_one (ps_if (pt_not (pt_val (pe_call (FnOk.mono (ok__law_holds T) (by decide)) hr rfl T.m__law_holds T.F__law_holds.kp T.b__law_holds .nil pass0 (pa_cons (pv 3) (pa_cons (pv 4) (pa_cons (pv 2) (pa_cons (pv 9) (pa_cons (pv 10) pa_nil)))))))) (pss_one (ps_ret pe_bl)) pss_nil)))
  (pss_one (ps_ret pe_bl)))))))))), ?_⟩
 dsimp only [a_seq]
 k_typeOf
 refine ⟨by decide, fun M nM => ⟨A, M, ns, rfl, (same_upd nM _).seq hA, upd_same, fun L rs ps H1 s1 nL eL hP hO l1 l6 hdg => ?_⟩⟩
 have s1 := (same_upd nM _).trans s1
 dsimp only [a_seq]
 k_typeOf
 refine ⟨A, ns, 0, rfl, s1.seq hA, _, 5, rfl, by decide, fun m m0 => ⟨m, rfl, by decide, ?_⟩⟩
 obtain ⟨far, hfar, f2⟩ : ∃ far : Nat, m % 3 = (far : Int) ∧ far <= 2 := ⟨(m % 3).toNat, by omega, by omega⟩
 rw [hfar]
 clear hfar
 dsimp only [a_seq]
 k_typeOf
 refine mk_term eL hP hO l1 l6 fun x H2 s2 hx => ?_
 obtain ⟨dx, P1, P2, qs, h1, h2⟩ := id hx
 dsimp only [a_seq]
 k_typeOf
 refine ⟨dx, _, h1, rfl, x, _, rs, ps, far, rfl, hx, l6, hO, f2, hdg, fun F L' U W as H3 s3 eF eL' dL dU dW => ?_⟩
 have s13 := (s1.trans s2).trans s3
 have hx3 := hx.on s3
 clear hx h1 h2 eL hP s1 s2 s3
 dsimp only [a_seq]
 k_typeOf
 refine ⟨by decide, fun p0 n0 => ⟨by decide, fun p1 n1 => ⟨by decide, fun p2 n2 => ⟨by decide, fun p3 n3 => ⟨by decide, fun P5 nP5 => ?_⟩⟩⟩⟩⟩
 have v0 := same_upd n0 (.tup [V.int 0, V.int 0])
 have v1 := same_upd n1 (.tup [V.int 0, V.int 1])
 have v2 := same_upd n2 (.tup [V.int 1, V.int 0])
 have v3 := same_upd n3 (.tup [V.int 1, V.int 1])
 have v5 := same_upd nP5 (.lst [V.ref p0, V.ref p1, V.ref p2, V.ref p3])
 have e0 := v5 _ _ (v3 _ _ (v2 _ _ (v1 _ _ (upd_same (H := H3) (a := p0) (o := .tup [V.int 0, V.int 0])))))
 have e1 := v5 _ _ (v3 _ _ (v2 _ _ (upd_same (H := L2.upd H3 p0 (.tup [V.int 0, V.int 0])) (a := p1) (o := .tup [V.int 0, V.int 1]))))
 have e2 := v5 _ _ (v3 _ _ (upd_same (H := L2.upd (L2.upd H3 p0 (.tup [V.int 0, V.int 0])) p1 (.tup [V.int 0, V.int 1])) (a := p2) (o := .tup [V.int 1, V.int 0])))
 have e3 := v5 _ _ (upd_same (H := L2.upd (L2.upd (L2.upd H3 p0 (.tup [V.int 0, V.int 0])) p1 (.tup [V.int 0, V.int 1])) p2 (.tup [V.int 1, V.int 0])) (a := p3) (o := .tup [V.int 1, V.int 1]))
 have e5 := upd_same (H := L2.upd (L2.upd (L2.upd (L2.upd H3 p0 (.tup [V.int 0, V.int 0])) p1 (.tup [V.int 0, V.int 1])) p2 (.tup [V.int 1, V.int 0])) p3 (.tup [V.int 1, V.int 1])) (a := P5) (o := .lst [V.ref p0, V.ref p1, V.ref p2, V.ref p3])
 have s3G := (((v0.trans v1).trans v2).trans v3).trans v5
 have f5 : H3 P5 = none := (((v0.trans v1).trans v2).trans v3).free nP5
 generalize L2.upd (L2.upd (L2.upd (L2.upd (L2.upd H3 p0 (.tup [V.int 0, V.int 0])) p1 (.tup [V.int 0, V.int 1])) p2 (.tup [V.int 1, V.int 0])) p3 (.tup [V.int 1, V.int 1])) P5 (.lst [V.ref p0, V.ref p1, V.ref p2, V.ref p3]) = G at e0 e1 e2 e3 e5 s3G ⊢
 clear v0 v1 v2 v3 v5 n0 n1 n2 n3 nP5
 dsimp only [a_seq]
 k_typeOf
 refine ⟨_, (s13.trans s3G).seq hA, fun S nS => ?_⟩
 obtain ⟨cs, hcs, lcs⟩ : ∃ cs : List Int, cutV (ns.map V.int) (some 19) (some 30) = cs.map V.int ∧ cs.length <= 63 := ⟨_, cutV_map _ _ _, by rw [List.length_take, List.length_drop]; omega⟩
 rw [hcs]
 have v6 := same_upd nS (.lst (cs.map V.int))
 have nSP : S ≠ P5 := fun z => by rw [z, e5] at nS; cases nS
 obtain ⟨Pv, hPv⟩ : ∃ Pv : Nat -> L2.St -> Hp -> Prop, ∀ i σ H', Pv i σ H' ↔ ∃ (us : List Addr) (r6 r7 r8 : Option V), σ = [some (V.ref A), some (V.ref L), some (V.int (far : Int)), some (V.ref x), some (V.ref F), some (V.ref P5), r6, r7, r8, none, none] ∧ H' P5 = some (.lst (us.map V.ref)) ∧ us.length = 4 + i ∧ (∀ u ∈ us, ∃ n k : Nat, n <= 30 ∧ k <= 30 ∧ H' u = some (.tup [.int (n : Int), .int (k : Int)])) ∧ Same H3 H' ∧ H' S = some (.lst (cs.map V.int)) := ⟨_, fun _ _ _ => Iff.rfl⟩
 refine ⟨⟨_, SqL.of upd_same⟩, lp_list (xs := cs.map V.int) Pv ((hPv _ _ _).mpr ⟨[p0, p1, p2, p3], none, none, none, rfl, v6 _ _ e5, rfl, fun u hu => ?_, s3G.trans v6, upd_same⟩) (fun i σ H' _ z => by obtain ⟨_, _, _, _, _, _, _, _, _, z⟩ := (hPv i σ H').mp z; exact SqL.of z) ?_ ?_⟩
 ·simp only [List.mem_cons, List.not_mem_nil, or_false] at hu
  rcases hu with rfl | rfl | rfl | rfl
  ·exact ⟨0, 0, by decide, by decide, v6 _ _ e0⟩
  ·exact ⟨0, 1, by decide, by decide, v6 _ _ e1⟩
  ·exact ⟨1, 0, by decide, by decide, v6 _ _ e2⟩
  ·exact ⟨1, 1, by decide, by decide, v6 _ _ e3⟩
 ·intro i v σ H' hv hp
  obtain ⟨us, r6, r7, r8, rfl, eP, lu, hu, w, eS⟩ := (hPv _ _ _).mp hp
  rw [List.getElem?_map] at hv
  obtain ⟨c, hc, rfl⟩ := Option.map_eq_some_iff.mp hv
  have hi := (List.getElem?_eq_some_iff.mp hc).1
  dsimp only [a_seq]
  k_typeOf
  refine ⟨c, 6, rfl, by decide, fun m m0 => ?_⟩
  dsimp only [a_seq]
  k_typeOf
  obtain ⟨M8, hM8⟩ : ∃ M8 : L2.St -> Hp -> Prop, ∀ σ Hx, M8 σ Hx ↔ ∃ y : Int, σ = [some (V.ref A), some (V.ref L), some (V.int (far : Int)), some (V.ref x), some (V.ref F), some (V.ref P5), some (V.int c), some (V.int m), some (V.int y), none, none] ∧ (y = 13 ∨ y = 31) ∧ Hx = H' := ⟨_, fun _ _ => Iff.rfl⟩
  refine mid_of M8 ?_ ?_
  ·k_units
   exact ⟨by decide, ite2 (fun _ => (hM8 _ _).mpr ⟨31, rfl, .inr rfl, rfl⟩) (fun _ => (hM8 _ _).mpr ⟨13, rfl, .inl rfl, rfl⟩)⟩
  intro σ Hx hm
  obtain ⟨y, rfl, hy, rfl⟩ := (hM8 _ _).mp hm
  have y1 : 0 < y := by omega
  have y2 : y <= 31 := by omega
  have a1 := Int.emod_nonneg (m / 8) (show y ≠ 0 by omega)
  have a2 := Int.emod_lt_of_pos (m / 8) y1
  have a3 := Int.emod_nonneg ((m / 8).fdiv y) (show y ≠ 0 by omega)
  have a4 := Int.emod_lt_of_pos ((m / 8).fdiv y) y1
  have ys : y ≠ 0 ∧ y.natAbs < 2 ^ 9000 := ⟨by omega, Nat.lt_of_lt_of_le (show y.natAbs < 2 ^ 5 by omega) (Nat.pow_le_pow_right (by decide) (by decide))⟩
  clear hM8 hm M8
  k_units
  generalize (m / 8).fdiv y % y = b at a3 a4 ⊢
  generalize (m / 8) % y = d at a1 a2 ⊢
  refine ⟨a_tyL (SqL.of eP), ⟨by decide, by decide⟩, y1, ⟨by decide, by decide⟩, ys.1, ys.2, y1, by decide, fun t nt => ?_⟩
  have u1 := same_upd nt (.tup [V.int d, V.int b])
  refine ⟨_, u1 _ _ eP, by rw [List.length_map]; exact small1000 (by omega), (hPv _ _ _).mpr ⟨us ++ [t], _, _, _, rfl, by rw [upd_same, List.map_append]; rfl, by simp [lu]; omega, fun u hu' => ?_, (w.trans u1).more f5, by rw [upd_ne nSP]; exact u1 _ _ eS⟩⟩
  rcases List.mem_append.mp hu' with h | h
  ·obtain ⟨n, k, h1, h2, h3⟩ := hu u h
   exact ⟨n, k, h1, h2, by rw [upd_ne (ne_of (u1 _ _ h3) (u1 _ _ eP) (fun z => nomatch z))]; exact u1 _ _ h3⟩
  ·rw [List.mem_singleton.mp h]
   refine ⟨d.toNat, b.toNat, by omega, by omega, ?_⟩
   rw [upd_ne (ne_of (upd_same (H := Hx) (a := t) (o := .tup [V.int d, V.int b])) (u1 _ _ eP) (fun z => nomatch z)), upd_same, Int.toNat_of_nonneg (by omega), Int.toNat_of_nonneg (by omega)]
 intro σ H' hp
 obtain ⟨us, r6, r7, r8, rfl, eP, lu, hu, w, eS⟩ := (hPv _ _ _).mp hp
 clear hp hPv Pv v6 nSP eS hcs nS e0 e1 e2 e3 e5 s3G
 have wx := s13.trans w
 dsimp only [a_seq]
 k_typeOf
 obtain ⟨Pw, hPw⟩ : ∃ Pw : Nat -> L2.St -> Hp -> Prop, ∀ i σ Hx, Pw i σ Hx ↔ ∃ r9 r10 : Option V, σ = [some (V.ref A), some (V.ref L), some (V.int (far : Int)), some (V.ref x), some (V.ref F), some (V.ref P5), r6, r7, r8, r9, r10] ∧ Same H' Hx := ⟨_, fun _ _ _ => Iff.rfl⟩
 refine ⟨⟨_, SqL.of eP⟩, lp_list (xs := us.map V.ref) Pw ((hPw _ _ _).mpr ⟨none, none, rfl, Same.refl _⟩) (fun i σ H' _ z => by obtain ⟨_, _, _, z⟩ := (hPw i σ H').mp z; exact z.seq (SqL.of eP)) ?_ ?_⟩
 ·intro i v σ Hx hv hp
  obtain ⟨r9, r10, rfl, sx⟩ := (hPw _ _ _).mp hp
  rw [List.getElem?_map] at hv
  obtain ⟨u, hu1, rfl⟩ := Option.map_eq_some_iff.mp hv
  obtain ⟨n, k, hn, hk, eu⟩ := hu u (List.mem_of_getElem? hu1)
  k_units
  have s3x := w.trans sx
  refine ⟨_, SqT.of (sx _ _ eu), rfl, _, _, rfl, _, _, rfl, rfl, x, F, L', U, W, as, _, rs, ps, far, n, k, rfl, hx3.on s3x, l6, hO, f2, hdg, hn, hk, s3x _ _ eF, s3x _ _ eL', dL.on s3x, dU.same s3x, dW.same s3x, fun H4 s4 => ⟨true, rfl, ?_⟩⟩
  rw [if_neg (by decide)]
  exact (hPw _ _ _).mpr ⟨_, _, rfl, sx.trans s4⟩
 intro σ Hx hp
 obtain ⟨r9, r10, rfl, sx⟩ := (hPw _ _ _).mp hp
 k_units
 exact q _
theorem ln_1 {us : List Value} (h : us.length = 1) : ∃ x0, us = [x0] := by
 match us, h with
 | [x0], _ => exact ⟨x0, rfl⟩
theorem ln_2 {us : List Value} (h : us.length = 2) : ∃ x0 x1, us = [x0, x1] := by
 match us, h with
 | [x0, x1], _ => exact ⟨x0, x1, rfl⟩
theorem ln_3 {us : List Value} (h : us.length = 3) : ∃ x0 x1 x2, us = [x0, x1, x2] := by
 match us, h with
 | [x0, x1, x2], _ => exact ⟨x0, x1, x2, rfl⟩
theorem ln_4 {us : List Value} (h : us.length = 4) : ∃ x0 x1 x2 x3, us = [x0, x1, x2, x3] := by
 match us, h with
 | [x0, x1, x2, x3], _ => exact ⟨x0, x1, x2, x3, rfl⟩
theorem ln_5 {us : List Value} (h : us.length = 5) : ∃ x0 x1 x2 x3 x4, us = [x0, x1, x2, x3, x4] := by
 match us, h with
 | [x0, x1, x2, x3, x4], _ => exact ⟨x0, x1, x2, x3, x4, rfl⟩
local macro_rules | `(tactic| o_law) => `(tactic| (intro _ _ _ _ _ _ us hl; first | (obtain ⟨x0, e⟩ := ln_1 hl; subst e; rfl) | (obtain ⟨x0, x1, e⟩ := ln_2 hl; subst e; rfl) | (obtain ⟨x0, x1, x2, e⟩ := ln_3 hl; subst e; rfl) | (obtain ⟨x0, x1, x2, x3, e⟩ := ln_4 hl; subst e; rfl) | (obtain ⟨x0, x1, x2, x3, x4, e⟩ := ln_5 hl; subst e; rfl)))
abbrev fdK (x q : Str) (st : Stmt) (pm : Value) (c : Nat) : FuncData := PySem.W.fnOf x q (defArgs st) (defBody st) (defScope st) .none .none .none pm none (.ref c) .none
abbrev FU (P : Params) (x q : Str) (st : Stmt) (f : Addr) (pm : Value) (c : Nat) : Prop := Fun (KK P) x q st f (fdK x q st pm c)
theorem fuk {P : Params} {x q : Str} {st : Stmt} {f : Addr} {pm : Value} {c : Nat} (l : (KK P).lookup f = some ⟨.type "function", none, .func (fdK x q st pm c), #[]⟩) (h : PySem.W.codeIn (KK P) (.ref c) q = true) (k : PySem.W.keepIn (KK P) (.ref f) = true) : FU P x q st f pm c := fun_mk l h k
abbrev pm0 : Value := .str "sumcraft.pairs" 246
abbrev pm1 : Value := .str "sumcraft.ratios" 284
abbrev pm2 : Value := .str "sumcraft.parts" 328
abbrev pm3 : Value := .str "sumcraft.terms" 692
abbrev pm4 : Value := .str "law_sumcraft_k55_whole_frames_hold" 805
theorem kf0 (P : Params) : FU P "bare" "bare" s_bare 63 pm0 62 := fuk (by kernel_rfl) (by kernel_rfl) (by kernel_rfl)
theorem kf1 (P : Params) : FU P "pair_times" "pair_times" s_pair_times 70 pm0 69 := fuk (by kernel_rfl) (by kernel_rfl) (by kernel_rfl)
theorem kf2 (P : Params) : FU P "pair_of_form" "pair_of_form" s_pair_of_form 77 pm0 76 := fuk (by kernel_rfl) (by kernel_rfl) (by kernel_rfl)
theorem kf3 (P : Params) : FU P "pair_product" "pair_product" s_pair_product 84 pm0 83 := fuk (by kernel_rfl) (by kernel_rfl) (by kernel_rfl)
theorem kf4 (P : Params) : FU P "divisor" "divisor" s_divisor 98 pm1 97 := fuk (by kernel_rfl) (by kernel_rfl) (by kernel_rfl)
theorem kf5 (P : Params) : FU P "ratio" "ratio" s_ratio 105 pm1 104 := fuk (by kernel_rfl) (by kernel_rfl) (by kernel_rfl)
theorem kf6 (P : Params) : FU P "form_value" "form_value" s_form_value 112 pm2 111 := fuk (by kernel_rfl) (by kernel_rfl) (by kernel_rfl)
theorem kf7 (P : Params) : FU P "raised" "raised" s_raised 119 pm2 118 := fuk (by kernel_rfl) (by kernel_rfl) (by kernel_rfl)
theorem kf8 (P : Params) : FU P "raised_from" "raised_from" s_raised_from 124 pm2 123 := fuk (by kernel_rfl) (by kernel_rfl) (by kernel_rfl)
theorem kf9 (P : Params) : FU P "low_forms" "low_forms" s_low_forms 131 pm2 130 := fuk (by kernel_rfl) (by kernel_rfl) (by kernel_rfl)
theorem kf10 (P : Params) : FU P "power_of" "power_of" s_power_of 138 pm2 137 := fuk (by kernel_rfl) (by kernel_rfl) (by kernel_rfl)
theorem kf11 (P : Params) : FU P "run_product" "run_product" s_run_product 145 pm2 144 := fuk (by kernel_rfl) (by kernel_rfl) (by kernel_rfl)
theorem kf12 (P : Params) : FU P "choices" "choices" s_choices 152 pm2 151 := fuk (by kernel_rfl) (by kernel_rfl) (by kernel_rfl)
theorem kf13 (P : Params) : FU P "within" "within" s_within 386 pm3 385 := fuk (by kernel_rfl) (by kernel_rfl) (by kernel_rfl)
theorem kf14 (P : Params) : FU P "check_choose" "check_choose" s_check_choose 393 pm3 392 := fuk (by kernel_rfl) (by kernel_rfl) (by kernel_rfl)
theorem kf15 (P : Params) : FU P "check_base" "check_base" s_check_base 400 pm3 399 := fuk (by kernel_rfl) (by kernel_rfl) (by kernel_rfl)
theorem kf16 (P : Params) : FU P "piece_of" "piece_of" s_piece_of 407 pm3 406 := fuk (by kernel_rfl) (by kernel_rfl) (by kernel_rfl)
theorem kf17 (P : Params) : FU P "product" "product" s_product 414 pm3 413 := fuk (by kernel_rfl) (by kernel_rfl) (by kernel_rfl)
theorem kf18 (P : Params) : FU P "_law_cell_at" "_law_cell_at" s__law_cell_at 462 pm4 461 := fuk (by kernel_rfl) (by kernel_rfl) (by kernel_rfl)
theorem kf19 (P : Params) : FU P "_law_number" "_law_number" s__law_number 469 pm4 468 := fuk (by kernel_rfl) (by kernel_rfl) (by kernel_rfl)
theorem kf20 (P : Params) : FU P "_law_whole" "_law_whole" s__law_whole 476 pm4 475 := fuk (by kernel_rfl) (by kernel_rfl) (by kernel_rfl)
theorem kf21 (P : Params) : FU P "_law_divisor" "_law_divisor" s__law_divisor 483 pm4 482 := fuk (by kernel_rfl) (by kernel_rfl) (by kernel_rfl)
theorem kf22 (P : Params) : FU P "_law_mixed" "_law_mixed" s__law_mixed 490 pm4 489 := fuk (by kernel_rfl) (by kernel_rfl) (by kernel_rfl)
theorem kf23 (P : Params) : FU P "_law_forms" "_law_forms" s__law_forms 497 pm4 496 := fuk (by kernel_rfl) (by kernel_rfl) (by kernel_rfl)
theorem kf24 (P : Params) : FU P "_law_ratio" "_law_ratio" s__law_ratio 504 pm4 503 := fuk (by kernel_rfl) (by kernel_rfl) (by kernel_rfl)
theorem kf25 (P : Params) : FU P "_law_part" "_law_part" s__law_part 509 pm4 508 := fuk (by kernel_rfl) (by kernel_rfl) (by kernel_rfl)
theorem kf26 (P : Params) : FU P "_law_parts" "_law_parts" s__law_parts 514 pm4 513 := fuk (by kernel_rfl) (by kernel_rfl) (by kernel_rfl)
theorem kf27 (P : Params) : FU P "_law_pair_at" "_law_pair_at" s__law_pair_at 521 pm4 520 := fuk (by kernel_rfl) (by kernel_rfl) (by kernel_rfl)
theorem kf28 (P : Params) : FU P "_law_is_fraction" "_law_is_fraction" s__law_is_fraction 528 pm4 527 := fuk (by kernel_rfl) (by kernel_rfl) (by kernel_rfl)
theorem kf29 (P : Params) : FU P "_law_holds" "_law_holds" s__law_holds 535 pm4 534 := fuk (by kernel_rfl) (by kernel_rfl) (by kernel_rfl)
theorem kf30 (P : Params) : FU P "law" "law" s_law 542 pm4 541 := fuk (by kernel_rfl) (by kernel_rfl) (by kernel_rfl)
theorem kf31 (P : Params) : FU P "step" "Part.step" s_Part_step 173 pm2 172 := fuk (by kernel_rfl) (by kernel_rfl) (by kernel_rfl)
theorem kf32 (P : Params) : FU P "up" "Part.up" s_Part_up 180 pm2 179 := fuk (by kernel_rfl) (by kernel_rfl) (by kernel_rfl)
theorem kf33 (P : Params) : FU P "down" "Part.down" s_Part_down 187 pm2 186 := fuk (by kernel_rfl) (by kernel_rfl) (by kernel_rfl)
theorem kf34 (P : Params) : FU P "floor" "Part.floor" s_Part_floor 194 pm2 193 := fuk (by kernel_rfl) (by kernel_rfl) (by kernel_rfl)
theorem kf35 (P : Params) : FU P "__init__" "Choose.__init__" s_Choose___init__ 215 pm2 214 := fuk (by kernel_rfl) (by kernel_rfl) (by kernel_rfl)
theorem kf36 (P : Params) : FU P "lifted" "Choose.lifted" s_Choose_lifted 220 pm2 219 := fuk (by kernel_rfl) (by kernel_rfl) (by kernel_rfl)
theorem kf37 (P : Params) : FU P "worth" "Choose.worth" s_Choose_worth 227 pm2 226 := fuk (by kernel_rfl) (by kernel_rfl) (by kernel_rfl)
theorem kf38 (P : Params) : FU P "step" "Choose.step" s_Choose_step 234 pm2 233 := fuk (by kernel_rfl) (by kernel_rfl) (by kernel_rfl)
theorem kf39 (P : Params) : FU P "up" "Choose.up" s_Choose_up 241 pm2 240 := fuk (by kernel_rfl) (by kernel_rfl) (by kernel_rfl)
theorem kf40 (P : Params) : FU P "down" "Choose.down" s_Choose_down 248 pm2 247 := fuk (by kernel_rfl) (by kernel_rfl) (by kernel_rfl)
theorem kf41 (P : Params) : FU P "floor" "Choose.floor" s_Choose_floor 253 pm2 252 := fuk (by kernel_rfl) (by kernel_rfl) (by kernel_rfl)
theorem kf42 (P : Params) : FU P "__init__" "Weight.__init__" s_Weight___init__ 272 pm2 271 := fuk (by kernel_rfl) (by kernel_rfl) (by kernel_rfl)
theorem kf43 (P : Params) : FU P "worth" "Weight.worth" s_Weight_worth 279 pm2 278 := fuk (by kernel_rfl) (by kernel_rfl) (by kernel_rfl)
theorem kf44 (P : Params) : FU P "step" "Weight.step" s_Weight_step 286 pm2 285 := fuk (by kernel_rfl) (by kernel_rfl) (by kernel_rfl)
theorem kf45 (P : Params) : FU P "__init__" "Power.__init__" s_Power___init__ 305 pm2 304 := fuk (by kernel_rfl) (by kernel_rfl) (by kernel_rfl)
theorem kf46 (P : Params) : FU P "worth" "Power.worth" s_Power_worth 312 pm2 311 := fuk (by kernel_rfl) (by kernel_rfl) (by kernel_rfl)
theorem kf47 (P : Params) : FU P "up" "Power.up" s_Power_up 319 pm2 318 := fuk (by kernel_rfl) (by kernel_rfl) (by kernel_rfl)
theorem kf48 (P : Params) : FU P "down" "Power.down" s_Power_down 326 pm2 325 := fuk (by kernel_rfl) (by kernel_rfl) (by kernel_rfl)
theorem kf49 (P : Params) : FU P "floor" "Power.floor" s_Power_floor 333 pm2 332 := fuk (by kernel_rfl) (by kernel_rfl) (by kernel_rfl)
theorem kf50 (P : Params) : FU P "__init__" "Growth.__init__" s_Growth___init__ 352 pm2 351 := fuk (by kernel_rfl) (by kernel_rfl) (by kernel_rfl)
theorem kf51 (P : Params) : FU P "worth" "Growth.worth" s_Growth_worth 359 pm2 358 := fuk (by kernel_rfl) (by kernel_rfl) (by kernel_rfl)
theorem kf52 (P : Params) : FU P "step" "Growth.step" s_Growth_step 366 pm2 365 := fuk (by kernel_rfl) (by kernel_rfl) (by kernel_rfl)
theorem kf53 (P : Params) : FU P "floor" "Growth.floor" s_Growth_floor 373 pm2 372 := fuk (by kernel_rfl) (by kernel_rfl) (by kernel_rfl)
theorem kf54 (P : Params) : FU P "__init__" "Term.__init__" s_Term___init__ 426 pm3 425 := fuk (by kernel_rfl) (by kernel_rfl) (by kernel_rfl)
theorem kf55 (P : Params) : FU P "worth" "Term.worth" s_Term_worth 438 pm3 437 := fuk (by kernel_rfl) (by kernel_rfl) (by kernel_rfl)
theorem kf56 (P : Params) : FU P "floor" "Term.floor" s_Term_floor 443 pm3 442 := fuk (by kernel_rfl) (by kernel_rfl) (by kernel_rfl)
theorem kf57 (P : Params) : FU P "frame" "Term.frame" s_Term_frame 448 pm3 447 := fuk (by kernel_rfl) (by kernel_rfl) (by kernel_rfl)
theorem kx0 (P : Params) : ∀ H : Hp, SqT (KK P) H 381 [.int (3), .int (3), .int (9)] := fun H => .inr ⟨⟨.type "tuple", none, .seq #[.int (3) 707, .int (3) 708, .int (9) 709], #[]⟩, _, _, by kernel_rfl, rfl, rfl, by decide, .cons ⟨_, rfl⟩ (.cons ⟨_, rfl⟩ (.cons ⟨_, rfl⟩ .nil))⟩
theorem kx1 (P : Params) : ∀ H : Hp, SqT (KK P) H 379 [.int (0), .int (0), .int (0)] := fun H => .inr ⟨⟨.type "tuple", none, .seq #[.int (0) 696, .int (0) 697, .int (0) 698], #[]⟩, _, _, by kernel_rfl, rfl, rfl, by decide, .cons ⟨_, rfl⟩ (.cons ⟨_, rfl⟩ (.cons ⟨_, rfl⟩ .nil))⟩
theorem kx2 (P : Params) : ∀ H : Hp, SqT (KK P) H 380 [.int (-3), .int (-3), .int (-9)] := fun H => .inr ⟨⟨.type "tuple", none, .seq #[.int (-3) 701, .int (-3) 703, .int (-9) 705], #[]⟩, _, _, by kernel_rfl, rfl, rfl, by decide, .cons ⟨_, rfl⟩ (.cons ⟨_, rfl⟩ (.cons ⟨_, rfl⟩ .nil))⟩
theorem walk {l : PySem.W.OpenLaw} {q : Program} {loose : List Str} {XP : (Str -> Option Value) -> Heap -> Prop} {YP : World -> Heap -> Prop} {d : DefRec} {K : Params -> PySem.W.Frag} (hn : l.most = some 63) (hdf : d.params.defaults = [])
  (hY : ∀ (w : World) (h : Heap), YP w h -> (K w.params).In h)
  (F : ∀ (w : World) (mg : Str -> Option Value) (fa : Addr) (h : Heap), (K w.params).In h -> h.Ns mainGlobals mg -> mg d.name = some (.ref fa) ->
   ∃ T : Tx (K w.params) mg, T.a_law = fa ∧ ∀ (s : Shared) (v : Value), BindsTo s T.fd_law ⟨[v], []⟩ [("_law_script", v)]) :
  PySem.W.WalkO q loose XP YP l.row.toRowW d [] (fun f vs => PySem.call f vs) :=
 L2.walk_of (n := 63) (k := 30) (x := "_law_script") (CX := fun _ => CX0) (sp := fun w => spLaw (K w.params)) hn (by decide) hdf ⟨rfl, by decide, by decide⟩ hY
  (fun w mg fa h KX G hmg => by
   obtain ⟨T, e, hb⟩ := F w mg fa h KX G hmg
   subst e
   exact ⟨T.fd_law, hb, fun base _ _ => FnOk.mono (ok_law T) (by decide)⟩)
  (fun _ H a ns hl _ hS => ⟨a, ns, rfl, hS, hl, fun _ => rfl⟩) fun _ _ _ _ _ z => z
theorem facts (w : World) (mg : Str -> Option Value) (fa : Addr) (h : Heap) (KX : (KK w.params).In h) (G : h.Ns mainGlobals mg) (hmg : mg "law" = some (.ref fa)) :
  ∃ T : Tx (KK w.params) mg, T.a_law = fa ∧ ∀ (s : Shared) (v : Value), BindsTo s T.fd_law ⟨[v], []⟩ [("_law_script", v)] := by
 have ma : ∀ {x : Str} {f : Addr}, PySem.W.nsIn (KK w.params) mainGlobals x = some (some (.ref f)) -> mg x = some (.ref f) := fun e => PySem.W.mg_of KX G e
 have mi : ∀ {x : Str} {i : Int} {t : Tok}, PySem.W.nsIn (KK w.params) mainGlobals x = some (some (.int i t)) -> mg x = some (.int i t) := fun e => PySem.W.mg_of KX G e
 have mz : ∀ {x : Str}, PySem.W.nsIn (KK w.params) mainGlobals x = some none -> mg x = none := fun e => PySem.W.mg_none_of KX G e
 have e := hmg.symm.trans (ma (f := 542) (by kernel_rfl))
 cases e
 exact ⟨⟨_, _, kf0 _, ma (by kernel_rfl), (kf0 _).binds (by o_law), _, _, kf1 _, ma (by kernel_rfl), (kf1 _).binds (by o_law), _, _, kf2 _, ma (by kernel_rfl), (kf2 _).binds (by o_law), _, _, kf3 _, ma (by kernel_rfl), (kf3 _).binds (by o_law), _, _, kf4 _, ma (by kernel_rfl), (kf4 _).binds (by o_law), _, _, kf5 _, ma (by kernel_rfl), (kf5 _).binds (by o_law), _, _, kf6 _, ma (by kernel_rfl), (kf6 _).binds (by o_law), _, _, kf7 _, ma (by kernel_rfl), (kf7 _).binds (by o_law), _, _, kf8 _, ma (by kernel_rfl), (kf8 _).binds (by o_law), _, _, kf9 _, ma (by kernel_rfl), (kf9 _).binds (by o_law), _, _, kf10 _, ma (by kernel_rfl), (kf10 _).binds (by o_law), _, _, kf11 _, ma (by kernel_rfl), (kf11 _).binds (by o_law), _, _, kf12 _, ma (by kernel_rfl), (kf12 _).binds (by o_law), _, _, kf13 _, ma (by kernel_rfl), (kf13 _).binds (by o_law), _, _, kf14 _, ma (by kernel_rfl), (kf14 _).binds (by o_law), _, _, kf15 _, ma (by kernel_rfl), (kf15 _).binds (by o_law), _, _, kf16 _, ma (by kernel_rfl), (kf16 _).binds (by o_law), _, _, kf17 _, ma (by kernel_rfl), (kf17 _).binds (by o_law), _, _, kf18 _, ma (by kernel_rfl), (kf18 _).binds (by o_law), _, _, kf19 _, ma (by kernel_rfl), (kf19 _).binds (by o_law), _, _, kf20 _, ma (by kernel_rfl), (kf20 _).binds (by o_law), _, _, kf21 _, ma (by kernel_rfl), (kf21 _).binds (by o_law), _, _, kf22 _, ma (by kernel_rfl), (kf22 _).binds (by o_law), _, _, kf23 _, ma (by kernel_rfl), (kf23 _).binds (by o_law), _, _, kf24 _, ma (by kernel_rfl), (kf24 _).binds (by o_law), _, _, kf25 _, ma (by kernel_rfl), (kf25 _).binds (by o_law), _, _, kf26 _, ma (by kernel_rfl), (kf26 _).binds (by o_law), _, _, kf27 _, ma (by kernel_rfl), (kf27 _).binds (by o_law), _, _, kf28 _, ma (by kernel_rfl), (kf28 _).binds (by o_law), _, _, kf29 _, ma (by kernel_rfl), (kf29 _).binds (by o_law), _, _, kf30 _, ma (by kernel_rfl), (kf30 _).binds (by o_law), _, _, kf31 _, (kf31 _).binds (by o_law), _, _, kf32 _, (kf32 _).binds (by o_law), _, _, kf33 _, (kf33 _).binds (by o_law), _, _, kf34 _, (kf34 _).binds (by o_law), _, _, kf35 _, (kf35 _).binds (by o_law), _, _, kf36 _, (kf36 _).binds (by o_law), _, _, kf37 _, (kf37 _).binds (by o_law), _, _, kf38 _, (kf38 _).binds (by o_law), _, _, kf39 _, (kf39 _).binds (by o_law), _, _, kf40 _, (kf40 _).binds (by o_law), _, _, kf41 _, (kf41 _).binds (by o_law), _, _, kf42 _, (kf42 _).binds (by o_law), _, _, kf43 _, (kf43 _).binds (by o_law), _, _, kf44 _, (kf44 _).binds (by o_law), _, _, kf45 _, (kf45 _).binds (by o_law), _, _, kf46 _, (kf46 _).binds (by o_law), _, _, kf47 _, (kf47 _).binds (by o_law), _, _, kf48 _, (kf48 _).binds (by o_law), _, _, kf49 _, (kf49 _).binds (by o_law), _, _, kf50 _, (kf50 _).binds (by o_law), _, _, kf51 _, (kf51 _).binds (by o_law), _, _, kf52 _, (kf52 _).binds (by o_law), _, _, kf53 _, (kf53 _).binds (by o_law), _, _, kf54 _, (kf54 _).binds (by o_law), _, _, kf55 _, (kf55 _).binds (by o_law), _, _, kf56 _, (kf56 _).binds (by o_law), _, _, kf57 _, (kf57 _).binds (by o_law), 44, ma (by kernel_rfl), by kernel_rfl, 56, ma (by kernel_rfl), by kernel_rfl, 256, ma (by kernel_rfl), ⟨by kernel_rfl, by kernel_rfl, by kernel_rfl, by kernel_rfl⟩, ⟨by kernel_rfl, by kernel_rfl, by kernel_rfl, by kernel_rfl⟩, ⟨by kernel_rfl, by kernel_rfl, by kernel_rfl⟩, ⟨by kernel_rfl, by kernel_rfl, by kernel_rfl⟩, ⟨by kernel_rfl, by kernel_rfl, by kernel_rfl⟩, ⟨by kernel_rfl, by kernel_rfl, by kernel_rfl⟩, ⟨by kernel_rfl, by kernel_rfl, by kernel_rfl⟩, ⟨by kernel_rfl, by kernel_rfl, by kernel_rfl⟩, by show PySem.W.findIn _ _ _ = _; kernel_rfl, by show PySem.W.findIn _ _ _ = _; kernel_rfl, 376, ma (by kernel_rfl), ⟨by kernel_rfl, by kernel_rfl, by kernel_rfl, by kernel_rfl⟩, ⟨by kernel_rfl, by kernel_rfl, by kernel_rfl, by kernel_rfl⟩, ⟨by kernel_rfl, by kernel_rfl, by kernel_rfl⟩, ⟨by kernel_rfl, by kernel_rfl, by kernel_rfl⟩, ⟨by kernel_rfl, by kernel_rfl, by kernel_rfl⟩, ⟨by kernel_rfl, by kernel_rfl, by kernel_rfl⟩, ⟨by kernel_rfl, by kernel_rfl, by kernel_rfl⟩, by show PySem.W.findIn _ _ _ = _; kernel_rfl, 197, ma (by kernel_rfl), ⟨by kernel_rfl, by kernel_rfl, by kernel_rfl, by kernel_rfl⟩, ⟨by kernel_rfl, by kernel_rfl, by kernel_rfl⟩, ⟨by kernel_rfl, by kernel_rfl, by kernel_rfl⟩, ⟨by kernel_rfl, by kernel_rfl, by kernel_rfl⟩, ⟨by kernel_rfl, by kernel_rfl, by kernel_rfl⟩, 336, ma (by kernel_rfl), ⟨by kernel_rfl, by kernel_rfl, by kernel_rfl, by kernel_rfl⟩, ⟨by kernel_rfl, by kernel_rfl, by kernel_rfl, by kernel_rfl⟩, ⟨by kernel_rfl, by kernel_rfl, by kernel_rfl⟩, ⟨by kernel_rfl, by kernel_rfl, by kernel_rfl⟩, ⟨by kernel_rfl, by kernel_rfl, by kernel_rfl⟩, ⟨by kernel_rfl, by kernel_rfl, by kernel_rfl⟩, ⟨by kernel_rfl, by kernel_rfl, by kernel_rfl⟩, by show PySem.W.findIn _ _ _ = _; kernel_rfl, 451, ma (by kernel_rfl), ⟨by kernel_rfl, by kernel_rfl, by kernel_rfl, by kernel_rfl⟩, ⟨by kernel_rfl, by kernel_rfl, by kernel_rfl, by kernel_rfl⟩, ⟨by kernel_rfl, by kernel_rfl, by kernel_rfl⟩, ⟨by kernel_rfl, by kernel_rfl, by kernel_rfl⟩, ⟨by kernel_rfl, by kernel_rfl, by kernel_rfl⟩, by show PySem.W.findIn _ _ _ = _; kernel_rfl, by show PySem.W.findIn _ _ _ = _; kernel_rfl, 289, ma (by kernel_rfl), ⟨by kernel_rfl, by kernel_rfl, by kernel_rfl, by kernel_rfl⟩, ⟨by kernel_rfl, by kernel_rfl, by kernel_rfl, by kernel_rfl⟩, ⟨by kernel_rfl, by kernel_rfl, by kernel_rfl⟩, ⟨by kernel_rfl, by kernel_rfl, by kernel_rfl⟩, ⟨by kernel_rfl, by kernel_rfl, by kernel_rfl⟩, ⟨by kernel_rfl, by kernel_rfl, by kernel_rfl⟩, ⟨by kernel_rfl, by kernel_rfl, by kernel_rfl⟩, by show PySem.W.findIn _ _ _ = _; kernel_rfl, mz (by kernel_rfl), mz (by kernel_rfl), mz (by kernel_rfl), mz (by kernel_rfl), mz (by kernel_rfl), mz (by kernel_rfl), mz (by kernel_rfl), mz (by kernel_rfl), mz (by kernel_rfl), mz (by kernel_rfl), mz (by kernel_rfl), mz (by kernel_rfl), mz (by kernel_rfl), ⟨286, mi (by kernel_rfl)⟩, ⟨330, mi (by kernel_rfl)⟩, ⟨694, mi (by kernel_rfl)⟩, ⟨381, ma (by kernel_rfl), kx0 _⟩, ⟨379, ma (by kernel_rfl), kx1 _⟩, ⟨380, ma (by kernel_rfl), kx2 _⟩⟩, rfl, fun s v => .of_eq rfl⟩
end My
open PySem PySem.W PyProof.Rows
set_option maxRecDepth 100000 in
set_option maxHeartbeats 0 in
theorem PySem.Challenge.cw_sumcraft_k55_whole_frames_hold_holds : PySem.Challenge.rw_sumcraft_k55_whole_frames_hold.Holds := by
 refine holds_law My.h_well fun said => ?_
 refine holds_open (r := PySem.Challenge.rw_sumcraft_k55_whole_frames_hold.row)
  (q := My.qv) (loose := []) (Xt := My.xt)
  (XP := XL My.qv []) (Yf := My.hk.obs) (Ya := My.hk.val)
  (YP := My.hk.says) (N := 8016)
  My.left My.hk.of My.hk.keeps
  (fun s e => xl_of s (Bool.and_eq_true_iff.mp e).1)
  XL.keeps (by rfl) (by rfl) (by rfl)
  (fun s e => recFacts_of (Bool.and_eq_true_iff.mp e).2)
  (by rfl) said (by decide +kernel)
  My.h_bare ?wit ?go
 case wit => w_witness2
 case go => exact My.walk (l := PySem.Challenge.rw_sumcraft_k55_whole_frames_hold) rfl rfl (fun w h Y => kIn_of Y) My.facts
